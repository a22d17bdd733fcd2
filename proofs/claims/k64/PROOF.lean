import PyProof.Rows.All
import KE.KSortTup
import KE.RegKIsAll
import KE.RegKTryMore
import PySem.Challenge.RW_paceplan_k64_keepers_walked
set_option Elab.async false
set_option linter.all false
set_option maxRecDepth 100000
set_option autoImplicit true
set_option relaxedAutoImplicit true
namespace HP
open PySem
abbrev S:=Stmt
noncomputable def b:=PySem.Challenge.pw_paceplan_k64_keepers_walked.main.body
local macro_rules
 | `(tactic| o_head $n:term)=>`(tactic| (refine (?f:∀ s,b[$n]?=some s->_) _ rfl;exact fun s _=>s))
noncomputable def c0:S:=by o_head 0
noncomputable def c1:S:=by o_head 1
noncomputable def c2:S:=by o_head 2
noncomputable def c3:S:=by o_head 3
noncomputable def c4:S:=by o_head 4
noncomputable def c5:S:=by o_head 5
noncomputable def c6:S:=by o_head 6
noncomputable def c7:S:=by o_head 7
noncomputable def c8:S:=by o_head 8
noncomputable def c9:S:=by o_head 9
noncomputable def c10:S:=by o_head 10
noncomputable def c11:S:=by o_head 11
noncomputable def c12:S:=by o_head 12
noncomputable def c13:S:=by o_head 13
noncomputable def c14:S:=by o_head 14
noncomputable def c15:S:=by o_head 15
noncomputable def c16:S:=by o_head 16
noncomputable def c17:S:=by o_head 17
noncomputable def c18:S:=by o_head 18
noncomputable def c19:S:=by o_head 19
noncomputable def c20:S:=by o_head 20
noncomputable def c21:S:=by o_head 21
noncomputable def c22:S:=by o_head 22
noncomputable def c23:S:=by o_head 23
noncomputable def c24:S:=by o_head 24
noncomputable def c25:S:=by o_head 25
noncomputable def c26:S:=by o_head 26
noncomputable def c27:S:=by o_head 27
noncomputable def c28:S:=by o_head 28
noncomputable def c29:S:=by o_head 29
noncomputable def c30:S:=by o_head 30
noncomputable def c31:S:=by o_head 31
noncomputable def c32:S:=by o_head 32
noncomputable def c33:S:=by o_head 33
noncomputable def c34:S:=by o_head 34
noncomputable def c35:S:=by o_head 35
noncomputable def c36:S:=by o_head 36
noncomputable def c37:S:=by o_head 37
noncomputable def c38:S:=by o_head 38
noncomputable def c39:S:=by o_head 39
noncomputable def c40:S:=by o_head 40
noncomputable def c41:S:=by o_head 41
noncomputable def c42:S:=by o_head 42
noncomputable def c43:S:=by o_head 43
noncomputable def c44:S:=by o_head 44
noncomputable def c45:S:=by o_head 45
noncomputable def c46:S:=by o_head 46
noncomputable def c47:S:=by o_head 47
noncomputable def c48:S:=by o_head 48
noncomputable def c49:S:=by o_head 49
noncomputable def c50:S:=by o_head 50
noncomputable def c51:S:=by o_head 51
noncomputable def c52:S:=by o_head 52
noncomputable def c53:S:=by o_head 53
noncomputable def c54:S:=by o_head 54
noncomputable def c55:S:=by o_head 55
noncomputable def c56:S:=by o_head 56
noncomputable def c57:S:=by o_head 57
noncomputable def c58:S:=by o_head 58
noncomputable def c59:S:=by o_head 59
noncomputable def c60:S:=by o_head 60
noncomputable def c61:S:=by o_head 61
noncomputable def c62:S:=by o_head 62
noncomputable def c63:S:=by o_head 63
noncomputable def c64:S:=by o_head 64
noncomputable def c65:S:=by o_head 65
noncomputable def c66:S:=by o_head 66
noncomputable def c67:S:=by o_head 67
noncomputable def c68:S:=by o_head 68
noncomputable def c69:S:=by o_head 69
noncomputable def t61:List S:=c61::c62::c63::c64::c65::c66::c67::c68::c69::[]
noncomputable def t52:List S:=c52::c53::c54::c55::c56::c57::c58::c59::c60::t61
noncomputable def t43:List S:=c43::c44::c45::c46::c47::c48::c49::c50::c51::t52
noncomputable def t34:List S:=c34::c35::c36::c37::c38::c39::c40::c41::c42::t43
noncomputable def t25:List S:=c25::c26::c27::c28::c29::c30::c31::c32::c33::t34
noncomputable def t16:List S:=c16::c17::c18::c19::c20::c21::c22::c23::c24::t25
noncomputable def t7:List S:=c7::c8::c9::c10::c11::c12::c13::c14::c15::t16
noncomputable def t0:List S:=c0::c1::c2::c3::c4::c5::c6::t7
noncomputable def s:Scope:=by refine (?f:∀ s,PySem.Challenge.pw_paceplan_k64_keepers_walked.main=⟨_,s,_,_,_⟩->_) _ rfl;exact fun s _=>s
noncomputable def p:Program:=by
 refine (?f:∀ l s a f m ms ps ab h g,PySem.Challenge.pw_paceplan_k64_keepers_walked=Program.mk ⟨l,s,a,f,m⟩ ms ps ab h g->_) _ _ _ _ _ _ _ _ _ _ rfl
 exact fun _ _ a f m ms ps ab h g _=>⟨⟨t0,s,a,f,m⟩,ms,ps,ab,h,g⟩
theorem e:PySem.Challenge.pw_paceplan_k64_keepers_walked=p:=by kernel_rfl
end HP
name_quick tw7668618358994440627 for HP.p by HP.e
theorem PySem.W.Fast.te7668618358994440627:PySem.Challenge.pw_paceplan_k64_keepers_walked=PySem.W.Fast.tw7668618358994440627:=PySem.W.Fast.tw7668618358994440627_eq
theorem C1 {α β γ:Type} {o:Option α} {f:α->β} {g:α->γ} {a:β} {b:γ} (h1:o.map f=some a) (h2:o.map g=some b):o.map (fun s=>(f s,g s))=some (a,b):=by
 cases o with
 | none=>cases h1
 | some x=>cases h1;cases h2;rfl
namespace HW
open PySem
def keep:List Nat:=[1,2,3,4,6,7,8,9,10,12,13,14,15,16,17,18,19,20,21,22,23,24,26,27,28,29,30,31,32,33,35,36,37,38,39,40,41,43,44,45,46,47,49,50,51,53,54,55,56,57,58,59,60,61,62,63,64,65,66,67,68,69]
def V:Program:=PySem.W.view PySem.Challenge.pw_paceplan_k64_keepers_walked keep
end HW
section HWs
open PySem PySem.W PyProof.Rows
set_option maxHeartbeats 0
abbrev HWe(w:World):=openEnds treeTable PySem.Challenge.rw_paceplan_k64_keepers_walked.row.prog w 6656
abbrev HWo:=fun s:Shared=>openSeen HW.V [] (importedModules PySem.Challenge.rw_paceplan_k64_keepers_walked.row.prog.main.body) (fun s=>xlAt HW.V [] s && recOk PySem.Challenge.rw_paceplan_k64_keepers_walked.row.records s) true s
local macro_rules
 | `(tactic| nofun)=>`(tactic| (intro w;delta HWe HWo openEnds fencedOpening topFrom;rw [PySem.W.Fast.te14364793385576792824,PySem.W.Fast.te14082659384304107361,PySem.W.Fast.te10274390034422433532,PySem.W.Fast.te1435165496053646825,PySem.W.Fast.te14289696077712309145,PySem.W.Fast.te4187177175401517315];kernel_rfl))
theorem HW1:∀ w,(HWe w).map (fun s=>(HWo s).1)=some (openGood HW.V []).1:=by nofun
theorem HW2:∀ w,(HWe w).map (fun s=>(HWo s).2.1)=some (openGood HW.V []).2.1:=by nofun
theorem HW3:∀ w,(HWe w).map (fun s=>(HWo s).2.2.1)=some (openGood HW.V []).2.2.1:=by nofun
theorem HW4:∀ w,(HWe w).map (fun s=>(HWo s).2.2.2)=some (openGood HW.V []).2.2.2:=by nofun
theorem HWa:∀ w,(HWe w).map HWo=some (openGood HW.V []):=fun w=>C1 (HW1 w) (C1 (HW2 w) (C1 (HW3 w) (HW4 w)))
local macro_rules
 | `(tactic| o_head $H:term) => `(tactic| (
   refine holds_open (q:=HW.V) (loose:=[]) (N:=6656)
    (Xt:=fun s=>xlAt HW.V [] s && recOk (RowW.records (OpenRow.toRowW (OpenLaw.row PySem.Challenge.rw_paceplan_k64_keepers_walked))) s)
    (XP:=XL HW.V []) (Yf:=Hook.obs $H) (Ya:=Hook.val $H) (YP:=Hook.says $H)
    ?hl (Hook.of $H) (Hook.keeps $H)
    (fun s e=>xl_of s (Bool.and_eq_true_iff.mp e).1) XL.keeps
    (by rfl) (by rfl) (by rfl)
    (fun s e=>recFacts_of (Bool.and_eq_true_iff.mp e).2) (by rfl) (by assumption) (by decide +kernel)
    ⟨rfl,rfl,rfl,rfl,rfl,by decide +kernel⟩ ?hw ?hc
   (case hl=>
    intro w;refine C1 (HWa w) ?_;delta openEnds fencedOpening topFrom;rw [PySem.W.Fast.te14364793385576792824,PySem.W.Fast.te14082659384304107361,PySem.W.Fast.te10274390034422433532,PySem.W.Fast.te1435165496053646825,PySem.W.Fast.te14289696077712309145]
    kernel_rfl)))
open_top HWtop for PySem.Challenge.rw_paceplan_k64_keepers_walked
end HWs
open Array renaming length_toList→Qx,mem_toList_iff→Tu,getElem?_eq_some_iff→Ui,getElem?_eq_none_iff→Uk,getD→X3
open Bool renaming false_ne_true→O1,and_eq_true→O2,eq_iff_iff→QK,false_and→Ri,false_eq_true→RD,and_false→RF,not_eq_true'→RQ,true_and→RT,or_true→TW,false_or→UG,not_true→V0,and_true→V1,noConfusion→W8,or_eq_true→Xy
open Classical renaming byContradiction→Qw,choose_spec→Vw
open False renaming elim→Qy
open ForInStep renaming yield→TD
open Int renaming gcd→O0,mul_ediv_cancel_left→Pa,mul_pos→Qf,natCast_dvd_natCast→Qm,le_of_lt→QN,eq_ofNat_of_zero_le→QU,emod_nonneg→Q4,mul_right_comm→Rc,emod_lt_of_pos→Re,natAbs_mul→Ro,gcd_comm→Rw,toNat_natCast→RM,gcd_dvd_right→RN,mul_comm→RO,mul_le_mul_of_nonneg_left→R6,ediv_nonneg→Sk,le_of_dvd→Sr,ediv_pos_of_pos_of_dvd→Sw,eq_of_mul_eq_mul_right→Sx,gcd_ediv_gcd_ediv_gcd→SI,dvd_trans→SQ,natAbs_natCast→SW,mul_left_comm→Tb,natAbs_dvd_natAbs→Tj,mul_le_mul_of_nonneg_right→Ts,natCast_mul→TF,gcd_add_mul_right_right→TV,zero_add→TX,mul_lt_mul_of_pos_right→TY,fdiv_eq_ediv_of_nonneg→Ua,lt_of_mul_lt_mul_right→Um,le_refl→UA,ediv_le_self→UY,ediv_one→Va,dvd_refl→Vh,natAbs_of_nonneg→VC,add_mul→VD,mul_nonneg→VE,mul_assoc→V2,gcd_eq_one_iff→Wh,gcd_mul_right→WJ,lt_trans→WP,gcd_dvd_left→W7,mul_one→Xg,neg_mul→Xi,natAbs_neg→XZ
open LawfulBEq renaming eq_of_beq→T8
open List renaming getElem?_eq_getElem→OA,range→OB,length_map→OD,getD_eq_getElem?_getD→OF,mem_singleton→OH,mem_cons_self→OJ,mem_cons_of_mem→OL,mem_of_getElem?→OM,mem_range→ON,mem_cons→OO,mem_map→OP,getElem?_map→OQ,mem_filter→OU,getElem?_eq_some_iff→OV,mem_append_right→OX,getElem_mem→O6,replicate→Pg,size_toArray→Ph,length_range→Pi,length_append→Pk,map_cons→Pm,mem_append→Pn,take_add_one→Ps,length_filter_le→Pt,length_cons→Pu,take_length→Pw,not_mem_nil→Py,Nodup→PQ,foldl_cons→PR,mem_iff_getElem→PY,nodup_cons→PZ,map_append→P0,mem_append_left→P2,range_succ→P4,pairwise_iff_getElem→P5,length_take→P7,nodup_append→Qd,getElem?_set_ne→Qe,append_nil→Qr,map_map→Qt,getElem?_append_left→Qv,foldl_append→QD,length_set→QM,all_eq_true→QV,getElem?_append_right→QZ,filter_eq_self→Q1,getElem?_range→Q2,mem_or_eq_of_mem_set→Q5,length_singleton→Q6,getElem?_eq_none→Q7,contains_iff_mem→Q8,any_cons→Rg,Pairwise→Rh,pairwise_map→Rr,countP_eq_zero→Ru,filter_append→RC,pairwise_cons→RE,mem_of_mem_take→RP,length_drop→RZ,filter_cons_of_pos→R0,filter_cons_of_neg→R1,nodup_range→R3,getElem_map→R4,getElem?_set_self→Sb,contains_cons→Sg,pairwise_lt_range→Si,find?_cons→Sl,pairwise_append→Sy,getElem_inj→SD,lookup_cons→SF,sum_cons→SS,append_of_mem→SY,lookup→SZ,getElem?_replicate→S0,any_eq_false→S6,nodup_nil→Td,length_replicate→Tg,mem_of_mem_drop→Tx,contains_eq_mem→Tz,filter_nil→TJ,dropLast_concat_getLast→TK,filterMap_cons→TL,find?_eq_none→Uo,getElem_take→UB,getElem?_take_of_lt→UF,find?_range_eq_some→UH,getElem?_cons_zero→UQ,getElem?_cons_succ→UR,eraseIdx_cons_succ→UV,ext_getElem→UW,countP_cons→UZ,pairwise_singleton→U0,map_nil→Vf,take_of_length_le→Vk,range_succ_eq_map→Vl,of_mem_zip→Vr,getElem?_of_mem→VG,replicate_succ→VU,map_congr_left→VW,mem_filterMap→Wa,filter_filter→Wl,getElem?_drop→Wm,any_map→WO,getElem_drop→WQ,filter_congr→WR,Sublist→WS,ext_getElem?→WU,filter_cons→Xb,append_inj'→Xe,map_id→Xm,nil_append→Xv,length_nil→Xw,take_zero→X0,foldl→X1,all_cons→X6,map→Yr
open List.Pairwise renaming filter→Qg
open List.Sublist renaming refl→WT
open Nat renaming le_refl→OC,zero_le→OZ,lt_of_lt_of_le→O5,le_trans→O7,ne_of_lt→PF,lt_irrefl→PL,lt_of_le_of_lt→PN,dvd_refl→Qi,le_succ→Q3,pow_le_pow_right→Rn,mul_le_mul_right→Rp,ne_of_gt→RL,mul_le_mul_left→RW,le_of_lt→R8,le_of_eq→Sd,not_lt_zero→Sn,mul_dvd_mul_left→Sz,lt_succ_of_lt→Ta,succ_le_succ→Tq,zero_add→TZ,dvd_mul_right→UC,lt_succ_self→UO,le_mul_of_pos_right→UX,mul_succ→Vj,add_zero→Vm,sub_self→Vo,pow_add→VA,log2_lt→VB,mul_pos→VH,mul_assoc→V3,le_of_dvd→V4,lt_trans→WI,succ_ne_self→Xa,add_mul→Xj,pow_pos→Xo,min_eq_left→Xz,pow_dvd_pow→XA,add_assoc→Yc
open Ne renaming symm→R9
open Option renaming map_eq_some_iff→PX,isSome_iff_exists→QH,isSome_some→SX
open Option.some renaming inj→P6
open Or renaming inr→Pp,inl→Pq
open Prod renaming ext→Wy
open Pure renaming pure→QP
open PyProof renaming noPylong_small→U5
open PyProof.Rows renaming slot_tuple_getitem→P9,callWith_type1→Qj,boot_tuple→Qq,seqObj→Te,AllBare→Tt,assignInOrder_cons→T9,boot_repr→U1,envOfC→U8,subscriptTail_builtinR→Vd,boot_isinstance→Vt,IntsAre→VM,entry_tuple_getitem→VR,subscriptTail→VY,listUpdate_at→V6,args_tuple_getitem→We,assignInOrder_nil→Wo,seqEpoch_at→Xp,IsTup→XF,boot_range→XO,Subscript_→XT
open PyProof.Rows.IsTup renaming new→WX
open PySem renaming wpAny_bind→OE,Shared→OI,FuncData→OK,Heap→OR,starEach→OS,wpAny→OY,model→O3,Str→Pf,mainGlobals→Pj,Program→Po,Around→PB,Expr→PD,Builtin→PH,World→PM,PassesOwn→PP,wpAny_newObj_type→P8,Obj→Ql,wpAny_mono→Qp,compareOp→Qs,foldedSetIterable→QB,wpAny_callSpecial?_slot→QR,assignEach→QY,wpAny_call_entry→Ra,bootBuiltins→Rf,sizeLine_eq→Rj,swapsWith→Rq,backTo→Rt,boot_len→Rv,attributeBase→Rz,wpAny_field→RA,excClassObj→RB,wpAny_passesOwn→RJ,wpAny_truthy_bool→RK,mem_of_lookup→RU,keywordEach→R5,sysModules→R7,wpAny_pyIter_tuple→Sc,wpAny_Call_Name_kw→Se,binaryOp→Sj,Pos→So,wpAny_standAt→Sq,codeAny→SE,Scope→SG,behindInMarks→SK,NameKind→SN,wpAny_comprehension_free→SO,sizeLine→S1,getItem→S2,compEnvC→S9,wpAny_pyIter_enum→Tc,plainObj_wpAny_Assign_Attribute→Tf,assign→Tn,closureFor→Tp,backToKw→Tw,wpAny_execs_nil→TB,letOwnedTupleGo→TC,Within→TN,codeAny_mono→TR,Keyword→TU,cellsFrom→T7,newFunctionEnv→Ug,wpAny_setField→Uh,wpAny_letOwnedTupleGo_enum→Uj,tupleKind_room_in1→Ul,wpAny_assign_Name→Ut,wpAny_pyIter_list→Uv,subscripted→Uw,swapsWithSole→UD,swappedStores→UE,wpAny_eqBool_int→UI,tupleKind→UJ,getMethod→UK,wpAny_lookBehind→UM,pastItsLine_dict→UN,wpAny_pyNext_enum_itemD→UP,standAt→U2,wpAny_pyNext_range_end→U3,wpAny_pyIter_rangeiter→U4,BindsTo→U7,IsPart→Vb,wpAny_typeOf→Vc,typeIs_int→Ve,codeAny_compStart_list→Vg,exec_Assign_Name_used→Vv,wpAny_loadName_local→Vx,IsRangeIter→Vy,wpAny_loadPart→Vz,IsRange→VJ,DictEntry→VL,callerA→VN,valueAt→VO,wpAny_loadName_cell→VP,assignInOrder→VX,nums_intItems→V5,wpAny_pyIter_range→V9,wpAny_call→Wc,call_meets→Wg,wpAny_nsSet1→Wq,Code→Wu,bindArgs→Ww,callWith→Wx,wpAny_sequenceKey→Wz,seqIndex_neg→WG,relabel→WH,OwnTail→WK,wpAny_Call_method→WM,wpAny_execs_cons→WV,Result→WZ,noteFrame→W6,wpAny_isInstance→W9,pushCells→Xd,seqIndex_of→Xh,atKey→Xk,Env→XD,newList→XE,builtinsNs→XG,wpAny_Name→XH,Operator→XI,bindName→XJ,wpAny_rule→XM,Data→XN,bindL→XQ,bindC→XR,typeLookup→XS,call→XU,IsPair→XY,numAt_eq→X2,storeName→Yd,inplaceOp→Ye,small_one→Yg,seqIndex?→Yh,setFlight→Yi,setItem→Yj,pyNext→Yk,pyIter→Yl,operate→Ym,setAttr→Yn,ItemsOf→Yo,CmpOp→Yp,field→Yq,Tok→Ys
open PySem.Around renaming under→U6,under_plainId→VF
open PySem.AutoSeq1 renaming wpAny_loadPart'→RS
open PySem.Builtin.Int renaming intBits→VS
open PySem.Builtin.Range renaming rangeSize→Qc,small→RY
open PySem.Builtin.Slice renaming slicePlaces→RH,sliceAdjust→SH,sliceApplied→Ue
open PySem.Builtin.SmallTypes renaming nextOf→RI
open PySem.Builtin.Tuple renaming tupleExact→QJ,tupleItemsOf→Uf
open PySem.Code renaming quiet_builtin→Wi,isFrame→Wv
open PySem.Data renaming fields→Uu,cell→VI
open PySem.F renaming plainAttrs_list→O9,slot_list_append→Pb,type_list_append→Pd,slot_dict_itemiterator_iter→SR,slot_dict_get→Tk,args_dict_get_3→US,plainAttrs_dict→UT,slot_dict_items→UU,entry_dict_get→Vi
open PySem.Flow renaming next→WW
open PySem.Heap renaming get?_push_of_some→OG,lt_size→OW,get?_push_size→O4,get?_update_other→PV,get?_none_of_le→Qo,size_push→Rm,get?_update_self→RG,SameBut→Sa,MadeExcOf→XW
open PySem.Heap.Ns1 renaming of_empty→Wr
open PySem.Heap.SameBut renaming update→VT
open PySem.MeetsSeq renaming EqGives→Xc
open PySem.NameKind renaming cell→VZ,free→X8
open PySem.Obj renaming mapSeq→Sf,data_mapFields→SV,isFreed_of_fields→Ti,cls_mapFields→WL,mapFields→Yb
open PySem.PassesOwn renaming never→Pe
open PySem.PyData renaming eqv→Qz,shownAll→Sm,tuple→Vp,showableAll→Wj,hasDictAll→WN,depthAll→Xx,int→XV
open PySem.SeqAt renaming EqAt→Qh
open PySem.SeqAt.EqAt renaming int_str→V7,str_int→V8
open PySem.Str renaming ofString→OT
open PySem.Value renaming ref→O8,none→Qn,int→Q0,type→Su,bool→Tl,str→T6,float→Xf,isStrOf→X4
open PySem.W renaming Frag→Oz,findIn→Pz,kia_one→Qa,emptyDict→QC,keepIn→QF,fnOf→QL,instObj→Rs,hasDictIn→Ss,kitOne→Sv,looks_clsIn→SJ,Looks→SL,typeIn→S7,codeIn→S8,plainGet→To,looks_findIn→Tv,plainGet_of→TM,isFn→TQ,lookIn→Ub,InstAt→Uc,callWith_K→Ud,methodObj→Us,set_plain→Ux,specialIn→Uy,kitx_list→Uz,any_some→UL,cellsFrom_some→U9,takerIn→Vq,methodCall_KW→Vu,callWith_K0→VQ,kitx_tuple→Wb,plainOver→Wp,kitx_dict→Ws,handedIn→WY,makesIn→Xq,bind_fn→Xr,takesIn→Xs,OpenLaw→Xu,kitAny→XX,mroIn→X5,WalkO→X7,clsIn→X9
open PySem.W.Looks renaming here→SU
open Rat renaming intCast_mul→PJ,intCast_natCast→PU,intCast_lt_intCast→P1,le_refl→P3,le_of_lt→Qu,mul_le_mul_of_nonneg_right→Rb,mul_lt_mul_of_pos_right→Ry,intCast_add→TH,le_trans→T0,not_le→Ur,intCast_le_intCast→Vn,intCast_inj→Vs,mul_pos→Xl,div_def→Xn,le_antisymm→XB
open Sum renaming inl→QX,inr→SC
open True renaming intro→Q9
local macro_rules
 | `(Z)=>`(rfl)
theorem BP:1≤S1:=by decide
theorem jB:2≤S1:=by decide
theorem Ik:3≤S1:=by decide
theorem Ks:4≤S1:=by decide
theorem M3:6≤S1:=by decide
namespace L2
open PySem PySem.Spec PyProof.Rows
abbrev cA:=Sum Int Pf
def mB:cA->Value->Bool
 | .inl k,v=>Value.isInt k v
 | .inr x,v=>X4 x v
def Lv(w:PM):cA->Int
 | .inl k=>hashInt k
 | .inr x=>hashStr w x
theorem ca:∀{k:cA} {v:Value},mB k v=true->(∃i t,k=QX i/\v=Q0 i t)∨(∃x t,k=SC x/\v=T6 x t)
 | .inl i,v,h=>by
  obtain⟨t,e⟩:=Value.isInt_shape (k:=i) (v:=v) h;exact .inl ⟨i,t,Z,e⟩
 | .inr x,v,h=>by
  obtain⟨t,e⟩:=Value.isStrOf_shape (x:=x) (v:=v) h;exact .inr ⟨x,t,Z,e⟩
theorem wI(i:Int)(t:Ys):mB (.inl i) (.int i t)=true:=by simp[mB,Value.isInt]
theorem wH(x:Pf)(t:Ys):mB (.inr x) (.str x t)=true:=by simp[mB,X4]
theorem Hj(a b:Int):decide ((QX a:cA)=QX b)=(a==b):=by
 by_cases e:a=b
 ·subst e;simp
 ·have h:¬(QX a:cA)=QX b:=λq=>e (QX.inj q)
  rw[decide_eq_false h];exact(beq_eq_false_iff_ne.mpr e).symm
theorem Hg(a b:Pf):decide ((SC a:cA)=SC b)=decide (a=b):=by
 by_cases e:a=b
 ·subst e;simp
 ·have h:¬(SC a:cA)=SC b:=λq=>e (SC.inj q)
  rw[decide_eq_false h,decide_eq_false e]
theorem Hi(a:Int)(b:Pf):decide ((QX a:cA)=SC b)=false:=decide_eq_false (λq=>nomatch q)
theorem Hh(a:Pf)(b:Int):decide ((SC a:cA)=QX b)=false:=decide_eq_false (λq=>nomatch q)
def bT(prog:Po)(w:PM):PySem.KeyKind prog w cA where
 is:=mB
 hash:=Lv w
 inj:=λv a b ha hb=>by
  rcases ca ha with⟨i,t,rfl,rfl⟩ | ⟨x,t,rfl,rfl⟩
  ·rcases ca hb with⟨j,u,rfl,e⟩ | ⟨y,u,rfl,e⟩
   ·injection e with e1 _;rw[e1]
   ·exact nomatch e
  ·rcases ca hb with⟨j,u,rfl,e⟩ | ⟨y,u,rfl,e⟩
   ·exact nomatch e
   ·injection e with e1 _;rw[e1]
 byValue:=λk v h=>by
  rcases ca h with⟨i,t,rfl,rfl⟩ | ⟨x,t,rfl,rfl⟩<;>rfl
 pyHash:=λhv h=>by
  rcases ca hv with⟨i,t,rfl,rfl⟩ | ⟨x,t,rfl,rfl⟩
  ·exact wpAny_pyHash_int h
  ·exact wpAny_pyHash_str h
 eqBool:=λhu hv h=>by
  rcases ca hu with⟨i,t,rfl,rfl⟩ | ⟨x,t,rfl,rfl⟩
  ·rcases ca hv with⟨j,u,rfl,rfl⟩ | ⟨y,u,rfl,rfl⟩
   ·rw[Hj] at h;exact UI h
   ·rw[Hi] at h;exact V7 i t y u _ _ _ _ h
  ·rcases ca hv with⟨j,u,rfl,rfl⟩ | ⟨y,u,rfl,rfl⟩
   ·rw[Hh] at h;exact V8 x t j u _ _ _ _ h
   ·rw[Hg] at h;exact wpAny_eqBool_str h
 «strs»:=λk x t v h=>by
  rcases ca h with⟨i,u,rfl,e⟩ | ⟨y,u,rfl,e⟩
  ·exact nomatch e
  ·injection e with e1 _;subst e1
   cases v<;>rfl
theorem qX(prog:Po)(w:PM)(i:Int)(t:Ys):(bT prog w).is (.inl i) (.int i t)=true:=wI i t
theorem qW(prog:Po)(w:PM)(x:Pf)(t:Ys):(bT prog w).is (.inr x) (.str x t)=true:=wH x t
end L2
namespace L2
open PySem PySem.Spec PyProof.Rows
inductive V where
 |non|bl (b:Bool)|int (i:Int)|str (x:Pf)|byt (b:Array UInt8)|flt (b:UInt64)|ref (a:Addr)|ty (n:String)
 deriving DecidableEq
def RelV:V->Value->Prop
 | .non,u=>u=Qn
 | .bl b,u=>u=Tl b
 | .int i,u=>∃t,u=Q0 i t
 | .str x,u=>∃t,u=T6 x t
 | .byt b,u=>∃t,u=Value.bytes b t
 | .flt b,u=>∃t,u=Xf b t
 | .ref a,u=>u=O8 a
 | .ty n,u=>u=Su n
abbrev be:List V->List Value->Prop:=Paired RelV
theorem be.length(r:be xs us):xs.length=us.length:=Paired.length r
theorem be.get:∀{xs:List V} {us:List Value} {i:Nat} {x:V},be xs us->xs[i]?=some x->∃u,us[i]?=some u/\RelV x u
 |_,_,_,_,.nil,e=>by simp at e
 |_,_,0,_,.cons r _,e=>by simp at e;subst e;exact⟨_,Z,r⟩
 |_,_,i+1,x,.cons _ t,e=>by
  obtain⟨u,h1,h2⟩:=be.get (i:=i) (x:=x) t (by simpa using e);exact⟨u,by simpa using h1,h2⟩
theorem be.set{x:V}{u:Value}(r:RelV x u):∀{xs:List V} {us:List Value} (i:Nat),be xs us->be (xs.set i x) (us.set i u)
 |_,_,_,.nil=>.nil
 |_,_,0,.cons _ t=>.cons r t
 |_,_,i+1,.cons q t=>.cons q (be.set r i t)
theorem be.append:∀{xs ys:List V} {us ws:List Value},be xs us->be ys ws->be (xs++ys) (us++ws)
 |_,_,_,_,.nil,s=>s
 |_,_,_,_,.cons r t,s=>.cons r (be.append t s)
theorem be.take:∀{xs:List V} {us:List Value} (n:Nat),be xs us->be (xs.take n) (us.take n)
 |_,_,0,_=>.nil
 |_,_,_+1,.nil=>.nil
 |_,_,n+1,.cons r t=>.cons r (be.take n t)
theorem be.drop:∀{xs:List V} {us:List Value} (n:Nat),be xs us->be (xs.drop n) (us.drop n)
 |_,_,0,r=>r
 |_,_,_+1,.nil=>.nil
 |_,_,n+1,.cons _ t=>be.drop n t
def fo:Option V->Option Value->Prop
 |some v,some u=>RelV v u
 |none,none=>True
 |_,_=>False
def KV{κ:Type}:List (κ×V)->List (κ×Value)->Prop:=Paired λ(p:κ×V) (q:κ×Value)=>p.1=q.1/\RelV p.2 q.2
def kV:cA->V
 | .inl i=>.int i
 | .inr x=>.str x
inductive HO where
 |lst (xs:List V)
 |tup (xs:List V)
 |dK (kvs:List (cA×V))|dT (kvs:List (List cA×V))
 |set (S:Int->Bool) (n:Nat)
 |ins (C dx:Addr) (fs:List (Pf×V))
 |own (x:Addr)
 |xd (fs:List (Pf×V))
 |met (f x:Addr)
 |rng (lo hi:Int)
 |frz (o:Ql) (u:HO)
 |tbl (ps:Array Value)
 |ext (φ:OR->Prop)
abbrev Hp:=Addr->Option HO
def upd(H:Hp)(a:Addr)(o:HO):Hp:=λb=>if b=a then some o else H b
theorem ag:upd H a o a=some o:=by unfold upd;rw[if_pos Z]
theorem au(h:b≠a):upd H a o b=H b:=by unfold upd;rw[if_neg h]
theorem JL{H:Hp}{a b:Addr}{o u:HO}(h:H a=some o)(h':H b=some u)(d:o≠u):a≠b:=by
 intro e;subst e;rw[h] at h';exact d (P6 h')
theorem aC{H:Hp}{a b:Addr}{o:HO}(h:H a=some o)(h':H b=none):a≠b:=by
 intro e;subst e;rw[h] at h';cases h'
section
variable (P:Po) (w:PM)
def ObjOk(H:Hp)(h:OR)(a:Addr):HO->Prop
 | .lst xs=>xs.length≤sizeLine/\∃(its:List Value) (n:Nat),be xs its/\h.get? a=some { cls:=.type "list",data:=.seq its.toArray n}
 | .tup xs=>xs.length≤sizeLine/\∃its:List Value,be xs its/\XF h a its.toArray
 | .dK kvs=>kvs.length≤sizeLine/\(a==R7)=false/\∃vs,KV kvs vs/\h.DictOf (bT P w) a vs
 | .dT kvs=>kvs.length≤sizeLine/\(a==R7)=false/\∃xs:List (List cA×Addr×Value),
   Paired (λ(p:List cA×V) (q:List cA×Addr×Value)=>p.1=q.1/\H q.2.1=some (.tup (p.1.map kV))/\RelV p.2 q.2.2) kvs xs∧
   ∃o es ep,h.get? a=some o/\o.ExactDict/\o.data=.dict es ep/\es.toList=xs.map (entryOfKey (UJ (bT P w)))/\(xs.map (·.1)).Nodup
 | .set S n=>h.SetOf (intKind P w) a S n
 | .ins C dx fs=>H dx=some (.own a)/\fs.length≤1000/\dx≠a/\h.get? a=some (Rs C dx)∧
   ∃mA,h.Ns1 dx mA/\(∀f,fo (fs.lookup f) (mA f))/\TN mA (fs.map (·.1))
 | .own _=>∃o,h.get? a=some o
 | .xd fs=>∃mA,h.Ns1 a mA/\∀f,fo (fs.lookup f) (mA f)
 | .rng lo hi=>∃t u v,h.get? a=some { cls:=.type "range",data:=.fields #[.int lo t,.int hi u,.int 1 v]}
 | .frz o u=>h.get? a=some o/\ObjOk H h a u
 | .tbl ps=>h.get? a=some { cls:=.none,data:=.fields ps}
 | .met f x=>h.get? a=some (Us (.ref f) (.ref x))
 | .ext φ=>φ h/\(∃o,h.get? a=some o)/\∀h1 h2:OR,φ h1->(∀o,h1.get? a=some o->h2.get? a=some o)->φ h2
def iz(H:Hp)(h:OR):Prop:=∀a o,H a=some o->ObjOk P w H h a o
end
section
variable {P:Po}{w:PM}{H H':Hp}{h h':OR}{a:Addr}{o:HO}
theorem ObjOk.lt(x:ObjOk P w H h a o):a<h.objs.size:=by
 cases o with
 |lst xs=>obtain⟨_,_,_,_,e⟩:=x;exact OW e
 |tup xs=>obtain⟨_,_,_,p⟩:=x;exact p.lt
 |dK kvs=>obtain⟨_,_,_,_,o,_,_,e,_⟩:=x;exact OW e
 |dT kvs=>obtain⟨_,_,_,_,o,_,_,e,_⟩:=x;exact OW e
 |set S n=>obtain⟨o,_,_,_,e,_⟩:=x;exact OW e
 |ins C dx fs=>obtain⟨_,_,_,e,_⟩:=x;exact OW e
 |own y=>obtain⟨_,e⟩:=x;exact OW e
 |xd fs=>obtain⟨_,⟨_,_,_,e,_⟩,_⟩:=x;exact OW e
 |rng lo hi=>obtain⟨_,_,_,e⟩:=x;exact OW e
 |frz ob u=>obtain⟨e,_⟩:=x;exact OW e
 |tbl ps=>exact OW (show h.get? a=some _ from x)
 |met f y=>exact OW (show h.get? a=some _ from x)
 |ext φ=>obtain⟨_,⟨_,e⟩,_⟩:=x;exact OW e
theorem Paired.mapP{α β:Type}{F G:α->β->Prop}:∀{l₁:List α} {l₂:List β},Paired F l₁ l₂->(∀a b,F a b->G a b)->Paired G l₁ l₂
 |_,_,.nil,_=>.nil
 |_,_,.cons r t,f=>.cons (f _ _ r) (Paired.mapP t f)
theorem ObjOk.stay(x:ObjOk P w H h a o)(k:∀b u,(b=a∨H b=some (.own a))->h.get? b=some u->h'.get? b=some u)
  (ho:∀b,H b=some (.own a)->H' b=some (.own a)) (ht:∀b xs,H b=some (.tup xs)->H' b=some (.tup xs)):ObjOk P w H' h' a o:=by
 induction o with
 |lst xs=>obtain⟨z,its,n,r,e⟩:=x;exact⟨z,its,n,r,k _ _ (.inl Z) e⟩
 |tup xs=>obtain⟨z,its,r,ob,e,c⟩:=x;exact⟨z,its,r,ob,k _ _ (.inl Z) e,c⟩
 |dK kvs=>obtain⟨z,y,vs,r,ob,es,ep,e,c⟩:=x;exact⟨z,y,vs,r,ob,es,ep,k _ _ (.inl Z) e,c⟩
 |dT kvs=>
  obtain⟨z,y,xs,r,ob,es,ep,e,c⟩:=x;exact⟨z,y,xs,Paired.mapP r λp q z=>⟨z.1,ht _ _ z.2.1,z.2.2⟩,ob,es,ep,k _ _ (.inl Z) e,c⟩
 |set S n=>obtain⟨ob,es,ep,t,e,c⟩:=x;exact⟨ob,es,ep,t,k _ _ (.inl Z) e,c⟩
 |ins C dx fs=>
  obtain⟨d,z,ne,e,mA,⟨od,es,ep,e2,c⟩,r⟩:=x;exact⟨ho _ d,z,ne,k _ _ (.inl Z) e,mA,⟨od,es,ep,k _ _ (.inr d) e2,c⟩,r⟩
 |own y=>obtain⟨ob,e⟩:=x;exact⟨ob,k _ _ (.inl Z) e⟩
 |xd fs=>obtain⟨mA,⟨od,es,ep,e,c⟩,r⟩:=x;exact⟨mA,⟨od,es,ep,k _ _ (.inl Z) e,c⟩,r⟩
 |rng lo hi=>obtain⟨t,u,v,e⟩:=x;exact⟨t,u,v,k _ _ (.inl Z) e⟩
 |frz ob u ih=>obtain⟨e,q⟩:=x;exact⟨k _ _ (.inl Z) e,ih q⟩
 |tbl ps=>
  have e:h.get? a=some { cls:=.none,data:=.fields ps}:=x;show h'.get? a=some { cls:=.none,data:=.fields ps};exact k a _ (.inl Z) e
 |met f y=>
  have e:h.get? a=some (Us (.ref f) (.ref y)):=x;show h'.get? a=some (Us (.ref f) (.ref y));exact k a _ (.inl Z) e
 |ext φ=>obtain⟨p,⟨o,e⟩,st⟩:=x;exact⟨st _ _ p λo q=>k _ _ (.inl Z) q,⟨o,k _ _ (.inl Z) e⟩,st⟩
theorem iz.lt(x:iz P w H h)(e:H a=some o):a<h.objs.size:=(x a o e).lt
theorem iz.fresh(x:iz P w H h)(e:h.objs.size≤a):H a=none:=by
 cases q:H a with
 |none=>rfl
 |some u=>exact absurd (O5 (x.lt q) e) (PL _)
theorem iz.kept(x:iz P w H h)(k:∀b u,h.get? b=some u->h'.get? b=some u):iz P w H h':=λa o e=>
 (x a o e).stay (λb u _ q=>k b u q) (λ_ q=>q) λ_ _ q=>q
theorem iz.laid(x:iz P w H h)(k:∀b u,h.get? b=some u->h'.get? b=some u)(hp:h.objs.size≤a)(new:ObjOk P w (upd H a o) h' a o):iz P w (upd H a o) h':=λb u e=>by
 have hn:=x.fresh hp;by_cases hb:b=a
 ·subst hb;rw[ag] at e;cases e;exact new
 ·rw[au hb] at e;exact(x b u e).stay (λc v _ q=>k c v q) (λc q=>by rw[au (aC q hn)];exact q) λc xs q=>by rw[au (aC q hn)];exact q
end
def Rd(H:Hp)(a:Addr)(u:HO):Prop:=H a=some u∨∃o,H a=some (.frz o u)
theorem Rd.ok(r:Rd H a u)(x:iz P w H h):ObjOk P w H h a u:=by
 rcases r with r | ⟨o,r⟩
 ·exact x a u r
 ·obtain⟨_,q⟩:=x a _ r;exact q
def Ki:Option HO->Prop
 |some (.lst _)=>True
 |some (.dK _)=>True
 |some (.dT _)=>True
 |some (.set _ _)=>True
 |some (.ins _ _ _)=>True
 |some (.ext _)=>True
 |_=>False
section
variable {P:Po}{w:PM}{H:Hp}{h h':OR}{x e:Addr}{o':HO}
theorem iz.write(ok:iz P w H h)(mu:Ki (H x))(he:e=x∨H e=some (.own x))(k:∀b u,b≠e->h.get? b=some u->h'.get? b=some u)(heo:∃u,h'.get? e=some u)
  (new:ObjOk P w (upd H x o') h' x o'):iz P w (upd H x o') h':=λb u q=>by
 have nown:∀c y,H c=some (.own y)->c≠x:=λc y r z=>by subst z;rw[r] at mu;exact mu
 have ntup:∀c xs,H c=some (.tup xs)->c≠x:=λc xs r z=>by subst z;rw[r] at mu;exact mu
 by_cases hb:b=x
 ·subst hb;rw[ag] at q;cases q;exact new
 ·rw[au hb] at q;by_cases hbe:b=e
  ·have q':H b=some (.own x):=by
    rcases he with z|z
    ·exact absurd (hbe.trans z) hb
    ·rw[hbe];exact z
   rw[q] at q';cases q';obtain⟨v,hv⟩:=heo;exact⟨v,by rw[hbe];exact hv⟩
  ·refine(ok b u q).stay (λc v hc r=>k c v ?_ r) (λc r=>by rw[au (nown c b r)];exact r) λc xs r=>by rw[au (ntup c xs r)];exact r
   rcases hc with rfl|hc
   ·exact hbe
   ·rintro rfl;rcases he with z|z
    ·exact nown c b hc z
    ·rw[hc] at z;cases z;exact hb Z
end
structure Un(fs ex:List Addr)(H H':Hp)(h h':OR):Prop where
 keep:∀b o,h.get? b=some o->H b=none->b∉fs->b∉ex->h'.get? b=some o
 slot:∀b o,h.get? b=some o->H b=none->b∈fs->b∉ex->∃sl,h'.get? b=some { o with slots:=sl}
 free:∀b o,h.get? b=some o->H b=none->b∉ex->H' b=none
 there:∀b o,h.get? b=some o->b∉ex->∃o',h'.get? b=some o'
 tups:∀b xs,H b=some (.tup xs)->H' b=some (.tup xs)
 frzs:∀b o u,H b=some (.frz o u)->H' b=some (.frz o u)
 tbls:∀b ps,H b=some (.tbl ps)->∃more,H' b=some (.tbl (ps++more))
section
variable {fs fs' ex ex':List Addr}{H H1 H2:Hp}{h h1 h2 h':OR}{a x e:Addr}{o:HO}
theorem Un.any(u:Un fs ex H H1 h h1)(q:h.get? b=some ob)(n:H b=none)(hx:b∉ex):∃sl,h1.get? b=some { ob with slots:=sl}:=by
 by_cases hb:b∈fs
 ·exact u.slot b ob q n hb hx
 ·exact⟨ob.slots,u.keep b ob q n hb hx⟩
theorem Un.kept(k:∀b u,h.get? b=some u->h'.get? b=some u):Un fs ex H H h h':=
 ⟨λb ob q _ _ _=>k b ob q,λb ob q _ _ _=>⟨ob.slots,k b ob q⟩,λ_ _ _ n _=>n,λb ob q _=>⟨ob,k b ob q⟩,λ_ _ q=>q,λ_ _ _ q=>q,λ_ ps q=>⟨#[],by rw[q];simp⟩⟩
theorem Un.refl:Un fs ex H H h h:=Un.kept λ_ _ q=>q
theorem Un.laid(k:∀b u,h.get? b=some u->h'.get? b=some u)(hp:h.objs.size≤a)(hn:H a=none):Un fs ex H (upd H a o) h h' where
 keep:=λb u q _ _ _=>k b u q
 slot:=λb u q _ _ _=>⟨u.slots,k b u q⟩
 free:=λb u q n _=>by rw[au (PF (O5 (OW q) hp))];exact n
 there:=λb u q _=>⟨u,k b u q⟩
 tups:=λb xs q=>by rw[au (aC q hn)];exact q
 frzs:=λb u xs q=>by rw[au (aC q hn)];exact q
 tbls:=λb ps q=>⟨#[],by rw[au (aC q hn),q];simp⟩
theorem Un.write(mu:Ki (H x))(he:e=x∨H e=some (.own x))(k:∀b u,b≠e->h.get? b=some u->h'.get? b=some u)(heo:∃u,h'.get? e=some u):Un fs ex H (upd H x o) h h':=by
 have hx:∀b,H b=none->b≠x:=λb n z=>by subst z;rw[n] at mu;exact mu
 have hb:∀b,H b=none->b≠e:=λb n z=>by
  subst z;rcases he with r|r
  ·exact hx b n r
  ·rw[n] at r;cases r
 have hm:∀b u,H b=some u->¬Ki (some u)->b≠x:=λb u q nm z=>by subst z;rw[q] at mu;exact nm mu
 refine⟨λb u q n _ _=>k b u (hb b n) q,λb u q n _ _=>⟨u.slots,k b u (hb b n) q⟩,λb u q n _=>by rw[au (hx b n)];exact n,λb u q _=>?_,
  λb xs q=>by rw[au (hm b _ q λz=>z)];exact q,λb u xs q=>by rw[au (hm b _ q λz=>z)];exact q,λb ps q=>⟨#[],by rw[au (hm b _ q λz=>z),q];simp⟩⟩
 by_cases hbe:b=e
 ·subst hbe;exact heo
 ·exact⟨u,k b u hbe q⟩
end
def ES(h:OR)(H:Hp):List Addr:=(OB h.objs.size).filter λa=>(H a).isSome
def pU(h:OR)(H:Hp):OR:=PySem.W.hideAll h (ES h H)
theorem wM(h:OR)(H:Hp):(pU h H).objs.size=h.objs.size:=PySem.W.hideAll_size _ _
theorem AY(e:h.get? b=some o)(n:H b=none):(pU h H).get? b=some o:=
 PySem.W.hideAll_get _ e λhm=>by
  have q:(H b).isSome=true:=(OU.mp hm).2;rw[n] at q;simp at q
theorem C5(e:(pU h H).get? b=some o):h.get? b=some o/\H b=none:=by
 have e':h.get? b=some o:=PySem.W.of_hideAll (ES h H) e;refine⟨e',?_⟩
 cases q:H b with
 |none=>rfl
 |some x=>
  have hm:b∈ES h H:=OU.mpr ⟨ON.mpr (OW e'),by simp[q]⟩;have z:(pU h H).get? b=none:=PySem.W.hideAll_none (ES h H) hm;rw[z] at e;cases e
def DR(g h:OR)(L:Addr):List (Addr×Ql):=(OB h.objs.size).filterMap λa=>if a=L∨(g.get? a).isSome=true then none else(h.get? a).map λo=>(a,o)
def cP(g h:OR)(L d:Addr):List (Addr×Ql):=(DR g h L).filter λp=>decide (p.1≠d)
end L2
namespace L2
open PySem PySem.Spec PyProof.Rows
structure Mod(K:Oz)(mg:Pf->Option Value)(base:OR):Prop where
 kin:K.In base
 glob:base.Ns Pj mg
 blt:∃mb,base.Ns XG mb/\∀x:Pf,x ≠ "__name__"->mb x=Rf x
 nolimit:base.NoLimit
structure Cx where
 prog:Po
 w:PM
 K:Oz
 mg:Pf->Option Value
 base:OR
 A:PB
 N:List Pf
 s₀:OI
 H₀:Hp
 env:XD
 outer:List XD
 stack:List XD
 ex:List Addr
 fn:Pf->Bool
 calm:Bool
 pn:List (Addr×Ql)
 xe:Value->OI->Prop
def pX(l:List XD):List Addr:=l.filterMap (·.frame)
abbrev Cx.fs(X:Cx):List Addr:=pX X.outer
def J9(sc:SG)(x:Pf):Prop:=sc.names.lookup x=some .local∨sc.names.lookup x=some .cell∨sc.names.lookup x=some .free
def xx(sc:SG)(x:Pf):Prop:=sc.names.lookup x=some .local∨sc.names.lookup x=some .cell
def LQ(env:XD)(h:OR)(m:Pf->Option Value)(x:Pf)(u:Value):Prop:=
 (env.kindOf x=some .local/\m x=some u)∨((env.kindOf x=some .cell∨env.kindOf x=some .free)/\∃c,env.cells.lookup x=some c/\h.IsCell c (some u))
structure Cx.Ok(X:Cx):Prop where
 mod:Mod X.K X.mg X.base
 kind:X.env.scope.kind=.function
 glob:X.env.globals=Pj
 blt:X.env.builtins=XG
 above:X.s₀.heap.objs.size≤X.env.locals
 inj:∀x y c,X.env.cells.lookup x=some c->X.env.cells.lookup y=some c->x=y
 has:∀x,(X.env.kindOf x=some .cell∨X.env.kindOf x=some .free)->∃c,X.env.cells.lookup x=some c
 cab:∀x c,X.fn x=true->X.env.cells.lookup x=some c->X.s₀.heap.objs.size≤c
 hd:X.calm=true->X.A.handled=none
 frames:X.A.frames=some X.stack
 stk:X.stack=X.outer∨(X.stack=X.env::X.outer/\X.env.frame=some X.env.locals)
 exf:∀b∈X.ex,b≠X.env.locals/\∀x c,X.env.cells.lookup x=some c->c≠b
 bs:∀b o,X.base.get? b=some o->X.s₀.heap.get? b=some o/\X.H₀ b=none
 bsz:X.base.objs.size≤X.s₀.heap.objs.size
 noex:∀b o,X.base.get? b=some o->b∉X.ex
 exfs:∀b∈X.ex,b∉X.fs
 funs:X.s₀.heap.FunFrames X.base X.outer
 frf:∀b∈X.fs,X.H₀ b=none
structure Inv(X:Cx)(pins:List (Addr×Ql))(σ:List (Option V))(H:Hp)(s:OI):Prop where
 ok:X.Ok
 os:s.os=X.s₀.os
 bare:Tt s.gens
 base:Un X.fs X.ex X.H₀ H X.s₀.heap s.heap
 loc:∃m,s.heap.Ns X.env.locals m/\∀(i:Nat) (x:Pf) (v:V),X.N[i]?=some x->σ[i]?=some (some v)->J9 X.env.scope x->∃u,RelV v u/\LQ X.env s.heap m x u
 cell:∀x c,X.env.cells.lookup x=some c->∃v,s.heap.IsCell c v
 free:H X.env.locals=none
 freeC:∀x c,X.env.cells.lookup x=some c->H c=none
 pin:∀p∈X.pn++pins,s.heap.get? p.1=some p.2/\H p.1=none/\p.1≠X.env.locals/\p.1∉X.fs/\∀v,p.2.data≠.cell v
 hok:iz X.prog X.w H s.heap
 len:σ.length=X.N.length
section
variable {X:Cx}{pins:List (Addr×Ql)}{σ:List (Option V)}{H H':Hp}{s:OI}{h':OR}
theorem Cx.Ok.nofr(ok:X.Ok)(e:X.base.get? b=some o):b∉X.fs:=λhb=>by
 have:=(ok.funs.mem hb).1;rw[e] at this;cases this
theorem Inv.bs(I:Inv X pins σ H s):∀b o,X.base.get? b=some o->s.heap.get? b=some o/\H b=none:=λb o e=>
 ⟨I.base.keep b o (I.ok.bs b o e).1 (I.ok.bs b o e).2 (I.ok.nofr e) (I.ok.noex b o e),I.base.free b o (I.ok.bs b o e).1 (I.ok.bs b o e).2 (I.ok.noex b o e)⟩
theorem Inv.bk(I:Inv X pins σ H s):∀b o,X.base.get? b=some o->s.heap.get? b=some o:=λb o e=>(I.bs b o e).1
theorem Inv.mod(I:Inv X pins σ H s):Mod X.K X.mg X.base:=I.ok.mod
theorem Inv.kIn(I:Inv X pins σ H s):X.K.In s.heap:=I.ok.mod.kin.keeps I.bk
theorem Inv.lt(I:Inv X pins σ H s):X.env.locals<s.heap.objs.size:=let ⟨_,hn,_⟩:=I.loc;hn.lt
theorem Inv.sz(I:Inv X pins σ H s):X.s₀.heap.objs.size≤s.heap.objs.size:=O7 I.ok.above (R8 I.lt)
theorem Inv.nofs(I:Inv X pins σ H s){a:Addr}(h:s.heap.objs.size≤a):a∉X.fs:=λhb=>by
 obtain⟨_,o,ho,_⟩:=I.ok.funs.mem hb;exact absurd (O5 (OW ho) (O7 I.sz h)) (PL _)
theorem Inv.cne(I:Inv X pins σ H s):∀x c,X.env.cells.lookup x=some c->c≠X.env.locals:=λx c e z=>by
 obtain⟨v,o,ho,hd⟩:=I.cell x c e;obtain⟨m,⟨o',es,ep,ho',hd',_⟩,_⟩:=I.loc;rw[z,ho'] at ho;cases ho;rw[hd'] at hd;cases hd
theorem Inv.funs(I:Inv X pins σ H s):s.heap.FunFrames X.base X.outer:=by
 have all:∀(l:List XD),(∀b∈pX l,b∈X.fs)->X.s₀.heap.FunFrames X.base l->s.heap.FunFrames X.base l:=by
  intro l
  induction l with
  |nil=>intro _ _;trivial
  |cons env r ih=>
   intro hs hl;obtain⟨hk,⟨L,o,hf,hn,ho,hd⟩,hr⟩:=hl;have hL:L∈X.fs:=hs L (by unfold pX;rw[TL,hf];exact OJ);obtain⟨sl,e⟩:=I.base.slot L o ho (I.ok.frf L hL) hL λz=>I.ok.exfs L z hL
   exact⟨hk,⟨L,_,hf,hn,e,hd⟩,ih (λb hb=>hs b (by unfold pX;rw[TL,hf];exact OL _ hb)) hr⟩
 exact all X.outer (λ_ hb=>hb) I.ok.funs
theorem Inv.stack(I:Inv X pins σ H s):s.heap.FunFrames X.base X.stack:=by
 rcases I.ok.stk with e | ⟨e,hf⟩
 ·rw[e];exact I.funs
 ·rw[e];obtain⟨m,hn,_⟩:=I.loc;refine .cons (by rw[I.ok.kind];decide) hf hn ?_ I.funs;exact Qo (O7 I.ok.bsz I.ok.above)
theorem Inv.stkSub(I:Inv X pins σ H s):∀b∈pX X.stack,b∈X.env.locals::X.fs:=λb hb=>by
 rcases I.ok.stk with e | ⟨e,hf⟩
 ·rw[e] at hb;exact OL _ hb
 ·rw[e] at hb;unfold pX at hb;rw[TL,hf] at hb;exact hb
theorem Inv.stkFree(I:Inv X pins σ H s):∀b∈pX X.stack,H b=none:=λb hb=>by
 rcases OO.mp (I.stkSub b hb) with e|hb
 ·rw[e];exact I.free
 ·obtain⟨_,o,ho,_⟩:=I.ok.funs.mem hb;exact I.base.free b o ho (I.ok.frf b hb) λz=>I.ok.exfs b z hb
theorem Inv.step{ch:List Addr}(I:Inv X pins σ H s)
  (hch:∀b∈ch,(b∈X.ex∨X.s₀.heap.get? b=none)/\b≠X.env.locals/\(∀x c,X.env.cells.lookup x=some c->c≠b)/\∀p∈X.pn++pins,p.1≠b)
  (keep:∀b o,b≠X.env.locals->b∉X.fs->b∉ch->s.heap.get? b=some o->H b=none->h'.get? b=some o)
  (slot:∀b o,b≠X.env.locals->b∈X.fs->b∉ch->s.heap.get? b=some o->H b=none->∃sl,h'.get? b=some { o with slots:=sl}) (free:∀b o,b∉ch->s.heap.get? b=some o->H b=none->H' b=none)
  (there:∀b o,b∉ch->s.heap.get? b=some o->∃o',h'.get? b=some o')
  (tups:∀b xs,H b=some (.tup xs)->H' b=some (.tup xs)) (frzs:∀b o u,H b=some (.frz o u)->H' b=some (.frz o u)) (tbls:∀b ps,H b=some (.tbl ps)->∃more,H' b=some (.tbl (ps++more)))
  (ns:∀m,s.heap.Ns X.env.locals m->h'.Ns X.env.locals m) (hok:iz X.prog X.w H' h') (hg:Tt g'):
  Inv X pins σ H' { s with heap:=h',gens:=g',drawn:=d',toks:=t'}:=by
 have neL:∀b o,X.s₀.heap.get? b=some o->b≠X.env.locals:=λb o e=>PF (O5 (OW e) I.ok.above)
 have neC:∀b o,X.s₀.heap.get? b=some o->b∉X.ex->b∉ch:=λb o e hx hb=>by
  rcases(hch b hb).1 with z|z
  ·exact hx z
  ·rw[e] at z;cases z
 have cellK:∀x c,X.env.cells.lookup x=some c->∀v,s.heap.IsCell c v->h'.IsCell c v:=λx c e v ⟨o,ho,hd⟩=>by
  have nch:c∉ch:=λz=>(hch c z).2.2.1 x c e Z
  by_cases hc:c∈X.fs
  ·obtain⟨sl,q⟩:=slot c o (I.cne x c e) hc nch ho (I.freeC x c e);exact⟨_,q,hd⟩
  ·exact⟨o,keep c o (I.cne x c e) hc nch ho (I.freeC x c e),hd⟩
 refine⟨I.ok,I.os,hg,⟨λb o e n hb hx=>?_,λb o e n hb hx=>?_,λb o e n hx=>?_,λb o e hx=>?_,λb xs e=>tups b xs (I.base.tups b xs e),λb o xs e=>frzs b o xs (I.base.frzs b o xs e),λb ps e=>?_⟩,?_,λx c e=>?_,?_,λx c e=>?_,λp hp=>?_,hok,I.len⟩
 ·exact keep b o (neL b o e) hb (neC b o e hx) (I.base.keep b o e n hb hx) (I.base.free b o e n hx)
 ·obtain⟨sl,e1⟩:=I.base.slot b o e n hb hx;obtain⟨sl',e2⟩:=slot b _ (neL b o e) hb (neC b o e hx) e1 (I.base.free b o e n hx);exact⟨sl',e2⟩
 ·obtain⟨o',e1⟩:=I.base.there b o e hx;exact free b o' (neC b o e hx) e1 (I.base.free b o e n hx)
 ·obtain⟨o',e1⟩:=I.base.there b o e hx;exact there b o' (neC b o e hx) e1
 ·obtain⟨m1,e1⟩:=I.base.tbls b ps e;obtain⟨m2,e2⟩:=tbls b _ e1;exact⟨m1++m2,by rw[e2,Array.append_assoc]⟩
 ·obtain⟨m,hn,hl⟩:=I.loc;refine⟨m,ns m hn,λi x v e1 e2 e3=>?_⟩;obtain⟨u,r,l⟩:=hl i x v e1 e2 e3;refine⟨u,r,?_⟩;rcases l with l | ⟨k,c,e,z⟩
  ·exact .inl l
  ·exact .inr ⟨k,c,e,cellK x c e _ z⟩
 ·obtain⟨v,z⟩:=I.cell x c e;exact⟨v,cellK x c e v z⟩
 ·obtain⟨m,⟨o,_,_,ho,_⟩,_⟩:=I.loc;exact free _ o (λz=>(hch _ z).2.1 Z) ho I.free
 ·obtain⟨v,o,ho,hd⟩:=I.cell x c e;exact free c o (λz=>(hch c z).2.2.1 x c e Z) ho (I.freeC x c e)
 ·obtain⟨e,n,ne,nf,d⟩:=I.pin p hp;have nch:p.1∉ch:=λz=>(hch p.1 z).2.2.2 p hp Z
  exact⟨keep p.1 p.2 ne nf nch e n,free p.1 p.2 nch e n,ne,nf,d⟩
theorem Inv.un(I:Inv X pins σ H s)(u:Un X.fs [] H H' s.heap h')(hok:iz X.prog X.w H' h'):Inv X pins σ H' { s with heap:=h',toks:=t'}:=by
 obtain⟨m,⟨o,es,ep,ho,r⟩,_⟩:=id I.loc;obtain⟨sl,hL⟩:=u.any ho I.free (by simp);exact I.step (g':=s.gens) (d':=s.drawn) (ch:=[]) (λ_ z=>nomatch z) (λb o _ hb _ e n=>u.keep b o e n hb (by simp)) (λb o _ hb _ e n=>u.slot b o e n hb (by simp)) (λb o _ e n=>u.free b o e n (by simp)) (λb o _ e=>u.there b o e (by simp)) u.tups u.frzs u.tbls (λm' hm=>by
  obtain⟨o',es',ep',ho',r'⟩:=hm;rw[ho] at ho';cases ho';exact⟨_,es',ep',hL,r'⟩) hok I.bare
theorem Inv.call(I:Inv X pins σ H s)(u:Un (pX X.stack) ch H H' s.heap h')(hok:iz X.prog X.w H' h')(hg:Tt g')
  (hch:∀b∈ch,(b∈X.ex∨X.s₀.heap.get? b=none)/\b≠X.env.locals/\(∀x c,X.env.cells.lookup x=some c->c≠b)/\∀p∈X.pn++pins,p.1≠b):
  Inv X pins σ H' { s with heap:=h',gens:=g',drawn:=d',toks:=t'}:=by
 obtain⟨m,⟨o,es,ep,ho,r⟩,_⟩:=id I.loc;obtain⟨sl,hL⟩:=u.any ho I.free λz=>(hch _ z).2.1 Z
 exact I.step (ch:=ch) hch (λb o hL hb hc e n=>u.keep b o e n (λz=>(OO.mp (I.stkSub b z)).elim hL hb) hc) (λb o _ _ hc e n=>u.any e n hc) (λb o hc e n=>u.free b o e n hc) (λb o hc e=>u.there b o e hc) u.tups u.frzs u.tbls (λm' hm=>by
  obtain⟨o',es',ep',ho',r'⟩:=hm;rw[ho] at ho';cases ho';exact⟨_,es',ep',hL,r'⟩) hok hg
theorem Inv.turned(I:Inv X pins σ H s)(k:∀b o,b≠it->s.heap.get? b=some o->h'.get? b=some o)(hn:H it=none)(hL:it≠X.env.locals)
  (h1:it∈X.ex∨X.s₀.heap.get? it=none) (h2:∀x c,X.env.cells.lookup x=some c->c≠it) (h3:∀p∈X.pn++pins,p.1≠it):Inv X pins σ H { s with heap:=h',toks:=t'}:=by
 have nit:∀b u,H b=some u->b≠it:=λb u e z=>by rw[z,hn] at e;cases e
 refine I.step (g':=s.gens) (d':=s.drawn) (ch:=[it]) (λb hb=>?_) (λb o _ _ hc e _=>k b o (λz=>hc (by simp[z])) e) (λb o _ _ hc e _=>⟨o.slots,k b o (λz=>hc (by simp[z])) e⟩) (λ_ _ _ _ n=>n)
  (λb o hc e=>⟨o,k b o (λz=>hc (by simp[z])) e⟩) (λ_ _ e=>e) (λ_ _ _ e=>e) (λb ps e=>⟨#[],by rw[e];simp⟩) (λm hm=>?_) (λb u e=>?_) I.bare
 ·have e:b=it:=by simpa using hb
  subst e;exact⟨h1,hL,h2,h3⟩
 ·obtain⟨o,es,ep,ho,r⟩:=hm;exact⟨o,es,ep,k _ o (R9 hL) ho,r⟩
 ·refine(I.hok b u e).stay (λc v hc q=>k c v ?_ q) (λ_ q=>q) λ_ _ q=>q
  rcases hc with z|z
  ·rw[z];exact nit b u e
  ·exact nit c _ z
theorem Inv.tok(I:Inv X pins σ H s)(t:Nat):Inv X pins σ H { s with toks:=t}:=I.un (h':=s.heap) (t':=t) Un.refl I.hok
theorem Inv.kept(I:Inv X pins σ H s)(k:∀b u,s.heap.get? b=some u->h'.get? b=some u):Inv X pins σ H { s with heap:=h',toks:=t'}:=I.un (Un.kept k) (I.hok.kept k)
theorem Inv.laid{a:Addr}{o:HO}{t':Nat}(I:Inv X pins σ H s)(k:∀b u,s.heap.get? b=some u->h'.get? b=some u)(hp:s.heap.objs.size≤a)(new:ObjOk X.prog X.w (upd H a o) h' a o) :
  Inv X pins σ (upd H a o) { s with heap:=h',toks:=t'}:=I.un (Un.laid k hp (I.hok.fresh hp)) (I.hok.laid k hp new)
theorem Inv.write(I:Inv X pins σ H s)(mu:Ki (H x))(he:e=x∨H e=some (.own x))(k:∀b u,b≠e->s.heap.get? b=some u->h'.get? b=some u)(heo:∃u,h'.get? e=some u)
  (new:ObjOk X.prog X.w (upd H x o) h' x o):Inv X pins σ (upd H x o) { s with heap:=h',toks:=t'}:=I.un (Un.write mu he k heo) (I.hok.write mu he k heo new)
theorem Inv.weak(I:Inv X pins σ H s)(hl:σ'.length=σ.length)(w:∀(i:Nat) v,σ'[i]?=some (some v)->σ[i]?=some (some v)):Inv X pins σ' H s:=
 ⟨I.ok,I.os,I.bare,I.base,let ⟨m,hn,hl'⟩:=I.loc;⟨m,hn,λi x v e1 e2 e3=>hl' i x v e1 (w i v e2) e3⟩,I.cell,I.free,I.freeC,I.pin,I.hok,hl.trans I.len⟩
theorem Inv.pins_of(I:Inv X pins σ H s)(h:∀p∈pins',s.heap.get? p.1=some p.2/\H p.1=none/\p.1≠X.env.locals/\p.1∉X.fs/\∀v,p.2.data≠.cell v):Inv X pins' σ H s:=
 ⟨I.ok,I.os,I.bare,I.base,I.loc,I.cell,I.free,I.freeC,λp hp=>(Pn.mp hp).elim (λz=>I.pin p (P2 _ z)) (h p),I.hok,I.len⟩
theorem qV{N:List Pf}(hN:N.Nodup){i j:Nat}(a:N[i]?=some x)(b:N[j]?=some x):i=j:=by
 obtain⟨h1,e1⟩:=OV.mp a;obtain⟨h2,e2⟩:=OV.mp b;exact(SD hN).mp (e1.trans e2.symm)
theorem vG{M:Model}{A:PB}{E:Value->OI->Prop}{i:Nat}{x:Pf}{v:V}{u:Value}{Q:Unit->OI->Prop}(I:Inv X pins σ H s)(hN:X.N.Nodup)(hi:X.N[i]?=some x)(hx:xx X.env.scope x)(r:RelV v u)
  (h:∀s',Inv X pins (σ.set i (some v)) H s'->(∃a,Sa a s.heap s'.heap/\(a=X.env.locals∨X.env.cells.lookup x=some a))->Q () s') (hf:X.fn x=true∨X.env.scope.names.lookup x=some .local:=by first|exact .inl Z|exact .inr Z|assumption):OY M A (Yd X.env x u) Q E s:=by
 obtain⟨m,hn,hl⟩:=id I.loc;have hcls:(X.env.scope.kind==.class||(X.env.scope.kind==.module&&X.env.locals != X.env.globals))=false:=by rw[I.ok.kind];rfl
 have hiσ:i<σ.length:=by rw[I.len];exact(OV.mp hi).1
 have cne:=I.cne;have tracked:∀{a:Addr} {h':OR},(∃o,s.heap.get? a=some o/\H a=none)->Sa a s.heap h'->iz X.prog X.w H h':=λ{a h'} ha hs b ob e=>by
  obtain⟨_,_,hfree⟩:=ha;refine(I.hok b ob e).stay (λc w' hc q=>(hs.2 c ?_).trans q) (λ_ q=>q) λ_ _ q=>q
  rintro rfl;rcases hc with rfl|hc
  ·rw[hfree] at e;cases e
  ·rw[hfree] at hc;cases hc
 rcases hx with hk|hk
 ·refine wpAny_storeName_local hk hn (λh' hn' hs=>?_) hcls;obtain⟨oL,_,_,hoL,_⟩:=id hn;refine h _ ⟨I.ok,I.os,I.bare,⟨λb o e n hb hx=>?_,λb o e n hb hx=>?_,I.base.free,λb o e hx=>?_,I.base.tups,I.base.frzs,I.base.tbls⟩,⟨_,hn',λj y v' e1 e2 e3=>?_⟩,λy c e=>?_,I.free,I.freeC,λp hp=>?_,tracked ⟨oL,hoL,I.free⟩ hs,by simpa using I.len⟩ ⟨_,hs,.inl Z⟩
  ·exact(hs.2 b (PF (O5 (OW e) I.ok.above))).trans (I.base.keep b o e n hb hx)
  ·obtain⟨sl,e1⟩:=I.base.slot b o e n hb hx;exact⟨sl,(hs.2 b (PF (O5 (OW e) I.ok.above))).trans e1⟩
  ·obtain⟨o',e1⟩:=I.base.there b o e hx;exact⟨o',(hs.2 b (PF (O5 (OW e) I.ok.above))).trans e1⟩
  ·by_cases hj:j=i
   ·subst hj;rw[hi] at e1;cases e1;rw[Sb hiσ] at e2
    cases e2
    exact⟨u,r,.inl ⟨hk,by simp⟩⟩
   ·rw[Qe (R9 hj)] at e2;obtain⟨u',r',q⟩:=hl j y v' e1 e2 e3;refine⟨u',r',?_⟩;rcases q with⟨k,e⟩ | ⟨k,c,e,z⟩
    ·refine .inl ⟨k,?_⟩;have:y≠x:=λe=>hj (qV hN e1 (e▸hi))
     simp[this,e]
    ·exact .inr ⟨k,c,e,z.sameBut hs (cne y c e)⟩
  ·obtain⟨w',z⟩:=I.cell y c e;exact⟨w',z.sameBut hs (cne y c e)⟩
  ·obtain⟨e,n,ne,nf,d⟩:=I.pin p hp;exact⟨(hs.2 p.1 ne).trans e,n,ne,nf,d⟩
 ·have hfn:X.fn x=true:=by
   rcases hf with z|z
   ·exact z
   ·rw[z] at hk;cases hk
  obtain⟨c,hc⟩:=I.ok.has x (.inl hk);obtain⟨w',z⟩:=I.cell x c hc;refine wpAny_storeName_cell I.ok.kind hk hc z (λh' hc' hs=>?_);obtain⟨oc,hoc,hocd⟩:=id z;refine h { s with heap:=h'} ⟨I.ok,I.os,I.bare,⟨λb o e n hb hx=>?_,λb o e n hb hx=>?_,I.base.free,λb o e hx=>?_,I.base.tups,I.base.frzs,I.base.tbls⟩,⟨m,hn.sameBut hs (R9 (cne x c hc)),λj y v' e1 e2 e3=>?_⟩,λy c' e=>?_,I.free,I.freeC,λp hp=>?_,tracked ⟨oc,hoc,I.freeC x c hc⟩ hs,by simpa using I.len⟩ ⟨c,hs,.inr hc⟩
  ·exact(hs.2 b (PF (O5 (OW e) (I.ok.cab x c hfn hc)))).trans (I.base.keep b o e n hb hx)
  ·obtain⟨sl,e1⟩:=I.base.slot b o e n hb hx;exact⟨sl,(hs.2 b (PF (O5 (OW e) (I.ok.cab x c hfn hc)))).trans e1⟩
  ·obtain⟨o',e1⟩:=I.base.there b o e hx;exact⟨o',(hs.2 b (PF (O5 (OW e) (I.ok.cab x c hfn hc)))).trans e1⟩
  ·by_cases hj:j=i
   ·subst hj;rw[hi] at e1;cases e1;rw[Sb hiσ] at e2
    cases e2
    exact⟨u,r,.inr ⟨.inl hk,c,hc,hc'⟩⟩
   ·rw[Qe (R9 hj)] at e2;obtain⟨u',r',q⟩:=hl j y v' e1 e2 e3;refine⟨u',r',?_⟩;rcases q with q | ⟨k,c',e,z'⟩
    ·exact .inl q
    ·refine .inr ⟨k,c',e,z'.sameBut hs ?_⟩;rintro rfl;exact hj (qV hN e1 (I.ok.inj _ _ _ e hc▸hi))
  ·by_cases hcc:c'=c
   ·subst hcc;exact⟨_,hc'⟩
   ·obtain⟨w2,z2⟩:=I.cell y c' e;exact⟨w2,z2.sameBut hs hcc⟩
  ·obtain⟨e,n,ne,nf,d⟩:=I.pin p hp;refine⟨(hs.2 p.1 ?_).trans e,n,ne,nf,d⟩;intro q;rw[q,hoc] at e;have q':oc=p.2:=P6 e;exact d w' (by rw[←q'];exact hocd)
theorem fG{M:Model}{A:PB}{E:Value->OI->Prop}{i:Nat}{x:Pf}{v:V}{u:Value}{Q:Unit->OI->Prop}(I:Inv X pins σ H s)(hN:X.N.Nodup)(hi:X.N[i]?=some x)(hx:xx X.env.scope x)(r:RelV v u)
  (h:∀s',Inv X pins (σ.set i (some v)) H s'->Q () s') (hf:X.fn x=true∨X.env.scope.names.lookup x=some .local:=by first|exact .inl Z|exact .inr Z|assumption):OY M A (Yd X.env x u) Q E s:=
 vG I hN hi hx r (λs' I' _=>h s' I') hf
theorem Inv.call'(I:Inv X pins σ H s)(ho:s'.os=s.os)(u:Un (pX X.stack) ch H H' s.heap s'.heap)(hok:iz X.prog X.w H' s'.heap)(hg:Tt s'.gens)
  (hch:∀b∈ch,(b∈X.ex∨X.s₀.heap.get? b=none)/\b≠X.env.locals/\(∀x c,X.env.cells.lookup x=some c->c≠b)/\∀p∈X.pn++pins,p.1≠b):Inv X pins σ H' s':=by
 obtain⟨h',g',d',t',o'⟩:=s';have e:o'=s.os:=ho;subst e;exact I.call (g':=g') (t':=t') (d':=d') u hok hg hch
end
abbrev XK:=Value->Option Addr->Hp->Prop
abbrev St:=List (Option V)
abbrev VK:=V->Hp->Prop
abbrev TE:=St->Hp->VK->Prop
abbrev TT:=St->Hp->(Bool->Hp->Prop)->Prop
abbrev TA:=St->Hp->(List V->Hp->Prop)->Prop
structure iV where
 nx:St->Hp->Prop
 rt:VK
 bk:St->Hp->Prop:=λ_ _=>False
 ct:St->Hp->Prop:=λ_ _=>False
abbrev TS:=iV->St->Hp->Prop
def EP(X:Cx)(pins:List (Addr×Ql))(σ:St)(Q:VK)(u:Value)(s':OI):Prop:=∃v H',Inv X pins σ H' s'/\RelV v u/\Q v H'
def TP(X:Cx)(pins:List (Addr×Ql))(σ:St)(Q:Bool->Hp->Prop)(b:Bool)(s':OI):Prop:=∃H',Inv X pins σ H' s'/\Q b H'
def AP(X:Cx)(pins:List (Addr×Ql))(σ:St)(Q:List V->Hp->Prop)(us:List Value)(s':OI):Prop:=∃vs H',Inv X pins σ H' s'/\be vs us/\Q vs H'
def SP(X:Cx)(pins:List (Addr×Ql))(D:iV)(f:Flow)(s':OI):Prop:=
 match f with
 | .next=>∃σ' H',Inv X pins σ' H' s'/\D.nx σ' H'
 | .brk=>∃σ' H',Inv X pins σ' H' s'/\D.bk σ' H'
 | .cont=>∃σ' H',Inv X pins σ' H' s'/\D.ct σ' H'
 | .ret u=>∃v σ' H',Inv X pins σ' H' s'/\RelV v u/\D.rt v H'
def PE(X:Cx)(e:PD)(t:TE):Prop:=
 ∀(pins:List (Addr×Ql)) (s:OI) (σ:St) (H:Hp) (Q:VK),Inv X pins σ H s->t σ H Q->OY (O3 X.prog X.w) X.A (eval e X.env) (EP X pins σ Q) X.xe s
def PT(X:Cx)(e:PD)(t:TT):Prop:=
 ∀(pins:List (Addr×Ql)) (s:OI) (σ:St) (H:Hp) (Q:Bool->Hp->Prop),Inv X pins σ H s->t σ H Q->OY (O3 X.prog X.w) X.A (isTrue e X.env (eval e X.env)) (TP X pins σ Q) X.xe s
def PW(X:Cx)(e:PD)(t:TT):Prop:=
 ∀(whole:Sem Value) (pins:List (Addr×Ql)) (s:OI) (σ:St) (H:Hp) (Q:Bool->Hp->Prop),Inv X pins σ H s->t σ H Q->OY (O3 X.prog X.w) X.A (isTrue e X.env whole) (TP X pins σ Q) X.xe s
theorem PW.pt(h:PW X e t):PT X e t:=h _
def PA(X:Cx)(es:List PD)(t:TA):Prop:=
 ∀(pos:So) (pins:List (Addr×Ql)) (s:OI) (σ:St) (H:Hp) (Q:List V->Hp->Prop),Inv X pins σ H s->t σ H Q->OY (O3 X.prog X.w) X.A (spliced (Rt pos (OS es X.env))) (AP X pins σ Q) X.xe s
def PS(X:Cx)(st:Stmt)(t:TS):Prop:=
 ∀(pins:List (Addr×Ql)) (s:OI) (σ:St) (H:Hp) (D:iV),Inv X pins σ H s->t D σ H->OY (O3 X.prog X.w) X.A (exec st X.env) (SP X pins D) X.xe s
def rS(X:Cx)(st:List Stmt)(t:TS):Prop:=
 ∀(pins:List (Addr×Ql)) (s:OI) (σ:St) (H:Hp) (D:iV),Inv X pins σ H s->t D σ H->OY (O3 X.prog X.w) X.A (execs st X.env) (SP X pins D) X.xe s
theorem bU{Q Q':α->OI->Prop}{E:Value->OI->Prop}(h:OY M A t Q E s)(hQ:∀a s,Q a s->Q' a s):OY M A t Q' E s:=Qp h hQ λ_ _ x=>x
end L2
namespace L2
open PySem PySem.Spec PyProof.Rows
section
variable {X:Cx}
def xS(i:Nat):TE:=λσ H Q=>∃v,σ[i]?=some (some v)/\Q v H
def tC(v:V):TE:=λ_ H Q=>Q v H
theorem Ge{i:Nat}{x:Pf}{pos:So}(hN:X.N[i]?=some x)(hv:J9 X.env.scope x)(hd:(x==("__debug__" : Pf))=false:=by decide)(hcd:(x==("__classdict__" : Pf))=false:=by decide):PE X (.Name x pos) (xS i):=by
 intro pins s σ H Q I h;obtain⟨v,e,h⟩:=h;obtain⟨m,hn,hl⟩:=I.loc;obtain⟨u,r,l⟩:=hl i x v hN e hv;have fin:EP X pins σ Q u s:=⟨v,H,I,r,h⟩;rcases l with⟨hk,hm⟩ | ⟨hk,c,hc,hcell⟩
 ·exact XH (Vx I.ok.kind hk hn hm fin) hd
 ·rcases hk with hk|hk
  ·exact XH (VP I.ok.kind hk hc hcell fin) hd
  ·exact XH (wpAny_loadName_free I.ok.kind hk hc hcell fin hcd) hd
theorem Gm{i j pos}:PE X (.Constant (.int i) j pos) (tC (.int i)):=λ_ _ _ H _ I h=>wpAny_Constant_int ⟨.int i,H,I.tok _,⟨_,Z⟩,h⟩
theorem Jz{b j pos}:PE X (.Constant (.bool b) j pos) (tC (.bl b)):=λ_ _ _ H _ I h=>Constant_bool ⟨.bl b,H,I,Z,h⟩
theorem Gj{j pos}:PE X (.Constant .none j pos) (tC .non):=λ_ _ _ H _ I h=>Constant_none ⟨.non,H,I,Z,h⟩
theorem Gg{x j pos}:PE X (.Constant (.str x) j pos) (tC (.str x)):=λ_ _ _ H _ I h=>Calls.Constant_str ⟨.str x,H,I.tok _,⟨_,Z⟩,h⟩
def Gl(X:Cx)(x:Pf):Prop:=X.env.kindOf x=some .globalImplicit
theorem kK{E:Value->OI->Prop}{pins:List (Addr×Ql)}{s:OI}{σ:St}{H:Hp}{x:Pf}{u:Value}{pos:So}{Q:Value->OI->Prop}(I:Inv X pins σ H s)(hg:Gl X x)(hm:X.mg x=some u)(h:Q u s)
  (hd:(x==("__debug__" : Pf))=false:=by decide):OY (O3 X.prog X.w) X.A (eval (.Name x pos) X.env) Q E s:=
 Calls.Name_function_global I.ok.kind hg (Calls.loadGlobal_global (by rw[I.ok.glob];exact I.mod.glob.keeps I.bk) hm h) hd
theorem gT{E:Value->OI->Prop}{pins:List (Addr×Ql)}{s:OI}{σ:St}{H:Hp}{x:Pf}{u:Value}{pos:So}{Q:Value->OI->Prop}(I:Inv X pins σ H s)(hg:Gl X x)(hm:X.mg x=none)(hv:Rf x=some u)(h:Q u s)
  (hn:x ≠ "__name__" := by decide) (hd:(x==("__debug__" : Pf))=false:=by decide):OY (O3 X.prog X.w) X.A (eval (.Name x pos) X.env) Q E s:=by
 obtain⟨mb,h1,h2⟩:=I.mod.blt;exact Calls.Name_function_global I.ok.kind hg (Calls.loadGlobal_builtin (by rw[I.ok.glob];exact I.mod.glob.keeps I.bk) hm (by rw[I.ok.blt];exact h1.keeps I.bk) ((h2 x hn).trans hv) h) hd
theorem CT{x:Pf}{v:V}{u:Value}{pos:So}(hg:Gl X x)(hm:X.mg x=some u)(r:RelV v u)(hd:(x==("__debug__" : Pf))=false:=by decide):PE X (.Name x pos) (tC v):=
 λ_ _ _ H _ I h=>kK I hg hm ⟨v,H,I,r,h⟩ hd
theorem CZ{x:Pf}{v:V}{u:Value}{pos:So}(hg:Gl X x)(hm:X.mg x=none)(hv:Rf x=some u)(r:RelV v u)(hn:x ≠ "__name__" := by decide)(hd:(x==("__debug__" : Pf))=false:=by decide):PE X (.Name x pos) (tC v):=
 λ_ _ _ H _ I h=>gT I hg hm hv ⟨v,H,I,r,h⟩ hn hd
def Kx(ta tb:TE)(k:Int->Int->Hp->Prop):St->Hp->Prop:=λσ H=>ta σ H λx H1=>tb σ H1 λy H2=>∃i j,x=.int i/\y=.int j/\k i j H2
def Nk(ta tb:TE):TE:=λσ H Q=>Kx ta tb (λi j H2=>Q (.int (i+j)) H2) σ H
def M9(ta tb:TE):TE:=λσ H Q=>Kx ta tb (λi j H2=>Q (.int (i-j)) H2) σ H
def Nd(ta tb:TE):TE:=λσ H Q=>Kx ta tb (λi j H2=>(-(2^64)<i/\i<2^64)/\Q (.int (i*j)) H2) σ H
variable {a b:PD}{ta tb:TE}{pos:So}
def PC(X:Cx)(op:Yp)(a b:PD)(t:TE):Prop:=
 ∀(pins:List (Addr×Ql)) (s:OI) (σ:St) (H:Hp) (Q:VK),Inv X pins σ H s->t σ H Q→
  OY (O3 X.prog X.w) X.A (eval a X.env) (λv s₁=>OY (O3 X.prog X.w) X.A (eval b X.env) (λu s₂=>OY (O3 X.prog X.w) X.A (Qs op v u) (EP X pins σ Q) X.xe s₂) X.xe s₁) X.xe s
def vE(p:Int->Int->Bool)(ta tb:TE):TE:=λσ H Q=>Kx ta tb (λi j H2=>Q (.bl (p i j)) H2) σ H
abbrev Oc:TE->TE->TE:=vE λi j=>decide (i<j)
abbrev Od:TE->TE->TE:=vE λi j=>decide (i≤j)
abbrev Oe:TE->TE->TE:=vE λi j=>decide (j<i)
abbrev Of:TE->TE->TE:=vE λi j=>decide (j≤i)
abbrev Ng:TE->TE->TE:=vE λi j=>decide (i=j)
abbrev Nc:TE->TE->TE:=vE λi j=>!decide (i=j)
def Nf(ta:TE):TE:=λσ H Q=>ta σ H λx H1=>Q (.bl (decide (x=.non))) H1
def L8(ta:TE):TE:=λσ H Q=>ta σ H λx H1=>Q (.bl (!decide (x=.non))) H1
def tB(t:TE):TT:=λσ H Q=>t σ H λx H1=>∃c,x=.bl c/\Q c H1
theorem F1{e:PD}{t:TE}(h:PE X e t)(he:∀whole,isTrue e X.env whole=(do let v ←whole;U2 e.pos;holding [v] (truthy v)):=by intro _;rfl):PT X e (tB t):=by
 intro pins s σ H Q I hw;refine isTrue_plain (bU (h pins s σ H _ I hw) λv s1 ⟨x,H1,I1,r1,q1⟩=>?_) (he _);obtain⟨d,rfl,q⟩:=q1
 cases r1
 exact RK ⟨H1,I1,q⟩
variable {tA tB':TT}{cP:List PD}
def IV(t u:TT):TT:=λσ H Q=>t σ H λc H1=>if c=true then u σ H1 Q else Q false H1
def L7(t u:TT):TT:=λσ H Q=>t σ H λc H1=>if c=true then Q true H1 else u σ H1 Q
def IP(t:TT):TT:=λσ H Q=>t σ H λc H1=>Q (!c) H1
theorem Cu(ha:PT X a tA):PW X (.BoolOp .And [a] pos) tA:=by
 intro wh pins s σ H Q I h;refine isTrue_and (bU (ha pins s σ H Q I h) λc s1 e=>?_)
 cases c with
 |true=>exact isTrue_and_nil e
 |false=>exact e
theorem FZ(ha:PT X a tA):PW X (.BoolOp .Or [a] pos) tA:=by
 intro wh pins s σ H Q I h;refine isTrue_or (bU (ha pins s σ H Q I h) λc s1 e=>?_)
 cases c with
 |false=>exact isTrue_or_nil e
 |true=>exact e
theorem F0(ha:PT X a tA)(hb:PW X (.BoolOp .And (b::cP) pos) tB'):PW X (.BoolOp .And (a::b::cP) pos) (IV tA tB'):=by
 intro wh pins s σ H Q I h;refine isTrue_and (bU (ha pins s σ H _ I h) λc s1 ⟨H1,I1,q1⟩=>?_)
 cases c with
 |true=>exact hb wh pins s1 σ H1 Q I1 q1
 |false=>exact⟨H1,I1,q1⟩
theorem Jr(ha:PT X a tA)(hb:PW X (.BoolOp .Or (b::cP) pos) tB'):PW X (.BoolOp .Or (a::b::cP) pos) (L7 tA tB'):=by
 intro wh pins s σ H Q I h;refine isTrue_or (bU (ha pins s σ H _ I h) λc s1 ⟨H1,I1,q1⟩=>?_)
 cases c with
 |true=>exact⟨H1,I1,q1⟩
 |false=>exact hb wh pins s1 σ H1 Q I1 q1
theorem F2(ha:PT X a tA):PT X (.UnaryOp .Not a pos) (IP tA):=by
 intro pins s σ H Q I h;exact isTrue_not (ha pins s σ H (λc H1=>Q (!c) H1) I h)
def Ef(ta tb:TE):TE:=λσ H Q=>ta σ H λx H1=>∃c,x=.bl c/\if c=true then tb σ H1 Q else Q (.bl false) H1
def Nb(ta tb:TE):TE:=λσ H Q=>ta σ H λx H1=>∃c,x=.bl c/\if c=true then Q (.bl true) H1 else tb σ H1 Q
def D7(ta:TE):TE:=λσ H Q=>ta σ H λx H1=>∃c,x=.bl c/\Q (.bl (!c)) H1
theorem Gh{op}(h:PE X a t):PE X (.BoolOp op [a] pos) t:=λpins s σ H Q I hw=>BoolOp_one (h pins s σ H Q I hw)
theorem Go(ha:PE X a ta)(hb:PE X (.BoolOp .And (b::cP) pos) tb):PE X (.BoolOp .And (a::b::cP) pos) (Ef ta tb):=by
 intro pins s σ H Q I h;refine BoolOp_and (bU (ha pins s σ H _ I h) λv s1 ⟨x,H1,I1,r1,q1⟩=>?_);obtain⟨c,rfl,q1⟩:=q1
 cases r1
 refine RK ?_
 cases c with
 |true=>exact hb pins s1 σ H1 Q I1 q1
 |false=>exact⟨.bl false,H1,I1,Z,q1⟩
theorem Gi(ha:PE X a ta):PE X (.UnaryOp .Not a pos) (D7 ta):=by
 intro pins s σ H Q I h;refine UnaryOp_ (bU (ha pins s σ H _ I h) λv s1 ⟨x,H1,I1,r1,q1⟩=>?_);obtain⟨c,rfl,q1⟩:=q1
 cases r1
 exact not_of (RK ⟨.bl (!c),H1,I1,Z,q1⟩)
def L9(t:TT)(ta tb:TE):TE:=λσ H Q=>t σ H λc H1=>if c=true then ta σ H1 Q else tb σ H1 Q
theorem Ah(hc:PT X c tA)(ha:PE X a ta)(hb:PE X b tb):PE X (.IfExp c a b pos) (L9 tA ta tb):=by
 intro pins s σ H Q I h;refine wpAny_IfExp (bU (hc pins s σ H _ I h) λd s1 ⟨H1,I1,q1⟩=>?_)
 cases d with
 |true=>exact ha pins s1 σ H1 Q I1 q1
 |false=>exact hb pins s1 σ H1 Q I1 q1
end
end L2
namespace L2
open PySem PySem.Spec PyProof.Rows
def aS(K:Oz)(H:Hp)(a:Addr)(xs:List V):Prop:=
 Rd H a (.lst xs)∨
  ∃(o:Ql) (its:Array Value) (n:Nat),K.lookup a=some o/\o.cls=.type "list"/\o.dict=none/\o.data=.seq its n/\its.size≤sizeLine/\be xs its.toList
def bu(K:Oz)(H:Hp)(a:Addr)(xs:List V):Prop:=
 Rd H a (.tup xs)∨
  ∃(o:Ql) (its:Array Value) (n:Nat),K.lookup a=some o/\o.cls=.type "tuple"/\o.data=.seq its n/\its.size≤sizeLine/\be xs its.toList
def LK:Value->Option V
 | .none=>some .non
 | .bool b=>some (.bl b)
 | .int i _=>some (.int i)
 | .str x _=>some (.str x)
 | .bytes b _=>some (.byt b)
 | .float b _=>some (.flt b)
 | .ref a=>some (.ref a)
 | .type n=>some (.ty n)
 |_=>none
theorem RelV.abs(r:RelV x u):LK u=some x:=by
 cases x with
 |non=>cases r;rfl
 |bl _=>cases r;rfl
 |int _=>obtain⟨t,rfl⟩:=r;rfl
 |str _=>obtain⟨t,rfl⟩:=r;rfl
 |byt _=>obtain⟨t,rfl⟩:=r;rfl
 |flt _=>obtain⟨t,rfl⟩:=r;rfl
 |ref _=>cases r;rfl
 |ty _=>cases r;rfl
theorem RelV.inj(r:RelV x u)(q:RelV y u):x=y:=P6 (r.abs.symm.trans q.abs)
theorem be.inj:∀{xs ys:List V} {us:List Value},be xs us->be ys us->xs=ys
 |_,_,_,.nil,.nil=>rfl
 |_,_,_,.cons r t,.cons r' t'=>by rw[r.inj r',be.inj t t']
section
variable {X:Cx}{pins:List (Addr×Ql)}{σ:St}{H:Hp}{s:OI}{a:Addr}{xs ys:List V}
theorem aS.of{K:Oz}(h:H a=some (.lst xs)):aS K H a xs:=.inl (.inl h)
theorem bu.of{K:Oz}(h:H a=some (.tup xs)):bu K H a xs:=.inl (.inl h)
theorem Inv.list(I:Inv X pins σ H s)(h:aS X.K H a xs):∃its:List Value,be xs its/\PlainL s.heap a its.toArray/\xs.length≤sizeLine:=by
 rcases h with h | ⟨o,its,n,hk,hc,hd,hs,hz,r⟩
 ·obtain⟨z,its,n,r,e⟩:=h.ok I.hok;exact⟨its,r,⟨_,n,e,Z,Z,Z⟩,z⟩
 ·refine⟨its.toList,r,⟨o,n,I.kIn a o hk,hc,hd,by simpa using hs⟩,?_⟩;have e:=r.length;simp only[Qx] at e;omega
theorem Inv.tuple(I:Inv X pins σ H s)(h:bu X.K H a xs):∃its:List Value,be xs its/\XF s.heap a its.toArray/\xs.length≤sizeLine:=by
 rcases h with h | ⟨o,its,n,hk,hc,hs,hz,r⟩
 ·obtain⟨z,its,r,p⟩:=h.ok I.hok;exact⟨its,r,p,z⟩
 ·refine⟨its.toList,r,⟨o,I.kIn a o hk,hc,n,by simpa using hs⟩,?_⟩;have e:=r.length;simp only[Qx] at e;omega
theorem Inv.list_inj(I:Inv X pins σ H s)(h:aS X.K H a xs)(h':aS X.K H a ys):xs=ys:=by
 obtain⟨its,r,⟨o,n,e,_,_,d⟩,_⟩:=I.list h;obtain⟨its',r',⟨o',n',e',_,_,d'⟩,_⟩:=I.list h';rw[e] at e';cases e';rw[d] at d';injection d' with d1 _;have:its=its':=by simpa using congrArg Array.toList d1
 subst this;exact r.inj r'
theorem Inv.tuple_inj(I:Inv X pins σ H s)(h:bu X.K H a xs)(h':bu X.K H a ys):xs=ys:=by
 obtain⟨its,r,⟨o,e,_,n,d⟩,_⟩:=I.tuple h;obtain⟨its',r',⟨o',e',_,n',d'⟩,_⟩:=I.tuple h';rw[e] at e';cases e';rw[d] at d';injection d' with d1 _;have:its=its':=by simpa using congrArg Array.toList d1
 subst this;exact r.inj r'
end
abbrev Cx.wish(X:Cx)(E:Value->OI->Prop):Cx:={ X with xe:=E}
abbrev Cx.nox(X:Cx):Cx:=X.wish λ_ _=>False
theorem Cx.Ok.wish{X:Cx}(ok:X.Ok)(E:Value->OI->Prop):(X.wish E).Ok:=
 ⟨ok.mod,ok.kind,ok.glob,ok.blt,ok.above,ok.inj,ok.has,ok.cab,ok.hd,ok.frames,ok.stk,ok.exf,ok.bs,ok.bsz,ok.noex,ok.exfs,ok.funs,ok.frf⟩
theorem Cx.Ok.unwish{X:Cx}(ok:(X.wish E).Ok):X.Ok:=
 ⟨ok.mod,ok.kind,ok.glob,ok.blt,ok.above,ok.inj,ok.has,ok.cab,ok.hd,ok.frames,ok.stk,ok.exf,ok.bs,ok.bsz,ok.noex,ok.exfs,ok.funs,ok.frf⟩
section
variable {X:Cx}{pins:List (Addr×Ql)}{σ:St}{H:Hp}{s:OI}{E:Value->OI->Prop}
theorem Inv.wish(I:Inv X pins σ H s)(E:Value->OI->Prop):Inv (X.wish E) pins σ H s:=⟨I.ok.wish E,I.os,I.bare,I.base,I.loc,I.cell,I.free,I.freeC,I.pin,I.hok,I.len⟩
theorem Inv.unwish(I:Inv (X.wish E) pins σ H s):Inv X pins σ H s:=⟨I.ok.unwish,I.os,I.bare,I.base,I.loc,I.cell,I.free,I.freeC,I.pin,I.hok,I.len⟩
theorem SP.unwish(h:SP (X.wish E) pins D f s'):SP X pins D f s':=by
 cases f with
 |next=>obtain⟨σ',H',I,q⟩:=h;exact⟨σ',H',I.unwish,q⟩
 |brk=>obtain⟨σ',H',I,q⟩:=h;exact⟨σ',H',I.unwish,q⟩
 |cont=>obtain⟨σ',H',I,q⟩:=h;exact⟨σ',H',I.unwish,q⟩
 |ret u=>obtain⟨v,σ',H',I,r,q⟩:=h;exact⟨v,σ',H',I.unwish,r,q⟩
theorem rS.nox{st:List Stmt}(h:rS X.nox st t):rS X st t:=λpins s σ H D I hw=>
 Qp (h pins s σ H D (I.wish _) hw) (λ_ _ q=>q.unwish) λ_ _ z=>Qy z
end
section
variable {X:Cx}{st:Stmt}{cP:List Stmt}{t u:TS}{e:PD}{te:TE}{pos:So}
def D8:TS:=λD σ H=>D.nx σ H
def EU(t u:TS):TS:=λD σ H=>t { D with nx:=u D} σ H
theorem CB:rS X [] D8:=λ_ _ σ H _ I h=>TB ⟨σ,H,I,h⟩
theorem zV(h1:PS X st t)(h2:rS X cP u):rS X (st::cP) (EU t u):=by
 intro pins s σ H D I h;refine WV (bU (h1 pins s σ H { D with nx:=u D} I h) λf s1 q=>?_)
 cases f with
 |next=>
  obtain⟨σ',H',I',q⟩:=q;exact h2 pins s1 σ' H' D I' q
 |ret v=>exact q
 |brk=>exact q
 |cont=>exact q
theorem CA(h1:PS X st t):rS X [st] t:=by
 intro pins s σ H D I h;refine WV (bU (h1 pins s σ H D I h) λf s1 q=>?_)
 cases f with
 |next=>exact TB q
 |ret v=>exact q
 |brk=>exact q
 |cont=>exact q
def Lb:TS:=λD σ H=>D.bk σ H
def Ed:TS:=λD σ H=>D.ct σ H
theorem qT:PS X (.Continue pos) Ed:=λ_ _ σ H _ I h=>wpAny_Continue ⟨σ,H,I,h⟩
theorem Inv.quiet{pins:List (Addr×Ql)}{σ:St}{H:Hp}{s:OI}(I:Inv X pins σ H s):interactive X.env=false:=by simp[interactive,I.ok.kind]
def Ea(te:TE):TS:=λD σ H=>te σ H λ_ H1=>D.nx σ H1
theorem CF(he:PE X e te)(hs:Rq e none pos.line X.env=QP false:=by rfl):PS X (.Expr e pos) (Ea te):=by
 intro pins s σ H D I h;exact wpAny_Expr_any (bU (he pins s σ H _ I h) λv s1 ⟨x,H1,I1,r1,q1⟩=>⟨σ,H1,I1,q1⟩) I.quiet hs
def IM(te:TE):TS:=λD σ H=>te σ H D.rt
theorem F4(he:PE X e te):PS X (.Return (some e) pos) (IM te):=by
 intro pins s σ H D I h;exact wpAny_Return_some (bU (he pins s σ H _ I h) λv s1 ⟨x,H1,I1,r1,q1⟩=>⟨x,σ,H1,I1,r1,q1⟩)
def L6:TS:=λD _ H=>D.rt .non H
def IR(c:TT)(t u:TS):TS:=λD σ H=>c σ H λb H1=>if b=true then t D σ H1 else u D σ H1
theorem Js(hc:PT X c tc)(ha:rS X a t)(hb:rS X b u):PS X (.If c a b pos) (IR tc t u):=by
 intro pins s σ H D I h;refine wpAny_If (bU (hc pins s σ H _ I h) λd s1 ⟨H1,I1,q1⟩=>?_)
 cases d with
 |true=>exact ha pins s1 σ H1 D I1 q1
 |false=>exact hb pins s1 σ H1 D I1 q1
def xT:TS:=λ_ _ _=>False
theorem zY:PS X st xT:=λ_ _ _ _ _ _ h=>h.elim
end
abbrev TG:=V->St->Hp->(St->Hp->Prop)->Prop
abbrev xp:=List V->St->Hp->(St->Hp->Prop)->Prop
def PG(X:Cx)(target:PD)(t:TG):Prop:=
 ∀(pins:List (Addr×Ql)) (s:OI) (σ:St) (H:Hp) (v:V) (u:Value) (Q:St->Hp->Prop),Inv X pins σ H s->RelV v u->t v σ H Q→
  OY (O3 X.prog X.w) X.A (Tn target X.env u) (λ_ s'=>∃σ' H',Inv X pins σ' H' s'/\Q σ' H') X.xe s
def IA(X:Cx)(ts:List PD)(t:xp):Prop:=
 ∀(pins:List (Addr×Ql)) (s:OI) (σ:St) (H:Hp) (vs:List V) (us:List Value) (Q:St->Hp->Prop),Inv X pins σ H s->be vs us->t vs σ H Q→
  OY (O3 X.prog X.w) X.A (VX ((QY ts X.env).map (·.2)) us) (λ_ s'=>∃σ' H',Inv X pins σ' H' s'/\Q σ' H') X.xe s
abbrev Bz:=V->V->V->Hp->(Hp->Prop)->Prop
def HX(X:Cx)(t:Bz):Prop:=
 ∀(pins:List (Addr×Ql)) (s:OI) (σ:St) (H:Hp) (o i v:V) (ov iv u:Value) (Q:Hp->Prop),Inv X pins σ H s->RelV o ov->RelV i iv->RelV v u->t o i v H Q→
  OY (O3 X.prog X.w) X.A (Yj ov iv u) (λ_ s'=>∃H',Inv X pins σ H' s'/\Q H') X.xe s
abbrev Iy:=V->V->Hp->VK->Prop
def LO(X:Cx)(op:XI)(t:Iy):Prop:=
 ∀(pins:List (Addr×Ql)) (s:OI) (σ:St) (H:Hp) (x y:V) (v u:Value) (Q:VK),Inv X pins σ H s->RelV x v->RelV y u->t x y H Q→
  OY (O3 X.prog X.w) X.A (Ye op v u) (EP X pins σ Q) X.xe s
section
variable {X:Cx}{pos:So}
def jq(i:Nat):TG:=λv σ H Q=>Q (σ.set i (some v)) H
theorem CP{i:Nat}{x:Pf}(hN:X.N.Nodup)(hi:X.N[i]?=some x)(hx:xx X.env.scope x)(hf:X.fn x=true∨X.env.scope.names.lookup x=some .local:=by first|exact .inl Z|exact .inr Z|assumption):PG X (.Name x pos) (jq i):=by
 intro pins s σ H v u Q I r h;exact Ut (fG I hN hi hx r (λs' I'=>⟨_,H,I',h⟩) hf)
def JZ:xp:=λvs σ H Q=>vs=[]/\Q σ H
def EC(t:TG)(u:xp):xp:=λvs σ H Q=>∃v r,vs=v::r/\t v σ H λσ' H'=>u r σ' H' Q
theorem CN:IA X [] JZ:=by
 intro pins s σ H vs us Q I r h;obtain⟨e,h⟩:=h;subst e
 cases r
 exact Wo ⟨σ,H,I,h⟩
theorem Aa{e:PD}{es:List PD}{t:TG}{u:xp}(h1:PG X e t)(h2:IA X es u)
  (hs:(QY (e::es) X.env).map (·.2)=Tn e X.env::(QY es X.env).map (·.2):=by rfl):IA X (e::es) (EC t u):=by
 intro pins s σ H vs us Q I r h;obtain⟨v,vr,e1,h⟩:=h;subst e1
 cases r with
 |cons r rr=>
  rw[hs];refine T9 (bU (h1 pins s σ H _ _ _ I r h) λ_ s1 ⟨σ1,H1,I1,q1⟩=>?_);exact h2 pins s1 σ1 H1 _ _ Q I1 rr q1
def Dt(K:Oz)(n:Nat)(t:xp):TG:=λv σ H Q=>∃a xs,v=.ref a/\bu K H a xs/\xs.length=n/\t xs σ H Q
theorem Ab{es:List PD}{k:Nat}{t:xp}{n:Nat}(hc:X.calm=true)(h:IA X es t)
  (hn:(QY es X.env).length=n:=by rfl) (hst:(QY es X.env).findIdx? (·.1)=none:=by rfl):PG X (.Tuple es k pos) (Dt X.K n t):=by
 intro pins s σ H v u Q I r hw;obtain⟨a,xs,e1,hq,hl,hw⟩:=hw;subst e1
 cases r
 obtain⟨its,rv,ht,hz⟩:=I.tuple hq;refine assign_Tuple_tuple (I.ok.hd hc) ht (by simp[hn,←hl,rv.length]) hst λh' hx=>?_
 have I1:Inv X pins σ H { s with heap:=h'}:=I.kept (t':=s.toks) λb o e=>hx b o (PF (OW e)) e
 exact h pins _ σ H xs _ Q I1 (by simpa using rv) hw
def JY(to ti:TE)(t:Bz):TG:=λv σ H Q=>to σ H λo H1=>ti σ H1 λi H2=>t o i v H2 λH3=>Q σ H3
theorem Gc{o i:PD}{to ti:TE}{t:Bz}(ho:PE X o to)(hi:PE X i ti)(hs:HX X t)
  (ha:∀v,Tn (.Subscript o i pos) X.env v=(do
   let ov ←holding [v] (eval o X.env);let iv ←holding [v,ov] (eval i X.env)
   U2 pos
   holding [v,ov,iv] (Yj ov iv v)
   release [v,ov,iv] []):=by intro _;rfl):PG X (.Subscript o i pos) (JY to ti t):=by
 intro pins s σ H v u Q I r h;rw[ha];refine OE (wpAny_holding (bU (ho pins s σ H _ I h) λov s1 ⟨x,H1,I1,r1,q1⟩=>?_));refine OE (wpAny_holding (bU (hi pins s1 σ H1 _ I1 q1) λiv s2 ⟨y,H2,I2,r2,q2⟩=>?_));refine OE (Sq (OE (wpAny_holding (bU (hs pins s2 σ H2 x y v ov iv u _ I2 r1 r2 r q2) λ_ s3 ⟨H3,I3,q3⟩=>?_))));exact wpAny_release ⟨σ,H3,I3,q3⟩
def oO(te:TE)(g:TG):TS:=λD σ H=>te σ H λx H1=>g x σ H1 D.nx
theorem F9{tg e:PD}{te:TE}{g:TG}(he:PE X e te)(hg:PG X tg g)(hs:UD [tg] e pos.line X.env=QP false:=by rfl)(hw:UE [tg] e X.env=QP none:=by rfl)
  (h1:(QY [tg] X.env).map (·.2)=[Tn tg X.env]:=by rfl):PS X (.Assign [tg] e pos) (oO te g):=by
 intro pins s σ H D I h;refine wpAny_Assign_stores (bU (he pins s σ H _ I h) λv s1 ⟨x,H1,I1,r1,q1⟩=>?_) hs hw;rw[h1];exact bU (hg pins s1 σ H1 x v _ I1 r1 q1) λ_ s2 q=>q
theorem F3{i:Nat}{x:Pf}{e:PD}{te:TE}{pos':So}(hN:X.N.Nodup)(hi:X.N[i]?=some x)(hx:xx X.env.scope x)(he:PE X e te)(hs:Rq e (some (.Name x pos')) pos.line X.env=QP false:=by rfl)(hf:X.fn x=true∨X.env.scope.names.lookup x=some .local:=by first|exact .inl Z|exact .inr Z|assumption) :
  PS X (.Assign [.Name x pos'] e pos) (oO te (jq i)):=by
 intro pins s σ H D I h;refine wpAny_Assign_Name (bU (he pins s σ H _ I h) λv s1 ⟨y,H1,I1,r1,q1⟩=>?_) hs;exact fG I1 hN hi hx r1 (λs2 I2=>⟨_,H1,I2,q1⟩) hf
def IN(i j:Nat)(ta:TA):TS:=λD σ H=>ta σ H λvs H1=>∃v w,vs=[v,w]/\D.nx ((σ.set i (some v)).set j (some w)) H1
theorem F5{i j:Nat}{x y:Pf}{a b:PD}{ta:TA}{px py pt:So}{kt k2 pt2}(hc:X.calm=true)(hN:X.N.Nodup)(hi:X.N[i]?=some x)(hj:X.N[j]?=some y)(hij:i≠j)
  (hx:X.env.scope.names.lookup x=some .local) (hy:X.env.scope.names.lookup y=some .local) (ha:PA X [a,b] ta)
  (hw:UE [.Tuple [.Name x px,.Name y py] kt pt] (.Tuple [a,b] k2 pt2) X.env=QP (some [x,y]))
  (hs:UD [.Tuple [.Name x px,.Name y py] kt pt] (.Tuple [a,b] k2 pt2) pos.line X.env=QP false:=by rfl) :
  PS X (.Assign [.Tuple [.Name x px,.Name y py] kt pt] (.Tuple [a,b] k2 pt2) pos) (IN i j ta):=by
 intro pins s σ H D I h;rw[exec_Assign_arm];refine OE (Sq ?_);rw[hs];refine OE (wpAny_pure ?_);rw[if_neg (by decide)];refine OE (Tuple_ (bU (ha _ pins s σ H _ I h) λus s1 ⟨vs,H1,I1,r1,q1⟩=>?_));obtain⟨v,w,e1,q1⟩:=q1;subst e1;obtain⟨u1,u2,rfl,rv,rw'⟩:∃u1 u2,us=[u1,u2]/\RelV v u1/\RelV w u2:=by
  cases r1 with
  |cons p q=>
   cases q with
   |cons p' q'=>
    cases q'
    exact⟨_,_,Z,p,p'⟩
 refine P8 ?_ jB;have I2:Inv X pins σ H1 { s1 with heap:=s1.heap.push { cls:=.type "tuple",data:=.seq [u1,u2].toArray} }:=I1.kept (t':=s1.toks) λb o e=>OG _ e
 rw[hw];refine OE (wpAny_pure ?_);show OY (O3 X.prog X.w) X.A (do rule "assign.swapped-stores";let items ←unpackItems (.ref s1.heap.objs.size) 2 none;VX [λv=>XJ X.env y v,λv=>XJ X.env x v] items.reverse;QP WW) _ _ _;refine OE (XM (OE (unpackItems_tuple (items:=#[u1,u2]) (I.ok.hd hc) (WX s1.heap _) λh' hx'=>?_)));have I3:=I2.kept (h':=h') (t':=s1.toks) λb o e=>hx' b o (PF (OW e)) e
 show OY _ _ (VX [λv=>XJ X.env y v,λv=>XJ X.env x v] [u2,u1] >>= λ_=>QP WW) _ _ _;refine OE (T9 (wpAny_bindName (fG I3 hN hj (.inl hy) rw' (λs2 I4=>?_) (.inr hy))));refine T9 (wpAny_bindName (fG I4 hN hi (.inl hx) rv (λs3 I5=>Wo (wpAny_pure ?_)) (.inr hx)));rw[List.set_comm _ _ (R9 hij)] at I5;exact⟨_,H1,I5,q1⟩
def IU(i:Nat)(te:TE)(ti:Iy):TS:=λD σ H=>∃x,σ[i]?=some (some x)/\te σ H λy H1=>ti x y H1 λz H2=>D.nx (σ.set i (some z)) H2
theorem F8{i:Nat}{x:Pf}{e:PD}{te:TE}{op:XI}{ti:Iy}{pos':So}(hN:X.N.Nodup)(hi:X.N[i]?=some x)(hx:xx X.env.scope x)(he:PE X e te)(ho:LO X op ti)(hf:X.fn x=true∨X.env.scope.names.lookup x=some .local:=by first|exact .inl Z|exact .inr Z|assumption) :
  PS X (.AugAssign (.Name x pos') op e pos) (IU i te ti):=by
 intro pins s σ H D I h;obtain⟨v,e1,h⟩:=h;obtain⟨m,hn,hl⟩:=I.loc;have vis:J9 X.env.scope x:=by rcases hx with k|k;exact .inl k;exact .inr (.inl k)
 obtain⟨u,r,l⟩:=hl i x v hi e1 vis;refine wpAny_AugAssign_Name ?_;have go:OY (O3 X.prog X.w) X.A (eval e X.env) (λw s₂=>OY (O3 X.prog X.w) X.A (Ye op u w) (λr s₃=>OY (O3 X.prog X.w) X.A (Yd X.env x r) (λ_=>SP X pins D .next) X.xe s₃) X.xe s₂) X.xe s:=by
  refine bU (he pins s σ H _ I h) λw s1 ⟨y,H1,I1,r1,q1⟩=>?_
  refine bU (ho pins s1 σ H1 v y u w _ I1 r r1 q1) λz s2 ⟨zv,H2,I2,r2,q2⟩=>?_
  exact fG I2 hN hi hx r2 (λs3 I3=>⟨_,H2,I3,q2⟩) hf
 rcases l with⟨hk,hm⟩ | ⟨hk,c,hc,hcell⟩
 ·exact Vx I.ok.kind hk hn hm go
 ·rcases hk with hk|hk
  ·exact VP I.ok.kind hk hc hcell go
  ·rcases hx with k|k
   ·have:X.env.scope.names.lookup x=some .free:=hk;rw[k] at this;cases this
   ·have:X.env.scope.names.lookup x=some .free:=hk;rw[k] at this;cases this
def Mc(to ti te:TE)(tget:V->V->Hp->VK->Prop)(tip:Iy)(tset:Bz):TS:=λD σ H=>to σ H λo H1=>ti σ H1 λi H2=>tget o i H2 λx H3=>te σ H3 λy H4=>tip x y H4 λz H5=>tset o i z H5 λH6=>D.nx σ H6
def NX(X:Cx)(t:V->V->Hp->VK->Prop):Prop:=
 ∀(pins:List (Addr×Ql)) (s:OI) (σ:St) (H:Hp) (o i:V) (ov iv:Value) (Q:VK),Inv X pins σ H s->RelV o ov->RelV i iv->t o i H Q→
  OY (O3 X.prog X.w) X.A (S2 ov iv) (EP X pins σ Q) X.xe s
def NG(f:Int->Int->Int):Iy:=λx y H Q=>∃i j,x=.int i/\y=.int j/\Q (.int (f i j)) H
theorem Hm:LO X .Sub (NG λi j=>i-j):=by
 intro pins s σ H x y v u Q I r1 r2 h;obtain⟨i,j,e1,e2,q⟩:=h;subst e1;subst e2;obtain⟨t,rfl⟩:=r1;obtain⟨t',rfl⟩:=r2;exact isub_int ⟨.int _,H,I.tok _,⟨_,Z⟩,q⟩
end
section
variable {X:Cx}{pos:So}
def xR(c:TT)(tb:TS):TS:=λD σ H=>∃W:Nat->St->Hp->Prop,(∃m,W m σ H)/\∀m σ H,W m σ H→
 c σ H λb H1=>if b=true then ∃N:St->Hp->Prop,(∀σ' H',N σ' H'->∃m',m'<m/\W m' σ' H')/\tb { D with nx:=N,ct:=N,bk:=D.nx} σ H1 else D.nx σ H1
theorem zW(hp:PP (O3 X.prog X.w) X.A X.env X.xe)(hc:PT X c tc)(hb:rS X body tb):PS X (.While c body [] pos) (xR tc tb):=by
 intro pins s σ H D I h;obtain⟨W,⟨m0,w0⟩,turn⟩:=h;refine wpAny_While (codeAny_whileLoop (λn s'=>∃σ' H',Inv X pins σ' H' s'/\W n σ' H') ?_ m0 ⟨σ,H,I,w0⟩);rintro n s1 ⟨σ1,H1,I1,w1⟩;refine RJ hp (bU (hc pins s1 σ1 H1 _ I1 (turn n σ1 H1 w1)) λb s2 ⟨H2,I2,q2⟩=>?_)
 cases b with
 |true=>
  obtain⟨N,hN,q2⟩:=q2;rw[if_pos Z];refine RJ hp (bU (hb pins s2 σ1 H2 _ I2 q2) λf s3 q3=>?_)
  cases f with
  |next=>
   obtain⟨σ3,H3,I3,n3⟩:=q3;obtain⟨m',hm,w3⟩:=hN σ3 H3 n3;exact⟨m',hm,σ3,H3,I3,w3⟩
  |cont=>
   obtain⟨σ3,H3,I3,n3⟩:=q3;obtain⟨m',hm,w3⟩:=hN σ3 H3 n3;exact⟨m',hm,σ3,H3,I3,w3⟩
  |brk=>exact q3
  |ret v=>exact q3
 |false=>
  rw[if_neg O1];exact TB ⟨σ1,H2,I2,q2⟩
end
structure It where
 go:Nat->Hp->Prop
 yld:Nat->Hp->V->Hp->Prop
 stop:Nat->Hp->Prop
def gE(X:Cx)(pins:List (Addr×Ql))(H:Hp)(b:Addr):Prop:=
 H b=none/\b≠X.env.locals/\b∉X.fs/\(b∈X.ex∨X.s₀.heap.get? b=none)/\(∀x c,X.env.cells.lookup x=some c->c≠b)/\∀p∈X.pn++pins,p.1≠b
theorem Inv.fpOk{X:Cx}{pins:List (Addr×Ql)}{σ:St}{H H':Hp}{s:OI}{b:Addr}(I:Inv X pins σ H s)(hb:s.heap.objs.size≤b)(hn:H' b=none):gE X pins H' b:=by
 refine⟨hn,RL (O5 I.lt hb),I.nofs hb,.inr (Qo (O7 I.sz hb)),λx c e z=>?_,λp hp z=>?_⟩
 ·obtain⟨v,q⟩:=I.cell x c e;exact absurd (O5 q.lt (by rw[z];exact hb)) (PL _)
 ·exact absurd (O5 (OW (I.pin p hp).1) (by rw[z];exact hb)) (PL _)
structure rP(P:Po)(w:PM)(K:Oz)(tg:PD)(J:It)(fp:List Addr)(it:Addr)(tn:Nat->OR->Prop):Prop where
 mem:it∈fp
 obj:∀i h,tn i h->∀b∈fp,∃o,h.get? b=some o/\∀v,o.data≠.cell v
 keep:∀i h h',tn i h->(∀b∈fp,∀o,h.get? b=some o->h'.get? b=some o)->tn i h'
 item:∀(X:Cx),X.prog=P->X.w=w->X.K=K->X.calm=true->∀(i:Nat) (pins:List (Addr×Ql)) (s:OI) (σ:St) (H:Hp) (E:Value->OI->Prop),Inv X pins σ H s->(∀b∈fp,gE X pins H b)->tn i s.heap->J.go i H→
  OY (O3 P w) X.A (Yk (.ref it)) (λr s1=>∃u,r=some u∧
   OY (O3 P w) X.A (TC tg (.ref it) u) (λ_ s2=>∃x H',Inv X pins σ H' s2/\RelV x u/\J.yld i H x H'/\tn (i+1) s2.heap/\∀b∈fp,H' b=none) E s1) E s
 done:∀(X:Cx),X.prog=P->X.w=w->X.K=K->X.calm=true->∀(i:Nat) (pins:List (Addr×Ql)) (s:OI) (σ:St) (H:Hp) (E:Value->OI->Prop),Inv X pins σ H s->(∀b∈fp,gE X pins H b)->tn i s.heap->J.stop i H→
  OY (O3 P w) X.A (Yk (.ref it)) (λr s1=>r=none/\Inv X pins σ H s1) E s
 self:∀(A:PB) (i:Nat) (s:OI) (Q:Value->OI->Prop) (E:Value->OI->Prop),tn i s.heap->Q (.ref it) s->OY (O3 P w) A (Yl (.ref it)) Q E s
abbrev TI:=St->Hp->(It->Hp->Prop)->Prop
def MS(X:Cx)(pins:List (Addr×Ql))(σ:St)(tg:PD)(R:It->Hp->Prop)(itv:Value)(s2:OI):Prop:=
 ∃(it:Addr) (fp:List Addr) (tn:Nat->OR->Prop) (J:It) (H':Hp),itv=.ref it/\Inv X pins σ H' s2/\rP X.prog X.w X.K tg J fp it tn/\tn 0 s2.heap/\(∀b∈fp,gE X pins H' b)/\R J H'
def PI(X:Cx)(tg iter:PD)(wi:TI):Prop:=
 ∀(pins:List (Addr×Ql)) (s:OI) (σ:St) (H:Hp) (R:It->Hp->Prop),Inv X pins σ H s->wi σ H R→
  OY (O3 X.prog X.w) X.A (eval iter X.env) (λv s1=>OY (O3 X.prog X.w) X.A (Yl v) (MS X pins σ tg R) X.xe s1) X.xe s
theorem uZ(ho:s.heap.get? it=some o)(hc:o.cls=.type n)(hd:o.data=.fields vs)
  (hn:["enumerate","zip","dict_itemiterator","dict_reverseitemiterator","odict_iterator","itertools.zip_longest","itertools.pairwise"].contains n=false) (hQ:Q () s):OY M A (TC tg (.ref it) u) Q E s:=by
 unfold TC
 cases tg<;>first
  |exact wpAny_pure hQ
  | (cases u<;>first
    |exact wpAny_pure hQ
    | (refine OE (wpAny_load ho ?_)
       rw[hc,hd];show OY M A (if(["enumerate","zip","dict_itemiterator","dict_reverseitemiterator","odict_iterator","itertools.zip_longest","itertools.pairwise"].contains n&&vs[0]?==some (rawInt _))=true then _ else _) Q E s;rw[if_neg (by intro h;rw[hn,Ri] at h;cases h)];exact wpAny_pure hQ))
def xA(K:Oz)(a:Addr):It:=
 ⟨λi H=>∃xs x,aS K H a xs/\xs[i]?=some x,λi H x H'=>H'=H/\∀xs,aS K H a xs->xs[i]?=some x,λi H=>∃xs,aS K H a xs/\xs.length≤i⟩
def BO(K:Oz)(a:Addr):It:=
 ⟨λi H=>∃xs x,bu K H a xs/\xs[i]?=some x,λi H x H'=>H'=H/\∀xs,bu K H a xs->xs[i]?=some x,λi H=>∃xs,bu K H a xs/\xs.length≤i⟩
def EN(lo:Int)(n:Nat):It:=⟨λi _=>i<n,λi H x H'=>H'=H/\x=.int (lo+i),λi _=>n≤i⟩
theorem nA{P:Po}{w:PM}{K:Oz}{tg:PD}(a it:Addr):rP P w K tg (xA K a) [it] it (λi h=>h.IsListIter it a i) where
 mem:=by simp
 obj:=λi h st b hb=>by
  have e:b=it:=by simpa using hb
  subst e;obtain⟨o,e,c,d⟩:=st;exact⟨o,e,λv z=>by rw[d] at z;cases z⟩
 keep:=λi h h' st k=>st.at λo e=>k it (by simp) o e
 item:=by
  intro X hP hw hK hc i pins s σ H E I hf st hg;subst hP hw hK;obtain⟨xs,x,hq,hx⟩:=hg;obtain⟨its,rv,p,hz⟩:=I.list hq;obtain⟨u,hu,ru⟩:=rv.get hx;obtain⟨f0,f1,f2,f3,f4,f5⟩:=hf it (by simp);refine wpAny_pyNext_list_item st p.isList (x:=u) (by simpa using hu) λh' st' sb=>?_
  have I1:Inv X pins σ H { s with heap:=h'}:=I.turned (t':=s.toks) (λb o hb e=>(sb.2 b hb).trans e) f0 f1 f3 f4 f5;obtain⟨o,e,c,d⟩:=id st';exact⟨u,Z,uZ (s:={ s with heap:=h'}) e c d (by decide) ⟨x,H,I1,ru,⟨rfl,λys hy=>by rw[I.list_inj hy hq];exact hx⟩,st',λb hb=>(hf b hb).1⟩⟩
 done:=by
  intro X hP hw hK hc i pins s σ H E I hf st hg;subst hP hw hK;obtain⟨xs,hq,hx⟩:=hg;obtain⟨its,rv,p,hz⟩:=I.list hq;obtain⟨f0,f1,f2,f3,f4,f5⟩:=hf it (by simp);have hl:=rv.length;exact wpAny_pyNext_list_end (I.ok.hd hc) st p.isList (by simp;omega) λh' eb=>⟨Z,I.turned (t':=s.toks) (λb o hb e=>eb b o hb e) f0 f1 f3 f4 f5⟩
 self:=λ_ _ _ _ _ st h=>wpAny_pyIter_listiter st h
theorem lg{P:Po}{w:PM}{K:Oz}{tg:PD}(a it:Addr):rP P w K tg (BO K a) [it] it (λi h=>h.IsTupleIter it a i) where
 mem:=by simp
 obj:=λi h st b hb=>by
  have e:b=it:=by simpa using hb
  subst e;obtain⟨o,e,c,d⟩:=st;exact⟨o,e,λv z=>by rw[d] at z;cases z⟩
 keep:=λi h h' st k=>st.at λo e=>k it (by simp) o e
 item:=by
  intro X hP hw hK hc i pins s σ H E I hf st hg;subst hP hw hK;obtain⟨xs,x,hq,hx⟩:=hg;obtain⟨its,rv,p,hz⟩:=I.tuple hq;obtain⟨u,hu,ru⟩:=rv.get hx;obtain⟨f0,f1,f2,f3,f4,f5⟩:=hf it (by simp);refine wpAny_pyNext_tuple_item st (show s.heap.IsTuple a its.toArray from p) (x:=u) (by simpa using hu) λh' st' sb=>?_
  have I1:Inv X pins σ H { s with heap:=h'}:=I.turned (t':=s.toks) (λb o hb e=>(sb.2 b hb).trans e) f0 f1 f3 f4 f5;obtain⟨o,e,c,d⟩:=id st';exact⟨u,Z,uZ (s:={ s with heap:=h'}) e c d (by decide) ⟨x,H,I1,ru,⟨rfl,λys hy=>by rw[I.tuple_inj hy hq];exact hx⟩,st',λb hb=>(hf b hb).1⟩⟩
 done:=by
  intro X hP hw hK hc i pins s σ H E I hf st hg;subst hP hw hK;obtain⟨xs,hq,hx⟩:=hg;obtain⟨its,rv,p,hz⟩:=I.tuple hq;obtain⟨f0,f1,f2,f3,f4,f5⟩:=hf it (by simp);have hl:=rv.length;exact wpAny_pyNext_tuple_end (I.ok.hd hc) st (show s.heap.IsTuple a its.toArray from p) (by simp;omega) λh' eb=>⟨Z,I.turned (t':=s.toks) (λb o hb e=>eb b o hb e) f0 f1 f3 f4 f5⟩
 self:=λ_ _ _ _ _ st h=>wpAny_pyIter_tupleiter st h
theorem rX{P:Po}{w:PM}{K:Oz}{tg:PD}(it:Addr)(lo:Int)(n:Nat):rP P w K tg (EN lo n) [it] it (λi h=>Vy h it (lo+(i:Nat)*1) ((n:Int)-(i:Nat)) 1) where
 mem:=by simp
 obj:=λi h st b hb=>by
  have e:b=it:=by simpa using hb
  subst e;exact⟨_,st,λv z=>by
   have z':Uu _=VI v:=z
   cases z'⟩
 keep:=λi h h' st k=>k it (by simp) _ st
 item:=by
  intro X hP hw hK hc i pins s σ H E I hf st hg;subst hP hw hK;obtain⟨f0,f1,f2,f3,f4,f5⟩:=hf it (by simp);have W:=Walks.range (prog:=X.prog) (w:=X.w) (I.ok.hd hc) it lo 1 n;refine W.item i s _ _ hg st λv h' tk hv st' kk=>?_
  obtain⟨t,rfl⟩:=hv;have I1:Inv X pins σ H { s with heap:=h',toks:=tk}:=I.turned (λb o hb e=>kk b o (by simpa using hb) e) f0 f1 f3 f4 f5;refine⟨_,rfl,uZ (s:={ s with heap:=h',toks:=tk}) (n := "range_iterator") st' rfl rfl (by decide) ⟨.int (lo+i),H,I1,⟨t,?_⟩,⟨rfl,rfl⟩,st',λb hb=>(hf b hb).1⟩⟩;rw[Xg]
 done:=by
  intro X hP hw hK hc i pins s σ H E I hf st hg;subst hP hw hK;obtain⟨f0,f1,f2,f3,f4,f5⟩:=hf it (by simp);exact U3 (I.ok.hd hc) st (by have:n≤i:=hg;omega) λh' eb=>⟨Z,I.turned (t':=s.toks) (λb o hb e=>eb b o hb e) f0 f1 f3 f4 f5⟩
 self:=λ_ _ _ _ _ st h=>U4 st h
end L2
namespace L2
open PySem PySem.Spec PyProof.Rows
section
variable {X:Cx}{tg:PD}
def AW(K:Oz)(tl:TE):TI:=λσ H R=>tl σ H λx H1=>∃a,x=.ref a/\(∃xs,aS K H1 a xs)/\R (xA K a) H1
def JS(K:Oz)(tl:TE):TI:=λσ H R=>tl σ H λx H1=>∃a,x=.ref a/\(∃xs,bu K H1 a xs)/\R (BO K a) H1
theorem CL(hl:PE X l tl):PI X tg l (AW X.K tl):=by
 intro pins s σ H R I h;refine bU (hl pins s σ H _ I h) λv s1 ⟨x,H1,I1,r1,q1⟩=>?_
 obtain⟨a,e,⟨xs,hq⟩,q⟩:=q1;subst e
 cases r1
 obtain⟨its,rv,p,hz⟩:=I1.list hq;refine Uv p.isList ?_;refine⟨s1.heap.objs.size,[s1.heap.objs.size],_,_,H1,Z,I1.kept (t':=s1.toks) λb o e=>OG _ e,nA a _,⟨_,O4 _ Z,Z,Z⟩,λb hb=>?_,q⟩;have e:b=s1.heap.objs.size:=by simpa using hb
 subst e;exact I1.fpOk (OC _) (I1.hok.fresh (OC _))
theorem Ga(hl:PE X l tl):PI X tg l (JS X.K tl):=by
 intro pins s σ H R I h;refine bU (hl pins s σ H _ I h) λv s1 ⟨x,H1,I1,r1,q1⟩=>?_
 obtain⟨a,e,⟨xs,hq⟩,q⟩:=q1;subst e
 cases r1
 obtain⟨its,rv,p,hz⟩:=I1.tuple hq;refine Sc (show s1.heap.IsTuple a its.toArray from p) ?_;refine⟨s1.heap.objs.size,[s1.heap.objs.size],_,_,H1,Z,I1.kept (t':=s1.toks) λb o e=>OG _ e,lg a _,⟨_,O4 _ Z,Z,Z⟩,λb hb=>?_,q⟩;have e:b=s1.heap.objs.size:=by simpa using hb
 subst e;exact I1.fpOk (OC _) (I1.hok.fresh (OC _))
theorem zK{pins:List (Addr×Ql)}{σ:St}{H:Hp}{s:OI}{R:It->Hp->Prop}{E:Value->OI->Prop}{lo hi:Int}{t u v:Ys}{tk:Nat}(I:Inv X pins σ H s)(h1:-(2^62)≤lo)(h2:lo<2^62)(h3:-(2^62)≤hi)(h4:hi<2^62)
  (q:R (EN lo (hi-lo).toNat) H):OY (O3 X.prog X.w) X.A (Yl (.ref s.heap.objs.size)) (MS X pins σ tg R) E { s with heap:=s.heap.push { cls:=.type "range",data:=.fields #[.int lo t,.int hi u,.int 1 v]},toks:=tk}:=by
 refine V9 (VJ.new ..) (Yg h1 h2 h3 h4) ?_;have I1:Inv X pins σ H { s with heap:=s.heap.push { cls:=.type "range",data:=.fields #[.int lo t,.int hi u,.int 1 v]},toks:=tk}:=I.kept λb o e=>OG _ e
 refine⟨(s.heap.push { cls:=.type "range",data:=.fields #[.int lo t,.int hi u,.int 1 v]}).objs.size,[(s.heap.push { cls:=.type "range",data:=.fields #[.int lo t,.int hi u,.int 1 v]}).objs.size],_,_,H,Z,
  I1.kept (t':=tk) λb o e=>OG _ e,rX _ lo (hi-lo).toNat,?_,λb hb=>?_,q⟩
 ·have e1:lo+((0:Nat):Int)*1=lo:=by simp
  have e2:(((hi-lo).toNat:Nat):Int)-((0:Nat):Int)=Qc lo hi 1:=by rw[rangeSize_one];split<;>omega
  show Vy _ _ (lo+((0:Nat):Int)*1) ((((hi-lo).toNat:Nat):Int)-((0:Nat):Int)) 1;rw[e1,e2];exact O4 _ Z
 ·have e:b=(s.heap.push { cls:=.type "range",data:=.fields #[.int lo t,.int hi u,.int 1 v]}).objs.size:=by simpa using hb
  subst e;exact I1.fpOk (OC _) (I1.hok.fresh (OC _))
def EB(ta:TA):TI:=λσ H R=>ta σ H λvs H1=>∃j:Int,vs=[.int j]/\-(2^62)≤j/\j<2^62/\R (EN 0 j.toNat) H1
def ME(ta:TA):TI:=λσ H R=>ta σ H λvs H1=>∃i j:Int,vs=[.int i,.int j]/\(-(2^62)≤i/\i<2^62/\-(2^62)≤j/\j<2^62)/\R (EN i (j-i).toNat) H1
theorem wc{a:PD}{ta:TA}{p pos:So}(hg:Gl X "range")(hm:X.mg "range"=none)(ha:PA X [a] ta)(hs:OS [a] X.env=[(false,eval a X.env)]:=by rfl):PI X tg (.Call (.Name "range" p) [a] [] pos) (EB ta):=by
 intro pins s σ H R I h;refine Call_ (gT I hg hm XO (Qj (bU (ha pos pins s σ H _ I h) λus s1 ⟨vs,H1,I1,r1,q1⟩=>?_) hs Z));obtain⟨j,e,q1,q2,q⟩:=q1;subst e
 cases r1 with
 |cons r rr=>
  cases rr
  obtain⟨t,rfl⟩:=r;exact call_range_1 (zK I1 (by omega) (by omega) q1 q2 (by simpa using q))
def IS(wi:TI)(g:TG)(tb:TS):TS:=λD σ H=>wi σ H λJ H1=>∃W:Nat->Nat->St->Hp->Prop,(∃m,W 0 m σ H1)/\∀i m σ H,W i m σ H→
 (J.stop i H/\D.nx σ H)∨(J.go i H/\∃N:St->Hp->Prop,(∀σ' H',N σ' H'->∃m',m'<m/\W (i+1) m' σ' H')/\∀x H',J.yld i H x H'->g x σ H' λσ2 H2=>tb { D with nx:=N,ct:=N,bk:=D.nx} σ2 H2)
def jT(fp:List Addr)(h:OR):List (Addr×Ql):=fp.filterMap λb=>(h.get? b).map λo=>(b,o)
theorem eI(hb:b∈fp)(e:h.get? b=some o):(b,o)∈jT fp h:=Wa.mpr ⟨b,hb,by rw[e];rfl⟩
theorem wg(hp:p∈jT fp h):p.1∈fp/\h.get? p.1=some p.2:=by
 obtain⟨b,hb,e⟩:=Wa.mp hp
 cases q:h.get? b with
 |none=>rw[q] at e;cases e
 |some o=>
  rw[q] at e;have e':(b,o)=p:=P6 e;subst e';exact⟨hb,q⟩
theorem Inv.pinned{pins:List (Addr×Ql)}{σ:St}{H:Hp}{s:OI}{fp:List Addr}(I:Inv X pins σ H s)(hf:∀b∈fp,gE X pins H b)(ho:∀b∈fp,∃o,s.heap.get? b=some o/\∀v,o.data≠.cell v):Inv X (pins++jT fp s.heap) σ H s:=
 I.pins_of λp hp=>(Pn.mp hp).elim (λz=>I.pin p (OX _ z)) λz=>by
  obtain⟨hb,e⟩:=wg z;obtain⟨f0,f1,f2,_⟩:=hf p.1 hb;obtain⟨o,e',d⟩:=ho p.1 hb;rw[e] at e';cases e';exact⟨e,f0,f1,f2,d⟩
theorem Inv.unpinned{pins pl:List (Addr×Ql)}{σ:St}{H:Hp}{s:OI}(I:Inv X (pins++pl) σ H s):Inv X pins σ H s:=I.pins_of λp hp=>I.pin p (OX _ (P2 _ hp))
theorem F6{iter:PD}{body:List Stmt}{wi:TI}{g:TG}{tb:TS}{pos:So}(hp:PP (O3 X.prog X.w) X.A X.env X.xe)(hc:X.calm=true)(hi:PI X tg iter wi)(hg:PG X tg g)(hb:rS X body tb)
  (hs:∀x,QB iter X.env x=QP x:=by intro _;rfl):PS X (.For tg iter body [] pos) (IS wi g tb):=by
 intro pins s σ H D I h;refine wpAny_For (bU (hi pins s σ H _ I h) λv s1 h1=>bU h1 λitv s2 h2=>?_) hs;obtain⟨it,fp,tn,J,H2,e,I2,T,st2,f2,W,⟨m0,w0⟩,turn⟩:=h2;subst e;have stat:∀{H':Hp},(∀b∈fp,H' b=none)->∀b∈fp,gE X pins H' b:=λhn b hb=>⟨hn b hb,(f2 b hb).2⟩
 refine codeAny_forLoop_any (λn s'=>∃i σ' H',Inv X pins σ' H' s'/\tn i s'.heap/\(∀b∈fp,H' b=none)/\W i n σ' H') ?_ m0 ⟨0,σ,H2,I2,st2,λb hb=>(f2 b hb).1,w0⟩;rintro n s3 ⟨i,σ3,H3,I3,st3,fr3,w3⟩;rcases turn i n σ3 H3 w3 with⟨stop,qn⟩ | ⟨go,N,hN,step⟩
 ·refine RJ hp (bU (T.done X Z Z Z hc i pins s3 σ3 H3 X.xe I3 (stat fr3) st3 stop) λr s4 ⟨hr,I4⟩=>?_);subst hr;exact TB ⟨σ3,H3,I4,qn⟩
 ·refine RJ hp (bU (T.item X Z Z Z hc i pins s3 σ3 H3 X.xe I3 (stat fr3) st3 go) λr s4 ⟨u,hr,h4⟩=>?_);subst hr;refine RJ hp (bU h4 λ_ s5 ⟨x,H5,I5,r5,y5,st5,fr5⟩=>?_);have I5':=I5.pinned (stat fr5) (T.obj _ _ st5);refine RJ hp (bU (hg _ s5 σ3 H5 x u _ I5' r5 (step x H5 y5)) λ_ s6 ⟨σ6,H6,I6,q6⟩=>?_);refine RJ hp (bU (hb _ s6 σ6 H6 _ I6 q6) λf s7 q7=>?_);have again:∀{σ7:St} {H7:Hp},Inv X (pins++jT fp s5.heap) σ7 H7 s7->N σ7 H7->∃m,m<n/\∃i σ' H',Inv X pins σ' H' s7/\tn i s7.heap/\(∀b∈fp,H' b=none)/\W i m σ' H':=λ{σ7 H7} I7 n7=>by
   obtain⟨m',hm,w7⟩:=hN σ7 H7 n7;refine⟨m',hm,i+1,σ7,H7,I7.unpinned,T.keep _ _ _ st5 λb hb o e=>(I7.pin (b,o) (OX _ (OX _ (eI hb e)))).1,λb hb=>?_,w7⟩;obtain⟨o,e,d⟩:=T.obj _ _ st5 b hb;exact(I7.pin (b,o) (OX _ (OX _ (eI hb e)))).2.1
  cases f with
  |next=>obtain⟨σ7,H7,I7,n7⟩:=q7;exact again I7 n7
  |cont=>obtain⟨σ7,H7,I7,n7⟩:=q7;exact again I7 n7
  |brk=>obtain⟨σ7,H7,I7,q7⟩:=q7;exact⟨σ7,H7,I7.unpinned,q7⟩
  |ret v=>obtain⟨x7,σ7,H7,I7,r7,q7⟩:=q7;exact⟨x7,σ7,H7,I7.unpinned,r7,q7⟩
end
theorem eW{K:Oz}{a:Addr}{xs:List V}{g:TG}{tb:TS}{D:iV}{σ:St}{H:Hp}(Pv:Nat->St->Hp->Prop)(h0:Pv 0 σ H)(hl:∀i σ H,i≤xs.length->Pv i σ H->aS K H a xs)
  (hs:∀i x σ H,xs[i]?=some x->Pv i σ H->g x σ H λσ2 H2=>tb { D with nx:=Pv (i+1),ct:=Pv (i+1),bk:=D.nx} σ2 H2) (hd:∀σ H,Pv xs.length σ H->D.nx σ H) :
  ∃W:Nat->Nat->St->Hp->Prop,(∃m,W 0 m σ H)/\∀i m σ H,W i m σ H→
   ((xA K a).stop i H/\D.nx σ H)∨((xA K a).go i H/\∃N:St->Hp->Prop,(∀σ' H',N σ' H'->∃m',m'<m/\W (i+1) m' σ' H')/\∀x H',(xA K a).yld i H x H'->g x σ H' λσ2 H2=>tb { D with nx:=N,ct:=N,bk:=D.nx} σ2 H2):=by
 refine⟨λi m σ H=>m=xs.length-i/\i≤xs.length/\Pv i σ H,⟨xs.length,by simp,OZ _,h0⟩,?_⟩;rintro i m σ H ⟨rfl,hi,p⟩;have q:=hl i σ H hi p;by_cases hlt:i<xs.length
 ·refine .inr ⟨⟨xs,xs[i],q,by simp[hlt]⟩,Pv (i+1),λσ' H' p'=>⟨xs.length-(i+1),by omega,Z,hlt,p'⟩,λx H' y=>?_⟩;obtain⟨e,y⟩:=y;subst e;exact hs i x σ _ (y xs q) p
 ·have e:i=xs.length:=by omega
  subst e;exact .inl ⟨⟨xs,q,OC _⟩,hd σ H p⟩
theorem gy{K:Oz}{a:Addr}{xs:List V}{g:TG}{tb:TS}{D:iV}{σ:St}{H:Hp}(Pv:Nat->St->Hp->Prop)(h0:Pv 0 σ H)(hl:∀i σ H,i≤xs.length->Pv i σ H->bu K H a xs)
  (hs:∀i x σ H,xs[i]?=some x->Pv i σ H->g x σ H λσ2 H2=>tb { D with nx:=Pv (i+1),ct:=Pv (i+1),bk:=D.nx} σ2 H2) (hd:∀σ H,Pv xs.length σ H->D.nx σ H) :
  ∃W:Nat->Nat->St->Hp->Prop,(∃m,W 0 m σ H)/\∀i m σ H,W i m σ H→
   ((BO K a).stop i H/\D.nx σ H)∨((BO K a).go i H/\∃N:St->Hp->Prop,(∀σ' H',N σ' H'->∃m',m'<m/\W (i+1) m' σ' H')/\∀x H',(BO K a).yld i H x H'->g x σ H' λσ2 H2=>tb { D with nx:=N,ct:=N,bk:=D.nx} σ2 H2):=by
 refine⟨λi m σ H=>m=xs.length-i/\i≤xs.length/\Pv i σ H,⟨xs.length,by simp,OZ _,h0⟩,?_⟩;rintro i m σ H ⟨rfl,hi,p⟩;have q:=hl i σ H hi p;by_cases hlt:i<xs.length
 ·refine .inr ⟨⟨xs,xs[i],q,by simp[hlt]⟩,Pv (i+1),λσ' H' p'=>⟨xs.length-(i+1),by omega,Z,hlt,p'⟩,λx H' y=>?_⟩;obtain⟨e,y⟩:=y;subst e;exact hs i x σ _ (y xs q) p
 ·have e:i=xs.length:=by omega
  subst e;exact .inl ⟨⟨xs,q,OC _⟩,hd σ H p⟩
theorem fw{lo:Int}{n:Nat}{g:TG}{tb:TS}{D:iV}{σ:St}{H:Hp}(Pv:Nat->St->Hp->Prop)(h0:Pv 0 σ H)
  (hs:∀i σ H,i<n->Pv i σ H->g (.int (lo+i)) σ H λσ2 H2=>tb { D with nx:=Pv (i+1),ct:=Pv (i+1),bk:=D.nx} σ2 H2) (hd:∀σ H,Pv n σ H->D.nx σ H) :
  ∃W:Nat->Nat->St->Hp->Prop,(∃m,W 0 m σ H)/\∀i m σ H,W i m σ H→
   ((EN lo n).stop i H/\D.nx σ H)∨((EN lo n).go i H/\∃N:St->Hp->Prop,(∀σ' H',N σ' H'->∃m',m'<m/\W (i+1) m' σ' H')/\∀x H',(EN lo n).yld i H x H'->g x σ H' λσ2 H2=>tb { D with nx:=N,ct:=N,bk:=D.nx} σ2 H2):=by
 refine⟨λi m σ H=>m=n-i/\i≤n/\Pv i σ H,⟨n,by simp,OZ _,h0⟩,?_⟩;rintro i m σ H ⟨rfl,hi,p⟩;by_cases hlt:i<n
 ·refine .inr ⟨hlt,Pv (i+1),λσ' H' p'=>⟨n-(i+1),by omega,Z,hlt,p'⟩,λx H' y=>?_⟩;obtain⟨e,y⟩:=y;subst e y;exact hs i σ _ hlt p
 ·have e:i=n:=by omega
  subst e;exact .inl ⟨OC _,hd σ H p⟩
end L2
namespace L2
open PySem PySem.Spec PyProof.Rows
abbrev R2:=V->V->Hp->VK->Prop
def ib(X:Cx)(f:Value->Value->Sem Value)(r:R2):Prop:=
 ∀(pins:List (Addr×Ql)) (s:OI) (σ:St) (H:Hp) (x y:V) (v u:Value) (Q:VK),Inv X pins σ H s->RelV x v->RelV y u->r x y H Q→
  OY (O3 X.prog X.w) X.A (f v u) (EP X pins σ Q) X.xe s
def KN(X:Cx)(f:Value->Sem Value)(r:V->Hp->VK->Prop):Prop:=
 ∀(pins:List (Addr×Ql)) (s:OI) (σ:St) (H:Hp) (x:V) (v:Value) (Q:VK),Inv X pins σ H s->RelV x v->r x H Q→
  OY (O3 X.prog X.w) X.A (f v) (EP X pins σ Q) X.xe s
def dH(X:Cx)(f:Value)(r:List V->Hp->VK->Prop):Prop:=
 ∀(pins:List (Addr×Ql)) (s:OI) (σ:St) (H:Hp) (xs:List V) (us:List Value) (Q:VK),Inv X pins σ H s->be xs us->r xs H Q→
  OY (O3 X.prog X.w) X.A (call f us) (EP X pins σ Q) X.xe s
def NO(X:Cx)(r:V->Hp->(Bool->Hp->Prop)->Prop):Prop:=
 ∀(pins:List (Addr×Ql)) (s:OI) (σ:St) (H:Hp) (x:V) (v:Value) (Q:Bool->Hp->Prop),Inv X pins σ H s->RelV x v->r x H Q→
  OY (O3 X.prog X.w) X.A (truthy v) (TP X pins σ Q) X.xe s
def BW(r:R2)(ta tb:TE):TE:=λσ H Q=>ta σ H λx H1=>tb σ H1 λy H2=>r x y H2 Q
def L1(r:V->Hp->VK->Prop)(ta:TE):TE:=λσ H Q=>ta σ H λx H1=>r x H1 Q
def rI(C:Int->Int->Prop)(g:Int->Int->V):R2:=λx y H Q=>∃i j,x=.int i/\y=.int j/\C i j/\Q (g i j) H
def Ep(g:Int->Int->V):R2:=λx y H Q=>∃i j,x=.int i/\y=.int j/\Q (g i j) H
def rU(g:Int->V):V->Hp->VK->Prop:=λx H Q=>∃i,x=.int i/\Q (g i) H
section
variable {X:Cx}{a b c:PD}{ta tb tc:TE}{pos:So}
theorem HP(ha:PE X a ta)(hb:PE X b tb){pins:List (Addr×Ql)}{s:OI}{σ:St}{H:Hp}{R:V->V->Hp->Prop}(I:Inv X pins σ H s)
  (h:ta σ H λx H1=>tb σ H1 λy H2=>R x y H2) {Q:Value->OI->Prop} {f:Value->Value->Sem Value}
  (hf:∀v u s2 x y H2,Inv X pins σ H2 s2->RelV x v->RelV y u->R x y H2->OY (O3 X.prog X.w) X.A (f v u) Q X.xe s2) :
  OY (O3 X.prog X.w) X.A (eval a X.env) (λv s₁=>OY (O3 X.prog X.w) X.A (eval b X.env) (λu s₂=>OY (O3 X.prog X.w) X.A (f v u) Q X.xe s₂) X.xe s₁) X.xe s:=by
 refine bU (ha pins s σ H _ I h) λv s1 ⟨x,H1,I1,r1,q1⟩=>?_
 refine bU (hb pins s1 σ H1 _ I1 q1) λu s2 ⟨y,H2,I2,r2,q2⟩=>?_
 exact hf v u s2 x y H2 I2 r1 r2 q2
theorem Jw(ho:ib X (Sj op) r)(ha:PE X a ta)(hb:PE X b tb):PE X (.BinOp a op b pos) (BW r ta tb):=by
 intro pins s σ H Q I h;exact wpAny_BinOp (HP ha hb I h λv u s2 x y H2 I2 rx ry q=>ho pins s2 σ H2 x y v u Q I2 rx ry q)
theorem Jv(ho:KN X (unaryOp op) r)(ha:PE X a ta):PE X (.UnaryOp op a pos) (L1 r ta):=by
 intro pins s σ H Q I h;exact UnaryOp_ (bU (ha pins s σ H _ I h) λv s1 ⟨x,H1,I1,r1,q1⟩=>ho pins s1 σ H1 x v Q I1 r1 q1)
theorem Is{f:Value->Value->Sem Value}{C:Int->Int->Prop}{g:Int->Int->Int}
  (rule:∀(i j:Int) (t u:Ys) (s:OI) (Q:Value->OI->Prop) (E:Value->OI->Prop),C i j->Q (.int (g i j) s.toks) { s with toks:=s.toks+1}->OY (O3 X.prog X.w) X.A (f (.int i t) (.int j u)) Q E s) :
  ib X f (rI C λi j=>.int (g i j)):=by
 intro pins s σ H x y v u Q I rx ry h;obtain⟨i,j,rfl,rfl,hc,q⟩:=h;obtain⟨t,rfl⟩:=rx;obtain⟨t',rfl⟩:=ry;exact rule i j t t' s _ _ hc ⟨.int (g i j),H,I.tok _,⟨_,Z⟩,q⟩
theorem JC{f:Value->Value->Sem Value}{g:Int->Int->Int}
  (rule:∀(i j:Int) (t u:Ys) (s:OI) (Q:Value->OI->Prop) (E:Value->OI->Prop),Q (.int (g i j) s.toks) { s with toks:=s.toks+1}->OY (O3 X.prog X.w) X.A (f (.int i t) (.int j u)) Q E s) :
  ib X f (Ep λi j=>.int (g i j)):=by
 intro pins s σ H x y v u Q I rx ry h;obtain⟨i,j,rfl,rfl,q⟩:=h;obtain⟨t,rfl⟩:=rx;obtain⟨t',rfl⟩:=ry;exact rule i j t t' s _ _ ⟨.int (g i j),H,I.tok _,⟨_,Z⟩,q⟩
theorem C4{f:Value->Value->Sem Value}{g:Int->Int->Bool}
  (rule:∀(i j:Int) (t u:Ys) (s:OI) (Q:Value->OI->Prop) (E:Value->OI->Prop),Q (.bool (g i j)) s->OY (O3 X.prog X.w) X.A (f (.int i t) (.int j u)) Q E s) :
  ib X f (Ep λi j=>.bl (g i j)):=by
 intro pins s σ H x y v u Q I rx ry h;obtain⟨i,j,rfl,rfl,q⟩:=h;obtain⟨t,rfl⟩:=rx;obtain⟨t',rfl⟩:=ry;exact rule i j t t' s _ _ ⟨.bl (g i j),H,I,Z,q⟩
def LX(i j:Int):Prop:=0<j/\j<1073741824
def MY(i j:Int):Prop:=j≠0/\j.natAbs<1073741824
def LW(i j:Int):Prop:=0≤j/\j≤1000000/\i.natAbs<2^64
def Ih(i j:Int):Prop:=(-(2^64)<i/\i<2^64)∨(-(2^64)<j/\j<2^64)
theorem Ih.ok(h:Ih i j):IntMulOk i j:=by
 rcases h with⟨h1,h2⟩ | ⟨h1,h2⟩
 ·exact .of_left (intBits_le_64 h1 h2)
 ·exact .of_right (intBits_le_64 h1 h2)
theorem cU:ib X (Sj .Add) (Ep λi j=>.int (i+j)):=JC λ_ _ _ _ _ _ _ q=>add_int q
theorem gQ:ib X (Sj .Sub) (Ep λi j=>.int (i-j)):=JC λ_ _ _ _ _ _ _ q=>sub_int q
theorem gR:ib X (Sj .Mult) (rI Ih λi j=>.int (i*j)):=Is λ_ _ _ _ _ _ _ hc q=>mul_int q hc.ok
theorem uN:ib X (Sj .FloorDiv) (rI LX λi j=>.int (i/j)):=Is λi j _ _ _ _ _ hc q=>by
 have h1:(0:Int)<j:=hc.1;have h2:j<1073741824:=hc.2;exact floordiv_int (by omega) (by rw[Ua i (by omega)];exact q) (.inl (U5 (by omega)))
theorem eG:ib X (Sj .Mod) (rI (λ_ j=>0<j) λi j=>.int (i%j)):=Is λi j _ _ _ _ _ hc q=>by
 have h1:(0:Int)<j:=hc;exact mod_int' (by omega) (by rw[Int.fmod_eq_emod_of_nonneg i (by omega)];exact q)
theorem Gq:ib X (Sj .Pow) (rI LW λi j=>.int (i^j.toNat)):=Is λ_ _ _ _ _ _ _ hc q=>pow_int_small hc.1 hc.2.1 hc.2.2 q
theorem M6{f:Value->Sem Value}{g:Int->Int}
  (rule:∀(i:Int) (t:Ys) (s:OI) (Q:Value->OI->Prop) (E:Value->OI->Prop),Q (.int (g i) s.toks) { s with toks:=s.toks+1}->OY (O3 X.prog X.w) X.A (f (.int i t)) Q E s) :
  KN X f (rU λi=>.int (g i)):=by
 intro pins s σ H x v Q I rx h;obtain⟨i,rfl,q⟩:=h;obtain⟨t,rfl⟩:=rx;exact rule i t s _ _ ⟨.int (g i),H,I.tok _,⟨_,Z⟩,q⟩
theorem k8:KN X (unaryOp .USub) (rU λi=>.int (-i)):=M6 λ_ _ _ _ _ q=>neg_int q
end
def Ja:V->V->Bool
 | .non,.non=>true | .non,.int _=>true | .int _,.non=>true | .non,.bl _=>true | .bl _,.non=>true | .non,.str _=>true | .str _,.non=>true
 | .int _,.int _=>true | .bl _,.bl _=>true | .str _,.str _=>true | .byt _,.byt _=>true
 | .int _,.str _=>true | .str _,.int _=>true | .bl _,.str _=>true | .str _,.bl _=>true
 |_,_=>false
def ND:R2:=λx y H Q=>Ja x y=true/\Q (.bl (decide (x=y))) H
def Nu:R2:=λx y H Q=>Ja x y=true/\Q (.bl (!decide (x=y))) H
theorem u5:decide (V.int i=V.int j)=(i==j):=by
 rw[QK];simp
theorem Bj:decide (V.bl i=V.bl j)=(i==j):=by
 rw[QK];simp
theorem u4:decide (V.str i=V.str j)=(i==j):=by
 rw[QK];simp
theorem u6:decide (V.byt i=V.byt j)=(i.toList==j.toList):=by
 rw[QK]
 cases i
 cases j
 simp
section
variable {X:Cx}{a b c:PD}{ta tb tc:TE}{pos:So}
theorem bM{pins:List (Addr×Ql)}{σ:St}{H:Hp}{s:OI}{Q:VK}{k k':Bool}(I:Inv X pins σ H s)(q:Q (.bl k) H)(e:k=k'):EP X pins σ Q (.bool k') s:=by
 subst e;exact⟨.bl k,H,I,Z,q⟩
theorem fR:ib X (Qs .Eq) ND:=by
 intro pins s σ H x y v u Q I rx ry h;obtain⟨hs,q⟩:=h
 cases x with
 |non=>
  cases rx
  cases y with
  |non=>cases ry;exact PySem.EqNone.eq_none_none (bM I q (by simp))
  |bl j=>cases ry;exact PySem.EqNone.eq_none_bool (bM I q (by simp))
  |int j=>obtain⟨t',rfl⟩:=ry;exact PySem.EqNone.eq_none_int (bM I q (by simp))
  |str j=>obtain⟨t',rfl⟩:=ry;exact PySem.EqNone.eq_none_str (bM I q (by simp))
  |_=>exact absurd (show false=true from hs) O1
 |bl i=>
  cases rx
  cases y with
  |non=>cases ry;exact PySem.EqNone.eq_bool_none (bM I q (by simp))
  |bl j=>cases ry;exact eq_bool (bM I q Bj)
  |str j=>obtain⟨t',rfl⟩:=ry;exact PySem.EqMixed.eq_bool_str (bM I q (by simp))
  |_=>exact absurd (show false=true from hs) O1
 |int i=>
  obtain⟨t,rfl⟩:=rx
  cases y with
  |non=>cases ry;exact PySem.EqNone.eq_int_none (bM I q (by simp))
  |int j=>obtain⟨t',rfl⟩:=ry;exact eq_int (bM I q u5)
  |str j=>obtain⟨t',rfl⟩:=ry;exact PySem.EqMixed.eq_int_str (bM I q (by simp))
  |_=>exact absurd (show false=true from hs) O1
 |str i=>
  obtain⟨t,rfl⟩:=rx
  cases y with
  |non=>cases ry;exact PySem.EqNone.eq_str_none (bM I q (by simp))
  |bl j=>cases ry;exact PySem.EqMixed.eq_str_bool (bM I q (by simp))
  |int j=>obtain⟨t',rfl⟩:=ry;exact PySem.EqMixed.eq_str_int (bM I q (by simp))
  |str j=>obtain⟨t',rfl⟩:=ry;exact eq_str (bM I q u4)
  |_=>exact absurd (show false=true from hs) O1
 |byt i=>
  obtain⟨t,rfl⟩:=rx
  cases y with
  |byt j=>obtain⟨t',rfl⟩:=ry;exact PySem.W.eq_bytes (bM I q u6)
  |_=>exact absurd (show false=true from hs) O1
 |_=>cases y<;>exact absurd (show false=true from hs) O1
theorem Ap:ib X (Qs .NotEq) Nu:=by
 intro pins s σ H x y v u Q I rx ry h;obtain⟨hs,q⟩:=h
 cases x with
 |non=>
  cases rx
  cases y with
  |non=>cases ry;exact PySem.EqNone.ne_none_none (bM I q (by simp))
  |bl j=>cases ry;exact PySem.EqNone.ne_none_bool (bM I q (by simp))
  |int j=>obtain⟨t',rfl⟩:=ry;exact PySem.EqNone.ne_none_int (bM I q (by simp))
  |str j=>obtain⟨t',rfl⟩:=ry;exact PySem.EqNone.ne_none_str (bM I q (by simp))
  |_=>exact absurd (show false=true from hs) O1
 |bl i=>
  cases rx
  cases y with
  |non=>cases ry;exact PySem.EqNone.ne_bool_none (bM I q (by simp))
  |bl j=>cases ry;exact ne_bool (bM I q (congrArg not Bj))
  |str j=>obtain⟨t',rfl⟩:=ry;exact PySem.EqMixed.ne_bool_str (bM I q (by simp))
  |_=>exact absurd (show false=true from hs) O1
 |int i=>
  obtain⟨t,rfl⟩:=rx
  cases y with
  |non=>cases ry;exact PySem.EqNone.ne_int_none (bM I q (by simp))
  |int j=>obtain⟨t',rfl⟩:=ry;exact ne_int (bM I q (congrArg not u5))
  |str j=>obtain⟨t',rfl⟩:=ry;exact PySem.EqMixed.ne_int_str (bM I q (by simp))
  |_=>exact absurd (show false=true from hs) O1
 |str i=>
  obtain⟨t,rfl⟩:=rx
  cases y with
  |non=>cases ry;exact PySem.EqNone.ne_str_none (bM I q (by simp))
  |bl j=>cases ry;exact PySem.EqMixed.ne_str_bool (bM I q (by simp))
  |int j=>obtain⟨t',rfl⟩:=ry;exact PySem.EqMixed.ne_str_int (bM I q (by simp))
  |str j=>obtain⟨t',rfl⟩:=ry;exact ne_str (bM I q (congrArg not u4))
  |_=>exact absurd (show false=true from hs) O1
 |byt i=>
  obtain⟨t,rfl⟩:=rx
  cases y with
  |byt j=>obtain⟨t',rfl⟩:=ry;exact PySem.W.ne_bytes (bM I q (congrArg not u6))
  |_=>exact absurd (show false=true from hs) O1
 |_=>cases y<;>exact absurd (show false=true from hs) O1
theorem jh:ib X (Qs .Lt) (Ep λi j=>.bl (decide (i<j))):=C4 λ_ _ _ _ _ _ _ q=>lt_int q
theorem l9:ib X (Qs .LtE) (Ep λi j=>.bl (decide (i≤j))):=C4 λ_ _ _ _ _ _ _ q=>le_int q
theorem ir:ib X (Qs .Gt) (Ep λi j=>.bl (decide (j<i))):=C4 λ_ _ _ _ _ _ _ q=>gt_int q
theorem Aq:ib X (Qs .GtE) (Ep λi j=>.bl (decide (j≤i))):=C4 λ_ _ _ _ _ _ _ q=>ge_int q
theorem C2:ib X (Qs .IsNot) (λx y H Q=>y=.non/\Q (.bl (!decide (x=.non))) H):=by
 intro pins s σ H x y v u Q I rx ry h;obtain⟨rfl,q⟩:=h
 cases ry
 refine isnot_none_gen (bM I q ?_)
 cases x<;>first
  | (cases rx;rfl)
  | (obtain⟨t,rfl⟩:=rx;rfl)
def MA:HO->Bool
 | .lst _=>true
 | .ins _ _ _=>true
 |_=>false
theorem aV(b:PD){op:Yp}(h:op≠.In:=by decide)(h2:op≠.NotIn:=by decide):SK op b=false:=by
 have e1:(op==Yp.In)=false:=by cases op<;>first|rfl|exact absurd Z h
 have e2:(op==Yp.NotIn)=false:=by cases op<;>first|rfl|exact absurd Z h2
 cases b<;>simp[SK,e1,e2]
theorem CW(ho:ib X (Qs op) r)(ha:PE X a ta)(hb:PE X b tb)(hm:SK op b=false):PE X (.Compare a [op] [b] pos) (BW r ta tb):=by
 intro pins s σ H Q I h;exact wpAny_Compare1 (HP ha hb I h λv u s2 x y H2 I2 rx ry q=>ho pins s2 σ H2 x y v u Q I2 rx ry q) hm
def DZ(t:TE):TT:=λσ H Q=>t σ H λx H'=>∃k,x=.bl k/\Q k H'
theorem Cz(ho:ib X (Qs op) r)(ha:PE X a ta)(hb:PE X b tb)(hm:SK op b=false):PT X (.Compare a [op] [b] pos) (DZ (BW r ta tb)):=by
 intro pins s σ H Q I h;refine wpAny_isTrue_Compare1 (bU (ha pins s σ H _ I h) λv s1 ⟨x,H1,I1,r1,q1⟩=>bU (hb pins s1 σ H1 _ I1 q1) λu s2 ⟨y,H2,I2,r2,q2⟩=>
  bU (ho pins s2 σ H2 x y v u _ I2 r1 r2 q2) λc s3 ⟨z,H3,I3,r3,k,e,q3⟩=>?_) hm
 subst e
 cases r3
 exact RK ⟨H3,I3,q3⟩
def xW(r r':R2)(ta tb tc:TE):TE:=λσ H Q=>ta σ H λx H1=>tb σ H1 λy H2=>r x y H2 λz H3=>∃k,z=.bl k∧
 (if k=true then tc σ H3 λw' H4=>r' y w' H4 Q else Q (.bl false) H3)
theorem Ak{op op':Yp}{r r':R2}(ho:ib X (Qs op) r)(ho':ib X (Qs op') r')(ha:PE X a ta)(hb:PE X b tb)(hc:PE X c tc)
  (hm:lastMarks [op,op'] [b,c]=false:=by with_unfolding_all rfl):PE X (.Compare a [op,op'] [b,c] pos) (xW r r' ta tb tc):=by
 intro pins s σ H Q I h;refine Compare_chain (bU (ha pins s σ H _ I h) λv s1 ⟨x,H1,I1,r1,q1⟩=>chain_link (bU (hb pins s1 σ H1 _ I1 q1) λu s2 ⟨y,H2,I2,r2,q2⟩=>
  bU (ho pins s2 σ H2 x y v u _ I2 r1 r2 q2) λd s3 ⟨z,H3,I3,r3,k,e,q3⟩=>?_)) hm
 subst e
 cases r3
 refine RK ?_
 cases k with
 |false=>exact ite_ff ⟨.bl false,H3,I3,Z,q3⟩
 |true=>exact ite_tt (chain_last (bU (hc pins s3 σ H3 _ I3 q3) λw' s4 ⟨z',H4,I4,r4,q4⟩=>ho' pins s4 σ H4 y z' u w' Q I4 r2 r4 q4))
def NN(K:Oz)(x:V)(H:Hp)(k:Bool):Prop:=
 match x with
 | .non=>k=false
 | .bl b=>k=b
 | .int i=>k=(i != 0)
 | .str y=>y.length≤sizeLine/\k=((y.length:Int) != 0)
 | .byt y=>y.size≤sizeLine/\k=((y.size:Int) != 0)
 | .ref p=>(∃xs,aS K H p xs/\k=!xs.isEmpty)∨(∃xs,bu K H p xs/\k=!xs.isEmpty)∨∃kvs,H p=some (.dK kvs)/\k=!kvs.isEmpty
 |_=>False
theorem pR:(sizeLine:Nat)<2^63:=by rw[Rj];decide
def Kh(b:PD):Prop:=∀o i,Uw b false o i=Ym [o,i] (S2 o i)
theorem fQ(r:be [x] us):∃u,us=[u]/\RelV x u:=by
 cases r with
 |cons r1 r2=>cases r2;exact⟨_,Z,r1⟩
theorem uk(r:be [x,y] us):∃u w',us=[u,w']/\RelV x u/\RelV y w':=by
 cases r with
 |cons r1 r2=>
  cases r2 with
  |cons r3 r4=>cases r4;exact⟨_,_,Z,r1,r3⟩
theorem mO:dH X (.builtin "abs") (λxs H Q=>∃i,xs=[.int i]/\Q (.int (if i<0 then -i else i)) H):=by
 intro pins s σ H xs us Q I r h;obtain⟨i,rfl,q⟩:=h;obtain⟨u,rfl,t,rfl⟩:=fQ r;exact call_abs_int λu tk=>⟨.int (if i<0 then -i else i),H,I.tok _,⟨_,Z⟩,q⟩
theorem xc(hc:X.calm=true):dH X (.builtin "min") (λxs H Q=>∃i j,xs=[.int i,.int j]/\Q (.int (if j<i then j else i)) H):=by
 intro pins s σ H xs us Q I r h;obtain⟨i,j,rfl,q⟩:=h;obtain⟨u,w',rfl,⟨t,rfl⟩,⟨t',rfl⟩⟩:=uk r;refine min_two_ints (I.ok.hd hc) λh' tk k=>⟨_,H,I.kept k,?_,q⟩
 by_cases hj:j<i
 ·rw[if_pos hj,if_pos hj];exact⟨_,Z⟩
 ·rw[if_neg hj,if_neg hj];exact⟨_,Z⟩
theorem xh:dH X (.type "int") (λxs H Q=>(∃i,xs=[.int i]/\Q (.int i) H)∨∃k,xs=[.bl k]/\Q (.int (if k then 1 else 0)) H):=by
 intro pins s σ H xs us Q I r h;rcases h with⟨i,rfl,q⟩ | ⟨k,rfl,q⟩
 ·obtain⟨u,rfl,t,rfl⟩:=fQ r;exact call_int_int ⟨.int i,H,I,⟨_,Z⟩,q⟩
 ·obtain⟨u,rfl,r1⟩:=fQ r
  cases r1
  exact call_int_bool ⟨.int (if k then 1 else 0),H,I.tok _,⟨_,Z⟩,q⟩
def NY(K:Oz)(x:V)(H:Hp)(n:Nat):Prop:=
 match x with
 | .str y=>y.length≤sizeLine/\n=y.length
 | .byt y=>y.size≤sizeLine/\n=y.size
 | .ref p=>(∃xs,aS K H p xs/\n=xs.length)∨∃xs,bu K H p xs/\n=xs.length
 |_=>False
end
end L2
namespace L2
open PySem PySem.Spec PyProof.Rows
structure ua(h:OR)(x dx C:Addr)(mA:Pf->Option Value):Prop where
 obj:h.get? x=some (Rs C dx)
 ns:h.Ns1 dx mA
 ne:dx≠x
theorem wC{h:OR}(n:h.Ns1 dx mA):∃od,h.get? dx=some od/\∀name,Ub name od=some (mA name):=by
 obtain⟨o,es,ep,ho,hd,hk,_,hm⟩:=n;refine⟨o,ho,λname=>?_⟩;have e:=hm name;unfold nsFind findBy at e;rw[←Array.find?_toList] at e;unfold Ub;rw[hd];dsimp only
 split
 ·rename_i y q;rw[q] at e;exact congrArg some e
 ·rename_i q;rw[q] at e;have a:es.toList.any (·.refKey)=false:=by
   rw[S6];intro y hy;obtain⟨z,t,hkey⟩:=hk y (Tu.mp hy);simp[VL.refKey,hkey]
  have a':¬es.toList.any (·.refKey)=true:=by rw[a];exact O1
  rw[if_neg a'];exact congrArg some e
theorem ua.look(I:ua h x dx C mA):∃od,Uc h x (Rs C dx) C (some od)/\∀name,Ub name od=some (mA name):=
 let ⟨od,ho,hl⟩:=wC I.ns
 ⟨od,⟨I.obj,Z,Z,ho⟩,hl⟩
section
variable {prog:Po}{w:PM}{A:PB}{E:Value->OI->Prop}{s:OI}{K:Oz}{x dx C f:Addr}{mA:Pf->Option Value}{name:Pf}{v:Value}
theorem Ds(X:K.In s.heap)(I:ua s.heap x dx C mA)(hg:To K C name=true)(hh:Ss K C=true)
  (ha:Pz K (.ref C) name=some none) (hv:mA name=some v) (hv':WY v=true) (h:Q v { s with toks:=s.toks+1}):
  OY (O3 prog w) A (getAttr (.ref x) name expr) Q E s:=by
 obtain⟨od,J,hl⟩:=I.look;exact PySem.W.get_value X J (TM hg).1 (PySem.W.findObj_own hh ha Z (by rw[hl,hv])) hv' h
theorem A1(X:K.In s.heap)(I:ua s.heap x dx C mA)(hg:To K C name=true)
  (hf:Pz K (.ref C) name=some (some (.ref f))) (ht:TQ K (.ref f)=true) (hv:mA name=none) (h:Q (.ref f,[.ref x]) s):
  OY (O3 prog w) A (UK (.ref x) name pl) Q E s:=by
 obtain⟨od,J,hl⟩:=I.look;exact PySem.W.method_fn X J (TM hg).1 (TM hg).2 hf (beq_iff_eq.mp ht) (by show(Ub name od).map (·.isSome)=some false;rw[hl,hv];rfl) h
theorem Cl(X:K.In s.heap)(I:ua s.heap x dx C mA)
  (hs:Pz K (.ref C) "__setattr__"=some (some (.builtin "object.__setattr__"))) (hp:Wp K C=true) (ht:Vq K C name=some none) (hh:Ss K C=true)
  (hw:TN mA ns) (hsz:ns.length≤sizeLine)
  (h:∀h',ua h' x dx C (λy=>if y=name then some v else mA y)->Sa dx s.heap h'->Q () { s with heap:=h',toks:=s.toks+2}):
  OY (O3 prog w) A (Yn (.ref x) name v) Q E s:=by
 obtain⟨od,J,hl⟩:=I.look;refine Ux X J hs (PySem.W.osa_open (s:={ s with toks:=s.toks+1}) (r:=none) X J hp ht λb=>?_);obtain⟨cd,hc,hd'⟩:=UL hh;have hx:s.heap.get? x=some ⟨.ref C,some dx,.plain,#[]⟩:=I.obj;refine OE (wpAny_pure (OE (OE (Vz hx (OE (SU (s:={ s with toks:=s.toks+1}) (SJ X hc) ?_))))));rw[hd'];refine wpAny_pure (a:=some dx) (OE (wpAny_pure (OE ?_)));refine Wq (s:={ s with toks:=s.toks+1}) I.ns λh' hn2 hs2=>?_
 obtain⟨oD,esD,epD,hoD,hdD,hcD⟩:=hn2.count (TN.cons name v hw);refine OE (UM hoD (by rw[hdD];exact UN (O7 hcD (by rw[Pu];omega))) ?_);exact wpAny_pure (h _ ⟨(hs2.2 _ (R9 I.ne)).trans I.obj,hn2,I.ne⟩ hs2)
theorem AI(X:K.In s.heap)(hm:Xq K C=true)
  (hi:Pz K (.ref C) "__init__"=some (some (.ref f))) (hf:S7 K (.ref f)=some (.type "function"))
  (h:SE (O3 prog w) (A.under (.builtin "type.__call__" ⟨.ref C:: vs,kw⟩)) (.call (.ref f) ⟨.ref (s.heap.objs.size+1):: vs,kw⟩) (PySem.W.InitBack (s.heap.objs.size+1) R)
   { s with heap:=(s.heap.push QC).push (Rs C s.heap.objs.size)}):
  SE (O3 prog w) A (.call (.ref C) ⟨vs,kw⟩) R s:=by
 obtain⟨hh,g,d,t,os⟩:=s;exact PySem.W.make_core (PySem.W.makes_of X hm) (Tv X hi) (λself=>Xr X self hf) (.inl Z) h
end
def gC(f:Pf)(v:V):List (Pf×V)->List (Pf×V)
 | []=>[(f,v)]
 | (g,x)::r=>if g=f then(g,v)::r else(g,x)::gC f v r
theorem kg(f g:Pf)(v:V):∀fs:List (Pf×V),(gC f v fs).lookup g=if g=f then some v else fs.lookup g
 | []=>by
  show SZ g [(f,v)]=_;by_cases h:g=f
  ·have hb:(g==f)=true:=beq_iff_eq.mpr h;simp only[SZ,hb,if_pos h]
  ·have hb:(g==f)=false:=beq_eq_false_iff_ne.mpr h;simp only[SZ,hb,if_neg h]
 | (k,x)::r=>by
  have ih:=kg f g v r;rw[show gC f v ((k,x)::r)=(if k=f then(k,v)::r else(k,x)::gC f v r) from Z];by_cases hk:k=f
  ·rw[if_pos hk];by_cases h:g=k
   ·have hb:(g==k)=true:=beq_iff_eq.mpr h;simp only[SZ,hb,if_pos (h.trans hk)]
   ·have hb:(g==k)=false:=beq_eq_false_iff_ne.mpr h;simp only[SZ,hb,if_neg (λe:g=f=>h (e.trans hk.symm))]
  ·rw[if_neg hk];by_cases h:g=k
   ·have hb:(g==k)=true:=beq_iff_eq.mpr h;simp only[SZ,hb,if_neg (λe:g=f=>hk (h.symm.trans e))]
   ·have hb:(g==k)=false:=beq_eq_false_iff_ne.mpr h;simp only[SZ,hb];exact ih
theorem jY(f:Pf)(v:V):∀fs:List (Pf×V),f∈(gC f v fs).map (·.1)/\∀g,g∈fs.map (·.1)->g∈(gC f v fs).map (·.1)
 | []=>⟨by simp[gC],λg h=>by simp at h⟩
 | (k,x)::r=>by
  obtain⟨i1,i2⟩:=jY f v r;rw[show gC f v ((k,x)::r)=(if k=f then(k,v)::r else(k,x)::gC f v r) from Z];by_cases hk:k=f
  ·rw[if_pos hk];subst hk;exact⟨by simp,λg h=>by simpa using h⟩
  ·rw[if_neg hk];refine⟨?_,λg h=>?_⟩
   ·rw[Pm];exact OL _ i1
   ·rw[Pm] at h ⊢;rcases OO.mp h with e|e
    ·exact OO.mpr (.inl e)
    ·exact OL _ (i2 g e)
theorem kh(f:Pf)(v:V):∀fs:List (Pf×V),(gC f v fs).length≤fs.length+1
 | []=>by simp[gC]
 | (k,x)::r=>by
  have ih:=kh f v r;rw[show gC f v ((k,x)::r)=(if k=f then(k,v)::r else(k,x)::gC f v r) from Z];by_cases hk:k=f
  ·rw[if_pos hk,Pu,Pu];omega
  ·rw[if_neg hk,Pu,Pu];omega
theorem fo.some_of(r:fo (some v) o):∃u,o=some u/\RelV v u:=by
 cases o with
 |none=>exact(show False from r).elim
 |some u=>exact⟨u,Z,r⟩
theorem fo.none_of(r:fo none o):o=none:=by
 cases o with
 |none=>rfl
 |some u=>exact(show False from r).elim
theorem wN(r:RelV v u):WY u=true:=by
 cases v with
 |non=>cases(show u=Qn from r);rfl
 |bl b=>cases(show u=Tl b from r);rfl
 |int i=>obtain⟨t,e⟩:=(show ∃t,u=Q0 i t from r);cases e;rfl
 |str x=>obtain⟨t,e⟩:=(show ∃t,u=T6 x t from r);cases e;rfl
 |byt b=>obtain⟨t,e⟩:=(show ∃t,u=Value.bytes b t from r);cases e;rfl
 |flt b=>obtain⟨t,e⟩:=(show ∃t,u=Xf b t from r);cases e;rfl
 |ref a=>cases(show u=O8 a from r);rfl
 |ty n=>cases(show u=Su n from r);rfl
section
variable {P:Po}{w:PM}{H H':Hp}{h h':OR}{a C dx:Addr}{fs fs':List (Pf×V)}
theorem kN(hok:iz P w H h)(e:H a=some (.ins C dx fs)):∃mA,ua h a dx C mA/\(∀f,fo (fs.lookup f) (mA f))/\TN mA (fs.map (·.1))/\fs.length≤1000/\H dx=some (.own a):=by
 obtain⟨d,z,ne,ob,mA,n,r,q⟩:=(show ObjOk P w H h a (.ins C dx fs) from hok a _ e);exact⟨mA,⟨ob,n,ne⟩,r,q,z,d⟩
end
structure ud(K:Oz)(C:Addr):Prop where
 pg:To K C Pf.empty=true
 hd:Ss K C=true
 po:Wp K C=true
 sa:Pz K (.ref C) "__setattr__"=some (some (.builtin "object.__setattr__"))
theorem ud.get{K:Oz}{C:Addr}(c:ud K C)(f:Pf):To K C f=true:=c.pg
def cN(K:Oz)(C:Addr)(f:Pf):Prop:=Pz K (.ref C) f=some none
theorem cN.taker{K:Oz}{C:Addr}{f:Pf}(n:cN K C f):Vq K C f=some none:=by
 unfold Vq;rw[show Pz K (.ref C) f=some none from n];rfl
structure N9(K:Oz)(C:Addr)(f:Pf)(v:V)(u:Value):Prop where
 at_:Pz K (.ref C) f=some (some u)
 rel:RelV v u
 get:Uy K u "__get__"=some none
 cp:PySem.W.copiedNames.contains f=false
structure kB(K:Oz)(C:Addr)(m:Pf)(f:Addr):Prop where
 at_:Pz K (.ref C) m=some (some (.ref f))
 fn:TQ K (.ref f)=true
 kp:QF K (.ref f)=true
section
variable {X:Cx}{pins:List (Addr×Ql)}{σ:St}{H:Hp}{s:OI}{a C dx:Addr}{fs:List (Pf×V)}{f:Pf}{v:V}{A:PB}{E:Value->OI->Prop}
theorem mG(I:Inv X pins σ H s)(e:H a=some (.ins C dx fs))(c:ud X.K C)(n:cN X.K C f)(l:fs.lookup f=some v)
  (h:∀u s',Inv X pins σ H s'->RelV v u->Q u s'):OY (O3 X.prog X.w) A (getAttr (.ref a) f b) Q E s:=by
 obtain⟨mA,O,r,_,_,_⟩:=kN I.hok e;obtain⟨u,hu,ru⟩:=fo.some_of (v:=v) (o:=mA f) (by rw[←l];exact r f);exact Ds I.kIn O (c.get f) c.hd n hu (wN ru) (h u _ (I.tok _) ru)
theorem mF(I:Inv X pins σ H s)(e:H a=some (.ins C dx fs))(c:ud X.K C)(k:kB X.K C m g)(l:fs.lookup m=none)
  (h:Q (.ref g,[.ref a]) s):OY (O3 X.prog X.w) A (UK (.ref a) m pl) Q E s:=by
 obtain⟨mA,O,r,_,_,_⟩:=kN I.hok e;have hn:mA m=none:=fo.none_of (by rw[←l];exact r m);exact A1 I.kIn O (c.get m) k.at_ k.fn hn h
theorem lU(I:Inv X pins σ H s)(e:H a=some (.ins C dx fs))(c:ud X.K C)(n:cN X.K C f)(hl:fs.length<1000)(ry:RelV y u)
  (h:∀s',Inv X pins σ (upd H a (.ins C dx (gC f y fs))) s'->Q () s'):OY (O3 X.prog X.w) A (Yn (.ref a) f u) Q E s:=by
 obtain⟨mA,O,r,wi,_,ho⟩:=kN I.hok e;have hz:(fs.map (·.1)).length≤sizeLine:=by rw[OD,Rj];omega
 refine Cl I.kIn O c.sa c.po n.taker c.hd wi hz λh' O' sb=>h _ ?_
 have hd:∃o,h'.get? dx=some o:=let ⟨o,_,_,e',_⟩:=O'.ns;⟨o,e'⟩;refine I.write (x:=a) (e:=dx) (by rw[e];exact Q9) (.inr ho) (λb q hb z=>(sb.2 b hb).trans z) hd ?_;refine⟨by rw[au O.ne];exact ho,?_,O.ne,O'.obj,_,O'.ns,λg=>?_,λg hg=>?_⟩
 ·have:=kh f y fs;omega
 ·show fo ((gC f y fs).lookup g) (if g=f then some u else mA g);rw[kg];by_cases q:g=f
  ·rw[if_pos q,if_pos q];exact ry
  ·rw[if_neg q,if_neg q];exact r g
 ·by_cases q:g=f
  ·rw[q];exact(jY f y fs).1
  ·refine(jY f y fs).2 g (wi g λz=>hg ?_);show(if g=f then some u else mA g)=none;rw[if_neg q];exact z
theorem Inv.made(I:Inv X pins σ H s):Inv X pins σ (upd (upd H s.heap.objs.size (.own (s.heap.objs.size+1))) (s.heap.objs.size+1) (.ins C s.heap.objs.size []))
  { s with heap:=(s.heap.push QC).push (Rs C s.heap.objs.size)}:=by
 have e1:(s.heap.push QC).get? s.heap.objs.size=some QC:=O4 s.heap Z;have e2:((s.heap.push QC).push (Rs C s.heap.objs.size)).get? (s.heap.objs.size+1)=some (Rs C s.heap.objs.size):=by
  have:=O4 (s.heap.push QC) (o:=Rs C s.heap.objs.size) Z
  rwa [Rm] at this
 have e3:(s.heap.push QC).Ns s.heap.objs.size (λ_=>none):=⟨QC,#[],_,e1,Z,(λe he=>absurd he (by simp)),λ_=>Z⟩;have I1:=I.laid (a:=s.heap.objs.size) (o:=.own (s.heap.objs.size+1)) (h':=s.heap.push QC) (t':=s.toks) (λb u q=>OG _ q) (OC _) ⟨_,e1⟩;refine I1.laid (a:=s.heap.objs.size+1) (o:=.ins C s.heap.objs.size []) (t':=s.toks) (λb u q=>OG _ q) (Sd (Rm _ _)) ?_;have ne:s.heap.objs.size≠s.heap.objs.size+1:=PF (UO _);refine⟨by rw[au ne,ag],OZ _,ne,e2,λ_=>none,(Wr e3).at λo q=>OG _ q,λ_=>Q9,λy hy=>absurd Z hy⟩
theorem DN(hb:Rz e f env (eval e env)=eval e env)
  (h:OY (O3 prog w) A (eval e env) (λo s₁=>OY (O3 prog w) A (getAttr o f true) Q E s₁) E s):OY (O3 prog w) A (eval (.Attribute e f pos) env) Q E s:=
 Attribute_any_ h (by rw[arm_eval_Attribute,hb])
end
def IT(K:Oz)(ta:TE)(f:Pf):TE:=λσ H Q=>ta σ H λx H1=>∃a C dx fs v,x=.ref a/\H1 a=some (.ins C dx fs)/\ud K C/\cN K C f/\fs.lookup f=some v/\Q v H1
def Ni(K:Oz)(ta:TE)(f:Pf):TE:=λσ H Q=>ta σ H λx H1=>∃a C dx fs v u,x=.ref a/\H1 a=some (.ins C dx fs)/\ud K C/\N9 K C f v u/\fs.lookup f=none/\Q v H1
def Je(K:Oz)(ta tv:TE)(f:Pf):TS:=λD σ H=>tv σ H λy H1=>ta σ H1 λx H2=>∃a C dx fs,x=.ref a/\H2 a=some (.ins C dx fs)/\ud K C/\cN K C f/\fs.length<1000∧
 D.nx σ (upd H2 a (.ins C dx (gC f y fs)))
def Ig(X:Cx)(op:XI)(rd:V->V->Hp->VK->Prop):Prop:=
 ∀(pins:List (Addr×Ql)) (s:OI) (σ:St) (H:Hp) (x y:V) (u v:Value) (Q:VK),Inv X pins σ H s->RelV x u->RelV y v->rd x y H Q->OY (O3 X.prog X.w) X.A (Ye op u v) (EP X pins σ Q) X.xe s
def uC(K:Oz)(ta tv:TE)(rd:V->V->Hp->VK->Prop)(f:Pf):TS:=λD σ H=>ta σ H λx H1=>∃a C dx fs v,x=.ref a/\H1 a=some (.ins C dx fs)/\ud K C/\cN K C f/\fs.lookup f=some v∧
 tv σ H1 λy H2=>rd v y H2 λz H3=>∃dx' fs',H3 a=some (.ins C dx' fs')/\fs'.length<1000/\D.nx σ (upd H3 a (.ins C dx' (gC f z fs')))
section
variable {X:Cx}{o e value:PD}{f:Pf}{pos pos' tpos:So}{ta tv:TE}
theorem Gn(he:PE X e ta)(hb:Rz e f X.env (eval e X.env)=eval e X.env):PE X (.Attribute e f pos) (IT X.K ta f):=by
 intro pins s σ H Q I h;refine DN hb (bU (he pins s σ H _ I h) λu s1 ⟨x,H1,I1,rx,a,C,dx,fs,v,ex,ea,c,n,l,q⟩=>?_);subst ex;obtain rfl:u=O8 a:=rx;exact mG I1 ea c n l λu' s2 I2 ru=>⟨v,H1,I2,ru,q⟩
theorem F7(ha:PE X o ta)(hv:PE X value tv)(hs:Rq value (some (.Attribute o f pos')) pos.line X.env=QP false):PS X (.Assign [.Attribute o f pos'] value pos) (Je X.K ta tv f):=by
 intro pins s σ H D I h;refine Tf (bU (hv pins s σ H _ I h) λu s1 ⟨y,H1,I1,ry,q⟩=>bU (ha pins s1 σ H1 _ I1 q) λov s2 ⟨x,H2,I2,rx,a,C,dx,fs,ex,ea,c,n,l,q2⟩=>?_) hs;subst ex;obtain rfl:ov=O8 a:=rx;exact lU I2 ea c n l ry λs3 I3=>⟨σ,_,I3,q2⟩
theorem vZ(ha:PE X o ta)(hv:PE X value tv)(hop:Ig X op rd):PS X (.AugAssign (.Attribute o f tpos) op value pos) (uC X.K ta tv rd f):=by
 intro pins s σ H D I h;refine wpAny_AugAssign_AttributeAny (bU (ha pins s σ H _ I h) λov s1 ⟨x,H1,I1,rx,a,C,dx,fs,v,ex,ea,c,n,l,q⟩=>?_);subst ex;obtain rfl:ov=O8 a:=rx;refine mG I1 ea c n l λu s2 I2 ru=>bU (hv pins s2 σ H1 _ I2 q) λw3 s3 ⟨y,H2,I3,ry,q3⟩=>bU (hop pins s3 σ H2 v y u w3 _ I3 ru ry q3) λw4 s4 ⟨z,H3,I4,rz,dx',fs',ea',l',q4⟩=>?_
 exact lU I4 ea' c n l' rz λs5 I5=>⟨σ,_,I5,q4⟩
def Ll:V->V->Hp->VK->Prop:=λx y H Q=>∃i j,x=.int i/\y=.int j/\Q (.int (i+j)) H
def Np:V->V->Hp->VK->Prop:=λx y H Q=>∃i j,x=.int i/\y=.int j/\Q (.int (i-j)) H
theorem Ho:Ig X .Add Ll:=by
 rintro pins s σ H x y u v Q I rx ry ⟨i,j,rfl,rfl,q⟩;obtain⟨t,rfl⟩:=(show ∃t,u=Q0 i t from rx);obtain⟨t',rfl⟩:=(show ∃t',v=Q0 j t' from ry);exact PyProof.Rows.iadd_int ⟨.int (i+j),H,I.tok _,⟨_,Z⟩,q⟩
end
section
variable {X:Cx}{pins:List (Addr×Ql)}{σ:St}{H:Hp}{s:OI}{A:PB}{E:Value->OI->Prop}{Q:Value->OI->Prop}{c:Value}{b:Bool}
inductive j8(K:Oz)(H:Hp):V->Value->Prop where
 |non:j8 K H .non (.type "NoneType")
 |bl (x:Bool):j8 K H (.bl x) (.type "bool")
 |int (i:Int):j8 K H (.int i) (.type "int")
 |str (x:Pf):j8 K H (.str x) (.type "str")
 |flt (x:UInt64):j8 K H (.flt x) (.type "float")
 |lst {a:Addr} {xs:List V} (e:H a=some (.lst xs)):j8 K H (.ref a) (.type "list")
 |frz {a:Addr} {o:Ql} {xs:List V} (e:H a=some (.frz o (.lst xs))):j8 K H (.ref a) (.type "list")
 |tup {a:Addr} {xs:List V} (e:H a=some (.tup xs)):j8 K H (.ref a) (.type "tuple")
 |dK {a:Addr} {kvs:List (cA×V)} (e:H a=some (.dK kvs)):j8 K H (.ref a) (.type "dict")
 |dT {a:Addr} {kvs:List (List cA×V)} (e:H a=some (.dT kvs)):j8 K H (.ref a) (.type "dict")
 |ins {a C dx:Addr} {fs:List (Pf×V)} (e:H a=some (.ins C dx fs)) (cl:ud K C) (ha:Pz K (.ref C) "__class__"=some (some (.builtin "object.__class__")))
   (hn:Uy K (.builtin "object.__class__") "__get__"=some (some (.builtin "getset_descriptor.__get__"))) (htk:Xs K (.builtin "object.__class__")=some true)
   (hm:X5 K C (.type "object")=some true):j8 K H (.ref a) (.ref C)
theorem wJ(I:Inv X pins σ H s)(rx:RelV x u)(ty:j8 X.K H x t)(e:Sv X.K t c=some b)(h:∀tk,Q (.bool b) { s with toks:=tk}):
  OY (O3 X.prog X.w) A (call (.builtin "isinstance") [u,c]) Q E s:=by
 cases ty with
 |non=>cases(show u=Qn from rx);exact Qa PySem.W.kitx_none I.kIn Q9 e (λz=>nomatch z) h
 |bl y=>cases(show u=Tl y from rx);exact Qa PySem.W.kitx_bool I.kIn Q9 e (λz=>nomatch z) h
 |int i=>obtain⟨t,q⟩:=(show ∃t,u=Q0 i t from rx);cases q;exact Qa PySem.W.kitx_int I.kIn Q9 e (λz=>nomatch z) h
 |str y=>obtain⟨t,q⟩:=(show ∃t,u=T6 y t from rx);cases q;exact Qa PySem.W.kitx_str I.kIn Q9 e (λz=>nomatch z) h
 |flt y=>obtain⟨t,q⟩:=(show ∃t,u=Xf y t from rx);cases q;exact Qa PySem.W.kitx_float I.kIn Q9 e (λz=>nomatch z) h
 | @lst a xs ea=>
  cases(show u=O8 a from rx)
  obtain⟨_,_,n,_,h1⟩:=(show ObjOk X.prog X.w H s.heap a (.lst xs) from I.hok a _ ea);exact Qa Uz I.kIn ⟨_,h1,Z⟩ e (λz=>nomatch z) h
 | @frz a ob xs ea=>
  cases(show u=O8 a from rx)
  obtain⟨_,_,_,n,_,h1⟩:=(show ObjOk X.prog X.w H s.heap a (.frz ob (.lst xs)) from I.hok a _ ea);exact Qa Uz I.kIn ⟨_,h1,Z⟩ e (λz=>nomatch z) h
 | @tup a xs ea=>
  cases(show u=O8 a from rx)
  obtain⟨_,_,_,p⟩:=(show ObjOk X.prog X.w H s.heap a (.tup xs) from I.hok a _ ea);obtain⟨o,h1,h2,_⟩:=p;exact Qa Wb I.kIn ⟨o,h1,h2⟩ e (λz=>nomatch z) h
 | @dK a kvs ea=>
  cases(show u=O8 a from rx)
  obtain⟨_,_,vs,_,p⟩:=(show ObjOk X.prog X.w H s.heap a (.dK kvs) from I.hok a _ ea);obtain⟨o,es,ep,h1,h2,_⟩:=p;exact Qa Ws I.kIn ⟨o,h1,h2.1⟩ e (λz=>nomatch z) h
 | @dT a kvs ea=>
  cases(show u=O8 a from rx)
  obtain⟨_,_,xs,_,o,es,ep,h1,h2,_⟩:=(show ObjOk X.prog X.w H s.heap a (.dT kvs) from I.hok a _ ea);exact Qa Ws I.kIn ⟨o,h1,h2.1⟩ e (λz=>nomatch z) h
 | @ins a C dx fs ea cl ha hn htk hm=>
  cases(show u=O8 a from rx)
  obtain⟨mA,O,_⟩:=kN I.hok ea;obtain⟨od,J,_⟩:=O.look;exact Qa (PySem.W.kitx_own (cl.get _) cl.hd ha hn htk hm) I.kIn J e (λz=>nomatch z) h
end
end L2
namespace L2
open PySem PySem.Spec PyProof.Rows
structure cV(k:Nat)(A:PB):Prop where
 hd:A.handled=none
 dp:A.depth+3*k+5<recursionLimit
 un:A.units+16*k+200<cLine
 gd:A.guards=some []
theorem cV.mono(r:cV k A)(h:j≤k):cV j A:=⟨r.hd,by have:=r.dp;omega,by have:=r.un;omega,r.gd⟩
theorem cV.deeper(r:cV (k+1) A)(env:XD):cV k (A.deeper env):=
 ⟨r.hd,by have:=r.dp;show A.depth+1+3*k+5<_;omega,by have:=r.un;show A.units+3+16*k+200<_;omega,r.gd⟩
theorem tw{A:PB}:(A.under (.builtin "type.__call__" ⟨.ref C:: us,kw⟩)).depth=A.depth+1:=by
 first|rfl|simp[U6,Wu.weight,Wu.isCreation,Wu.isGuard,Wu.isCaller,Wu.frames,Wv,guardIds]
theorem tj{A:PB}:(A.under (.builtin "type.__call__" ⟨.ref C:: us,kw⟩)).units=A.units+1:=by
 first|rfl|simp[U6,Wu.cUnits,Wu.frames,Wv]
theorem qZ{A:PB}:(A.under (.builtin "type.__call__" ⟨.ref C:: us,kw⟩)).guards=A.guards:=by
 first|rfl|simp[U6,Wu.guards,Wu.isGuard,guardIds,pushGuards]
theorem cV.make(r:cV (k+1) A)(C:Addr)(us:List Value)(kw:List (Pf×Value)):cV k (A.under (.builtin "type.__call__" ⟨.ref C:: us,kw⟩)):=
 ⟨r.hd,by have:=r.dp;rw[tw];omega,by have:=r.un;rw[tj];omega,by rw[qZ];exact r.gd⟩
theorem cV.depth(r:cV k A):A.depth<recursionLimit:=by have:=r.dp;omega
theorem cV.units(r:cV k A):A.units+64<cLine:=by have:=r.un;omega
def vD:TA:=λ_ H Q=>Q [] H
def Ee(ta:TE)(tr:TA):TA:=λσ H Q=>ta σ H λx H1=>tr σ H1 λxs H2=>Q (x::xs) H2
section
variable {X:Cx}{e:PD}{es:List PD}{te:TE}{t:TA}{pos:So}
theorem Gp:PA X [] vD:=λ_ _ _ _ H Q I h=>Calls.spliced_nil ⟨[],H,I,.nil,h⟩
theorem C0(ha:PE X e te)(hr:PA X es t)(hs:OS (e::es) X.env=(false,eval e X.env)::OS es X.env:=by rfl):PA X (e::es) (Ee te t):=by
 intro pos pins s σ H Q I h;rw[hs];show OY _ _ (spliced ((false,eval e X.env)::Rt pos (OS es X.env))) _ _ s;refine Calls.spliced_cons (bU (ha pins s σ H _ I h) λu s1 ⟨x,H1,I1,r1,q1⟩=>?_);exact bU (hr pos pins s1 σ H1 _ I1 q1) λus s2 ⟨xs,H2,I2,r2,q2⟩=>⟨x::xs,H2,I2,.cons r1 r2,q2⟩
def IL(t:TA):TE:=λσ H Q=>t σ H λxs H1=>xs.length≤sizeLine/\∀p,H1 p=none->Q (.ref p) (upd H1 p (.tup xs))
def IQ(t:TA):TE:=λσ H Q=>t σ H λxs H1=>xs.length≤sizeLine/\∀p,H1 p=none->Q (.ref p) (upd H1 p (.lst xs))
theorem Gf{x1}(h:PA X es t):PE X (.Tuple es x1 pos) (IL t):=by
 intro pins s σ H Q I hq;refine wpAny_Tuple_spliced (bU (h pos pins s σ H _ I hq) λus s1 ⟨xs,H1,I1,r,z,q⟩=>⟨by rw[←r.length];exact z,?_⟩);have hf:H1 s1.heap.objs.size=none:=I1.hok.fresh (OC _);refine⟨.ref s1.heap.objs.size,upd H1 s1.heap.objs.size (.tup xs),I1.laid (t':=s1.toks) (λb u e=>OG _ e) (OC _) ?_,Z,q _ hf⟩;exact⟨z,us,r,⟨_,O4 _ Z,Z,_,Z⟩⟩
theorem Gk(h:PA X es t):PE X (.List es pos) (IQ t):=by
 intro pins s σ H Q I hq;refine wpAny_List_spliced (bU (h pos pins s σ H _ I hq) λus s1 ⟨xs,H1,I1,r,z,q⟩=>⟨by rw[←r.length];exact z,?_⟩);have hf:H1 s1.heap.objs.size=none:=I1.hok.fresh (OC _);refine⟨.ref s1.heap.objs.size,upd H1 s1.heap.objs.size (.lst xs),I1.laid (t':=s1.toks) (λb u e=>OG _ e) (OC _) ?_,Z,q _ hf⟩;exact⟨z,us,0,r,O4 _ Z⟩
end
abbrev Sp:=List V->Hp->VK->XK->Prop
abbrev rV:=List XD->Hp->OI->XK->Value->OI->Prop
structure rQ(P:Po)(w:PM)(K:Oz)(mg:Pf->Option Value)(base:OR)(A:PB)(outer:List XD)(s:OI)(H:Hp):Prop where
 frames:A.frames=some outer
 mod:Mod K mg base
 bs:∀b o,base.get? b=some o->s.heap.get? b=some o/\H b=none
 bsz:base.objs.size≤s.heap.objs.size
 funs:s.heap.FunFrames base outer
 frf:∀b∈pX outer,H b=none
 hok:iz P w H s.heap
 bare:Tt s.gens
def CE(outer:List XD)(P:Po)(w:PM)(H:Hp)(s:OI)(Q:VK)(u:Value)(s':OI):Prop:=
 ∃v H',s'.os=s.os/\Tt s'.gens/\Un (pX outer) [] H H' s.heap s'.heap/\iz P w H' s'.heap/\RelV v u/\Q v H'
def CR(CX:rV)(outer:List XD)(P:Po)(w:PM)(H:Hp)(s:OI)(Q:VK)(E:XK)(r:WZ)(s':OI):Prop:=
 match r with
 | .ok (.ret u)=>CE outer P w H s Q u s'
 | .ok _=>False
 | .error e=>CX outer H s E e s'
structure bn(P:Po)(w:PM)(K:Oz)(mg:Pf->Option Value)(base:OR)(CX:rV)(k:Nat)(f:Addr)(fd:OK)(ps:List Pf)(sp:Sp):Prop where
 len:∀vs H Q E,sp vs H Q E->vs.length=ps.length
 run:∀(A:PB) (outer:List XD) (s:OI) (H:Hp) (args:Args) (us:List Value) (vs:List V) (Q:VK) (E:XK),cV k A->rQ P w K mg base A outer s H->U7 s fd args (ps.zip us)->be vs us->sp vs H Q E→
  SE (O3 P w) A (.call (.ref f) args) (CR CX outer P w H s Q E) s
theorem rQ.make{P:Po}{w:PM}{K:Oz}{mg:Pf->Option Value}{base:OR}{A:PB}{outer:List XD}{s:OI}{H:Hp}(e:rQ P w K mg base A outer s H)(C:Addr)(us:List Value)(kw:List (Pf×Value)) :
  rQ P w K mg base (A.under (.builtin "type.__call__" ⟨.ref C::us,kw⟩)) outer s H:=⟨by first|exact e.frames | (simpa [U6,Wu.envs,Wv,pushEnvs] using e.frames),e.mod,e.bs,e.bsz,e.funs,e.frf,e.hok,e.bare⟩
section
variable {X:Cx}{pins:List (Addr×Ql)}{σ:St}{H:Hp}{s s':OI}
theorem Inv.env0(I:Inv X pins σ H s):rQ X.prog X.w X.K X.mg X.base X.A X.stack s H:=
 ⟨I.ok.frames,I.ok.mod,I.bs,O7 I.ok.bsz I.sz,I.stack,I.stkFree,I.hok,I.bare⟩
theorem Inv.after(I:Inv X pins σ H s)(h:CE X.stack X.prog X.w H s Q u s'):EP X pins σ Q u s':=by
 obtain⟨v,H',os,bare,un,hok,r,q⟩:=h;obtain⟨hh,g,d,t,os'⟩:=s';obtain rfl:os'=s.os:=os;exact⟨v,H',I.call (h':=hh) (g':=g) (d':=d) (t':=t) (ch:=[]) un hok bare (λb z=>absurd z (by simp)),r,q⟩
end
def xX(sp:Sp)(dvs:List V)(E:XK)(t:TA):TE:=λσ H Q=>t σ H λvs H1=>sp (vs++dvs) H1 Q E
def um(C:Addr)(m:Pf)(sp:Sp)(dvs:List V)(E:XK)(ta:TE)(t:TA):TE:=λσ H Q=>ta σ H λx H1=>∃a dx fs,x=.ref a/\H1 a=some (.ins C dx fs)/\fs.lookup m=none∧
 t σ H1 λvs H2=>sp (x::(vs++dvs)) H2 Q E
def D9(C:Addr)(sp:Sp)(dvs:List V)(E:XK)(t:TA):TE:=λσ H Q=>t σ H λvs H1=>∀x dx,H1 x=none->H1 dx=none->dx≠x→
 sp (.ref x::(vs++dvs)) (upd (upd H1 dx (.own x)) x (.ins C dx [])) (λv H2=>v=.non/\Q (.ref x) H2) E
def aL(K:Oz)(fd:OK)(ps:List Pf)(ds:List Value):Prop:=
 ∀(s:OI) (us:List Value),K.In s.heap->(us++ds).length=ps.length->U7 s fd ⟨us,[]⟩ (ps.zip (us++ds))
theorem aL.all{K:Oz}{fd:OK}{ps:List Pf}(h:∀us:List Value,us.length=ps.length->Ww fd ⟨us,[]⟩=QP (ps.zip us)):aL K fd ps []:=λs us _ hl=>by
 rw[Qr] at hl ⊢;exact .of_eq (h us hl)
def ff(CX:rV)(X:Cx)(E:XK):Prop:=∀(pins:List (Addr×Ql)) (σ:St) (H:Hp) (s:OI) (e:Value) (s':OI),Inv X pins σ H s->CX X.stack H s E e s'->X.xe e s'
section
variable {X:Cx}{CX:rV}{k:Nat}{f C:Addr}{fd:OK}{ps:List Pf}{sp:Sp}{dvs:List V}{ds:List Value}{E:XK}{x m:Pf}{p pos apos:So}{e o:PD}{es:List PD}{ta:TE}{t:TA}
theorem sN{pins:List (Addr×Ql)}{σ:St}{H:Hp}{s:OI}{Q:VK}{us:List Value}{vs:List V}(F:bn X.prog X.w X.K X.mg X.base CX k f fd ps sp)(hr:cV k X.A)(hb:aL X.K fd ps ds)(hd:be dvs ds)(hx:ff CX X E)
  (I:Inv X pins σ H s) (r:be vs us) (h:sp (vs++dvs) H Q E):OY (O3 X.prog X.w) X.A (call (.ref f) us) (EP X pins σ Q) X.xe s:=by
 have r2:be (vs++dvs) (us++ds):=r.append hd;have hl:(us++ds).length=ps.length:=by rw[←r2.length];exact F.len _ _ _ _ h
 refine Wc (TR (F.run X.A X.stack s H ⟨us,[]⟩ (us++ds) (vs++dvs) Q E hr I.env0 (hb s us I.kIn hl) r2 h) λr s' hq=>?_)
 cases r with
 |error e=>exact hx pins σ H s e s' I hq
 |ok fl=>
  cases fl with
  |ret u=>exact I.after hq
  |next=>exact Qy hq
  |brk=>exact Qy hq
  |cont=>exact Qy hq
theorem CY(F:bn X.prog X.w X.K X.mg X.base CX k f fd ps sp)(hr:cV k X.A)(hg:Gl X x)(hm:X.mg x=some (.ref f))(hk:QF X.K (.ref f)=true)(hb:aL X.K fd ps ds)(hd:be dvs ds)(hx:ff CX X E)
  (ha:PA X (e::es) t) (hdb:(x==("__debug__" : Pf))=false:=by decide) (he:OS (e::es) X.env=(false,eval e X.env)::OS es X.env:=by rfl) (hpl:(Rt pos (OS es X.env)).any (·.1)=false:=by rfl) :
  PE X (.Call (.Name x p) (e::es) [] pos) (xX sp dvs E t):=by
 intro pins s σ H Q I h;refine Se (kK I hg hm ?_ hdb);refine Ud (h₀:=X.base) I.ok.mod.kin hk (bU (ha pos pins s σ H _ I h) λus s1 ⟨vs,H1,I1,r,q⟩=>⟨I1.kIn,?_⟩) he hpl;exact sN F hr hb hd hx I1 r q
theorem CS{pl:Sem Bool}(he:PE X o ta)(c:ud X.K C)(hm:kB X.K C m f)(F:bn X.prog X.w X.K X.mg X.base CX k f fd ps sp)(hr:cV k X.A)(hb:aL X.K fd ps ds)(hd:be dvs ds)(hx:ff CX X E)(ha:PA X (e::es) t)
  (hst:OS (e::es) X.env=(false,eval e X.env)::OS es X.env:=by rfl) (hpl:(Rt pos (OS es X.env)).any (·.1)=false:=by rfl)
  (ht:eval (.Call (.Attribute o m apos) (e::es) [] pos) X.env=(do
   let ov ←eval o X.env
   U2 apos.atName
   let (f,first) ←holding [ov] (UK ov m pl)
   Wx pos f first (Rt pos (OS (e::es) X.env)) (Tw pos (R5 [] X.env))):=by rfl) :
  PE X (.Call (.Attribute o m apos) (e::es) [] pos) (um C m sp dvs E ta t):=by
 intro pins s σ H Q I h;refine Vu (pl:=pl) (bU (he pins s σ H _ I h) λu s1 ⟨x,H1,I1,rx,a,dx,fs,ex,ea,l,q⟩=>?_) ht;subst ex;obtain rfl:u=O8 a:=rx;refine mF I1 ea c hm l ?_;refine Ud (first:=[.ref a]) (h₀:=X.base) I.ok.mod.kin hm.kp (bU (ha pos pins s1 σ H1 _ I1 q) λus s2 ⟨vs,H2,I2,r,q2⟩=>⟨I2.kIn,?_⟩) hst hpl;exact sN (us:=.ref a::us) (vs:=.ref a::vs) F hr hb hd hx I2 (.cons Z r) q2
theorem Ae{pl:Sem Bool}(he:PE X o ta)(c:ud X.K C)(hm:kB X.K C m f)(F:bn X.prog X.w X.K X.mg X.base CX k f fd ps sp)(hr:cV k X.A)(hb:aL X.K fd ps ds)(hd:be dvs ds)(hx:ff CX X E)
  (ht:eval (.Call (.Attribute o m apos) [] [] pos) X.env=(do
   let ov ←eval o X.env
   U2 apos.atName
   let (f,first) ←holding [ov] (UK ov m pl)
   Wx pos f first (Rt pos (OS [] X.env)) (Tw pos (R5 [] X.env))):=by rfl) :
  PE X (.Call (.Attribute o m apos) [] [] pos) (um C m sp dvs E ta vD):=by
 intro pins s σ H Q I h;refine Vu (pl:=pl) (bU (he pins s σ H _ I h) λu s1 ⟨x,H1,I1,rx,a,dx,fs,ex,ea,l,q⟩=>?_) ht;subst ex;obtain rfl:u=O8 a:=rx;refine mF I1 ea c hm l ?_;exact VQ (first:=[.ref a]) I1.kIn hm.kp (sN (us:=[.ref a]) (vs:=[.ref a]) F hr hb hd hx I1 (.cons Z .nil) q)
structure Mk(K:Oz)(C f:Addr):Prop where
 makes:Xq K C=true
 init:Pz K (.ref C) "__init__"=some (some (.ref f))
 fn:TQ K (.ref f)=true
 kp:QF K (.ref C)=true
theorem zw{pins:List (Addr×Ql)}{σ:St}{H:Hp}{s:OI}{Q:VK}{us:List Value}{vs:List V}(M:Mk X.K C f)(F:bn X.prog X.w X.K X.mg X.base CX k f fd ps sp)(hr:cV (k+1) X.A)(hb:aL X.K fd ps ds)(hd:be dvs ds)
  (hx:ff CX X E) (I:Inv X pins σ H s) (r:be vs us)
  (h:∀x dx,H x=none->H dx=none->dx≠x->sp (.ref x::(vs++dvs)) (upd (upd H dx (.own x)) x (.ins C dx [])) (λv H2=>v=.non/\Q (.ref x) H2) E) :
  OY (O3 X.prog X.w) X.A (call (.ref C) us) (EP X pins σ Q) X.xe s:=by
 have hq:=h (s.heap.objs.size+1) s.heap.objs.size (I.hok.fresh (Q3 _)) (I.hok.fresh (OC _)) (PF (UO _));have I2:=Inv.made (C:=C) I;have r2:be (V.ref (s.heap.objs.size+1)::(vs++dvs)) (O8 (s.heap.objs.size+1)::(us++ds)):=.cons Z (r.append hd);have hl:(O8 (s.heap.objs.size+1)::us++ds).length=ps.length:=by
  have e:=r2.length;rw[F.len _ _ _ _ hq] at e;exact e.symm
 refine Wc (AI (f:=f) I.kIn M.makes M.init (beq_iff_eq.mp M.fn) (TR (F.run _ X.stack _ _ ⟨O8 (s.heap.objs.size+1)::us,[]⟩ (O8 (s.heap.objs.size+1)::(us++ds)) _ _ E (hr.make C us []) (I2.env0.make C us []) (hb _ (O8 (s.heap.objs.size+1)::us) I2.kIn hl) r2 hq) λr s' hq'=>?_))
 cases r with
 |error e=>exact hx pins σ _ _ e s' I2 hq'
 |ok fl=>
  cases fl with
  |ret u=>
   obtain⟨v,H',I3,rv,ev,q3⟩:=I2.after hq';subst ev;exact⟨rv,⟨V.ref (s.heap.objs.size+1),H',I3,Z,q3⟩⟩
  |next=>exact Qy hq'
  |brk=>exact Qy hq'
  |cont=>exact Qy hq'
theorem Af(M:Mk X.K C f)(F:bn X.prog X.w X.K X.mg X.base CX k f fd ps sp)(hr:cV (k+1) X.A)(hg:Gl X x)(hm:X.mg x=some (.ref C))(hb:aL X.K fd ps ds)(hd:be dvs ds)(hx:ff CX X E)
  (hdb:(x==("__debug__" : Pf))=false:=by decide):PE X (.Call (.Name x p) [] [] pos) (D9 C sp dvs E vD):=by
 intro pins s σ H Q I h;refine Se (kK I hg hm ?_ hdb);exact VQ I.kIn M.kp (zw (us:=[]) M F hr hb hd hx I .nil h)
end
def PK(X:Cx)(kws:List TU)(t:TA):Prop:=
 ∀(pos:So) (pins:List (Addr×Ql)) (s:OI) (σ:St) (H:Hp) (Q:List V->Hp->Prop),Inv X pins σ H s->t σ H Q->OY (O3 X.prog X.w) X.A (evalAll ((Tw pos (R5 kws X.env)).map (·.2))) (AP X pins σ Q) X.xe s
section
variable {X:Cx}{CX:rV}{k:Nat}{f C:Addr}{fd:OK}{ps ks:List Pf}{sp:Sp}{E:XK}{x m:Pf}{p pos apos kpos:So}{e o:PD}{es:List PD}{kws:List TU}{te ta:TE}{t tk:TA}{nm:Option Pf}
structure LR(K:Oz)(fd:OK)(ps ks:List Pf)(g:List Value->List Value->List Value)(gV:List V->List V->List V):Prop where
 to:∀(s:OI) (us ws:List Value),K.In s.heap->(g us ws).length=ps.length->U7 s fd ⟨us,ks.zip ws⟩ (ps.zip (g us ws))
 rel:∀{vs:List V} {us:List Value} {zs:List V} {ws:List Value},be vs us->be zs ws->be (gV vs zs) (g us ws)
def La(sp:Sp)(gV:List V->List V->List V)(E:XK)(t tk:TA):TE:=λσ H Q=>t σ H λvs H1=>tk σ H1 λzs H2=>sp (gV vs zs) H2 Q E
variable {g:List Value->List Value->List Value}{gV:List V->List V->List V}
end
structure aD(N P:List Pf)(sc:SG):Prop where
 kind:sc.kind=.function
 co:sc.isCoroutine=false
 gen:sc.isGenerator=false
 nd:N.Nodup
 pre:N.take P.length=P
 par:∀x∈P,sc.names.lookup x=some .local∨sc.names.lookup x=some .cell
 nofree:∀y∈sc.names,y.2≠.free
theorem ou{kindOf:Pf->Option SN}{x:Pf}:∀{binds:List (Pf×Value)} {m:Pf->Option Value},(∀v,(x,v)∉binds)->XQ kindOf binds m x=m x
 | [],_,_=>rfl
 | (n,v)::r,m,h=>by
  unfold XQ;rw[ou λw hw=>h w (OL _ hw)]
  split
  ·have:x≠n:=by rintro rfl;exact h v OJ
   simp[this]
  ·rfl
theorem oz{kindOf:Pf->Option SN}{x:Pf}:∀{binds:List (Pf×Value)} {m:Pf->Option Value},(∀v,(x,v)∉binds)->XR kindOf binds m x=m x
 | [],_,_=>rfl
 | (n,v)::r,m,h=>by
  unfold XR;rw[oz λw hw=>h w (OL _ hw)]
  split
  ·rfl
  ·have:x≠n:=by rintro rfl;exact h v OJ
   simp[this]
theorem oy{kindOf:Pf->Option SN}{x:Pf}{v:Value}:∀{P:List Pf} {vs:List Value} {i:Nat} {m:Pf->Option Value},P.Nodup->P[i]?=some x->vs[i]?=some v->kindOf x=some .local→
  XQ kindOf (P.zip vs) m x=some v
 | [],_,_,_,_,h,_,_=>by simp at h
 |_::_,[],_,_,_,_,h,_=>by simp at h
 |p::P,w::vs,0,m,nd,h1,h2,hk=>by
  simp at h1 h2;subst h1;subst h2;show XQ kindOf ((p,w)::P.zip vs) m p=_;unfold XQ;rw[ou λv hv=>(PZ.mp nd).1 (Vr hv).1,if_pos hk];simp
 |p::P,w::vs,i+1,m,nd,h1,h2,hk=>by
  show XQ kindOf ((p,w)::P.zip vs) m x=_;unfold XQ;exact oy (i:=i) (PZ.mp nd).2 (by simpa using h1) (by simpa using h2) hk
theorem oA{kindOf:Pf->Option SN}{x:Pf}{v:Value}:∀{P:List Pf} {vs:List Value} {i:Nat} {m:Pf->Option Value},P.Nodup->P[i]?=some x->vs[i]?=some v->kindOf x≠some .local→
  XR kindOf (P.zip vs) m x=some v
 | [],_,_,_,_,h,_,_=>by simp at h
 |_::_,[],_,_,_,_,h,_=>by simp at h
 |p::P,w::vs,0,m,nd,h1,h2,hk=>by
  simp at h1 h2;subst h1;subst h2;show XR kindOf ((p,w)::P.zip vs) m p=_;unfold XR;rw[oz λv hv=>(PZ.mp nd).1 (Vr hv).1,if_neg hk];simp
 |p::P,w::vs,i+1,m,nd,h1,h2,hk=>by
  show XR kindOf ((p,w)::P.zip vs) m x=_;unfold XR;exact oA (i:=i) (PZ.mp nd).2 (by simpa using h1) (by simpa using h2) hk
def i6(N:List Pf)(vs:List V):St:=vs.map some++Pg (N.length-vs.length) none
def bD(CX:rV)(P:Po)(w:PM)(K:Oz)(mg:Pf->Option Value)(base:OR)(N:List Pf)(qual:Pf)(scope:SG)(f:Addr)(cd:Value)(A:PB)(outer:List XD)(s:OI)(H:Hp)(E:XK):Cx where
 prog:=P
 w:=w
 K:=K
 mg:=mg
 base:=base
 A:=A.deeper (U8 qual scope s.heap.objs.size f cd)
 N:=N
 s₀:=s
 H₀:=H
 env:=U8 qual scope s.heap.objs.size f cd
 outer:=outer
 stack:=U8 qual scope s.heap.objs.size f cd::outer
 ex:=[]
 calm:=true
 fn:=λ_=>true
 pn:=[]
 xe:=λe s'=>OY (O3 P w) (A.deeper (U8 qual scope s.heap.objs.size f cd)) (leaving (U8 qual scope s.heap.objs.size f cd) e) (λ_ s''=>CX outer H s E e s'') (λe' s''=>CX outer H s E e' s'') s'
theorem rH{sc:SG}(h:sc.names.lookup x=some .cell):∃c,(T7 n sc.names []).lookup x=some c:=by
 have q:=U9 sc.names n [] (.inl h);exact QH.mp q
theorem wK{CX:rV}{P:Po}{w:PM}{K:Oz}{mg:Pf->Option Value}{base:OR}{N ps:List Pf}{qual:Pf}{scope:SG}{f:Addr}{cd:Value}{A:PB}{outer:List XD}{s s1:OI}{H:Hp}{E:XK}{us:List Value}{vs:List V}
  (S:aD N ps scope) (hd:A.handled=none) (e0:rQ P w K mg base A outer s H) (hl:vs.length=ps.length) (r:be vs us)
  (x:InCallC s s.heap.objs.size (XQ (U8 qual scope s.heap.objs.size f cd).kindOf (ps.zip us) λ_=>none) (T7 (s.heap.objs.size+1) scope.names []) (XR (U8 qual scope s.heap.objs.size f cd).kindOf (ps.zip us) λ_=>none) s1) :
  Inv (bD CX P w K mg base N qual scope f cd A outer s H E) [] (i6 N vs) H s1:=by
 have hpl:ps.length≤N.length:=by have:=congrArg List.length S.pre;rw[P7] at this;omega
 obtain⟨h1,tk,rfl,hk⟩:=x.done;have noA:∀b:Addr,b∉(bD CX P w K mg base N qual scope f cd A outer s H E).ex:=λb z=>absurd (show b∈([]:List Addr) from z) (by simp)
 refine⟨⟨e0.mod,S.kind,Z,Z,OC _,λy z c h1 h2=>?_,λy hy=>?_,λy c _ h=>?_,λ_=>hd,PB.frames_deeper e0.frames,.inr ⟨Z,Z⟩,λb z=>absurd z (noA b),e0.bs,e0.bsz,λb _ _=>noA b,λb z=>absurd z (noA b),e0.funs,e0.frf⟩,
  rfl,e0.bare,Un.kept hk,⟨_,x.toInCall.ns,λi y v h1 h2 h3=>?_⟩,λy c h=>⟨_,x.cell y c h⟩,e0.hok.fresh (OC _),λy c h=>?_,λp hp=>absurd (show p∈([]:List (Addr×Ql)) from hp) (by simp),e0.hok.kept hk,?_⟩
 ·exact name_of_addr x.apart (RU h1) (RU h2)
 ·have hy:scope.names.lookup y=some .cell∨scope.names.lookup y=some .free:=hy;rcases hy with hy|hy
  ·exact rH hy
  ·exact absurd Z (S.nofree _ (RU hy))
 ·exact R8 (x.above y c (RU h))
 ·have hi:i<vs.length:=by
   unfold i6 at h2;by_cases hi:i<vs.length
   ·exact hi
   ·rw[QZ (by simpa using hi)] at h2;rw[S0] at h2
    split at h2<;>cases h2
  have ha:vs[i]?=some v:=by
   unfold i6 at h2;rw[Qv (by simpa using hi),OQ] at h2
   cases e:vs[i]? with
   |none=>rw[e] at h2;cases h2
   |some a=>rw[e] at h2;cases h2;rfl
  obtain⟨u,hu,rv⟩:=r.get ha;have hp:ps[i]?=some y:=by
   rw[←S.pre,UF (by omega)];exact h1
  have ndP:ps.Nodup:=by rw[←S.pre];exact S.nd.sublist (List.take_sublist _ _)
  refine⟨u,rv,?_⟩;rcases S.par y (OM hp) with k|k
  ·exact .inl ⟨k,oy ndP hp hu k⟩
  ·obtain⟨c,e⟩:=rH (n:=s.heap.objs.size+1) k;refine .inr ⟨.inl k,c,e,?_⟩;have q:=x.cell y c e;rw[oA ndP hp hu (by show scope.names.lookup y≠_;rw[k];decide)] at q;exact q
 ·exact e0.hok.fresh (R8 (x.above y c (RU h)))
 ·unfold i6;show _=N.length;rw[Pk,OD,Tg];omega
theorem ED{CX:rV}{P:Po}{w:PM}{K:Oz}{mg:Pf->Option Value}{base:OR}{k:Nat}{f:Addr}{name qual:Pf}{params:Arguments}{body:List Stmt}{scope:SG}{dV kV doc pm cdv ct oc:Value}{an od:Option Addr}
  {osl:Array (Option Value)} {N ps:List Pf} {sp:Sp} (lk:K.lookup f=some ⟨oc,od,.func (QL name qual params body scope dV kV doc pm an cdv ct),osl⟩) (hcd:S8 K cdv qual=true) (S:aD N ps scope)
  (len:∀vs H Q E,sp vs H Q E->vs.length=ps.length)
  (hbody:∀(A:PB) (outer:List XD) (s:OI) (H:Hp) (vs:List V) (Q:VK) (E:XK),cV k (A.deeper (U8 qual scope s.heap.objs.size f cdv))->sp vs H Q E→
   ∃t,rS (bD CX P w K mg base N qual scope f cdv A outer s H E) body t/\t { nx:=λ_ H'=>Q .non H',rt:=Q} (i6 N vs) H) :
  bn P w K mg base CX (k+1) f (QL name qual params body scope dV kV doc pm an cdv ct) ps sp:=by
 refine⟨len,λA outer s H args us vs Q E hr e0 hb r hsp=>?_⟩;have hl:=len _ _ _ _ hsp;have KX:K.In s.heap:=e0.mod.kin.keeps λb o e=>(e0.bs b o e).1
 have lim:s.heap.NoLimit:=e0.mod.nolimit.keeps λb o e=>(e0.bs b o e).1
 have hkind:∀y∈ps.zip us,scope.names.lookup y.1=some .local∨(scope.names.lookup y.1=some .cell/\((T7 (s.heap.objs.size+1) scope.names []).lookup y.1).isSome=true):=λ⟨n,v⟩ hy=>by
  rcases S.par n (Vr hy).1 with q|q
  ·exact .inl q
  ·exact .inr ⟨q,U9 _ _ _ (.inl q)⟩
 refine codeAny_call_function hr.depth (KX _ _ lk) Z S.co S.gen Z (PySem.W.codeRec_of KX hcd) (hb _ _ _ _ ?_);refine wpAny_newFunctionEnv_cells S.kind hkind λenv he s1 x=>?_
 subst he;refine⟨lim.keeps x.toInCall.keep,codeAny_func ?_⟩;obtain⟨t,ht,hq⟩:=hbody A outer s H vs Q E (hr.deeper _) hsp;have I:Inv (bD CX P w K mg base N qual scope f cdv A outer s H E) [] (i6 N vs) H s1:=wK S hr.hd e0 hl r x;refine Qp (ht [] s1 (i6 N vs) H _ I hq) (λfl s' hs=>?_) λe s' hs=>hs
 have fin:∀{σ':St} {H':Hp} {v:V} {u:Value},Inv (bD CX P w K mg base N qual scope f cdv A outer s H E) [] σ' H' s'->RelV v u->Q v H'->CE outer P w H s Q u s':=
  λ{σ' H' v u} J rv q=>⟨v,H',J.os,J.bare,J.base,J.hok,rv,q⟩
 cases fl with
 |ret u=>
  obtain⟨v,σ',H',J,rv,q⟩:=hs;exact fin J rv q
 |next=>
  obtain⟨σ',H',J,q⟩:=hs;exact fin (v:=V.non) (u:=Qn) J Z q
 |brk=>
  obtain⟨_,_,_,q⟩:=hs;exact Qy q
 |cont=>
  obtain⟨_,_,_,q⟩:=hs;exact Qy q
end L2
namespace L2
open PySem PySem.Spec PyProof.Rows
section
variable {X:Cx}{x:Pf}{p pos:So}{e:PD}{es:List PD}{t:TA}{id T:String}{r:List V->Hp->VK->Prop}
def Kw(r:List V->Hp->VK->Prop)(t:TA):TE:=λσ H Q=>t σ H λvs H1=>r vs H1 Q
theorem Al(hc:dH X (.builtin id) r)(hg:Gl X x)(hm:X.mg x=none)(hv:Rf x=some (.builtin id))(ha:PA X (e::es) t)(hn:x ≠ "__name__" := by decide)(hdb:(x==("__debug__" : Pf))=false:=by decide)
  (he:OS (e::es) X.env=(false,eval e X.env)::OS es X.env:=by rfl) (hpl:(Rt pos (OS es X.env)).any (·.1)=false:=by rfl):PE X (.Call (.Name x p) (e::es) [] pos) (Kw r t):=by
 intro pins s σ H Q I h;refine Se (gT I hg hm hv ?_ hn hdb);exact PyProof.Rows.callWith_builtin1 (bU (ha pos pins s σ H _ I h) λus s1 ⟨vs,H1,I1,r1,q1⟩=>hc pins s1 σ H1 vs us Q I1 r1 q1) he hpl
theorem we(hc:dH X (.type T) r)(hg:Gl X x)(hm:X.mg x=none)(hv:Rf x=some (.type T))(ha:PA X (e::es) t)(hn:x ≠ "__name__" := by decide)(hdb:(x==("__debug__" : Pf))=false:=by decide)
  (he:OS (e::es) X.env=(false,eval e X.env)::OS es X.env:=by rfl) (hpl:(Rt pos (OS es X.env)).any (·.1)=false:=by rfl):PE X (.Call (.Name x p) (e::es) [] pos) (Kw r t):=by
 intro pins s σ H Q I h;refine Se (gT I hg hm hv ?_ hn hdb);exact Qj (bU (ha pos pins s σ H _ I h) λus s1 ⟨vs,H1,I1,r1,q1⟩=>hc pins s1 σ H1 vs us Q I1 r1 q1) he hpl
end
end L2
namespace HT
open PySem PyProof.Rows
def lexLt:List Int->List Int->Bool
 | [],[]=>false
 | [],_::_=>true
 |_::_,[]=>false
 |x::xs,y::ys=>if x=y then lexLt xs ys else decide (x<y)
section
open PySem.SeqAt
open PySem.MeetsSeq PySem.MeetsSeq2 PySem.MeetsSeq3
end
section
variable {prog:Po}{w:PM}{A:PB}{E:Value->OI->Prop}{s:OI}
def sIx(n d:Nat):Option Int->Nat
 |none=>d
 |some v=>if v<0 then(v+(n:Int)).toNat else min v.toNat n
theorem sIx_nat(n d k:Nat):sIx n d (some (k:Int))=min k n:=by
 show(if(k:Int)<0 then((k:Int)+(n:Int)).toNat else min (k:Int).toNat n)=min k n;rw[if_neg (by omega),RM]
theorem FK(n d:Nat)(hd:d≤n)(o:Option Int):sIx n d o≤n:=by
 cases o with
 |none=>exact hd
 |some v=>
  show(if v<0 then(v+(n:Int)).toNat else min v.toNat n)≤n;by_cases hv:v<0
  ·rw[if_pos hv];omega
  ·rw[if_neg hv];exact Nat.min_le_right _ _
theorem va(v:Int)(n d:Nat):(if v<0 then max (v+(n:Int)) 0 else min v (n:Int))=((sIx n d (some v):Nat):Int):=by
 show(if v<0 then max (v+(n:Int)) 0 else min v (n:Int))=(((if v<0 then(v+(n:Int)).toNat else min v.toNat n):Nat):Int);by_cases hv:v<0
 ·simp only[if_pos hv];omega
 ·simp only[if_neg hv];omega
theorem tV(lo hi:Option Int)(n:Nat):SH lo hi 1 (n:Int)=(((sIx n 0 lo:Nat):Int),((sIx n n hi:Nat):Int)):=by
 have h1:¬((1:Int)<0):=by omega
 unfold SH;simp only[h1,if_false];refine Wy ?_ ?_
 ·cases lo with
  |none=>rfl
  |some v=>exact va v n 0
 ·cases hi with
  |none=>rfl
  |some v=>exact va v n n
theorem sU(i j:Nat):RH (i:Int) (j:Int) 1=j-i:=by
 unfold RH;have h1:(1:Int)>0:=by omega
 simp only[h1,if_true,Va]
 split<;>omega
theorem lT(p:Vb v o)(h:Q o s):OY (O3 prog w) A (PH.Slice.slicePartIndex v) Q E s:=by
 cases p with
 |none=>exact slicePart_none h
 |int i t=>exact slicePart_int h
theorem gc{sl:Addr}{vl vu:Value}{lo hi:Option Int}{n:Nat}{Q:Int×Int×Nat->OI->Prop}(hs:s.heap.IsSliceOf sl vl vu .none)(pl:Vb vl lo)(pu:Vb vu hi)
  (h:Q (((sIx n 0 lo:Nat):Int),1,sIx n n hi-sIx n 0 lo) s):OY (O3 prog w) A (Ue (.ref sl) (QP (n:Int))) Q E s:=by
 obtain⟨os,hos,hcs,hds⟩:=id hs;unfold Ue PH.Slice.sliceFields;refine OE (OE (RA hos hds (x:=vl) Z (OE (RA hos hds (x:=vu) Z (OE (RA hos hds (x:=.none) Z (wpAny_pure ?_)))))));refine OE (slicePart_none ?_);show OY _ _ (if((1:Int)==0)=true then _ else _) _ _ s;rw[if_neg (by decide)];refine OE (lT pl (OE (lT pu (OE (wpAny_pure ?_)))));show OY _ _ (match SH lo hi 1 (n:Int) with | (lo,hi)=>QP (lo,(1:Int),RH lo hi 1)) _ _ s;rw[tV lo hi n];show OY _ _ (QP (((sIx n 0 lo:Nat):Int),(1:Int),RH ((sIx n 0 lo:Nat):Int) ((sIx n n hi:Nat):Int) 1)) _ _ s;rw[sU];exact wpAny_pure h
theorem z7(xs:Array Value)(i k:Nat):((OB k).filterMap λ(m:Nat)=>xs[((i:Int)+(m:Int)*1).toNat]?).toArray=((xs.toList.drop i).take k).toArray:=by
 have e:(λ(m:Nat)=>xs[((i:Int)+(m:Int)*1).toNat]?)=λm=>xs[i+m]?:=by
  funext m
  have:((i:Int)+(m:Int)*1).toNat=i+m:=by omega
  rw[this]
 rw[e];have:=pick_run xs i k;rw[List.filterMap_map] at this;have e2:((λx=>xs[x]?)∘λx=>i+x)=λm=>xs[i+m]?:=Z
 rw[e2] at this;rw[this]
theorem getItem_tuple_cut{t sl:Addr}{items:Array Value}{vl vu:Value}{lo hi:Option Int}{Q:Value->OI->Prop}(ht:XF s.heap t items)(hs:s.heap.IsSliceOf sl vl vu .none)(pl:Vb vl lo)(pu:Vb vu hi)
  (hw:¬(sIx items.size 0 lo=0/\sIx items.size items.size hi=items.size))
  (h:Q (.ref s.heap.objs.size) { s with heap:=s.heap.push { cls:=.type "tuple",data:=.seq ((items.toList.drop (sIx items.size 0 lo)).take (sIx items.size items.size hi-sIx items.size 0 lo)).toArray} })
  (hsz:items.size≤sizeLine):OY (O3 prog w) A (S2 (.ref t) (.ref sl)) Q E s:=by
 have htake:sizeOk (.seq ((items.toList.drop (sIx items.size 0 lo)).take (sIx items.size items.size hi-sIx items.size 0 lo)).toArray):=by
  show((items.toList.drop (sIx items.size 0 lo)).take (sIx items.size items.size hi-sIx items.size 0 lo)).toArray.size≤sizeLine;rw[Ph,P7,RZ,Qx];omega
 have hj:sIx items.size items.size hi≤items.size:=FK _ _ (OC _) hi;obtain⟨os,hos,hcs,hds⟩:=id hs;have hTs:s.TypeIs (.ref sl) "slice" := ⟨os,hos,hcs⟩;unfold S2
 try with_reducible refine wpAny_holding ?_
 first|refine OE (wpAny_pure ?_)|skip
 refine OE (Wz ht.typeIs (by decide) ?_);refine OE (QR (name:=OT "__getitem__") ht.typeIs P9 (Ra P9 ht.typeIs VR ?_ (We _ _)))
 show OY _ _ (Uf (.ref t) >>= _) _ _ s;refine OE (tupleItemsOf_ ht ?_);refine OE (Vc hTs ?_);rw[if_pos (by decide)];refine OE (gc hs pl pu ?_);have hno:¬((((sIx items.size 0 lo:Nat):Int)==0&&(1:Int)==1&&(sIx items.size items.size hi-sIx items.size 0 lo)==items.size)=true):=by
  intro q;rw[O2,O2] at q;have q1:((sIx items.size 0 lo:Nat):Int)=0:=T8 q.1.1;have q2:sIx items.size items.size hi-sIx items.size 0 lo=items.size:=T8 q.2;exact hw ⟨by omega,by omega⟩
 show OY _ _ (if(((sIx items.size 0 lo:Nat):Int)==0&&(1:Int)==1&&(sIx items.size items.size hi-sIx items.size 0 lo)==items.size)=true then _ else _) _ _ s;rw[if_neg hno,z7]
 first
  |exact OE (m:=QJ _) (P8 (wpAny_pure ⟨_,rfl,wpAny_pure h⟩) htake)
  |exact OE (m:=QJ _) (P8 (OE (wpAny_pure (wpAny_pure ⟨_,rfl,wpAny_pure h⟩))) htake)
  |exact OE (OE (m:=QJ _) (P8 (wpAny_pure (wpAny_pure ⟨_,rfl,wpAny_pure h⟩)) htake))
  |exact OE (OE (m:=QJ _) (P8 (wpAny_pure ⟨_,rfl,wpAny_pure h⟩) htake))
end
end HT
namespace L2
open PySem PySem.Spec PyProof.Rows
abbrev TO:=St->Hp->(Option Int->Hp->Prop)->Prop
def PO(X:Cx)(e:Option PD)(t:TO):Prop:=
 ∀(pins:List (Addr×Ql)) (s:OI) (σ:St) (H:Hp) (Q:Option Int->Hp->Prop),Inv X pins σ H s->t σ H Q→
  OY (O3 X.prog X.w) X.A (evalPart e X.env) (λu s'=>∃o H',Inv X pins σ H' s'/\Vb u o/\Q o H') X.xe s
def Kt:TO:=λ_ H Q=>Q none H
def D6(t:TE):TO:=λσ H Q=>t σ H λx H1=>∃i,x=.int i/\Q (some i) H1
section
variable {X:Cx}{e:PD}{te:TE}{lo hi:Option PD}{tl th:TO}{pos p2:So}
theorem CI(h:PE X e te):PO X (some e) (D6 te):=by
 intro pins s σ H Q I hw;rw[evalPart_some];refine bU (h pins s σ H _ I hw) λu s1 ⟨x,H1,I1,r1,q1⟩=>?_
 obtain⟨i,rfl,q⟩:=q1;obtain⟨t,rfl⟩:=r1;exact⟨some i,H1,I1,.int i t,q⟩
def BB(X:Cx)(r:V->Option Int->Option Int->Hp->VK->Prop):Prop:=
 ∀(pins:List (Addr×Ql)) (s:OI) (σ:St) (H:Hp) (x:V) (v vl vu:Value) (lo hi:Option Int) (sl:Addr) (Q:VK),Inv X pins σ H s->RelV x v->s.heap.IsSliceOf sl vl vu .none->Vb vl lo->Vb vu hi->r x lo hi H Q→
  ∃T id,XS (.type T) "__getitem__"=QP (some (.builtin id))/\s.TypeIs v T/\OY (O3 X.prog X.w) X.A (S2 v (.ref sl)) (EP X pins σ Q) X.xe s
theorem BB.or(h:BB X r)(h':BB X r'):BB X (λx lo hi H Q=>r x lo hi H Q∨r' x lo hi H Q):=by
 intro pins s σ H x v vl vu lo hi sl Q I rx hs pl pu q;rcases q with q|q
 ·exact h pins s σ H x v vl vu lo hi sl Q I rx hs pl pu q
 ·exact h' pins s σ H x v vl vu lo hi sl Q I rx hs pl pu q
def L4(r:V->Option Int->Option Int->Hp->VK->Prop)(te:TE)(tl th:TO):TE:=λσ H Q=>te σ H λx H1=>tl σ H1 λl H2=>th σ H2 λu H3=>r x l u H3 Q
theorem Ac(hr:BB X r)(he:PE X e te)(hl:PO X lo tl)(hu:PO X hi th):PE X (.Subscript e (.Slice lo hi none p2) pos) (L4 r te tl th):=by
 intro pins s σ H Q I h;refine XT (bU (he pins s σ H _ I h) λv s1 ⟨x,H1,I1,r1,q1⟩=>?_);refine wpAny_Slice (bU (hl pins s1 σ H1 _ I1 q1) λvl s2 ⟨l,H2,I2,pl,q2⟩=>bU (hu pins s2 σ H2 _ I2 q2) λvu s3 ⟨u,H3,I3,pu,q3⟩=>?_);rw[evalPart_none];refine wpAny_pure ?_;have I4:Inv X pins σ H3 { s3 with heap:=s3.heap.push { cls:=.type "slice",data:=.fields #[vl,vu,.none]} }:=I3.kept (t':=s3.toks) λb ob q=>OG _ q
 obtain⟨T,id,hT,ht,hg⟩:=hr pins { s3 with heap:=s3.heap.push { cls:=.type "slice",data:=.fields #[vl,vu,.none]} } σ H3 x v vl vu l u s3.heap.objs.size Q I4 r1 (OR.IsSliceOf.new ..) pl pu q3;show OY (O3 X.prog X.w) X.A (VY e (.Slice lo hi none p2) v (.ref s3.heap.objs.size)) (EP X pins σ Q) X.xe { s3 with heap:=s3.heap.push { cls:=.type "slice",data:=.fields #[vl,vu,.none]} };exact tail_any (ops:=[.ref s3.heap.objs.size,v]) ht hT hg (by with_unfolding_all rfl)
def mZ(xs:List V)(lo hi:Option Int):List V:=(xs.drop (HT.sIx xs.length 0 lo)).take (HT.sIx xs.length xs.length hi-HT.sIx xs.length 0 lo)
theorem rF(xs:List V)(lo hi:Option Int):(mZ xs lo hi).length≤xs.length:=by
 unfold mZ;rw[P7,RZ];omega
def Ji(K:Oz):V->Option Int->Option Int->Hp->VK->Prop:=λx lo hi H Q=>∃a xs,x=.ref a/\bu K H a xs∧
 ¬(HT.sIx xs.length 0 lo=0/\HT.sIx xs.length xs.length hi=xs.length)/\∀p,H p=none->Q (.ref p) (upd H p (.tup (mZ xs lo hi)))
theorem E6:BB X (Ji X.K):=by
 intro pins s σ H x v vl vu lo hi sl Q I rx hs pl pu h;obtain⟨a,xs,rfl,hx,hw,q⟩:=h
 cases rx
 obtain⟨its,r,ht,hz⟩:=I.tuple hx;have hlen:its.toArray.size=xs.length:=by rw[Ph];exact r.length.symm
 refine⟨"tuple",_,P9.lookup,ht.typeIs,?_⟩;refine HT.getItem_tuple_cut ht hs pl pu (by rw[hlen];exact hw) ?_ (by rw[hlen];exact hz);rw[hlen];refine⟨.ref s.heap.objs.size,_,I.laid (t':=s.toks) (o:=.tup (mZ xs lo hi)) (λb ob q=>OG _ q) (OC _) ?_,Z,q _ (I.hok.fresh (OC _))⟩;exact⟨O7 (rF xs lo hi) hz,_,(r.drop (HT.sIx xs.length 0 lo)).take (HT.sIx xs.length xs.length hi-HT.sIx xs.length 0 lo),WX _ _⟩
def Nv(K:Oz):R2:=λx y H Q=>∃a b ns ms,x=.ref a/\y=.ref b/\bu K H a (ns.map V.int)/\bu K H b (ms.map V.int)/\Q (.bl (HT.lexLt ns ms)) H
def Mt(K:Oz):R2:=λx y H Q=>∃a b xs ys,x=.ref a/\y=.ref b/\bu K H a xs/\bu K H b ys/\xs≠[]/\xs.length+ys.length≤sizeLine∧
 (ys=[]->Q (.ref a) H)/\(ys≠[]->∀p,H p=none->Q (.ref p) (upd H p (.tup (xs++ys))))
end
end L2
namespace L2
open PySem PySem.Spec PyProof.Rows
def AT(n:Nat)(i:Int):Option Nat:=if 0≤i then(if i<n then some i.toNat else none) else if -(n:Int)≤i then some (i+n).toNat else none
def oB{α:Type}(xs:List α)(i:Int):Option α:=(AT xs.length i).bind λj=>xs[j]?
theorem uX(h:AT n i=some j):Yh i n=some j/\j<n/\-(n:Int)≤i/\i<n:=by
 unfold AT at h;by_cases h0:0≤i
 ·rw[if_pos h0] at h;by_cases h1:i<n
  ·rw[if_pos h1] at h;have e:i.toNat=j:=P6 h;exact⟨by rw[Xh h0 h1,e],by omega,by omega,h1⟩
  ·rw[if_neg h1] at h;cases h
 ·rw[if_neg h0] at h;by_cases h1:-(n:Int)≤i
  ·rw[if_pos h1] at h;have e:(i+n).toNat=j:=P6 h;exact⟨by rw[WG (by omega) h1,e],by omega,h1,by omega⟩
  ·rw[if_neg h1] at h;cases h
theorem vg{xs:List α}(h:oB xs i=some v):∃j,Yh i xs.length=some j/\xs[j]?=some v/\j<xs.length/\-(xs.length:Int)≤i/\i<xs.length:=by
 unfold oB at h
 cases e:AT xs.length i with
 |none=>rw[e] at h;cases h
 |some j=>
  rw[e] at h;obtain⟨h1,h2,h3,h4⟩:=uX e;exact⟨j,h1,h,h2,h3,h4⟩
theorem bG{α:Type}{xs:List α}{j:Nat}{v:α}(h:xs[j]?=some v):oB xs (j:Int)=some v:=by
 have hj:j<xs.length:=(OV.mp h).1;have e:AT xs.length (j:Int)=some j:=by
  unfold AT;rw[if_pos (by omega),if_pos (by omega)];simp
 unfold oB;rw[e];exact h
theorem Bt(xs:List α)(v:α):oB (xs++[v]) (-1)=some v:=by
 have hl:(xs++[v]).length=xs.length+1:=by simp
 have e:AT (xs++[v]).length (-1)=some xs.length:=by
  unfold AT;rw[hl,if_neg (by decide),if_pos (by omega)]
  congr 1
  omega
 unfold oB;rw[e];show(xs++[v])[xs.length]?=some v;simp
def p7(b:PD):Prop:=∀o i,Uw b false o i=Ym [o,i] (S2 o i)
def Ic(X:Cx)(r:R2):Prop:=
 ∀(value slice:PD) (pins:List (Addr×Ql)) (s:OI) (σ:St) (H:Hp) (x y:V) (v u:Value) (Q:VK),Inv X pins σ H s->RelV x v->RelV y u->r x y H Q→
  Uw slice false v u=Ym [v,u] (S2 v u)->OY (O3 X.prog X.w) X.A (VY value slice v u) (EP X pins σ Q) X.xe s
def MT(X:Cx)(id:String)(r:V->List V->Hp->VK->Prop):Prop:=
 ∀(pins:List (Addr×Ql)) (s:OI) (σ:St) (H:Hp) (x:V) (xs:List V) (v:Value) (us:List Value) (Q:VK),Inv X pins σ H s->RelV x v->be xs us->r x xs H Q→
  OY (O3 X.prog X.w) X.A (call (.builtin id) (v::us)) (EP X pins σ Q) X.xe s
section
variable {X:Cx}{a b:PD}{ta tb:TE}{pos:So}
theorem Jx(hr:Ic X r)(ha:PE X a ta)(hb:PE X b tb)(hs:p7 b):PE X (.Subscript a b pos) (BW r ta tb):=by
 intro pins s σ H Q I h;exact XT (HP ha hb I h λv u s2 x y H2 I2 rx ry q=>hr a b pins s2 σ H2 x y v u Q I2 rx ry q (hs _ _))
def FT(K:Oz):R2:=λx y H Q=>∃p xs i v,x=.ref p/\y=.int i/\aS K H p xs/\oB xs i=some v/\Q v H
def FR(K:Oz):R2:=λx y H Q=>∃p xs i v,x=.ref p/\y=.int i/\bu K H p xs/\oB xs i=some v/\Q v H
def Lg:R2:=λx y H Q=>∃z i c,x=.str z/\y=.int i/\z.length≤sizeLine/\oB z.cps.toList i=some c/\Q (.str ⟨#[c]⟩) H
theorem bc:Ic X (FT X.K):=by
 intro value slice pins s σ H x y v u Q I rx ry h hs;obtain⟨p,xs,i,z,rfl,rfl,hq,he,q⟩:=h
 cases rx
 obtain⟨t,rfl⟩:=ry;obtain⟨its,r,pl,hz⟩:=I.list hq;obtain⟨j,h1,h2,h3,h4,h5⟩:=vg he;obtain⟨w,ew,rw'⟩:=r.get h2;have hl:=r.length;have hn:=pR;have fin:EP X pins σ Q w s:=⟨z,H,I,rw',q⟩;by_cases h0:0≤i
 ·have hj:i.toNat=j:=by
   rw[Xh h0 h5] at h1;exact P6 h1
  exact item_listR pl.isList h0 (by omega) (by rw[hj];simpa using ew) fin hs
 ·have hj:(i+(its.toArray.size:Int)).toNat=j:=by
   rw[WG (by omega) h4] at h1;rw[Ph,←hl];exact P6 h1
  exact Vd (x:=w) pl.isList.typeIs slot_list_getitem.lookup
   (wpAny_getItem_list_neg (Q:=λr s'=>r=w/\EP X pins σ Q r s') pl.isList (by omega) (by rw[Ph]<;>omega) (by omega) (by rw[hj];simpa using ew) ⟨Z,fin⟩) hs
theorem aB:Ic X (FR X.K):=by
 intro value slice pins s σ H x y v u Q I rx ry h hs;obtain⟨p,xs,i,z,rfl,rfl,hq,he,q⟩:=h
 cases rx
 obtain⟨t,rfl⟩:=ry;obtain⟨its,r,pl,hz⟩:=I.tuple hq;obtain⟨j,h1,h2,h3,h4,h5⟩:=vg he;obtain⟨w,ew,rw'⟩:=r.get h2;have hl:=r.length;have hn:=pR;have fin:EP X pins σ Q w s:=⟨z,H,I,rw',q⟩;exact Vd (x:=w) pl.typeIs slot_tuple_getitem.lookup
  (getItem_tuple (j:=j) (Q:=λr s'=>r=w/\EP X pins σ Q r s') pl (by omega) (by omega) (by rw[Ph,←hl];exact h1) (by simpa using ew) ⟨Z,fin⟩) hs
def Oi(K:Oz):R2:=λx y H Q=>FT K x y H Q∨FR K x y H Q∨Lg x y H Q
theorem tf(its:List Value)(n j:Nat)(u:Value):Sf (·.setIfInBounds j u) { cls:=.type "list",data:=.seq its.toArray n}={ cls:=.type "list",data:=.seq (its.set j u).toArray n}:=by
 simp[Sf]
theorem Inv.lst{pins:List (Addr×Ql)}{σ:St}{H:Hp}{s:OI}{p:Addr}{xs:List V}(I:Inv X pins σ H s)(h:H p=some (.lst xs)) :
  ∃(its:List Value) (n:Nat),be xs its/\s.heap.get? p=some { cls:=.type "list",data:=.seq its.toArray n}/\xs.length≤sizeLine:=by
 obtain⟨z,its,n,r,e⟩:=I.hok p _ h;exact⟨its,n,r,e,z⟩
theorem Inv.lstUpd{pins:List (Addr×Ql)}{σ:St}{H:Hp}{s:OI}{p:Addr}{xs ys:List V}{its its':List Value}{n n':Nat}{f:Ql->Ql}(I:Inv X pins σ H s)(h:H p=some (.lst xs))
  (ho:s.heap.get? p=some { cls:=.type "list",data:=.seq its.toArray n}) (hf:f { cls:=.type "list",data:=.seq its.toArray n}={ cls:=.type "list",data:=.seq its'.toArray n'}) (r:be ys its') (hz:ys.length≤sizeLine) (t:Nat) :
  Inv X pins σ (upd H p (.lst ys)) { s with heap:=s.heap.update p f,toks:=t}:=by
 have e:(s.heap.update p f).get? p=some { cls:=.type "list",data:=.seq its'.toArray n'}:=by
  rw[RG f ho (by rw[hf]<;>rfl),hf]
 refine I.write (x:=p) (e:=p) (by rw[h];trivial) (.inl Z) (λb u hb q=>(PV _ _ (R9 hb)).trans q) ⟨_,e⟩ ?_;exact⟨hz,its',n',r,e⟩
def Jj:V->V->V->Hp->(Hp->Prop)->Prop:=λo i v H Q=>∃p xs k j,o=.ref p/\i=.int k/\H p=some (.lst xs)/\AT xs.length k=some j/\Q (upd H p (.lst (xs.set j v)))
theorem gJ:HX X Jj:=by
 intro pins s σ H o i v ov iv u Q I ro ri rv h;obtain⟨p,xs,k,j,rfl,rfl,hp,hj,q⟩:=h
 cases ro
 obtain⟨t,rfl⟩:=ri;obtain⟨its,n,r,ho,hz⟩:=I.lst hp;obtain⟨h1,h2,h3,h4⟩:=uX hj;have hl:=r.length;have hn:=pR;have I':Inv X pins σ (upd H p (.lst (xs.set j v))) { s with heap:=s.heap.update p (Sf (·.setIfInBounds j u))}:=
  I.lstUpd hp ho (tf its n j u) (r.set rv j) (by rw[QM];exact hz) s.toks
 by_cases h0:0≤k
 ·have hk:k.toNat=j:=by
   rw[Xh h0 h4] at h1;exact P6 h1
  exact PySem.W.ki_setAt ho h0 (by omega) (by rw[Ph,←hl];exact h4) (by rw[hk];exact⟨_,I',q⟩)
 ·have hk:(k+(its.toArray.size:Int)).toNat=j:=by
   rw[WG (by omega) h3] at h1;rw[Ph,←hl];exact P6 h1
  exact PySem.W.ki_setBack ho (by omega) (by rw[Ph,←hl];exact h3) (by omega) (by rw[hk];exact⟨_,I',q⟩)
def Nq(K:Oz):V->Option Int->Option Int->Hp->VK->Prop:=λx lo hi H Q=>∃a xs,x=.ref a/\aS K H a xs/\∀p,H p=none->Q (.ref p) (upd H p (.lst (mZ xs lo hi)))
def js:V->Bool
 | .non=>true
 | .bl _=>true
 | .int _=>true
 | .str _=>true
 |_=>false
def EE:V->V->Bool
 | .non,.non=>true
 | .bl a,.bl b=>a==b
 | .bl a,.int b=>(if a then 1 else 0)==b
 | .int a,.bl b=>a==(if b then 1 else 0)
 | .int a,.int b=>a==b
 | .str a,.str b=>a==b
 |_,_=>false
theorem Hv(ry:RelV y u)(rx:RelV x v)(fy:js y=true)(fx:js x=true):Qh A s u v (EE y x):=by
 cases y with
 |non=>
  cases ry
  cases x with
  |non=>cases rx;exact Qh.same _
  |bl b=>cases rx;exact Qh.none_bool b
  |int b=>obtain⟨t,rfl⟩:=rx;exact Qh.none_int b t
  |str b=>obtain⟨t,rfl⟩:=rx;exact Qh.none_str b t
  |_=>exact absurd (show false=true from fx) O1
 |bl a=>
  cases ry
  cases x with
  |non=>cases rx;exact Qh.bool_none a
  |bl b=>cases rx;exact Qh.bool_bool a b
  |int b=>obtain⟨t,rfl⟩:=rx;exact Qh.bool_int a b t
  |str b=>obtain⟨t,rfl⟩:=rx;exact Qh.bool_str a b t
  |_=>exact absurd (show false=true from fx) O1
 |int a=>
  obtain⟨t',rfl⟩:=ry
  cases x with
  |non=>cases rx;exact Qh.int_none a t'
  |bl b=>cases rx;exact Qh.int_bool a t' b
  |int b=>obtain⟨t,rfl⟩:=rx;exact Qh.int_int a t' b t
  |str b=>obtain⟨t,rfl⟩:=rx;exact V7 a t' b t
  |_=>exact absurd (show false=true from fx) O1
 |str a=>
  obtain⟨t',rfl⟩:=ry
  cases x with
  |non=>cases rx;exact Qh.str_none a t'
  |bl b=>cases rx;exact Qh.str_bool a t' b
  |int b=>obtain⟨t,rfl⟩:=rx;exact V8 a t' b t
  |str b=>obtain⟨t,rfl⟩:=rx;exact Qh.str_str a t' b t
  |_=>exact absurd (show false=true from fx) O1
 |_=>exact absurd (show false=true from fy) O1
def Dw(x:V)(u:Value):Bool:=match u with
 | .none=>EE .non x
 | .bool b=>EE (.bl b) x
 | .int i _=>EE (.int i) x
 | .str z _=>EE (.str z) x
 |_=>false
theorem Bb(r:RelV y u)(f:js y=true):Dw x u=EE y x:=by
 cases y with
 |non=>cases r;rfl
 |bl b=>cases r;rfl
 |int i=>obtain⟨t,rfl⟩:=r;rfl
 |str z=>obtain⟨t,rfl⟩:=r;rfl
 |_=>exact absurd (show false=true from f) O1
theorem p5{x:V}:∀{xs:List V} {us:List Value},be xs us->xs.all js=true->us.any (Dw x)=xs.any λy=>EE y x
 |_,_,.nil,_=>rfl
 |y::xs,u::us,.cons r t,f=>by
  rw[X6,O2] at f;rw[Rg,Rg,Bb r f.1,p5 t f.2]
theorem mh{A:PB}{s:OI}{x:V}{v:Value}(rx:RelV x v)(fx:js x=true):∀{xs:List V} {us:List Value},be xs us->xs.all js=true->∀u∈us,Qh A s u v (Dw x u)
 |_,_,.nil,_=>λu hu=>by cases hu
 |y::xs,u::us,.cons r t,f=>λu' hu=>by
  rw[X6,O2] at f;rcases OO.mp hu with rfl|hu
  ·rw[Bb r f.1];exact Hv r rx f.1 fx
  ·exact mh rx fx t f.2 u' hu
def Hq(x:V)(xs:List V):Bool:=xs.any λy=>EE y x
def Mp(K:Oz)(neg:Bool):R2:=λx y H Q=>∃p xs,y=.ref p/\(aS K H p xs∨bu K H p xs)/\js x=true/\xs.all js=true/\Q (.bl (if neg then !Hq x xs else Hq x xs)) H
theorem pJ:ib X (Qs .NotIn) (Mp X.K true):=by
 intro pins s σ H x y v u Q I rx ry h;obtain⟨p,xs,rfl,hq,fx,fs,q⟩:=h
 cases ry
 rcases hq with hq|hq
 ·obtain⟨its,r,pl,hz⟩:=I.list hq;refine SeqAt.notIn_listAt (Dw x) pl.isList (λw hw=>mh rx fx r fs w (by simpa using hw)) ⟨.bl _,H,I,Z,?_⟩;rw[show its.toArray.any (Dw x)=its.any (Dw x) by simp,p5 r fs];exact q
 ·obtain⟨its,r,pl,hz⟩:=I.tuple hq;refine SeqAt.notIn_tupleAt (Dw x) pl (λw hw=>mh rx fx r fs w (by simpa using hw)) ⟨.bl _,H,I,Z,?_⟩;rw[show its.toArray.any (Dw x)=its.any (Dw x) by simp,p5 r fs];exact q
theorem bb:dH X (.builtin "len") (λxs H Q=>∃p ys,xs=[.ref p]/\(aS X.K H p ys∨bu X.K H p ys)/\Q (.int ys.length) H):=by
 intro pins s σ H xs us Q I r h;obtain⟨p,ys,rfl,hq,q⟩:=h;obtain⟨u,rfl,rx⟩:=fQ r
 cases rx
 have hn:=pR;rcases hq with hq|hq
 ·obtain⟨its,r',pl,hz⟩:=I.list hq;have hlen:=r'.length;exact Calls.call_len_list pl.isList (by simp only[Ph]<;>omega) ⟨.int ys.length,H,I.tok _,⟨s.toks+1,by rw[Ph,hlen]⟩,q⟩
 ·obtain⟨its,r',pl,hz⟩:=I.tuple hq;have hlen:=r'.length;exact len_tuple pl (by simp only[Ph]<;>omega) ⟨.int ys.length,H,I.tok _,⟨s.toks+1,by rw[Ph,hlen]⟩,q⟩
theorem aX:dH X (.type "tuple") (λxs H Q=>∃p ys,xs=[.ref p]/\((aS X.K H p ys/\∀l,H l=none->Q (.ref l) (upd H l (.tup ys)))∨(bu X.K H p ys/\Q (.ref p) H))):=by
 intro pins s σ H xs us Q I r h;obtain⟨p,ys,rfl,h⟩:=h;obtain⟨u,rfl,rx⟩:=fQ r
 cases rx
 rcases h with⟨hq,q⟩ | ⟨hq,q⟩
 ·obtain⟨its,r',pl,hz⟩:=I.list hq;have hlen:=r'.length;refine call_tuple_list pl.isList (λh' kp=>?_) (by simp only[Ph]<;>omega);have I1:Inv X pins σ H { s with heap:=h'}:=I.kept (t':=s.toks) kp;have I2:Inv X pins σ (upd H h'.objs.size (.tup ys)) { s with heap:=h'.push { cls:=.type "tuple",data:=.seq its.toArray} }:=
   I1.laid (t':=s.toks) (λb o e=>OG _ e) (OC _) (show ObjOk X.prog X.w _ _ _ (.tup ys) from⟨hz,its,r',WX _ _⟩)
  exact⟨.ref h'.objs.size,_,I2,Z,q _ (I1.hok.fresh (OC _))⟩
 ·obtain⟨its,r',pl,hz⟩:=I.tuple hq;exact call_tuple_same pl ⟨.ref p,H,I,Z,q⟩
def K2(K:Oz)(T:String)(x:V)(H:Hp):Prop:=match x with
 | .str _=>T = "str"
 | .int _=>T = "int"
 | .ref p=>(T = "list"/\∃xs,aS K H p xs)∨(T = "tuple"/\∃o,K.lookup p=some o/\o.cls=.type "tuple"/\o.dict=none)∨
   (T = "dict"/\((∃kvs,H p=some (.dK kvs))∨∃kvs,H p=some (.dT kvs)))∨(T = "set"/\∃S n,H p=some (.set S n))
 |_=>False
theorem ER{pins:List (Addr×Ql)}{σ:St}{H:Hp}{s:OI}{T:String}{x:V}{v:Value}(I:Inv X pins σ H s)(r:RelV x v)(ty:K2 X.K T x H) :
  s.TypeIs v T/\∀a,v=.ref a->∃ob,s.heap.get? a=some ob/\ob.dict=none:=by
 cases x with
 |str z=>
  obtain⟨t,rfl⟩:=r
  cases(show T = "str" from ty)
  exact⟨typeIs_str s z t,λ_ e=>nomatch e⟩
 |int i=>
  obtain⟨t,rfl⟩:=r
  cases(show T = "int" from ty)
  exact⟨Ve s i t,λ_ e=>nomatch e⟩
 |ref p=>
  cases r
  rcases ty with⟨rfl,xs,hq⟩ | ⟨rfl,o,hk,hc,hd⟩ | ⟨rfl,hk⟩ | ⟨rfl,S,n,hk⟩
  ·obtain⟨its,_,pl,_⟩:=I.list hq;refine⟨pl.isList.typeIs,λa e=>?_⟩
   cases e
   obtain⟨o,n,e,c,hd,_⟩:=pl;exact⟨o,e,hd⟩
  ·refine⟨⟨o,I.kIn p o hk,hc⟩,λa e=>?_⟩
   cases e
   exact⟨o,I.kIn _ o hk,hd⟩
  ·have z:∃o,s.heap.get? p=some o/\o.ExactDict:=by
    rcases hk with⟨kvs,hk⟩ | ⟨kvs,hk⟩
    ·obtain⟨_,_,_,_,o,_,_,e,ex,_⟩:=I.hok p _ hk;exact⟨o,e,ex⟩
    ·obtain⟨_,_,_,_,o,_,_,e,ex,_⟩:=I.hok p _ hk;exact⟨o,e,ex⟩
   obtain⟨o,e,ex⟩:=z;refine⟨⟨o,e,ex.1⟩,λa e2=>?_⟩
   cases e2
   exact⟨o,e,ex.2.1⟩
  ·obtain⟨o,_,_,_,e,ex,_⟩:=I.hok p _ hk;refine⟨⟨o,e,ex.1⟩,λa e2=>?_⟩
   cases e2
   exact⟨o,e,ex.2.1⟩
 |_=>exact Qy ty
def Nj(K:Oz)(T:String)(r:V->List V->Hp->VK->Prop)(to:TE):TE:=λσ H Q=>to σ H λx H1=>K2 K T x H1/\r x [] H1 Q
def Mb(K:Oz)(T:String)(r:V->List V->Hp->VK->Prop)(to:TE)(t:TA):TE:=λσ H Q=>to σ H λx H1=>K2 K T x H1/\t σ H1 λxs H2=>r x xs H2 Q
variable {o e:PD}{es:List PD}{to:TE}{t:TA}{name:Pf}{apos cpos:So}{T id:String}{r:V->List V->Hp->VK->Prop}
theorem Jy(pa:PlainAttrs T)(slot:Slot T name id)(hty:typeOf (.builtin id)=QP (.type "method_descriptor"))(hm:MT X id r)(ho:PE X o to)(ha:PA X (e::es) t)
  (hbase:Rz o name X.env (eval o X.env)=eval o X.env:=by rfl)
  (hfew:((Rt cpos (OS (e::es) X.env)).all (λx=>!x.1)&&(Tw cpos (R5 [] X.env)).all (λx=>x.1.isSome)
  &&decide ((e::es).length+([]:List TU).length+(if([]:List TU).isEmpty then 0 else 1)<30))=true:=by rfl)
  (hline:(apos.endLine==cpos.line)=true:=by rfl) (hs:OS (e::es) X.env=(false,eval e X.env)::OS es X.env:=by rfl) (hplain:(Rt cpos (OS es X.env)).any (·.1)=false:=by rfl) :
  PE X (.Call (.Attribute o name apos) (e::es) [] cpos) (Mb X.K T r to t):=by
 intro pins s σ H Q I h;refine wpAny_Call_method_late hbase hfew hline Z (bU (ho pins s σ H _ I h) λv s1 ⟨x,H1,I1,r1,ty,q1⟩=>?_);obtain⟨h1,h2⟩:=ER I1 r1 ty;refine⟨T,id,pa,slot,hty,h1,h2,?_⟩;have hA:=ha cpos pins s1 σ H1 _ I1 q1;rw[hs] at hA ⊢;refine Calls.callWith_builtin (by show(false||(Rt cpos (OS es X.env)).any (·.1))=false;rw[hplain]<;>rfl) (Calls.evalArgs_plain ?_);exact bU hA λus s2 ⟨vs,H2,I2,r2,q2⟩=>hm pins s2 σ H2 x vs v us Q I2 r1 r2 q2
end
end L2
namespace L2
open PySem PySem.Spec PyProof.Rows
def MU(X:Cx)(id:String)(r:V->List V->Hp->VK->Prop):Prop:=
 ∀(pins:List (Addr×Ql)) (s:OI) (σ:St) (H:Hp) (x:V) (xs:List V) (v:Value) (us:List Value) (Q:VK),Inv X pins σ H s->RelV x v->be xs us->r x xs H Q→
  OY (O3 X.prog X.w) X.A (call (.builtin id) (v::us)) (EP X pins σ Q) X.xe s
theorem be.one:∀{x:V} {us:List Value},be [x] us->∃u,us=[u]/\RelV x u
 |_,_,.cons r .nil=>⟨_,Z,r⟩
theorem be.eraseIdx:∀{xs:List V} {us:List Value} (i:Nat),be xs us->be (xs.eraseIdx i) (us.eraseIdx i)
 |_,_,_,.nil=>.nil
 |_,_,0,.cons _ t=>t
 |_,_,i+1,.cons r t=>.cons r (be.eraseIdx i t)
section
variable {X:Cx}{pins:List (Addr×Ql)}{σ:St}{H:Hp}{s:OI}{l b:Addr}{xs ys zs:List V}
theorem Inv.lset{its its':List Value}(I:Inv X pins σ H s)(hH:H l=some (.lst xs))
  (e:s.heap.get? l=some { cls:=.type "list",data:=.seq its.toArray n}) (hf:f its.toArray=its'.toArray) (hv:be ys its') (hz:ys.length≤sizeLine):
  Inv X pins σ (upd H l (.lst ys)) { s with heap:=s.heap.update l (Sf f),toks:=t'}:=by
 have q:=PySem.IsL.update e f;rw[hf] at q;refine I.write (x:=l) (e:=l) (by rw[hH];exact trivial) (.inl Z) (λb' u hb hu=>(PV s.heap (Sf f) (R9 hb)).trans hu) ⟨_,q⟩ ?_;exact⟨hz,its',_,hv,q⟩
theorem Inv.lnew(I:Inv X pins σ H s)(hv:be ys its)(hz:ys.length≤sizeLine):
  Inv X pins σ (upd H s.heap.objs.size (.lst ys)) { s with heap:=s.heap.push { cls:=.type "list",data:=.seq its.toArray},toks:=t'}:=
 I.laid (λ_ _ q=>OG _ q) (OC _) ⟨hz,its,0,hv,O4 _ Z⟩
theorem Inv.fresh(I:Inv X pins σ H s):H s.heap.objs.size=none:=I.hok.fresh (OC _)
theorem Inv.lstM(I:Inv X pins σ H s)(hH:H l=some (.lst xs)):xs.length≤sizeLine/\∃(its:List Value) (n:Nat),be xs its/\xs.length=its.length/\s.heap.get? l=some { cls:=.type "list",data:=.seq its.toArray n}:=by
 obtain⟨z,its,n,r,e⟩:=I.hok l _ hH;exact⟨z,its,n,r,r.length,e⟩
end
section
variable {X:Cx}
def Cr:V->List V->Hp->VK->Prop:=λx vs H Q=>∃l xs y,x=.ref l/\vs=[y]/\H l=some (.lst xs)/\xs.length<sizeLine/\Q .non (upd H l (.lst (xs++[y])))
theorem bH:MU X "list.append" Cr:=by
 intro pins s σ H x vs v us Q I rx rv h;obtain⟨l,xs,y,rfl,rfl,hH,hz,q⟩:=h
 cases rx
 obtain⟨u,rfl,ru⟩:=rv.one;obtain⟨z,its,n,r,hl,e⟩:=I.lstM hH;refine Wg F.slot_list_append ⟨_,e,Z⟩ F.entry_list_append (F.args_list_append_2 _ _) (PySem.list_append l its.toArray n u (by rw[Ph];omega)) ⟨e,?_⟩;refine⟨.non,_,I.lset (its':=its++[u]) hH e (by simp) (r.append (.cons ru .nil)) ?_,Z,q⟩;rw[Pk,Q6];omega
def KK:V->List V->Hp->VK->Prop:=λx vs H Q=>∃l b xs zs,x=.ref l/\vs=[.ref b]/\H l=some (.lst xs)/\H b=some (.lst zs)/\xs.length+zs.length≤sizeLine/\Q .non (upd H l (.lst (xs++zs)))
def Nt:V->List V->Hp->VK->Prop:=λx vs H Q=>∃l xs y,x=.ref l/\vs=[]/\H l=some (.lst xs)/\xs[xs.length-1]?=some y/\Q y (upd H l (.lst xs.dropLast))
def Lf:V->List V->Hp->VK->Prop:=λx vs H Q=>∃l xs i k y,x=.ref l/\vs=[.int i]/\H l=some (.lst xs)/\-(2^63)≤i/\i<2^63/\Yh i xs.length=some k/\xs[k]?=some y/\Q y (upd H l (.lst (xs.eraseIdx k)))
def Jk:V->List V->Hp->VK->Prop:=λx vs H Q=>∃l xs,x=.ref l/\vs=[]/\H l=some (.lst xs)/\Q .non (upd H l (.lst xs.reverse))
def Lj:V->List V->Hp->VK->Prop:=λx vs H Q=>∃l xs,x=.ref l/\vs=[]/\H l=some (.lst xs)/\Q .non (upd H l (.lst []))
def Lk:R2:=λx y H Q=>∃l b xs zs,x=.ref l/\y=.ref b/\H l=some (.lst xs)/\H b=some (.lst zs)/\xs.length+zs.length≤sizeLine/\∀p,H p=none->Q (.ref p) (upd H p (.lst (xs++zs)))
theorem Ar:ib X (Sj .Add) Lk:=by
 intro pins s σ H x y v u Q I rx ry h;obtain⟨l,b,xs,zs,rfl,rfl,hH,hB,hz,q⟩:=h
 cases rx
 cases ry
 obtain⟨z,its,n,r,hl,e⟩:=I.lstM hH;obtain⟨z2,its2,n2,r2,hl2,e2⟩:=I.lstM hB;refine PySem.P.add_list e e2 ?_ (by rw[Ph,Ph];omega);have ea:its.toArray++its2.toArray=(its++its2).toArray:=by simp
 rw[ea];exact⟨.ref _,_,I.lnew (t':=s.toks) (r.append r2) (by rw[Pk];omega),Z,q _ I.fresh⟩
def Nr:R2:=λx y H Q=>∃l k xs,x=.ref l/\y=.int k/\H l=some (.lst xs)/\-(2^63)≤k/\k<2^63/\xs.length*k.toNat≤sizeLine∧
 ∀p,H p=none->Q (.ref p) (upd H p (.lst (Pg k.toNat xs).flatten))
end
section
variable {prog:Po}{w:PM}{A:PB}{E:Value->OI->Prop}{s:OI}
end
section
variable {X:Cx}
end
end L2
namespace Att
open PySem PySem.W PySem.Calls PyProof.Rows
theorem kx:∀(ns:List Int) (vs:List Value),WellAll P h vs (ns.map WData.int)->VM vs ns:=by
 intro ns
 induction ns with
 |nil=>
  intro vs w;rw[Vf] at w
  cases w
  exact .nil
 |cons n ns ih=>
  intro vs w;rw[Pm] at w
  cases w with
  |cons a b=>
   cases a
   exact .cons _ _ (ih _ b)
theorem vQ{l:OpenLaw}(hn:l.most=some n){h:OR} 
  (hpre:l.row.toRowW.claim.pre args=true) (hwl:WellAll P h vals args):
  ∃a vs ns,vals=[O8 a]/\args=[WData.list (ns.map WData.int)]/\h.get? a=some { cls:=.type "list",data:=.seq vs.toArray}/\VM vs ns/\ns.length≤n:=by
 have hsh:WShape.hasAll [] args [.list .int]=true:=(pre_splitW hpre).1;have hc:l.pre.holds [] { args:=args}=true:=(pre_splitW hpre).2;obtain⟨d,r,rfl,h1,h2⟩:=hasAllW_cons hsh;obtain rfl:=hasAllW_nil h2;obtain⟨xs,rfl,h3⟩:=hasW_list h1;obtain⟨ns,rfl⟩:=items_int h3;have hlen:ns.length≤n:=by
  unfold OpenLaw.pre at hc;have h4:(WTm.not (.lt (.lit (.int (n:Int))) (.len (.arg 0)))).holds [] { args:=[.list (ns.map .int)]}=true:=by
   have h4:=(holds_andW hc).1;rw[hn] at h4;exact h4
  have h5:=condW_of h4 (w_not (w_lt w_lit (w_len_list (w_arg Z))));rw[OD] at h5;refine Nat.le_of_not_lt λq=>?_
  have q':(n:Int)<((ns.length:Nat):Int):=by omega
  first
   | (rw[decide_eq_true q'] at h5;exact absurd h5 (by decide))
   | (simp at h5;omega)
 cases hwl with
 |cons w1 w2=>
  cases w2
  cases w1 with
  |list ho hall=>exact⟨_,_,ns,Z,Z,ho,kx ns _ hall,hlen⟩
theorem v5(l:OpenLaw)(args:List WData):l.row.toRowW.claim.post args (.bool true) args=true:=
 postW_of (r:=l.row.toRowW) (X:=(true==true))
  (show WShape.has [] (.bool true) .bool=true by first|rfl|decide|simp[WShape.has,WShape.arms,WShape.armsAll])
  (show(WTm.eq .res (.lit (.bool true))).value [] { args:=args,res:=some (.bool true),after:=args}=some (.bool (true==true)) from w_eq_bool (w_res Z) w_lit) Z
theorem attach_call{l:OpenLaw}{d:DefRec}
  (hn:l.most=some n) (hdf:d.params.defaults=[])
  (call:∀(w:PM) (s₀ s₁:OI) (mg mb:Pf->Option Value) (fa:Addr) (o:Ql) (pm cd doc:Value) (a:Addr) (vs:List Value) (ns:List Int),
   Ground q loose [] XP w s₀ mg mb s₁.heap->YP w s₁.heap→
   s₁.heap.get? fa=some o->o.data=.func (docDef d.name d.params d.body d.scope pm cd doc)->s₁.heap.CodeRec cd d.name->mg d.name=some (.ref fa)→
   s₁.heap.get? a=some { cls:=.type "list",data:=.seq vs.toArray}->VM vs ns->ns.length≤n->s₁.gens=#[]→
   SE (O3 l.prog w) VN (.call (.ref fa) ⟨[.ref a],[]⟩) (λr s'=>r=.ok (.ret (.bool true))/\OldK s₁.heap s'.heap/\s'.os=s₁.os/\Tt s'.gens) s₁):
  WalkO q loose XP YP l.row.toRowW d [] (λf vs=>XU f vs):=by
 intro w s₀ s₁ mg mb G Y fa o pm cd doc dV kV ho hd hcd hD hmg hg args vals as hpre hlay hrd hwl hlo;obtain rfl:dV=.none:=Dflts.none hD hdf;obtain rfl:kV=.none:=Dflts.noKw hD;obtain⟨a,vs,ns,rfl,rfl,hobj,hints,hlen⟩:=vQ hn hpre hwl;refine enter_call (TR (call w s₀ s₁ mg mb fa o pm cd doc a vs ns G Y ho (fd_plain hd) hcd hmg hobj hints hlen hg) λr s' hq=>?_);obtain⟨rfl,h2,h3,h4⟩:=hq;exact⟨.inl ⟨.bool true,.bool true,[],Z,λ_=>Z,.bool true,v5 l _,λ_=>⟨Rh.nil,λ_ hm=>(nomatch hm)⟩⟩,h2,h3,h4⟩
section
variable {prog:Po}{w:PM}{A:PB}{E:Value->OI->Prop}{s:OI}{K:Frag}
def Lp(h:OR):OR:={ h with objs:=#[]}
def Lq(h:OR)(L d:Addr):List (Addr×Ql):=(OB h.objs.size).filterMap λa=>if a=L∨a=d then none else(h.get? a).map λo=>(a,o)
end
end Att
namespace L2
open PySem PySem.Spec PyProof.Rows
theorem ny:∀{vs:List Value} {ns:List Int},VM vs ns->be (ns.map V.int) vs
 |_,_,.nil=>.nil
 |_,_,.cons n t h=>.cons ⟨t,Z⟩ (ny h)
def HY(H:Hp):Prop:=∀b,H b=none∨∃o xs,H b=some (.frz o (.lst xs))
theorem AQ{K:Oz}{s₁:OI}{vs:List Value}{ns:List Int}
  (KX:K.In s₁.heap) (hns:s₁.heap.Ns Pj mg) (hb:s₁.heap.Ns XG mb) (hbb:∀x:Pf,x ≠ "__name__"->mb x=Rf x) (hlim:s₁.heap.NoLimit) (hg:s₁.gens=#[])
  (ha:s₁.heap.get? a=some { cls:=.type "list",data:=.seq vs.toArray}) (hi:VM vs ns) (hl:ns.length≤sizeLine) (hr:cV k VN)
  (F:∀base:OR,K.In base->base.Ns Pj mg->bn P w K mg base CX k fa fd [x] sp) (hbind:∀(s:OI) (u:Value),U7 s fd ⟨[u],[]⟩ [(x,u)])
  (hsp:∀H:Hp,HY H->aS K H a (ns.map V.int)->sp [.ref a] H (λv _=>v=.bl true) λ_ _ _=>False)
  (hCX:∀H e s',CX [] H s₁ (λ_ _ _=>False) e s'->False):
  SE (O3 P w) VN (.call (.ref fa) ⟨[.ref a],[]⟩) (λr s'=>r=.ok (.ret (.bool true))/\OldK s₁.heap s'.heap/\s'.os=s₁.os/\Tt s'.gens) s₁:=by
 have rv:=ny hi;have lenV:=hi.length;have core:∀H:Hp,HY H->aS K H a (ns.map V.int)->iz P w H s₁.heap->(∀b,H b≠none->b=a)->(H a≠none->K.lookup a=none)→
   SE (O3 P w) VN (.call (.ref fa) ⟨[.ref a],[]⟩) (λr s'=>r=.ok (.ret (.bool true))/\OldK s₁.heap s'.heap/\s'.os=s₁.os/\Tt s'.gens) s₁:=by
  intro H hO hS hok hA hK;have base_of:∀{b:Addr} {o:Ql},s₁.heap.get? b=some o->H b=none->(pU s₁.heap H).get? b=some o:=λe n=>AY e n
  have noA:∀{b:Addr} {o:Ql} {es:Array VL} {ep:Nat},s₁.heap.get? b=some o->o.data=.dict es ep->H b=none:=λ{b o es ep} e d=>by
   cases q:H b with
   |none=>rfl
   |some u=>
    have e':b=a:=hA b (by rw[q];simp);subst e';rw[ha] at e;cases e;have d':XN.seq vs.toArray _=XN.dict es ep:=d
    cases d'
  have nsK:∀{b:Addr} {m:Pf->Option Value},s₁.heap.Ns b m->(pU s₁.heap H).Ns b m:=λ{b m} ⟨o,es,ep,e,d,r⟩=>⟨o,es,ep,base_of e (noA e d),d,r⟩
  have hKb:K.In (pU s₁.heap H):=λb o e=>base_of (KX b o e) (by
   cases q:H b with
   |none=>rfl
   |some u=>
    have e':b=a:=hA b (by rw[q];simp);subst e';rw[hK (by rw[q];simp)] at e;cases e)
  have hM:Mod K mg (pU s₁.heap H):=⟨hKb,nsK hns,⟨mb,nsK hb,hbb⟩,let ⟨mc,h1,h2⟩:=hlim;⟨mc,nsK h1,h2⟩⟩;have e0:rQ P w K mg (pU s₁.heap H) VN [] s₁ H:=⟨Z,hM,λb o e=>C5 e,Sd (wM _ _),trivial,λb hb=>absurd (show b∈([]:List Addr) from hb) (by simp),hok,.of_eq hg⟩;refine TR ((F _ hKb (nsK hns)).run VN [] s₁ H ⟨[.ref a],[]⟩ [.ref a] [.ref a] _ _ hr e0 (hbind s₁ (.ref a)) (.cons Z .nil) (hsp H hO hS)) λr s' h=>?_
  cases r with
  |error e=>exact(hCX H e s' h).elim
  |ok fl=>
   cases fl with
   |next=>exact Qy h
   |brk=>exact Qy h
   |cont=>exact Qy h
   |ret u=>
    obtain⟨v,H',os,bare,un,hok',r',q⟩:=h;have q':v=.bl true:=q;subst q';obtain rfl:u=Tl true:=r';refine⟨Z,OldK.of_keep λb o e=>?_,os,bare⟩
    cases q:H b with
    |none=>exact un.keep b o e q (by intro z;exact absurd (show b∈([]:List Addr) from z) (by simp)) (by simp)
    |some u=>
     rcases hO b with z | ⟨ob,xs,z⟩
     ·rw[q] at z;cases z
     ·have z2:=un.frzs b ob _ z;obtain⟨e1,_⟩:=hok b _ z;obtain⟨e2,_⟩:=hok' b _ z2;rw[e] at e1;cases e1;exact e2
 cases hk:K.lookup a with
 |some o=>
  have e:=KX a o hk;rw[ha] at e
  cases e
  refine core (λ_=>none) (λ_=>.inl Z) (.inr ⟨_,vs.toArray,_,hk,Z,Z,Z,by rw[Ph,lenV];exact hl,by simpa using rv⟩) (λb u z=>by have z':(none:Option HO)=some u:=z;cases z') (λb z=>absurd Z z) λz=>absurd Z z
 |none=>
  refine core (λb=>if b=a then some (.frz { cls:=.type "list",data:=.seq vs.toArray} (.lst (ns.map V.int))) else none) (λb=>?_) (.inl (.inr ⟨{ cls:=.type "list",data:=.seq vs.toArray},if_pos Z⟩)) (λb u z=>?_) (λb z=>?_) λ_=>hk
  ·by_cases hb:b=a
   ·exact .inr ⟨_,_,if_pos hb⟩
   ·exact .inl (if_neg hb)
  ·by_cases hb:b=a
   ·have z':=(if_pos hb).symm.trans z
    cases z'
    subst hb;exact⟨ha,by rw[OD];exact hl,vs,_,rv,ha⟩
   ·have z':=(if_neg hb).symm.trans z
    cases z'
  ·by_cases hb:b=a
   ·exact hb
   ·exact absurd (if_neg hb) z
end L2
namespace L2
open PySem PySem.Spec PyProof.Rows
abbrev Ox{K:Oz}{h:OR}(_:K.In h):Oz:=K
theorem walk_of{l:Xu}{loose:List Pf}{XP:(Pf->Option Value)->OR->Prop}{YP:PM->OR->Prop}{d:DefRec}{K:Params->Oz}{CX:PM->rV}{sp:PM->Sp} 
  (hn:l.most=some n) (hn2:n≤sizeLine) (hdf:d.params.defaults=[]) (hr:cV k VN)
  (hY:∀(w:PM) (h:OR),YP w h->(K w.params).In h)
  (F:∀(w:PM) (mg:Pf->Option Value) (fa:Addr) (h:OR),(K w.params).In h->h.Ns Pj mg->mg d.name=some (.ref fa)→
   ∃fd:OK,(∀(s:OI) (u:Value),U7 s fd ⟨[u],[]⟩ [(x,u)])∧
    ∀base:OR,(K w.params).In base->base.Ns Pj mg->bn l.prog w (K w.params) mg base (CX w) k fa fd [x] (sp w))
  (hsp:∀(w:PM) (H:Hp) (a:Addr) (ns:List Int),ns.length≤n->HY H->aS (K w.params) H a (ns.map V.int)->sp w [.ref a] H (λv _=>v=.bl true) λ_ _ _=>False)
  (hCX:∀(w:PM) (H:Hp) (s:OI) (e:Value) (s':OI),CX w [] H s (λ_ _ _=>False) e s'->False):
  X7 q loose XP YP l.row.toRowW d [] (λf vs=>XU f vs):=by
 refine Att.attach_call hn hdf λw s₀ s₁ mg mb fa o pm cd doc a vs ns G Y ho hd hcd hmg hobj hints hlen hg=>?_
 have KX:=hY w _ Y;obtain⟨fd,hb,hF⟩:=F w mg fa _ KX G.T.g hmg;exact AQ KX G.T.g G.T.b G.T.builtins G.T.nolimit hg hobj hints (O7 hlen hn2) hr hF hb (λH hO hS=>hsp w H a ns hlen hO hS) λH e s'=>hCX w H s₁ e s'
end L2
namespace L2
open PySem PySem.Spec PyProof.Rows
def fm(s:Stmt)(j:Nat):Stmt:=match s with
 | .ClassDef _ _ _ body _ _ _ _ _ _ _=>body.getD j (.Pass ⟨0,0,0,0⟩)
 |_=>.Pass ⟨0,0,0,0⟩
def di(s:Stmt):Arguments:=match s with
 | .FunctionDef _ a _ _ _ _ _ _ _ _=>a
 |_=>{ posonlyargs:=[],args:=[],vararg:=none,kwonlyargs:=[],kw_defaults:=[],kwarg:=none,defaults:=[]}
def cM(s:Stmt):List Stmt:=match s with
 | .FunctionDef _ _ b _ _ _ _ _ _ _=>b
 |_=>[]
def ay(s:Stmt):SG:=match s with
 | .FunctionDef _ _ _ _ _ _ sc _ _ _=>sc
 |_=>{ kind:=.function,names:=[],isGenerator:=false,isCoroutine:=false}
abbrev dm:rV:=λ_ _ _ _ _ _=>False
abbrev E0:XK:=λ_ _ _=>False
theorem kf:ff dm X E0:=λ_ _ _ _ _ _ _ h=>h.elim
structure Fun(K:Oz)(x qual:Pf)(st:Stmt)(f:Addr)(fd:OK):Prop where
 ex:∃(oc:Value) (od:Option Addr) (kV doc pm:Value) (an:Option Addr) (cdv ct:Value) (osl:Array (Option Value)),
  fd=QL x qual (di st) (cM st) (ay st) .none kV doc pm an cdv ct/\K.lookup f=some ⟨oc,od,.func fd,osl⟩/\S8 K cdv qual=true
 kp:QF K (.ref f)=true
section
variable {P:Po}{w:PM}{K:Oz}{mg:Pf->Option Value}{base:OR}
theorem Fun.ok{x qual:Pf}{st:Stmt}{f:Addr}{fd:OK}{N ps:List Pf}{k:Nat}{sp:Sp}(F:Fun K x qual st f fd)(S:aD N ps (ay st))(len:∀vs H Q E,sp vs H Q E->vs.length=ps.length)
  (hbody:∀(cdv:Value) (A:PB) (outer:List XD) (s:OI) (H:Hp) (vs:List V) (Q:VK) (E:XK),cV k (A.deeper (U8 qual (ay st) s.heap.objs.size f cdv))->sp vs H Q E→
   ∃t,rS (bD dm P w K mg base N qual (ay st) f cdv A outer s H E).nox (cM st) t/\t { nx:=λ_ H'=>Q .non H',rt:=Q} (i6 N vs) H):bn P w K mg base dm (k+1) f fd ps sp:=by
 obtain⟨oc,od,kV,doc,pm,an,cdv,ct,osl,rfl,lk,hcd⟩:=F.ex;refine ED lk hcd S len λA outer s H vs Q E hr hsp=>?_
 obtain⟨t,h,q⟩:=hbody cdv A outer s H vs Q E hr hsp;exact⟨t,h.nox,q⟩
theorem Fun.binds{x qual:Pf}{st:Stmt}{f:Addr}{fd:OK}{ps:List Pf}(F:Fun K x qual st f fd)
  (h:∀(kV doc pm:Value) (an:Option Addr) (cdv ct:Value) (us:List Value),us.length=ps.length->Ww (QL x qual (di st) (cM st) (ay st) .none kV doc pm an cdv ct) ⟨us,[]⟩=QP (ps.zip us)):aL K fd ps []:=by
 obtain⟨oc,od,kV,doc,pm,an,cdv,ct,osl,rfl,lk,hcd⟩:=F.ex;exact .all (h kV doc pm an cdv ct)
theorem pW{x qual:Pf}{st:Stmt}{f:Addr}{oc:Value}{od an:Option Addr}{osl:Array (Option Value)}{kV doc pm cdv ct:Value}(l:K.lookup f=some ⟨oc,od,.func (QL x qual (di st) (cM st) (ay st) .none kV doc pm an cdv ct),osl⟩)
  (c:S8 K cdv qual=true) (k:QF K (.ref f)=true):Fun K x qual st f (QL x qual (di st) (cM st) (ay st) .none kV doc pm an cdv ct):=⟨⟨oc,od,kV,doc,pm,an,cdv,ct,osl,Z,l,c⟩,k⟩
end
theorem cQ(hr:cV k A):A.units+1<cLine:=PN (Nat.add_le_add_left (by decide:1≤64) _) hr.units
theorem aR(h:n≤1000):n<sizeLine:=PN h (by decide)
section
variable {X:Cx}
theorem pv(i:Nat){x:Pf}{pos:So}(hN:X.N[i]?=some x:=by rfl)(hv:J9 X.env.scope x:=by first|exact Pq Z|exact Pp (Pq Z)|exact Pp (Pp Z))(hd:(x==("__debug__" : Pf))=false:=by decide)
  (hcd:(x==("__classdict__" : Pf))=false:=by decide):PE X (.Name x pos) (xS i):=Ge hN hv hd hcd
end
theorem fN{A B:Prop}(h:B):if false=true then A else B:=by
 rw[if_neg O1];exact h
theorem gD{A B:Prop}(h:A):if true=true then A else B:=by
 rw[if_pos Z];exact h
theorem Hk{c A B:Prop}[Decidable c](h1:c->A)(h2:¬c->B):if c then A else B:=by
 by_cases h:c
 ·rw[if_pos h];exact h1 h
 ·rw[if_neg h];exact h2 h
theorem AU{c A B:Prop}[Decidable c](hc:c)(h:B):if(!decide c)=true then A else B:=by
 rw[decide_eq_true hc];exact fN h
def aE(H H':Hp):Prop:=∀b o,H b=some o->H' b=some o
theorem aE.refl(H:Hp):aE H H:=λ_ _ h=>h
theorem aE.trans(a:aE H H1)(b:aE H1 H2):aE H H2:=λc o h=>b c o (a c o h)
theorem aE.seq{K:Oz}{H H':Hp}{a:Addr}{xs:List V}(e:aE H H')(h:aS K H a xs):aS K H' a xs:=by
 rcases h with(h | ⟨o,h⟩)|h
 ·exact .inl (.inl (e _ _ h))
 ·exact .inl (.inr ⟨o,e _ _ h⟩)
 ·exact .inr h
end L2
set_option maxHeartbeats 4000000
namespace B
open PySem L2 PyProof.Rows
theorem JR{c A B:Prop}[Decidable c](hc:¬c)(h:A):if(!decide c)=true then A else B:=by
 have e:(!decide c)=true:=by rw[decide_eq_false hc];rfl
 rw[if_pos e];exact h
theorem cK{c A B:Prop}[Decidable c](hc:c)(h:A):if decide c=true then A else B:=by
 rw[if_pos (decide_eq_true hc)];exact h
theorem cE{c A B:Prop}[Decidable c](hc:¬c)(h:B):if decide c=true then A else B:=by
 have e:¬decide c=true:=by rw[decide_eq_false hc];intro z;cases z
 rw[if_neg e];exact h
theorem nX{b:Bool}{A B:Prop}(hb:b=true)(h:A):if b=true then A else B:=by rw[if_pos hb];exact h
theorem nY{b:Bool}{A B:Prop}(hb:b=false)(h:B):if b=true then A else B:=by
 rw[if_neg (by rw[hb];intro z;cases z)];exact h
def kj(A B:String):Option Bool:=if(Su A==Su B)=true then some true else if PySem.W.kitMeta B=true then(fastBuiltinMro A).map (·.contains (.type B)) else none
theorem tD{K:Oz}{A B:String}{b:Bool}(h:kj A B=some b):Sv K (.type A) (.type B)=some b:=h
inductive Ty(H:Hp):V->String->Prop where
 |non:Ty H .non "NoneType"
 |bl (b:Bool):Ty H (.bl b) "bool"
 |int (i:Int):Ty H (.int i) "int"
 |str (x:Pf):Ty H (.str x) "str"
 |lst {a:Addr} {xs:List V} (e:H a=some (.lst xs)):Ty H (.ref a) "list"
 |tup {a:Addr} {xs:List V} (e:H a=some (.tup xs)):Ty H (.ref a) "tuple"
theorem Ty.of(K:Oz)(h:Ty H v n):j8 K H v (.type n):=by
 cases h with
 |non=>exact .non
 |bl b=>exact .bl b
 |int i=>exact .int i
 |str x=>exact .str x
 |lst e=>exact .lst e
 |tup e=>exact .tup e
def Lh:List V->Hp->VK->Prop:=λxs H Q=>∃x n m b,xs=[x,.ty n]/\Ty H x m/\kj m n=some b/\Q (.bl b) H
theorem jw:dH X (.builtin "isinstance") Lh:=by
 intro pins s σ H xs us Q I r h;obtain⟨x,n,m,b,rfl,ty,e,q⟩:=h;obtain⟨u,u2,rfl,rx,ry⟩:=uk r;obtain rfl:u2=Su n:=ry;exact wJ I rx (ty.of X.K) (tD e) λtk=>⟨.bl b,H,I.tok tk,Z,q⟩
def K0:V->Bool
 | .int _=>true
 |_=>false
def M7(n:String):Bool:=n == "tuple"
structure d7(t:Addr)(H H':Hp):Prop where
 keep:∀b o,b≠t->H b=some o->H' b=some o
 tp:∃xs,H t=some (.lst xs)
 tp':∃xs,H' t=some (.lst xs)
theorem d7.trans(a:d7 t H H1)(b:d7 t H1 H2):d7 t H H2:=⟨λc o n e=>b.keep c o n (a.keep c o n e),a.tp,b.tp'⟩
theorem d7.up(h:H t=some (.lst xs)):d7 t H (upd H t (.lst ys)):=⟨λc o n e=>by rw[au n];exact e,⟨_,h⟩,⟨_,ag⟩⟩
theorem ao(h:H p=none)(o:HO):aE H (upd H p o):=λb u q=>by rw[au (aC q h)];exact q
theorem d7.same(s:aE H H')(h:∃xs,H t=some (.lst xs)):d7 t H H':=⟨λc o _ e=>s c o e,h,let ⟨xs,e⟩:=h;⟨xs,s _ _ e⟩⟩
theorem d7.refl(h:∃xs,H t=some (.lst xs)):d7 t H H:=⟨λ_ _ _ e=>e,h,h⟩
def Th(H:Hp)(v:V):Prop:=∃n,Ty H v n/\∀a xs,v=.ref a->H a=some (.tup xs)->∀x∈xs,∃m,Ty H x m
theorem Lm{xs:List V}(h0:0≤r)(h1:r<(xs.length:Int)):∃v,oB xs r=some v/\v∈xs:=by
 have hk:r.toNat<xs.length:=by omega
 have ek:r=((r.toNat:Nat):Int):=by omega
 have q:oB xs ((r.toNat:Nat):Int)=some xs[r.toNat]:=bG (OA hk);rw[←ek] at q;exact⟨_,q,O6 hk⟩
theorem Er{ns:List Int}(h0:0≤r)(h1:r<(ns.length:Int)):∃z:Int,oB (ns.map V.int) r=some (.int z):=by
 obtain⟨v,h,hv⟩:=Lm (xs:=ns.map V.int) h0 (by rw[OD];exact h1);obtain⟨z,_,rfl⟩:=OP.mp hv;exact⟨z,h⟩
structure HS(H:Hp)(t s:Addr):Prop where
 ex:∃(ns:List Int) (p q r:Int),H t=some (.lst [.ref s,.int p,.int q,.int r])/\H s=some (.lst (ns.map V.int))/\s≠t/\ns.length≤63/\0≤p/\0≤q/\0≤r
def Ky(K:Oz):Sp:=λvs H Q _=>∃(a:Addr) (ns:List Int),vs=[.ref a]/\aS K H a (ns.map V.int)/\∀(t s:Addr) (H':Hp),aE H H'->H t=none->H s=none->HS H' t s->Q (.ref t) H'
def KA:Sp:=λvs H Q _=>∃(t s:Addr) (m:Int),vs=[.ref t,.int m]/\HS H t s/\0<m/\m<1073741824/\∀(r:Int) (xs:List V),0≤r->r<m->HS (upd H t (.lst xs)) t s->Q (.int r) (upd H t (.lst xs))
def Kz(K:Oz):Sp:=λvs H Q _=>∃(a:Addr) (ns:List Int),vs=[.ref a]/\aS K H a (ns.map V.int)/\ns.length≤63/\∀H',Q (.bl true) H'
theorem rh(ha:0≤a)(hb:0<b):O0 b (a%b)=O0 a b:=by
 obtain⟨n,rfl⟩:=QU ha;obtain⟨m,rfl⟩:=QU (QN hb);rw[←Int.natCast_emod];show Nat.gcd m (n%m)=Nat.gcd n m;rw[Nat.gcd_comm m,←Nat.gcd_rec,Nat.gcd_comm]
theorem tW(i:Int):(if i<0 then -i else i)=(i.natAbs:Int):=by split<;>omega
end B
namespace B
open PySem PySem.Spec L2 PyProof.Rows
mutual
inductive bv(K:Oz)(H:Hp):V->PyData->Prop where
 |non:bv K H .non .none
 |bl (b:Bool):bv K H (.bl b) (.bool b)
 |int (i:Int):bv K H (.int i) (.int i)
 |str (x:Pf):bv K H (.str x) (.str x)
 |lst {a:Addr} {xs:List V} {ds:List PyData} (e:aS K H a xs) (h:bh K H xs ds):bv K H (.ref a) (.list ds)
 |tup {a:Addr} {xs:List V} {ds:List PyData} (e:bu K H a xs) (h:bh K H xs ds):bv K H (.ref a) (.tuple ds)
inductive bh(K:Oz)(H:Hp):List V->List PyData->Prop where
 |nil:bh K H [] []
 |cons {x:V} {d:PyData} {xs:List V} {ds:List PyData} (h:bv K H x d) (t:bh K H xs ds):bh K H (x::xs) (d::ds)
end
mutual
theorem bv.reads{X:Cx}{pins:List (Addr×Ql)}{σ:L2.St}{H:Hp}{s:OI}(I:Inv X pins σ H s):∀{v:V} {d:PyData} {u:Value},bv X.K H v d->RelV v u->∃as,Reads s.heap u d as
 |_,_,u,.non,r=>by cases(show u=Qn from r);exact⟨_,.none⟩
 |_,_,u,.bl b,r=>by cases(show u=Tl b from r);exact⟨_,.bool b⟩
 |_,_,u,.int i,r=>by obtain⟨t,q⟩:=(show ∃t,u=Q0 i t from r);cases q;exact⟨_,.int i t⟩
 |_,_,u,.str x,r=>by obtain⟨t,q⟩:=(show ∃t,u=T6 x t from r);cases q;exact⟨_,.str x t⟩
 |_,_,u,.lst (a:=a) e h,r=>by
  cases(show u=O8 a from r)
  obtain⟨its,rv,⟨o,n,ho,hc,_,hd⟩,_⟩:=I.list e;obtain⟨as,q⟩:=bh.reads I h rv;exact⟨_,.list ho hc hd (by simpa using q)⟩
 |_,_,u,.tup (a:=a) e h,r=>by
  cases(show u=O8 a from r)
  obtain⟨its,rv,⟨o,ho,hc,n,hd⟩,_⟩:=I.tuple e;obtain⟨as,q⟩:=bh.reads I h rv;exact⟨_,.tuple ho hc hd (by simpa using q)⟩
theorem bh.reads{X:Cx}{pins:List (Addr×Ql)}{σ:L2.St}{H:Hp}{s:OI}(I:Inv X pins σ H s):∀{vs:List V} {ds:List PyData} {us:List Value},bh X.K H vs ds->be vs us->∃as,ReadsAll s.heap us ds as
 |_,_,_,.nil,.nil=>⟨_,.nil⟩
 |_,_,_,.cons h t,.cons r q=>
  let ⟨_,a⟩:=bv.reads I h r;let ⟨_,b⟩:=bh.reads I t q
  ⟨_,.cons a b⟩
end
structure vq(d:PyData):Prop where
 sh:d.showable=true
 nd:d.hasDict=false
 sz:d.shown.length≤sizeLine
 dp:d.depth≤16
def Jl(K:Oz):List V->Hp->VK->Prop:=λxs H Q=>∃v d,xs=[v]/\bv K H v d/\vq d/\Q (.str d.shown) H
theorem fz(hr:cV k X.A):dH X (.builtin "repr") (Jl X.K):=by
 intro pins s σ H xs us Q I r h;obtain⟨v,d,rfl,dp,sh,q⟩:=h;obtain⟨u,rfl,ru⟩:=fQ r
 cases dp with
 |non=>cases(show u=Qn from ru);exact PySem.P.repr_of_none ⟨.str "None",H,I.tok _,⟨_,Z⟩,q⟩
 |bl b=>cases(show u=Tl b from ru);exact PySem.P.repr_of_bool ⟨.str _,H,I.tok _,⟨_,Z⟩,q⟩
 |int i=>
  obtain⟨t,e⟩:=(show ∃t,u=Q0 i t from ru)
  cases e
  exact PySem.P.repr_of_int (of_decide_eq_true sh.sh) ⟨.str _,H,I.tok _,⟨_,Z⟩,q⟩
 |str x=>
  obtain⟨t,e⟩:=(show ∃t,u=T6 x t from ru)
  cases e
  exact PySem.P.repr_of_str ⟨.str _,H,I.tok _,⟨_,Z⟩,q⟩ sh.sz
 | @lst a ys ds e h=>
  cases(show u=O8 a from ru)
  obtain⟨as,rd⟩:=bv.reads I (.lst e h) (show RelV (.ref a) (.ref a) from Z);exact repr_of_reads' rd sh.sh (λz=>by rw[sh.nd] at z;cases z) hr.gd (by have:=hr.units;have:=sh.dp;omega) (λ_ _ z=>z) (λh' u tk hk=>⟨.str _,H,I.kept hk,⟨_,Z⟩,q⟩) sh.sz
 | @tup a ys ds e h=>
  cases(show u=O8 a from ru)
  obtain⟨as,rd⟩:=bv.reads I (.tup e h) (show RelV (.ref a) (.ref a) from Z);exact repr_of_reads' rd sh.sh (λz=>by rw[sh.nd] at z;cases z) hr.gd (by have:=hr.units;have:=sh.dp;omega) (λ_ _ z=>z) (λh' u tk hk=>⟨.str _,H,I.kept hk,⟨_,Z⟩,q⟩) sh.sz
end B
namespace B
open PySem PySem.Spec L2 PyProof.Rows
def j4(X:Cx)(N':List Pf)(scope:SG)(cl:List (Pf×Addr))(C:Addr)(fp:List Addr)(pins:List (Addr×Ql))(s:OI)(H:Hp):Cx:=
 { X with N:=N',s₀:=s,H₀:=H,env:=S9 scope cl C X.env,outer:=X.stack,stack:=X.stack,ex:=fp,fn:=λ_=>false,pn:=X.pn++pins,xe:=λ_ _=>False}
def cC(X:Cx)(scope:SG)(cl:List (Pf×Addr)):List Pf->List (Option Nat)->Prop
 | [],[]=>True
 |_::N,none::r=>cC X scope cl N r
 |x::N,some j::r=>X.N[j]?=some x/\X.env.kindOf x=some .cell/\(S9 scope cl 0 X.env).kindOf x=some .cell/\cl.lookup x=X.env.cells.lookup x/\cC X scope cl N r
 |_,_=>False
def bW(src:List (Option Nat))(σ:L2.St):L2.St:=src.map λo=>o.bind λj=>(σ[j]?).getD none
theorem cC.len{X:Cx}{scope:SG}{cl:List (Pf×Addr)}:∀{N:List Pf} {src:List (Option Nat)},cC X scope cl N src->N.length=src.length
 | [],[],_=>rfl
 |_::_,none::_,h=>congrArg (·+1) (cC.len (X:=X) (scope:=scope) (cl:=cl) h)
 |_::_,some _::_,h=>congrArg (·+1) (cC.len (X:=X) (scope:=scope) (cl:=cl) h.2.2.2.2)
theorem cC.at{X:Cx}{scope:SG}{cl:List (Pf×Addr)}{σ:L2.St}:∀{N:List Pf} {src:List (Option Nat)} {i:Nat} {x:Pf} {v:V},cC X scope cl N src->N[i]?=some x->(bW src σ)[i]?=some (some v)→
  ∃j:Nat,X.N[j]?=some x/\σ[j]?=some (some v)/\X.env.kindOf x=some .cell/\(S9 scope cl 0 X.env).kindOf x=some .cell/\cl.lookup x=X.env.cells.lookup x
 |y::N,none::r,0,x,v,h,e,q=>by cases q
 |y::N,none::r,i+1,x,v,h,e,q=>cC.at (N:=N) (src:=r) (i:=i) h e q
 |y::N,some j::r,0,x,v,h,e,q=>by
  cases e
  refine⟨j,h.1,?_,h.2.1,h.2.2.1,h.2.2.2.1⟩;have q':some ((σ[j]?).getD none)=some (some v):=q;injection q' with q'
  cases z:σ[j]? with
  |none=>rw[z] at q';cases q'
  |some o=>rw[z] at q';exact congrArg some q'
 |y::N,some j::r,i+1,x,v,h,e,q=>cC.at (N:=N) (src:=r) (i:=i) h.2.2.2.2 e q
def fq(X:Cx)(scope:SG)(cl:List (Pf×Addr)):Prop:=
 (∀x,((S9 scope cl 0 X.env).kindOf x=some .cell∨(S9 scope cl 0 X.env).kindOf x=some .free)->∃c,cl.lookup x=some c)/\∀x c,cl.lookup x=some c->X.env.cells.lookup x=some c
def ic(X:Cx):List (Pf×Addr)->Prop
 | []=>True
 |y::r=>X.env.cells.lookup y.1=some y.2/\ic X r
theorem ic.mem{X:Cx}:∀{cl:List (Pf×Addr)},ic X cl->∀y∈cl,X.env.cells.lookup y.1=some y.2
 | [],_,y,h=>by cases h
 |z::r,k,y,h=>by
  rcases OO.mp h with e|h
  ·rw[e];exact k.1
  ·exact ic.mem k.2 y h
theorem mem_of_lookup{α:Type}{x:Pf}{v:α}:∀{l:List (Pf×α)},l.lookup x=some v->(x,v)∈l
 | [],h=>by cases h
 | (y,w)::r,h=>by
  rw[SF] at h
  cases e:x==y with
  |true=>
   rw[e] at h;have e':x=y:=T8 e
   cases h
   rw[e'];exact OJ
  |false=>
   rw[e] at h;exact OL _ (mem_of_lookup h)
theorem bR(h1:((WH scope X.env).names.all λy=>!(y.2==.cell||y.2==.free)||(cl.lookup y.1).isSome)=true)(h2:ic X cl):fq X scope cl:=by
 refine⟨λx h=>?_,λx c e=>h2.mem _ (mem_of_lookup e)⟩;have h3:=QV.mp h1;have key:∀k:SN,(k=.cell∨k=.free)->(WH scope X.env).names.lookup x=some k->∃c,cl.lookup x=some c:=λk hk e=>by
  have q:=h3 _ (mem_of_lookup e);have z:(k==VZ||k==X8)=true:=by rcases hk with rfl|rfl<;>rfl
  simp only[z,V0,UG] at q;exact QH.mp q
 rcases h with h|h
 ·exact key _ (.inl Z) h
 ·exact key _ (.inr Z) h
def gG(σ σ':L2.St):Prop:=σ'.length=σ.length/\∀(i:Nat) (v:V),σ[i]?=some (some v)->σ'[i]?=some (some v)
theorem gG.set(h:σ[i]?=some none):gG σ (σ.set i (some v)):=by
 refine⟨QM,λj u e=>?_⟩;have ne:i≠j:=λz=>by subst z;rw[h] at e;cases e
 rw[Qe ne];exact e
theorem gG.set'(e:gG σ τ)(h:σ[i]?=some none):gG σ (τ.set i (some v)):=by
 refine⟨by rw[QM];exact e.1,λj u q=>?_⟩;have ne:i≠j:=λz=>by subst z;rw[h] at q;cases q
 rw[Qe ne];exact e.2 j u q
section
variable {X:Cx}{N':List Pf}{scope:SG}{cl:List (Pf×Addr)}{src:List (Option Nat)}{pins:List (Addr×Ql)}{σ:L2.St}{H:Hp}{s:OI}{fp:List Addr}
theorem Cx.comp_ok{C:Addr}(I:Inv X pins σ H s)(hC:s.heap.objs.size≤C)(hk:scope.kind=.function)(hf:∀b∈fp,gE X pins H b)(hfs:∀b∈fp,b<s.heap.objs.size)(hc:fq X scope cl) :
  (j4 X N' scope cl C fp pins s H).Ok where
 mod:=I.ok.mod
 kind:=hk
 glob:=I.ok.glob
 blt:=I.ok.blt
 above:=hC
 inj:=λx y c e1 e2=>I.ok.inj x y c (hc.2 x c e1) (hc.2 y c e2)
 has:=λx h=>hc.1 x h
 cab:=λx c z=>nomatch z
 hd:=I.ok.hd
 frames:=I.ok.frames
 stk:=.inl Z
 exf:=λb hb=>⟨λz=>by have:=hfs b hb;rw[show b=C from z] at this;exact absurd (O5 this hC) (PL _),λx c e=>(hf b hb).2.2.2.2.1 x c (hc.2 x c e)⟩
 bs:=I.bs
 bsz:=O7 I.ok.bsz I.sz
 noex:=λb o e hb=>by
  rcases(hf b hb).2.2.2.1 with z|z
  ·exact I.ok.noex b o e z
  ·rw[(I.ok.bs b o e).1] at z;cases z
 exfs:=λb hb z=>by
  rcases OO.mp (I.stkSub b z) with q|q
  ·exact(hf b hb).2.1 q
  ·exact(hf b hb).2.2.1 q
 funs:=I.stack
 frf:=I.stkFree
theorem Inv.comp{C:Addr}{h₁:OR}{m:Pf->Option Value}{tk:Nat}(I:Inv X pins σ H s)(hC:C=s.heap.objs.size)(hns:h₁.Ns C m)(keep:∀b o,s.heap.get? b=some o->h₁.get? b=some o)
  (hk:scope.kind=.function) (hf:∀b∈fp,gE X pins H b) (hfs:∀b∈fp,b<s.heap.objs.size) (hc:fq X scope cl) (hfree:cC X scope cl N' src) :
  Inv (j4 X N' scope cl C fp pins s H) [] (bW src σ) H { s with heap:=h₁,toks:=tk} where
 ok:=Cx.comp_ok I (Sd hC.symm) hk hf hfs hc
 os:=Z
 bare:=I.bare
 base:=Un.kept keep
 loc:=⟨m,hns,λi x v e1 e2 _=>by
  obtain⟨j,hj,hσ,kc,kc',hl⟩:=hfree.at e1 e2;obtain⟨m0,hn0,hl0⟩:=I.loc;obtain⟨u,r,l⟩:=hl0 j x v hj hσ (Pp (Pq kc));rcases l with⟨k,_⟩ | ⟨k,c,e,o,ho,hd⟩
  ·rw[kc] at k;cases k
  ·exact⟨u,r,.inr ⟨.inl kc',c,hl.trans e,o,keep c o ho,hd⟩⟩⟩
 cell:=λx c e=>let ⟨v,o,ho,hd⟩:=I.cell x c (hc.2 x c e);⟨v,o,keep _ _ ho,hd⟩
 free:=I.hok.fresh (Sd hC.symm)
 freeC:=λx c e=>I.freeC x c (hc.2 x c e)
 pin:=λp hp=>by
  have hp':p∈X.pn++pins:=by
   have z:p∈(X.pn++pins)++[]:=hp;rw[Qr] at z;exact z
  obtain⟨e,n,ne,nf,d⟩:=I.pin p hp';refine⟨keep _ _ e,n,λz=>?_,λz=>?_,d⟩
  ·have:=OW e;rw[show p.1=C from z,hC] at this;exact PL _ this
  ·rcases OO.mp (I.stkSub _ z) with q|q
   ·exact ne q
   ·exact nf q
 hok:=I.hok.kept keep
 len:=by show(bW src σ).length=N'.length;unfold bW;rw[OD,hfree.len]
end
def EK(X:Cx)(ifs:List PD)(t:TT):Prop:=
 ∀(pins:List (Addr×Ql)) (s:OI) (σ:L2.St) (H:Hp) (Q:Bool->Hp->Prop),Inv X pins σ H s->t σ H Q→
  OY (O3 X.prog X.w) X.A (forIn ifs true λc r=>if r=true then do let ok ←isTrue c X.env (eval c X.env);QP (TD ok) else QP (TD r)) (TP X pins σ Q) X.xe s
def IK:TT:=λ_ H Q=>Q true H
theorem Cy:EK X [] IK:=λ_ _ _ H _ I h=>wpAny_tests_nil ⟨H,I,h⟩
theorem Cv(h:PT X c t):EK X [c] t:=λpins s σ H Q I q=>wpAny_tests_one (h pins s σ H Q I q)
section
variable {prog:Po}{w:PM}{A:PB}{R:WZ->OI->Prop}{s:OI}
theorem oo(I:Nat->OI->Prop)
  (turn:∀n s,I n s->OY (O3 prog w) A (Yk it) (λr s₁=>match r with
   |none=>R (.ok .next) s₁
   |some v=>OY (O3 prog w) A (TC target it v) (λ_ s₁'=>OY (O3 prog w) A (Tn target env v) (λ_ s₂=>
     OY (O3 prog w) A (forIn ifs true λc r=>if r=true then do let ok ←isTrue c env (eval c env);QP (TD ok) else QP (TD r)) (λok s₃=>
      if ok=true then OY (O3 prog w) A (eval elt env) (λx s₄=>
       OY (O3 prog w) A (call (.builtin "list.append") [acc,x]) (λ_ s₅=>∃m,m<n/\I m s₅) (λ_ _=>False) s₄) (λ_ _=>False) s₃
      else ∃m,m<n/\I m s₃) (λ_ _=>False) s₂) (λ_ _=>False) s₁') (λ_ _=>False) s₁) (λ_ _=>False) s)
  (n:Nat) (h:I n s):SE (O3 prog w) A (.compLoop (.ListComp elt [⟨target,iter,ifs,0⟩] scope pos) 0 it acc env) R s:=by
 refine codeAny_loop Z I (λn s hI=>?_) n h;show OY _ A ((compTurn (.ListComp elt [⟨target,iter,ifs,0⟩] scope pos) 0 it acc env).onRaise (λx=>do W6 x env;theTreesLotGoes x)) _ _ s;refine wpAny_noted ?_;rw[compTurn_list];refine OE (Sq (OE (Qp (turn n s hI) (λr s₁ h₁=>?_) λ_ _ h'=>h'.elim)))
 cases r with
 |none=>exact wpAny_pure h₁
 |some v=>
  refine OE (Qp h₁ (λ_ s₁' h₁'=>?_) λ_ _ h'=>h'.elim);refine OE (Qp h₁' (λ_ s₂ h₂=>OE (Qp h₂ (λok s₃ h₃=>?_) λ_ _ h'=>h'.elim)) λ_ _ h'=>h'.elim)
  cases ok with
  |false=>exact wpAny_pure ⟨Z,h₃⟩
  |true=>
   exact OE (OE (Qp h₃ (λx s₄ h₄=>OE (Qp h₄ (λ_ s₅ h₅=>wpAny_pure (wpAny_pure ⟨Z,h₅⟩)) λ_ _ h'=>h'.elim)) λ_ _ h'=>h'.elim))
end
structure xq(X:Cx)(pins:List (Addr×Ql))(H:Hp)(C:Addr):Prop where
 no:H C=none
 lo:C≠X.env.locals
 fs:C∉X.fs
 old:X.s₀.heap.get? C=none
 ce:∀x c,X.env.cells.lookup x=some c->c≠C
 pn:∀p∈X.pn++pins,p.1≠C
theorem xq.turned{X:Cx}{pins:List (Addr×Ql)}{σ:L2.St}{H:Hp}{C:Addr}{s:OI}(o:xq X pins H C)(I:Inv X pins σ H s){h':OR}(sb:Sa C s.heap h'):Inv X pins σ H { s with heap:=h'}:=
 I.turned (it:=C) (t':=s.toks) (λb u hb e=>sb.extBut b u hb e) o.no o.lo (.inr o.old) o.ce o.pn
def i4(wi:TI)(src:List (Option Nat))(g:TG)(tt:TT)(te:TE):TE:=λσ H Q=>wi σ H λJ H1=>∀D,H1 D=none->∃W:Nat->Nat->List V->Hp->Prop,
 (∃m,W 0 m [] (upd H1 D (.lst [])))/\∀i m ys H,W i m ys H->(J.stop i H/\Q (.ref D) H)∨(J.go i H/\∀x H',J.yld i H x H'->g x (bW src σ) H' λσ2 H2=>gG (bW src σ) σ2/\tt σ2 H2 λok H3=>
  if ok=true then te σ2 H3 λy H4=>H4 D=some (.lst ys)/\ys.length<sizeLine/\∃m',m'<m/\W (i+1) m' (ys++[y]) (upd H4 D (.lst (ys++[y]))) else ∃m',m'<m/\W (i+1) m' ys H3)
section
variable {X:Cx}{N':List Pf}{scope:SG}{cl:List (Pf×Addr)}{src:List (Option Nat)}{tg iter elt:PD}{ifs:List PD}{wi:TI}{g:TG}{tt:TT}{te:TE}{pos:So}
theorem rG(hc:X.calm=true)(hi:PI X tg iter wi)(hg:∀C fp pins s H,PG (j4 X N' scope cl C fp pins s H) tg g)(ht:∀C fp pins s H,EK (j4 X N' scope cl C fp pins s H) ifs tt)
  (he:∀C fp pins s H,PE (j4 X N' scope cl C fp pins s H) elt te) (hfree:cC X scope cl N' src) (hcell:∀x∈scope.names,x.2≠.cell) (hkind:scope.kind=.function) (hcl:fq X scope cl)
  {RR:Value->Addr->WZ->OI->Prop} {pins:List (Addr×Ql)} {s:OI} {σ:L2.St} {H:Hp} {Q:VK} (I:Inv X pins σ H s) (h:i4 wi src g tt te σ H Q)
  (hRR:∀D C H' s',Q (.ref D) H'->(∃m,s'.heap.Ns C m)->Inv X pins σ H' s'->xq X pins H' C->RR (.ref D) C (.ok .next) s') :
  OY (O3 X.prog X.w) X.A (eval iter X.env) (λx s₁=>OY (O3 X.prog X.w) X.A (Yl x) (λitv s₂=>OY (O3 X.prog X.w) X.A (XE []) (λacc s₃=>
   OY (O3 X.prog X.w) X.A (Ug scope X.env.globals cl [] X.env.qual none .none (some X.env)) (λcenv s₄=>
    SE (O3 X.prog X.w) X.A (.compStart (.ListComp elt [⟨tg,iter,ifs,0⟩] scope pos) 0 itv acc { cenv with scope:=WH scope X.env}) (RR acc cenv.locals) s₄) X.xe s₃) X.xe s₂) X.xe s₁) X.xe s:=by
 refine bU (hi pins s σ H _ I h) λv s1 h1=>bU h1 λitv s2 h2=>?_
 obtain⟨it,fp,tn,J,H2,e,I2,T,st2,f2,h2⟩:=h2;subst e;refine P8 ?_ (by show 0≤sizeLine;exact OZ _);have hD:H2 s2.heap.objs.size=none:=I2.fresh;have I3:Inv X pins σ (upd H2 s2.heap.objs.size (.lst [])) { s2 with heap:=s2.heap.push { cls:=.type "list",data:=.seq ([]:List Value).toArray} }:=I2.lnew (t':=s2.toks) (its:=[]) .nil (OZ _);obtain⟨W,⟨m0,w0⟩,turn⟩:=h2 s2.heap.objs.size hD;generalize hDe:s2.heap.objs.size=D at I3 turn w0 hD ⊢;have st3:tn 0 (s2.heap.push { cls:=.type "list",data:=.seq ([]:List Value).toArray}):=T.keep _ _ _ st2 λb _ o e=>OG _ e
 have f3:∀b∈fp,gE X pins (upd H2 D (.lst [])) b/\b<(s2.heap.push { cls:=.type "list",data:=.seq ([]:List Value).toArray}).objs.size:=λb hb=>by
  obtain⟨o,e,_⟩:=T.obj _ _ st2 b hb;have l:=OW e;rw[hDe] at l;refine⟨⟨?_,(f2 b hb).2⟩,by rw[Rm,hDe];exact Ta l⟩;rw[au (PF l)];exact(f2 b hb).1
 generalize (s2.heap.push { cls:=.type "list",data:=.seq ([]:List Value).toArray})=h3 at I3 st3 f3 ⊢;refine wpAny_newFunctionEnv hcell (by intro y hy;simp at hy) (λh₄ hns₄ hsb₄=>?_) hkind;have keep:∀b o,h3.get? b=some o->h₄.get? b=some o:=λb o e=>hsb₄.extBut b o (PF (OW e)) (OG _ e)
 have I4:=Inv.comp (C:=h3.objs.size) (fp:=fp) (tk:=s2.toks+([]:List (Pf×Value)).length) I3 Z hns₄ keep hkind (λb hb=>(f3 b hb).1) (λb hb=>(f3 b hb).2) hcl hfree;have st4:tn 0 h₄:=T.keep _ _ _ st3 λb _ o e=>keep b o e
 have fpn:∀b∈fp,(upd H2 D (.lst [])) b=none:=λb hb=>(f3 b hb).1.1
 have hn3:∀b∈fp,b≠h3.objs.size:=λb hb=>PF (f3 b hb).2
 have stat:∀{H':Hp},(∀b∈fp,H' b=none)->∀b∈fp,gE (j4 X N' scope cl h3.objs.size fp pins { s2 with heap:=h3} (upd H2 D (.lst []))) [] H' b:=λhn b hb=>
  ⟨hn b hb,hn3 b hb,I4.ok.exfs b hb,.inl hb,λx c e=>(f3 b hb).1.2.2.2.2.1 x c (hcl.2 x c e),λp hp=>(f3 b hb).1.2.2.2.2.2 p (by
   have z:p∈(X.pn++pins)++[]:=hp;rw[Qr] at z;exact z)⟩
 have back:∀{H':Hp} {s':OI},Inv (j4 X N' scope cl h3.objs.size fp pins { s2 with heap:=h3} (upd H2 D (.lst []))) [] (bW src σ) H' s'->(∃m,s'.heap.Ns h3.objs.size m)/\Inv X pins σ H' s'/\xq X pins H' h3.objs.size:=λ{H' s'} I'=>by
  have Ib:Inv X pins σ H' s':=I3.call' I'.os I'.base I'.hok I'.bare λb hb=>⟨(f3 b hb).1.2.2.2.1,(f3 b hb).1.2.1,(f3 b hb).1.2.2.2.2.1,(f3 b hb).1.2.2.2.2.2⟩
  refine⟨let ⟨m,hm,_⟩:=I'.loc;⟨m,hm⟩,Ib,⟨I'.free,λz=>?_,I3.nofs (OC _),Qo I3.sz,λx c e z=>?_,λp hp z=>?_⟩⟩
  ·have:=I3.lt;rw[←z] at this;exact PL _ this
  ·obtain⟨v,o,ho,_⟩:=I3.cell x c e;have:=OW ho;rw[z] at this;exact PL _ this
  ·obtain⟨e,_⟩:=I3.pin p hp;have:=OW e;rw[z] at this;exact PL _ this
 have loop:SE (O3 X.prog X.w) X.A (.compLoop (.ListComp elt [⟨tg,iter,ifs,0⟩] scope pos) 0 (.ref it) (.ref D) (S9 scope cl h3.objs.size X.env)) (RR (.ref D) h3.objs.size) { s2 with heap:=h₄,toks:=s2.toks+([]:List (Pf×Value)).length}:=by
  refine oo (λn s'=>∃i ys H',Inv (j4 X N' scope cl h3.objs.size fp pins { s2 with heap:=h3} (upd H2 D (.lst []))) [] (bW src σ) H' s'/\tn i s'.heap/\(∀b∈fp,H' b=none)/\W i n ys H') ?_ m0 ⟨0,[],_,I4,st4,fpn,w0⟩;rintro n s5 ⟨i,ys,H5,I5,st5,fr5,w5⟩;rcases turn i n ys H5 w5 with⟨stop,qn⟩ | ⟨go,step⟩
  ·refine bU (T.done (j4 X N' scope cl h3.objs.size fp pins { s2 with heap:=h3} (upd H2 D (.lst []))) rfl rfl rfl hc i [] s5 _ H5 _ I5 (stat fr5) st5 stop) λr s6 ⟨hr,I6⟩=>?_
   subst hr;obtain⟨b1,b2,b3⟩:=back I6;exact hRR D _ H5 s6 qn b1 b2 b3
  ·refine bU (T.item (j4 X N' scope cl h3.objs.size fp pins { s2 with heap:=h3} (upd H2 D (.lst []))) rfl rfl rfl hc i [] s5 _ H5 _ I5 (stat fr5) st5 go) λr s6 ⟨u,hr,h6⟩=>?_
   subst hr;refine bU h6 λ_ s7 ⟨x,H7,I7,r7,y7,st7,fr7⟩=>?_
   have I7':=I7.pinned (stat fr7) (T.obj _ _ st7);refine bU (hg _ _ _ _ _ _ s7 _ H7 x u _ I7' r7 (step x H7 y7)) λ_ s8 ⟨σ8,H8,I8,ex8,q8⟩=>?_
   refine bU (ht _ _ _ _ _ _ s8 σ8 H8 _ I8 q8) λok s9 ⟨H9,I9,q9⟩=>?_
   have again:∀{ys':List V} {Ha:Hp} {sa:OI},Inv (j4 X N' scope cl h3.objs.size fp pins { s2 with heap:=h3} (upd H2 D (.lst []))) ([]++jT fp s7.heap) σ8 Ha sa->(∃m',m'<n/\W (i+1) m' ys' Ha)→
     ∃m,m<n/\∃i ys H',Inv (j4 X N' scope cl h3.objs.size fp pins { s2 with heap:=h3} (upd H2 D (.lst []))) [] (bW src σ) H' sa/\tn i sa.heap/\(∀b∈fp,H' b=none)/\W i m ys H':=λ{ys' Ha sa} Ia ⟨m',hm,wa⟩=>by
    refine⟨m',hm,i+1,ys',Ha,(Ia.unpinned).weak ex8.1.symm ex8.2,T.keep _ _ _ st7 λb hb o e=>(Ia.pin (b,o) (OX _ (OX _ (eI hb e)))).1,λb hb=>?_,wa⟩;obtain⟨o,e,_⟩:=T.obj _ _ st7 b hb;exact(Ia.pin (b,o) (OX _ (OX _ (eI hb e)))).2.1
   cases ok with
   |false=>exact again I9 q9
   |true=>
    refine bU (he _ _ _ _ _ _ s9 σ8 H9 _ I9 q9) λy s10 ⟨yv,H10,I10,r10,q10,hz,wn⟩=>?_
    refine bU (bH _ s10 σ8 H10 (.ref D) [yv] (.ref D) [y] (λ_ Hz=>∃m',m'<n/\W (i+1) m' (ys++[yv]) Hz) I10 Z (.cons r10 .nil) ⟨D,ys,yv,Z,Z,q10,hz,wn⟩) λ_ s11 ⟨_,H11,I11,_,q11⟩=>?_
    exact again I11 q11
 exact Vg loop (T.self _ 0 _ _ _ st4 loop)
theorem Ag(hc:X.calm=true)(hi:PI X tg iter wi)(hg:∀C fp pins s H,PG (j4 X N' scope cl C fp pins s H) tg g)(ht:∀C fp pins s H,EK (j4 X N' scope cl C fp pins s H) ifs tt)
  (he:∀C fp pins s H,PE (j4 X N' scope cl C fp pins s H) elt te) (hfree:cC X scope cl N' src) (hclos:Tp scope X.env=QP cl) (hcell:∀x∈scope.names,x.2≠.cell) (hkind:scope.kind=.function)
  (hnames:∀x∈scope.names,x.2=.local->scope.names.lookup x.1=some .local) (hcl:fq X scope cl) (hs:∀x,QB iter X.env x=QP x:=by intro _;rfl) :
  PE X (.ListComp elt [⟨tg,iter,ifs,0⟩] scope pos) (i4 wi src g tt te):=by
 intro pins s σ H Q I h;rw[eval_ListComp];refine SO (use:=none) Z hs hclos hkind hnames (rG hc hi hg ht he hfree hcell hkind hcl (RR:=λacc C=>compPost (O3 X.prog X.w) X.A X.xe none (EP X pins σ Q) acc C) I h λD C H' s' q hm hI hb=>?_);obtain⟨m,hm⟩:=hm;exact⟨m,hm,λh' sb=>⟨.ref D,H',hb.turned hI sb,Z,q⟩⟩
theorem CC{i:Nat}{x:Pf}{pos' pos2:So}(hN:X.N.Nodup)(hi':X.N[i]?=some x)(hx:xx X.env.scope x)(hc:X.calm=true)(hi:PI X tg iter wi)(hg:∀C fp pins s H,PG (j4 X N' scope cl C fp pins s H) tg g)(ht:∀C fp pins s H,EK (j4 X N' scope cl C fp pins s H) ifs tt)
  (he:∀C fp pins s H,PE (j4 X N' scope cl C fp pins s H) elt te) (hfree:cC X scope cl N' src) (hclos:Tp scope X.env=QP cl) (hcell:∀x∈scope.names,x.2≠.cell) (hkind:scope.kind=.function)
  (hnames:∀x∈scope.names,x.2=.local->scope.names.lookup x.1=some .local) (hcl:fq X scope cl) (hs:∀x,QB iter X.env x=QP x:=by intro _;rfl)
  (hsw:Rq (.ListComp elt [⟨tg,iter,ifs,0⟩] scope pos) (some (.Name x pos')) pos2.line X.env=QP true:=by rfl) (hf:X.fn x=true∨X.env.scope.names.lookup x=some .local:=by first|exact .inl Z|exact .inr Z|assumption) :
  PS X (.Assign [.Name x pos'] (.ListComp elt [⟨tg,iter,ifs,0⟩] scope pos) pos2) (oO (i4 wi src g tt te) (jq i)):=by
 intro pins s σ H D I h;rw[Vv _ _ _ _ hsw];refine OE (Sq ?_);show OY _ _ ((comprehension (.ListComp elt [⟨tg,iter,ifs,0⟩] scope pos) scope X.env _ (XE []) false (eval iter X.env) (some (Tn (.Name x pos') X.env)) >>= λ_=>QP ()) >>= λ_=>QP WW) _ _ s;refine OE (OE (Qp (SO (use:=some (Tn (.Name x pos') X.env)) (Q:=λ_ s''=>SP X pins D .next s'') Z hs hclos hkind hnames (rG hc hi hg ht he hfree hcell hkind hcl (RR:=λacc C=>compPost (O3 X.prog X.w) X.A X.xe (some (Tn (.Name x pos') X.env)) (λ_ s''=>SP X pins D .next s'') acc C) I h λE C H' s' q hm hI hb=>?_)) (λ_ s'' h''=>wpAny_pure (wpAny_pure h'')) λ_ _ e=>e));obtain⟨m,o,es,ep,ho,hd,r1,r2⟩:=hm;have I':Inv X (pins++[(C,o)]) σ H' s':=hI.pins_of λp hp=>by
  rcases Pn.mp hp with h|h
  ·exact hI.pin p (OX _ h)
  ·rw[OH] at h;rw[h];exact⟨ho,hb.no,hb.lo,hb.fs,λv z=>by rw[hd] at z;cases z⟩
 refine Ut (fG I' hN hi' hx (show RelV (.ref E) (.ref E) from Z) (λs'' I''=>?_) hf);have hC:=(I''.pin (C,o) (OX _ (OX _ OJ))).1;have I3:Inv X pins (σ.set i (some (.ref E))) H' s'':=I''.pins_of λp hp=>I''.pin p (OX _ (P2 _ hp))
 exact⟨m,⟨o,es,ep,hC,hd,r1,r2⟩,λh' sb=>⟨_,H',hb.turned I3 sb,q⟩⟩
end
def Jn(K:Oz):R2:=λx y H Q=>∃d d',bv K H x d/\bv K H y d'/\d.canLay0=true/\d'.canLay0=true/\d.depth≤32/\Q (.bl (!PyData.eqv d d')) H
theorem sW(hr:cV k X.A):ib X (Qs .NotEq) (Jn X.K):=by
 intro pins s σ H x y v u Q I rx ry h;obtain⟨d,d',hd,hd',c,c',dp,q⟩:=h;obtain⟨as,ra⟩:=bv.reads I hd rx;obtain⟨bs,rb⟩:=bv.reads I hd' ry;exact SeqAt.compareNe_reads ra rb c c' (by have:=hr.units;omega) ⟨.bl _,H,I,Z,q⟩
noncomputable def MG (h:OR) (x:Value) (d:PyData) (y:Value):Bool:=
 open Classical in if y=x then true else if z:∃d',d'.canLay0=true/\d'.depth≤32/\∃as,Reads h y d' as then Qz z.choose d else false
def EM(K:Oz)(H:Hp)(xs:List V):Prop:=∀x∈xs,∃d,bv K H x d/\d.canLay0=true/\d.depth≤32
def KD(K:Oz):R2:=λx y H Q=>∃a p xs,x=.ref a/\y=.ref p/\aS K H p xs/\V.ref a∈xs/\EM K H xs/\Q (.bl false) H
def KI(K:Oz):V->List V->Hp->VK->Prop:=λx vs H Q=>∃p xs a d,x=.ref p/\vs=[.ref a]/\aS K H p xs/\V.ref a∈xs/\EM K H xs/\bv K H (.ref a) d/\d.canLay0=true/\d.depth≤32∧
 ∀(j:Nat) (v':V),xs[j]?=some v'->(v'=.ref a∨∀d',bv K H v' d'->d'.canLay0=true->Qz d' d=true)->Q (.int j) H
end B
namespace B
abbrev R:=Int×Int
def fc(a b:Int):R:=(a/(O0 a b:Int),b/(O0 a b:Int))
structure Wf(n:Nat)(r:R):Prop where
 pos:0<r.2
 top:r.1.natAbs<2^n
 bot:r.2.natAbs<2^n
 cop:O0 r.1 r.2=1
theorem Wf.mono(h:Wf n r)(l:n≤m):Wf m r:=⟨h.pos,O5 h.top (Rn (by decide) l),O5 h.bot (Rn (by decide) l),h.cop⟩
theorem b6(hb:0<b):0<(O0 a b:Int):=by
 have h:O0 a b≠0:=λz=>by
  have:=(Int.gcd_eq_zero_iff.mp z).2;omega
 omega
theorem fV(a:Int)(hg:0<g):(a/g).natAbs≤a.natAbs:=by
 have h1:=Int.ediv_mul_le a (show g≠0 by omega);have h2:=Int.lt_ediv_add_one_mul_self a hg;rcases Int.le_total 0 a with h|h
 ·have h3:=Sk h (show 0≤g by omega);have h4:a/g≤a/g*g:=by
   have:a/g*1≤a/g*g:=R6 (by omega) h3;omega
  omega
 ·have h3:a/g≤0:=by
   have:=Int.ediv_le_ediv hg h;rw[Int.zero_ediv] at this;exact this
  have h5:a≤a/g:=by
   have:a/1≤a/g:=by
    have q:(a/g+1)*g≤(a/g+1)*1∨0<a/g+1:=by
     rcases Int.le_total (a/g+1) 0 with z|z
     ·left;have:=R6 (a:=1) (b:=g) (c:=-(a/g+1)) (by omega) (by omega);have e1:-(a/g+1)*1=-((a/g+1)*1):=Xi _ _;have e2:-(a/g+1)*g=-((a/g+1)*g):=Xi _ _;omega
     ·rcases Int.lt_or_eq_of_le z with z|z
      ·right;exact z
      ·left;rw[←z];simp
    rw[Va];rcases q with q|q
    ·omega
    ·omega
   rw[Va] at this;exact this
  omega
theorem G9(hb:0<b)(h1:a.natAbs<2^n)(h2:b.natAbs<2^n):Wf n (fc a b):=
 ⟨Sw hb (QN (b6 hb)) (RN a b),PN (fV _ (b6 hb)) h1,PN (fV _ (b6 hb)) h2,SI (by have:=b6 (a:=a) hb;omega)⟩
def bY(r q:R):R:=fc (r.1*q.2+q.1*r.2) (r.2*q.2)
def fT(r q:R):R:=fc (r.1*q.1) (r.2*q.2)
def cD(r q:R):Bool:=decide (r.1*q.2<q.1*r.2)
theorem sZ{x y:Int}(h1:x.natAbs<2^n)(h2:y.natAbs<2^m):(x*y).natAbs<2^(n+m):=by
 rw[Ro,VA];exact Nat.mul_lt_mul'' h1 h2
end B
namespace B
open PySem L2 PyProof.Rows
def LY(i j:Int):Prop:=i.natAbs<2^4000/\j.natAbs<2^4000
def LV(_ j:Int):Prop:=0<j/\j.natAbs<2^4000
theorem vd(h:i.natAbs<2^4000):VS i≤2^20:=by
 unfold VS
 split
 ·exact OZ _
 ·rename_i z;have hz:i.natAbs≠0:=λq=>z (by
   have:i=0:=by omega
   rw[this];rfl)
  have:=(VB hz).mpr h;have e:(2:Nat)^20=1048576:=by decide
  omega
section
variable {X:Cx}
theorem b7:ib X (Sj .Mult) (rI LY λi j=>.int (i*j)):=Is λ_ _ _ _ _ _ _ hc q=>mul_int q (IntMulOk.of_bits (vd hc.1) (vd hc.2))
theorem dN:ib X (Sj .FloorDiv) (rI LV λi j=>.int (i/j)):=Is λi j _ _ _ _ _ hc q=>by
 have h1:(0:Int)<j:=hc.1;have h2:j.natAbs<2^4000:=hc.2;refine floordiv_int (by omega) (by rw[Ua i (by omega)];exact q) (.inl (PyProof.noPylong_of_log2 ?_));exact WI ((VB (show j.natAbs≠0 by omega)).mpr h2) (by decide)
end
def aM(K:Oz)(H H':Hp):Prop:=∀p xs,bu K H p xs->bu K H' p xs
theorem aM.trans{K:Oz}{H H1 H2:Hp}(a:aM K H H1)(b:aM K H1 H2):aM K H H2:=λp xs h=>b p xs (a p xs h)
theorem aM.same{K:Oz}{H H':Hp}(s:aE H H'):aM K H H':=λp xs h=>by
 rcases h with(h | ⟨o,h⟩)|h
 ·exact .inl (.inl (s _ _ h))
 ·exact .inl (.inr ⟨o,s _ _ h⟩)
 ·exact .inr h
theorem aM.new{K:Oz}{H:Hp}{p:Addr}(h:H p=none)(o:HO):aM K H (upd H p o):=aM.same (ao h o)
theorem aM.step{K:Oz}{t:Addr}{H H':Hp}(S:d7 t H H'):aM K H H':=λp xs h=>by
 obtain⟨ys,ht⟩:=S.tp;rcases h with(h | ⟨o,h⟩)|h
 ·exact .inl (.inl (S.keep _ _ (λz=>by subst z;rw[h] at ht;cases ht) h))
 ·exact .inl (.inr ⟨o,S.keep _ _ (λz=>by subst z;rw[h] at ht;cases ht) h⟩)
 ·exact .inr h
theorem aM.up{K:Oz}{H:Hp}{l:Addr}{xs:List V}(h:H l=some (.lst xs))(ys:List V):aM K H (upd H l (.lst ys)):=aM.step (d7.up h)
def RV(K:Oz)(H:Hp)(v:V)(r:R):Prop:=∃p,v=.ref p/\bu K H p [.int r.1,.int r.2]
theorem RV.mono{K:Oz}{H H':Hp}{v:V}{r:R}(h:RV K H v r)(t:aM K H H'):RV K H' v r:=let ⟨p,e,q⟩:=h;⟨p,e,t _ _ q⟩
theorem RV.of{K:Oz}{H:Hp}{p:Addr}{a b:Int}(h:H p=some (.tup [.int a,.int b])):RV K H (.ref p) (a,b):=⟨p,Z,bu.of h⟩
def KQ(K:Oz)(H:Hp)(xs:List V)(rs:List R):Prop:=xs.length=rs.length/\∀(i:Nat) (x:V) (r:R),xs[i]?=some x->rs[i]?=some r->RV K H x r
theorem KQ.at{K:Oz}{H:Hp}{xs:List V}{rs:List R}{i:Nat}{x:V}(h:KQ K H xs rs)(e:xs[i]?=some x):∃r,rs[i]?=some r/\RV K H x r:=by
 have hi:=(OV.mp e).1;have hj:i<rs.length:=by rw[←h.1];exact hi
 exact⟨rs[i],OA hj,h.2 i x _ e (OA hj)⟩
def Ju(r:R):Nat->R
 |0=>(1,1)
 |k+1=>fT (Ju r k) r
theorem BQ:Wf 1 (0,1):=⟨by decide,by decide,by decide,by decide⟩
def f8(rs:List R):R:=rs.foldl bY (0,1)
def dR(r:R):PyData:=.tuple [.int r.1,.int r.2]
theorem RV.deep{K:Oz}{H:Hp}{v:V}{r:R}(h:RV K H v r):bv K H v (dR r):=by
 obtain⟨p,rfl,q⟩:=h;exact .tup q (.cons (.int _) (.cons (.int _) .nil))
theorem mM(r:R):(dR r).depth≤32:=by show max 0 (max 0 0)+1≤32;decide
theorem Hd{i:Int}(h:i.natAbs<2^n)(hn:n≤1900):i.natAbs.log2<1920:=by
 by_cases z:i.natAbs=0
 ·rw[z];decide
 ·have:=(VB z).mpr (O5 h (Rn (by decide) hn));omega
theorem He(h:i.natAbs<2^n)(hn:n≤1900):(XV i).shown.length≤1921:=by
 have q:=int_text_length_le (a:=i) (k:=1920) (by decide) (Hd h hn);have e:(XV i).shown.length=(toString i).length:=by
  show(OT (toString i)).length=_;exact PySem.ofString_length _
 omega
theorem Hu(h:Qz (dR r) (dR q)=true):r=q:=by
 have z:(r.1==q.1&&(r.2==q.2&&true))=true:=h;simp only[V1,O2,beq_iff_eq] at z;exact Wy z.1 z.2
theorem Ba(r:R):Qz (dR r) (dR r)=true:=by
 show(r.1==r.1&&(r.2==r.2&&true))=true;simp
end B
namespace B
open PySem L2 PyProof.Rows
def dL(rs:List R):PyData:=.list (rs.map dR)
def JT(K:Oz)(tl:TE):TI:=λσ H R=>tl σ H λx H1=>(∃a,x=.ref a/\(∃xs,aS K H1 a xs)/\R (xA K a) H1)∨(∃a,x=.ref a/\(∃xs,bu K H1 a xs)/\R (BO K a) H1)
theorem Gb(hl:PE X l tl):PI X tg l (JT X.K tl):=by
 intro pins s σ H R I h;refine bU (hl pins s σ H _ I h) λv s1 ⟨x,H1,I1,r1,q1⟩=>?_
 rcases q1 with⟨a,e,⟨xs,hq⟩,q⟩ | ⟨a,e,⟨xs,hq⟩,q⟩
 ·subst e;cases r1;obtain⟨its,rv,p,hz⟩:=I1.list hq;refine Uv p.isList ?_;refine⟨s1.heap.objs.size,[s1.heap.objs.size],_,_,H1,Z,I1.kept (t':=s1.toks) λb o e=>OG _ e,nA a _,⟨_,O4 _ Z,Z,Z⟩,λb hb=>?_,q⟩;have e:b=s1.heap.objs.size:=by simpa using hb
  subst e;exact I1.fpOk (OC _) (I1.hok.fresh (OC _))
 ·subst e;cases r1;obtain⟨its,rv,p,hz⟩:=I1.tuple hq;refine Sc (show s1.heap.IsTuple a its.toArray from p) ?_;refine⟨s1.heap.objs.size,[s1.heap.objs.size],_,_,H1,Z,I1.kept (t':=s1.toks) λb o e=>OG _ e,lg a _,⟨_,O4 _ Z,Z,Z⟩,λb hb=>?_,q⟩;have e:b=s1.heap.objs.size:=by simpa using hb
  subst e;exact I1.fpOk (OC _) (I1.hok.fresh (OC _))
end B
namespace B
structure fY(r:R):Prop where
 pos:0<r.2
 cop:O0 r.1 r.2=1
theorem hJ(hb:0<b):fY (fc a b):=
 ⟨Sw hb (QN (b6 hb)) (RN a b),SI (by have:=b6 (a:=a) hb;omega)⟩
theorem fK(hb:0<b)(hy:0<y)(g:O0 x y=1)(e:x*b=a*y):fc a b=(x,y):=by
 have h1:O0 (a*y) (b*y)=O0 a b*y.natAbs:=WJ a y b;have h2:O0 (x*b) (y*b)=O0 x y*b.natAbs:=WJ x b y;rw[e,RO y b,h1,g,Nat.one_mul] at h2;have h3:(O0 a b:Int)*y=b:=by
  have z:((O0 a b*y.natAbs:Nat):Int)=(b.natAbs:Int):=congrArg _ h2;rw[TF,VC (by omega),VC (by omega)] at z;exact z
 have gp:=b6 (a:=a) hb;have h4:a=x*(O0 a b:Int):=by
  have z:x*(O0 a b:Int)*y=a*y:=by rw[V2,h3];exact e
  exact(Sx (by omega) z).symm
 unfold fc;generalize (O0 a b:Int)=G at h3 h4 gp;subst h4;subst h3;rw[Int.mul_ediv_cancel _ (by omega),Pa _ (by omega)]
theorem gY(h:O0 a b=1)(d:c∣a):O0 c b=1:=
 Wh.mpr λz h1 h2=>Wh.mp h z (SQ h1 d) h2
theorem hZ(h:O0 a b=1)(d:c∣b):O0 a c=1:=by
 rw[Rw];exact gY (by rw[Rw];exact h) d
theorem kQ(h:O0 a b=1)(k:O0 a c=1):O0 a (b*c)=1:=by
 rw[Int.gcd_mul_right_right_of_gcd_eq_one h];exact k
theorem jv(h:O0 a c=1)(k:O0 b c=1):O0 (a*b) c=1:=by
 rw[Rw];exact kQ (by rw[Rw];exact h) (by rw[Rw];exact k)
theorem fu(hb:0<b):∃g x y:Int,(O0 a b:Int)=g/\0<g/\a=g*x/\b=g*y/\O0 x y=1:=by
 have gp:=b6 (a:=a) hb;obtain⟨x,hx⟩:=W7 a b;obtain⟨y,hy⟩:=RN a b;refine⟨_,x,y,Z,gp,hx,hy,?_⟩;have z:=SI (i:=a) (j:=b) (by omega);have e1:a/(O0 a b:Int)=x:=by
  conv=>lhs;lhs;rw[hx]
  exact Pa _ (by omega)
 have e2:b/(O0 a b:Int)=y:=by
  conv=>lhs;lhs;rw[hy]
  exact Pa _ (by omega)
 rw[e1,e2] at z;exact z
theorem iR{g y b:Int}(hb:0<b)(hg:0<g)(e:b=g*y):0<y:=by
 rcases Int.lt_or_le 0 y with h|h
 ·exact h
 ·have:=R6 h (QN hg);rw[Int.mul_zero] at this;omega
def qU(r q:R):R:=
 let d:Int:=(O0 r.2 q.2:Nat);let t:=r.1*(q.2/d)+q.1*(r.2/d);let e:Int:=(O0 t d:Nat)
 (t/e,r.2/d*(q.2/e))
theorem z6(hr:fY r)(hq:fY q):qU r q=bY r q:=by
 obtain⟨d,u,v,e0,dp,e1,e2,cuv⟩:=fu (a:=r.2) hq.pos;have up:=iR hr.pos dp e1;have vp:=iR hq.pos dp e2;obtain⟨e,x,w,f0,ep,f1,f2,cxw⟩:=fu (a:=r.1*v+q.1*u) dp;have wp:=iR dp ep f2;have du:r.2/d=u:=by rw[e1];exact Pa _ (by omega)
 have dv:q.2/d=v:=by rw[e2];exact Pa _ (by omega)
 have te:(r.1*v+q.1*u)/e=x:=by rw[f1];exact Pa _ (by omega)
 have qe:q.2/e=w*v:=by rw[e2,f2,V2];exact Pa _ (by omega)
 have c1:O0 r.1 u=1:=hZ hr.cop ⟨d,by rw[e1,RO]⟩;have c2:O0 q.1 v=1:=hZ hq.cop ⟨d,by rw[e2,RO]⟩;have xd:x∣(r.1*v+q.1*u):=⟨e,by rw[f1,RO]⟩;have t1:O0 (r.1*v+q.1*u) u=1:=by
  rw[Rw,TV,Rw];exact jv c1 (by rw[Rw];exact cuv)
 have t2:O0 (r.1*v+q.1*u) v=1:=by
  rw[Int.add_comm,Rw,TV,Rw];exact jv c2 cuv
 have cx:O0 x (u*(w*v))=1:=kQ (gY t1 xd) (kQ cxw (gY t2 xd));have z:qU r q=(x,u*(w*v)):=by
  unfold qU;simp only[e0,du,dv,f0,te,qe]
 rw[z];unfold bY;refine(fK (Qf hr.pos hq.pos) (Qf up (Qf wp vp)) cx ?_).symm;have k:r.1*q.2+q.1*r.2=d*(e*x):=by
  rw[e1,e2,←f1,Int.mul_add];rw[Tb r.1 d v,Tb q.1 d u]
 rw[k,e1,e2];have k2:d*u*(d*v)=d*u*(e*w*v):=by rw[←f2]
 rw[k2]
 ac_rfl
def lh(r q:R):R:=
 let l:Int:=(O0 r.1 q.2:Nat);let m:Int:=(O0 q.1 r.2:Nat)
 (r.1/l*(q.1/m),r.2/m*(q.2/l))
theorem vC(hr:fY r)(hq:fY q):lh r q=fT r q:=by
 obtain⟨l,a,b,e0,lp,e1,e2,cab⟩:=fu (a:=r.1) hq.pos;obtain⟨m,c,d,f0,mp,f1,f2,ccd⟩:=fu (a:=q.1) hr.pos;have bp:=iR hq.pos lp e2;have dp:=iR hr.pos mp f2;have z:lh r q=(a*c,d*b):=by
  unfold lh;simp only[e0,f0];rw[show r.1/l=a by rw[e1];exact Pa _ (by omega),show q.2/l=b by rw[e2];exact Pa _ (by omega),
   show q.1/m=c by rw[f1];exact Pa _ (by omega),show r.2/m=d by rw[f2];exact Pa _ (by omega)]
 have cad:O0 a d=1:=gY (hZ hr.cop ⟨m,by rw[f2,RO]⟩) ⟨l,by rw[e1,RO]⟩;have ccb:O0 c b=1:=gY (hZ hq.cop ⟨l,by rw[e2,RO]⟩) ⟨m,by rw[f1,RO]⟩;rw[z];unfold fT;refine(fK (Qf hr.pos hq.pos) (Qf dp bp) (kQ (jv cad ccd) (jv cab ccb)) ?_).symm;rw[e1,e2,f1,f2]
 ac_rfl
theorem zZ(hr:fY r)(hq:fY q):fY (bY r q):=hJ (Qf hr.pos hq.pos)
end B
namespace B
open PySem L2 PyProof.Rows
def MW(_ j:Int):Prop:=j≠0/\j.natAbs<2^4000
def NF(a b:Int):R:=if b<0 then fc (-a) (-b) else fc a b
def aY(r q:R):R:=fc (r.1*q.2-q.1*r.2) (r.2*q.2)
def JB(r q:R):R:=NF (r.1*q.2) (r.2*q.1)
structure MP(d:PyData):Prop where
 sh:d.showable=true
 nd:d.hasDict=false
 sz:d.shown.length≤5000
 dp:d.depth≤8
end B
namespace B
theorem nV(hb:0<b):(fc a b).1*b=a*(fc a b).2:=by
 obtain⟨g,x,y,_,gp,e1,e2,c⟩:=fu (a:=a) hb;have yp:=iR hb gp e2;have e:x*b=a*y:=by rw[e1,e2];ac_rfl
 rw[fK hb yp c e];exact e
theorem qY(r q:R):bY r (-q.1,q.2)=aY r q:=by
 unfold bY aY;rw[Xi,←Int.sub_eq_add_neg]
end B
namespace B
open PySem PySem.Spec L2 PyProof.Rows
section
variable {prog:Po}{w:PM}{A:PB}{E:Value->OI->Prop}{h:OR}{g:Array GenState}{d:Drawn}{t:Nat}{os:OsState}{K:Oz}
variable {nm q:Pf}{C N:Addr}{bs bm bmB:List Value}{hdct:Bool}{sn:List Pf}{sub:List Value}{ab:Bool}{col:Option Bool}{dd:Option Addr}{k0 k1 k2 k3 k5:Option Value}{bN newId initId:String}
theorem pY(F:ExcBaseFacts bN newId initId bmB)(T:WK h bmB bm){cP:List Value}(X:K.In h)
  (hC:h.get? C=some (RB nm q C N bs bm hdct sn sub ab col dd k0 k1 k2 k3 k5 newId)) (hi:Pz K (.ref C) "__init__"=some (some (.ref fI))) (hf:S7 K (.ref fI)=some (.type "function"))
  (hq:∀h' e,XW h h' e (.ref C) cP->OY (O3 prog w) A (call (.ref fI) (.ref e:: cP)) (λr s'=>r=.none/\Q (.done (.ret (.ref e))) s') E ⟨h',g,d,t,os⟩) (hz:cP.length≤sizeLine):
  OY (O3 prog w) A (PH.«type.__call__» ⟨.ref C:: cP,[]⟩) Q E ⟨h,g,d,t,os⟩:=by
 repeat(first
  |with_reducible refine wpAny_loadPart_at hC ?_
  |with_reducible refine wpAny_madeBy_exc hC ?_
  |wp_step)
 refine codeAny_call_builtin_code (Wi _ F.quiet)
  (wpAny_check_new_subT F T hC ?_)
 refine codeAny_exc_new_subT F T hC ?_ hz;show OY _ _ _ _ _ _;have up:∀b o,h.get? b=some o->((h.push { cls:=.type "tuple",data:=.seq cP.toArray}).push
   { cls:=.ref C,data:=.fields #[.ref h.objs.size,.none,.none,.none,.bool false,.none]}).get? b=some o:=λb o e=>
  OG _ (OG _ e)
 have hC₁:=up _ _ hC;have X₁:=X.keeps up;have hx:((h.push { cls:=.type "tuple",data:=.seq cP.toArray}).push
   { cls:=.ref C,data:=.fields #[.ref h.objs.size,.none,.none,.none,.bool false,.none]}).get? (h.objs.size+1)=
   some { cls:=.ref C,data:=.fields #[.ref h.objs.size,.none,.none,.none,.bool false,.none]}:=by heap_get
 have hcC:(O8 C::bm).contains (.ref C)=true:=by simp
 unfold isInstance
 repeat(first
  |with_reducible refine wpAny_loadPart_at hx ?_
  | (with_reducible refine wpAny_isSubtype_exc hC₁ ?_
     rw[hcC])
  |wp_step)
 show OY _ _ (XS (.ref C) _) _ _ _;refine(Tv X₁ hi) _ _ _ _ (λ_ _ e=>e) ?_;refine wpAny_holding (OE ?_);refine(Xr X₁ _ hf) _ _ _ _ (λ_ _ e=>e) ?_;refine OE (Qp (hq _ (h.objs.size+1)
  ⟨up,Qo (Q3 _),h.objs.size,hx,Qo (OC _),?_⟩) (λr s' hr=>?_) λ_ _ y=>y)
 ·exact OG _ (OR.get?_push_at Z Z)
 ·obtain⟨rfl,hQ⟩:=hr
  wp_walk
  exact hQ
theorem A8(F:ExcBaseFacts bN newId initId bmB)(T:WK h bmB bm){cP:List Value}(X:K.In h)
  (hC:h.get? C=some (RB nm q C N bs bm hdct sn sub ab col dd k0 k1 k2 k3 k5 newId)) (hi:Pz K (.ref C) "__init__"=some (some (.ref fI))) (hf:S7 K (.ref fI)=some (.type "function"))
  (hq:∀h' e,XW h h' e (.ref C) cP->OY (O3 prog w) (A.under (.builtin "type.__call__" ⟨.ref C:: cP,[]⟩)) (call (.ref fI) (.ref e:: cP)) (λr s'=>r=.none/\Q (.ref e) s') E ⟨h',g,d,t,os⟩) (hz:cP.length≤sizeLine):
  OY (O3 prog w) A (call (.ref C) cP) Q E ⟨h,g,d,t,os⟩:=by
 have f1:=tc_lookup;have f2:=tc_bind (.ref C);have hT:(⟨h,g,d,t,os⟩:OI).TypeIs (.ref C) "type" := ⟨_,hC,Z⟩;refine Wc (codeAny_of_tree ?_);show OY _ _ (callAny (.ref C) _) _ _ _
 repeat(any_goals(first
  |assumption
  |with_reducible refine wpAny_loadPart_at hC ?_
  |wp_step))
 refine⟨Z,?_⟩;refine codeAny_call_builtin_at (Wi _ (by decide +kernel)) entry_typeCall
  (wpAny_check_type_call_sub hC (pY F T X hC hi hf (λh' e hm=>?_) hz))
 exact hq h' e hm
end
def k6:List Value:=[.type "ValueError",.type "Exception",.type "BaseException",.type "object"]
structure m9(K:Oz)(C:Addr)(bm:List Value):Prop where
 ob:∃nm q N bs hdct sn sub ab col dd k0 k1 k2 k3 k5,K.lookup C=some (RB nm q C N bs bm hdct sn sub ab col dd k0 k1 k2 k3 k5 "ValueError.__new__")
 tl:∀h:OR,K.In h->WK h k6 bm
 hd:Ss K C=true
 sa:Pz K (.ref C) "__setattr__"=some (some (.builtin "object.__setattr__"))
theorem Dl(T:WK h k6 tl)(self:Value):refuseLoop self "__setattr__" tl=QP ():=by
 induction T with
 |base=>exact PySem.F.store_ValueError.passes self
 |own _ _ _ _ ih=>rw[refuseLoop_ref];exact ih
theorem Bp{K:Oz}{C:Addr}{bm:List Value}(c:m9 K C bm):∃cd,X9 K C=some cd/\cd.mro=.ref C::bm:=by
 obtain⟨nm,q,N,bs,hdct,sn,sub,ab,col,dd,k0,k1,k2,k3,k5,lk⟩:=c.ob;unfold X9;rw[lk];exact⟨_,Z,Z⟩
section
variable {prog:Po}{w:PM}{A:PB}{s:OI}{K:Oz}{x C:Addr}{R:WZ->OI->Prop}
theorem nI(X:K.In s.heap)(I:Uc s.heap x ox C od)(c:m9 K C bm)(n:cN K C name)
  (h:∀b,OY (O3 prog w) A.in1 (PH.ObjectAttr.storeInOwnDict (.ref x) (.ref C) (.str name tk) name v b) (λfin s'=>match fin with
   | .done f=>R (.ok f) s'
   | .again c'=>c'.quiet=true/\SE (O3 prog w) A c' R s') (λe s'=>R (.error e) s') s):
  SE (O3 prog w) A (.call (.builtin "object.__setattr__") ⟨[.ref x,.str name tk,v],[]⟩) R s:=by
 have sf:=PySem.F.store_object;obtain⟨cd,hc,hm⟩:=Bp c;have T:=c.tl _ X;have hob:(O8 C::bm).contains (.type "object")=true:=by
  rw[Sg,T.hasType (X := "object") (b:=true) (by decide +kernel),TW]
 have isO:SL (O3 prog w) s.heap (isInstance (.ref x) (.type "object")) true:=by
  refine I.type.andThen (PySem.W.looks_mroIn X ?_);unfold X5;rw[hc];show(if cd.mro.isEmpty=true then none else some (cd.mro.contains (.type "object")))=some true;rw[hm,hob];rfl
 have ms:SL (O3 prog w) s.heap (mroOf (.ref C)) (.ref C::bm):=by
  rw[←hm];exact(SJ X hc).andThen .now
 refine codeAny_call_builtin sf.slot.plain sf.entry (PySem.W.check_slot (i := "object.__setattr__") (owner := "object") (n := "__setattr__") sf.kind sf.split isO (sf.args _ _ _) ?_);rw[PySem.W.osa_eq,refuse_eq];refine OE (OE (I.type.here (OE (ms.here ?_))));rw[refuseLoop_ref,Dl T];refine wpAny_pure (OE (I.type.here (OE ((Tv X n).here (OE ?_)))));exact SU (r:=none) .now (h _)
end
def Kq(a C:Addr)(dx:Option Addr):OR->Prop:=λh=>∃t:Addr,h.get? a=some { cls:=.ref C,dict:=dx,data:=.fields #[.ref t,.none,.none,.none,.bool false,.none]}
def jt(a C:Addr)(dx:Option Addr):HO:=.ext (Kq a C dx)
theorem A9(e:Kq a C dx h):ObjOk P w H h a (jt a C dx):=
 ⟨e,let ⟨_,q⟩:=e;⟨_,q⟩,λ_ _ ⟨t,q⟩ k=>⟨t,k _ q⟩⟩
def Bh(H:Hp)(a:Addr):Hp:=λb=>if b=a then none else H b
theorem ju:Bh H a a=none:=by unfold Bh;rw[if_pos Z]
theorem gX(h:b≠a):Bh H a b=H b:=by unfold Bh;rw[if_neg h]
section
variable {X:Cx}{pins:List (Addr×Ql)}{σ:L2.St}{H:Hp}{s:OI}{a C:Addr}{dx:Option Addr}
theorem Inv.forget(I:L2.Inv X pins σ H s)(e:H a=some (.ext φ))(new:X.s₀.heap.get? a=none):L2.Inv X pins σ (Bh H a) s:=by
 have none_of:∀b,H b=none->Bh H a b=none:=λb h=>by
  by_cases z:b=a
  ·rw[z];exact ju
  ·rw[gX z];exact h
 refine⟨I.ok,I.os,I.bare,⟨I.base.keep,I.base.slot,λb o q n hx=>none_of b (I.base.free b o q n hx),I.base.there,λb xs q=>?_,λb o u q=>?_,λb ps q=>?_⟩,I.loc,I.cell,none_of _ I.free,λx c q=>none_of _ (I.freeC x c q),λp hp=>?_,λb o q=>?_,I.len⟩
 ·have z:=I.base.tups b xs q;rw[gX (λk=>by rw[k,e] at z;cases z)];exact z
 ·have z:=I.base.frzs b o u q;rw[gX (λk=>by rw[k,e] at z;cases z)];exact z
 ·obtain⟨m,z⟩:=I.base.tbls b ps q;exact⟨m,by rw[gX (λk=>by rw[k,e] at z;cases z)];exact z⟩
 ·obtain⟨p1,p2,p3⟩:=I.pin p hp;exact⟨p1,none_of _ p2,p3⟩
 ·have nb:b≠a:=λz=>by rw[z,ju] at q;cases q
  rw[gX nb] at q;refine(I.hok b o q).stay (λc u _ z=>z) (λc z=>?_) (λc xs z=>?_)
  ·rw[gX (λk=>by rw[k,e] at z;cases z)];exact z
  ·rw[gX (λk=>by rw[k,e] at z;cases z)];exact z
end
theorem ObjOk.get(x:L2.ObjOk P w H h a o):∃u,h.get? a=some u:=by
 cases o with
 |lst xs=>obtain⟨_,_,_,_,e⟩:=x;exact⟨_,e⟩
 |tup xs=>obtain⟨_,_,_,o,e,_⟩:=x;exact⟨_,e⟩
 |dK kvs=>obtain⟨_,_,_,_,o,_,_,e,_⟩:=x;exact⟨_,e⟩
 |dT kvs=>obtain⟨_,_,_,_,o,_,_,e,_⟩:=x;exact⟨_,e⟩
 |set S n=>obtain⟨o,_,_,_,e,_⟩:=x;exact⟨_,e⟩
 |ins C dx fs=>obtain⟨_,_,_,e,_⟩:=x;exact⟨_,e⟩
 |own y=>exact x
 |xd fs=>obtain⟨_,⟨_,_,_,e,_⟩,_⟩:=x;exact⟨_,e⟩
 |rng lo hi=>obtain⟨_,_,_,e⟩:=x;exact⟨_,e⟩
 |frz ob u=>obtain⟨e,_⟩:=x;exact⟨_,e⟩
 |tbl ps=>exact⟨_,show h.get? a=some _ from x⟩
 |met f y=>exact⟨_,show h.get? a=some _ from x⟩
 |ext φ=>exact x.2.1
def MN(h:OR)(H:Hp)(x C T:Addr)(a0:Value):Prop:=
 ∃oe vs oT ts,h.get? x=some oe/\oe.cls=.ref C/\vs[0]?=some a0/\oe.data=.fields vs/\vs[1]?=some (.ref T)/\H T=none/\T≠x/\h.get? T=some oT/\oT.data=.fields ts/\ts[3]?=some .none
def Oy(P:Po)(w:PM):rV:=λouter H s E e s'=>∃(x C T:Addr) (a0:Value) (H':Hp),e=.ref x/\s'.os=s.os/\Tt s'.gens/\Un (pX outer) [] H H' s.heap s'.heap/\iz P w H' s'.heap/\s.heap.get? x=none/\s.heap.get? T=none/\H' x=none∧
 MN s'.heap H' x C T a0/\E (.ref C) none H'
structure gm(X:Cx)(pins:List (Addr×Ql))(a:Addr):Prop where
 st:X.s₀.heap.get? a=none
 lo:a≠X.env.locals
 ce:∀x c,X.env.cells.lookup x=some c->c≠a
 pi:∀p∈X.pn++pins,p.1≠a
 fr:a∉pX X.stack
section
variable {X:Cx}{pins:List (Addr×Ql)}{σ:L2.St}{H H':Hp}{s:OI}{a:Addr}
theorem Inv.newAt(I:L2.Inv X pins σ H s)(hex:X.ex=[])(h:s.heap.get? a=none):gm X pins a where
 st:=by
  cases e:X.s₀.heap.get? a with
  |none=>rfl
  |some o=>
   obtain⟨o',q⟩:=I.base.there a o e (by rw[hex];simp);rw[h] at q;cases q
 lo:=λz=>by
  obtain⟨m,⟨o,_,_,q,_⟩,_⟩:=I.loc;rw[←z,h] at q;cases q
 ce:=λx c e z=>by
  obtain⟨v,o,q,_⟩:=I.cell x c e;rw[z,h] at q;cases q
 pi:=λp hp z=>by
  obtain⟨q,_⟩:=I.pin p hp;rw[z,h] at q;cases q
 fr:=λz=>by
  obtain⟨_,o,q,_⟩:=I.stack.mem z;rw[h] at q;cases q
end
section
variable {X:Cx}{pins:List (Addr×Ql)}{σ:L2.St}{H:Hp}{s:OI}{a:Addr}{o:HO}
theorem Inv.adopt(I:L2.Inv X pins σ H s)(na:gm X pins a)(ha:H a=none)(hex:X.ex=[])(new:L2.ObjOk X.prog X.w (upd H a o) s.heap a o):L2.Inv X pins σ (upd H a o) s:=by
 have keep:∀b u,H b=some u->upd H a o b=some u:=λb u q=>by rw[au (aC q ha)];exact q
 have nn:∀b,b≠a->H b=none->upd H a o b=none:=λb nb q=>by rw[au nb];exact q
 refine⟨I.ok,I.os,I.bare,⟨I.base.keep,I.base.slot,λb u q n hx=>nn b (λz=>by rw[z,na.st] at q;cases q) (I.base.free b u q n hx),I.base.there,λb xs q=>keep _ _ (I.base.tups b xs q),λb u v q=>keep _ _ (I.base.frzs b u v q),λb ps q=>?_⟩,I.loc,I.cell,nn _ na.lo.symm I.free,λx c q=>nn _ (na.ce x c q) (I.freeC x c q),λp hp=>?_,λb u q=>?_,I.len⟩
 ·obtain⟨m,z⟩:=I.base.tbls b ps q;exact⟨m,keep _ _ z⟩
 ·obtain⟨p1,p2,p3⟩:=I.pin p hp;exact⟨p1,nn _ (na.pi p hp) p2,p3⟩
 ·by_cases z:b=a
  ·subst z;rw[ag] at q;cases q;exact new
  ·rw[au z] at q;exact(I.hok b u q).stay (λc v _ w=>w) (λc w=>keep _ _ w) (λc xs w=>keep _ _ w)
theorem Inv.none_of(I:L2.Inv X pins σ H s)(h:s.heap.get? a=none):H a=none:=by
 cases q:H a with
 |none=>rfl
 |some o=>obtain⟨u,z⟩:=ObjOk.get (I.hok a o q);rw[h] at z;cases z
end
structure XC(K:Oz)(C f:Addr)(bm:List Value):Prop where
 ob:∃nm q N bs hdct sn sub ab col dd k0 k1 k2 k3 k5,K.lookup C=some (RB nm q C N bs bm hdct sn sub ab col dd k0 k1 k2 k3 k5 "ValueError.__new__")
 tl:∀h:OR,K.In h->WK h k6 bm
 init:Pz K (.ref C) "__init__"=some (some (.ref f))
 fn:S7 K (.ref f)=some (.type "function")
 kp:QF K (.ref C)=true
 cl:m9 K C bm
section
variable {X:Cx}{k:Nat}{f C:Addr}{fd:OK}{ps:List Pf}{sp:Sp}{bm:List Value}
theorem Cn{pins:List (Addr×Ql)}{σ:L2.St}{H:Hp}{s:OI}{Q:Addr->Hp->Prop}{us:List Value}{vs:List V}{E':Value->OI->Prop}(M:XC X.K C f bm)(hex:X.ex=[])(F:bn X.prog X.w X.K X.mg X.base dm k f fd ps sp)(hr:cV (k+1) X.A)(hb:aL X.K fd ps [])
  (I:L2.Inv X pins σ H s) (r:be vs us) (hz:us.length≤sizeLine) (h:∀a,H a=none->sp (.ref a::vs) (upd H a (jt a C none)) (λv H2=>v=.non/\Q a H2) E0) :
  OY (O3 X.prog X.w) X.A (call (.ref C) us) (λv s'=>∃a H',v=.ref a/\gm X pins a/\L2.Inv X pins σ H' s'/\Q a H') E' s:=by
 obtain⟨nm,q,N,bs,hdct,sn,sub,ab,col,dd,k0,k1,k2,k3,k5,lk⟩:=M.ob;obtain⟨hp,g,d,t,os⟩:=s;refine A8 PySem.F.excBase_ValueError (M.tl hp I.kIn) I.kIn (I.kIn _ _ lk) M.init M.fn (λh' e hm=>?_) hz;have na:=B.Inv.newAt I hex hm.new;have he:=B.Inv.none_of I hm.new;obtain⟨tt,ho,_⟩:=hm.there;have I1:L2.Inv X pins σ H ⟨h',g,d,t,os⟩:=I.kept (t':=t) hm.keeps;have I2:L2.Inv X pins σ (upd H e (jt e C none)) ⟨h',g,d,t,os⟩:=B.Inv.adopt I1 na he hex (A9 ⟨tt,ho⟩);have hq:=h e he;have r2:be (V.ref e::vs) (O8 e::us):=.cons Z r;have hl:(O8 e::us).length=ps.length:=by
  have z:=r2.length;rw[F.len _ _ _ _ hq] at z;exact z.symm
 have hbd:=hb ⟨h',g,d,t,os⟩ (O8 e::us) I2.kIn (by rw[Qr];exact hl);rw[Qr] at hbd;refine Wc (TR (F.run _ X.stack _ _ ⟨O8 e::us,[]⟩ (O8 e::us) _ _ E0 (hr.make C us []) (I2.env0.make C us []) hbd r2 hq) λr s' hq'=>?_)
 cases r with
 |error e=>exact Qy hq'
 |ok fl=>
  cases fl with
  |ret u=>
   obtain⟨v,H',I3,rv,ev,q3⟩:=I2.after hq';subst ev;exact⟨rv,e,H',Z,na,I3,q3⟩
  |next=>exact Qy hq'
  |brk=>exact Qy hq'
  |cont=>exact Qy hq'
def MO(X:Cx)(E:XK):Prop:=∀(pins:List (Addr×Ql)) (σ:L2.St) (H:Hp) (s:OI) (a C:Addr) (oe:Ql) (vs:Array Value) (a0:Value),L2.Inv X pins σ H s->H a=none->gm X pins a->s.heap.get? a=some oe->oe.data=.fields vs→
 vs[0]?=some a0->vs[1]?=some .none->oe.cls=.ref C->E (.ref C) none H->X.xe (.ref a) s
theorem vT 
  (hbase:bm.contains (.type "BaseException")=true) (hh:A.handled=none)
  (h:OY M A x (λv s₁=>∃e t dx,v=.ref e/\s₁.heap.get? C=some (RB nm q C N bs bm hdct sn sub ab col dd k0 k1 k2 k3 k5 newId)∧
   s₁.heap.get? e=some { cls:=.ref C,dict:=dx,data:=.fields #[.ref t,.none,.none,.none,.bool false,.none]}/\E (.ref e) s₁) E s):
  OY M A (raiseStmt env (some x) none) Q E s:=by
 have hcB:(O8 C::bm).contains (.type "BaseException")=true:=by rw[Sg,hbase,TW]
 unfold raiseStmt;refine OE (Qp h (λv s₁ h₁=>?_) λ_ _ y=>y);obtain⟨e,t,dx,rfl,hC,he,hE⟩:=h₁;obtain⟨hp,g,d,tk,os⟩:=s₁
 repeat(first
  |with_reducible refine wpAny_loadPart_at he ?_
  |with_reducible refine wpAny_loadPart_at hC ?_
  | (with_reducible refine wpAny_isSubtype_exc hC ?_
     rw[hcB])
  |wp_step)
 exact wpAny_raiseNew_none hh hE
def K6(C:Addr)(sp:Sp)(E:XK)(t:TA):TS:=λ_ σ H=>t σ H λvs H1=>vs.length≤sizeLine/\∀a,H1 a=none->sp (.ref a::vs) (upd H1 a (jt a C none)) (λv H2=>v=.non/\(∃dx,H2 a=some (jt a C dx))/\E (.ref C) none (Bh H2 a)) E0
end
section
variable {X:Cx}{pins:List (Addr×Ql)}{σ:L2.St}{H:Hp}{s:OI}{a C T:Addr}{a0:Value}
end
def JW(N:List Pf):L2.St:=Pg N.length none
def N4(X:Cx)(pins:List (Addr×Ql))(R:Addr->Hp->Prop):Value->OI->Prop:=λe s=>∃(x C T:Addr) (a0:Value) (H:Hp),e=.ref x/\L2.Inv X pins (JW X.N) H s/\H x=none/\gm X pins x/\gm X pins T/\MN s.heap H x C T a0/\R C H
def MB(X:Cx)(pins:List (Addr×Ql))(R:Addr->Hp->Prop):Cx:={ X with pn:=X.pn++pins,xe:=N4 X pins R}
def MC(X:Cx)(e:Addr):Cx:={ X with A:=X.A.mark (some (.ref e)),calm:=false,xe:=λ_ _=>False}
section
variable {X:Cx}{pins pins':List (Addr×Ql)}{σ:L2.St}{H:Hp}{s:OI}{R:Addr->Hp->Prop}{e:Addr}
end
def M8(N:List Pf)(R:Addr->Hp->Prop)(Ok:Addr->Prop)(tb:TS)(th:TS):TS:=λD σ H=>tb D σ H/\∀C H',R C H'->Ok C/\th D (JW N) H'
section
variable {X:Cx}{R:Addr->Hp->Prop}{body:List Stmt}{b₀:Stmt}{suite:List Stmt}{x:Pf}{p hpos pos:So}{u:Value}{tb th:TS}
end
section
variable {X:Cx}{o value:PD}{f:Pf}{ta tv:TE}{pos' pos:So}
def Mg(K:Oz)(ta tv:TE)(f:Pf):TS:=λD σ H=>tv σ H λ_ H1=>ta σ H1 λx H2=>∃a C bm,x=.ref a/\H2 a=some (jt a C none)/\m9 K C bm/\cN K C f/\∀d,D.nx σ (upd H2 a (jt a C (some d)))
end
def N7(R:Addr->Hp->Prop):XK:=λv _ H=>∃C,v=.ref C/\R C H
theorem rW(a:Addr):(O8 a::k6).contains (.type "BaseException")=true:=by rw[Sg,(by decide +kernel:k6.contains (.type "BaseException")=true),TW]
def lD(es:Array VL):Bool:=es.toList.all λe=>match e.key with
 | .str _ _=>true
 |_=>false
theorem sg(h:lD es=true):StrKeys es:=λe he=>by
 have z:=QV.mp h e (Tu.mpr he)
 revert z
 cases e.key<;>intro z<;>first|exact⟨_,_,Z⟩ | (cases z)
theorem DY{K:Oz}{bs bsB:List Value}{sn snB:List Pf}{sub subB:List Value} 
  
  (lc:K.lookup C=some (RB nm q C N bs (.ref B0:: [.type "ValueError",.type "Exception",.type "BaseException",.type "object"]) hdct sn sub ab col dd k0 k1 k2 k3 k5 "ValueError.__new__"))
  (lb:K.lookup B0=some (RB nmB qB B0 NB bsB [.type "ValueError",.type "Exception",.type "BaseException",.type "object"] hdctB snB subB abB colB ddB j0 j1 j2 j3 j5 "ValueError.__new__"))
  (ln:K.lookup NB=some ⟨oc,od,.dict es n,sl⟩) (hs:lD es=true) (hn:(nsFind es "__init__").isNone=true)
  (fi:Pz K (.ref C) "__init__"=some (some (.ref f))) (ti:S7 K (.ref f)=some (.type "function")) (kc:QF K (.ref C)=true) (hh:Ss K C=true) (sa:Pz K (.ref C) "__setattr__"=some (some (.builtin "object.__setattr__"))):XC K C f (.ref B0:: k6):=
 have ob:∃nm q N bs hdct sn sub ab col dd k0 k1 k2 k3 k5,K.lookup C=some (RB nm q C N bs (.ref B0::k6) hdct sn sub ab col dd k0 k1 k2 k3 k5 "ValueError.__new__"):=⟨_,_,_,_,_,_,_,_,_,_,_,_,_,_,_,lc⟩;have tl:∀h:OR,K.In h->WK h k6 (.ref B0::k6):=λh X=>.own (X _ _ lb) ⟨_,es,n,X _ _ ln,Z,sg hs,λ_=>Z⟩ (Option.isNone_iff_eq_none.mp hn) .base
 ⟨ob,tl,fi,ti,kc,ob,tl,hh,sa⟩
structure BE(K:Oz)(C:Addr):Prop where
 ga:Pz K (.ref C) "__getattribute__"=some (some (.builtin "BaseException.__getattribute__"))
 gn:Pz K (.ref C) "__getattr__"=some none
 cl:Pz K (.ref C) "__class__"=some (some (.builtin "object.__class__"))
 cg:Uy K (.builtin "object.__class__") "__get__"=some (some (.builtin "getset_descriptor.__get__"))
 ct:Xs K (.builtin "object.__class__")=some true
section
variable {prog:Po}{w:PM}{A:PB}{E:Value->OI->Prop}{s:OI}{K:Oz}{x C:Addr}{ox:Ql}{odo:Option Ql}{bm:List Value}{name:Pf}{tk:Ys}{R:WZ->OI->Prop}
end
section
variable {K:Oz}{x C:Addr}{ox od:Ql}{bm:List Value}
end
structure jz(S ch:List Addr)(h h':OR):Prop where
 same:∀b o,b∉S->b∉ch->h.get? b=some o->h'.get? b=some o
 slot:∀b o,b∉ch->h.get? b=some o->∃sl,h'.get? b=some { o with slots:=sl}
theorem jz.trans(a:jz S c1 h h1)(b:jz S c2 h1 h2):jz S (c1++c2) h h2 where
 same:=λx o n1 n2 q=>b.same x o n1 (λz=>n2 (OX _ z)) (a.same x o n1 (λz=>n2 (P2 _ z)) q)
 slot:=λx o n2 q=>by
  obtain⟨sl,z⟩:=a.slot x o (λz=>n2 (P2 _ z)) q;obtain⟨sl',z'⟩:=b.slot x _ (λz=>n2 (OX _ z)) z;exact⟨sl',z'⟩
theorem jz.upd:jz S [T] h (h.update T f) where
 same:=λb o _ n q=>by rw[PV _ _ (λz=>n (by rw[z];exact OH.mpr Z))];exact q
 slot:=λb o n q=>⟨o.slots,by rw[PV _ _ (λz=>n (by rw[z];exact OH.mpr Z))];exact q⟩
def tY(h:OR)(x C T:Addr)(dx:Option Addr)(fl:Value):Prop:=
 ∃oe vs oT ts,h.get? x=some oe/\oe.cls=.ref C/\oe.dict=dx/\oe.data=.fields vs/\vs[1]?=some (.ref T)/\T≠x/\h.get? T=some oT/\oT.data=.fields ts/\ts[3]?=some fl
section
variable {M:Model}{A:PB}{E:Value->OI->Prop}{s:OI}{base:OR}{env:XD}{outer:List XD}{L e C T:Addr}{oe:Ql}{vs:Array Value}{dx:Option Addr}{fl:Value}
theorem wR(f:Array Value->Array Value)(o:Ql):(Yb f o).dict=o.dict:=by
 unfold Yb;split<;>rfl
theorem Hw(hfr:A.frames=some (env:: outer))(hl:s.heap.FunFrames base (env:: outer))(hf:env.frame=some L)
  (he:s.heap.get? e=some oe) (hd:oe.data=.fields vs) (hsz:1<vs.size) (hc:oe.cls=.ref C) (hx:oe.dict=dx)
  (h:∀h' T,jz (pX (env:: outer)) [e] s.heap h'->s.heap.get? T=none->tY h' e C T dx (rawInt L)->Q () { s with heap:=h'}):
  OY M A (do let a ←frameOf env;let pl ←entryPlaceOf L hadNext;let b ←EntryCells.newEntry head a .none (rawInt L) .none pl;setField (.ref e) 1 b) Q E s:=by
 have hene:e∉pX (env::outer):=λhm=>by
  obtain⟨_,o,ho,hnf⟩:=hl.mem hm;rw[he] at ho;cases ho;exact hnf vs hd
 refine OE (wpAny_frameOf_fun hfr hl hf λh1 s1=>OE (wpAny_entryPlaceOf λpl hpl=>?_));unfold EntryCells.newEntry newFields;refine OE (P8 ?_ (hpl.sizeOk5 _ _ _ _ _));have he1:h1.get? e=some oe:=(s1.2.1 e hene).trans he;generalize hob:({ cls:=.type "traceback",dict:=none,data:=.fields ([head,.ref L,.none,rawInt L,.none]++(if pl.isEmpty then Pg 6 Qn else pl)).toArray}:Ql)=ob;have he2:=OG (h:=h1) ob he1;refine Uh he2 hd hsz (h _ h1.objs.size ⟨λb o n1 n2 q=>?_,λb o n2 q=>?_⟩ ?_ ?_)
 ·rw[PV _ _ (λz=>n2 (by rw[z];exact OH.mpr Z))];exact OG _ ((s1.2.1 b n1).trans q)
 ·obtain⟨sl,z⟩:=s1.2.2 b o q;refine⟨sl,?_⟩;rw[PV _ _ (λz=>n2 (by rw[z];exact OH.mpr Z))];exact OG _ z
 ·exact Qo (Sd s1.1.symm)
 ·have nT:h1.objs.size≠e:=RL (OW he1);have d3:=SV hd (·.setIfInBounds 1 (O8 h1.objs.size));refine⟨_,_,ob,_,RG _ he2 (Ti d3),(WL _ _).trans hc,(wR _ _).trans hx,d3,by simp[hsz],nT,?_,by rw[←hob],?_⟩
  ·rw[PV _ _ (R9 nT)];exact O4 h1 (by rw[←hob];rfl)
  ·first | (simp;done) | (rcases hpl with rfl | ⟨_,_,_,_,_,_,_,rfl⟩<;>simp)
theorem Dv(t:tY s.heap e C T dx fl)(h:∀h',jz [] [T] s.heap h'->tY h' e C T dx .none->Q () { s with heap:=h'}):OY M A (Yi (.ref e) none) Q E s:=by
 obtain⟨oe,vs,oT,ts,q1,q2,q3,q4,q5,q6,q7,q8,q9⟩:=t;have z3:3<ts.size:=(Ui.mp q9).1;unfold Yi;refine OE (RA q1 q4 q5 ?_);rw[if_pos (by simp)];refine Uh q7 q8 z3 (h _ jz.upd ?_);have d3:=SV q8 (·.setIfInBounds 3 ((none:Option Addr).elim Qn λf=>rawInt f));exact⟨oe,vs,_,_,(PV _ _ q6).trans q1,q2,q3,q4,q5,q6,RG _ q7 (Ti d3),d3,by simp[z3]⟩
theorem JK(hfr:A.frames=some (env:: outer))(hl:s.heap.FunFrames base (env:: outer))(hf:env.frame=some L)(he:s.heap.get? e=some oe)(hd:oe.data=.fields vs)(h1:vs[1]?=some .none)(hc:oe.cls=.ref C)(hx:oe.dict=dx)
  (h:∀h' T,jz (pX (env:: outer)) [e] s.heap h'->s.heap.get? T=none->tY h' e C T dx (rawInt L)->Q () { s with heap:=h'}):OY M A (W6 (.ref e) env) Q E s:=by
 unfold W6;simp only[hf];refine OE (RA he hd h1 ?_);rw[if_neg (by decide)];exact Hw hfr hl hf he hd (Ui.mp h1).1 hc hx h
end
def Kr(d:Addr)(fs:List (Pf×V)):OR->Prop:=λh=>∃mA,h.Ns1 d mA/\∀f,fo (fs.lookup f) (mA f)
def dO(d:Addr)(fs:List (Pf×V)):HO:=.ext (Kr d fs)
theorem EI(e:Kr d fs h):ObjOk P w H h d (dO d fs):=
 ⟨e,let ⟨_,⟨_,_,_,q,_⟩,_⟩:=e;⟨_,q⟩,λ_ _ ⟨mA,n,r⟩ k=>⟨mA,n.at k,r⟩⟩
theorem vS(r:fo a b)(h:b≠none):a≠none:=λz=>by
 subst z
 cases b with
 |none=>exact h Z
 |some _=>exact r.elim
theorem nP{fs:List (Pf×V)}{mA:Pf->Option Value}(r:∀g,fo (fs.lookup g) (mA g))(q:RelV y u):∀g,fo (((f,y):: fs).lookup g) (if g=f then some u else mA g):=λg=>by
 by_cases z:g=f
 ·subst z;rw[if_pos Z,List.lookup_cons_self];exact q
 ·rw[if_neg z,SF,beq_eq_false_iff_ne.mpr z];exact r g
theorem nh{fs:List (Pf×V)}(r:∀g,fo (fs.lookup g) (mA g)):TN mA (fs.map (·.1)):=λg hg=>by
 have z:=vS (r g) hg
 cases q:fs.lookup g with
 |none=>exact absurd q z
 |some v=>
  obtain⟨l1,l2,e,_⟩:=List.lookup_eq_some_iff.mp q;rw[e];simp
section
variable {X:Cx}{pins:List (Addr×Ql)}{σ:L2.St}{H:Hp}{s:OI}{a C:Addr}
theorem setX1(hex:X.ex=[])(I:L2.Inv X pins σ H s)(e:H a=some (jt a C none))(c:m9 X.K C bm)(n:cN X.K C f)(ry:RelV y u)
  (h:∀d s',H d=none->d≠a->L2.Inv X pins σ (upd (upd H a (jt a C (some d))) d (dO d [(f,y)])) s'->Q () s'):OY (O3 X.prog X.w) A (Yn (.ref a) f u) Q E s:=by
 obtain⟨t,hx⟩:=(show ObjOk X.prog X.w H s.heap a (jt a C none) from I.hok a _ e).1;have J:Uc s.heap a _ C none:=⟨hx,Z,Z,trivial⟩;refine Ux I.kIn J c.sa (nI (s:={ s with toks:=s.toks+1}) I.kIn J c n λb=>?_);obtain⟨cd,hc,hd'⟩:=UL c.hd;refine OE (wpAny_pure (OE (OE (Vz hx (OE (SU (s:={ s with toks:=s.toks+1}) (SJ I.kIn hc) ?_))))));rw[hd'];show OY _ _ (alloc { cls:=.type "dict",data:=.dict #[]} >>= λd=>update a (λo=>{ o with dict:=some d}) >>= λ_=>dictMade (.ref C) a d) _ _ _;have la:a<s.heap.objs.size:=OW hx;have nad:s.heap.objs.size≠a:=RL la;have g1:=OG (h:=s.heap) { cls:=.type "dict",data:=.dict #[]} hx;refine OE (wpAny_alloc (OE (wpAny_update g1 ?_)));have g2:=RG (λo=>{ o with dict:=some s.heap.objs.size}) g1 rfl;have e1:((s.heap.push { cls:=.type "dict",data:=.dict #[]}).update a λo=>{ o with dict:=some s.heap.objs.size}).get? s.heap.objs.size=some { cls:=.type "dict",data:=.dict #[]}:=by
  rw[PV _ _ nad.symm];exact O4 s.heap Z
 have e3:((s.heap.push { cls:=.type "dict",data:=.dict #[]}).update a λo=>{ o with dict:=some s.heap.objs.size}).Ns s.heap.objs.size (λ_=>none):=
  ⟨_,#[],_,e1,Z,(λe he=>absurd he (by simp)),λ_=>Z⟩
 have keep:∀b o,b≠a->s.heap.get? b=some o->((s.heap.push { cls:=.type "dict",data:=.dict #[]}).update a λo=>{ o with dict:=some s.heap.objs.size}).get? b=some o:=λb o nb q=>by
  rw[PV _ _ (R9 nb)];exact OG _ q
 refine wpAny_pure (a:=some s.heap.objs.size) (OE (wpAny_pure (OE ?_)));refine Wq (Wr e3) λh' hn2 hs2=>?_
 have rel:∀g,fo ([(f,y)].lookup g) (if g=f then some u else none):=nP (fs:=[]) (mA:=λ_=>none) (λ_=>trivial) ry;obtain⟨oD,esD,epD,hoD,hdD,hcD⟩:=hn2.count (nh rel);refine OE (UM hoD (by rw[hdD];exact UN (O7 hcD (Nat.le_add_left _ _))) ?_);have hno:s.heap.get? s.heap.objs.size=none:=Qo (OC _);have hH:H s.heap.objs.size=none:=B.Inv.none_of I hno;refine wpAny_pure (h s.heap.objs.size _ hH nad ?_);have ga:h'.get? a=some { cls:=.ref C,dict:=some s.heap.objs.size,data:=.fields #[.ref t,.none,.none,.none,.bool false,.none]}:=(hs2.2 a nad.symm).trans g2;have I2:L2.Inv X pins σ (upd H a (jt a C (some s.heap.objs.size))) { s with heap:=h',toks:=s.toks+1+1}:=I.write (x:=a) (e:=a) (o:=jt a C (some s.heap.objs.size)) (h':=h') (by rw[e];trivial) (.inl rfl) (λb o nb q=>by
  have nb2:b≠s.heap.objs.size:=PF (OW q);exact(hs2.2 b nb2).trans (keep b o nb q)) ⟨_,ga⟩ (A9 ⟨t,ga⟩)
 exact B.Inv.adopt I2 (B.Inv.newAt I hex hno) (by rw[au nad];exact hH) hex (EI ⟨_,hn2,rel⟩)
theorem setX2(I:L2.Inv X pins σ H s)(e:H a=some (jt a C (some d)))(ed:H d=some (dO d fs))(hl:fs.length≤100)(c:m9 X.K C bm)(n:cN X.K C f)(ry:RelV y u)
  (h:∀s',L2.Inv X pins σ (upd H d (dO d ((f,y):: fs))) s'->Q () s'):OY (O3 X.prog X.w) A (Yn (.ref a) f u) Q E s:=by
 obtain⟨t,hx⟩:=(show ObjOk X.prog X.w H s.heap a (jt a C (some d)) from I.hok a _ e).1;obtain⟨mA,hn,rel0⟩:=(show ObjOk X.prog X.w H s.heap d (dO d fs) from I.hok d _ ed).1;obtain⟨od,_,_,hod,_⟩:=id hn;have J:Uc s.heap a _ C (some od):=⟨hx,Z,Z,hod⟩;refine Ux I.kIn J c.sa (nI (s:={ s with toks:=s.toks+1}) I.kIn J c n λb=>?_);obtain⟨cd,hc,hd'⟩:=UL c.hd;refine OE (wpAny_pure (OE (OE (Vz hx (OE (SU (s:={ s with toks:=s.toks+1}) (SJ I.kIn hc) ?_))))));rw[hd'];refine wpAny_pure (a:=some d) (OE (wpAny_pure (OE ?_)));refine Wq (s:={ s with toks:=s.toks+1}) hn λh' hn2 hs2=>?_
 have rel:=nP (f:=f) rel0 ry;obtain⟨oD,esD,epD,hoD,hdD,hcD⟩:=hn2.count (nh rel);have hz:esD.size≤101:=by rw[OD,Pu] at hcD;omega
 refine OE (UM hoD (by rw[hdD];exact UN (O7 hz (by decide))) ?_);refine wpAny_pure (h _ ?_);exact I.write (x:=d) (e:=d) (o:=dO d ((f,y)::fs)) (h':=h') (by rw[ed];trivial) (.inl Z) (λb o nb q=>(hs2.2 b nb).trans q) ⟨_,hoD⟩ (EI ⟨_,hn2,rel⟩)
end
section
variable {X:Cx}{o value:PD}{f:Pf}{ta tv:TE}{pos' pos:So}
def Em(K:Oz)(ta tv:TE)(f:Pf):TS:=λD σ H=>tv σ H λy H1=>ta σ H1 λx H2=>∃a C bm,x=.ref a/\m9 K C bm/\cN K C f∧
 ((H2 a=some (jt a C none)/\∀d,H2 d=none->d≠a->D.nx σ (upd (upd H2 a (jt a C (some d))) d (dO d [(f,y)])))∨
  ∃d fs,H2 a=some (jt a C (some d))/\H2 d=some (dO d fs)/\fs.length≤100/\D.nx σ (upd H2 d (dO d ((f,y)::fs))))
theorem CD(hex:X.ex=[])(ha:PE X o ta)(hv:PE X value tv)(hs:Rq value (some (.Attribute o f pos')) pos.line X.env=QP false):PS X (.Assign [.Attribute o f pos'] value pos) (Em X.K ta tv f):=by
 intro pins s σ H D I h;refine Tf (bU (hv pins s σ H _ I h) λu s1 ⟨y,H1,I1,ry,q⟩=>bU (ha pins s1 σ H1 _ I1 q) λov s2 ⟨x,H2,I2,rx,a,C,bm,ex,c,n,q2⟩=>?_) hs;subst ex;obtain rfl:ov=O8 a:=rx;rcases q2 with⟨ea,k⟩ | ⟨d,fs,ea,ed,hl,k⟩
 ·exact B.setX1 hex I2 ea c n ry λd s' hd nd I'=>⟨σ,_,I',k d hd nd⟩
 ·exact B.setX2 I2 ea ed hl c n ry λs' I'=>⟨σ,_,I',k⟩
end
theorem jz.any(k:jz [] ch h h'):jz S ch h h':=⟨λb o _ n q=>k.same b o (λz=>by cases z) n q,k.slot⟩
section
variable {X:Cx}{pins:List (Addr×Ql)}{σ:L2.St}{H:Hp}{s:OI}{a C T:Addr}{dx:Option Addr}{fl:Value}
theorem Inv.leftK(I:L2.Inv X pins σ H s)(hch:∀b∈ch,H b=none/\gm X pins b)(k:jz (pX X.stack) ch s.heap h'):L2.Inv X pins σ H { s with heap:=h',toks:=tk}:=by
 have ES:∀b o,H b=some o->b∉pX X.stack/\b∉ch:=λb o q=>
  ⟨(λz=>by rw[I.stkFree b z] at q;cases q),(λz=>by rw[(hch b z).1] at q;cases q)⟩
 refine I.call' (s':={ s with heap:=h',toks:=tk}) (ch:=ch) rfl ⟨λb o q _ n1 n2=>k.same b o n1 n2 q,λb o q _ n1 n2=>k.slot b o n2 q,λb o _ n _=>n,λb o q n2=>?_,λb xs q=>q,λb o u q=>q,λb ps q=>⟨#[],by rw[Array.append_empty];exact q⟩⟩ (λb o q=>?_) I.bare
  (λb hb=>⟨.inr (hch b hb).2.st,(hch b hb).2.lo,(hch b hb).2.ce,(hch b hb).2.pi⟩)
 ·obtain⟨sl,z⟩:=k.slot b o n2 q;exact⟨_,z⟩
 ·refine(I.hok b o q).stay (λc u hc z=>?_) (λc z=>z) (λc xs z=>z);rcases hc with rfl|hc
  ·obtain⟨n1,n2⟩:=ES _ _ q;exact k.same _ _ n1 n2 z
  ·obtain⟨n1,n2⟩:=ES _ _ hc;exact k.same _ _ n1 n2 z
theorem G4{A:PB}{E':Value->OI->Prop}{Q:OI->Prop}{oe:Ql}(hA:A.frames=X.A.frames)(I:L2.Inv X pins σ H s)(hex:X.ex=[])(hst:X.stack=X.env:: X.outer)(hfr:X.env.frame=some X.env.locals)
  (ha:H a=none) (na:gm X pins a) (hx:s.heap.get? a=some oe) (hd:oe.data=.fields vs) (h1:vs[1]?=some .none) (hc:oe.cls=.ref C) (hdx:oe.dict=dx)
  (h:∀(s':OI) (T:Addr),L2.Inv X pins σ H s'->gm X pins T->H T=none->tY s'.heap a C T dx .none->Q s'):
  OY (O3 X.prog X.w) A (W6 (.ref a) X.env) (λ_ s2=>OY (O3 X.prog X.w) A (Yi (.ref a) none) (λ_ s3=>Q s3) E' s2) E' s:=by
 have hfrm:A.frames=some (X.env::X.outer):=by rw[hA,I.ok.frames,hst]
 refine JK (base:=X.base) hfrm (by rw[←hst];exact I.stack) hfr hx hd h1 hc hdx λh1 T k1 nT t1=>?_
 refine Dv (s:={ s with heap:=h1}) t1 λh2 k2 t2=>?_
 have nt:=B.Inv.newAt I hex nT;have hT:=B.Inv.none_of I nT;rw[←hst] at k1;refine h { s with heap:=h2} T (B.Inv.leftK (tk:=s.toks) I (λb hb=>?_) (k1.trans k2.any)) nt hT t2;simp only[List.cons_append,Xv,OO,Py,or_false] at hb;rcases hb with rfl|rfl
 ·exact⟨ha,na⟩
 ·exact⟨hT,nt⟩
end
def IC(P:Po)(w:PM):rV:=λouter H s E e s'=>∃(x C T:Addr) (dx:Option Addr) (H':Hp),e=.ref x/\s'.os=s.os/\Tt s'.gens/\Un (pX outer) [] H H' s.heap s'.heap/\iz P w H' s'.heap/\s.heap.get? x=none/\s.heap.get? T=none/\H' x=none/\H' T=none∧
 tY s'.heap x C T dx .none/\E (.ref C) dx H'
section
variable {P:Po}{w:PM}{K:Oz}{mg:Pf->Option Value}{base:OR}{N:List Pf}{qual:Pf}{scope:SG}{f:Addr}{cd:Value}{A:PB}{outer:List XD}{s:OI}{H:Hp}{E:XK}
def tZ(X:Cx)(E:XK):Prop:=∀(pins:List (Addr×Ql)) (σ:L2.St) (H:Hp) (s:OI) (a C:Addr) (dx:Option Addr) (oe:Ql) (vs:Array Value),L2.Inv X pins σ H s->H a=none->gm X pins a->s.heap.get? a=some oe->oe.data=.fields vs→
 vs[1]?=some .none->oe.cls=.ref C->oe.dict=dx->E (.ref C) dx H->X.xe (.ref a) s
theorem r9:tZ (bD (IC P w) P w K mg base N qual scope f cd A outer s H E) E:=by
 intro pins σ H1 s1 a C dx oe vs I ha na hx hd h1 hc hdx hE;show OY (O3 P w) _ (leaving _ _) _ _ s1;unfold leaving;refine OE (G4 Z I Z Z Z ha na hx hd h1 hc hdx λs3 T' I3 nT' hT' tr'=>?_);exact⟨a,C,T',dx,H1,Z,I3.os,I3.bare,I3.base,I3.hok,na.st,nT'.st,ha,hT',tr',hE⟩
theorem Fun.okD{x:Pf}{st:Stmt}{fd:OK}{ps:List Pf}{k:Nat}{sp:Sp}(F:Fun K x qual st f fd)(S:aD N ps (ay st))(len:∀vs H Q E,sp vs H Q E->vs.length=ps.length)
  (hbody:∀(cdv:Value) (A:PB) (outer:List XD) (s:OI) (H:Hp) (vs:List V) (Q:VK) (E:XK),cV k (A.deeper (U8 qual (ay st) s.heap.objs.size f cdv))->sp vs H Q E→
   ∃t,rS (bD (IC P w) P w K mg base N qual (ay st) f cdv A outer s H E) (cM st) t/\t { nx:=λ_ H'=>Q .non H',rt:=Q} (i6 N vs) H):bn P w K mg base (IC P w) (k+1) f fd ps sp:=by
 obtain⟨oc,od,kV,doc,pm,an,cdv,ct,osl,rfl,lk,hcd⟩:=F.ex;exact ED lk hcd S len λA outer s H vs Q E hr hsp=>hbody cdv A outer s H vs Q E hr hsp
end
section
variable {X:Cx}{k:Nat}{f C:Addr}{fd:OK}{ps:List Pf}{sp:Sp}{bm:List Value}
def ul(C:Addr)(sp:Sp)(E:XK)(t:TA):TS:=λ_ σ H=>t σ H λvs H1=>vs.length≤sizeLine/\∀a,H1 a=none->sp (.ref a::vs) (upd H1 a (jt a C none)) (λv H2=>v=.non/\∃dx,H2 a=some (jt a C dx)/\E (.ref C) dx (Bh H2 a)) E0
theorem vY{x:Pf}{p cpos pos:So}{e:PD}{es:List PD}{t:TA}{E:XK}(M:XC X.K C f bm)(hbase:bm.contains (.type "BaseException")=true)(hex:X.ex=[])(tk:tZ X E)(F:bn X.prog X.w X.K X.mg X.base dm k f fd ps sp)(hr:cV (k+1) X.A)(hb:aL X.K fd ps [])
  (hg:Gl X x) (hm:X.mg x=some (.ref C)) (ha:PA X (e::es) t) (hdb:(x==("__debug__" : Pf))=false:=by decide) (he:OS (e::es) X.env=(false,eval e X.env)::OS es X.env:=by rfl) (hpl:(Rt cpos (OS es X.env)).any (·.1)=false:=by rfl) :
  PS X (.Raise (some (.Call (.Name x p) (e::es) [] cpos)) none pos) (ul C sp E t):=by
 intro pins s σ H D I h;obtain⟨nm,q,N,bs,hdct,sn,sub,ab,col,dd,k0,k1,k2,k3,k5,lk⟩:=M.ob;rw[arm_exec_Raise];refine OE (Sq (vT (C:=C) (bm:=bm) (nm:=nm) (q:=q) (N:=N) (bs:=bs) (hdct:=hdct) (sn:=sn) (sub:=sub) (ab:=ab) (col:=col) (dd:=dd) (k0:=k0) (k1:=k1) (k2:=k2) (k3:=k3) (k5:=k5) (newId := "ValueError.__new__") hbase hr.hd ?_));refine OE (Qp (Q:=λv s'=>∃a H',v=.ref a/\gm X pins a/\L2.Inv X pins σ H' s'/\∃dx,H' a=some (jt a C dx)/\E (.ref C) dx (Bh H' a)) ?_ (λv s1 h1=>OE (Sq (wpAny_pure ?_))) λ_ _ y=>y)
 ·refine Se (kK I hg hm ?_ hdb);refine Ud (h₀:=X.base) I.ok.mod.kin M.kp (bU (ha cpos pins s σ H _ I h) λus s1 ⟨vs,H1,I1,r,hz,q⟩=>⟨I1.kIn,?_⟩) he hpl;exact Cn M hex F hr hb I1 (us:=[]++us) r (by rw[Xv,←r.length];exact hz) q
 ·obtain⟨a,H',rfl,na,I1,dx,hx,hE⟩:=h1;obtain⟨tt,ho⟩:=(show L2.ObjOk X.prog X.w H' s1.heap a (jt a C dx) from I1.hok a _ hx).1;exact⟨a,tt,dx,Z,I1.kIn _ _ lk,ho,tk pins σ (Bh H' a) s1 a C dx _ _ (B.Inv.forget I1 hx na.st) ju na ho Z Z Z Z hE⟩
end
abbrev RX:=Addr->Option Addr->Hp->Prop
def LU(X:Cx)(pins:List (Addr×Ql))(R:RX):Value->OI->Prop:=λe s=>∃(x C T:Addr) (dx:Option Addr) (H:Hp),e=.ref x/\L2.Inv X pins (JW X.N) H s/\H x=none/\gm X pins x/\H T=none/\gm X pins T/\tY s.heap x C T dx .none/\R C dx H
def Lx(X:Cx)(pins:List (Addr×Ql))(R:RX):Cx:={ X with pn:=X.pn++pins,xe:=LU X pins R}
section
variable {X:Cx}{pins pins':List (Addr×Ql)}{σ:L2.St}{H:Hp}{s:OI}{R:RX}{e:Addr}
def N8(R:RX):XK:=λv dx H=>∃C,v=.ref C/\R C dx H
end
def N6(a C d:Addr):OR->Prop:=λh=>∃oe,h.get? a=some oe/\oe.cls=.ref C/\oe.dict=some d/\PySem.W.notCls oe=true
def J1(a C d:Addr):HO:=.ext (N6 a C d)
def LC(i:Nat)(D:iV):iV:={ nx:=λσ H=>D.nx (σ.set i none) H,rt:=D.rt,bk:=λσ H=>D.bk (σ.set i none) H,ct:=λσ H=>D.ct (σ.set i none) H}
def L3(N:List Pf)(R:RX)(Ok:Addr->Prop)(tb th:TS):TS:=λD σ H=>tb D σ H/\∀C dx H',R C dx H'->Ok C/\th D (JW N) H'
def K4(N:List Pf)(i:Nat)(R:RX)(Ok:Addr->Prop)(tb th:TS):TS:=λD σ H=>tb D σ H/\∀C dx H',R C dx H'->Ok C/\∃d,dx=some d/\∀a,H' a=none->th (LC i D) ((JW N).set i (some (.ref a))) (upd H' a (J1 a C d))
section
variable {X:Cx}{R:RX}{body:List Stmt}{b₀:Stmt}{suite:List Stmt}{x:Pf}{p hpos pos:So}{u:Value}{tb th:TS}
end
def Nz(K:Oz):List V->Hp->VK->Prop:=λxs H Q=>∃(a C d:Addr) (fs:List (Pf×V)) (bm:List Value) (c:V) (b:Bool),xs=[.ref a,c]/\H a=some (J1 a C d)/\H d=some (dO d fs)/\m9 K C bm/\BE K C∧
 ((∃n,c=.ty n/\Sv K (.ref C) (.type n)=some b)∨(∃D,c=.ref D/\Sv K (.ref C) (.ref D)=some b)∨
  ∃(p:Addr) (cs:List Addr),c=.ref p/\H p=some (.tup (cs.map V.ref))/\XX K (.ref C) (cs.map O8)=some b)/\Q (.bl b) H
theorem mJ(h:H a=none)(n:d≠a):Bh (upd (upd (upd H a o) a u) d q) a=upd H d q:=by
 funext b
 by_cases z:b=a
 ·subst z;rw[ju,au n.symm,h]
 ·rw[gX z];by_cases y:b=d
  ·subst y;rw[ag,ag]
  ·rw[au y,au y,au z,au z]
def EO(H:Hp)(a C d:Addr):Prop:=H a=some (J1 a C d)∨H a=some (jt a C (some d))
section
variable {X:Cx}{pins:List (Addr×Ql)}{σ:L2.St}{H:Hp}{s:OI}{a C d:Addr}{fs:List (Pf×V)}
end
def Ma(K:Oz)(ta:TE)(f:Pf):TE:=λσ H Q=>ta σ H λx H1=>∃a C d fs bm v,x=.ref a/\EO H1 a C d/\H1 d=some (dO d fs)/\m9 K C bm/\BE K C/\cN K C f/\fs.lookup f=some v/\Q v H1
def Ny(K:Oz):List V->Hp->VK->Prop:=λxs H Q=>∃(a C d:Addr) (fs:List (Pf×V)) (bm:List Value) (c:V) (b:Bool),xs=[.ref a,c]/\EO H a C d/\H d=some (dO d fs)/\m9 K C bm/\BE K C∧
 ((∃n,c=.ty n/\Sv K (.ref C) (.type n)=some b)∨(∃D,c=.ref D/\Sv K (.ref C) (.ref D)=some b)∨
  ∃(p:Addr) (cs:List Addr),c=.ref p/\H p=some (.tup (cs.map V.ref))/\XX K (.ref C) (cs.map O8)=some b)/\Q (.bl b) H
def K7(C:Addr)(sp:Sp)(t:TA):TE:=λσ H Q=>t σ H λvs H1=>vs.length≤sizeLine/\∀a,H1 a=none->sp (.ref a::vs) (upd H1 a (jt a C none)) (λv H2=>v=.non/\Q (.ref a) H2) E0
theorem oK{X:Cx}{pins:List (Addr×Ql)}{σ:L2.St}{H:Hp}{s:OI}{h':OR}{t':Nat}{fp:List Addr}(I:Inv X pins σ H s)
  (k:∀b o,b∉fp->s.heap.get? b=some o->h'.get? b=some o) (hf:∀b∈fp,gE X pins H b):Inv X pins σ H { s with heap:=h',toks:=t'}:=by
 have off:∀b u,H b=some u->b∉fp:=λb u e z=>by rw[(hf b z).1] at e;cases e
 refine I.step (g':=s.gens) (d':=s.drawn) (ch:=fp) (λb hb=>?_) (λb o _ _ hc e _=>k b o hc e) (λb o _ _ hc e _=>⟨o.slots,k b o hc e⟩) (λ_ _ _ _ n=>n)
  (λb o hc e=>⟨o,k b o hc e⟩) (λ_ _ e=>e) (λ_ _ _ e=>e) (λb ps e=>⟨#[],by rw[e];simp⟩) (λm hm=>?_) (λb u e=>?_) I.bare
 ·obtain⟨_,f1,_,f3,f4,f5⟩:=hf b hb;exact⟨f3,f1,f4,f5⟩
 ·obtain⟨o,es,ep,ho,r⟩:=hm;exact⟨o,es,ep,k _ o (λz=>(hf _ z).2.1 Z) ho,r⟩
 ·refine(I.hok b u e).stay (λc v hc q=>k c v ?_ q) (λ_ q=>q) λ_ _ q=>q
  rcases hc with z|z
  ·rw[z];exact off b u e
  ·exact off c _ z
section
variable {prog:Po}{w:PM}{A:PB}{E:Value->OI->Prop}{s:OI}
theorem C6(a:s.heap.IsTupleIter j t k)(b:s.heap.IsTuple t ys)(c:ys[k]?=some v)
  (g:∀h',h'.IsTupleIter j t (k+1)->Sa j s.heap h'->G v { s with heap:=h'}):OY (O3 prog w) A (RI (.ref j)) G E s:=by
 obtain⟨o,e1,e2,e3⟩:=id a;obtain⟨q,f1,_,n,f2⟩:=b;unfold RI;refine OE (QR (name:=OT "__next__") a.typeIs F.slot_tuple_iterator_next (Ra F.slot_tuple_iterator_next a.typeIs F.entry_tuple_iterator_next ?_ (F.args_tuple_iterator_next_1 _)))
 show OY (O3 prog w) _ (Yq (.ref j) 0 >>= _) _ _ s;refine OE (RA e1 e3 (x:=.ref t) Z ?_);show OY (O3 prog w) _ (if(O8 t==Qn)=true then _ else _) _ _ s;rw[if_neg (λz=>W8 z:¬((O8 t==Qn)=true))];show OY (O3 prog w) _ (Yq (.ref j) 1 >>= _) _ _ s;refine OE (RA e1 e3 (x:=.int k 0) Z ?_);show OY (O3 prog w) _ (seqItems? (.ref t) >>= _) _ _ s;refine OE (wpAny_seqItems f1 f2 ?_);simp only[c,RM];refine OE (Uh e1 e3 (by simp) (wpAny_pure ⟨v,Z,wpAny_pure (g _ ?_ (VT ..))⟩));refine⟨_,RG _ e1 (Ti (SV e3 _)),(WL ..).trans e2,?_⟩;rw[SV e3];simp[rawInt]
theorem AE(hh:A.handled=none)(a:s.heap.IsTupleIter j t k)(b:s.heap.IsTuple t ys)(c:ys[k]?=none)
  (g:∀h' e,OR.ExtBut j s.heap h'->(∃o,h'.get? e=some o/\o.cls=.type "StopIteration")->E (.ref e) { s with heap:=h'}):OY (O3 prog w) A (RI (.ref j)) G E s:=by
 obtain⟨o,e1,e2,e3⟩:=id a;obtain⟨q,f1,_,n,f2⟩:=b;unfold RI;refine OE (QR (name:=OT "__next__") a.typeIs F.slot_tuple_iterator_next (Ra F.slot_tuple_iterator_next a.typeIs F.entry_tuple_iterator_next ?_ (F.args_tuple_iterator_next_1 _)))
 show OY (O3 prog w) _ (Yq (.ref j) 0 >>= _) _ _ s;refine OE (RA e1 e3 (x:=.ref t) Z ?_);show OY (O3 prog w) _ (if(O8 t==Qn)=true then _ else _) _ _ s;rw[if_neg (λz=>W8 z:¬((O8 t==Qn)=true))];show OY (O3 prog w) _ (Yq (.ref j) 1 >>= _) _ _ s;refine OE (RA e1 e3 (x:=.int k 0) Z ?_);show OY (O3 prog w) _ (seqItems? (.ref t) >>= _) _ _ s;refine OE (wpAny_seqItems f1 f2 ?_);simp only[c,RM];refine OE (XM (OE (Uh e1 e3 (by simp) ?_)));show OY (O3 prog w) _ (newExc (.type "StopIteration") [] >>= _) _ _ _;refine OE ?_;simp only[newTuple,newExc];refine OE (P8 ?_ (by size_fits));refine OE (m:=firstArgMember _ _) (wpAny_of_eq (a:=Qn) (by first|rfl | (simp only[firstArgMember]<;>rfl)) ?_);refine P8 ?_ (by size_fits);simp only[raiseNew];refine OE (wpAny_handled ?_)
 first|rw[hh]|rw[show A.in1.handled=none from hh]
 refine OE (wpAny_pure (wpAny_throw (g _ _ (((VT ..).extBut.push _).push _) ⟨_,O4 _ Z,Z⟩)))
structure N5(z TI TO i1 i2:Addr):Prop where
 a1:TI≠z
 a2:TO≠z
 a3:i1≠z
 a4:i2≠z
 a5:TI≠TO
 a6:TI≠i1
 a7:TI≠i2
 a8:TO≠i1
 a9:TO≠i2
 b1:i1≠i2
end
theorem oJ{X:Cx}{pins:List (Addr×Ql)}{σ:L2.St}{H:Hp}{s:OI}{h':OR}{t':Nat}{fp:List Addr}{p:Addr}{v:HO}(I:Inv X pins σ H s)
  (k:∀b o,b∉fp->s.heap.get? b=some o->h'.get? b=some o) (hf:∀b∈fp,gE X pins H b) (hp:s.heap.objs.size≤p) (new:ObjOk X.prog X.w (upd H p v) h' p v) :
  Inv X pins σ (upd H p v) { s with heap:=h',toks:=t'}:=by
 have off:∀b u,H b=some u->b∉fp:=λb u e z=>by rw[(hf b z).1] at e;cases e
 have hn:H p=none:=I.hok.fresh hp;have old:∀b u,H b=some u->upd H p v b=some u:=λb u e=>by rw[au (aC e hn)];exact e
 refine I.step (g':=s.gens) (d':=s.drawn) (ch:=fp) (λb hb=>?_) (λb o _ _ hc e _=>k b o hc e) (λb o _ _ hc e _=>⟨o.slots,k b o hc e⟩) (λb o _ e n=>?_)
  (λb o hc e=>⟨o,k b o hc e⟩) (λb xs e=>old b _ e) (λb o u e=>old b _ e) (λb ps e=>⟨#[],by rw[old b _ e];simp⟩) (λm hm=>?_) (λb u e=>?_) I.bare
 ·obtain⟨_,f1,_,f3,f4,f5⟩:=hf b hb;exact⟨f3,f1,f4,f5⟩
 ·rw[au (PF (O5 (OW e) hp))];exact n
 ·obtain⟨o,es,ep,ho,r⟩:=hm;exact⟨o,es,ep,k _ o (λz=>(hf _ z).2.1 Z) ho,r⟩
 ·by_cases hb:b=p
  ·subst hb;rw[ag] at e;cases e;exact new
  ·rw[au hb] at e;refine(I.hok b u e).stay (λc v hc q=>k c v ?_ q) (λc q=>old c _ q) λc xs q=>old c _ q
   rcases hc with z|z
   ·rw[z];exact off b u e
   ·exact off c _ z
theorem ut{X:Cx}{pins:List (Addr×Ql)}{σ:L2.St}{H:Hp}{s:OI}{a b:Addr}{xs:List V}(I:Inv X pins σ H s)(h:bu X.K H a xs)(f:gE X pins H b):a≠b:=λz=>by
 subst z;rcases h with(h | ⟨o,h⟩) | ⟨o,its,n,hk,_⟩
 ·rw[f.1] at h;cases h
 ·rw[f.1] at h;cases h
 ·have e:=I.ok.mod.kin a o hk;rcases f.2.2.2.1 with z|z
  ·exact I.ok.noex a o e z
  ·rw[(I.ok.bs a o e).1] at z;cases z
def NZ(K:Oz)(a b:Addr):It:=
 ⟨λi H=>∃xs ys x y,bu K H a xs/\bu K H b ys/\xs[i]?=some x/\ys[i]?=some y,
  λi H v H'=>∃p x y,H p=none/\v=.ref p/\H'=upd H p (.tup [x,y])/\(∀xs,bu K H a xs->xs[i]?=some x)/\∀ys,bu K H b ys->ys[i]?=some y,
  λi H=>∃xs ys,bu K H a xs/\bu K H b ys/\(xs.length≤i∨ys.length≤i)⟩
def Oq(z TI TO i1 i2 a b:Addr)(i:Nat)(h:OR):Prop:=IsZip h z TI TO .none/\XY h TI (.ref i1) (.ref i2)/\(∃u v,XY h TO u v)/\h.IsTupleIter i1 a i/\h.IsTupleIter i2 b i
theorem iD{h h':OR}(x:h.IsTupleIter i a n)(k:∀o,h.get? i=some o->h'.get? i=some o):h'.IsTupleIter i a n:=let ⟨o,e,r⟩:=x;⟨o,k o e,r⟩
theorem xP{h h':OR}(x:h.IsTuple a ys)(k:∀o,h.get? a=some o->h'.get? a=some o):h'.IsTuple a ys:=let ⟨o,e,r⟩:=x;⟨o,k o e,r⟩
abbrev zA(h:OR)(a:Addr):OR:=h.push { cls:=.type "tuple_iterator",data:=.fields #[.ref a,.int 0 0]}
abbrev zB(h:OR)(a b:Addr):OR:=zA (zA h a) b
abbrev zC(h:OR)(a b:Addr):OR:=(zB h a b).push { cls:=.type "tuple",data:=.seq #[.ref h.objs.size,.ref (zA h a).objs.size]}
abbrev zD(h:OR)(a b:Addr):OR:=(zC h a b).push { cls:=.type "tuple",data:=.seq #[.none,.none]}
abbrev zE(h:OR)(a b:Addr):OR:=(zD h a b).push { cls:=.type "zip",data:=.fields #[.none,.bool false,.bool false,.ref (zB h a b).objs.size,.ref (zC h a b).objs.size]}
def NH(K:Oz)(ta:TA):TI:=λσ H R=>ta σ H λvs H1=>∃a b,vs=[.ref a,.ref b]/\(∃xs,bu K H1 a xs)/\(∃ys,bu K H1 b ys)/\R (NZ K a b) H1
theorem wQ(hh:A.handled=none)(it a:Addr)(ne:a≠it)(items:Array Value):
  Draws prog w A it [it,a] items.size (λi v=>items[i]?=some v) (λi h=>h.IsTupleIter it a i/\h.IsTuple a items) where
 live:=λ_ _ st=>let ⟨o,ho,_⟩:=st.1;⟨o,ho⟩
 frame:=λ_ _ _ st hk=>⟨iD st.1 λo e=>hk it (by simp) o e,xP st.2 λo e=>hk a (by simp) o e⟩
 item:=λi s Q E hi st hQ=>by
  have hx:items[i]?=some (items[i]'hi):=Array.getElem?_eq_getElem hi;exact C6 st.1 st.2 hx λh' i' sb=>hQ _ h' s.toks hx ⟨i',xP st.2 λo e=>sb.extBut _ _ ne e⟩ sb
 done:=λs Q E st hE=>AE hh st.1 st.2 (by simp) hE
theorem wP(a:Addr)(xs:Array Value):Meets (PH.«enumerate.__new__» ⟨[.type "enumerate",.ref a],[]⟩) (λ_ R s=>s.heap.IsTuple a xs∧
   R (.ok (.ret (.ref (zA s.heap a).objs.size))) { s with heap:=(zA s.heap a).push { cls:=.type "enumerate",data:=.fields #[.none,.bool false,.ref s.heap.objs.size,rawInt 0,.none,.none]} }):=
 .of_wp λprog w A R s h=>by
  obtain⟨hp,g,d,tk,os⟩:=s;obtain⟨hl,h⟩:=h;obtain⟨⟨c,dct,dt,sl⟩,ho,hc,n,hd⟩:=id hl
  replace hc:c=.type "tuple" := hc
  replace hd:dt=.seq xs n:=hd
  subst hc hd;have hsub:=sub_enumerate;have L:OR.IsTuple (OI.heap ⟨hp,g,d,tk,os⟩) a xs:=hl
  wp_walk using RS ho
  refine wpAny_stack_any λst=>wpAny_pure ?_
  split
  ·rename_i c _ _ _ _ _
   cases(c==Su "enumerate")
   ·wp_walk using RS ho,Sc L
    exact⟨_,Z,h⟩
   ·wp_walk using RS ho,Sc L
    exact⟨_,Z,h⟩
  ·wp_walk using RS ho,Sc L
   exact⟨_,Z,h⟩
theorem tS(hL:s.heap.IsTuple a items)
  (h:∀h',IsEnum h' (s.heap.objs.size+1) s.heap.objs.size 0 .none->h'.IsTupleIter s.heap.objs.size a 0->h'.objs.size=s.heap.objs.size+2→ (∀b o,s.heap.get? b=some o->h'.get? b=some o)->Q (.ref (s.heap.objs.size+1)) { s with heap:=h'}):
  OY (O3 prog w) A (call (.type "enumerate") [.ref a]) Q E s:=by
 refine callType_new F.called_enumerate (by decide) (F.typeCall_enumerate_1 _) (F.newCall_enumerate_1 _) (λobj=>F.args_object_init_2 obj _) F.entry_enumerate_new
  (wP a items) ⟨hL,?_⟩
 have hz:(zA s.heap a).objs.size=s.heap.objs.size+1:=Rm ..;show _/\_;rw[hz];have he:IsEnum ((zA s.heap a).push { cls:=.type "enumerate",data:=.fields #[.none,.bool false,.ref s.heap.objs.size,rawInt 0,.none,.none]}) (s.heap.objs.size+1) s.heap.objs.size 0 .none:=by
  have:=O4 (zA s.heap a) (o:={ cls:=.type "enumerate",data:=.fields #[.none,.bool false,.ref s.heap.objs.size,rawInt 0,.none,.none]}) Z;rw[hz] at this;exact this
 refine⟨⟨_,he,Z⟩,h _ he ⟨_,OG _ (O4 _ Z),Z,Z⟩ (by rw[Rm,hz]) λb o x=>OG _ (OG _ x)⟩
theorem uu{X:Cx}{pins:List (Addr×Ql)}{σ:L2.St}{H:Hp}{s:OI}{a b:Addr}{xs:List V}(I:Inv X pins σ H s)(h:aS X.K H a xs)(f:gE X pins H b):a≠b:=λz=>by
 subst z;rcases h with(h | ⟨o,h⟩) | ⟨o,its,n,hk,_⟩
 ·rw[f.1] at h;cases h
 ·rw[f.1] at h;cases h
 ·have e:=I.ok.mod.kin a o hk;rcases f.2.2.2.1 with z|z
  ·exact I.ok.noex a o e z
  ·rw[(I.ok.bs a o e).1] at z;cases z
theorem mj{h h':OR}(x:h.IsListIter i a n)(k:∀o,h.get? i=some o->h'.get? i=some o):h'.IsListIter i a n:=x.at k
def xB(K:Oz)(a:Addr):It:=
 ⟨λi H=>∃xs x,bu K H a xs/\xs[i]?=some x,
  λi H v H'=>∃p x,H p=none/\v=.ref p/\H'=upd H p (.tup [.int i,x])/\∀xs,bu K H a xs->xs[i]?=some x,
  λi H=>∃xs,bu K H a xs/\xs.length≤i⟩
theorem xN{P:Po}{w:PM}{K:Oz}{elts:List PD}{x1}{pos:So}{e it a:Addr}(hei:e≠it) :
  rP P w K (.Tuple elts x1 pos) (xB K a) [e,it] e (λi h=>(∃old,IsEnum h e it (i:Nat) old)/\h.IsTupleIter it a i) where
 mem:=by simp
 obj:=λi h st c hc=>by
  obtain⟨⟨old,h1⟩,⟨o2,h2,c2,d2⟩⟩:=st;simp only[OO,Py,or_false] at hc;rcases hc with rfl|rfl
  ·exact⟨_,h1,λv q=>by cases(show Uu _=VI v from q)⟩
  ·exact⟨o2,h2,λv q=>by rw[d2] at q;cases q⟩
 keep:=λi h h' st k=>by
  obtain⟨⟨old,h1⟩,h2⟩:=st;exact⟨⟨old,k e (by simp) _ h1⟩,iD h2 λo q=>k it (by simp) o q⟩
 item:=by
  intro X hP hw hK hc i pins s σ H E I hf st hg;subst hP hw hK;obtain⟨xs,x,q1,hx⟩:=hg;obtain⟨its,rv,p1,z1⟩:=I.tuple q1;obtain⟨u,hu,ru⟩:=rv.get hx;have off:∀c∈[e,it],a≠c:=λc hc=>ut I q1 (hf c hc)
  obtain⟨⟨old,h1⟩,h2⟩:=st;have hh:X.A.in1.handled=none:=I.ok.hd hc;have na:a≠it:=off it (by simp);have ne:e∉[it,a]:=λq=>by
   simp only[OO,Py,or_false] at q;rcases q with q|q
   ·exact hei q
   ·exact off e (by simp) q.symm
  have hi:i<its.toArray.size:=by have:=(OV.mp hu).1;simpa using this
  have el:e<s.heap.objs.size:=OW h1;have il:it<s.heap.objs.size:=by obtain⟨o2,q2,_⟩:=h2;exact OW q2
  refine UP (wQ hh it a na its.toArray) h1 ⟨h2,p1⟩ hi hei ne λv h' tk hv eo st' tup hz hk=>⟨_,Z,Uj eo λh'' e2 sb=>?_⟩
  have ev:v=u:=by
   have:its.toArray[i]?=some u:=by simpa using hu
   rw[this] at hv;exact(P6 hv).symm
  subst ev;have nt:s.heap.objs.size≠e:=RL el;have ni:s.heap.objs.size≠it:=RL il;have P:ObjOk X.prog X.w (upd H s.heap.objs.size (.tup [.int i,x])) h'' s.heap.objs.size (.tup [.int i,x]):=
   ⟨by show 2≤sizeLine;decide,[.int i tk,v],.cons ⟨_,Z⟩ (.cons ru .nil),⟨_,sb.extBut _ _ nt tup,Z,_,Z⟩⟩
  have I2:Inv X pins σ (upd H s.heap.objs.size (.tup [.int i,x])) { s with heap:=h'',toks:=tk+1}:=oJ I (λc o' n q=>by
   have n1:c≠e:=λr=>n (by simp[r])
   have n2:c≠it:=λr=>n (by simp[r])
   exact sb.extBut _ _ n1 (hk c o' n1 n2 q)) hf (OC _) P
  refine⟨.ref s.heap.objs.size,_,I2,Z,⟨_,x,I.fresh,Z,Z,λys hy=>by rw[I.tuple_inj hy q1];exact hx⟩,⟨⟨_,by simpa using e2⟩,iD st'.1 λo q=>sb.extBut _ _ hei.symm q⟩,λc hc=>?_⟩;have lt:c<s.heap.objs.size:=by
   simp only[OO,Py,or_false] at hc;rcases hc with rfl|rfl
   ·exact el
   ·exact il
  rw[au (PF lt)];exact(hf c hc).1
 done:=by
  intro X hP hw hK hc i pins s σ H E I hf st hg;subst hP hw hK;obtain⟨xs,q1,hx⟩:=hg;obtain⟨its,rv,p1,z1⟩:=I.tuple q1;have off:∀c∈[e,it],a≠c:=λc hc=>ut I q1 (hf c hc)
  obtain⟨⟨old,h1⟩,h2⟩:=st;have hh:X.A.in1.handled=none:=I.ok.hd hc;have hl:=rv.length;have nn:its.toArray[i]?=none:=by rw[Uk];simp;omega
  have hT:s.TypeIs (.ref e) "enumerate" := ⟨_,h1,Z⟩;unfold Yk;refine OE (wpAny_attempt (QR (name:=OT "__next__") hT F.slot_enumerate_next (Ra F.slot_enumerate_next hT F.entry_enumerate_next ?_ (F.args_enumerate_next_1 _))))
  show OY _ _ (Yq (.ref e) 2 >>= _) _ _ _;refine OE (RA h1 Z (x:=.ref it) Z ?_);refine OE (AE hh h2 p1 nn λh' x he' hx'=>?_);obtain⟨o,ho,hcl⟩:=hx';refine OE (W9 (T := "StopIteration") (b:=true) ⟨o,ho,hcl⟩ isSubtype_stop ?_);refine wpAny_pure ⟨Z,?_⟩;exact oK (t':=s.toks) I (λc o' n q=>he' c o' (λr=>n (by simp[r])) q) hf
 self:=λA i s Q E st h=>by
  obtain⟨⟨old,h1⟩,_⟩:=st;exact Tc h1 h
def JU(K:Oz)(ta:TA):TI:=λσ H R=>ta σ H λvs H1=>∃a,vs=[.ref a]/\(∃xs,bu K H1 a xs)/\R (xB K a) H1
theorem CM{X:Cx}{elts:List PD}{x1}{tp p pos:So}{a:PD}{ta:TA}(hg:Gl X "enumerate")(hm:X.mg "enumerate"=none)(ha:PA X [a] ta)(hs:OS [a] X.env=[(false,eval a X.env)]:=by rfl) :
  PI X (.Tuple elts x1 tp) (.Call (.Name "enumerate" p) [a] [] pos) (JU X.K ta):=by
 intro pins s σ H R I h;refine Call_ (gT I hg hm (show Rf "enumerate"=some (.type "enumerate") by kernel_rfl) (Qj (bU (ha pos pins s σ H _ I h) λus s1 ⟨vs,H1,I1,r1,q1⟩=>?_) hs Z));obtain⟨a,e,⟨xs,hx⟩,q⟩:=q1;subst e;obtain⟨u,rfl,ru⟩:=r1.one
 cases ru
 obtain⟨its,_,p1,_⟩:=I1.tuple hx;refine tS p1 λh' he hi sz kk=>Tc he ?_
 have I2:Inv X pins σ H1 { s1 with heap:=h'}:=I1.kept (t':=s1.toks) kk;refine⟨_,[s1.heap.objs.size+1,s1.heap.objs.size],_,_,H1,rfl,I2,xN (a:=a) (Xa _),⟨⟨_,he⟩,hi⟩,λc hc=>?_,q⟩;have le:s1.heap.objs.size≤c:=by
  simp only[OO,Py,or_false] at hc;rcases hc with h|h
  ·rw[h];exact Q3 _
  ·rw[h];exact OC _
 exact I1.fpOk le (I1.hok.fresh le)
theorem A4{K:Oz}{a:Addr}{xs:List V}{g:TG}{tb:TS}{D:iV}{σ:L2.St}{H:Hp}(Pv:Nat->L2.St->Hp->Prop)(h0:Pv 0 σ H)
  (hl:∀i σ H,i≤xs.length->Pv i σ H->bu K H a xs)
  (hs:∀i x p σ H,xs[i]?=some x->Pv i σ H->H p=none->g (.ref p) σ (upd H p (.tup [.int i,x])) λσ2 H2=>tb { D with nx:=Pv (i+1),ct:=Pv (i+1),bk:=D.nx} σ2 H2) (hd:∀σ H,Pv xs.length σ H->D.nx σ H) :
  ∃W:Nat->Nat->L2.St->Hp->Prop,(∃m,W 0 m σ H)/\∀i m σ H,W i m σ H→
   ((xB K a).stop i H/\D.nx σ H)∨((xB K a).go i H/\∃N:L2.St->Hp->Prop,(∀σ' H',N σ' H'->∃m',m'<m/\W (i+1) m' σ' H')/\∀x H',(xB K a).yld i H x H'->g x σ H' λσ2 H2=>tb { D with nx:=N,ct:=N,bk:=D.nx} σ2 H2):=by
 refine⟨λi m σ H=>m=xs.length-i/\i≤xs.length/\Pv i σ H,⟨_,Z,OZ _,h0⟩,?_⟩;rintro i m σ H ⟨rfl,hi,p⟩;have q:=hl i σ H hi p;by_cases hlt:i<xs.length
 ·refine .inr ⟨⟨xs,_,q,OA hlt⟩,Pv (i+1),λσ' H' p'=>⟨xs.length-(i+1),by omega,Z,hlt,p'⟩,λx H' y=>?_⟩;obtain⟨pp,v,hp,rfl,rfl,hv⟩:=y;exact hs i v pp σ _ (hv xs q) p hp
 ·have e:i=xs.length:=by omega
  subst e;exact .inl ⟨⟨xs,q,OC _⟩,hd σ H p⟩
def xC(K:Oz)(a:Addr):It:=
 ⟨λi H=>∃xs x,aS K H a xs/\xs[i]?=some x,
  λi H v H'=>∃p x,H p=none/\v=.ref p/\H'=upd H p (.tup [.int i,x])/\∀xs,aS K H a xs->xs[i]?=some x,
  λi H=>∃xs,aS K H a xs/\xs.length≤i⟩
theorem xO{P:Po}{w:PM}{K:Oz}{elts:List PD}{x1}{pos:So}{e it a:Addr}(hei:e≠it) :
  rP P w K (.Tuple elts x1 pos) (xC K a) [e,it] e (λi h=>(∃old,IsEnum h e it (i:Nat) old)/\h.IsListIter it a i) where
 mem:=by simp
 obj:=λi h st c hc=>by
  obtain⟨⟨old,h1⟩,⟨o2,h2,c2,d2⟩⟩:=st;simp only[OO,Py,or_false] at hc;rcases hc with rfl|rfl
  ·exact⟨_,h1,λv q=>by cases(show Uu _=VI v from q)⟩
  ·exact⟨o2,h2,λv q=>by rw[d2] at q;cases q⟩
 keep:=λi h h' st k=>by
  obtain⟨⟨old,h1⟩,h2⟩:=st;exact⟨⟨old,k e (by simp) _ h1⟩,mj h2 λo q=>k it (by simp) o q⟩
 item:=by
  intro X hP hw hK hc i pins s σ H E I hf st hg;subst hP hw hK;obtain⟨xs,x,q1,hx⟩:=hg;obtain⟨its,rv,p1,z1⟩:=I.list q1;obtain⟨u,hu,ru⟩:=rv.get hx;have off:∀c∈[e,it],a≠c:=λc hc=>uu I q1 (hf c hc)
  obtain⟨⟨old,h1⟩,h2⟩:=st;have hh:X.A.in1.handled=none:=I.ok.hd hc;have na:a≠it:=off it (by simp);have ne:e∉[it,a]:=λq=>by
   simp only[OO,Py,or_false] at q;rcases q with q|q
   ·exact hei q
   ·exact off e (by simp) q.symm
  have hi:i<its.toArray.size:=by have:=(OV.mp hu).1;simpa using this
  have el:e<s.heap.objs.size:=OW h1;have il:it<s.heap.objs.size:=by obtain⟨o2,q2,_⟩:=h2;exact OW q2
  refine UP (Draws.list hh it a na its.toArray) h1 ⟨h2,p1.isList⟩ hi hei ne λv h' tk hv eo st' tup hz hk=>⟨_,Z,Uj eo λh'' e2 sb=>?_⟩
  have ev:v=u:=by
   have:its.toArray[i]?=some u:=by simpa using hu
   rw[this] at hv;exact(P6 hv).symm
  subst ev;have nt:s.heap.objs.size≠e:=RL el;have ni:s.heap.objs.size≠it:=RL il;have P:ObjOk X.prog X.w (upd H s.heap.objs.size (.tup [.int i,x])) h'' s.heap.objs.size (.tup [.int i,x]):=
   ⟨by show 2≤sizeLine;decide,[.int i tk,v],.cons ⟨_,Z⟩ (.cons ru .nil),⟨_,sb.extBut _ _ nt tup,Z,_,Z⟩⟩
  have I2:Inv X pins σ (upd H s.heap.objs.size (.tup [.int i,x])) { s with heap:=h'',toks:=tk+1}:=oJ I (λc o' n q=>by
   have n1:c≠e:=λr=>n (by simp[r])
   have n2:c≠it:=λr=>n (by simp[r])
   exact sb.extBut _ _ n1 (hk c o' n1 n2 q)) hf (OC _) P
  refine⟨.ref s.heap.objs.size,_,I2,Z,⟨_,x,I.fresh,Z,Z,λys hy=>by rw[I.list_inj hy q1];exact hx⟩,⟨⟨_,by simpa using e2⟩,mj st'.1 λo q=>sb.extBut _ _ hei.symm q⟩,λc hc=>?_⟩;have lt:c<s.heap.objs.size:=by
   simp only[OO,Py,or_false] at hc;rcases hc with rfl|rfl
   ·exact el
   ·exact il
  rw[au (PF lt)];exact(hf c hc).1
 done:=by
  intro X hP hw hK hc i pins s σ H E I hf st hg;subst hP hw hK;obtain⟨xs,q1,hx⟩:=hg;obtain⟨its,rv,p1,z1⟩:=I.list q1;have off:∀c∈[e,it],a≠c:=λc hc=>uu I q1 (hf c hc)
  obtain⟨⟨old,h1⟩,h2⟩:=st;have hh:X.A.in1.handled=none:=I.ok.hd hc;have hl:=rv.length;have nn:its.toArray[i]?=none:=by rw[Uk];simp;omega
  have hT:s.TypeIs (.ref e) "enumerate" := ⟨_,h1,Z⟩;unfold Yk;refine OE (wpAny_attempt (QR (name:=OT "__next__") hT F.slot_enumerate_next (Ra F.slot_enumerate_next hT F.entry_enumerate_next ?_ (F.args_enumerate_next_1 _))))
  show OY _ _ (Yq (.ref e) 2 >>= _) _ _ _;refine OE (RA h1 Z (x:=.ref it) Z ?_);refine OE (wpAny_nextOf_list_end hh h2 p1.isList nn λh' x he' hx'=>?_);obtain⟨o,ho,hcl⟩:=hx';refine OE (W9 (T := "StopIteration") (b:=true) ⟨o,ho,hcl⟩ isSubtype_stop ?_);refine wpAny_pure ⟨Z,?_⟩;exact oK (t':=s.toks) I (λc o' n q=>he' c o' (λr=>n (by simp[r])) q) hf
 self:=λA i s Q E st h=>by
  obtain⟨⟨old,h1⟩,_⟩:=st;exact Tc h1 h
def JV(K:Oz)(ta:TA):TI:=λσ H R=>ta σ H λvs H1=>∃a,vs=[.ref a]/\(∃xs,aS K H1 a xs)/\R (xC K a) H1
theorem z9{X:Cx}{elts:List PD}{x1}{tp p pos:So}{a:PD}{ta:TA}(hg:Gl X "enumerate")(hm:X.mg "enumerate"=none)(ha:PA X [a] ta)(hs:OS [a] X.env=[(false,eval a X.env)]:=by rfl) :
  PI X (.Tuple elts x1 tp) (.Call (.Name "enumerate" p) [a] [] pos) (JV X.K ta):=by
 intro pins s σ H R I h;refine Call_ (gT I hg hm (show Rf "enumerate"=some (.type "enumerate") by kernel_rfl) (Qj (bU (ha pos pins s σ H _ I h) λus s1 ⟨vs,H1,I1,r1,q1⟩=>?_) hs Z));obtain⟨a,e,⟨xs,hx⟩,q⟩:=q1;subst e;obtain⟨u,rfl,ru⟩:=r1.one
 cases ru
 obtain⟨its,_,p1,_⟩:=I1.list hx;refine call_enumerate_list p1.isList λh' he hi sz kk=>Tc he ?_
 have I2:Inv X pins σ H1 { s1 with heap:=h'}:=I1.kept (t':=s1.toks) kk;refine⟨_,[s1.heap.objs.size+1,s1.heap.objs.size],_,_,H1,rfl,I2,xO (a:=a) (Xa _),⟨⟨_,he⟩,hi⟩,λc hc=>?_,q⟩;have le:s1.heap.objs.size≤c:=by
  simp only[OO,Py,or_false] at hc;rcases hc with h|h
  ·rw[h];exact Q3 _
  ·rw[h];exact OC _
 exact I1.fpOk le (I1.hok.fresh le)
theorem wO{K:Oz}{a:Addr}{xs:List V}{g:TG}{tb:TS}{D:iV}{σ:L2.St}{H:Hp}(Pv:Nat->L2.St->Hp->Prop)(h0:Pv 0 σ H)
  (hl:∀i σ H,i≤xs.length->Pv i σ H->aS K H a xs)
  (hs:∀i x p σ H,xs[i]?=some x->Pv i σ H->H p=none->g (.ref p) σ (upd H p (.tup [.int i,x])) λσ2 H2=>tb { D with nx:=Pv (i+1),ct:=Pv (i+1),bk:=D.nx} σ2 H2) (hd:∀σ H,Pv xs.length σ H->D.nx σ H) :
  ∃W:Nat->Nat->L2.St->Hp->Prop,(∃m,W 0 m σ H)/\∀i m σ H,W i m σ H→
   ((xC K a).stop i H/\D.nx σ H)∨((xC K a).go i H/\∃N:L2.St->Hp->Prop,(∀σ' H',N σ' H'->∃m',m'<m/\W (i+1) m' σ' H')/\∀x H',(xC K a).yld i H x H'->g x σ H' λσ2 H2=>tb { D with nx:=N,ct:=N,bk:=D.nx} σ2 H2):=by
 refine⟨λi m σ H=>m=xs.length-i/\i≤xs.length/\Pv i σ H,⟨_,Z,OZ _,h0⟩,?_⟩;rintro i m σ H ⟨rfl,hi,p⟩;have q:=hl i σ H hi p;by_cases hlt:i<xs.length
 ·refine .inr ⟨⟨xs,_,q,OA hlt⟩,Pv (i+1),λσ' H' p'=>⟨xs.length-(i+1),by omega,Z,hlt,p'⟩,λx H' y=>?_⟩;obtain⟨pp,v,hp,rfl,rfl,hv⟩:=y;exact hs i v pp σ _ (hv xs q) p hp
 ·have e:i=xs.length:=by omega
  subst e;exact .inl ⟨⟨xs,q,OC _⟩,hd σ H p⟩
section
variable {prog:Po}{w:PM}{A:PB}{E:Value->OI->Prop}
end
def NI(K:Oz)(n:Nat)(t:xp):TG:=λv σ H Q=>∃a xs,v=.ref a/\aS K H a xs/\xs.length=n/\t xs σ H Q
section
variable {prog:Po}{w:PM}{A:PB}{E:Value->OI->Prop}{s:OI}
open HT in
theorem qm{t sl:Addr}{items:Array Value}{vl vu:Value}{lo hi:Option Int}{Q:Value->OI->Prop}(ht:XF s.heap t items)(hs:s.heap.IsSliceOf sl vl vu .none)(pl:Vb vl lo)(pu:Vb vu hi)
  (h1:sIx items.size 0 lo=0) (h2:sIx items.size items.size hi=items.size) (h:Q (.ref t) s):OY (O3 prog w) A (S2 (.ref t) (.ref sl)) Q E s:=by
 obtain⟨os,hos,hcs,hds⟩:=id hs;have hTs:s.TypeIs (.ref sl) "slice" := ⟨os,hos,hcs⟩;unfold S2
 try with_reducible refine wpAny_holding ?_
 first|refine OE (wpAny_pure ?_)|skip
 refine OE (Wz ht.typeIs (by decide) ?_);refine OE (QR (name:=OT "__getitem__") ht.typeIs P9 (Ra P9 ht.typeIs VR ?_ (We _ _)))
 show OY _ _ (Uf (.ref t) >>= _) _ _ s;refine OE (tupleItemsOf_ ht ?_);refine OE (Vc hTs ?_);rw[if_pos (by decide)];refine OE (gc hs pl pu ?_);have hyes:((((sIx items.size 0 lo:Nat):Int)==0&&(1:Int)==1&&(sIx items.size items.size hi-sIx items.size 0 lo)==items.size)=true):=by
  rw[h1,h2];simp
 show OY _ _ (if(((sIx items.size 0 lo:Nat):Int)==0&&(1:Int)==1&&(sIx items.size items.size hi-sIx items.size 0 lo)==items.size)=true then _ else _) _ _ s;rw[if_pos hyes];refine OE ?_;unfold PH.Tuple.tupleIsExact;refine OE (Vc ht.typeIs ?_);refine wpAny_pure ?_;rw[if_pos (by decide)];exact OE (XM (wpAny_pure ⟨_,Z,wpAny_pure h⟩))
end
def Jh(K:Oz):V->Option Int->Option Int->Hp->VK->Prop:=λx lo hi H Q=>∃a xs,x=.ref a/\bu K H a xs/\HT.sIx xs.length 0 lo=0/\HT.sIx xs.length xs.length hi=xs.length/\Q (.ref a) H
theorem Ch:BB X (Jh X.K):=by
 intro pins s σ H x v vl vu lo hi sl Q I rx hs pl pu h;obtain⟨a,xs,rfl,hx,h1,h2,q⟩:=h
 cases rx
 obtain⟨its,r,ht,hz⟩:=I.tuple hx;have hlen:its.toArray.size=xs.length:=by rw[Ph];exact r.length.symm
 refine⟨"tuple",_,P9.lookup,ht.typeIs,?_⟩;exact qm ht hs pl pu (by rw[hlen];exact h1) (by rw[hlen];exact h2) ⟨.ref a,H,I,Z,q⟩
theorem Cj:BB X (λx lo hi H Q=>Jh X.K x lo hi H Q∨Ji X.K x lo hi H Q):=BB.or Ch E6
end B
namespace B
theorem Hc(hb:0<b)(hd:0<d)(e:a*d=c*b):fc a b=fc c d:=by
 have hr:=hJ (a:=c) hd;have hc:=nV (a:=c) hd;generalize fc c d=m at hr hc ⊢;refine fK hb hr.pos hr.cop ?_;refine Sx (show d≠0 by omega) ?_;have e1:m.1*b*d=m.1*d*b:=by ac_rfl
 have e2:a*m.2*d=a*d*m.2:=by ac_rfl
 rw[e1,hc,e2,e]
 ac_rfl
structure Bq(D N:Nat)(r:R):Prop where
 pos:0<r.2
 cop:O0 r.1 r.2=1
 dvd:r.2∣(D:Int)
 le:r.1.natAbs≤N*r.2.natAbs
theorem Bq.red(h:Bq D N r):fY r:=⟨h.pos,h.cop⟩
theorem vc{D N:Nat}{a b:Int}(hb:0<b)(hd:b∣(D:Int))(hl:a.natAbs≤N*b.natAbs):Bq D N (fc a b):=by
 obtain⟨g,x,y,e0,gp,e1,e2,c⟩:=fu (a:=a) hb;have yp:=iR hb gp e2;have e:fc a b=(x,y):=by
  unfold fc;rw[e0,show a/g=x by rw[e1];exact Pa _ (by omega),show b/g=y by rw[e2];exact Pa _ (by omega)]
 rw[e];refine⟨yp,c,SQ ⟨g,by rw[e2,RO]⟩ hd,?_⟩;rw[e1,e2,Ro,Ro] at hl;have gn:0<g.natAbs:=by omega
 refine Nat.le_of_mul_le_mul_left (c:=g.natAbs) ?_ gn;show g.natAbs*x.natAbs≤g.natAbs*(N*y.natAbs);rw[Nat.mul_left_comm];exact hl
theorem Bq.mono(h:Bq D N r)(hd:D∣D')(hn:N≤N'):Bq D' N' r:=
 ⟨h.pos,h.cop,SQ h.dvd (Int.ofNat_dvd.mpr hd),O7 h.le (Rp _ hn)⟩
theorem Bq.plus(hD:0<D)(h:Bq D N r)(k:Bq D M q):Bq D (N+M) (bY r q):=by
 obtain⟨y,ey⟩:=h.dvd;obtain⟨v,ev⟩:=k.dvd;have dp:(0:Int)<(D:Int):=by omega
 have e:bY r q=fc (r.1*y+q.1*v) (D:Int):=by
  unfold bY;refine Hc (Qf h.pos k.pos) dp ?_;rw[VD,VD];have a1:r.1*q.2*(D:Int)=r.1*y*(r.2*q.2):=by rw[ey];ac_rfl
  have a2:q.1*r.2*(D:Int)=q.1*v*(r.2*q.2):=by rw[ev];ac_rfl
  rw[a1,a2]
 rw[e];refine vc dp (Vh _) ?_;have b1:(r.1*y).natAbs≤N*D:=by
  have:(D:Int).natAbs=r.2.natAbs*y.natAbs:=by rw[ey,Ro]
  rw[Ro];have z:=Rp y.natAbs h.le;rw[V3,←this] at z
  simpa using z
 have b2:(q.1*v).natAbs≤M*D:=by
  have:(D:Int).natAbs=q.2.natAbs*v.natAbs:=by rw[ev,Ro]
  rw[Ro];have z:=Rp v.natAbs k.le;rw[V3,←this] at z
  simpa using z
 have b3:=Int.natAbs_add_le (r.1*y) (q.1*v);have b4:(D:Int).natAbs=D:=SW D;rw[b4,Xj];omega
theorem Bq.neg(h:Bq D N r):Bq D N (-r.1,r.2):=⟨h.pos,by show O0 (-r.1) r.2=1;rw[Int.neg_gcd];exact h.cop,h.dvd,by show(-r.1).natAbs≤_;rw[XZ];exact h.le⟩
theorem Bq.minus(hD:0<D)(h:Bq D N r)(k:Bq D M q):Bq D (N+M) (aY r q):=by
 rw[←qY];exact h.plus hD k.neg
theorem Bq.times(h:Bq D N r)(k:Bq E M q):Bq (D*E) (N*M) (fT r q):=by
 refine vc (Qf h.pos k.pos) ?_ ?_
 ·rw[TF];exact Int.mul_dvd_mul h.dvd k.dvd
 ·rw[Ro,Ro];have z:=Nat.mul_le_mul h.le k.le
  calc r.1.natAbs*q.1.natAbs≤N*r.2.natAbs*(M*q.2.natAbs):=z
   _=N*M*(r.2.natAbs*q.2.natAbs):=by ac_rfl
theorem De(ha:0<a)(hb:0<b):0<(fc a b).1:=Sw ha (QN (b6 hb)) (W7 a b)
theorem Bq.bot(hD:0<D)(h:Bq D N r):r.2.natAbs≤D:=by
 have:=Tj.mpr h.dvd;rw[SW] at this;exact V4 hD this
theorem Bq.wf(h:Bq D N r)(hD:0<D)(h1:D<2^n)(h2:N*D<2^n):Wf n r:=
 ⟨h.pos,PN (O7 h.le (RW _ (h.bot hD))) h2,PN (h.bot hD) h1,h.cop⟩
theorem AL:cD r q=true↔r.1*q.2<q.1*r.2:=by unfold cD;exact decide_eq_true_iff
theorem rc:cD r q=false↔q.1*r.2≤r.1*q.2:=by unfold cD;rw[decide_eq_false_iff_not,Int.not_lt]
theorem AH(ha:0≤a):0≤(fc a b).1:=Sk ha (by omega)
theorem CJ(hr:fY r)(hq:fY q)(h1:0≤r.1)(h2:0≤q.1):0≤(bY r q).1:=
 AH (Int.add_nonneg (VE h1 (QN hq.pos)) (VE h2 (QN hr.pos)))
end B
namespace B
open PySem PySem.Spec L2 PyProof.Rows
inductive Rl where
 |pow (k:Int)
 |tab (rows:List (R×R))
def sO:R×R:=((0,1),(0,1))
def E5(lo hi:R×R):R:=JB (aY hi.2 lo.2) (aY hi.1 lo.1)
def KB(rows:List (R×R))(k:Nat):R:=E5 (rows.getD k sO) (rows.getD (k+1) sO)
def JA(rows:List (R×R))(s:R):Nat:=rows.countP λr=>cD r.1 s
def Jq(rows:List (R×R))(s:R):Nat:=rows.countP λr=>!cD s r.1
def JO(rows:List (R×R))(s:R):R:=if JA rows s=0 then(0,1) else KB rows (JA rows s-1)
def FL(rows:List (R×R))(s:R):Option R:=if Jq rows s<rows.length then some (KB rows (Jq rows s-1)) else none
def Jt(k:Int)(s:R):R:=fT (k,1) (Ju s (k-1).toNat)
def KC:Rl->R->R×Option R
 | .pow k,s=>(Jt k s,some (Jt k s))
 | .tab rows,s=>(JO rows s,FL rows s)
def N3(rows:List (R×R)):Prop:=rows.Pairwise λa b=>cD a.1 b.1=true
def Oa(rows:List (R×R)):Prop:=∀r∈rows,0<r.1.2
abbrev D0:Nat:=5822723907000000000
abbrev N0:Nat:=1000000007
abbrev N1:Nat:=17179869184
abbrev NR:Nat:=11000000077
abbrev N2:Nat:=1180591620717411303424
structure HV(rows:List (R×R)):Prop where
 n2:2≤rows.length
 n12:rows.length≤12
 inc:N3 rows
 zero:∃y,rows[0]?=some ((0,1),y)
 sp:∀r∈rows,Bq D0 NR r.1
 pw:∀r∈rows,Bq (D0*D0) N2 r.2
def NU:Rl->Prop
 | .pow k=>2≤k/\k≤4
 | .tab rows=>HV rows
structure NS(s:R):Prop where
 bq:Bq (D0*2) N1 s
 nn:0≤s.1
def M0:Rl->R->Prop
 | .pow _,_=>True
 | .tab rows,s=>∃r,rows[rows.length-1]?=some r/\cD r.1 s=false
def Om(rows:List (R×R))(s:R)(i:Nat):R:=if 0<JA rows s/\JA rows s-1<i then KB rows (JA rows s-1) else(0,1)
def Oj(rows:List (R×R))(s:R)(i:Nat):Option R:=if 0<Jq rows s/\Jq rows s-1<i then some (KB rows (Jq rows s-1)) else none
def Mu(k:Int)(s:R)(j:Nat):R:=fc (k*s.1^j) (s.2^j)
def MJ(l:R)(r:Option R)(g:R):Bool:=!cD g l&&(match r with|none=>true|some x=>!cD x g)
end B
namespace B
def val(r:R):Rat:=(r.1:Rat)/(r.2:Rat)
theorem cI{b:Int}(h:0<b):(b:Rat)≠0:=λz=>by
 have:b=0:=Vs.mp (by rw[z];rfl);omega
theorem EQ{r:R}{a b:Int}(hr:0<r.2)(hb:(b:Rat)≠0)(h:r.1*b=a*r.2):val r=(a:Rat)/(b:Rat):=by
 have h2:(r.1:Rat)*(b:Rat)=(a:Rat)*(r.2:Rat):=by rw[←PJ,←PJ,h]
 have h1:=cI hr;unfold val;generalize (r.1:Rat)=x at *;generalize (r.2:Rat)=y at *;generalize (a:Rat)=u at *;generalize (b:Rat)=v at *;grind
theorem jF(hb:0<b):val (fc a b)=(a:Rat)/(b:Rat):=EQ (hJ hb).pos (cI hb) (nV hb)
theorem iW(hr:0<r.2)(hq:0<q.2):val (bY r q)=val r+val q:=by
 unfold bY;rw[jF (Qf hr hq)];have h1:=cI hr;have h2:=cI hq;unfold val;rw[TH,PJ,PJ,PJ];generalize (r.1:Rat)=x at *;generalize (r.2:Rat)=y at *;generalize (q.1:Rat)=u at *;generalize (q.2:Rat)=v at *;grind
theorem eD(hr:0<r.2)(hq:0<q.2):val (aY r q)=val r-val q:=by
 unfold aY;rw[jF (Qf hr hq)];have h1:=cI hr;have h2:=cI hq;unfold val;rw[Rat.intCast_sub,PJ,PJ,PJ];generalize (r.1:Rat)=x at *;generalize (r.2:Rat)=y at *;generalize (q.1:Rat)=u at *;generalize (q.2:Rat)=v at *;grind
theorem vA(hr:0<r.2)(hq:0<q.2):val (fT r q)=val r*val q:=by
 unfold fT;rw[jF (Qf hr hq)];have h1:=cI hr;have h2:=cI hq;unfold val;rw[PJ,PJ];generalize (r.1:Rat)=x at *;generalize (r.2:Rat)=y at *;generalize (q.1:Rat)=u at *;generalize (q.2:Rat)=v at *;grind
theorem gx(hr:fY r)(hq:fY q)(h:val r=val q):r=q:=by
 have h1:=cI hr.pos;have h2:=cI hq.pos;have e:r.1*q.2=q.1*r.2:=by
  refine Vs.mp ?_;rw[PJ,PJ];unfold val at h;generalize (r.1:Rat)=x at *;generalize (r.2:Rat)=y at *;generalize (q.1:Rat)=u at *;generalize (q.2:Rat)=v at *;grind
 have e1:fc r.1 r.2=(r.1,r.2):=fK hr.pos hr.pos hr.cop Z;have e2:fc r.1 r.2=(q.1,q.2):=fK hr.pos hq.pos hq.cop e.symm;exact e1.symm.trans e2
theorem f6(hr:0<r.2):val r=0↔r.1=0:=by
 have h1:=cI hr;unfold val;constructor
 ·intro h;refine Vs.mp ?_;show(r.1:Rat)=((0:Int):Rat);rw[show((0:Int):Rat)=0 from Z];generalize (r.1:Rat)=x at *;generalize (r.2:Rat)=y at *;grind
 ·intro h;rw[h];show((0:Int):Rat)/_=0;rw[show((0:Int):Rat)=0 from Z];generalize (r.2:Rat)=y at *;grind
end B
namespace B
def Oh(rows:List (R×R))(i:Nat):Rat:=(val (rows.getD (i+1) sO).2-val (rows.getD i sO).2)/(val (rows.getD (i+1) sO).1-val (rows.getD i sO).1)
section
variable {s p:Nat->Rat}{n:Nat}
def sl(s p:Nat->Rat)(i:Nat):Rat:=(p (i+1)-p i)/(s (i+1)-s i)
end
end B
namespace B
open PySem PySem.Spec L2 PyProof.Rows
structure QE(X:Cx)(e:PD)(t:TE):Prop where
 p:PE X e t
structure QT(X:Cx)(e:PD)(t:TT):Prop where
 p:PT X e t
structure QW(X:Cx)(e:PD)(t:TT):Prop where
 p:PW X e t
structure QA(X:Cx)(es:List PD)(t:TA):Prop where
 p:PA X es t
structure QS(X:Cx)(st:Stmt)(t:TS):Prop where
 p:PS X st t
structure cZ(X:Cx)(st:List Stmt)(t:TS):Prop where
 p:rS X st t
structure QI(X:Cx)(tg iter:PD)(wi:TI):Prop where
 p:PI X tg iter wi
structure QG(X:Cx)(target:PD)(t:TG):Prop where
 p:PG X target t
structure Kg(X:Cx)(ts:List PD)(t:xp):Prop where
 p:IA X ts t
theorem cZ.ok(h:cZ X b t)(r:t D σ H):∃t:TS,rS X b t/\t D σ H:=⟨t,h.p,r⟩
structure QO(X:Cx)(o:Option PD)(t:L2.TO):Prop where
 p:PO X o t
section
set_option autoImplicit true
set_option relaxedAutoImplicit true
theorem qv(i:Nat){x:Pf}{pos:So}(hN:X.N[i]?=some x:=by rfl)(hv:J9 X.env.scope x:=by first|exact Pq Z|exact Pp (Pq Z)|exact Pp (Pp Z))(hd:(x==("__debug__" : Pf))=false:=by decide)(hcd:(x==("__classdict__" : Pf))=false:=by decide):QE X (.Name x pos) (xS i):=⟨pv i hN hv hd hcd⟩
theorem aj{i j pos}:QE X (.Constant (.int i) j pos) (tC (.int i)):=⟨Gm ⟩
theorem gP{b j pos}:QE X (.Constant (.bool b) j pos) (tC (.bl b)):=⟨Jz ⟩
theorem zR{j pos}:QE X (.Constant .none j pos) (tC .non):=⟨Gj ⟩
theorem bB{x j pos}:QE X (.Constant (.str x) j pos) (tC (.str x)):=⟨Gg ⟩
theorem dJ{x:Pf}{v:V}{u:Value}{pos:So}(hg:Gl X x)(hm:X.mg x=some u)(r:RelV v u)(hd:(x==("__debug__" : Pf))=false:=by decide):QE X (.Name x pos) (tC v):=⟨CT hg hm r hd⟩
theorem pG{x:Pf}{v:V}{u:Value}{pos:So}(hg:Gl X x)(hm:X.mg x=none)(hv:Rf x=some u)(r:RelV v u)(hn:x ≠ "__name__" := by decide)(hd:(x==("__debug__" : Pf))=false:=by decide):QE X (.Name x pos) (tC v):=⟨CZ hg hm hv r hn hd⟩
theorem qP(ho:KN X (unaryOp op) r)(ha:QE X a ta):QE X (.UnaryOp op a pos) (L1 r ta):=⟨Jv ho ha.p⟩
theorem FY(ha:QE X a ta):QE X (.UnaryOp .Not a pos) (D7 ta):=⟨Gi ha.p⟩
theorem aJ(ho:ib X (Sj op) r)(ha:QE X a ta)(hb:QE X b tb):QE X (.BinOp a op b pos) (BW r ta tb):=⟨Jw ho ha.p hb.p⟩
theorem jR{op}(h:QE X a t):QE X (.BoolOp op [a] pos) t:=⟨Gh h.p⟩
theorem jS{cP:List PD}(ha:QE X a ta)(hb:QE X (.BoolOp .And (b::cP) pos) tb):QE X (.BoolOp .And (a::b::cP) pos) (Ef ta tb):=⟨Go ha.p hb.p⟩
theorem fj(ho:ib X (Qs op) r)(ha:QE X a ta)(hb:QE X b tb)(hm:SK op b=false):QE X (.Compare a [op] [b] pos) (BW r ta tb):=⟨CW ho ha.p hb.p hm⟩
theorem qS{op op':Yp}{r r':R2}(ho:ib X (Qs op) r)(ho':ib X (Qs op') r')(ha:QE X a ta)(hb:QE X b tb)(hc:QE X c tc)(hm:lastMarks [op,op'] [b,c]=false:=by with_unfolding_all rfl):QE X (.Compare a [op,op'] [b,c] pos) (xW r r' ta tb tc):=⟨Ak ho ho' ha.p hb.p hc.p hm⟩
theorem l6(hc:QT X c tA)(ha:QE X a ta)(hb:QE X b tb):QE X (.IfExp c a b pos) (L9 tA ta tb):=⟨Ah hc.p ha.p hb.p⟩
theorem bA(h:QA X es t):QE X (.List es pos) (IQ t):=⟨Gk h.p⟩
theorem bS{x1}(h:QA X es t):QE X (.Tuple es x1 pos) (IL t):=⟨Gf h.p⟩
theorem zQ{lo hi:Option PD}{r:V->Option Int->Option Int->Hp->VK->Prop}(hr:BB X r)(he:QE X e te)(hl:QO X lo tl)(hu:QO X hi th):QE X (.Subscript e (.Slice lo hi none p2) pos) (L4 r te tl th):=⟨Ac hr he.p hl.p hu.p⟩
theorem uG(h:QE X e te):QO X (some e) (D6 te):=⟨CI h.p⟩
theorem bI(hr:Ic X r)(ha:QE X a ta)(hb:QE X b tb)(hs:p7 b):QE X (.Subscript a b pos) (BW r ta tb):=⟨Jx hr ha.p hb.p hs⟩
theorem uI(F:bn X.prog X.w X.K X.mg X.base CX k f fd ps sp)(hr:cV k X.A)(hg:Gl X x)(hm:X.mg x=some (.ref f))(hk:QF X.K (.ref f)=true)(hb:aL X.K fd ps ds)(hd:be dvs ds)(hx:ff CX X E)(ha:QA X (e::es) t)(hdb:(x==("__debug__" : Pf))=false:=by decide)(he:OS (e::es) X.env=(false,eval e X.env)::OS es X.env:=by rfl)(hpl:(Rt pos (OS es X.env)).any (·.1)=false:=by rfl):QE X (.Call (.Name x p) (e::es) [] pos) (xX sp dvs E t):=⟨CY F hr hg hm hk hb hd hx ha.p hdb he hpl⟩
theorem aN{id:String}(hc:dH X (.builtin id) r)(hg:Gl X x)(hm:X.mg x=none)(hv:Rf x=some (.builtin id))(ha:QA X (e::es) t)(hn:x ≠ "__name__" := by decide)(hdb:(x==("__debug__" : Pf))=false:=by decide)(he:OS (e::es) X.env=(false,eval e X.env)::OS es X.env:=by rfl)(hpl:(Rt pos (OS es X.env)).any (·.1)=false:=by rfl):QE X (.Call (.Name x p) (e::es) [] pos) (Kw r t):=⟨Al hc hg hm hv ha.p hn hdb he hpl⟩
theorem bC(hc:dH X (.type T) r)(hg:Gl X x)(hm:X.mg x=none)(hv:Rf x=some (.type T))(ha:QA X (e::es) t)(hn:x ≠ "__name__" := by decide)(hdb:(x==("__debug__" : Pf))=false:=by decide)(he:OS (e::es) X.env=(false,eval e X.env)::OS es X.env:=by rfl)(hpl:(Rt pos (OS es X.env)).any (·.1)=false:=by rfl):QE X (.Call (.Name x p) (e::es) [] pos) (Kw r t):=⟨we hc hg hm hv ha.p hn hdb he hpl⟩
theorem eQ{id:String}(pa:PlainAttrs T)(slot:Slot T name id)(hty:typeOf (.builtin id)=QP (.type "method_descriptor"))(hm:MT X id r)(ho:QE X o to)(ha:QA X (e::es) t)(hbase:Rz o name X.env (eval o X.env)=eval o X.env:=by rfl) (hfew:((Rt cpos (OS (e::es) X.env)).all (λx=>!x.1)&&(Tw cpos (R5 [] X.env)).all (λx=>x.1.isSome)
  &&decide ((e::es).length+([]:List TU).length+(if([]:List TU).isEmpty then 0 else 1)<30))=true:=by rfl) (hline:(apos.endLine==cpos.line)=true:=by rfl) (hs:OS (e::es) X.env=(false,eval e X.env)::OS es X.env:=by rfl) (hplain:(Rt cpos (OS es X.env)).any (·.1)=false:=by rfl):QE X (.Call (.Attribute o name apos) (e::es) [] cpos) (Mb X.K T r to t):=⟨Jy pa slot hty hm ho.p ha.p hbase hfew hline hs hplain⟩
theorem ai   : QA X [] vD:=⟨Gp ⟩
theorem ae(ha:QE X e te)(hr:QA X es t)(hs:OS (e::es) X.env=(false,eval e X.env)::OS es X.env:=by rfl):QA X (e::es) (Ee te t):=⟨C0 ha.p hr.p hs⟩
theorem aU(ho:ib X (Qs op) r)(ha:QE X a ta)(hb:QE X b tb)(hm:SK op b=false):QT X (.Compare a [op] [b] pos) (DZ (BW r ta tb)):=⟨Cz ho ha.p hb.p hm⟩
theorem cT{e:PD}{t:TE}(h:QE X e t)(he:∀whole,isTrue e X.env whole=(do let v ←whole;U2 e.pos;holding [v] (truthy v)):=by intro _;rfl):QT X e (tB t):=⟨F1 h.p he⟩
theorem e9(ha:QT X a tA):QT X (.UnaryOp .Not a pos) (IP tA):=⟨F2 ha.p⟩
theorem lZ{cP:List PD}(ha:QT X a tA)(hb:QW X (.BoolOp .And (b::cP) pos) tB'):QW X (.BoolOp .And (a::b::cP) pos) (IV tA tB'):=⟨F0 ha.p hb.p⟩
theorem pE(ha:QT X a tA):QW X (.BoolOp .And [a] pos) tA:=⟨Cu ha.p⟩
theorem uD{cP:List PD}(ha:QT X a tA)(hb:QW X (.BoolOp .Or (b::cP) pos) tB'):QW X (.BoolOp .Or (a::b::cP) pos) (L7 tA tB'):=⟨Jr ha.p hb.p⟩
theorem sR(ha:QT X a tA):QW X (.BoolOp .Or [a] pos) tA:=⟨FZ ha.p⟩
theorem nQ(h:QW X e t):QT X e t:=⟨PW.pt h.p⟩
theorem FU{i:Nat}{x:Pf}{e:PD}{te:TE}{pos':So}(hN:X.N.Nodup)(hi:X.N[i]?=some x)(hx:xx X.env.scope x)(he:QE X e te)(hs:Rq e (some (.Name x pos')) pos.line X.env=QP false:=by rfl)(hf:X.fn x=true∨X.env.scope.names.lookup x=some .local:=by first|exact .inl Z|exact .inr Z|assumption):QS X (.Assign [.Name x pos'] e pos) (oO te (jq i)):=⟨F3 hN hi hx he.p hs hf⟩
theorem zN{i j:Nat}{x y:Pf}{a b:PD}{ta:TA}{px py pt:So}{kt k2 pt2}(hc:X.calm=true)(hN:X.N.Nodup)(hi:X.N[i]?=some x)(hj:X.N[j]?=some y)(hij:i≠j)(hx:X.env.scope.names.lookup x=some .local)(hy:X.env.scope.names.lookup y=some .local)(ha:QA X [a,b] ta)(hw:UE [.Tuple [.Name x px,.Name y py] kt pt] (.Tuple [a,b] k2 pt2) X.env=QP (some [x,y]))(hs:UD [.Tuple [.Name x px,.Name y py] kt pt] (.Tuple [a,b] k2 pt2) pos.line X.env=QP false:=by rfl):QS X (.Assign [.Tuple [.Name x px,.Name y py] kt pt] (.Tuple [a,b] k2 pt2) pos) (IN i j ta):=⟨F5 hc hN hi hj hij hx hy ha.p hw hs⟩
theorem jQ{tg e:PD}{te:TE}{g:TG}(he:QE X e te)(hg:QG X tg g)(hs:UD [tg] e pos.line X.env=QP false:=by rfl)(hw:UE [tg] e X.env=QP none:=by rfl)(h1:(QY [tg] X.env).map (·.2)=[Tn tg X.env]:=by rfl):QS X (.Assign [tg] e pos) (oO te g):=⟨F9 he.p hg.p hs hw h1⟩
theorem FW{i:Nat}{x:Pf}{e:PD}{te:TE}{op:XI}{ti:Iy}{pos':So}(hN:X.N.Nodup)(hi:X.N[i]?=some x)(hx:xx X.env.scope x)(he:QE X e te)(ho:LO X op ti)(hf:X.fn x=true∨X.env.scope.names.lookup x=some .local:=by first|exact .inl Z|exact .inr Z|assumption):QS X (.AugAssign (.Name x pos') op e pos) (IU i te ti):=⟨F8 hN hi hx he.p ho hf⟩
theorem cj(hc:QT X c tc)(ha:cZ X a t)(hb:cZ X b u):QS X (.If c a b pos) (IR tc t u):=⟨Js hc.p ha.p hb.p⟩
theorem gO(hp:PP (O3 X.prog X.w) X.A X.env X.xe)(hc:QT X c tc)(hb:cZ X body tb):QS X (.While c body [] pos) (xR tc tb):=⟨zW hp hc.p hb.p⟩
theorem cf{iter:PD}{body:List Stmt}{wi:TI}{g:TG}{tb:TS}{pos:So}(hp:PP (O3 X.prog X.w) X.A X.env X.xe)(hc:X.calm=true)(hi:QI X tg iter wi)(hg:QG X tg g)(hb:cZ X body tb)(hs:∀x,QB iter X.env x=QP x:=by intro _;rfl):QS X (.For tg iter body [] pos) (IS wi g tb):=⟨F6 hp hc hi.p hg.p hb.p hs⟩
theorem aG(he:QE X e te):QS X (.Return (some e) pos) (IM te):=⟨F4 he.p⟩
theorem ci(he:QE X e te)(hs:Rq e none pos.line X.env=QP false:=by rfl):QS X (.Expr e pos) (Ea te):=⟨CF he.p hs⟩
theorem qO   : QS X (.Continue pos) Ed:=⟨qT ⟩
theorem jc{st:Stmt}  : QS X st xT:=⟨zY ⟩
theorem bw   : cZ X [] D8:=⟨CB ⟩
theorem av{st:Stmt}(h1:QS X st t):cZ X [st] t:=⟨CA h1.p⟩
theorem zL{st:Stmt}{cP:List Stmt}(h1:QS X st t)(h2:cZ X cP u):cZ X (st::cP) (EU t u):=⟨zV h1.p h2.p⟩
theorem ft{a:PD}{ta:TA}{p pos:So}(hg:Gl X "range")(hm:X.mg "range"=none)(ha:QA X [a] ta)(hs:OS [a] X.env=[(false,eval a X.env)]:=by rfl):QI X tg (.Call (.Name "range" p) [a] [] pos) (EB ta):=⟨wc hg hm ha.p hs⟩
theorem cH(hl:QE X l tl):QI X tg l (AW X.K tl):=⟨CL hl.p⟩
theorem fH(hl:QE X l tl):QI X tg l (JS X.K tl):=⟨Ga hl.p⟩
theorem aF{i:Nat}{x:Pf}(hN:X.N.Nodup)(hi:X.N[i]?=some x)(hx:xx X.env.scope x)(hf:X.fn x=true∨X.env.scope.names.lookup x=some .local:=by first|exact .inl Z|exact .inr Z|assumption):QG X (.Name x pos) (jq i):=⟨CP hN hi hx hf⟩
theorem iQ{es:List PD}{k:Nat}{t:xp}{n:Nat}(hc:X.calm=true)(h:Kg X es t)(hn:(QY es X.env).length=n:=by rfl)(hst:(QY es X.env).findIdx? (·.1)=none:=by rfl):QG X (.Tuple es k pos) (Dt X.K n t):=⟨Ab hc h.p hn hst⟩
theorem l5{o i:PD}{to ti:TE}{t:Bz}(ho:QE X o to)(hi:QE X i ti)(hs:HX X t) (ha:∀v,Tn (.Subscript o i pos) X.env v=(do
   let ov ←holding [v] (eval o X.env);let iv ←holding [v,ov] (eval i X.env)
   U2 pos
   holding [v,ov,iv] (Yj ov iv v)
   release [v,ov,iv] []):=by intro _;rfl):QG X (.Subscript o i pos) (JY to ti t):=⟨Gc ho.p hi.p hs ha⟩
theorem dI   : Kg X [] JZ:=⟨CN ⟩
theorem bo{e:PD}{es:List PD}{t:TG}{u:xp}(h1:QG X e t)(h2:Kg X es u)(hs:(QY (e::es) X.env).map (·.2)=Tn e X.env::(QY es X.env).map (·.2):=by rfl):Kg X (e::es) (EC t u):=⟨Aa h1.p h2.p hs⟩
end
structure Iz(X:Cx)(ifs:List PD)(t:TT):Prop where
 p:EK X ifs t
section
set_option autoImplicit true
set_option relaxedAutoImplicit true
theorem dX:Iz X [] IK:=⟨Cy ⟩
theorem fh(h:QT X c t):Iz X [c] t:=⟨Cv h.p⟩
theorem cr(hc:X.calm=true)(hi:QI X tg iter wi)(hg:∀C fp pins s H,QG (j4 X N' scope cl C fp pins s H) tg g)(ht:∀C fp pins s H,Iz (j4 X N' scope cl C fp pins s H) ifs tt)(he:∀C fp pins s H,QE (j4 X N' scope cl C fp pins s H) elt te)(hfree:cC X scope cl N' src)(hclos:Tp scope X.env=QP cl)(hcell:∀x∈scope.names,x.2≠.cell)(hkind:scope.kind=.function)(hnames:∀x∈scope.names,x.2=.local->scope.names.lookup x.1=some .local)(hcl:fq X scope cl)(hs:∀x,QB iter X.env x=QP x:=by intro _;rfl):QE X (.ListComp elt [⟨tg,iter,ifs,0⟩] scope pos) (i4 wi src g tt te):=⟨Ag hc hi.p (λz0 z1 z2 z3 z4=>(hg z0 z1 z2 z3 z4).p) (λz0 z1 z2 z3 z4=>(ht z0 z1 z2 z3 z4).p) (λz0 z1 z2 z3 z4=>(he z0 z1 z2 z3 z4).p) hfree hclos hcell hkind hnames hcl hs⟩
theorem jb{i:Nat}{x:Pf}{pos' pos2:So}(hN:X.N.Nodup)(hi':X.N[i]?=some x)(hx:xx X.env.scope x)(hc:X.calm=true)(hi:QI X tg iter wi)(hg:∀C fp pins s H,QG (j4 X N' scope cl C fp pins s H) tg g)(ht:∀C fp pins s H,Iz (j4 X N' scope cl C fp pins s H) ifs tt)(he:∀C fp pins s H,QE (j4 X N' scope cl C fp pins s H) elt te)(hfree:cC X scope cl N' src)(hclos:Tp scope X.env=QP cl)(hcell:∀x∈scope.names,x.2≠.cell)(hkind:scope.kind=.function)(hnames:∀x∈scope.names,x.2=.local->scope.names.lookup x.1=some .local)(hcl:fq X scope cl)(hs:∀x,QB iter X.env x=QP x:=by intro _;rfl)(hsw:Rq (.ListComp elt [⟨tg,iter,ifs,0⟩] scope pos) (some (.Name x pos')) pos2.line X.env=QP true:=by rfl)(hf:X.fn x=true∨X.env.scope.names.lookup x=some .local:=by first|exact .inl Z|exact .inr Z|assumption):QS X (.Assign [.Name x pos'] (.ListComp elt [⟨tg,iter,ifs,0⟩] scope pos) pos2) (oO (i4 wi src g tt te) (jq i)):=⟨CC hN hi' hx hc hi.p (λz0 z1 z2 z3 z4=>(hg z0 z1 z2 z3 z4).p) (λz0 z1 z2 z3 z4=>(ht z0 z1 z2 z3 z4).p) (λz0 z1 z2 z3 z4=>(he z0 z1 z2 z3 z4).p) hfree hclos hcell hkind hnames hcl hs hsw hf⟩
end
section
variable {X:Cx}{K:Oz}
theorem CO{es:List PD}{k:Nat}{t:xp}{n:Nat}{pos:So}(hK:X.K=K)(hc:X.calm=true)(h:IA X es t)
  (hn:(QY es X.env).length=n:=by rfl) (hst:(QY es X.env).findIdx? (·.1)=none:=by rfl):PG X (.Tuple es k pos) (Dt K n t):=hK▸Ab hc h hn hst
theorem bQ(hK:X.K=K):Ic X (FR K):=hK▸aB
theorem dF(hK:X.K=K):Ic X (FT K):=hK▸bc
def Nx(K:Oz):List V->Hp->VK->Prop:=λxs H Q=>∃p ys,xs=[.ref p]/\(aS K H p ys∨bu K H p ys)/\Q (.int ys.length) H
end
theorem aZ:OS (.BinOp a op b pos:: es) env=(false,eval (.BinOp a op b pos) env):: OS es env:=Z
end B
namespace B
open PySem
section
variable {es:List PD}{env:XD}
theorem dD{a b c}:OS (.Tuple a b c::es) env=(false,eval (.Tuple a b c) env)::OS es env:=Z
theorem gH{a b}:OS (.List a b::es) env=(false,eval (.List a b) env)::OS es env:=Z
theorem aA{a b c}:OS (.Subscript a b c::es) env=(false,eval (.Subscript a b c) env)::OS es env:=Z
theorem aP{a b c d}:OS (.Call a b c d::es) env=(false,eval (.Call a b c d) env)::OS es env:=Z
theorem af{a b}:OS (.Name a b::es) env=(false,eval (.Name a b) env)::OS es env:=Z
theorem aI{a b c}:OS (.Constant a b c::es) env=(false,eval (.Constant a b c) env)::OS es env:=Z
theorem ur{a b c}:OS (.UnaryOp a b c::es) env=(false,eval (.UnaryOp a b c) env)::OS es env:=Z
theorem ye{a b c d}:OS (.Compare a b c d::es) env=(false,eval (.Compare a b c d) env)::OS es env:=Z
theorem dW{a b c}:OS (.Attribute a b c::es) env=(false,eval (.Attribute a b c) env)::OS es env:=Z
theorem eJ{a b c d}:OS (.ListComp a b c d::es) env=(false,eval (.ListComp a b c d) env)::OS es env:=Z
theorem BZ{a b c d}:OS (.IfExp a b c d::es) env=(false,eval (.IfExp a b c d) env)::OS es env:=Z
end
end B
namespace B
open PySem L2 PyProof.Rows
inductive cG{α:Type}(P:V->α->Prop):List V->List α->Prop where
 |nil:cG P [] []
 |cons {x:V} {d:α} {xs:List V} {ds:List α} (h:P x d) (t:cG P xs ds):cG P (x::xs) (d::ds)
theorem cG.len{α:Type}{P:V->α->Prop}:∀{xs:List V} {ds:List α},cG P xs ds->xs.length=ds.length
 |_,_,.nil=>rfl
 |_,_,.cons _ t=>congrArg (·+1) t.len
theorem cG.mono{α:Type}{P P':V->α->Prop}(m:∀v d,P v d->P' v d):∀{xs:List V} {ds:List α},cG P xs ds->cG P' xs ds
 |_,_,.nil=>.nil
 |_,_,.cons h t=>.cons (m _ _ h) (t.mono m)
theorem cG.snoc{α:Type}{P:V->α->Prop}{x:V}{d:α}(k:P x d):∀{xs:List V} {ds:List α},cG P xs ds->cG P (xs++[x]) (ds++[d])
 |_,_,.nil=>.cons k .nil
 |_,_,.cons h t=>.cons h (t.snoc k)
theorem cG.at{α:Type}{P:V->α->Prop}:∀{xs:List V} {ds:List α},cG P xs ds->∀{i:Nat} {x:V},xs[i]?=some x->∃d,ds[i]?=some d/\P x d
 |_,_,.cons h _,0,x,e=>by
  rw[UQ] at e
  cases e
  exact⟨_,Z,h⟩
 |_,_,.cons _ t,i+1,x,e=>t.at (i:=i) (by rw[UR] at e;exact e)
 |_,_,.nil,_,_,e=>by cases e
theorem cG.deep{α:Type}{K:Oz}{H:Hp}{P:V->α->Prop}{f:α->PyData}(m:∀v d,P v d->bv K H v (f d)):∀{xs:List V} {ds:List α},cG P xs ds->bh K H xs (ds.map f)
 |_,_,.nil=>.nil
 |_,_,.cons h t=>.cons (m _ _ h) (t.deep m)
end B
namespace B
open PySem PySem.Spec L2 PyProof.Rows
section
set_option autoImplicit true
set_option relaxedAutoImplicit true
theorem FX(hl:QE X l tl):QI X tg l (JT X.K tl):=⟨Gb hl.p⟩
theorem jd{K:Oz}{es:List PD}{k:Nat}{t:xp}{n:Nat}{pos:So}(hK:X.K=K)(hc:X.calm=true)(h:Kg X es t)(hn:(QY es X.env).length=n:=by rfl)(hst:(QY es X.env).findIdx? (·.1)=none:=by rfl):QG X (.Tuple es k pos) (Dt K n t):=⟨CO hK hc h.p hn hst⟩
end
def NC(K:Oz):R2:=λx y H Q=>∃d d',bv K H x d/\bv K H y d'/\d.canLay0=true/\d'.canLay0=true/\d.depth≤32/\Q (.bl (Qz d d')) H
theorem pZ:Qz (dR r) (dR q)=decide (r=q):=by
 by_cases h:r=q
 ·rw[decide_eq_true h,h];exact Ba q
 ·rw[decide_eq_false h]
  cases c:Qz (dR r) (dR q) with
  |false=>rfl
  |true=>exact absurd (Hu c) h
def Jo(K:Oz):List V->Hp->VK->Prop:=λxs H Q=>∃a ys n b,xs=[.ref a,.ty n]/\bu K H a ys/\kj "tuple" n=some b/\Q (.bl b) H
theorem xg:dH X (.builtin "isinstance") (Jo X.K):=by
 intro pins s σ H xs us Q I r h;obtain⟨a,ys,n,b,rfl,hS,e,q⟩:=h;obtain⟨u,u2,rfl,rx,ry⟩:=uk r;obtain rfl:u2=Su n:=ry
 cases(show u=O8 a from rx)
 obtain⟨its,_,⟨o,h1,h2,_⟩,_⟩:=I.tuple hS;exact Qa Wb I.kIn ⟨o,h1,h2⟩ (tD e) (λz=>nomatch z) λtk=>⟨.bl b,H,I.tok tk,Z,q⟩
section
set_option autoImplicit true
set_option relaxedAutoImplicit true
theorem uE(hex:X.ex=[])(ha:QE X o ta)(hv:QE X value tv)(hs:Rq value (some (.Attribute o f pos')) pos.line X.env=QP false):QS X (.Assign [.Attribute o f pos'] value pos) (Em X.K ta tv f):=⟨CD hex ha.p hv.p hs⟩
theorem jP{x:Pf}{p cpos pos:So}{e:PD}{es:List PD}{t:TA}{E:XK}(M:XC X.K C f bm)(hbase:bm.contains (.type "BaseException")=true)(hex:X.ex=[])(tk:tZ X E)(F:bn X.prog X.w X.K X.mg X.base dm k f fd ps sp)(hr:cV (k+1) X.A)(hb:aL X.K fd ps [])(hg:Gl X x)(hm:X.mg x=some (.ref C))(ha:QA X (e::es) t)(hdb:(x==("__debug__" : Pf))=false:=by decide)(he:OS (e::es) X.env=(false,eval e X.env)::OS es X.env:=by rfl)(hpl:(Rt cpos (OS es X.env)).any (·.1)=false:=by rfl):QS X (.Raise (some (.Call (.Name x p) (e::es) [] cpos)) none pos) (ul C sp E t):=⟨vY M hbase hex tk F hr hb hg hm ha.p hdb he hpl⟩
end
end B
namespace L2
open PySem PySem.Spec PyProof.Rows
section
variable {κ:Type} [DecidableEq κ]
def iC(kvs:List (κ×V))(k:κ):Option V:=(kvs.find? λkv=>decide (kv.1=k)).map (·.2)
def df(kvs:List (κ×V))(k:κ)(v:V):List (κ×V):=
 if(kvs.any λkv=>decide (kv.1=k))=true then kvs.map (λkv=>if kv.1=k then(kv.1,v) else kv) else kvs++[(k,v)]
def MH(kvs:List (κ×V))(k:κ):List (κ×V):=kvs.filter λkv=>decide (kv.1≠k)
theorem iZ{k:κ}:iC ([]:List (κ×V)) k=none:=Z
theorem eP{p:κ×V}{r:List (κ×V)}{k:κ}(e:p.1=k):iC (p::r) k=some p.2:=by simp[iC,Sl,e]
theorem bX{p:κ×V}{r:List (κ×V)}{k:κ}(e:¬p.1=k):iC (p::r) k=iC r k:=by simp[iC,Sl,e]
theorem kZ(k:κ):∀kvs:List (κ×V),(kvs.any λkv=>decide (kv.1=k))=(iC kvs k).isSome
 | []=>rfl
 |p::r=>by
  rw[Rg];by_cases e:p.1=k
  ·simp only[eP e,decide_eq_true e,Bool.true_or,SX]
  ·rw[bX e,decide_eq_false e,UG];exact kZ k r
theorem gS(kvs:List (κ×V))(k:κ)(v:V):(df kvs k v).length≤kvs.length+1:=by
 unfold df
 split
 ·rw[OD];omega
 ·rw[Pk,Pu,Xw];omega
theorem je{kvs:List (κ×V)}{k:κ}(v:V)(h:iC kvs k=none):df kvs k v=kvs++[(k,v)]:=by
 unfold df;rw[kZ,h];exact if_neg (by decide)
theorem fo.isSome_eq(r:fo o u):o.isSome=u.isSome:=by
 cases o with
 |none=>cases u with
  |none=>rfl
  |some _=>exact(show False from r).elim
 |some _=>cases u with
  |none=>exact(show False from r).elim
  |some _=>rfl
theorem fo.getD(r:fo o u)(rd:RelV d d'):RelV (o.getD d) (u.getD d'):=by
 cases o with
 |none=>cases u with
  |none=>exact rd
  |some _=>exact(show False from r).elim
 |some _=>cases u with
  |none=>exact(show False from r).elim
  |some _=>exact r
theorem KV.val{kvs:List (κ×V)}{vs:List (κ×Value)}(r:KV kvs vs)(k:κ):fo (iC kvs k) (VO vs k):=by
 unfold KV at r
 induction r with
 |nil=>exact Q9
 | @cons p q ps qs h t ih=>
  obtain⟨h1,h2⟩:=h;by_cases e:p.1=k
  ·have e':q.1=k:=h1.symm.trans e;have b:VO (q::qs) k=some q.2:=by simp[VO,Sl,e']
   rw[eP e,b];exact h2
  ·have e':¬q.1=k:=λz=>e (h1.trans z)
   have b:VO (q::qs) k=VO qs k:=by simp[VO,Sl,e']
   rw[bX e,b];exact ih
theorem KV.any{kvs:List (κ×V)}{vs:List (κ×Value)}(r:KV kvs vs)(k:κ):(kvs.any λkv=>decide (kv.1=k))=vs.any λkv=>decide (kv.1=k):=by
 unfold KV at r
 induction r with
 |nil=>rfl
 |cons h t ih=>rw[Rg,Rg,ih,h.1]
theorem KV.repl{kvs:List (κ×V)}{vs:List (κ×Value)}(r:KV kvs vs)(k:κ){y:V}{u:Value}(ry:RelV y u) :
  KV (kvs.map λkv=>if kv.1=k then(kv.1,y) else kv) (vs.map λkv=>if kv.1=k then(kv.1,u) else kv):=by
 unfold KV at r ⊢
 induction r with
 |nil=>exact .nil
 | @cons p q ps qs h t ih=>
  rw[Pm,Pm];refine .cons ?_ ih;obtain⟨h1,h2⟩:=h;by_cases e:p.1=k
  ·rw[if_pos e,if_pos (h1.symm.trans e)];exact⟨h1,ry⟩
  ·rw[if_neg e,if_neg (λz=>e (h1.trans z))];exact⟨h1,h2⟩
theorem KV.put{kvs:List (κ×V)}{vs:List (κ×Value)}(r:KV kvs vs)(k:κ){y:V}{u:Value}(ry:RelV y u):KV (df kvs k y) (stored vs k u):=by
 unfold df stored;rw[r.any k];by_cases e:(vs.any λkv=>decide (kv.1=k))=true
 ·rw[if_pos e,if_pos e];exact r.repl k ry
 ·rw[if_neg e,if_neg e];exact Paired.snoc r ⟨Z,ry⟩
theorem KV.length{kvs:List (κ×V)}{vs:List (κ×Value)}(r:KV kvs vs):kvs.length=vs.length:=Paired.length r
end
theorem rf(r:RelV (kV k) u):(bT P w).is k u=true:=by
 cases k with
 |inl i=>obtain⟨t,e⟩:=(show ∃t,u=Q0 i t from r);subst e;exact qX P w i t
 |inr x=>obtain⟨t,e⟩:=(show ∃t,u=T6 x t from r);subst e;exact qW P w x t
theorem nW{P:Po}{w:PM}:∀{ks:List cA} {us:List Value},be (ks.map kV) us->ItemsAre (bT P w) ks us
 | [],_,r=>by rw[Vf] at r;cases r;exact .nil
 |k::ks,_,r=>by
  rw[Pm] at r
  cases r with
  |cons h t=>exact .cons (rf h) (nW t)
abbrev KT(H:Hp):List (List cA×V)->List (List cA×Addr×Value)->Prop:=Paired λp q=>p.1=q.1/\H q.2.1=some (.tup (p.1.map kV))/\RelV p.2 q.2.2
theorem KT.val(r:KT H kvs xs)(k:List cA):fo (iC kvs k) ((Xk xs k).map (·.2)):=by
 induction r with
 |nil=>exact Q9
 | @cons p q ps qs h t ih=>
  obtain⟨h1,_,h2⟩:=h;by_cases e:p.1=k
  ·have e':q.1=k:=h1.symm.trans e;have b:Xk (q::qs) k=some q.2:=by simp[Xk,Sl,e']
   rw[eP e,b];exact h2
  ·have e':¬q.1=k:=λz=>e (h1.trans z)
   have b:Xk (q::qs) k=Xk qs k:=by simp[Xk,Sl,e']
   rw[bX e,b];exact ih
theorem KT.repl(r:KT H kvs xs)(k:List cA)(ry:RelV y u):
  KT H (kvs.map λkv=>if kv.1=k then(kv.1,y) else kv) (xs.map (putAt k u)):=by
 induction r with
 |nil=>exact .nil
 | @cons p q ps qs h t ih=>
  rw[Pm,Pm];refine .cons ?_ ih;obtain⟨h1,h2,h3⟩:=h;unfold putAt;by_cases e:p.1=k
  ·rw[if_pos e,if_pos (h1.symm.trans e)];exact⟨h1,h2,ry⟩
  ·rw[if_neg e,if_neg (λz=>e (h1.trans z))];exact⟨h1,h2,h3⟩
theorem KT.put(r:KT H kvs xs)(k:List cA)(hb:H b=some (.tup (k.map kV)))(ry:RelV y u):
  KT H (df kvs k y) (storedH xs k b u):=by
 have e:(kvs.any λkv=>decide (kv.1=k))=(Xk xs k).isSome:=by
  rw[kZ,(r.val k).isSome_eq,Option.isSome_map]
 unfold df storedH;rw[e];by_cases q:(Xk xs k).isSome=true
 ·rw[if_pos q,if_pos q];exact r.repl k ry
 ·rw[if_neg q,if_neg q];exact Paired.snoc r ⟨Z,hb,ry⟩
theorem KT.keeps(r:KT H kvs xs)(ht:∀b ys,H b=some (.tup ys)->H' b=some (.tup ys)):KT H' kvs xs:=
 Paired.mapP r λ_ _ z=>⟨z.1,ht _ _ z.2.1,z.2.2⟩
section
variable {P:Po}{w:PM}{H:Hp}{h:OR}{a:Addr}
theorem Eo(ok:iz P w H h)(e:Rd H a u):ObjOk P w H h a u:=e.ok ok
theorem rB(ok:iz P w H h)(e:Rd H a (.dK kvs)):kvs.length≤sizeLine/\(a==R7)=false/\∃vs,KV kvs vs/\h.DictOf (bT P w) a vs:=
 show ObjOk P w H h a (.dK kvs) from Eo ok e
theorem Bf(ok:iz P w H h)(e:H a=some (.dK kvs)):kvs.length≤sizeLine/\(a==R7)=false/\∃vs,KV kvs vs/\h.DictOf (bT P w) a vs:=rB ok (.inl e)
theorem pT(ok:iz P w H h)(e:H a=some (.tup (ks.map kV))):(UJ (bT P w)).is h ks a:=by
 obtain⟨_,its,r,o,h1,h2,n,h3⟩:=(show ObjOk P w H h a (.tup (ks.map kV)) from ok a _ e);exact⟨o,its.toArray,n,h1,h2,h3,by simpa using nW r⟩
theorem rA(ok:iz P w H h)(e:Rd H a (.dT kvs)):kvs.length≤sizeLine/\(a==R7)=false∧
  ∃xs,KT H kvs xs/\h.DictOfH (UJ (bT P w)) a xs:=by
 obtain⟨z,y,xs,r,o,es,ep,h1,h2,h3,h4,h5⟩:=(show ObjOk P w H h a (.dT kvs) from Eo ok e);refine⟨z,y,xs,r,o,es,ep,h1,h2,h3,h4,λx hx=>?_,h5⟩;have all:∀{l:List (List cA×V)} {m:List (List cA×Addr×Value)},KT H l m->∀x∈m,(UJ (bT P w)).is h x.1 x.2.1:=by
  intro l m q
  induction q with
  |nil=>intro x hx;exact nomatch hx
  | @cons p q ps qs hq t ih=>
   intro x hx;rcases OO.mp hx with e|hx
   ·subst e;exact pT ok (by rw[←hq.1];exact hq.2.1)
   ·exact ih x hx
 exact all r x hx
theorem J2(ok:iz P w H h)(e:H a=some (.dT kvs)):kvs.length≤sizeLine/\(a==R7)=false∧
  ∃xs,KT H kvs xs/\h.DictOfH (UJ (bT P w)) a xs:=rA ok (.inl e)
end
def fZ(H:Hp)(a:Addr)(y:V)(r:Option V):Prop:=
 (∃kvs k,Rd H a (.dK kvs)/\y=kV k/\r=iC kvs k)∨∃kvs k b,Rd H a (.dT kvs)/\y=.ref b/\H b=some (.tup (k.map kV))/\r=iC kvs k
def p8(H:Hp)(a:Addr)(y v:V)(H':Hp):Prop:=
 (∃kvs k,H a=some (.dK kvs)/\y=kV k/\kvs.length<sizeLine/\H'=upd H a (.dK (df kvs k v)))∨
 ∃kvs k b,H a=some (.dT kvs)/\y=.ref b/\H b=some (.tup (k.map kV))/\kvs.length<sizeLine/\H'=upd H a (.dT (df kvs k v))
theorem fZ.k{H:Hp}{a:Addr}{kvs:List (cA×V)}{k:cA}(e:H a=some (.dK kvs)):fZ H a (kV k) (iC kvs k):=.inl ⟨kvs,k,.inl e,Z,Z⟩
theorem p8.k{H:Hp}{a:Addr}{kvs:List (cA×V)}{k:cA}{v:V}(e:H a=some (.dK kvs))(hl:kvs.length<sizeLine):p8 H a (kV k) v (upd H a (.dK (df kvs k v))):=.inl ⟨kvs,k,e,Z,hl,Z⟩
section
variable {X:Cx}{pins:List (Addr×Ql)}{σ:St}{H:Hp}{s:OI}{a:Addr}{y v:V}{u r:Value}{o:Option V}{A:PB}{E:Value->OI->Prop}
theorem Inv.big(I:Inv X pins σ H s):R7<s.heap.objs.size:=by
 have h:Pj<s.heap.objs.size:=(I.mod.glob.keeps I.bk).lt;exact WI (by decide) h
theorem wW(hu:A.units+1<cLine)(I:Inv X pins σ H s)(g:fZ H a y (some v))(ry:RelV y u)(h:∀w' s',Inv X pins σ H s'->RelV v w'->Q w' s'):
  OY (O3 X.prog X.w) A (S2 (.ref a) u) Q E s:=by
 rcases g with⟨kvs,k,e,ey,l⟩ | ⟨kvs,k,b,e,ey,eb,l⟩
 ·subst ey;obtain⟨z,hd,vs,rel,dd⟩:=rB I.hok e;obtain⟨w',hw,rw'⟩:=fo.some_of (v:=v) (o:=VO vs k) (by rw[l];exact rel.val k);exact wpAny_getItem_of (rf ry) dd.mapOf hw (h w' _ (I.tok _) rw')
 ·subst ey
  cases(show u=O8 b from ry)
  obtain⟨z,hd,xs,rel,dd⟩:=rA I.hok e;obtain⟨w',hw,rw'⟩:=fo.some_of (v:=v) (o:=(Xk xs k).map (·.2)) (by rw[l];exact rel.val k);obtain⟨p,hp,hp2⟩:=PX.mp hw;refine wpAny_getItem_heap (Ul hu) (pT I.hok eb) dd hp ?_;rw[hp2];exact h w' _ (I.tok _) rw'
theorem kP(I:Inv X pins σ H s)(mu:Ki (H a))(hs:Sa a s.heap h')(he:∃q,h'.get? a=some q)(new:ObjOk X.prog X.w (upd H a ob) h' a ob):
  Inv X pins σ (upd H a ob) { s with heap:=h',toks:=t'}:=
 I.write (x:=a) (e:=a) mu (.inl Z) (λb q hb z=>(hs.2 b hb).trans z) he new
theorem Bg(z:kvs.length≤sizeLine)(hd:(a==R7)=false)(rel:KV kvs vs)(dd:h'.DictOf (bT P w) a vs):
  ObjOk P w H' h' a (.dK kvs):=⟨z,hd,vs,rel,dd⟩
theorem wV(hu:A.units+1<cLine)(I:Inv X pins σ H s)(g:p8 H a y v H')(ry:RelV y u)(rv:RelV v r)(h:∀s',Inv X pins σ H' s'->Q () s'):
  OY (O3 X.prog X.w) A (Yj (.ref a) u r) Q E s:=by
 rcases g with⟨kvs,k,e,ey,l,eH⟩ | ⟨kvs,k,b,e,ey,eb,l,eH⟩
 ·subst ey eH;obtain⟨z,hd,vs,rel,dd⟩:=Bf I.hok e;have hz:vs.length≤sizeLine:=by rw[←rel.length];exact z
  have hl:(df kvs k v).length≤sizeLine:=by have:=gS kvs k v;omega
  refine wpAny_setItem_pairs (hsz:=hz) (rf ry) dd λh' dd' hs=>h _ ?_
  have he:∃q,h'.get? a=some q:=let ⟨q,_,_,hq,_⟩:=dd';⟨q,hq⟩;exact kP I (by rw[e];exact Q9) hs he (Bg hl hd (rel.put k rv) dd')
 ·subst ey eH
  cases(show u=O8 b from ry)
  obtain⟨z,hd,xs,rel,dd⟩:=J2 I.hok e;have hz:xs.length≤sizeLine:=by rw[←Paired.length rel];exact z
  have hl:(df kvs k v).length≤sizeLine:=by have:=gS kvs k v;omega
  refine wpAny_setItem_heap (hsz:=hz) (Ul hu) (pT I.hok eb) dd λh' dd' hs=>h _ ?_
  obtain⟨q,es,ep,hq,h2,h3,h4,_,h5⟩:=dd';refine kP I (by rw[e];exact Q9) hs ⟨q,hq⟩ ⟨hl,hd,_,(rel.put k eb rv).keeps λc ys ec=>?_,q,es,ep,hq,h2,h3,h4,h5⟩;rw[au (JL ec e (λz=>nomatch z))];exact ec
end
section
variable {X:Cx}{pins:List (Addr×Ql)}{σ:St}{H:Hp}{s:OI}{a:Addr}{kvs:List (cA×V)}{k:cA}{u:Value}{A:PB}{E:Value->OI->Prop}
end
def HZ(i:PD):Prop:=∀ov iv,Uw i false ov iv=Ym [ov,iv] (S2 ov iv)
theorem BY{prog:Po}{w:PM}{A:PB}{E:Value->OI->Prop}{s:OI}{env:XD}{value slice:PD}{pos:So}{T id:String}{Q:Value->OI->Prop}
  (hl:XS (.type T) "__getitem__"=QP (some (.builtin id))) (hs:HZ slice)
  (h:OY (O3 prog w) A (eval value env) (λo s₁=>OY (O3 prog w) A (eval slice env) (λi s₂=>s₂.TypeIs o T/\OY (O3 prog w) A (S2 o i) Q E s₂) E s₁) E s) :
  OY (O3 prog w) A (eval (.Subscript value slice pos) env) Q E s:=by
 refine XT (Qp h (λo s₁ h₁=>Qp h₁ (λi s₂ h₂=>?_) λ_ _ x=>x) λ_ _ x=>x);obtain⟨hT,h₂⟩:=h₂;unfold VY;refine OE ?_;rw[getitemInPython_of_ne hT.not_modules];refine OE (wpAny_specialOf hT hl ?_);have fin:OY (O3 prog w) A (Uw slice false o i) (λr s₃=>OY (O3 prog w) A (letTemporaryGo value o r >>= λ_=>QP r) Q E s₃) E s₂:=by
  rw[hs o i];exact wpAny_operating (Qp h₂ (λr s₃ h₃=>OE (wpAny_letTemporaryGo (wpAny_pure h₃))) λ_ _ x=>x)
 first
  |exact wpAny_pure (OE fin)
  |exact OE (wpAny_pure (OE fin))
  |exact OE fin
theorem rD{X:Cx}{pins:List (Addr×Ql)}{σ:St}{H:Hp}{s:OI}{a:Addr}{y:V}{o:Option V}(I:Inv X pins σ H s)(g:fZ H a y o):s.TypeIs (.ref a) "dict" := by
 rcases g with⟨kvs,k,e,_,_⟩ | ⟨kvs,k,b,e,_,_,_⟩
 ·obtain⟨_,_,vs,_,dd⟩:=rB I.hok e;exact dd.typeIs
 ·obtain⟨_,_,xs,_,dd⟩:=rA I.hok e;exact dd.typeIs
def Ec(td ty:TE):TE:=λσ H Q=>td σ H λx H1=>ty σ H1 λy H2=>∃a v,x=.ref a/\fZ H2 a y (some v)/\Q v H2
def Nh(ty td:TE):TE:=λσ H Q=>ty σ H λy H1=>td σ H1 λx H2=>∃a o,x=.ref a/\fZ H2 a y o/\Q (.bl o.isSome) H2
def Ku(ty td:TE):TE:=λσ H Q=>ty σ H λy H1=>td σ H1 λx H2=>∃a o,x=.ref a/\fZ H2 a y o/\Q (.bl (!o.isSome)) H2
def En(td ty tv:TE):TS:=λD σ H=>tv σ H λv H1=>td σ H1 λx H2=>ty σ H2 λy H3=>∃a H4,x=.ref a/\p8 H3 a y v H4/\D.nx σ H4
def Mh(td ty tv:TE)(rd:V->V->Hp->VK->Prop):TS:=λD σ H=>td σ H λx H1=>ty σ H1 λy H2=>∃a v,x=.ref a/\fZ H2 a y (some v)∧
 tv σ H2 λy2 H3=>rd v y2 H3 λz H4=>∃H5,p8 H4 a y z H5/\D.nx σ H5
section
variable {X:Cx}{o i e value:PD}{pos pos' tpos:So}{td ty tv:TE}
theorem CV(hu:X.A.units+1<cLine)(ho:PE X o td)(hi:PE X i ty)(hs:HZ i):PE X (.Subscript o i pos) (Ec td ty):=by
 intro pins s σ H Q I h;refine BY PySem.F.slot_dict_getitem.lookup hs (bU (ho pins s σ H _ I h) λu s1 ⟨x,H1,I1,rx,q1⟩=>bU (hi pins s1 σ H1 _ I1 q1) λiv s2 ⟨y,H2,I2,ry,a,v,ex,g,q2⟩=>?_);subst ex;obtain rfl:u=O8 a:=rx;exact⟨rD I2 g,wW hu I2 g ry λw' s3 I3 rw'=>⟨v,H2,I3,rw',q2⟩⟩
theorem CG(hu:X.A.units+1<cLine)(ho:PE X o td)(hi:PE X i ty)(hv:PE X value tv)(hs:Rq value (some (.Subscript o i pos')) pos.line X.env=QP false) :
  PS X (.Assign [.Subscript o i pos'] value pos) (En td ty tv):=by
 intro pins s σ H D I h;refine wpAny_Assign_Subscript (bU (hv pins s σ H _ I h) λr s1 ⟨v,H1,I1,rv,q1⟩=>bU (ho pins s1 σ H1 _ I1 q1) λu s2 ⟨x,H2,I2,rx,q2⟩=>bU (hi pins s2 σ H2 _ I2 q2) λiv s3 ⟨y,H3,I3,ry,a,H4,ex,g,q3⟩=>?_) hs;subst ex;obtain rfl:u=O8 a:=rx;exact wV hu I3 g ry rv λs4 I4=>⟨σ,H4,I4,q3⟩
end
theorem rC(h:OR)(hb:R7<h.objs.size):ObjOk P w H (h.push { cls:=.type "dict",data:=.dict #[]}) h.objs.size (.dK []):=
 ⟨OZ _,beq_eq_false_iff_ne.mpr (R9 (PF hb)),[],.nil,OR.DictOf.new h⟩
def xU:TE:=λ_ H Q=>∀p,H p=none->Q (.ref p) (upd H p (.dK []))
section
variable {X:Cx}{pos:So}
theorem Ai:PE X (.Dict [] [] pos) xU:=λpins s σ H Q I h=>
 wpAny_Dict_empty ⟨.ref s.heap.objs.size,_,I.laid (a:=s.heap.objs.size) (o:=.dK []) (t':=s.toks) (λ_ _ q=>OG _ q) (OC _) (rC s.heap I.big),Z,h _ (I.hok.fresh (OC _))⟩
end
def sd:List (TE×TE)->St->Hp->(List (V×V)->Hp->Prop)->Prop
 | [],_,H,Q=>Q [] H
 | (tk,tv)::r,σ,H,Q=>tk σ H λx H1=>tv σ H1 λy H2=>sd r σ H2 λps H3=>Q ((x,y)::ps) H3
abbrev VV:List (V×V)->List (Value×Value)->Prop:=Paired λp q=>RelV p.1 q.1/\RelV p.2 q.2
def KR(X:Cx)(pos:So)(keys:List (Option PD))(values:List PD)(trs:List (TE×TE)):Prop:=
 ∀(pins:List (Addr×Ql)) (s:OI) (σ:St) (H:Hp) (Q:List (V×V)->Hp->Prop),Inv X pins σ H s->sd trs σ H Q→
  OY (O3 X.prog X.w) X.A (evalPairs (pairTrees keys values X.env pos)) (λvs s'=>∃ps H',Inv X pins σ H' s'/\VV ps vs/\Q ps H') X.xe s
theorem CH:KR X pos [] [] []:=λpins s σ H Q I h=>pairTrees_nil_walk ⟨[],H,I,.nil,h⟩
theorem jf(hk:PE X k tk)(hv:PE X v tv)(hr:KR X pos ks vs trs):
  KR X pos (some k:: ks) (v:: vs) ((tk,tv):: trs):=λpins s σ H Q I h=>
 pairTrees_cons_walk (bU (hk pins s σ H _ I h) λu s1 ⟨x,H1,I1,rx,q1⟩=>bU (hv pins s1 σ H1 _ I1 q1) λw2 s2 ⟨y,H2,I2,ry,q2⟩=>
  bU (hr pins s2 σ H2 _ I2 q2) λws s3 ⟨ps,H3,I3,rel,q3⟩=>⟨(x,y)::ps,H3,I3,.cons ⟨rx,ry⟩ rel,q3⟩)
def jW(kvs more:List (cA×V)):List (cA×V):=more.foldl (λacc kv=>df acc kv.1 kv.2) kvs
theorem KV.merge:∀{more:List (cA×V)} {rs:List (cA×Value)} {kvs:List (cA×V)} {vs:List (cA×Value)},KV more rs->KV kvs vs->KV (jW kvs more) (merged vs rs):=by
 intro more rs kvs vs r;unfold KV at r
 induction r generalizing kvs vs with
 |nil=>intro q;exact q
 | @cons p q ps qs h t ih=>
  intro r0;have e:KV (df kvs p.1 p.2) (stored vs q.1 q.2):=by
   have:=r0.put p.1 h.2;rw[←h.1];exact this
  exact ih e
theorem iu:∀(more kvs:List (cA×V)),(jW kvs more).length≤kvs.length+more.length
 | [],kvs=>by show kvs.length≤kvs.length+0;omega
 |p::r,kvs=>by
  have h1:=iu r (df kvs p.1 p.2);have h2:=gS kvs p.1 p.2;show(jW (df kvs p.1 p.2) r).length≤_;rw[Pu];omega
theorem mN{P:Po}{w:PM}:∀{kvs:List (cA×V)} {ws:List (Value×Value)},VV (kvs.map λkv=>(kV kv.1,kv.2)) ws->∃rs,Carries (bT P w) ws rs/\KV kvs rs
 | [],_,r=>by rw[Vf] at r;cases r;exact⟨[],Q9,.nil⟩
 |p::kvs,_,r=>by
  rw[Pm] at r
  cases r with
  | @cons a b as bs h t=>
   obtain⟨rs,c,q⟩:=mN (P:=P) (w:=w) t;obtain⟨b1,b2⟩:=b;exact⟨(p.1,b2)::rs,⟨rf h.1,Z,c⟩,.cons ⟨Z,h.2⟩ q⟩
def Eb(trs:List (TE×TE)):TE:=λσ H Q=>∀p,H p=none->sd trs σ (upd H p (.dK [])) λps H2=>H2 p=some (.dK [])/\∃kvs:List (cA×V),ps=kvs.map (λkv=>(kV kv.1,kv.2))/\kvs.length≤15/\Q (.ref p) (upd H2 p (.dK (jW [] kvs)))
theorem CU(h:KR X pos keys values trs)(hall:keys.all (·.isSome)=true)(hl:keys.length=values.length)(h0:keys≠[])
  (h15:keys.length≤15):PE X (.Dict keys values pos) (Eb trs):=by
 intro pins s σ H Q I q;have hn:=I.hok.fresh (OC s.heap.objs.size);have I1:=I.laid (a:=s.heap.objs.size) (o:=.dK []) (h':=s.heap.push { cls:=.type "dict",data:=.dict #[]}) (t':=s.toks) (λ_ _ q=>OG _ q) (OC _) (rC s.heap I.big);refine wpAny_Dict_walk (knd:=bT X.prog X.w) hall hl h0 h15 (bU (h pins _ σ _ _ I1 (q _ hn)) λws s2 ⟨ps,H2,I2,rel,e,kvs,ep,lk,q2⟩=>?_);subst ep;obtain⟨rs,c,rk⟩:=mN (P:=X.prog) (w:=X.w) rel;obtain⟨z,hd,vs0,r0,dd⟩:=Bf I2.hok e
 cases r0
 refine⟨rs,c,dd,λh' dd' hs=>⟨.ref s.heap.objs.size,_,?_,Z,q2⟩⟩;have hz:(jW [] kvs).length≤sizeLine:=by
  have h1:=iu kvs [];rw[Xw] at h1;rw[Rj];omega
 have he:∃q,h'.get? s.heap.objs.size=some q:=let ⟨q,_,_,hq,_⟩:=dd';⟨q,hq⟩;exact kP I2 (by rw[e];exact Q9) hs he (Bg hz hd (rk.merge .nil) dd')
structure M1(X:Cx)(o:PD)(m:Pf)(apos:So)(e:PD)(cpos:So):Prop where
 base:Rz o m X.env (eval o X.env)=eval o X.env
 few:((Rt cpos (OS [e] X.env)).all (λx=>!x.1)&&(Tw cpos (R5 [] X.env)).all (λx=>x.1.isSome)
 &&decide (([e]:List PD).length+([]:List TU).length+(if([]:List TU).isEmpty then 0 else 1)<30))=true
 line:(apos.endLine==cpos.line)=true
 trees:Rt cpos (OS [e] X.env)=[(false,eval e X.env)]
structure M2(X:Cx)(o:PD)(m:Pf)(apos:So)(e f:PD)(cpos:So):Prop where
 base:Rz o m X.env (eval o X.env)=eval o X.env
 few:((Rt cpos (OS [e,f] X.env)).all (λx=>!x.1)&&(Tw cpos (R5 [] X.env)).all (λx=>x.1.isSome)
 &&decide (([e,f]:List PD).length+([]:List TU).length+(if([]:List TU).isEmpty then 0 else 1)<30))=true
 line:(apos.endLine==cpos.line)=true
 trees:Rt cpos (OS [e,f] X.env)=[(false,eval e X.env),(false,eval f X.env)]
def LS(H:Hp)(a:Addr):Prop:=(∃kvs,Rd H a (.dK kvs))∨∃kvs,Rd H a (.dT kvs)
theorem AV{X:Cx}{pins:List (Addr×Ql)}{σ:St}{H:Hp}{s:OI}{a:Addr}(I:Inv X pins σ H s)(d:LS H a) :
  s.TypeIs (.ref a) "dict"/\(∀b,O8 a=.ref b->∃ob,s.heap.get? b=some ob/\ob.dict=none)/\(a==R7)=false:=by
 rcases d with⟨kvs,e⟩ | ⟨kvs,e⟩
 ·obtain⟨_,hd,vs,_,dd⟩:=rB I.hok e;refine⟨dd.typeIs,λb q=>?_,hd⟩
  cases q
  obtain⟨ob,_,_,h1,h2,_⟩:=dd;exact⟨ob,h1,h2.2.1⟩
 ·obtain⟨_,hd,xs,_,dd⟩:=rA I.hok e;refine⟨dd.typeIs,λb q=>?_,hd⟩
  cases q
  obtain⟨ob,_,_,h1,h2,_⟩:=dd;exact⟨ob,h1,h2.2.1⟩
section
variable {X:Cx}{pins:List (Addr×Ql)}{σ:St}{H:Hp}{s:OI}{a:Addr}{y d:V}{u r:Value}{o:Option V}{A:PB}{E:Value->OI->Prop}
theorem HK(hu:A.units+1<cLine)(I:Inv X pins σ H s)(g:fZ H a y o)(ry:RelV y u)(rd:RelV d r)(h:∀w' s',Inv X pins σ H s'->RelV (o.getD d) w'->Q w' s'):
  OY (O3 X.prog X.w) A (call (.builtin "dict.get") [.ref a,u,r]) Q E s:=by
 rcases g with⟨kvs,k,e,ey,l⟩ | ⟨kvs,k,b,e,ey,eb,l⟩
 ·subst ey;obtain⟨z,hd,vs,rel,dd⟩:=rB I.hok e;refine call_meetsIn Tk dd.typeIs Vi (US _ _ _) (meets_dict_get_default (bT X.prog X.w) a (rf ry) hd r) ⟨_,dd.mapOf,h _ _ (I.tok _) ?_⟩;rw[l];exact(rel.val k).getD rd
 ·subst ey
  cases(show u=O8 b from ry)
  obtain⟨z,hd,xs,rel,dd⟩:=rA I.hok e;refine call_meetsIn Tk dd.typeIs Vi (US _ _ _) (meetsH_dict_get_default (UJ (bT X.prog X.w)) a b hd r) ⟨Ul hu,k,xs,pT I.hok eb,dd,h _ _ (I.tok _) ?_⟩;rw[l];exact(rel.val k).getD rd
end
def K8(td ty:TE):TE:=λσ H Q=>td σ H λx H1=>∃a,x=.ref a/\LS H1 a/\ty σ H1 λy H2=>∃o,fZ H2 a y o/\Q (o.getD .non) H2
def xV(td ty tx:TE):TE:=λσ H Q=>td σ H λx H1=>∃a,x=.ref a/\LS H1 a/\ty σ H1 λy H2=>tx σ H2 λz H3=>∃o,fZ H3 a y o/\Q (o.getD z) H3
section
variable {X:Cx}{o e f:PD}{apos cpos:So}{td ty tx:TE}
theorem Aj(hu:X.A.units+1<cLine)(ho:PE X o td)(he:PE X e ty)(hf:PE X f tx)(m:M2 X o "get" apos e f cpos):PE X (.Call (.Attribute o "get" apos) [e,f] [] cpos) (xV td ty tx):=by
 intro pins s σ H Q I h;refine WM m.base m.few m.line UT Tk PySem.F.type_dict_get (bU (ho pins s σ H _ I h) λu s1 ⟨x,H1,I1,rx,a,ex,d,q1⟩=>?_);subst ex;obtain rfl:u=O8 a:=rx;obtain⟨t1,t2,_⟩:=AV I1 d;refine⟨t1,t2,?_⟩;rw[m.trees];refine Calls.callWith_builtin Z (Calls.evalArgs_plain (Calls.spliced_cons (bU (he pins s1 σ H1 _ I1 q1) λiv s2 ⟨y,H2,I2,ry,q2⟩=>
  Calls.spliced_cons (bU (hf pins s2 σ H2 _ I2 q2) λfv s3 ⟨z,H3,I3,rz,ov,g,q3⟩=>Calls.spliced_nil ?_))))
 exact HK hu I3 g ry rz λw' s4 I4 rw'=>⟨_,H3,I4,rw',q3⟩
end
end L2
namespace B
open PySem PySem.Spec L2 PyProof.Rows
theorem ia{α β:Type}{K:Oz}{H:Hp}{D a:Addr}{xs:List V}{ds:List α}{P:Hp->V->β->Prop}{f:α->β}{src:List (Option Nat)}{σ:L2.St}{g:TG}{tt:TT}{te:TE}{Q:Hp->Prop}
  (mono:∀H H' v d,aM K H H'->P H v d->P H' v d) (hD:H D=none) (hS:bu K H a xs) (hl:xs.length=ds.length) (hn:ds.length≤1000)
  (turn:∀(i:Nat) (x:V) (d:α) (H':Hp),xs[i]?=some x->ds[i]?=some d->aE H H'->∀(R:VK) (E:Hp->Prop),(∀v H'',aE H' H''->P H'' v (f d)->R v H'')→
   g x (bW src σ) H' λσ2 H2=>gG (bW src σ) σ2/\tt σ2 H2 λok H3=>if ok=true then te σ2 H3 R else E H3)
  (fin:∀H' ys,aE H H'->H' D=some (.lst ys)->cG (P H') ys (ds.map f)->Q H') :
  ∃W:Nat->Nat->List V->Hp->Prop,(∃m,W 0 m [] (upd H D (.lst [])))/\∀i m ys H,W i m ys H->((BO K a).stop i H/\Q H)∨((BO K a).go i H/\∀x H',(BO K a).yld i H x H'→
   g x (bW src σ) H' λσ2 H2=>gG (bW src σ) σ2/\tt σ2 H2 λok H3=>
    if ok=true then te σ2 H3 λy H4=>H4 D=some (.lst ys)/\ys.length<sizeLine/\∃m',m'<m/\W (i+1) m' (ys++[y]) (upd H4 D (.lst (ys++[y]))) else ∃m',m'<m/\W (i+1) m' ys H3):=by
 refine⟨λi m ys H'=>i≤ds.length/\m=ds.length-i/\H' D=some (.lst ys)/\aE H H'/\cG (P H') ys ((ds.take i).map f),⟨_,OZ _,Z,ag,ao hD _,.nil⟩,?_⟩;rintro i m ys H1 ⟨hi,rfl,d1,s1,al1⟩;have hS1:bu K H1 a xs:=aM.same s1 _ _ hS;by_cases hix:i<ds.length
 ·have hx0:xs[i]?=some (xs[i]'(by omega)):=OA _;refine .inr ⟨⟨xs,_,hS1,hx0⟩,?_⟩;rintro x H2 ⟨rfl,hy⟩;have hx:=hy xs hS1;obtain⟨d,hd⟩:∃d,ds[i]?=some d:=⟨_,OA hix⟩;refine turn i x d _ hx hd s1 _ _ λv H3 s3 p3=>?_
  have d3:H3 D=some (.lst ys):=s3 _ _ d1;have tm:aM K H2 (upd H3 D (.lst (ys++[v]))):=(aM.same s3).trans (aM.up d3 _);refine⟨d3,aR (by rw[al1.len,OD,P7];omega),ds.length-(i+1),by omega,hix,Z,ag,λb o q=>?_,?_⟩
  ·rw[au (aC q hD)];exact s3 _ _ (s1 _ _ q)
  ·rw[Ps,hd,P0];exact(al1.mono λv d p=>mono _ _ _ _ tm p).snoc (mono _ _ _ _ (aM.up d3 _) p3)
 ·have e:i=ds.length:=by omega
  subst e;rw[Pw] at al1;exact .inl ⟨⟨xs,hS1,by omega⟩,fin H1 ys s1 d1 al1⟩
def k9:PyData->String
 | .none => "NoneType"
 | .bool _ => "bool"
 | .int _ => "int"
 | .str _ => "str"
 | .list _ => "list"
 | .tuple _ => "tuple"
 | .dict _ => "dict"
def Jp(K:Oz):List V->Hp->VK->Prop:=λxs H Q=>∃v d n b,xs=[v,.ty n]/\bv K H v d/\kj (k9 d) n=some b/\Q (.bl b) H
theorem j7:dH X (.builtin "isinstance") (Jp X.K):=by
 intro pins s σ H xs us Q I r h;obtain⟨v,d,n,b,rfl,hD,e,q⟩:=h
 cases hD with
 |non=>exact jw pins s σ H _ us Q I r ⟨_,n,_,b,Z,.non,e,q⟩
 |bl c=>exact jw pins s σ H _ us Q I r ⟨_,n,_,b,Z,.bl c,e,q⟩
 |int i=>exact jw pins s σ H _ us Q I r ⟨_,n,_,b,Z,.int i,e,q⟩
 |str x=>exact jw pins s σ H _ us Q I r ⟨_,n,_,b,Z,.str x,e,q⟩
 | @tup a ys ds hS hA=>exact xg pins s σ H _ us Q I r ⟨a,ys,n,b,Z,hS,e,q⟩
 | @lst a ys ds hS hA=>
  obtain⟨u,u2,rfl,rx,ry⟩:=uk r;obtain rfl:u2=Su n:=ry
  cases(show u=O8 a from rx)
  obtain⟨its,_,⟨o,k,h1,h2,_⟩,_⟩:=I.list hS;exact Qa Uz I.kIn ⟨o,h1,h2⟩ (tD e) (λz=>nomatch z) λtk=>⟨.bl b,H,I.tok tk,Z,q⟩
def gu:PyData->Bool
 | .int _=>true
 |_=>false
def oM(n:Nat):PyData->Bool
 | .tuple xs=>decide (xs.length=n)
 |_=>false
def jO:PyData->Bool
 | .tuple [.int a,.int b]=>decide (1≤b)&&decide (O0 a b=1)
 |_=>false
def Mw:PyData->Bool
 | .tuple [x,y]=>jO x&&jO y
 |_=>false
theorem Dp{K:Oz}{H:Hp}{v:V}{d:PyData}(h:bv K H v d):∃b c,kj (k9 d) "int"=some b/\kj (k9 d) "bool"=some c/\gu d=(b&&!c):=by
 cases h with
 |non=>exact⟨false,false,by simp only[k9];decide +kernel,by simp only[k9];decide +kernel,Z⟩
 |bl b=>exact⟨true,true,by simp only[k9];decide +kernel,by simp only[k9];decide +kernel,Z⟩
 |int i=>exact⟨true,false,by simp only[k9];decide +kernel,by simp only[k9];decide +kernel,Z⟩
 |str x=>exact⟨false,false,by simp only[k9];decide +kernel,by simp only[k9];decide +kernel,Z⟩
 |lst e t=>exact⟨false,false,by simp only[k9];decide +kernel,by simp only[k9];decide +kernel,Z⟩
 |tup e t=>exact⟨false,false,by simp only[k9];decide +kernel,by simp only[k9];decide +kernel,Z⟩
theorem Do{K:Oz}{H:Hp}{v:V}{d:PyData}(h:bv K H v d):(kj (k9 d) "tuple"=some true/\∃a xs ds,v=.ref a/\d=.tuple ds/\bu K H a xs/\bh K H xs ds)∨(kj (k9 d) "tuple"=some false/\∀ds,d≠.tuple ds):=by
 cases h with
 |non=>exact .inr ⟨by simp only[k9];decide +kernel,λ_ z=>nomatch z⟩
 |bl b=>exact .inr ⟨by simp only[k9];decide +kernel,λ_ z=>nomatch z⟩
 |int i=>exact .inr ⟨by simp only[k9];decide +kernel,λ_ z=>nomatch z⟩
 |str x=>exact .inr ⟨by simp only[k9];decide +kernel,λ_ z=>nomatch z⟩
 |lst e t=>exact .inr ⟨by simp only[k9];decide +kernel,λ_ z=>nomatch z⟩
 |tup e t=>exact .inl ⟨by simp only[k9];decide +kernel,_,_,_,Z,Z,e,t⟩
theorem BV(h:∀ds,d≠.tuple ds):oM n d=false:=by
 cases d<;>first|rfl|exact absurd Z (h _)
theorem bh.len{K:Oz}{H:Hp}:∀{xs:List V} {ds:List PyData},bh K H xs ds->xs.length=ds.length
 |_,_,.nil=>rfl
 |_,_,.cons _ t=>congrArg Nat.succ t.len
theorem bv.two{K:Oz}{H:Hp}{v:V}{d:PyData}(h:bv K H v d)(c:oM 2 d=true):∃a x y dx dy,v=.ref a/\d=.tuple [dx,dy]/\bu K H a [x,y]/\bv K H x dx/\bv K H y dy:=by
 cases h with
 | @tup a xs ds e t=>
  have l:ds.length=2:=of_decide_eq_true c
  cases t with
  |nil=>cases l
  |cons hx t=>cases t with
   |nil=>cases l
   |cons hy t=>cases t with
    |nil=>exact⟨a,_,_,_,_,Z,Z,e,hx,hy⟩
    |cons hz t=>simp at l
 |_=>cases c
theorem Cq(h:oM 2 d=false):jO d=false:=by
 cases c:jO d with
 |false=>rfl
 |true=>
  unfold jO at c
  split at c
  ·cases h
  ·cases c
structure Sh(k n:Nat)(d:PyData):Prop where
 sh:d.showable=true
 nd:d.hasDict=false
 dp:d.depth≤k
 sz:d.shown.length≤n
theorem Sh.mono(h:Sh k n d)(hk:k≤k')(hn:n≤n'):Sh k' n' d:=⟨h.sh,h.nd,O7 h.dp hk,O7 h.sz hn⟩
theorem Sh.all{k n:Nat}:∀{ds:List PyData},(∀d∈ds,Sh k n d)->Wj ds=true/\WN ds=false/\Xx ds≤k/\((Sm ds).map (·.length)).sum≤n*ds.length/\(Sm ds).length=ds.length
 | [],_=>⟨Z,Z,OZ _,OZ _,Z⟩
 |d::ds,h=>by
  obtain⟨a,b,c,e,f⟩:=Sh.all (ds:=ds) λx hx=>h x (OL _ hx)
  have z:=h d OJ;refine⟨?_,?_,?_,?_,?_⟩
  ·show(d.showable&&Wj ds)=true;rw[z.sh,a];rfl
  ·show(d.hasDict||WN ds)=false;rw[z.nd,b];rfl
  ·show max d.depth (Xx ds)≤k;exact Nat.max_le.mpr ⟨z.dp,c⟩
  ·show d.shown.length+((Sm ds).map (·.length)).sum≤n*(ds.length+1);have:=z.sz;rw[Vj];omega
  ·show(Sm ds).length+1=ds.length+1;rw[f]
theorem Sh.tup(h:∀d∈ds,Sh k n d)(hm:ds.length≤m)(hN:(n+3)*m+8≤N):Sh (k+1) N (.tuple ds):=by
 obtain⟨a,b,c,e,f⟩:=Sh.all h;refine⟨a,b,Tq c,?_⟩;show(tupleText (Sm ds)).length≤N;have q:=tupleText_len_le (Sm ds);have l:n*ds.length+3*ds.length≤(n+3)*m:=by
  rw[←Xj];exact RW _ hm
 omega
theorem Sh.shows(h:Sh k n d)(hk:k≤16)(hn:n≤16777216):vq d:=⟨h.sh,h.nd,O7 h.sz (O7 hn (by decide)),O7 h.dp hk⟩
mutual
theorem bv.same{K:Oz}{H H':Hp}(s:aE H H'):∀{v:V} {d:PyData},bv K H v d->bv K H' v d
 |_,_,.non=>.non
 |_,_,.bl b=>.bl b
 |_,_,.int i=>.int i
 |_,_,.str x=>.str x
 |_,_,.lst e t=>.lst (s.seq e) (bh.same s t)
 |_,_,.tup e t=>.tup (aM.same s _ _ e) (bh.same s t)
theorem bh.same{K:Oz}{H H':Hp}(s:aE H H'):∀{vs:List V} {ds:List PyData},bh K H vs ds->bh K H' vs ds
 |_,_,.nil=>.nil
 |_,_,.cons h t=>.cons (bv.same s h) (bh.same s t)
end
end B
namespace B
open PySem PySem.Spec L2 PyProof.Rows
def Mr(K:Oz):R2:=λx y H Q=>∃a b xs ys,x=.ref a/\y=.ref b/\bu K H a xs/\bu K H b ys/\xs.length+ys.length≤sizeLine/\∀p H',aE H H'->bu K H' p (xs++ys)->Q (.ref p) H'
def Le(K:Oz):V->Option Int->Option Int->Hp->VK->Prop:=λx lo hi H Q=>∃a xs,x=.ref a/\bu K H a xs/\∀p H',aE H H'->bu K H' p (mZ xs lo hi)->Q (.ref p) H'
theorem Ci:BB X (Le X.K):=by
 intro pins s σ H x v vl vu lo hi sl Q I rx hs pl pu h;obtain⟨a,xs,rfl,hx,q⟩:=h;refine Cj pins s σ H _ v vl vu lo hi sl Q I rx hs pl pu ?_;by_cases c:HT.sIx xs.length 0 lo=0/\HT.sIx xs.length xs.length hi=xs.length
 ·refine .inl ⟨a,xs,Z,hx,c.1,c.2,q a H (aE.refl H) ?_⟩;have e:mZ xs lo hi=xs:=by
   unfold mZ;rw[c.1,c.2,List.drop_zero,Nat.sub_zero,Pw]
  rw[e];exact hx
 ·exact .inr ⟨a,xs,Z,hx,c,λp hp=>q p _ (ao hp _) (bu.of ag)⟩
def NP(K:Oz)(s:Addr):Prop:=∃ns:List Int,ns.length≤63/\∀H:Hp,aS K H s (ns.map V.int)
structure vo(K:Oz)(H:Hp)(t s:Addr):Prop where
 ex:∃(ns:List Int) (p q:Int),H t=some (.lst [.ref s,.int p,.int q])/\((Rd H s (.lst (ns.map V.int))/\s≠t)∨∀H',aS K H' s (ns.map V.int))/\ns.length≤63/\0≤p/\0≤q
def IW(K:Oz):Sp:=λvs H Q _=>∃(a:Addr) (ns:List Int),vs=[.ref a]/\aS K H a (ns.map V.int)/\ns.length≤63/\∀(t:Addr) (H':Hp),aE H H'->H t=none->vo K H' t a->Q (.ref t) H'
def IX(K:Oz):Sp:=λvs H Q _=>∃(t s:Addr) (m:Int),vs=[.ref t,.int m]/\vo K H t s/\0<m/\m<1073741824/\∀(r:Int) (xs:List V),0≤r->r<m->vo K (upd H t (.lst xs)) t s->Q (.int r) (upd H t (.lst xs))
section
set_option autoImplicit true
set_option relaxedAutoImplicit true
theorem kG{X:Cx}{elts:List PD}{x1}{tp p pos:So}{a:PD}{ta:TA}(hg:Gl X "enumerate")(hm:X.mg "enumerate"=none)(ha:QA X [a] ta)(hs:OS [a] X.env=[(false,eval a X.env)]:=by rfl):QI X (.Tuple elts x1 tp) (.Call (.Name "enumerate" p) [a] [] pos) (JU X.K ta):=⟨CM hg hm ha.p hs⟩
theorem l4{X:Cx}{elts:List PD}{x1}{tp p pos:So}{a:PD}{ta:TA}(hg:Gl X "enumerate")(hm:X.mg "enumerate"=none)(ha:QA X [a] ta)(hs:OS [a] X.env=[(false,eval a X.env)]:=by rfl):QI X (.Tuple elts x1 tp) (.Call (.Name "enumerate" p) [a] [] pos) (JV X.K ta):=⟨z9 hg hm ha.p hs⟩
end
theorem kM:∀{ns:List Int} {us:List Value},be (ns.map V.int) us->VM us ns
 | [],_,.nil=>.nil
 |n::ns,_,.cons r t=>by
  obtain⟨tk,rfl⟩:=(show ∃t,_=Q0 n t from r);exact .cons _ _ (kM t)
theorem xb(hc:X.calm=true):dH X (.builtin "sum") (λxs H Q=>∃(p:Addr) (ns:List Int),xs=[.ref p]/\aS X.K H p (ns.map V.int)/\Q (.int ns.sum) H):=by
 intro pins s σ H xs us Q I r h;obtain⟨p,ns,rfl,hq,q⟩:=h;obtain⟨u,rfl,rx⟩:=fQ r
 cases rx
 obtain⟨its,rv,pl,hz⟩:=I.list hq;have hi:=kM rv;obtain⟨zs,ez⟩:=hi.allInts.items;have hl:=pl.isList;rw[ez] at hl;have en:numsOf its=ns:=hi.numsOf;rw[show its=its.toArray.toList from Z,ez,V5] at en;refine sum_intListG (I.ok.hd hc) hl λh' tk t' hk=>?_
 rw[preSum_eq,Vk (by simp),en];exact⟨.int ns.sum,H,I.kept (t':=tk) hk,⟨_,Z⟩,q⟩
section
variable {prog:Po}{w:PM}{A:PB}{E:Value->OI->Prop}{s:OI}
theorem m7{a b c:Int}{n:Nat}(hh:A.handled=none)(hr:VJ s.heap r a b c t u v)(hsmall:RY a b c=true)
  (hn:Qc a b c=n) (hlen:n≤2^24)
  (hQ:∀h' tk acc,(∀b o,s.heap.get? b=some o->h'.get? b=some o)->Yo (λi v=>∃t,v=.int (a+i*c) t) acc n->Q acc.toList { s with heap:=h',toks:=tk}):
  OY (O3 prog w) A (collect (.ref r)) Q E s:=by
 unfold collect;refine OE (wpAny_runValue (codeAny_builtin F.entry_proto_collect ?_));rw[VF F.plain_proto_collect _];show OY _ A.in1 (XE [] >>= λl=>again (.builtin "list.__iadd__" ⟨[l,.ref r],[]⟩)) _ _ s;refine OE (P8 ?_);refine wpAny_pure ⟨plainId_quiet F.plain_list_iadd _,codeAny_builtin F.entry_list_iadd ?_⟩;rw[VF F.plain_list_iadd _];show OY _ A.in1 (PH.List.listExtendWith (.ref s.heap.objs.size) (.ref r) (.ref s.heap.objs.size)) _ _ { s with heap:=s.heap.push { cls:=.type "list",data:=.seq ([]:List Value).toArray} };refine wpAny_extend_range (R:=wants (λv s'=>OY (O3 prog w) A (match v with | .ref a=>(do match (←load a).data with | .seq xs _=>QP xs.toList|_=>unsupported "internal:collect")|_=>unsupported "internal:collect") Q E s') E) (s:={ s with heap:=s.heap.push { cls:=.type "list",data:=.seq ([]:List Value).toArray} }) hh (OG _ hr) hsmall hn hlen s.heap.objs.size _ _ (O4 _ rfl) λh' tk acc' c' hk hS hI=>?_
 show OY _ A (load s.heap.objs.size >>= _) _ _ _;refine OE (wpAny_load hS ?_);exact wpAny_pure (hQ h' tk acc' (λb o e=>hk b o (PF (OW e)) (OG _ e)) hI)
theorem jk{a b c:Int}{n:Nat}(hsmall:RY a b c=true)(hn:Qc a b c=n)(hlen:n≤2^24):
  Meets (PH.«tuple.__new__» ⟨[.type "tuple",.ref r],[]⟩)
   (λA R s=>A.handled=none/\VJ s.heap r a b c t u v/\∀(h':OR) (tk:Nat) (acc:Array Value),(∀b o,s.heap.get? b=some o->h'.get? b=some o)->Yo (λi v=>∃t,v=.int (a+i*c) t) acc n→
    R (.ok (.ret (.ref h'.objs.size))) { s with heap:=h'.push { cls:=.type "tuple",data:=.seq acc},toks:=tk}):=
 .of_wp λprog w A R s h=>by
  obtain⟨hh,hr,h⟩:=h;have hsub:=sub_tuple_self;have hinit:=init_tuple_lookup;have hmh:=madeHere_tuple;have hT:s.TypeIs (.ref r) "range" := ⟨_,hr,Z⟩;have hh1:A.in1.handled=none:=hh
  wp_walk using Vc hT,m7 hh1 hr hsmall hn hlen
  intro h' tk acc hk hacc;show OY _ _ (QJ acc.toList.toArray >>= λv=>ret v) _ _ _;unfold QJ;refine OE (P8 ?_ (show acc.toList.toArray.size≤sizeLine by simp only[Array.toArray_toList];rw[hacc.1,Rj];exact hlen));refine wpAny_pure ⟨_,Z,?_⟩;have e:acc.toList.toArray=acc:=by simp
  rw[e];exact h h' tk acc hk hacc
theorem j6{a b c:Int}{n:Nat}(hh:A.handled=none)(hr:VJ s.heap r a b c t u v)(hsmall:RY a b c=true)
  (hn:Qc a b c=n) (hlen:n≤2^24)
  (hQ:∀(h':OR) (tk:Nat) (acc:Array Value),(∀b o,s.heap.get? b=some o->h'.get? b=some o)->Yo (λi v=>∃t,v=.int (a+i*c) t) acc n->Q (.ref h'.objs.size) { s with heap:=h'.push { cls:=.type "tuple",data:=.seq acc},toks:=tk}):
  OY (O3 prog w) A (call (.type "tuple") [.ref r]) Q E s:=by
 refine callType_new F.called_tuple (by decide) (F.typeCall_tuple_1 _) (F.newCall_tuple_1 _) (λobj=>F.args_object_init_2 obj _) F.entry_tuple_new
  (jk hsmall hn hlen) ⟨hh,hr,λh' tk acc hk hacc=>⟨⟨_,O4 _ Z,Z⟩,hQ h' tk acc hk hacc⟩⟩
end
def upTo(n:Nat):List Int:=(OB n).map λi:Nat=>(i:Int)
theorem kX(h:Yo (λi v=>∃t,v=.int ((0:Int)+i*1) t) acc n):be ((upTo n).map V.int) acc.toList:=by
 obtain⟨hl,ha⟩:=h;have key:∀m,m≤n->be ((upTo m).map V.int) (acc.toList.take m):=by
  intro m
  induction m with
  |zero=>intro _;rw[X0];exact .nil
  |succ m ih=>
   intro hm;have hlt:m<acc.size:=by omega
   have e1:acc.toList.take (m+1)=acc.toList.take m++[acc[m]]:=by
    rw[Ps];simp[hlt]
   have e2:(upTo (m+1)).map V.int=(upTo m).map V.int++[V.int m]:=by
    unfold upTo;rw[P4];simp
   rw[e1,e2];refine(ih (by omega)).append (.cons ?_ .nil);obtain⟨t,e⟩:=ha m acc[m] (by simp[hlt]);exact⟨t,by rw[e];simp⟩
 have:=key n (OC _)
 rwa [Vk (by simp[hl])] at this
def D5(ta:TA):TE:=λσ H Q=>ta σ H λvs H1=>∃j:Int,vs=[.int j]/\∀p,H1 p=none->Q (.ref p) (upd H1 p (.rng 0 j))
theorem CQ{X:Cx}{a:PD}{ta:TA}{p pos:So}(hg:Gl X "range")(hm:X.mg "range"=none)(ha:PA X [a] ta)(hs:OS [a] X.env=[(false,eval a X.env)]:=by rfl) :
  PE X (.Call (.Name "range" p) [a] [] pos) (D5 ta):=by
 intro pins s σ H Q I h;refine Call_ (gT I hg hm XO (Qj (bU (ha pos pins s σ H _ I h) λus s1 ⟨vs,H1,I1,r1,q1⟩=>?_) hs Z));obtain⟨j,e,q⟩:=q1;subst e;obtain⟨u,rfl,t,rfl⟩:=fQ r1;refine call_range_1 ?_;exact⟨.ref s1.heap.objs.size,_,I1.laid (o:=.rng 0 j) (λb o e=>OG _ e) (OC _) ⟨_,t,_,O4 _ Z⟩,Z,q _ (I1.hok.fresh (OC _))⟩
theorem ux(n:Nat):Qc 0 n 1=n:=by rw[rangeSize_one];split<;>omega
theorem rK(hc:X.calm=true):dH X (.type "tuple") (λxs H Q=>∃p,∃n:Nat,xs=[.ref p]/\H p=some (.rng 0 n)/\n≤1000/\∀l,H l=none->Q (.ref l) (upd H l (.tup ((upTo n).map V.int)))):=by
 intro pins s σ H xs us Q I r h;obtain⟨p,n,rfl,hp,hn,q⟩:=h;obtain⟨u,rfl,rx⟩:=fQ r
 cases rx
 obtain⟨t,u,w,e⟩:=(show ObjOk X.prog X.w H s.heap p (.rng 0 n) from I.hok p _ hp);refine j6 (I.ok.hd hc) (show VJ s.heap p 0 n 1 t u w from e) (Yg (by omega) (by omega) (by omega) (by omega)) (ux n) (by omega) λh' tk acc hk hi=>?_
 have rv:=kX hi;have I1:Inv X pins σ H { s with heap:=h',toks:=tk}:=I.kept (t':=tk) hk;have hl:(upTo n).length=n:=by unfold upTo;simp
 have I2:Inv X pins σ (upd H h'.objs.size (.tup ((upTo n).map V.int))) { s with heap:=h'.push { cls:=.type "tuple",data:=.seq acc},toks:=tk}:=
  I1.laid (t':=tk) (λb o e=>OG _ e) (OC _) (show ObjOk X.prog X.w _ _ _ (.tup ((upTo n).map V.int)) from⟨by rw[OD,hl,Rj];omega,acc.toList,rv,by have:=WX h' acc;simpa using this⟩)
 exact⟨.ref h'.objs.size,_,I2,Z,q _ (I1.hok.fresh (OC _))⟩
def Km(hi:Int)(n:Nat):It:=⟨λi _=>i<n,λi H x H'=>H'=H/\x=.int (hi-i),λi _=>n≤i⟩
theorem vB{P:Po}{w:PM}{K:Oz}{tg:PD}(it:Addr)(lo:Int)(n:Nat):rP P w K tg (Km lo n) [it] it (λi h=>Vy h it (lo+(i:Nat)*(-1)) ((n:Int)-(i:Nat)) (-1)) where
 mem:=by simp
 obj:=λi h st b hb=>by
  have e:b=it:=by simpa using hb
  subst e;exact⟨_,st,λv z=>by
   have z':Uu _=VI v:=z
   cases z'⟩
 keep:=λi h h' st k=>k it (by simp) _ st
 item:=by
  intro X hP hw hK hc i pins s σ H E I hf st hg;subst hP hw hK;obtain⟨f0,f1,f2,f3,f4,f5⟩:=hf it (by simp);have W:=Walks.range (prog:=X.prog) (w:=X.w) (I.ok.hd hc) it lo (-1) n;refine W.item i s _ _ hg st λv h' tk hv st' kk=>?_
  obtain⟨t,rfl⟩:=hv;have I1:Inv X pins σ H { s with heap:=h',toks:=tk}:=I.turned (λb o hb e=>kk b o (by simpa using hb) e) f0 f1 f3 f4 f5;refine⟨_,rfl,uZ (s:={ s with heap:=h',toks:=tk}) (n := "range_iterator") st' rfl rfl (by decide) ⟨.int (lo-i),H,I1,⟨t,?_⟩,⟨rfl,rfl⟩,st',λb hb=>(hf b hb).1⟩⟩;rw[show lo+(i:Int)*(-1)=lo-i by omega]
 done:=by
  intro X hP hw hK hc i pins s σ H E I hf st hg;subst hP hw hK;obtain⟨f0,f1,f2,f3,f4,f5⟩:=hf it (by simp);exact U3 (I.ok.hd hc) st (by have:n≤i:=hg;omega) λh' eb=>⟨Z,I.turned (t':=s.toks) (λb o hb e=>eb b o hb e) f0 f1 f3 f4 f5⟩
 self:=λ_ _ _ _ _ st h=>U4 st h
theorem nJ(a b:Int):Qc a b (-1)=((a-b).toNat:Nat):=by
 unfold Qc;rw[if_neg (by decide)]
 split
 ·rw[show(-(-1):Int)=1 by decide,Va];omega
 ·omega
theorem sj(ha:-1000≤a)(ha':a≤1000)(hb:-1000≤b)(hb':b≤1000):RY a b (-1)=true:=by
 unfold RY;rw[nJ];simp only[PH.Range.rangeFitsLong,O2,Xy,decide_eq_true_eq,beq_iff_eq,show ¬(-1:Int)>0 by decide,if_false];omega
def EA(ta:TA):TI:=λσ H R=>ta σ H λvs H1=>∃i j:Int,vs=[.int i,.int j,.int (-1)]/\(-1000≤i/\i≤1000/\-1000≤j/\j≤1000)/\R (Km i (i-j).toNat) H1
theorem v6{X:Cx}{tg:PD}{a b c:PD}{ta:TA}{p pos:So}(hg:Gl X "range")(hm:X.mg "range"=none)(ha:PA X [a,b,c] ta)(hs:OS [a,b,c] X.env=[(false,eval a X.env),(false,eval b X.env),(false,eval c X.env)]:=by rfl)(hs2:OS [b,c] X.env=[(false,eval b X.env),(false,eval c X.env)]:=by rfl) :
  PI X tg (.Call (.Name "range" p) [a,b,c] [] pos) (EA ta):=by
 intro pins s σ H R I h;refine Call_ (gT I hg hm XO (Qj (bU (ha pos pins s σ H _ I h) λus s1 ⟨vs,H1,I1,r1,q1⟩=>?_) (by rw[hs,hs2]) (by rw[hs2];rfl)));obtain⟨i,j,e,⟨q1,q2,q3,q4⟩,q⟩:=q1;subst e
 cases r1 with
 |cons r rr=>
  cases rr with
  |cons r' rr=>
   cases rr with
   |cons r'' rr=>
    cases rr
    obtain⟨t,rfl⟩:=r;obtain⟨t',rfl⟩:=r';obtain⟨t'',rfl⟩:=r'';refine call_range_3 (by decide) ?_ (.inl (U5 (by decide)));refine V9 (VJ.new ..) (sj q1 q2 q3 q4) ?_;have I2:Inv X pins σ H1 { s1 with heap:=s1.heap.push { cls:=.type "range",data:=.fields #[.int i t,.int j t',.int (-1) t'']},toks:=s1.toks}:=I1.kept λb o e=>OG _ e
    refine⟨(s1.heap.push { cls:=.type "range",data:=.fields #[.int i t,.int j t',.int (-1) t'']}).objs.size,[(s1.heap.push { cls:=.type "range",data:=.fields #[.int i t,.int j t',.int (-1) t'']}).objs.size],_,_,H1,Z,
     I2.kept (t':=s1.toks) λb o e=>OG _ e,vB _ i (i-j).toNat,?_,λb hb=>?_,q⟩
    ·have e1:i+((0:Nat):Int)*(-1)=i:=by simp
     have e2:(((i-j).toNat:Nat):Int)-((0:Nat):Int)=Qc i j (-1):=by rw[nJ];omega
     show Vy _ _ (i+((0:Nat):Int)*(-1)) ((((i-j).toNat:Nat):Int)-((0:Nat):Int)) (-1);rw[e1,e2];exact O4 _ Z
    ·have e:b=(s1.heap.push { cls:=.type "range",data:=.fields #[.int i t,.int j t',.int (-1) t'']}).objs.size:=by simpa using hb
     subst e;exact I2.fpOk (OC _) (I2.hok.fresh (OC _))
theorem A5{hi:Int}{n:Nat}{g:TG}{tb:TS}{D:iV}{σ:L2.St}{H:Hp}(Pv:Nat->L2.St->Hp->Prop)(h0:Pv 0 σ H)
  (hs:∀i σ H,i<n->Pv i σ H->g (.int (hi-i)) σ H λσ2 H2=>tb { D with nx:=Pv (i+1),ct:=Pv (i+1),bk:=D.nx} σ2 H2) (hd:∀σ H,Pv n σ H->D.nx σ H) :
  ∃W:Nat->Nat->L2.St->Hp->Prop,(∃m,W 0 m σ H)/\∀i m σ H,W i m σ H→
   ((Km hi n).stop i H/\D.nx σ H)∨((Km hi n).go i H/\∃N:L2.St->Hp->Prop,(∀σ' H',N σ' H'->∃m',m'<m/\W (i+1) m' σ' H')/\∀x H',(Km hi n).yld i H x H'->g x σ H' λσ2 H2=>tb { D with nx:=N,ct:=N,bk:=D.nx} σ2 H2):=by
 refine⟨λi m σ H=>m=n-i/\i≤n/\Pv i σ H,⟨_,Z,OZ _,h0⟩,?_⟩;rintro i m σ H ⟨rfl,hi',p⟩;by_cases hlt:i<n
 ·refine .inr ⟨hlt,Pv (i+1),λσ' H' p'=>⟨n-(i+1),by omega,Z,hlt,p'⟩,λx H' y=>?_⟩;obtain⟨rfl,rfl⟩:=y;exact hs i σ _ hlt p
 ·have e:i=n:=by omega
  subst e;exact .inl ⟨OC _,hd σ H p⟩
section
set_option autoImplicit true
set_option relaxedAutoImplicit true
theorem uH{X:Cx}{a:PD}{ta:TA}{p pos:So}(hg:Gl X "range")(hm:X.mg "range"=none)(ha:QA X [a] ta)(hs:OS [a] X.env=[(false,eval a X.env)]:=by rfl):QE X (.Call (.Name "range" p) [a] [] pos) (D5 ta):=⟨CQ hg hm ha.p hs⟩
theorem vV{X:Cx}{tg:PD}{a b c:PD}{ta:TA}{p pos:So}(hg:Gl X "range")(hm:X.mg "range"=none)(ha:QA X [a,b,c] ta)(hs:OS [a,b,c] X.env=[(false,eval a X.env),(false,eval b X.env),(false,eval c X.env)]:=by rfl)(hs2:OS [b,c] X.env=[(false,eval b X.env),(false,eval c X.env)]:=by rfl):QI X tg (.Call (.Name "range" p) [a,b,c] [] pos) (EA ta):=⟨v6 hg hm ha.p hs hs2⟩
end
structure J8(J:It)(H:Hp)(n:Nat)(P:Nat->V->Hp->Prop):Prop where
 go:∀i H',i<n->aE H H'->J.go i H'
 stop:∀H',aE H H'->J.stop n H'
 yld:∀i H' x H'',i<n->aE H H'->J.yld i H' x H''->aE H' H''/\P i x H''
theorem g5{K:Oz}{H:Hp}{a:Addr}{xs:List V}(h:aS K H a xs):J8 (xA K a) H xs.length (λi x _=>xs[i]?=some x) where
 go:=λi H' hi s=>⟨xs,_,s.seq h,OA hi⟩
 stop:=λH' s=>⟨xs,s.seq h,OC _⟩
 yld:=λi H' x H'' hi s y=>by obtain⟨rfl,hy⟩:=y;exact⟨aE.refl _,hy xs (s.seq h)⟩
theorem BR{K:Oz}{H:Hp}{a:Addr}{xs:List V}(h:bu K H a xs):J8 (BO K a) H xs.length (λi x _=>xs[i]?=some x) where
 go:=λi H' hi s=>⟨xs,_,aM.same s _ _ h,OA hi⟩
 stop:=λH' s=>⟨xs,aM.same s _ _ h,OC _⟩
 yld:=λi H' x H'' hi s y=>by obtain⟨rfl,hy⟩:=y;exact⟨aE.refl _,hy xs (aM.same s _ _ h)⟩
theorem oF{K:Oz}{H:Hp}{a:Addr}{xs:List V}(h:bu K H a xs):J8 (xB K a) H xs.length (λi v H'=>∃p x,v=.ref p/\xs[i]?=some x/\H' p=some (.tup [.int i,x])) where
 go:=λi H' hi s=>⟨xs,_,aM.same s _ _ h,OA hi⟩
 stop:=λH' s=>⟨xs,aM.same s _ _ h,OC _⟩
 yld:=λi H' x H'' hi s y=>by obtain⟨p,v,hp,rfl,rfl,hy⟩:=y;exact⟨ao hp _,p,v,Z,hy xs (aM.same s _ _ h),ag⟩
theorem uf{K:Oz}{H:Hp}{a:Addr}{xs:List V}(h:aS K H a xs):J8 (xC K a) H xs.length (λi v H'=>∃p x,v=.ref p/\xs[i]?=some x/\H' p=some (.tup [.int i,x])) where
 go:=λi H' hi s=>⟨xs,_,s.seq h,OA hi⟩
 stop:=λH' s=>⟨xs,s.seq h,OC _⟩
 yld:=λi H' x H'' hi s y=>by obtain⟨p,v,hp,rfl,rfl,hy⟩:=y;exact⟨ao hp _,p,v,Z,hy xs (s.seq h),ag⟩
theorem dM{J:It}{H:Hp}{D:Addr}{n:Nat}{P:Nat->V->Hp->Prop}(w:J8 J H n P)(c:Nat->Bool)(f:Nat->V){src:List (Option Nat)}{σ:L2.St}{g:TG}{tt:TT}{te:TE}{Q:Hp->Prop}(hD:H D=none)(hn:n≤1000)
  (turn:∀(i:Nat) (x:V) (H':Hp),i<n->aE H H'->P i x H'->∀(R:VK) (E:Hp->Prop),(c i=true->∀H'',aE H' H''->R (f i) H'')->(c i=false->∀H'',aE H' H''->E H'')→
   g x (bW src σ) H' λσ2 H2=>gG (bW src σ) σ2/\tt σ2 H2 λok H3=>if ok=true then te σ2 H3 R else E H3)
  (fin:∀H',aE H H'->H' D=some (.lst (((OB n).filter c).map f))->Q H') :
  ∃W:Nat->Nat->List V->Hp->Prop,(∃m,W 0 m [] (upd H D (.lst [])))/\∀i m ys H,W i m ys H->(J.stop i H/\Q H)∨(J.go i H/\∀x H',J.yld i H x H'→
   g x (bW src σ) H' λσ2 H2=>gG (bW src σ) σ2/\tt σ2 H2 λok H3=>
    if ok=true then te σ2 H3 λy H4=>H4 D=some (.lst ys)/\ys.length<sizeLine/\∃m',m'<m/\W (i+1) m' (ys++[y]) (upd H4 D (.lst (ys++[y]))) else ∃m',m'<m/\W (i+1) m' ys H3):=by
 refine⟨λi m ys H'=>i≤n/\m=n-i/\ys=((OB i).filter c).map f/\aE H H'/\H' D=some (.lst ys),⟨_,OZ _,Z,Z,ao hD _,ag⟩,?_⟩;rintro i m ys H1 ⟨hi,rfl,rfl,s1,d1⟩;by_cases hix:i<n
 ·refine .inr ⟨w.go i H1 hix s1,λx H2 y=>?_⟩;obtain⟨s2,p⟩:=w.yld i H1 x H2 hix s1 y;have d2:=s2 _ _ d1;have len:(((OB i).filter c).map f).length≤i:=by
   rw[OD];exact O7 (Pt _ _) (by rw[Pi];exact OC _)
  refine turn i x H2 hix (s1.trans s2) p _ _ (λhc H3 s3=>?_) λhc H3 s3=>?_
  ·have d3:=s3 _ _ d2;refine⟨d3,aR (by omega),n-(i+1),by omega,hix,Z,?_,λb o q=>?_,ag⟩
   ·rw[P4,RC,P0];simp[hc]
   ·rw[au (aC q hD)];exact s3 _ _ (s2 _ _ (s1 _ _ q))
  ·refine⟨n-(i+1),by omega,hix,Z,?_,(s1.trans s2).trans s3,s3 _ _ d2⟩;rw[P4,RC,P0];simp[hc]
 ·have e:i=n:=by omega
  subst e;exact .inl ⟨w.stop H1 s1,fin H1 s1 d1⟩
theorem eX{α β:Type}(d:α)(p:α->Bool)(f:α->β):∀l:List α,((OB l.length).filter λi=>p (l.getD i d)).map (λi=>f (l.getD i d))=(l.filter p).map f
 | []=>rfl
 |x::l=>by
  have ih:=eX d p f l;rw[Pu,Vl,Xb,Xb];have e:(((OB l.length).map Nat.succ).filter λi=>p ((x::l).getD i d)).map (λi=>f ((x::l).getD i d))=(l.filter p).map f:=by
   rw[List.filter_map,Qt];exact ih
  show(if p x=true then _ else _:List Nat).map _=_
  cases hp:p x with
  |true=>
   simp only[if_true,Pm];rw[e];rfl
  |false=>
   simp only[RD,if_false];exact e
theorem dZ{α β:Type}(d:α)(f:α->β)(l:List α):((OB l.length).filter λ_=>true).map (λi=>f (l.getD i d))=l.map f:=by
 have:=eX d (λ_=>true) f l;rw[this,Q1.mpr (by intros;rfl)]
theorem az{α:Type}{l:List α}{i:Nat}{x:α}(d:α)(h:l[i]?=some x):l.getD i d=x:=by rw[OF,h];rfl
section
variable {prog:Po}{w:PM}{A:PB}{E:Value->OI->Prop}{s:OI}
theorem zI(hl:s.heap.get? l=some { cls:=.type "list",dict:=none,data:=.seq items k,slots:=#[]})
  (hlo:-(2^63:Int)≤x) (hhi:x<2^63) (hsz:items.size*x.toNat≤2^24)
  (h:Q (.ref s.heap.objs.size) { s with heap:=s.heap.push { cls:=.type "list",data:=.seq (X1 (λx1 x2=>x1++x2) #[] (Pg (if items.isEmpty=true then 0 else x.toNat) items))} }):
  OY (O3 prog w) A (Sj .Mult (.ref l) (.int x u)) Q E s:=
 wpAny_binaryOp_repeat_ref (T := "list") (U := "int") (by decide) ⟨_,hl,Z⟩ (λs'=>Ve s' x u) noFill_list_mul F.fills_int_mul F.slot_int_rmul repeat_list F.slot_int_index.lookup
  (Wg F.slot_int_rmul (Ve s x u) F.entry_int_rmul (F.args_int_rmul_2 _ _) (int___rmul___int_list x u l items k)
   ⟨hl,Z,⟨_,hl,Z⟩,Wg F.slot_list_mul ⟨_,hl,Z⟩ F.entry_list_mul (F.args_list_mul_2 _ _)
    (AutoListH.list___mul___list_int_3 l items k x u (by simp[PH.List.listFitsIndex];omega) (by omega) (by simp[PH.List.listTooLong,sizeLine];omega))
    ⟨hl,h⟩⟩)
end
theorem rn(u:Value):∀(n:Nat) (acc:Array Value),(X1 (λx1 x2=>x1++x2) acc (Pg n #[u])).toList=acc.toList++Pg n u
 |0,acc=>by simp
 |n+1,acc=>by
  rw[VU,PR,rn u n,VU];simp
theorem qh{v:V}{u:Value}(r:RelV v u):∀n:Nat,be (Pg n v) (Pg n u)
 |0=>.nil
 |n+1=>.cons r (qh r n)
theorem uM:ib X (Sj .Mult) (λx y H Q=>∃(p:Addr) (v:V) (n:Nat),x=.ref p/\y=.int n/\H p=some (.lst [v])/\n≤1000/\∀l,H l=none->Q (.ref l) (upd H l (.lst (Pg n v)))):=by
 intro pins s σ H x y xv yv Q I rx ry h;obtain⟨p,v,n,rfl,rfl,hp,hn,q⟩:=h
 cases(show xv=O8 p from rx)
 obtain⟨t,rfl⟩:=(show ∃t,yv=Q0 n t from ry);obtain⟨_,its,c,rv,e⟩:=(show ObjOk X.prog X.w H s.heap p (.lst [v]) from I.hok p _ hp)
 cases rv with
 | @cons _ u _ _ r0 rr=>
 cases rr
 refine zI e (by omega) (by omega) (by simp;omega) ?_;have el:(X1 (λx1 x2=>x1++x2) #[] (Pg (if([u]:List Value).toArray.isEmpty=true then 0 else(n:Int).toNat) [u].toArray))=(Pg n u).toArray:=by
  apply Array.ext';have:=rn u n #[]
  simpa using this
 rw[el];have I2:Inv X pins σ (upd H s.heap.objs.size (.lst (Pg n v))) { s with heap:=s.heap.push { cls:=.type "list",data:=.seq (Pg n u).toArray} }:=
  I.laid (t':=s.toks) (λb o e=>OG _ e) (OC _) (show ObjOk X.prog X.w _ _ _ (.lst (Pg n v)) from⟨by rw[Tg,Rj];omega,Pg n u,_,qh r0 n,O4 _ Z⟩)
 exact⟨.ref s.heap.objs.size,_,I2,Z,q _ (I.hok.fresh (OC _))⟩
theorem tR(hc:X.calm=true):dH X (.type "list") (λxs H Q=>∃p,∃n:Nat,xs=[.ref p]/\H p=some (.rng 0 n)/\n≤1000/\∀l,H l=none->Q (.ref l) (upd H l (.lst ((upTo n).map V.int)))):=by
 intro pins s σ H xs us Q I r h;obtain⟨p,n,rfl,hp,hn,q⟩:=h;obtain⟨u,rfl,rx⟩:=fQ r
 cases rx
 obtain⟨t,u,w,e⟩:=(show ObjOk X.prog X.w H s.heap p (.rng 0 n) from I.hok p _ hp);refine call_list_range (I.ok.hd hc) (show VJ s.heap p 0 n 1 t u w from e) (Yg (by omega) (by omega) (by omega) (by omega)) (ux n) (by omega) λh' tk acc c' hk hS hi=>?_
 have rv:=kX hi;have hl:(upTo n).length=n:=by unfold upTo;simp
 have I2:Inv X pins σ (upd H s.heap.objs.size (.lst ((upTo n).map V.int))) { s with heap:=h',toks:=tk}:=
  I.laid (t':=tk) hk (OC _) (show ObjOk X.prog X.w _ _ _ (.lst ((upTo n).map V.int)) from⟨by rw[OD,hl,Rj];omega,acc.toList,c',rv,by simpa using hS⟩)
 exact⟨.ref s.heap.objs.size,_,I2,Z,q _ (I.hok.fresh (OC _))⟩
theorem mW{X:Cx}{K:Oz}(hK:X.K=K):ib X (Qs .NotIn) (Mp K true):=hK▸pJ
theorem Dq(t:Nat)(ls:List Nat):Hq (.int t) (ls.map λn:Nat=>V.int n)=ls.contains t:=by
 unfold Hq;rw[WO]
 induction ls with
 |nil=>rfl
 |cons a r ih=>
  rw[Rg,Sg,ih]
  congr 1
  show decide (((a:Nat):Int)=(t:Nat))=(t==a);by_cases h:t=a
  ·subst h;simp
  ·rw[beq_eq_false_iff_ne.mpr h];exact decide_eq_false (by omega)
theorem A6(ls:List Nat):(ls.map λn:Nat=>V.int n).all js=true:=by
 rw[List.all_map,QV];intro x _;rfl
def DV(ds:List PyData):Prop:=∀e∈ds,e.canLay0=true/\e.depth≤32
def NA(K:Oz):R2:=λx y H Q=>∃p xs ds d,y=.ref p/\aS K H p xs/\bh K H xs ds/\DV ds/\bv K H x d/\d.canLay0=true/\Qz d d=true/\Q (.bl (ds.any λe=>Qz e d)) H
def KG(K:Oz):R2:=λx y H Q=>∃p xs ds d,y=.ref p/\aS K H p xs/\bh K H xs ds/\DV ds/\bv K H x d/\d.canLay0=true/\Qz d d=true/\Q (.bl (!ds.any λe=>Qz e d)) H
def Mo(K:Oz):R2:=λx y H Q=>∃p xs ds d,y=.ref p/\bu K H p xs/\bh K H xs ds/\DV ds/\bv K H x d/\d.canLay0=true/\Qz d d=true/\Q (.bl (ds.any λe=>Qz e d)) H
def KJ(K:Oz):V->List V->Hp->VK->Prop:=λx vs H Q=>∃p xs ds w d,x=.ref p/\vs=[w]/\aS K H p xs/\bh K H xs ds/\DV ds/\bv K H w d/\d.canLay0=true/\Qz d d=true/\(∃e∈ds,Qz e d=true)∧
 ∀(j:Nat) (e:PyData),ds[j]?=some e->Qz e d=true->(∀m f,m<j->ds[m]?=some f->Qz f d=false)->Q (.int j) H
def KH:V->List V->Hp->VK->Prop:=λx vs H Q=>∃(l:Addr) (xs:List V) (j:Nat) (y:V),x=.ref l/\vs=[.int j,y]/\H l=some (.lst xs)/\j≤xs.length/\xs.length<sizeLine/\Q .non (upd H l (.lst (xs.take j++y::xs.drop j)))
mutual
def MD:PyData->Bool
 | .int i=>decide (i.natAbs<2^230)
 | .tuple ds=>tH ds
 | .list ds=>tH ds
 | .dict _=>false
 |_=>true
def tH:List PyData->Bool
 | []=>true
 |d::ds=>MD d&&tH ds
end
structure Gd(k n:Nat)(d:PyData):Prop where
 sh:Sh k n d
 lay:d.canLay0=true
 bd:MD d=true
def J4:PyData->R
 | .tuple [.int a,.int b]=>(a,b)
 |_=>(0,1)
def LF:PyData->R×R
 | .tuple [x,y]=>(J4 x,J4 y)
 |_=>sO
end B
namespace B
open PySem PySem.Spec L2 PyProof.Rows
theorem xf(hc:X.calm=true):dH X (.builtin "max") (λxs H Q=>∃(p:Addr) (ns:List Int),xs=[.ref p]/\aS X.K H p (ns.map V.int)/\0<ns.length/\∀M,M∈ns->(∀a∈ns,a≤M)->Q (.int M) H):=by
 intro pins s σ H xs us Q I r h;obtain⟨p,ns,rfl,hq,hne,q⟩:=h;obtain⟨u,rfl,rx⟩:=fQ r
 cases rx
 obtain⟨its,rv,pl,hz⟩:=I.list hq;have hi:=kM rv;obtain⟨zs,ez⟩:=hi.allInts.items;have hl:=pl.isList;rw[ez] at hl;have en:numsOf its=ns:=hi.numsOf;rw[show its=its.toArray.toList from Z,ez,V5] at en;have hlen:zs.size=ns.length:=by rw[←en,OD,Qx]
 refine max_intList (I.ok.hd hc) hl (by omega) λv h' tk hv hk=>?_
 obtain⟨t,rfl⟩:=intItems_at hv;obtain⟨h1,h2⟩:=argBest_gt (numAt zs) (zs.size-1);refine⟨.int _,H,I.kept (t':=tk) hk,⟨_,Z⟩,q _ ?_ λa ha=>?_⟩
 ·rw[X2,en];exact getD_mem (by omega)
 ·rw[←en] at ha;obtain⟨j,hj,rfl⟩:=mem_getD ha;rw[OD,Qx] at hj;rw[←X2];exact h2 j (by omega)
theorem oq(hc:X.calm=true):dH X (.builtin "min") (λxs H Q=>∃(p:Addr) (ns:List Int),xs=[.ref p]/\aS X.K H p (ns.map V.int)/\0<ns.length/\∀M,M∈ns->(∀a∈ns,M≤a)->Q (.int M) H):=by
 intro pins s σ H xs us Q I r h;obtain⟨p,ns,rfl,hq,hne,q⟩:=h;obtain⟨u,rfl,rx⟩:=fQ r
 cases rx
 obtain⟨its,rv,pl,hz⟩:=I.list hq;have hi:=kM rv;obtain⟨zs,ez⟩:=hi.allInts.items;have hl:=pl.isList;rw[ez] at hl;have en:numsOf its=ns:=hi.numsOf;rw[show its=its.toArray.toList from Z,ez,V5] at en;have hlen:zs.size=ns.length:=by rw[←en,OD,Qx]
 refine min_intList (I.ok.hd hc) hl (by omega) λv h' tk hv hk=>?_
 obtain⟨t,rfl⟩:=intItems_at hv;obtain⟨h1,h2⟩:=argBest_lt (numAt zs) (zs.size-1);refine⟨.int _,H,I.kept (t':=tk) hk,⟨_,Z⟩,q _ ?_ λa ha=>?_⟩
 ·rw[X2,en];exact getD_mem (by omega)
 ·rw[←en] at ha;obtain⟨j,hj,rfl⟩:=mem_getD ha;rw[OD,Qx] at hj;rw[←X2];exact h2 j (by omega)
theorem Bm{J:It}{H:Hp}{D:Addr}{n:Nat}(Pv:Nat->List V->Hp->Prop){src:List (Option Nat)}{σ:L2.St}{g:TG}{tt:TT}{te:TE}{Q:Hp->Prop}(h0:Pv 0 [] (upd H D (.lst [])))
  (go:∀i ys H',i<n->Pv i ys H'->J.go i H') (stop:∀ys H',Pv n ys H'->J.stop n H'/\Q H')
  (turn:∀i ys H' x H'',i<n->Pv i ys H'->J.yld i H' x H''->∀(R:VK) (E:Hp->Prop),(∀y H4,H4 D=some (.lst ys)->ys.length<sizeLine->Pv (i+1) (ys++[y]) (upd H4 D (.lst (ys++[y])))->R y H4)->(∀H3,Pv (i+1) ys H3->E H3)→
   g x (bW src σ) H'' λσ2 H2=>gG (bW src σ) σ2/\tt σ2 H2 λok H3=>if ok=true then te σ2 H3 R else E H3) :
  ∃W:Nat->Nat->List V->Hp->Prop,(∃m,W 0 m [] (upd H D (.lst [])))/\∀i m ys H,W i m ys H->(J.stop i H/\Q H)∨(J.go i H/\∀x H',J.yld i H x H'→
   g x (bW src σ) H' λσ2 H2=>gG (bW src σ) σ2/\tt σ2 H2 λok H3=>
    if ok=true then te σ2 H3 λy H4=>H4 D=some (.lst ys)/\ys.length<sizeLine/\∃m',m'<m/\W (i+1) m' (ys++[y]) (upd H4 D (.lst (ys++[y]))) else ∃m',m'<m/\W (i+1) m' ys H3):=by
 refine⟨λi m ys H'=>i≤n/\m=n-i/\Pv i ys H',⟨_,OZ _,Z,h0⟩,?_⟩;rintro i m ys H1 ⟨hi,rfl,p⟩;by_cases hix:i<n
 ·refine .inr ⟨go i ys H1 hix p,λx H2 y=>?_⟩;refine turn i ys H1 x H2 hix p y _ _ (λy H4 a b c=>⟨a,b,n-(i+1),by omega,hix,Z,c⟩) λH3 c=>⟨n-(i+1),by omega,hix,Z,c⟩
 ·have e:i=n:=by omega
  subst e;exact .inl (stop ys H1 p)
def K9(t:TS):TS:=λD σ H=>∃M:L2.St->Hp->Prop,t { D with nx:=M} σ H/\∀σ' H',M σ' H'->D.nx σ' H'
theorem FV{X:Cx}{st:Stmt}{t:TS}(h:QS X st t):QS X st (K9 t):=⟨by
 intro pins s σ H D I q;obtain⟨M,q,k⟩:=q;refine bU (h.p pins s σ H _ I q) λf s' z=>?_
 cases f with
 |next=>obtain⟨σ',H',I',m⟩:=z;exact⟨σ',H',I',k _ _ m⟩
 |brk=>exact z
 |cont=>exact z
 |ret u=>exact z⟩
end B
namespace B
abbrev Ln:=Nat×Nat
inductive iy(es:List Ln):Nat->Nat->Prop where
 |one {a b:Nat} (h:(a,b)∈es):iy es a b
 |step {a b c:Nat} (h:(a,b)∈es) (t:iy es b c):iy es a c
theorem iy.trans(x:iy es a b)(y:iy es b c):iy es a c:=by
 induction x with
 |one h=>exact .step h y
 |step h _ ih=>exact .step h (ih y)
def ub(n:Nat)(es:List Ln):Prop:=∀e∈es,e.1<n/\e.2<n
def KW(n:Nat)(es:List Ln)(L:Nat->Nat->Bool):Prop:=∀i j,i<n->j<n->(L i j=true↔iy es j i)
def NK(L:Nat->Nat->Bool)(a b:Nat):Nat->Nat->Bool:=λi j=>L i j||((decide (i=b)||L i b)&&(decide (j=a)||L a j))
theorem DL(n:Nat):KW n [] (λ_ _=>false):=λi j _ _=>by
 constructor
 ·intro h;cases h
 ·intro h
  cases h with
  |one m=>cases m
  |step m _=>cases m
structure Rx(n:Nat)(es:List Ln)(v:Nat->Int)(ps:Nat->Nat)(r k:Nat)(F:Nat->Int):Prop where
 bas:∀i,i<n->v i≤F i
 att:∀i,i<n->∃j,j<n/\(j=i∨iy es j i)/\F i=v j
 don:∀i,i<n->ps i<r->∀j,j<n->(j=i∨iy es j i)->v j≤F i
 cur:∀m a b,m<k->es[m]?=some (a,b)->ps b≤r->∀j,j<n->(j=a∨iy es j a)->v j≤F b
def Nm(F:Nat->Int)(a b:Nat):Nat->Int:=λi=>if i=b then max (F b) (F a) else F i
structure Ix(n:Nat)(es:List Ln)(v:Nat->Int)(F:Nat->Int):Prop where
 up:∀i j,i<n->j<n->(j=i∨iy es j i)->v j≤F i
 att:∀i,i<n->∃j,j<n/\(j=i∨iy es j i)/\F i=v j
def BX(es:List Ln):List Ln:=es.map λe=>(e.2,e.1)
theorem uq:(a,b)∈BX es↔(b,a)∈es:=by
 unfold BX;rw[OP];constructor
 ·rintro⟨⟨x,y⟩,m,e⟩
  cases e
  exact m
 ·exact λm=>⟨_,m,Z⟩
theorem uo:iy (BX es) a b↔iy es b a:=by
 have f:∀{fs:List Ln} {a b:Nat},iy fs a b->iy (BX fs) b a:=λ{fs a b} h=>by
  induction h with
  |one m=>exact .one (uq.mpr m)
  |step m _ ih=>exact ih.trans (.one (uq.mpr m))
 have ss:BX (BX es)=es:=by unfold BX;rw[Qt];exact List.map_id' _
 exact⟨λh=>by have:=f h;rw[ss] at this;exact this,f⟩
end B
namespace B
open PySem PySem.Spec L2 PyProof.Rows
def Kv(r r' r'':R2)(ta tb tc td:TE):TE:=λσ H Q=>ta σ H λx H1=>tb σ H1 λy H2=>r x y H2 λz H3=>∃k,z=.bl k∧
 (if k=true then tc σ H3 λw' H4=>r' y w' H4 λz' H5=>∃k',z'=.bl k'/\(if k'=true then td σ H5 λu' H6=>r'' w' u' H6 Q else Q (.bl false) H5) else Q (.bl false) H3)
section
variable {prog:Po}{w:PM}{A:PB}{E:Value->OI->Prop}{s:OI}
end
def Na(K:Oz)(te:TE):TE:=λσ H Q=>te σ H λx H1=>∃a xs,x=.ref a/\bu K H1 a xs/\∀p,H1 p=none->Q (.ref p) (upd H1 p (.tup xs.reverse))
end B
namespace B
theorem rJ{b:Int}(h:0<b):(0:Rat)<(b:Rat):=by
 have:=P1.mpr h;exact this
theorem iY(hr:0<r.2)(hq:0<q.2):cD r q=true↔val r<val q:=by
 rw[AL,←P1,PJ,PJ];have h1:=rJ hr;have h2:=rJ hq;have e1:(r.1:Rat)=val r*(r.2:Rat):=by
  have:=cI hr;unfold val;generalize (r.1:Rat)=x at *;generalize (r.2:Rat)=y at *;grind
 have e2:(q.1:Rat)=val q*(q.2:Rat):=by
  have:=cI hq;unfold val;generalize (q.1:Rat)=x at *;generalize (q.2:Rat)=y at *;grind
 rw[e1,e2];generalize val r=x at *;generalize val q=y at *;generalize (r.2:Rat)=u at *;generalize (q.2:Rat)=v at *;have c:0<u*v:=Xl h1 h2;constructor
 ·intro h;have h':x*(u*v)<y*(u*v):=by grind
  by_cases w:x<y
  ·exact w
  ·have z:y≤x:=Rat.not_lt.mp w;have:=Rb z (Qu c);grind
 ·intro h;have:=Ry h c;grind
theorem iX(hr:0<r.2)(hq:0<q.2):cD r q=false↔val q≤val r:=by
 have a:=iY hr hq
 cases c:cD r q with
 |true=>
  have:=a.mp c;constructor
  ·intro z;cases z
  ·intro z;grind
 |false=>
  constructor
  ·intro _;by_cases w:val r<val q
   ·rw[a.mpr w] at c;cases c
   ·exact Rat.not_lt.mp w
  ·intro _;rfl
end B
namespace B
open PySem PySem.Spec L2 PyProof.Rows
def Ow(zs:List R):Prop:=zs.Pairwise λa b=>cD a b=true
end B
namespace L2
open PySem PySem.Spec PyProof.Rows
structure Kf(k:Nat)(A:PB):Prop where
 dp:A.depth+3*k+5<recursionLimit
 un:A.units+16*k+200<cLine
 gd:A.guards=some []
structure MV(P:Po)(w:PM)(K:Oz)(mg:Pf->Option Value)(base:OR)(CX:rV)(k:Nat)(f:Addr)(fd:OK)(ps:List Pf)(sp:Sp):Prop where
 len:∀vs H Q E,sp vs H Q E->vs.length=ps.length
 run:∀(A:PB) (outer:List XD) (s:OI) (H:Hp) (args:Args) (us:List Value) (vs:List V) (Q:VK) (E:XK),Kf k A->rQ P w K mg base A outer s H->U7 s fd args (ps.zip us)->be vs us->sp vs H Q E→
  SE (O3 P w) A (.call (.ref f) args) (CR CX outer P w H s Q E) s
def Oo(CX:rV)(P:Po)(w:PM)(K:Oz)(mg:Pf->Option Value)(base:OR)(N:List Pf)(qual:Pf)(scope:SG)(f:Addr)(cd:Value)(A:PB)(outer:List XD)(s:OI)(H:Hp)(E:XK):Cx:={ bD CX P w K mg base N qual scope f cd A outer s H E with calm:=false}
section
variable {X:Cx}{CX:rV}{k:Nat}{f C:Addr}{fd:OK}{ps:List Pf}{sp:Sp}{dvs:List V}{ds:List Value}{E:XK}{x m:Pf}{p pos apos:So}{e o:PD}{es:List PD}{ta:TE}{t:TA}
end
section
variable {P:Po}{w:PM}{K:Oz}{mg:Pf->Option Value}{base:OR}
end
end L2
namespace B
open PySem PySem.Spec L2 PyProof.Rows
section
set_option autoImplicit true
set_option relaxedAutoImplicit true
end
def Kl(d:Addr)(ob:Ql)(kvs:List (cA×V)):It:=
 ⟨λi H=>H d=some (.frz ob (.dK kvs))/\i<kvs.length,
  λi H x H'=>∃p k v,H p=none/\x=.ref p/\kvs[i]?=some (k,v)/\H'=upd H p (.tup [kV k,v]),
  λi H=>H d=some (.frz ob (.dK kvs))/\kvs.length≤i⟩
theorem KV.get:∀{kvs:List (cA×V)} {vs:List (cA×Value)},KV kvs vs->∀{i:Nat} {k:cA} {v:V},kvs[i]?=some (k,v)->∃u,vs[i]?=some (k,u)/\RelV v u
 |_,_,.nil,i,k,v,h=>by simp at h
 | (a,b)::r,(c,d)::t,.cons h z,0,k,v,e=>by
  have e':(a,b)=(k,v):=by simpa using e
  cases e'
  obtain⟨h1,h2⟩:=h;have h1':a=c:=h1;subst h1';exact⟨d,Z,h2⟩
 |_::r,_::t,.cons h z,i+1,k,v,e=>by
  obtain⟨u,q,w⟩:=KV.get z (i:=i) (by simpa using e);exact⟨u,by simpa using q,w⟩
theorem JP(h:mB k u=true):RelV (kV k) u:=by
 rcases ca h with⟨i,t,rfl,rfl⟩ | ⟨x,t,rfl,rfl⟩
 ·exact⟨t,Z⟩
 ·exact⟨t,Z⟩
theorem Hx:entryFor table "dict_itemiterator.__iter__"=some PH.«dict_keyiterator.__iter__»:=
 entryFor_alias (by kernel_rfl) (by first|rfl|decide +kernel | (unfold String.splitOn;simp +decide [String.splitOnAux])) (by decide +kernel) (by kernel_rfl) (id' := "dict_keyiterator.__iter__")
theorem rY{P:Po}{w:PM}{K:Oz}{elts:List PD}{x1}{pos:So}{it d:Addr}{ob:Ql}{kvs:List (cA×V)}{es:Array VL}{ep:Nat}(hob:ob.data=.dict es ep) :
  rP P w K (.Tuple elts x1 pos) (Kl d ob kvs) [it] it (λi h=>∃ok ov,IsItemIter h it d i kvs.length ep ok ov) where
 mem:=by simp
 obj:=λi h st c hc=>by
  obtain⟨ok,ov,e⟩:=st;rw[OH] at hc;subst hc;exact⟨_,e,λv q=>by cases(show Uu _=VI v from q)⟩
 keep:=λi h h' ⟨ok,ov,e⟩ k=>⟨ok,ov,k it (by simp) _ e⟩
 item:=by
  intro X hP hw hK hc i pins s σ H E I hf st hg;subst hP hw hK;obtain⟨hd,hi⟩:=hg;obtain⟨ok,ov,e⟩:=st;obtain⟨q0,z,hds,vs,rel,o,es',ep',d1,d2,d3,d4⟩:=(show ObjOk X.prog X.w H s.heap d (.frz ob (.dK kvs)) from I.hok d _ hd);have eo:o=ob:=P6 (d1.symm.trans q0);subst eo;rw[hob] at d3
  cases d3
  have dat:s.heap.DictAt (bT X.prog X.w) d vs ep:=⟨o,es,d1,d2,hob,d4⟩;obtain⟨k,v,hkv'⟩:∃k v,kvs[i]?=some (k,v):=⟨(kvs[i]'hi).1,(kvs[i]'hi).2,OA hi⟩;obtain⟨u,hu,ru⟩:=KV.get rel hkv';have ndi:it≠d:=λq=>by rw[q] at hf;have:=(hf d (by simp)).1;rw[hd] at this;cases this
  have itl:it<s.heap.objs.size:=OW e;rw[rel.length] at e;refine wpAny_pyNext_items_item e dat hu λkey h1 hkey eo tup hz hk=>⟨_,Z,wpAny_letOwnedTupleGo_items eo λh2 e2 sb=>?_⟩
  have nt:s.heap.objs.size≠it:=RL itl;have P:ObjOk X.prog X.w (upd H s.heap.objs.size (.tup [kV k,v])) h2 s.heap.objs.size (.tup [kV k,v]):=
   ⟨by show 2≤sizeLine;decide,[key,u],.cons (JP hkey) (.cons ru .nil),⟨_,sb.extBut _ _ nt tup,Z,_,Z⟩⟩
  have I2:Inv X pins σ (upd H s.heap.objs.size (.tup [kV k,v])) { s with heap:=h2,toks:=s.toks}:=oJ I (λc o' n q=>by
   have n':c≠it:=λr=>n (by simp[r])
   exact sb.extBut _ _ n' (hk c o' n' q)) hf (OC _) P
  refine⟨.ref s.heap.objs.size,_,I2,Z,⟨_,k,v,I.fresh,Z,hkv',Z⟩,⟨key,u,by rw[rel.length];exact e2⟩,λc hc=>?_⟩;have hc':c=it:=by simpa using hc
  rw[hc',au (R9 nt)];exact(hf it (by simp)).1
 done:=by
  intro X hP hw hK hc i pins s σ H E I hf st hg;subst hP hw hK;obtain⟨hd,hi⟩:=hg;obtain⟨ok,ov,e⟩:=st;obtain⟨q0,z,hds,vs,rel,o,es',ep',d1,d2,d3,d4⟩:=(show ObjOk X.prog X.w H s.heap d (.frz ob (.dK kvs)) from I.hok d _ hd);have eo:o=ob:=P6 (d1.symm.trans q0);subst eo;rw[hob] at d3
  cases d3
  have dat:s.heap.DictAt (bT X.prog X.w) d vs ep:=⟨o,es,d1,d2,hob,d4⟩;have hh:X.A.in1.handled=none:=I.ok.hd hc;rw[rel.length] at e hi;refine wpAny_pyNext_items_end hh e dat (Q7 hi) λh1 ex=>⟨Z,?_⟩
  exact oK (t':=s.toks) I (λc o' n q=>ex c o' (λr=>n (by simp[r])) q) hf
 self:=λA i s Q E st h=>by
  obtain⟨ok,ov,e⟩:=st;have hT:s.TypeIs (.ref it) "dict_itemiterator" := ⟨_,e,Z⟩;refine wpAny_pyIter_slot hT SR (Ra SR hT Hx ?_ (PySem.F.args_dict_itemiterator_iter_1 _));show OY _ _ (ret (.ref it)) _ _ s;exact wpAny_pure ⟨_,Z,"dict_itemiterator",_,hT,PySem.F.slot_dict_itemiterator_next.lookup,h⟩
def AX(td:TE):TI:=λσ H R=>td σ H λx H1=>∃d kvs,x=.ref d/\H1 d=some (.dK kvs)/\∀ob,R (Kl d ob kvs) (upd H1 d (.frz ob (.dK kvs)))
theorem z8{X:Cx}{elts:List PD}{x1}{tp apos pos:So}{o:PD}{td:TE}(ho:PE X o td)(hb:Rz o "items" X.env (eval o X.env)=eval o X.env:=by rfl)(hl:(apos.endLine==pos.line)=true:=by rfl) :
  PI X (.Tuple elts x1 tp) (.Call (.Attribute o "items" apos) [] [] pos) (AX td):=by
 intro pins s σ H R I h;refine WM (T := "dict") (id := "dict.items") hb Z hl UT UU PySem.F.type_dict_items (bU (ho pins s σ H _ I h) λu s1 ⟨x,H1,I1,rx,d,kvs,ex,e,q⟩=>?_);subst ex;obtain rfl:u=O8 d:=rx;obtain⟨z,hds,vs,rel,dd⟩:=Bf I1.hok e;obtain⟨t1,t2,_⟩:=AV I1 (.inl ⟨kvs,.inl e⟩);refine⟨t1,t2,?_⟩;show OY _ _ (Wx pos (.builtin "dict.items") [.ref d] [] []) _ _ _;refine method_meetsIn UU PySem.F.entry_dict_items Z (PySem.evalArgs_none ⟨Z,t1,PySem.F.args_dict_items_1 _,_,meets_dict_items (bT X.prog X.w) d hds,⟨vs,dd⟩,?_⟩);obtain⟨o',es,ep,d1,d2,d3,d4⟩:=id dd;have dat:s1.heap.DictAt (bT X.prog X.w) d vs ep:=⟨o',es,d1,d2,d3,d4⟩;refine wpAny_pyIter_items (d:=d) (kvs:=vs) (ep:=ep) ⟨_,O4 _ Z,Z,Z⟩ (dat.push _) ?_;have sz:(s1.heap.push { cls:=.type "dict_items",data:=.fields #[.ref d]}).objs.size=s1.heap.objs.size+1:=Rm ..;have I2:=I1.kept (t':=s1.toks) (h':=(s1.heap.push { cls:=.type "dict_items",data:=.fields #[.ref d]}).push { cls:=.type "dict_itemiterator",data:=.fields #[.none,.bool false,.ref d,.int 0 0,.int vs.length 0,.int ep 0,.none,.none]}) λb o q=>OG _ (OG _ q)
 have hit:=O4 (s1.heap.push { cls:=.type "dict_items",data:=.fields #[.ref d]}) (o:={ cls:=.type "dict_itemiterator",data:=.fields #[.none,.bool false,.ref d,.int 0 0,.int vs.length 0,.int ep 0,.none,.none]}) Z;have dl:d<s1.heap.objs.size:=OW d1;have k2:∀b o,s1.heap.get? b=some o->((s1.heap.push { cls:=.type "dict_items",data:=.fields #[.ref d]}).push { cls:=.type "dict_itemiterator",data:=.fields #[.none,.bool false,.ref d,.int 0 0,.int vs.length 0,.int ep 0,.none,.none]}).get? b=some o:=λb o q=>OG _ (OG _ q)
 generalize (s1.heap.push { cls:=.type "dict_items",data:=.fields #[.ref d]}).push { cls:=.type "dict_itemiterator",data:=.fields #[.none,.bool false,.ref d,.int 0 0,.int vs.length 0,.int ep 0,.none,.none]}=hE at I2 hit k2 ⊢;rw[sz] at hit ⊢;have I3:=kP (h':=hE) (t':=s1.toks) (ob:=.frz o' (.dK kvs)) I2 (by rw[e];exact Q9) ⟨Z,λ_ _=>Z⟩ ⟨_,k2 _ _ d1⟩ ⟨k2 _ _ d1,z,hds,vs,rel,o',es,ep,k2 _ _ d1,d2,d3,d4⟩;have nd:s1.heap.objs.size+1≠d:=RL (Ta dl);refine⟨_,[s1.heap.objs.size+1],_,_,_,Z,I3,rY d3,⟨.none,.none,by rw[rel.length];exact hit⟩,λc hc=>?_,q o'⟩;have hc':c=s1.heap.objs.size+1:=by simpa using hc
 subst hc';exact I1.fpOk (Q3 _) (by rw[au nd];exact I1.hok.fresh (Q3 _))
theorem n8{d:Addr}{ob:Ql}{kvs:List (cA×V)}{g:TG}{tb:TS}{D:iV}{σ:L2.St}{H:Hp}(Pv:Nat->L2.St->Hp->Prop)(h0:Pv 0 σ H)
  (hl:∀i σ H,Pv i σ H->H d=some (.frz ob (.dK kvs)))
  (hs:∀i k v p σ H,kvs[i]?=some (k,v)->Pv i σ H->H p=none->g (.ref p) σ (upd H p (.tup [kV k,v])) λσ2 H2=>tb { D with nx:=Pv (i+1),ct:=Pv (i+1),bk:=D.nx} σ2 H2) (hd:∀σ H,Pv kvs.length σ H->D.nx σ H) :
  ∃W:Nat->Nat->L2.St->Hp->Prop,(∃m,W 0 m σ H)/\∀i m σ H,W i m σ H→
   ((Kl d ob kvs).stop i H/\D.nx σ H)∨((Kl d ob kvs).go i H/\∃N:L2.St->Hp->Prop,(∀σ' H',N σ' H'->∃m',m'<m/\W (i+1) m' σ' H')/\∀x H',(Kl d ob kvs).yld i H x H'->g x σ H' λσ2 H2=>tb { D with nx:=N,ct:=N,bk:=D.nx} σ2 H2):=by
 refine⟨λi m σ H=>m=kvs.length-i/\i≤kvs.length/\Pv i σ H,⟨_,Z,OZ _,h0⟩,?_⟩;rintro i m σ H ⟨rfl,hi,p⟩;have q:=hl i σ H p;by_cases hlt:i<kvs.length
 ·refine .inr ⟨⟨q,hlt⟩,Pv (i+1),λσ' H' p'=>⟨kvs.length-(i+1),by omega,Z,hlt,p'⟩,λx H' y=>?_⟩;obtain⟨pp,k,v,hp,rfl,hkv,rfl⟩:=y;exact hs i k v pp σ _ hkv p hp
 ·have e:i=kvs.length:=by omega
  subst e;exact .inl ⟨⟨q,OC _⟩,hd σ H p⟩
def mX(ps:List (Int×Int)):List (cA×V):=ps.map λp=>(QX p.1,V.int p.2)
def r8:List (Int×Int)->Int->Int
 | [],_=>0
 | (c,u)::r,b=>if c=b then u else r8 r b
def fX:List (Int×Int)->Int->Int->List (Int×Int)
 | [],b,t=>[(b,0+t)]
 | (c,u)::r,b,t=>if c=b then(c,u+t)::r else(c,u)::fX r b t
theorem zU{p:cA×V}(e:p.1=k)(n:∀q∈r,q.1≠k):df (p:: r) k v=(k,v):: r:=by
 unfold df;rw[if_pos (by simp[e]),Pm,if_pos e,e]
 congr 1
 exact(VW (g:=id) (λq hq=>by rw[if_neg (n q hq)];rfl)).trans (Xm r)
theorem vX{p:cA×V}(e:¬p.1=k):df (p:: r) k v=p:: df r k v:=by
 unfold df;rw[Rg,decide_eq_false e,UG]
 split
 ·rw[Pm,if_neg e]
 ·rfl
theorem pV:∀(ps:List (Int×Int)) (b:Int),(iC (mX ps) (QX b)).getD (V.int 0)=V.int (r8 ps b)
 | [],b=>rfl
 | (c,u)::r,b=>by
  show(iC ((QX c,V.int u)::mX r) (QX b)).getD (V.int 0)=V.int (if c=b then u else r8 r b);by_cases e:c=b
  ·rw[if_pos e,eP (by rw[e])];rfl
  ·rw[if_neg e,bX (λz=>e (by injection z)),pV r b]
theorem pH:∀(ps:List (Int×Int)) (b t:Int),(ps.map (·.1)).Nodup->df (mX ps) (QX b) (V.int (r8 ps b+t))=mX (fX ps b t)
 | [],b,t,_=>rfl
 | (c,u)::r,b,t,nd=>by
  have nd':=PZ.mp nd;show df ((QX c,V.int u)::mX r) (QX b) (V.int ((if c=b then u else r8 r b)+t))=mX (if c=b then(c,u+t)::r else(c,u)::fX r b t);by_cases e:c=b
  ·rw[if_pos e,if_pos e,zU (by rw[e]) (λq hq z=>?_)]
   ·show _=(QX c,V.int (u+t))::mX r;rw[e]
   ·obtain⟨p,hp,rfl⟩:=OP.mp hq;have z':p.1=b:=by injection z
    exact nd'.1 (OP.mpr ⟨p,hp,z'.trans e.symm⟩)
  ·rw[if_neg e,if_neg e,vX (λz=>e (by injection z)),pH r b t nd'.2];rfl
def iE:List (Int×Int)->Rat
 | []=>0
 |p::r=>(p.2:Rat)/(p.1:Rat)+iE r
theorem DS{a b c:Rat}:(a+b)/c=a/c+b/c:=by rw[Xn,Xn,Xn,Rat.add_mul]
theorem lA:∀(ps:List (Int×Int)) (b t:Int),iE (fX ps b t)=iE ps+(t:Rat)/(b:Rat)
 | [],b,t=>by
  show((0+t:Int):Rat)/(b:Rat)+0=0+(t:Rat)/(b:Rat);rw[TX];grind
 | (c,u)::r,b,t=>by
  show iE (if c=b then(c,u+t)::r else(c,u)::fX r b t)=(u:Rat)/(c:Rat)+iE r+(t:Rat)/(b:Rat);by_cases e:c=b
  ·rw[if_pos e];show((u+t:Int):Rat)/(c:Rat)+iE r=_;rw[TH,DS,e];grind
  ·rw[if_neg e];show(u:Rat)/(c:Rat)+iE (fX r b t)=_;rw[lA r b t];grind
theorem jG:∀(ps:List (Int×Int)) (p:Int×Int),iE (ps++[p])=iE ps+(p.2:Rat)/(p.1:Rat)
 | [],p=>by show(p.2:Rat)/(p.1:Rat)+0=0+_;grind
 |q::r,p=>by
  show(q.2:Rat)/(q.1:Rat)+iE (r++[p])=(q.2:Rat)/(q.1:Rat)+iE r+_;rw[jG r p];grind
structure kA(n i:Nat)(ps:List (Int×Int)):Prop where
 nd:(ps.map (·.1)).Nodup
 len:ps.length≤i
 bot:∀p∈ps,0<p.1/\p.1.natAbs<2^n
 top:∀p∈ps,p.2.natAbs≤i*2^n
theorem jx:∀(ps:List (Int×Int)) (b t:Int) (c:Int),c∈(fX ps b t).map (·.1)↔c∈ps.map (·.1)∨c=b
 | [],b,t,c=>by simp[fX]
 | (d,u)::r,b,t,c=>by
  show c∈(if d=b then(d,u+t)::r else(d,u)::fX r b t).map (·.1)↔_;by_cases e:d=b
  ·rw[if_pos e];constructor
   ·intro h;exact .inl h
   ·rintro (h|h)
    ·exact h
    ·exact OO.mpr (.inl (h.trans e.symm))
  ·rw[if_neg e,Pm,Pm,OO,OO,jx r b t c];exact or_assoc.symm
theorem Bx:∀(ps:List (Int×Int)) (b t:Int),(ps.map (·.1)).Nodup->((fX ps b t).map (·.1)).Nodup
 | [],b,t,_=>by simp[fX]
 | (d,u)::r,b,t,nd=>by
  have nd':=PZ.mp nd;show((if d=b then(d,u+t)::r else(d,u)::fX r b t).map (·.1)).Nodup;by_cases e:d=b
  ·rw[if_pos e];exact nd
  ·rw[if_neg e,Pm,PZ];refine⟨λz=>?_,Bx r b t nd'.2⟩;rcases(jx r b t d).mp z with h|h
   ·exact nd'.1 h
   ·exact e h
theorem vj:∀(ps:List (Int×Int)) (b t:Int),(fX ps b t).length≤ps.length+1
 | [],b,t=>OC 1
 | (d,u)::r,b,t=>by
  show(if d=b then(d,u+t)::r else(d,u)::fX r b t).length≤_
  split
  ·exact Q3 _
  ·exact Tq (vj r b t)
theorem vi:∀(ps:List (Int×Int)) (b t:Int) (M N:Nat),(∀p∈ps,p.2.natAbs≤M)->t.natAbs≤N->∀p∈fX ps b t,p.2.natAbs≤M+N
 | [],b,t,M,N,_,ht,p,hp=>by
  have e:p=(b,0+t):=by simpa [fX] using hp
  rw[e];show(0+t).natAbs≤M+N;omega
 | (d,u)::r,b,t,M,N,h,ht,p,hp=>by
  have hu:u.natAbs≤M:=h (d,u) OJ;have hr:∀q∈r,q.2.natAbs≤M:=λq hq=>h q (OL _ hq)
  have hp':p∈(if d=b then(d,u+t)::r else(d,u)::fX r b t):=hp
  split at hp'
  ·rcases OO.mp hp' with e|e
   ·rw[e];show(u+t).natAbs≤M+N;omega
   ·have:=hr p e;omega
  ·rcases OO.mp hp' with e|e
   ·rw[e];show u.natAbs≤M+N;omega
   ·exact vi r b t M N hr ht p e
theorem kA.add(h:kA n i ps)(w:Wf n r):kA n (i+1) (fX ps r.2 r.1) where
 nd:=Bx ps r.2 r.1 h.nd
 len:=O7 (vj ps r.2 r.1) (Tq h.len)
 bot:=λp hp=>by
  rcases(jx ps r.2 r.1 p.1).mp (OP.mpr ⟨p,hp,Z⟩) with z|z
  ·obtain⟨q,hq,e⟩:=OP.mp z;rw[←e];exact h.bot q hq
  ·rw[z];exact⟨w.pos,w.bot⟩
 top:=λp hp=>by
  have:=vi ps r.2 r.1 (i*2^n) (2^n) h.top (R8 w.top) p hp;rw[Xj,Nat.one_mul];exact this
theorem kA.nil(n:Nat):kA n 0 []:=⟨Td,OC _,(λ_ h=>nomatch h),(λ_ h=>nomatch h)⟩
theorem kA.wf(h:kA n i ps)(hi:i≤255)(hp:p∈ps):Wf (n+8) (fc p.2 p.1):=by
 refine G9 (h.bot p hp).1 ?_ (O5 (h.bot p hp).2 (Rn (by decide) (by omega)));have a:=h.top p hp;have b:i*2^n≤255*2^n:=Rp _ hi;have c:0<2^n:=Xo (by decide);rw[VA];omega
def iB:List R->Rat
 | []=>0
 |r::t=>val r+iB t
theorem jE:∀(rs:List R) (r:R),iB (rs++[r])=iB rs+val r
 | [],r=>by show val r+0=0+val r;grind
 |q::t,r=>by show val q+iB (t++[r])=val q+iB t+val r;rw[jE t r];grind
theorem qi:∀(rs:List R) (acc:R),fY acc->(∀r∈rs,fY r)->fY (rs.foldl bY acc)/\val (rs.foldl bY acc)=val acc+iB rs
 | [],acc,ha,_=>⟨ha,by show val acc=val acc+0;grind⟩
 |r::t,acc,ha,h=>by
  have hr:=h r OJ;obtain⟨a,b⟩:=qi t (bY acc r) (zZ ha hr) λq hq=>h q (OL _ hq)
  refine⟨a,?_⟩;rw[PR,b,iW ha.pos hr.pos];show val acc+val r+iB t=val acc+(val r+iB t);grind
theorem gv:val (0,1)=0:=by decide +kernel
theorem sP:fY (0,1):=⟨by decide,by decide⟩
theorem kC(h:∀r∈rs,fY r):fY (f8 rs)/\val (f8 rs)=iB rs:=by
 obtain⟨a,b⟩:=qi rs (0,1) sP h;refine⟨a,b.trans ?_⟩;rw[gv];grind
theorem xZ(h:∀r∈rs,fY r)(hx:fY x)(e:val x=iB rs):x=f8 rs:=
 gx hx (kC h).1 (e.trans (kC h).2.symm)
theorem Wf.red(h:Wf n r):fY r:=⟨h.pos,h.cop⟩
section
set_option autoImplicit true
set_option relaxedAutoImplicit true
theorem zS   : QE X (.Dict [] [] pos) xU:=⟨Ai ⟩
theorem zT(hu:X.A.units+1<cLine)(ho:QE X o td)(he:QE X e ty)(hf:QE X f tx)(m:M2 X o "get" apos e f cpos):QE X (.Call (.Attribute o "get" apos) [e,f] [] cpos) (xV td ty tx):=⟨Aj hu ho.p he.p hf.p m⟩
theorem uF(hu:X.A.units+1<cLine)(ho:QE X o td)(hi:QE X i ty)(hv:QE X value tv)(hs:Rq value (some (.Subscript o i pos')) pos.line X.env=QP false):QS X (.Assign [.Subscript o i pos'] value pos) (En td ty tv):=⟨CG hu ho.p hi.p hv.p hs⟩
theorem zP{X:Cx}{elts:List PD}{x1}{tp apos pos:So}{o:PD}{td:TE}(ho:QE X o td)(hb:Rz o "items" X.env (eval o X.env)=eval o X.env:=by rfl)(hl:(apos.endLine==pos.line)=true:=by rfl):QI X (.Tuple elts x1 tp) (.Call (.Attribute o "items" apos) [] [] pos) (AX td):=⟨z8 ho.p hb hl⟩
end
end B
namespace B
abbrev Pl:=Nat×Nat
def bO(p:Pl):Int:=(p.2:Int)-p.1+1
def ue(p q:Pl):Prop:=p.1<q.1∨(p.1=q.1/\q.2≤p.2)
structure qa(S:Pl->Prop)(L:Pl->Int)(p:Pl):Prop where
 inn:S p
 all:∀q,S q->L q*bO p<L p*bO q∨(L q*bO p=L p*bO q/\ue p q)
def ik(n:Nat)(p:Pl):Prop:=p.1≤p.2/\p.2<n
theorem ik.pos(h:ik n p):0<bO p:=by unfold bO;have:=h.1;omega
theorem qa.scale(ha:0<a)(hb:0<b)(e:∀q,M q*a=L q*b)(h:qa S L p):qa S M p:=by
 refine⟨h.inn,λq hq=>?_⟩;have k1:(M q*bO p)*a=(L q*bO p)*b:=by rw[Rc,e,Rc]
 have k2:(M p*bO q)*a=(L p*bO q)*b:=by rw[Rc,e,Rc]
 rcases h.all q hq with z | ⟨z,o⟩
 ·refine .inl (Um (a:=a) ?_ (QN ha));rw[k1,k2];exact TY z hb
 ·refine .inr ⟨Sx (Int.ne_of_gt ha) ?_,o⟩;rw[k1,k2,z]
theorem DA{l p q lr lp lq:Int}(hr:0<lr)(hp:0<lp)(hq:0<lq)(h1:l*lp≤p*lr)(h2:p*lq<q*lp):l*lq<q*lr:=by
 refine Um (a:=lp) ?_ (QN hp);have a1:l*lq*lp=l*lp*lq:=Rc _ _ _;have a2:q*lr*lp=q*lp*lr:=Rc _ _ _;have b1:l*lp*lq≤p*lr*lq:=Ts h1 (QN hq);have b2:p*lr*lq=p*lq*lr:=Rc _ _ _;have b3:p*lq*lr<q*lp*lr:=TY h2 hr;omega
theorem qa.more(h:qa S L p)(st:∀r,S' r->ik n r)(e:∀r,S' r↔S r∨r=q)(gt:L p*bO q<L q*bO p):qa S' L q:=by
 have iq:S' q:=(e q).mpr (.inr Z);have ip:S' p:=(e p).mpr (.inl h.inn);refine⟨iq,λr hr=>?_⟩;rcases(e r).mp hr with z|z
 ·refine .inl (DA (st r hr).pos (st p ip).pos (st q iq).pos ?_ gt);rcases h.all r z with z | ⟨z,_⟩
  ·exact QN z
  ·exact Int.le_of_eq z
 ·subst z;exact .inr ⟨Z,.inr ⟨Z,OC _⟩⟩
theorem qa.stay(h:qa S L p)(e:∀r,S' r↔S r∨r=q)(le:L q*bO p≤L p*bO q)(o:ue p q∨L q*bO p≠L p*bO q):qa S' L p:=by
 refine⟨(e p).mpr (.inl h.inn),λr hr=>?_⟩;rcases(e r).mp hr with z|z
 ·exact h.all r z
 ·subst z;by_cases c:L r*bO p=L p*bO r
  ·rcases o with o|o
   ·exact .inr ⟨c,o⟩
   ·exact absurd c o
  ·exact .inl (by omega)
theorem qa.congr(h:qa S L p)(e:∀r,S' r↔S r):qa S' L p:=⟨(e p).mpr h.inn,λq hq=>h.all q ((e q).mp hq)⟩
def gl(n b e:Nat)(p:Pl):Prop:=ik n p/\(p.1<b∨(p.1=b/\e≤p.2))
def MR(n b e:Nat)(p:Pl):Prop:=ik n p/\(p.1<b∨(p.1=b/\p.2<e))
theorem sr(h1:b≤e)(h2:e<n)(r:Pl):gl n b e r↔gl n b (e+1) r∨r=(b,e):=by
 obtain⟨x,y⟩:=r;unfold gl ik;rw[Prod.mk.injEq];show(x≤y/\y<n)/\_↔((x≤y/\y<n)/\_)∨_;simp only;omega
theorem su(r:Pl):gl n (b+1) n r↔gl n b b r:=by
 obtain⟨x,y⟩:=r;unfold gl ik;simp only;omega
theorem vP(r:Pl):ik n r↔gl n n n r:=by
 obtain⟨x,y⟩:=r;unfold gl ik;simp only;omega
abbrev Wn:=Option (Nat×Nat)
def gA(b e:Nat):Wn->Bool
 |none=>false
 |some (x,y)=>decide (b≤x)&&decide (y≤e)
def cu(ws:List Wn)(p:Pl):List Nat:=(OB ws.length).filter λi=>gA p.1 p.2 (ws.getD i none)
def dA(ws:List Wn)(A:Nat->Int)(p:Pl):Int:=((cu ws p).map A).sum
theorem iF{A:Nat->Int}(h:∀i,0≤A i):∀l:List Nat,0≤(l.map A).sum
 | []=>UA _
 |x::l=>by
  rw[Pm,SS];have:=h x;have:=iF h l;omega
theorem nG{A C:Nat->Int}{a b:Int}:∀l:List Nat,(∀i∈l,C i*a=A i*b)->(l.map C).sum*a=(l.map A).sum*b
 | [],_=>by simp
 |x::l,h=>by
  rw[Pm,SS,Pm,SS,VD,VD,h x OJ,nG l λi hi=>h i (OL _ hi)]
end B
namespace B
open PySem PySem.Spec L2 PyProof.Rows
def pK(ns:List Int):List Int:=ns.foldl step_dedup []
def Mm(K:Oz):List V->Hp->VK->Prop:=λxs H Q=>∃p ns,xs=[.ref p]/\aS K H p (ns.map V.int)/\ns.length≤1000/\∀l,H l=none->Q (.ref l) (upd H l (.set (λk=>(pK ns).any (·==k)) (pK ns).length))
def Mn:List V->Hp->VK->Prop:=λxs H Q=>∃p S n,xs=[.ref p]/\H p=some (.set S n)/\Q (.int n) H
def LN(xs:Array Nat):Prop:=∀i j (_:i<j) (hj:j<xs.size),xs[i]'(by omega)<xs[j]
def LM(t:SetTable):Prop:=t.plain=true->t.dummies=#[]/\LN t.place
section
variable {prog:Po}{w:PM}{A:PB}{E:Value->OI->Prop}{s:OI}
def K1:Value->Int
 | .int n _=>n
 |_=>0
def Ie(w:PM)(h:OR)(a:Addr)(ks:List Int):Prop:=∃o es ep t,h.get? a=some o/\o.ExactSet/\o.data=.set es ep t/\(∀e∈es.toList,∃n u,e=(hashInt n,Q0 n u))∧
 (es.toList.map λe=>K1 e.2).Perm ks/\t.fits es.size=true/\LM t/\t.led=!w.params.followText "set-order"
end
section
variable {prog:Po}{w:PM}{A:PB}{E:Value->OI->Prop}{s:OI}
def Iu(w:PM):Ql:={ cls:=.type "set",dict:=none,data:=.set #[] 0 (.fresh 0 0 (!w.params.followText "set-order"))}
variable {R:WZ->OI->Prop}{I:Addr}{fp wr:List Addr}{G:Array GenState->Array GenState->Prop}{n:Nat}{P:Nat->Value->Prop}{St:Nat->OI->Prop}
end
section
variable {prog:Po}{w:PM}{A:PB}{E:Value->OI->Prop}{s:OI}
end
namespace FS
end FS
section
variable {prog:Po}{w:PM}{A:PB}{E:Value->OI->Prop}{s:OI}
def Nl(first:Value)(i:Nat)(a:Addr)(n ep:Nat):Ql:={ cls:=.type "set_iterator",data:=.fields #[first,.int i 0,.ref a,.int n 0,.int ep 0]}
end
end B
namespace B
open PySem PySem.Spec L2 PyProof.Rows
section
variable {prog:Po}{w:PM}{A:PB}{E:Value->OI->Prop}{s:OI}
end
section
variable {prog:Po}{w:PM}{A:PB}{E:Value->OI->Prop}{s:OI}
def LL(prog:Po)(w:PM)(a:Addr)(ks:List Int)(s:OI)(It:Addr)(s1:OI):Prop:=
 ∃(fp:List Addr) (items:Array Value) (St:Nat->OI->Prop),(∀A':PB,A'.handled=none->WalksS prog w A' It fp [It] (λa b=>b=a) items.size (λi v=>items[i]?=some v) St)/\St 0 s1/\It∈fp/\(∀b∈fp,b<s1.heap.objs.size/\(b=a∨s.heap.objs.size≤b))∧
  s.heap.objs.size≤It/\∃ms,VM items.toList ms/\ms.Perm ks
def Mf(t:SetTable):Nat->Nat
 |0=>0
 |k+1=>t.place.getD k 0+1
end
def Mq(K:Oz):V->List V->Hp->VK->Prop:=λx vs H Q=>∃l b xs zs,x=.ref l/\vs=[.ref b]/\H l=some (.lst xs)/\bu K H b zs/\xs.length+zs.length≤1000/\Q .non (upd H l (.lst (xs++zs)))
def Mj(K:Oz):List V->Hp->VK->Prop:=λxs H Q=>∃p ns,xs=[.ref p]/\(aS K H p (ns.map V.int)∨bu K H p (ns.map V.int))/\ns.length<64/\∀(l:Addr) (ms:List Int),ms.Perm ns->ms.Pairwise (·≤·)->H l=none->Q (.ref l) (upd H l (.lst (ms.map V.int)))
section
variable {prog:Po}{w:PM}{A:PB}{E:Value->OI->Prop}{s:OI}
end
def I0(w:PM)(a:Addr)(ks:List Int):HO:=.ext λh=>Ie w h a ks
def Ml(w:PM)(K:Oz):List V->Hp->VK->Prop:=λxs H Q=>∃p ns,xs=[.ref p]/\(aS K H p (ns.map V.int)∨bu K H p (ns.map V.int))/\ns.length≤1000/\∀l,H l=none->Q (.ref l) (upd H l (I0 w l (pK ns)))
def Ld(w:PM):List V->Hp->VK->Prop:=λxs H Q=>∃p ks,xs=[.ref p]/\H p=some (I0 w p ks)/\ks.length<64/\∀(l:Addr) (ms:List Int),ms.Perm ks->ms.Pairwise (·≤·)->H l=none->Q (.ref l) (upd H l (.lst (ms.map V.int)))
def L5(ta:TA):TE:=λσ H Q=>ta σ H λvs H1=>∃i j:Int,vs=[.int i,.int j]/\∀p,H1 p=none->Q (.ref p) (upd H1 p (.rng i j))
def KF:R2:=λx y H Q=>∃(i:Int) (p:Addr) (lo hi:Int),x=.int i/\y=.ref p/\H p=some (.rng lo hi)/\Q (.bl (!(decide (lo≤i)&&decide (i<hi)))) H
section
set_option autoImplicit true
set_option relaxedAutoImplicit true
end
def J0(lo n:Nat):List Nat:=(OB n).map λi=>lo+i
def Nw:List V->Hp->VK->Prop:=λxs H Q=>∃p,∃lo n:Nat,xs=[.ref p]/\H p=some (.rng (lo:Int) ((lo+n:Nat):Int))/\lo+n≤1000/\∀l,H l=none->Q (.ref l) (upd H l (.lst ((J0 lo n).map λi:Nat=>V.int i)))
theorem oh{α β:Type}{K:Oz}{H:Hp}{D a:Addr}{xs:List V}{ds:List α}{P:Hp->V->β->Prop}{f:α->β}{src:List (Option Nat)}{σ:L2.St}{g:TG}{tt:TT}{te:TE}{Q:Hp->Prop}
  (mono:∀H H' v d,aM K H H'->P H v d->P H' v d) (hD:H D=none) (hS:aS K H a xs) (hl:xs.length=ds.length) (hn:ds.length≤1000)
  (turn:∀(i:Nat) (x:V) (d:α) (H':Hp),xs[i]?=some x->ds[i]?=some d->aE H H'->∀(R:VK) (E:Hp->Prop),(∀v H'',aE H' H''->P H'' v (f d)->R v H'')→
   g x (bW src σ) H' λσ2 H2=>gG (bW src σ) σ2/\tt σ2 H2 λok H3=>if ok=true then te σ2 H3 R else E H3)
  (fin:∀H' ys,aE H H'->H' D=some (.lst ys)->cG (P H') ys (ds.map f)->Q H') :
  ∃W:Nat->Nat->List V->Hp->Prop,(∃m,W 0 m [] (upd H D (.lst [])))/\∀i m ys H,W i m ys H->((xA K a).stop i H/\Q H)∨((xA K a).go i H/\∀x H',(xA K a).yld i H x H'→
   g x (bW src σ) H' λσ2 H2=>gG (bW src σ) σ2/\tt σ2 H2 λok H3=>
    if ok=true then te σ2 H3 λy H4=>H4 D=some (.lst ys)/\ys.length<sizeLine/\∃m',m'<m/\W (i+1) m' (ys++[y]) (upd H4 D (.lst (ys++[y]))) else ∃m',m'<m/\W (i+1) m' ys H3):=by
 refine⟨λi m ys H'=>i≤ds.length/\m=ds.length-i/\H' D=some (.lst ys)/\aE H H'/\cG (P H') ys ((ds.take i).map f),⟨_,OZ _,Z,ag,ao hD _,.nil⟩,?_⟩;rintro i m ys H1 ⟨hi,rfl,d1,s1,al1⟩;have hS1:aS K H1 a xs:=s1.seq hS;by_cases hix:i<ds.length
 ·have hx0:xs[i]?=some (xs[i]'(by omega)):=OA _;refine .inr ⟨⟨xs,_,hS1,hx0⟩,?_⟩;rintro x H2 ⟨rfl,hy⟩;have hx:=hy xs hS1;obtain⟨d,hd⟩:∃d,ds[i]?=some d:=⟨_,OA hix⟩;refine turn i x d _ hx hd s1 _ _ λv H3 s3 p3=>?_
  have d3:H3 D=some (.lst ys):=s3 _ _ d1;have tm:aM K H2 (upd H3 D (.lst (ys++[v]))):=(aM.same s3).trans (aM.up d3 _);refine⟨d3,aR (by rw[al1.len,OD,P7];omega),ds.length-(i+1),by omega,hix,Z,ag,λb o q=>?_,?_⟩
  ·rw[au (aC q hD)];exact s3 _ _ (s1 _ _ q)
  ·rw[Ps,hd,P0];exact(al1.mono λv d p=>mono _ _ _ _ tm p).snoc (mono _ _ _ _ (aM.up d3 _) p3)
 ·have e:i=ds.length:=by omega
  subst e;rw[Pw] at al1;exact .inl ⟨⟨xs,hS1,by omega⟩,fin H1 ys s1 d1 al1⟩
theorem ot:∀{bs:List Bool} {us:List Value},be (bs.map V.bl) us->∀{i:Nat} {v:Value},us[i]?=some v->v=.bool (bs.getD i false)
 | [],_,.nil,i,v,e=>by cases e
 |b::bs,_,.cons r t,0,v,e=>by
  rw[UQ] at e
  cases e
  exact(show _=Tl b from r)
 |b::bs,_,.cons r t,i+1,v,e=>by
  rw[UR] at e;exact ot t e
theorem oC:∀(bs:List Bool),(OB bs.length).any (λi=>bs.getD i false)=bs.any id
 | []=>rfl
 |b::bs=>by
  rw[Pu,Vl,Rg,WO,Rg];have:=oC bs;show(b||(OB bs.length).any (λi=>bs.getD i false))=(id b||bs.any id);rw[this];rfl
theorem xi(hc:X.calm=true):dH X (.builtin "any") (λxs H Q=>∃(p:Addr) (bs:List Bool),xs=[.ref p]/\aS X.K H p (bs.map V.bl)/\Q (.bl (bs.any id)) H):=by
 intro pins s σ H xs us Q I r h;obtain⟨p,bs,rfl,hq,q⟩:=h;obtain⟨u,rfl,rx⟩:=fQ r
 cases rx
 obtain⟨its,rv,pl,hz⟩:=I.list hq;have ne:p≠s.heap.objs.size:=by
  obtain⟨o,ho,_⟩:=pl.isList;exact PF (OW ho)
 have hlen:its.toArray.size=bs.length:=by rw[Ph,←rv.length,OD]
 refine call_any_walk (Uv pl.isList ?_);refine⟨_,_,_,_,_,_,λi=>bs.getD i false,Z,Walks.list (A:=X.A.in1) (I.ok.hd hc) _ p ne its.toArray,⟨⟨_,O4 _ Z,Z,Z⟩,pl.isList.push _⟩,λi v s' Q' E' hv hQ=>?_,λh' tk hk=>?_⟩
 ·have e:=ot rv (i:=i) (v:=v) (by simpa using hv);subst e;exact RK hQ
 ·rw[hlen,oC];refine⟨.bl _,H,I.kept (t':=tk) λb o e=>hk b o (λz=>?_) (OG _ e),Z,q⟩;rw[OH.mp z] at e;exact absurd (OW e) (PL _)
def Md(te:TE)(i:Nat):TS:=λD σ H=>te σ H λx H1=>∃σ',σ.set i (some x)=σ'/\D.nx σ' H1
section
variable {prog:Po}{w:PM}{A:PB}{E:Value->OI->Prop}{s:OI}
end
section
variable {X:Cx}{pins:List (Addr×Ql)}{σ:L2.St}{H:Hp}{A:PB}{E:Value->OI->Prop}{a kS:Addr}{vs:List Value}{kz:List Int}{f:Value}{e1:Nat}
def KU(X:Cx)(σ:L2.St)(H:Hp)(A:PB)(f:Value)(vs:List Value)(kz:List Int):Prop:=
 ∀(i:Nat) (v:Value) (k:Int),vs[i]?=some v->kz[i]?=some k->∀(pins:List (Addr×Ql)) (s:OI),Inv X pins σ H s→
  OY (O3 X.prog X.w) A (call f [v]) (λu s2=>(∃t,u=.int k t)/\Inv X pins σ H s2) (λ_ _=>False) s
end
def FQ(sp:Sp)(key:Nat->Int):List V->Hp->VK->Prop:=λxs H Q=>∃(p:Addr) (n:Nat),xs=[.ref p]/\H p=some (.rng 0 n)/\n<64/\(∀i<n,∀(Qk:VK),Qk (.int (key i)) H->sp [.int (i:Nat)] H Qk λ_ _ _=>False)∧
 ∀(l:Addr) (ms:List Nat),ms.Perm (OB n)->ms.Pairwise (λa b=>key a≤key b)->H l=none->Q (.ref l) (upd H l (.lst (ms.map λi:Nat=>V.int i)))
def K5(sp:Sp)(key:Nat->Int)(t:TA):TE:=λσ H Q=>t σ H λvs H1=>FQ sp key vs H1 Q
def Jm:V->List V->Hp->VK->Prop:=λx vs H Q=>∃(l:Addr) (ns:List Nat) (j k:Nat),x=.ref l/\vs=[.int (k:Int)]/\H l=some (.lst (ns.map λi:Nat=>V.int i))/\ns[j]?=some k/\(∀m,m<j->ns[m]?≠some k)/\Q .non (upd H l (.lst ((ns.eraseIdx j).map λi:Nat=>V.int i)))
def Lw(k:Int):Value->Bool
 | .int i _=>i==k
 |_=>false
theorem Dd:MU X "list.remove" Jm:=by
 intro pins s σ H x vs v us Q I rx rv h;obtain⟨l,ns,j,k,rfl,rfl,hH,hj,hno,q⟩:=h
 cases rx
 obtain⟨u,rfl,ru⟩:=rv.one;obtain⟨t,rfl⟩:=ru;obtain⟨z,its,n,r,hl,e⟩:=I.lstM hH;rw[OD] at z hl;have at_:∀(m:Nat) (w:Value),its[m]?=some w->∃i t',ns[m]?=some i/\w=.int (i:Int) t':=λm w hw=>by
  have hm:m<its.length:=(OV.mp hw).1;obtain⟨i,hi⟩:∃i,ns[m]?=some i:=⟨_,OA (by omega)⟩;obtain⟨w',hw',t',e'⟩:=r.get (show(ns.map λi:Nat=>V.int i)[m]?=some (V.int i) by rw[OQ,hi];rfl);rw[hw] at hw'
  cases hw'
  exact⟨i,t',hi,e'⟩
 have jl:j<ns.length:=(OV.mp hj).1;have mem:∀y,y∈its.toArray->Xc y (.int (k:Int) t) (Lw k y):=λy hy=>by
  obtain⟨m,hm⟩:=VG (by simpa using hy);obtain⟨i,t',_,rfl⟩:=at_ m y hm;exact Xc.int _ _ _ _
 have val:∀m (hm:m<its.toArray.size) (i:Nat),ns[m]?=some i->Lw k its.toArray[m]=((i:Int)==(k:Int)):=λm hm i hi=>by
  have e1:its[m]?=some (its.toArray[m]):=by simp only[List.getElem_toArray];exact OA (by simpa using hm)
  obtain⟨i',t',h1,h2⟩:=at_ m _ e1;rw[hi] at h1
  cases h1
  rw[h2];rfl
 refine Wg F.slot_list_remove ⟨_,e,Z⟩ F.entry_list_remove (F.args_list_remove_2 _ _)
  (MeetsSeq.list_remove l its.toArray n _ (Lw k) mem j (by simpa [←hl] using jl) (by rw[val j _ k hj];simp) (λm hm lt=>?_) (by rw[Ph];omega)) ⟨e,?_⟩
 ·obtain⟨i,hi⟩:∃i,ns[m]?=some i:=⟨_,OA (by omega)⟩;rw[val m hm i hi];refine beq_eq_false_iff_ne.mpr λz=>hno m lt ?_
  rw[hi];exact congrArg some (by omega)
 refine⟨.non,_,I.lset (its':=its.eraseIdx j) hH e ?_ ?_ ?_,Z,q⟩
 ·show its.toArray.eraseIdxIfInBounds j=(its.eraseIdx j).toArray;rw[List.eraseIdxIfInBounds_toArray]
 ·have:=r.eraseIdx j;have e2:∀(l:List Nat) (j:Nat),(l.map λi:Nat=>V.int i).eraseIdx j=(l.eraseIdx j).map λi:Nat=>V.int i:=by
   intro l
   induction l with
   |nil=>intro j;rfl
   |cons a l ih=>
    intro j
    cases j with
    |zero=>rfl
    |succ j=>simp only[Pm,UV,ih]
  rw[e2] at this;exact this
 ·rw[OD];have:=List.length_eraseIdx_le ns j;omega
def qb(X:Cx)(N':List Pf)(scope:SG)(y:Pf)(cl:List (Pf×Addr))(C:Addr)(fp:List Addr)(pins:List (Addr×Ql))(s:OI)(H:Hp):Cx:=
 { X with N:=N',s₀:=s,H₀:=H,env:=S9 scope ((y,C+1)::cl) C X.env,outer:=X.stack,stack:=X.stack,ex:=fp,fn:=λz=>z==y,pn:=X.pn++pins,xe:=λ_ _=>False}
structure kd(X:Cx)(scope:SG)(y:Pf)(cl:List (Pf×Addr)):Prop where
 has:∀x,((S9 scope cl 0 X.env).kindOf x=some .cell∨(S9 scope cl 0 X.env).kindOf x=some .free)->x=y∨∃c,cl.lookup x=some c
 up:∀x c,cl.lookup x=some c->X.env.cells.lookup x=some c
 no:cl.lookup y=none
theorem w9(h1:((WH scope X.env).names.all λz=>!(z.2==.cell||z.2==.free)||(z.1==y)||(cl.lookup z.1).isSome)=true)(h2:ic X cl)(h3:cl.lookup y=none):kd X scope y cl:=by
 refine⟨λx h=>?_,λx c e=>h2.mem _ (mem_of_lookup e),h3⟩;have h4:=QV.mp h1;have key:∀k:SN,(k=.cell∨k=.free)->(WH scope X.env).names.lookup x=some k->x=y∨∃c,cl.lookup x=some c:=λk hk e=>by
  have q:=h4 _ (mem_of_lookup e);have z:(k==VZ||k==X8)=true:=by rcases hk with rfl|rfl<;>rfl
  simp only[z,V0,UG,Xy] at q;rcases q with q|q
  ·exact .inl (T8 q)
  ·exact .inr (QH.mp q)
 rcases h with h|h
 ·exact key _ (.inl Z) h
 ·exact key _ (.inr Z) h
theorem eU{cl:List (Pf×Addr)}(h:((y,a):: cl).lookup x=some c):(x=y/\c=a)∨(x≠y/\cl.lookup x=some c):=by
 rw[SF] at h
 cases e:x==y with
 |true=>
  rw[e] at h;injection h with h;exact .inl ⟨T8 e,h.symm⟩
 |false=>
  rw[e] at h;refine .inr ⟨λz=>?_,h⟩;rw[z,beq_self_eq_true] at e
  cases e
theorem uT{cl:List (Pf×Addr)}(n:cl.lookup y=none)(h:cl.lookup x=some c):((y,a):: cl).lookup x=some c:=by
 have ne:(x==y)=false:=by
  cases e:x==y with
  |true=>rw[T8 e,n] at h;cases h
  |false=>rfl
 rw[SF,ne];exact h
section
variable {M:Model}{A:PB}{E:Value->OI->Prop}{s:OI}
theorem Da(hs:∀n:Nat,T7 n scope.names cl=(y,n):: cl)(hp:∀h:OR,Xd h scope.names=h.push { cls:=.type "cell",data:=.cell none})
  (hQ:Q { scope,locals:=s.heap.objs.size,globals,cells:=(y,s.heap.objs.size+1):: cl,qual,func:=none,code:=outer.code,frame:=outer.frame,builtins:=outer.builtins} { s with heap:=(s.heap.push { cls:=.type "dict",data:=.dict #[]}).push { cls:=.type "cell",data:=.cell none} }):
  OY M A (Ug scope globals cl [] qual none .none (some outer)) Q E s:=by
 simp only[Ug,SX,if_true];refine OE (wpAny_alloc (OE (wpAny_layCells _ (λname kind cells=>by cases hkc:kind==VZ<;>simp[hkc]) _ _ _ _ ?_)));rw[hs,hp];refine OE (wpAny_pure (wpAny_pure ?_));rw[show({ s with heap:=s.heap.push { cls:=.type "dict",data:=.dict #[]} }:OI).heap.objs.size=s.heap.objs.size+1 from Rm ..];exact hQ
end
section
variable {X:Cx}{N':List Pf}{scope:SG}{y:Pf}{cl:List (Pf×Addr)}{src:List (Option Nat)}{pins:List (Addr×Ql)}{σ:L2.St}{H:Hp}{s:OI}{fp:List Addr}
theorem Cx.compD_ok{C:Addr}(I:Inv X pins σ H s)(hC:s.heap.objs.size≤C)(hk:scope.kind=.function)(hf:∀b∈fp,gE X pins H b)(hfs:∀b∈fp,b<s.heap.objs.size)(hc:kd X scope y cl) :
  (qb X N' scope y cl C fp pins s H).Ok where
 mod:=I.ok.mod
 kind:=hk
 glob:=I.ok.glob
 blt:=I.ok.blt
 above:=hC
 inj:=λa b c e1 e2=>by
  have old:∀z,cl.lookup z=some (C+1)->False:=λz e=>by
   obtain⟨v,o,ho,_⟩:=I.cell z _ (hc.up z _ e);have q:=OW ho;exact PL _ (O5 (PN (Q3 C) q) hC)
  rcases eU e1 with⟨h1,h2⟩ | ⟨_,h2⟩
  ·rcases eU e2 with⟨h3,_⟩ | ⟨_,h4⟩
   ·rw[h1,h3]
   ·rw[h2] at h4;exact(old b h4).elim
  ·rcases eU e2 with⟨_,h4⟩ | ⟨_,h4⟩
   ·rw[h4] at h2;exact(old a h2).elim
   ·exact I.ok.inj a b c (hc.up a c h2) (hc.up b c h4)
 has:=λx h=>by
  rcases hc.has x h with z | ⟨c,z⟩
  ·exact⟨C+1,by show((y,C+1)::cl).lookup x=_;rw[z,SF,beq_self_eq_true]⟩
  ·exact⟨c,uT hc.no z⟩
 cab:=λx c z e=>by
  have zx:x=y:=T8 z;rcases eU e with⟨_,h2⟩ | ⟨h1,_⟩
  ·rw[h2];exact O7 hC (Q3 C)
  ·exact absurd zx h1
 hd:=I.ok.hd
 frames:=I.ok.frames
 stk:=.inl Z
 exf:=λb hb=>⟨λz=>by have:=hfs b hb;rw[show b=C from z] at this;exact absurd (O5 this hC) (PL _),λx c e=>by
  rcases eU e with⟨_,h2⟩ | ⟨_,h2⟩
  ·have q:=hfs b hb;intro z;rw[show b=C+1 from z.symm.trans h2] at q;exact PL _ (O5 (PN (Q3 C) q) hC)
  ·exact(hf b hb).2.2.2.2.1 x c (hc.up x c h2)⟩
 bs:=I.bs
 bsz:=O7 I.ok.bsz I.sz
 noex:=λb o e hb=>by
  rcases(hf b hb).2.2.2.1 with z|z
  ·exact I.ok.noex b o e z
  ·rw[(I.ok.bs b o e).1] at z;cases z
 exfs:=λb hb z=>by
  rcases OO.mp (I.stkSub b z) with q|q
  ·exact(hf b hb).2.1 q
  ·exact(hf b hb).2.2.1 q
 funs:=I.stack
 frf:=I.stkFree
theorem Inv.compD{C:Addr}{h₁:OR}{m:Pf->Option Value}{tk:Nat}(I:Inv X pins σ H s)(hC:C=s.heap.objs.size)(hns:h₁.Ns C m)(hcl1:h₁.IsCell (C+1) none)(keep:∀b o,s.heap.get? b=some o->h₁.get? b=some o)
  (hk:scope.kind=.function) (hf:∀b∈fp,gE X pins H b) (hfs:∀b∈fp,b<s.heap.objs.size) (hc:kd X scope y cl) (hfree:cC X scope cl N' src) :
  Inv (qb X N' scope y cl C fp pins s H) [] (bW src σ) H { s with heap:=h₁,toks:=tk} where
 ok:=Cx.compD_ok I (Sd hC.symm) hk hf hfs hc
 os:=Z
 bare:=I.bare
 base:=Un.kept keep
 loc:=⟨m,hns,λi x v e1 e2 _=>by
  obtain⟨j,hj,hσ,kc,kc',hl⟩:=hfree.at e1 e2;obtain⟨m0,hn0,hl0⟩:=I.loc;obtain⟨u,r,l⟩:=hl0 j x v hj hσ (Pp (Pq kc));rcases l with⟨k,_⟩ | ⟨k,c,e,o,ho,hd⟩
  ·rw[kc] at k;cases k
  ·exact⟨u,r,.inr ⟨.inl kc',c,uT hc.no (hl.trans e),o,keep c o ho,hd⟩⟩⟩
 cell:=λx c e=>by
  rcases eU e with⟨_,h2⟩ | ⟨_,h2⟩
  ·rw[h2];exact⟨none,hcl1⟩
  ·obtain⟨v,o,ho,hd⟩:=I.cell x c (hc.up x c h2);exact⟨v,o,keep _ _ ho,hd⟩
 free:=I.hok.fresh (Sd hC.symm)
 freeC:=λx c e=>by
  rcases eU e with⟨_,h2⟩ | ⟨_,h2⟩
  ·rw[h2];exact I.hok.fresh (by rw[hC];exact Q3 _)
  ·exact I.freeC x c (hc.up x c h2)
 pin:=λp hp=>by
  have hp':p∈X.pn++pins:=by
   have z:p∈(X.pn++pins)++[]:=hp;rw[Qr] at z;exact z
  obtain⟨e,n,ne,nf,d⟩:=I.pin p hp';refine⟨keep _ _ e,n,λz=>?_,λz=>?_,d⟩
  ·have:=OW e;rw[show p.1=C from z,hC] at this;exact PL _ this
  ·rcases OO.mp (I.stkSub _ z) with q|q
   ·exact ne q
   ·exact nf q
 hok:=I.hok.kept keep
 len:=by show(bW src σ).length=N'.length;unfold bW;rw[OD,hfree.len]
end
section
variable {X:Cx}{N':List Pf}{scope:SG}{y:Pf}{cl:List (Pf×Addr)}{src:List (Option Nat)}{tg iter elt:PD}{ifs:List PD}{wi:TI}{g:TG}{tt:TT}{te:TE}{pos:So}
theorem wY(hc:X.calm=true)(hi:PI X tg iter wi)(hg:∀C fp pins s H,PG (qb X N' scope y cl C fp pins s H) tg g)(ht:∀C fp pins s H,EK (qb X N' scope y cl C fp pins s H) ifs tt)
  (he:∀C fp pins s H,PE (qb X N' scope y cl C fp pins s H) elt te) (hfree:cC X scope cl N' src) (hcf:∀n:Nat,T7 n scope.names cl=(y,n)::cl) (hcp:∀h:OR,Xd h scope.names=h.push { cls:=.type "cell",data:=.cell none}) (hkind:scope.kind=.function) (hcl:kd X scope y cl)
  {RR:Value->Addr->WZ->OI->Prop} {pins:List (Addr×Ql)} {s:OI} {σ:L2.St} {H:Hp} {Q:VK} (I:Inv X pins σ H s) (h:i4 wi src g tt te σ H Q)
  (hRR:∀D C H' s',Q (.ref D) H'->(∃m,s'.heap.Ns C m)->Inv X pins σ H' s'->xq X pins H' C->RR (.ref D) C (.ok .next) s') :
  OY (O3 X.prog X.w) X.A (eval iter X.env) (λx s₁=>OY (O3 X.prog X.w) X.A (Yl x) (λitv s₂=>OY (O3 X.prog X.w) X.A (XE []) (λacc s₃=>
   OY (O3 X.prog X.w) X.A (Ug scope X.env.globals cl [] X.env.qual none .none (some X.env)) (λcenv s₄=>
    SE (O3 X.prog X.w) X.A (.compStart (.ListComp elt [⟨tg,iter,ifs,0⟩] scope pos) 0 itv acc { cenv with scope:=WH scope X.env}) (RR acc cenv.locals) s₄) X.xe s₃) X.xe s₂) X.xe s₁) X.xe s:=by
 refine bU (hi pins s σ H _ I h) λv s1 h1=>bU h1 λitv s2 h2=>?_
 obtain⟨it,fp,tn,J,H2,e,I2,T,st2,f2,h2⟩:=h2;subst e;refine P8 ?_ (by show 0≤sizeLine;exact OZ _);have hD:H2 s2.heap.objs.size=none:=I2.fresh;have I3:Inv X pins σ (upd H2 s2.heap.objs.size (.lst [])) { s2 with heap:=s2.heap.push { cls:=.type "list",data:=.seq ([]:List Value).toArray} }:=I2.lnew (t':=s2.toks) (its:=[]) .nil (OZ _);obtain⟨W,⟨m0,w0⟩,turn⟩:=h2 s2.heap.objs.size hD;generalize hDe:s2.heap.objs.size=D at I3 turn w0 hD ⊢;have st3:tn 0 (s2.heap.push { cls:=.type "list",data:=.seq ([]:List Value).toArray}):=T.keep _ _ _ st2 λb _ o e=>OG _ e
 have f3:∀b∈fp,gE X pins (upd H2 D (.lst [])) b/\b<(s2.heap.push { cls:=.type "list",data:=.seq ([]:List Value).toArray}).objs.size:=λb hb=>by
  obtain⟨o,e,_⟩:=T.obj _ _ st2 b hb;have l:=OW e;rw[hDe] at l;refine⟨⟨?_,(f2 b hb).2⟩,by rw[Rm,hDe];exact Ta l⟩;rw[au (PF l)];exact(f2 b hb).1
 generalize (s2.heap.push { cls:=.type "list",data:=.seq ([]:List Value).toArray})=h3 at I3 st3 f3 ⊢;refine Da hcf hcp ?_;have sz:(h3.push { cls:=.type "dict",data:=.dict #[]}).objs.size=h3.objs.size+1:=Rm ..;have hns₄:=(OR.Ns.new h3 (.type "dict")).keeps λb o e=>OG { cls:=.type "cell",data:=.cell none} e
 have hce₄:((h3.push { cls:=.type "dict",data:=.dict #[]}).push { cls:=.type "cell",data:=.cell none}).IsCell (h3.objs.size+1) none:=⟨_,by rw[←sz];exact O4 _ Z,Z⟩;have keep:∀b o,h3.get? b=some o->((h3.push { cls:=.type "dict",data:=.dict #[]}).push { cls:=.type "cell",data:=.cell none}).get? b=some o:=λb o e=>OG _ (OG _ e)
 generalize (h3.push { cls:=.type "dict",data:=.dict #[]}).push { cls:=.type "cell",data:=.cell none}=h₄ at hns₄ hce₄ keep ⊢;have I4:=Inv.compD (C:=h3.objs.size) (fp:=fp) (tk:=s2.toks) I3 Z hns₄ hce₄ keep hkind (λb hb=>(f3 b hb).1) (λb hb=>(f3 b hb).2) hcl hfree;have st4:tn 0 h₄:=T.keep _ _ _ st3 λb _ o e=>keep b o e
 have fpn:∀b∈fp,(upd H2 D (.lst [])) b=none:=λb hb=>(f3 b hb).1.1
 have hn3:∀b∈fp,b≠h3.objs.size:=λb hb=>PF (f3 b hb).2
 have stat:∀{H':Hp},(∀b∈fp,H' b=none)->∀b∈fp,gE (qb X N' scope y cl h3.objs.size fp pins { s2 with heap:=h3} (upd H2 D (.lst []))) [] H' b:=λhn b hb=>
  ⟨hn b hb,hn3 b hb,I4.ok.exfs b hb,.inl hb,λx c e=>(by
   rcases eU e with⟨_,h2⟩ | ⟨_,h2⟩
   ·intro z;have q:=(f3 b hb).2;rw[show b=h3.objs.size+1 from z.symm.trans h2] at q;exact PL _ (PN (Q3 _) q)
   ·exact(f3 b hb).1.2.2.2.2.1 x c (hcl.up x c h2)),λp hp=>(f3 b hb).1.2.2.2.2.2 p (by
   have z:p∈(X.pn++pins)++[]:=hp;rw[Qr] at z;exact z)⟩
 have back:∀{H':Hp} {s':OI},Inv (qb X N' scope y cl h3.objs.size fp pins { s2 with heap:=h3} (upd H2 D (.lst []))) [] (bW src σ) H' s'->(∃m,s'.heap.Ns h3.objs.size m)/\Inv X pins σ H' s'/\xq X pins H' h3.objs.size:=λ{H' s'} I'=>by
  have Ib:Inv X pins σ H' s':=I3.call' I'.os I'.base I'.hok I'.bare λb hb=>⟨(f3 b hb).1.2.2.2.1,(f3 b hb).1.2.1,(f3 b hb).1.2.2.2.2.1,(f3 b hb).1.2.2.2.2.2⟩
  refine⟨let ⟨m,hm,_⟩:=I'.loc;⟨m,hm⟩,Ib,⟨I'.free,λz=>?_,I3.nofs (OC _),Qo I3.sz,λx c e z=>?_,λp hp z=>?_⟩⟩
  ·have:=I3.lt;rw[←z] at this;exact PL _ this
  ·obtain⟨v,o,ho,_⟩:=I3.cell x c e;have:=OW ho;rw[z] at this;exact PL _ this
  ·obtain⟨e,_⟩:=I3.pin p hp;have:=OW e;rw[z] at this;exact PL _ this
 have loop:SE (O3 X.prog X.w) X.A (.compLoop (.ListComp elt [⟨tg,iter,ifs,0⟩] scope pos) 0 (.ref it) (.ref D) (S9 scope ((y,h3.objs.size+1)::cl) h3.objs.size X.env)) (RR (.ref D) h3.objs.size) { s2 with heap:=h₄,toks:=s2.toks}:=by
  refine oo (λn s'=>∃i ys H',Inv (qb X N' scope y cl h3.objs.size fp pins { s2 with heap:=h3} (upd H2 D (.lst []))) [] (bW src σ) H' s'/\tn i s'.heap/\(∀b∈fp,H' b=none)/\W i n ys H') ?_ m0 ⟨0,[],_,I4,st4,fpn,w0⟩;rintro n s5 ⟨i,ys,H5,I5,st5,fr5,w5⟩;rcases turn i n ys H5 w5 with⟨stop,qn⟩ | ⟨go,step⟩
  ·refine bU (T.done (qb X N' scope y cl h3.objs.size fp pins { s2 with heap:=h3} (upd H2 D (.lst []))) rfl rfl rfl hc i [] s5 _ H5 _ I5 (stat fr5) st5 stop) λr s6 ⟨hr,I6⟩=>?_
   subst hr;obtain⟨b1,b2,b3⟩:=back I6;exact hRR D _ H5 s6 qn b1 b2 b3
  ·refine bU (T.item (qb X N' scope y cl h3.objs.size fp pins { s2 with heap:=h3} (upd H2 D (.lst []))) rfl rfl rfl hc i [] s5 _ H5 _ I5 (stat fr5) st5 go) λr s6 ⟨u,hr,h6⟩=>?_
   subst hr;refine bU h6 λ_ s7 ⟨x,H7,I7,r7,y7,st7,fr7⟩=>?_
   have I7':=I7.pinned (stat fr7) (T.obj _ _ st7);refine bU (hg _ _ _ _ _ _ s7 _ H7 x u _ I7' r7 (step x H7 y7)) λ_ s8 ⟨σ8,H8,I8,ex8,q8⟩=>?_
   refine bU (ht _ _ _ _ _ _ s8 σ8 H8 _ I8 q8) λok s9 ⟨H9,I9,q9⟩=>?_
   have again:∀{ys':List V} {Ha:Hp} {sa:OI},Inv (qb X N' scope y cl h3.objs.size fp pins { s2 with heap:=h3} (upd H2 D (.lst []))) ([]++jT fp s7.heap) σ8 Ha sa->(∃m',m'<n/\W (i+1) m' ys' Ha)→
     ∃m,m<n/\∃i ys H',Inv (qb X N' scope y cl h3.objs.size fp pins { s2 with heap:=h3} (upd H2 D (.lst []))) [] (bW src σ) H' sa/\tn i sa.heap/\(∀b∈fp,H' b=none)/\W i m ys H':=λ{ys' Ha sa} Ia ⟨m',hm,wa⟩=>by
    refine⟨m',hm,i+1,ys',Ha,(Ia.unpinned).weak ex8.1.symm ex8.2,T.keep _ _ _ st7 λb hb o e=>(Ia.pin (b,o) (OX _ (OX _ (eI hb e)))).1,λb hb=>?_,wa⟩;obtain⟨o,e,_⟩:=T.obj _ _ st7 b hb;exact(Ia.pin (b,o) (OX _ (OX _ (eI hb e)))).2.1
   cases ok with
   |false=>exact again I9 q9
   |true=>
    refine bU (he _ _ _ _ _ _ s9 σ8 H9 _ I9 q9) λy s10 ⟨yv,H10,I10,r10,q10,hz,wn⟩=>?_
    refine bU (bH _ s10 σ8 H10 (.ref D) [yv] (.ref D) [y] (λ_ Hz=>∃m',m'<n/\W (i+1) m' (ys++[yv]) Hz) I10 Z (.cons r10 .nil) ⟨D,ys,yv,Z,Z,q10,hz,wn⟩) λ_ s11 ⟨_,H11,I11,_,q11⟩=>?_
    exact again I11 q11
 exact Vg loop (T.self _ 0 _ _ _ st4 loop)
theorem zX{i:Nat}{x:Pf}{pos' pos2:So}(hN:X.N.Nodup)(hi':X.N[i]?=some x)(hx:xx X.env.scope x)(hc:X.calm=true)(hi:PI X tg iter wi)(hg:∀C fp pins s H,PG (qb X N' scope y cl C fp pins s H) tg g)(ht:∀C fp pins s H,EK (qb X N' scope y cl C fp pins s H) ifs tt)
  (he:∀C fp pins s H,PE (qb X N' scope y cl C fp pins s H) elt te) (hfree:cC X scope cl N' src) (hclos:Tp scope X.env=QP cl) (hcf:∀n:Nat,T7 n scope.names cl=(y,n)::cl) (hcp:∀h:OR,Xd h scope.names=h.push { cls:=.type "cell",data:=.cell none}) (hkind:scope.kind=.function)
  (hnames:∀x∈scope.names,x.2=.local->scope.names.lookup x.1=some .local) (hcl:kd X scope y cl) (hs:∀x,QB iter X.env x=QP x:=by intro _;rfl)
  (hsw:Rq (.ListComp elt [⟨tg,iter,ifs,0⟩] scope pos) (some (.Name x pos')) pos2.line X.env=QP true:=by rfl) (hf:X.fn x=true∨X.env.scope.names.lookup x=some .local:=by first|exact .inl Z|exact .inr Z|assumption) :
  PS X (.Assign [.Name x pos'] (.ListComp elt [⟨tg,iter,ifs,0⟩] scope pos) pos2) (oO (i4 wi src g tt te) (jq i)):=by
 intro pins s σ H D I h;rw[Vv _ _ _ _ hsw];refine OE (Sq ?_);show OY _ _ ((comprehension (.ListComp elt [⟨tg,iter,ifs,0⟩] scope pos) scope X.env _ (XE []) false (eval iter X.env) (some (Tn (.Name x pos') X.env)) >>= λ_=>QP ()) >>= λ_=>QP WW) _ _ s;refine OE (OE (Qp (SO (use:=some (Tn (.Name x pos') X.env)) (Q:=λ_ s''=>SP X pins D .next s'') Z hs hclos hkind hnames (wY hc hi hg ht he hfree hcf hcp hkind hcl (RR:=λacc C=>compPost (O3 X.prog X.w) X.A X.xe (some (Tn (.Name x pos') X.env)) (λ_ s''=>SP X pins D .next s'') acc C) I h λE C H' s' q hm hI hb=>?_)) (λ_ s'' h''=>wpAny_pure (wpAny_pure h'')) λ_ _ e=>e));obtain⟨m,o,es,ep,ho,hd,r1,r2⟩:=hm;have I':Inv X (pins++[(C,o)]) σ H' s':=hI.pins_of λp hp=>by
  rcases Pn.mp hp with h|h
  ·exact hI.pin p (OX _ h)
  ·rw[OH] at h;rw[h];exact⟨ho,hb.no,hb.lo,hb.fs,λv z=>by rw[hd] at z;cases z⟩
 refine Ut (fG I' hN hi' hx (show RelV (.ref E) (.ref E) from Z) (λs'' I''=>?_) hf);have hC:=(I''.pin (C,o) (OX _ (OX _ OJ))).1;have I3:Inv X pins (σ.set i (some (.ref E))) H' s'':=I''.pins_of λp hp=>I''.pin p (OX _ (P2 _ hp))
 exact⟨m,⟨o,es,ep,hC,hd,r1,r2⟩,λh' sb=>⟨_,H',hb.turned I3 sb,q⟩⟩
end
section
variable {X:Cx}{N':List Pf}{scope:SG}{y:Pf}{cl:List (Pf×Addr)}{src:List (Option Nat)}{tg iter elt:PD}{ifs:List PD}{wi:TI}{g:TG}{tt:TT}{te:TE}{pos:So}
theorem zM{i:Nat}{x:Pf}{pos' pos2:So}(hN:X.N.Nodup)(hi':X.N[i]?=some x)(hx:xx X.env.scope x)(hc:X.calm=true)(hi:QI X tg iter wi)(hg:∀C fp pins s H,QG (qb X N' scope y cl C fp pins s H) tg g)(ht:∀C fp pins s H,Iz (qb X N' scope y cl C fp pins s H) ifs tt)(he:∀C fp pins s H,QE (qb X N' scope y cl C fp pins s H) elt te)(hfree:cC X scope cl N' src)(hclos:Tp scope X.env=QP cl)(hcf:∀n:Nat,T7 n scope.names cl=(y,n)::cl)(hcp:∀h:OR,Xd h scope.names=h.push { cls:=.type "cell",data:=.cell none})(hkind:scope.kind=.function)(hnames:∀x∈scope.names,x.2=.local->scope.names.lookup x.1=some .local)(hcl:kd X scope y cl)(hs:∀x,QB iter X.env x=QP x:=by intro _;rfl)(hsw:Rq (.ListComp elt [⟨tg,iter,ifs,0⟩] scope pos) (some (.Name x pos')) pos2.line X.env=QP true:=by rfl)(hf:X.fn x=true∨X.env.scope.names.lookup x=some .local:=by first|exact .inl Z|exact .inr Z|assumption):QS X (.Assign [.Name x pos'] (.ListComp elt [⟨tg,iter,ifs,0⟩] scope pos) pos2) (oO (i4 wi src g tt te) (jq i)):=⟨zX hN hi' hx hc hi.p (λz0 z1 z2 z3 z4=>(hg z0 z1 z2 z3 z4).p) (λz0 z1 z2 z3 z4=>(ht z0 z1 z2 z3 z4).p) (λz0 z1 z2 z3 z4=>(he z0 z1 z2 z3 z4).p) hfree hclos hcf hcp hkind hnames hcl hs hsw hf⟩
theorem vW(hclos:Tp scope X.env=QP cl)(hc:X.calm=true)(hi:QI X tg iter wi)(hg:∀C fp pins s H,QG (j4 X N' scope cl C fp pins s H) tg g)(ht:∀C fp pins s H,Iz (j4 X N' scope cl C fp pins s H) ifs tt)(he:∀C fp pins s H,QE (j4 X N' scope cl C fp pins s H) elt te)(hfree:cC X scope cl N' src)(hcell:∀x∈scope.names,x.2≠.cell)(hkind:scope.kind=.function)(hnames:∀x∈scope.names,x.2=.local->scope.names.lookup x.1=some .local)(hcl:fq X scope cl)(hs:∀x,QB iter X.env x=QP x:=by intro _;rfl):QE X (.ListComp elt [⟨tg,iter,ifs,0⟩] scope pos) (i4 wi src g tt te):=cr hc hi hg ht he hfree hclos hcell hkind hnames hcl hs
theorem zO{K:Oz}{l tg:PD}{tl:TE}(hK:X.K=K)(hl:QE X l tl):QI X tg l (AW K tl):=by subst hK;exact cH hl
theorem C3{K:Oz}{k:Nat}(hK:X.K=K)(hr:cV k X.A):ib X (Qs .NotEq) (Jn K):=hK▸sW hr
theorem tT{X:Cx}{K:Oz}(hK:X.K=K)(hc:X.calm=true):dH X (.builtin "any") (λxs H Q=>∃p bs,xs=[V.ref p]/\aS K H p (Yr V.bl bs)/\Q (V.bl (bs.any id)) H):=by subst hK;exact xi hc
end
structure dS(K:Oz)(n:Pf)(st:Stmt)(f:Addr)(d:OK):Prop where
 p:PySem.W.nsIn K Pj n=some (some (.ref f))
 F:Fun K n n st f d
section
variable {K:Oz}{n:Pf}{st:Stmt}{f:Addr}{d:OK}
theorem isF{oc:Value}{od an:Option Addr}{sl:Array (Option Value)}{kV dc pm cd ct:Value}(p:PySem.W.nsIn K Pj n=some (some (.ref f)))
  (l:K.lookup f=some ⟨oc,od,.func (QL n n (di st) (cM st) (ay st) .none kV dc pm an cd ct),sl⟩) (c:S8 K cd n=true) (k:QF K (.ref f)=true) :
  dS K n st f (QL n n (di st) (cM st) (ay st) .none kV dc pm an cd ct):=⟨p,pW l c k⟩
abbrev BA(n:Pf)(st:Stmt)(us:List Value)(ps:List Pf):Prop:=∀(kV dc pm:Value) (an:Option Addr) (cd ct:Value),Ww (QL n n (di st) (cM st) (ay st) .none kV dc pm an cd ct) ⟨us,[]⟩=QP (ps.zip us)
theorem dS.b1{x:Pf}(I:dS K n st f d)(h:∀u,BA n st [u] [x]:=by exact λ_ _ _ _ _ _ _=>Z):aL K d [x] []:=I.F.binds λa b c e g i us hl=>match us,hl with | [u],_=>h u a b c e g i
theorem dS.b2{x y:Pf}(I:dS K n st f d)(h:∀u v,BA n st [u,v] [x,y]:=by exact λ_ _ _ _ _ _ _ _=>Z):aL K d [x,y] []:=I.F.binds λa b c e g i us hl=>match us,hl with | [u,v],_=>h u v a b c e g i
theorem dS.b3{x y z:Pf}(I:dS K n st f d)(h:∀u v w,BA n st [u,v,w] [x,y,z]:=by exact λ_ _ _ _ _ _ _ _ _=>Z):aL K d [x,y,z] []:=I.F.binds λa b c e g i us hl=>match us,hl with | [u,v,w],_=>h u v w a b c e g i
theorem dS.b5{x y z t s:Pf}(I:dS K n st f d)(h:∀u v w r q,BA n st [u,v,w,r,q] [x,y,z,t,s]:=by exact λ_ _ _ _ _ _ _ _ _ _ _=>Z):aL K d [x,y,z,t,s] []:=I.F.binds λa b c e g i us hl=>match us,hl with | [u,v,w,r,q],_=>h u v w r q a b c e g i
end
theorem ah{X:Cx}{st:Stmt}{cP:List Stmt}{t u:TS}(h1:QS X st t)(h2:cZ X cP u):cZ X (st::cP) (let Uq:=u;EU t Uq):=zL h1 h2
def Kj(K:Oz)(a b:Addr):It:=
 ⟨λi H=>∃xs ys x y,aS K H a xs/\bu K H b ys/\xs[i]?=some x/\ys[i]?=some y,
  λi H v H'=>∃p x y,H p=none/\v=.ref p/\H'=upd H p (.tup [x,y])/\(∀xs,aS K H a xs->xs[i]?=some x)/\∀ys,bu K H b ys->ys[i]?=some y,
  λi H=>∃xs ys,aS K H a xs/\bu K H b ys/\(xs.length≤i∨ys.length≤i)⟩
def ML(z TI TO i1 i2 a b:Addr)(i:Nat)(h:OR):Prop:=IsZip h z TI TO .none/\XY h TI (.ref i1) (.ref i2)/\(∃u v,XY h TO u v)/\h.IsListIter i1 a i/\h.IsTupleIter i2 b i
abbrev IH(h:OR)(a:Addr):OR:=h.push { cls:=.type "list_iterator",data:=.fields #[.ref a,.int 0 0]}
abbrev IF(h:OR)(a b:Addr):OR:=(IH h a).push { cls:=.type "tuple_iterator",data:=.fields #[.ref b,.int 0 0]}
abbrev ID(h:OR)(a b:Addr):OR:=(IF h a b).push { cls:=.type "tuple",data:=.seq #[.ref h.objs.size,.ref (IH h a).objs.size]}
abbrev KY(h:OR)(a b:Addr):OR:=(ID h a b).push { cls:=.type "tuple",data:=.seq #[.none,.none]}
abbrev M4(h:OR)(a b:Addr):OR:=(KY h a b).push { cls:=.type "zip",data:=.fields #[.none,.bool false,.bool false,.ref (IF h a b).objs.size,.ref (ID h a b).objs.size]}
def Lz(K:Oz)(ta:TA):TI:=λσ H R=>ta σ H λvs H1=>∃a b,vs=[.ref a,.ref b]/\(∃xs,aS K H1 a xs)/\(∃ys,bu K H1 b ys)/\R (Kj K a b) H1
def Kk(K:Oz)(a b:Addr):It:=
 ⟨λi H=>∃xs ys x y,aS K H a xs/\aS K H b ys/\xs[i]?=some x/\ys[i]?=some y,
  λi H v H'=>∃p x y,H p=none/\v=.ref p/\H'=upd H p (.tup [x,y])/\(∀xs,aS K H a xs->xs[i]?=some x)/\∀ys,aS K H b ys->ys[i]?=some y,
  λi H=>∃xs ys,aS K H a xs/\aS K H b ys/\(xs.length≤i∨ys.length≤i)⟩
def MM(z TI TO i1 i2 a b:Addr)(i:Nat)(h:OR):Prop:=IsZip h z TI TO .none/\XY h TI (.ref i1) (.ref i2)/\(∃u v,XY h TO u v)/\h.IsListIter i1 a i/\h.IsListIter i2 b i
abbrev II(h:OR)(a:Addr):OR:=h.push { cls:=.type "list_iterator",data:=.fields #[.ref a,.int 0 0]}
abbrev IG(h:OR)(a b:Addr):OR:=(II h a).push { cls:=.type "list_iterator",data:=.fields #[.ref b,.int 0 0]}
abbrev IE(h:OR)(a b:Addr):OR:=(IG h a b).push { cls:=.type "tuple",data:=.seq #[.ref h.objs.size,.ref (II h a).objs.size]}
abbrev KZ(h:OR)(a b:Addr):OR:=(IE h a b).push { cls:=.type "tuple",data:=.seq #[.none,.none]}
abbrev M5(h:OR)(a b:Addr):OR:=(KZ h a b).push { cls:=.type "zip",data:=.fields #[.none,.bool false,.bool false,.ref (IG h a b).objs.size,.ref (IE h a b).objs.size]}
def LA(K:Oz)(ta:TA):TI:=λσ H R=>ta σ H λvs H1=>∃a b,vs=[.ref a,.ref b]/\(∃xs,aS K H1 a xs)/\(∃ys,aS K H1 b ys)/\R (Kk K a b) H1
section
variable {prog:Po}{w:PM}{A:PB}{E:Value->OI->Prop}
end
section
variable {prog:Po}{w:PM}{A:PB}{E:Value->OI->Prop}{s:OI}
end
structure Ke(K:Oz)(H:Hp)(ys:List V)(kvs:List (List cA×V)):Prop where
 len:ys.length=kvs.length
 row:∀(i:Nat) (kv:List cA×V),kvs[i]?=some kv->∃r b,ys[i]?=some (.ref r)/\bu K H r [.ref b,kv.2]/\H b=some (.tup (kv.1.map kV))
 nd:(kvs.map (·.1)).Nodup
def Li(K:Oz):List V->Hp->VK->Prop:=λvs H Q=>∃(p:Addr) (ob:Ql) (ys:List V) (kvs:List (List cA×V)),vs=[.ref p]/\H p=some (.frz ob (.tup ys))/\ob.dict=none/\Ke K H ys kvs/\∀l,H l=none->Q (.ref l) (upd H l (.dT kvs))
def Mi(K:Oz):List V->Hp->VK->Prop:=λvs H Q=>∃(p:Addr) (ys:List V),vs=[.ref p]/\aS K H p ys/\∀(l:Addr) (ob:Ql),H l=none->ob.dict=none->Q (.ref l) (upd H l (.frz ob (.tup ys)))
section
variable {X:Cx}{K:Oz}
theorem bE(hu:X.A.units+1<cLine)(ho:QE X o td)(hi:QE X i ty)(hs:HZ i):QE X (.Subscript o i pos) (Ec td ty):=⟨CV hu ho.p hi.p hs⟩
end
section
set_option autoImplicit true
set_option relaxedAutoImplicit true
theorem c8(he:QE X e ta)(hb:Rz e f X.env (eval e X.env)=eval e X.env):QE X (.Attribute e f pos) (IT X.K ta f):=⟨Gn he.p hb⟩
theorem pF(ha:QE X o ta)(hv:QE X value tv)(hs:Rq value (some (.Attribute o f pos')) pos.line X.env=QP false):QS X (.Assign [.Attribute o f pos'] value pos) (Je X.K ta tv f):=⟨F7 ha.p hv.p hs⟩
theorem vU(ha:QE X o ta)(hv:QE X value tv)(hop:Ig X op rd):QS X (.AugAssign (.Attribute o f tpos) op value pos) (uC X.K ta tv rd f):=⟨vZ ha.p hv.p hop⟩
theorem Cs{pl:Sem Bool}(he:QE X o ta)(c:ud X.K C)(hm:kB X.K C m f)(F:bn X.prog X.w X.K X.mg X.base CX k f fd ps sp)(hr:cV k X.A)(hb:aL X.K fd ps ds)(hd:be dvs ds)(hx:ff CX X E)(ha:QA X (e::es) t)(hst:OS (e::es) X.env=(false,eval e X.env)::OS es X.env:=by rfl)(hpl:(Rt pos (OS es X.env)).any (·.1)=false:=by rfl) (ht:eval (.Call (.Attribute o m apos) (e::es) [] pos) X.env=(do
   let ov ←eval o X.env
   U2 apos.atName
   let (f,first) ←holding [ov] (UK ov m pl)
   Wx pos f first (Rt pos (OS (e::es) X.env)) (Tw pos (R5 [] X.env))):=by rfl):QE X (.Call (.Attribute o m apos) (e::es) [] pos) (um C m sp dvs E ta t):=⟨CS he.p c hm F hr hb hd hx ha.p hst hpl ht⟩
theorem gg{pl:Sem Bool}(he:QE X o ta)(c:ud X.K C)(hm:kB X.K C m f)(F:bn X.prog X.w X.K X.mg X.base CX k f fd ps sp)(hr:cV k X.A)(hb:aL X.K fd ps ds)(hd:be dvs ds)(hx:ff CX X E) (ht:eval (.Call (.Attribute o m apos) [] [] pos) X.env=(do
   let ov ←eval o X.env
   U2 apos.atName
   let (f,first) ←holding [ov] (UK ov m pl)
   Wx pos f first (Rt pos (OS [] X.env)) (Tw pos (R5 [] X.env))):=by rfl):QE X (.Call (.Attribute o m apos) [] [] pos) (um C m sp dvs E ta vD):=⟨Ae he.p c hm F hr hb hd hx ht⟩
theorem qQ(M:Mk X.K C f)(F:bn X.prog X.w X.K X.mg X.base CX k f fd ps sp)(hr:cV (k+1) X.A)(hg:Gl X x)(hm:X.mg x=some (.ref C))(hb:aL X.K fd ps ds)(hd:be dvs ds)(hx:ff CX X E)(hdb:(x==("__debug__" : Pf))=false:=by decide):QE X (.Call (.Name x p) [] [] pos) (D9 C sp dvs E vD):=⟨Af M F hr hg hm hb hd hx hdb⟩
end
structure vv(K:Oz)(C:Addr)(n q:Pf)(st:Stmt)(f:Addr)(d:OK):Prop where
 p:Pz K (.ref C) n=some (some (.ref f))
 fn:TQ K (.ref f)=true
 F:Fun K n q st f d
section
variable {K:Oz}{C:Addr}{n q:Pf}{st:Stmt}{f:Addr}{d:OK}
theorem isM{oc:Value}{od an:Option Addr}{sl:Array (Option Value)}{kV dc pm cd ct:Value}(p:Pz K (.ref C) n=some (some (.ref f)))(fn:TQ K (.ref f)=true)
  (l:K.lookup f=some ⟨oc,od,.func (QL n q (di st) (cM st) (ay st) .none kV dc pm an cd ct),sl⟩) (c:S8 K cd q=true) (k:QF K (.ref f)=true) :
  vv K C n q st f (QL n q (di st) (cM st) (ay st) .none kV dc pm an cd ct):=⟨p,fn,pW l c k⟩
theorem vv.meth(I:vv K C n q st f d):kB K C n f:=⟨I.p,I.fn,I.F.kp⟩
abbrev BM(n q:Pf)(st:Stmt)(us:List Value)(ps:List Pf):Prop:=∀(kV dc pm:Value) (an:Option Addr) (cd ct:Value),Ww (QL n q (di st) (cM st) (ay st) .none kV dc pm an cd ct) ⟨us,[]⟩=QP (ps.zip us)
theorem vv.b1{x:Pf}(I:vv K C n q st f d)(h:∀u,BM n q st [u] [x]:=by exact λ_ _ _ _ _ _ _=>Z):aL K d [x] []:=I.F.binds λa b c e g i us hl=>match us,hl with | [u],_=>h u a b c e g i
theorem vv.b3{x y z:Pf}(I:vv K C n q st f d)(h:∀u v w,BM n q st [u,v,w] [x,y,z]:=by exact λ_ _ _ _ _ _ _ _ _=>Z):aL K d [x,y,z] []:=I.F.binds λa b c e g i us hl=>match us,hl with | [u,v,w],_=>h u v w a b c e g i
end
def EF:XK:=λ_ _ _=>False
theorem Am:ff (IC P w) X EF:=by
 intro pins σ H1 s1 e s2 I hx;obtain⟨x,C,T,dx,H2,rfl,ho,hb,un,hok,nx,nT,hx2,hT2,tr,hE⟩:=hx;exact hE.elim
theorem qt:OS (.Dict a b c:: es) env=(false,eval (.Dict a b c) env):: OS es env:=Z
theorem qR(h1:QE X k1 t1)(h2:QE X v1 t2)(h3:QE X k2 t3)(h4:QE X v2 t4)(h5:QE X k3 t5)(h6:QE X v3 t6)(h7:QE X k4 t7)(h8:QE X v4 t8):QE X (.Dict [some k1,some k2,some k3,some k4] [v1,v2,v3,v4] pos) (Eb [(t1,t2),(t3,t4),(t5,t6),(t7,t8)]):=
 ⟨CU (jf h1.p h2.p (jf h3.p h4.p (jf h5.p h6.p (jf h7.p h8.p CH)))) Z Z (by simp) (by show 4≤15;decide)⟩
theorem Bn{α β:Type}{K:Oz}{H:Hp}{D a:Addr}{xs:List V}{ds:List α}{P:Hp->V->β->Prop}{f:α->β}{p:α->Bool}{src:List (Option Nat)}{σ:L2.St}{g:TG}{tt:TT}{te:TE}{Q:Hp->Prop}
  (mono:∀H H' v d,aM K H H'->P H v d->P H' v d) (hD:H D=none) (hS:aS K H a xs) (hl:xs.length=ds.length) (hn:ds.length≤1000)
  (turn:∀(i:Nat) (x:V) (d:α) (H':Hp),xs[i]?=some x->ds[i]?=some d->aE H H'->∀(R:VK) (E:Hp->Prop),(p d=true->∀v H'',aE H' H''->P H'' v (f d)->R v H'')->(p d=false->∀H'',aE H' H''->E H'')→
   g x (bW src σ) H' λσ2 H2=>gG (bW src σ) σ2/\tt σ2 H2 λok H3=>if ok=true then te σ2 H3 R else E H3)
  (fin:∀H' ys,aE H H'->H' D=some (.lst ys)->cG (P H') ys ((ds.filter p).map f)->Q H') :
  ∃W:Nat->Nat->List V->Hp->Prop,(∃m,W 0 m [] (upd H D (.lst [])))/\∀i m ys H,W i m ys H->((xA K a).stop i H/\Q H)∨((xA K a).go i H/\∀x H',(xA K a).yld i H x H'→
   g x (bW src σ) H' λσ2 H2=>gG (bW src σ) σ2/\tt σ2 H2 λok H3=>
    if ok=true then te σ2 H3 λy H4=>H4 D=some (.lst ys)/\ys.length<sizeLine/\∃m',m'<m/\W (i+1) m' (ys++[y]) (upd H4 D (.lst (ys++[y]))) else ∃m',m'<m/\W (i+1) m' ys H3):=by
 refine⟨λi m ys H'=>i≤ds.length/\m=ds.length-i/\H' D=some (.lst ys)/\aE H H'/\cG (P H') ys (((ds.take i).filter p).map f),⟨_,OZ _,Z,ag,ao hD _,.nil⟩,?_⟩;rintro i m ys H1 ⟨hi,rfl,d1,s1,al1⟩;have hS1:aS K H1 a xs:=s1.seq hS;by_cases hix:i<ds.length
 ·have hx0:xs[i]?=some (xs[i]'(by omega)):=OA _;refine .inr ⟨⟨xs,_,hS1,hx0⟩,?_⟩;rintro x H2 ⟨rfl,hy⟩;have hx:=hy xs hS1;obtain⟨d,hd⟩:∃d,ds[i]?=some d:=⟨_,OA hix⟩;have tk:ds.take (i+1)=ds.take i++[d]:=by rw[Ps,hd];rfl
  refine turn i x d _ hx hd s1 _ _ (λo3 v H3 s3 p3=>?_) λn3 H3 s3=>?_
  ·have d3:H3 D=some (.lst ys):=s3 _ _ d1;have tm:aM K H2 (upd H3 D (.lst (ys++[v]))):=(aM.same s3).trans (aM.up d3 _);have ly:ys.length≤1000:=by
    rw[al1.len,OD];exact O7 (Pt _ _) (by rw[P7];omega)
   refine⟨d3,aR ly,ds.length-(i+1),by omega,hix,Z,ag,λb o q=>?_,?_⟩
   ·rw[au (aC q hD)];exact s3 _ _ (s1 _ _ q)
   ·rw[tk,RC,R0 o3,TJ,P0];exact(al1.mono λv d p=>mono _ _ _ _ tm p).snoc (mono _ _ _ _ (aM.up d3 _) p3)
  ·refine⟨ds.length-(i+1),by omega,hix,Z,s3 _ _ d1,s1.trans s3,?_⟩;rw[tk,RC,R1 (by rw[n3];decide),TJ,Qr];exact al1.mono λv d p=>mono _ _ _ _ (aM.same s3) p
 ·have e:i=ds.length:=by omega
  subst e;rw[Pw] at al1;exact .inl ⟨⟨xs,hS1,by omega⟩,fin H1 ys s1 d1 al1⟩
end B
namespace B
open PySem PySem.Spec PySem.W L2 PyProof.Rows
def kR(f:Nat->Nat->Bool)(n:Nat){α:Type}:KasT α->(α->Prop)->Prop
 | .ret a,Q=>Q a
 | .ask i j k,Q=>i<n/\j<n/\i≠j/\kR f n (k (f i j)) Q
theorem hX{f:Nat->Nat->Bool}{n:Nat}{α β:Type}{g:α->KasT β}{Q:β->Prop}:∀{t:KasT α},kR f n t (λa=>kR f n (g a) Q)->kR f n (t.bind g) Q
 | .ret a,h=>h
 | .ask i j k,⟨h1,h2,h3,h⟩=>⟨h1,h2,h3,hX h⟩
theorem Ex{f:Nat->Nat->Bool}{n:Nat}{α:Type}{Q:α->Prop}{s:OI}{cmp:Nat->Nat->(Bool->OI->Prop)->OI->Prop}(hc:∀i j C,i<n->j<n->i≠j->C (f i j) s->cmp i j C s):∀{t:KasT α},kR f n t Q->t.kasWp cmp (λa s'=>Q a/\s'=s) s
 | .ret a,h=>⟨h,Z⟩
 | .ask i j k,⟨h1,h2,h3,h⟩=>hc i j _ h1 h2 h3 (Ex hc h)
section
variable {g:Nat->Int}{n:Nat}
def gK(g:Nat->Int)(p:Array Nat)(i:Nat):Int:=g (p.getD i 0)
structure p6(n:Nat)(p:Array Nat):Prop where
 perm:p.toList.Perm (OB n)
theorem p6.size(h:p6 n p):p.size=n:=by
 have:=h.perm.length_eq;rw[Pi,Qx] at this;exact this
theorem mP{p:Array Nat}(h:i<p.size):p.getD i 0=p[i]:=by simp[X3,h]
theorem p6.lt(h:p6 n p)(i:Nat)(hi:i<n):p.getD i 0<n:=by
 have hi':i<p.size:=by rw[h.size];exact hi
 rw[mP hi'];exact ON.mp (h.perm.mem_iff.mp (Tu.mpr (Array.getElem_mem hi')))
theorem p6.of(h:p6 n p)(e:q.Perm p):p6 n q:=⟨(Array.perm_iff_toList_perm.mp e).trans h.perm⟩
theorem p6.ne(h:p6 n p)(inj:∀i j,i<n->j<n->g i=g j->i=j)(hi:i<n)(hj:j<n)(hij:i≠j):gK g p i≠gK g p j:=λe=>by
 have z:=inj _ _ (h.lt i hi) (h.lt j hj) e;have hi':i<p.size:=by rw[h.size];exact hi
 have hj':j<p.size:=by rw[h.size];exact hj
 rw[mP hi',mP hj'] at z;have nd:p.toList.Nodup:=h.perm.nodup_iff.mpr R3;have e2:p.toList[i]'(by simpa using hi')=p.toList[j]'(by simpa using hj'):=by simpa using z
 exact hij ((SD nd).mp e2)
def Up(g:Nat->Int)(p:Array Nat)(k:Nat):Prop:=∀i j,i<j->j<k->gK g p i<gK g p j
def Dn(g:Nat->Int)(p:Array Nat)(k:Nat):Prop:=∀i j,i<j->j<k->gK g p j<gK g p i
theorem Up.succ(h:Up g p k)(e:0<k->gK g p (k-1)<gK g p k):Up g p (k+1):=λi j hij hj=>by
 by_cases c:j<k
 ·exact h i j hij c
 ·obtain rfl:j=k:=by omega
  by_cases d:i=j-1
  ·rw[d];exact e (by omega)
  ·exact WP (h i (j-1) (by omega) (by omega)) (e (by omega))
theorem Dn.succ(h:Dn g p k)(e:0<k->gK g p k<gK g p (k-1)):Dn g p (k+1):=λi j hij hj=>by
 by_cases c:j<k
 ·exact h i j hij c
 ·obtain rfl:j=k:=by omega
  by_cases d:i=j-1
  ·rw[d];exact e (by omega)
  ·exact WP (e (by omega)) (h i (j-1) (by omega) (by omega))
variable (inj:∀i j,i<n->j<n->g i=g j->i=j)
include inj
theorem tE{p:Array Nat}(hp:p6 n p){Q:Nat->Prop}:∀(f m:Nat),1≤m->f+m=n->Up g p m->(∀m',m≤m'->m'≤n->Up g p m'->(m'<n->gK g p m'<gK g p (m'-1))->Q m')->kR (λi j=>decide (g i<g j)) n (kas_asc p f m) Q
 |0,m,h1,h2,u,k=>k m (OC _) (by omega) u (λz=>by omega)
 |f+1,m,h1,h2,u,k=>by
  refine⟨hp.lt m (by omega),hp.lt (m-1) (by omega),(λz=>hp.ne inj (show m<n by omega) (show m-1<n by omega) (by omega) (congrArg g z)),?_⟩;show kR _ n (if decide (gK g p m<gK g p (m-1))=true then _ else _) Q;by_cases c:gK g p m<gK g p (m-1)
  ·rw[if_pos (decide_eq_true c)];exact k m (OC _) (by omega) u λ_=>c
  ·rw[if_neg (λz=>c (of_decide_eq_true z))];have ne:=hp.ne inj (show m<n by omega) (show m-1<n by omega) (by omega);exact tE hp f (m+1) (by omega) (by omega) (u.succ λ_=>by omega) λm' a b=>k m' (by omega) b
theorem uW{p:Array Nat}(hp:p6 n p){Q:Array Nat×Nat×Nat->Prop}:∀(f m:Nat),1≤m->f+m=n->Dn g p m->(∀m',m≤m'->m'≤n->Dn g p m'->Q (p,m',0))->kR (λi j=>decide (g i<g j)) n (kas_desc f p m 0) Q
 |0,m,h1,h2,u,k=>k m (OC _) (by omega) u
 |f+1,m,h1,h2,u,k=>by
  refine⟨hp.lt m (by omega),hp.lt (m-1) (by omega),(λz=>hp.ne inj (show m<n by omega) (show m-1<n by omega) (by omega) (congrArg g z)),?_⟩;show kR _ n (if decide (gK g p m<gK g p (m-1))=true then _ else _) Q;by_cases c:gK g p m<gK g p (m-1)
  ·rw[if_pos (decide_eq_true c),if_neg (by omega)];exact uW hp f (m+1) (by omega) (by omega) (u.succ λ_=>c) λm' a b=>k m' (by omega) b
  ·rw[if_neg (λz=>c (of_decide_eq_true z))];have ne:=hp.ne inj (show m<n by omega) (show m-1<n by omega) (by omega);refine⟨hp.lt (m-1) (by omega),hp.lt m (by omega),(λz=>ne (congrArg g z.symm)),?_⟩;show kR _ n (if decide (gK g p (m-1)<gK g p m)=true then _ else _) Q;rw[if_pos (decide_eq_true (by omega))];exact k m (OC _) (by omega) u
omit inj in
theorem zH{p:Array Nat}{m:Nat}(hm:m≤p.size)(k:Nat):gK g (kas_rev p 0 m) k=if k<m then gK g p (m-1-k) else gK g p k:=by
 have e:=getElem?_mirror_all (xs:=p) (i:=0) hm k;have a:∀(q:Array Nat) (i:Nat),gK g q i=g (q[i]?.getD 0):=λq i=>by unfold gK;congr 1;simp[X3];split<;>simp_all
 rw[a,a,a];show g ((mirror p 0 m ((m-0)/2))[k]?.getD 0)=_;rw[e];by_cases c:k<m
 ·rw[if_pos ⟨OZ _,c⟩,if_pos c,TZ]
 ·rw[if_neg (λz=>c z.2),if_neg c]
omit inj in
theorem zy(hp:p6 n p)(m:Nat):p6 n (kas_rev p 0 m):=hp.of (mirror_perm _ _ _ _)
omit inj in
theorem FN(hm:m≤p.size)(d:Dn g p m):Up g (kas_rev p 0 m) m:=λi j hij hj=>by
 rw[zH hm,zH hm,if_pos (by omega),if_pos hj];exact d _ _ (by omega) (by omega)
theorem AR(h1:1≤n)(hp:p6 n p)(k:∀m q,1≤m->m≤n->p6 n q->Up g q m->Q (m,q)):kR (λi j=>decide (g i<g j)) n (kas_count n p) Q:=by
 unfold kas_count;refine hX (tE inj hp (n-1) 1 (OC _) (by omega) (λi j h1 h2=>by omega) λm a b u st=>?_);by_cases c:m=n
 ·rw[if_pos (by rw[c];exact beq_self_eq_true _)];exact k m p a b hp u
 ·rw[if_neg (λz=>c (beq_iff_eq.mp z))];by_cases d:m>1
  ·rw[if_pos d];refine⟨hp.lt 0 (by omega),hp.lt (m-1) (by omega),(λz=>hp.ne inj (show 0<n by omega) (show m-1<n by omega) (by omega) (congrArg g z)),?_⟩;show kR _ n (if decide (gK g p 0<gK g p (m-1))=true then _ else _) Q;rw[if_pos (decide_eq_true (u 0 (m-1) (by omega) (by omega)))];exact k m p a b hp u
  ·rw[if_neg d];obtain rfl:m=1:=by omega
   have s1:=st (by omega);unfold kas_descPart;refine hX (uW inj hp (n-(1+1)) (1+1) (by omega) (by omega) (λi j x y=>by
    obtain rfl:i=0:=by omega
    obtain rfl:j=1:=by omega
    exact s1) λm' a' b' dn=>?_)
   rw[if_neg (show ¬(0:Nat)>0 by omega)];show kR _ n (kas_tail3 m' n p) Q;unfold kas_tail3;have hz:m'≤p.size:=by rw[hp.size];exact b'
   exact hX (tE inj (zy hp m') (n-m') m' (by omega) (by omega) (FN hz dn) λm2 a2 b2 u2 _=>k m2 _ (by omega) b2 (zy hp m') u2)
theorem mD{p:Array Nat}(hp:p6 n p){k:Nat}(hk:k<n)(u:Up g p k){Q:Nat->Prop}(q:∀l,l≤k->(∀i,i<l->gK g p i<gK g p k)->(∀i,l≤i->i<k->gK g p k<gK g p i)->Q l):∀(f l r:Nat),r≤l+f->l≤r->r≤k->(∀i,i<l->gK g p i<gK g p k)->(∀i,r≤i->i<k->gK g p k<gK g p i)->kR (λi j=>decide (g i<g j)) n (kas_place p k f l r) Q
 |0,l,r,h1,h2,h3,a,b=>q l (by omega) a λi x y=>b i (by omega) y
 |f+1,l,r,h1,h2,h3,a,b=>by
  unfold kas_place;by_cases c:l≥r
  ·rw[if_pos c];exact q l (by omega) a λi x y=>b i (by omega) y
  ·rw[if_neg c];refine⟨hp.lt k hk,hp.lt ((l+r)/2) (by omega),(λz=>hp.ne inj hk (show(l+r)/2<n by omega) (by omega) (congrArg g z)),?_⟩;show kR _ n (if decide (gK g p k<gK g p ((l+r)/2))=true then _ else _) Q;by_cases d:gK g p k<gK g p ((l+r)/2)
   ·rw[if_pos (decide_eq_true d)];refine mD hp hk u q f l ((l+r)/2) (by omega) (by omega) (by omega) a λi x y=>?_
    by_cases e:i=(l+r)/2
    ·rw[e];exact d
    ·exact WP d (u _ _ (by omega) y)
   ·rw[if_neg (λz=>d (of_decide_eq_true z))];have ne:=hp.ne inj hk (show(l+r)/2<n by omega) (by omega);refine mD hp hk u q f ((l+r)/2+1) r (by omega) (by omega) h3 (λi x=>?_) b;by_cases e:i=(l+r)/2
    ·rw[e];omega
    ·have:=u i ((l+r)/2) (by omega) (by omega);omega
omit inj in
theorem Br{p:Array Nat}{k d:Nat}(hk:k<p.size)(hd:d≤k)(i:Nat):gK g (bubble p k d) i=if i=k-d then gK g p k else if k-d<i/\i≤k then gK g p (i-1) else gK g p i:=by
 have e:=getElem?_bubble hk d hd i;have a:∀(q:Array Nat) (i:Nat),gK g q i=g (q[i]?.getD 0):=λq i=>by unfold gK;congr 1;simp[X3];split<;>simp_all
 rw[a,a,a,a,e]
 split
 ·rfl
 ·split<;>rfl
theorem AS{Q:Array Nat->Prop}(q:∀p,p6 n p->Up g p n->Q p):∀(f:Nat) (p:Array Nat) (k:Nat),f+k=n->p6 n p->Up g p k->kR (λi j=>decide (g i<g j)) n (kas_bin f p k) Q
 |0,p,k,h,hp,u=>q p hp (by rw[show k=n by omega] at u;exact u)
 |f+1,p,k,h,hp,u=>by
  unfold kas_bin;refine hX (mD inj hp (k:=k) (by omega) u (λl hl a b=>?_) k 0 k (by omega) (by omega) (OC _) (λi z=>by omega) (λi x y=>by omega));refine AS q f _ (k+1) (by omega) (hp.of (bubble_perm _ _ _)) λi j hij hj=>?_
  have hz:k<p.size:=by rw[hp.size];omega
  rw[Br hz (by omega),Br hz (by omega),show k-(k-l)=l by omega];by_cases c1:i=l
  ·rw[if_pos c1,if_neg (by omega),if_pos (by omega)];exact b _ (by omega) (by omega)
  ·rw[if_neg c1];by_cases c2:l<i/\i≤k
   ·rw[if_pos c2,if_neg (by omega),if_pos (by omega)];exact u _ _ (by omega) (by omega)
   ·rw[if_neg c2];by_cases c3:j=l
    ·rw[if_pos c3];exact a i (by omega)
    ·rw[if_neg c3];by_cases c4:l<j/\j≤k
     ·rw[if_pos c4];by_cases c5:i=j-1
      ·omega
      ·exact u _ _ (by omega) (by omega)
     ·rw[if_neg c4];exact u _ _ hij (by omega)
theorem Dm(h1:1≤n)(q:∀p,p6 n p->Up g p n->Q p):kR (λi j=>decide (g i<g j)) n (kas_sort n) Q:=by
 unfold kas_sort;refine hX (AR inj h1 ⟨by simp⟩ λm p a b hp u=>?_);by_cases c:m<n
 ·rw[if_pos c];exact AS inj q _ p _ (by show n-max m 1+max m 1=n;omega) hp (by rw[show max m 1=m by omega];exact u)
 ·rw[if_neg c];obtain rfl:m=n:=by omega
  exact q p hp u
end
end B
namespace B
open PySem PySem.Spec PySem.W L2 PyProof.Rows
def T3(K:Oz)(H:Hp)(v:V)(k:Int×Int):Prop:=∃a z,v=.ref a/\bu K H a [.int k.1,.int k.2,z]
def k3(k:Int×Int):Int:=k.1*1000+k.2
section
variable {prog:Po}{w:PM}{A:PB}{E:Value->OI->Prop}{s:OI}{a b:Addr}{x y:Int×Int}{t1 t2 t3 t4:Ys}{z1 z2:Value}
def IB(h:OR)(v:Value)(k:Int×Int):Prop:=∃b o t1 t2 z m,v=.ref b/\h.get? b=some o/\o.cls=.type "tuple"/\o.data=.seq #[.int k.1 t1,.int k.2 t2,z] m
theorem ET(hu:IB s.heap u x)(hv:IB s.heap v y)(ne:k3 x≠k3 y)(h1:0≤x.2/\x.2<1000)(h2:0≤y.2/\y.2<1000)(h:Q (decide (k3 x<k3 y)) s):OY (O3 prog w) A (keyLt' (tuples' true) u v) Q E s:=by
 obtain⟨a,oa,t1,t2,z1,m1,rfl,ha,_,da⟩:=hu;obtain⟨b,ob,t3,t4,z2,m2,rfl,hb,_,db⟩:=hv;refine kat_lt ha da hb db ?_;show KatLex _ _ _ _ _ _ [(Q0 x.1 t1,Q0 y.1 t3),(Q0 x.2 t2,Q0 y.2 t4),(z1,z2)] 0 s;refine kat_cons (UI ?_);unfold k3 at h ne;by_cases c:x.1=y.1
 ·rw[show(x.1==y.1)=true from beq_iff_eq.mpr c];refine kat_yes (kat_cons (UI ?_));rw[show(x.2==y.2)=false from beq_eq_false_iff_ne.mpr (by omega)];refine kat_no ?_;show OY _ _ (oneLt' false _ _) _ _ _;refine kat_one _ _ ?_;refine richCompare_gives (op:=.Lt) (Ve s _ t2) (Ve s _ t4) F.slot_int_lt F.entry_int_lt (F.args_int_lt_2 _ _) (gives_int_lt _ _ t2 t4) (λx=>nomatch x) ?_;show Q (decide (x.2<y.2)) s;rw[show decide (x.2<y.2)=decide (x.1*1000+x.2<y.1*1000+y.2) from decide_eq_decide.mpr (by omega)];exact h
 ·rw[show(x.1==y.1)=false from beq_eq_false_iff_ne.mpr c];refine kat_no ?_;show OY _ _ (oneLt' true _ _) _ _ _;refine oneLt_int ?_;rw[show decide (x.1<y.1)=decide (x.1*1000+x.2<y.1*1000+y.2) from decide_eq_decide.mpr (by omega)];exact h
theorem mC{h:OR}:∀{vs:List Value} {ks:List (Int×Int)},ks.length=vs.length->(∀i v,vs[i]?=some v->IB h v (ks.getD i (0,0)))->∃fs,KatTups h vs fs/\fs.length=vs.length/\∀f∈fs,∃n t,f=Q0 n t
 | [],_,_,_=>⟨[],.nil,Z,λf hf=>by cases hf⟩
 |v::vs,[],e,_=>by cases e
 |v::vs,k::ks,e,hh=>by
  obtain⟨fs,h1,h2,h3⟩:=mC (vs:=vs) (ks:=ks) (by simpa using e) λi u hu=>by simpa using hh (i+1) u (by simpa using hu)
  obtain⟨b,o,t1,t2,z,m,rfl,ho,hc,hd⟩:=hh 0 v Z;refine⟨_::fs,KatTups.cons ho hc hd Z h1,by rw[Pu,h2,Pu],λf hf=>?_⟩;rcases OO.mp hf with z|z
  ·exact⟨_,_,z⟩
  ·exact h3 f z
def nU(vs:List Value)(is:List Nat):Array Value:=(is.map λi=>vs.getD i Qn).toArray
theorem yo(ho:s.heap.get? a=some (Te "list" vs.toArray n))(ks:List (Int×Int))(lk:ks.length=vs.length)(hT:∀i v,vs[i]?=some v->IB s.heap v (ks.getD i (0,0))/\v≠.ref a)
  (inj:∀i j,i<vs.length->j<vs.length->k3 (ks.getD i (0,0))=k3 (ks.getD j (0,0))->i=j) (bd:∀i,i<vs.length->0≤(ks.getD i (0,0)).2/\(ks.getD i (0,0)).2<1000) (h64:vs.length<64)
  (h:∀is:List Nat,is.Perm (OB vs.length)->(is.map λi=>k3 (ks.getD i (0,0))).Pairwise (· < ·)->P (.done (.ret .none)) { s with heap:=sortedHeap s.heap a vs (nU vs is)}):
  OY (O3 prog w) A (PH.«list.sort» ⟨[.ref a],[]⟩) P E s:=by
 rw[list_sort_plain];have ha:a<s.heap.objs.size:=OW ho;have hsl:vs.toArray.size≤sizeLine:=by rw[Ph,Rj];omega
 refine OE (listItems_at ho Z ?_);refine OE (V6 ho Z ?_ hsl (OZ _));obtain⟨e1,ho1⟩:∃e1,(s.heap.update a (Sf λ_=>#[])).get? a=some (Te "list" #[] e1):=⟨_,get?_update_seq ho (λ_=>#[])⟩;refine OE (Xp ho1 Z ?_);refine OE (wpAny_newTuple ?_ (by show vs.length≤_;rw[Rj];omega));refine OE (wpAny_newList ?_ (OZ _));refine wpAny_holding ?_;have ho6:(((s.heap.update a (Sf λ_=>#[])).push (Te "tuple" vs.toArray 0)).push (Te "list" #[] 0)).get? a=some (Te "list" #[] e1):=OG _ (OG _ ho1);have hT6:∀i v,vs[i]?=some v->IB (((s.heap.update a (Sf λ_=>#[])).push (Te "tuple" vs.toArray 0)).push (Te "list" #[] 0)) v (ks.getD i (0,0)):=λi v hv=>by
  obtain⟨⟨b,o,t1,t2,z,m,rfl,hb,hc,hd⟩,nv⟩:=hT i v hv;have nb:b≠a:=λq=>nv (by rw[q])
  exact⟨b,o,t1,t2,z,m,Z,OG _ (OG _ ((PV _ _ (R9 nb)).trans hb)),hc,hd⟩
 show OY (O3 prog w) A _ P E { s with heap:=((s.heap.update a (Sf λ_=>#[])).push (Te "tuple" vs.toArray 0)).push (Te "list" #[] 0)};dsimp only;have hsz:vs.toArray.size=vs.length:=by simp
 have osz:∀is:List Nat,is.Perm (OB vs.length)->(nU vs is).size≤sizeLine+1:=λis hp=>by
  unfold nU;have:=hp.length_eq;rw[Pi] at this;rw[Ph,OD,this,Rj];omega
 by_cases h2:vs.toArray.size<2
 ·rw[if_pos h2,if_pos h2];refine OE (wpAny_pure ?_);rw[StateT.run_pure];refine OE (wpAny_pure ?_);dsimp only;have eo:(arrOf (SortSt.mk' general' (vs.toArray.zip vs.toArray) #[] 7 none)).map (·.2)=nU vs (OB vs.length):=by
   apply Array.toList_inj.mp;show((vs.toArray.zip vs.toArray).map (·.2)).toList=(Yr _ _);refine UW (by simp) λi h1 h2=>?_
   have hi:i<vs.length:=by simpa using h2
   simp[hi]
  refine OE (Xp ho6 Z ?_);rw[eo];refine OE (V6 ho6 Z ?_ (OZ _) (osz _ (.refl _)));simp only[bne_self_eq_false,RD,if_false];refine wpAny_pure (h _ (.refl _) ?_);rw[Rr,P5];intro i j hi hj hij;rw[Pi] at hi hj;omega
 ·rw[if_neg h2,if_neg h2];obtain⟨fs,f1,f2,f3⟩:=mC lk hT6;refine OE (kat_kind (T:=Su "int") f1 (by omega) (λv hv=>by obtain⟨n,t,rfl⟩:=f3 v hv;exact .now) (by decide) ?_);have key:=Dm (g:=λi=>k3 (ks.getD i (0,0))) inj (show 1≤vs.length by omega) (Q:=λp=>p.toList.Perm (OB vs.length)/\(p.toList.map λi=>k3 (ks.getD i (0,0))).Pairwise (· < ·)) λp hp up=>by
   refine⟨hp.perm,?_⟩;rw[Rr,P5];intro i j hi hj hij;have hi':i<p.size:=by simpa using hi
   have hj':j<p.size:=by simpa using hj
   have:=up i j hij (by rw[←hp.size];exact hj');unfold gK at this;rw[mP hi',mP hj'] at this
   simpa using this
  have tree:=Ex (s:={ s with heap:=((s.heap.update a (Sf λ_=>#[])).push (Te "tuple" vs.toArray 0)).push (Te "list" #[] 0)}) (cmp:=kas_ask prog w A (tuples' true) vs) (λi j C hi hj hij hC=>by
   have e1:vs[i]?=some (vs.getD i Qn):=by rw[OF,OA hi];rfl
   have e2:vs[j]?=some (vs.getD j Qn):=by rw[OF,OA hj];rfl
   exact ET (hT6 i _ e1) (hT6 j _ e2) (λz=>hij (inj i j hi hj z)) (bd i hi) (bd j hj) hC) key
  refine OE (Qp (kat_run (ks:=vs) (vs:=vs) (Q:=λst' s'=>∃p:Array Nat,arrOf st'=p.map (kas_item (vs.toArray.zip vs.toArray))/\failedOf st'=none/\(p.toList.Perm (OB vs.length)/\(p.toList.map λi=>k3 (ks.getD i (0,0))).Pairwise (· < ·))/\s'=_)
   rfl (by omega) h64 (λp' st' s' a1 a2 a3 a4=>⟨p',a2,a3,a4.1,a4.2⟩) tree) ?_ λ_ _ e=>e)
  rintro⟨⟨⟩,st'⟩ s' ⟨p,har,hf,⟨hp,hs⟩,rfl⟩;dsimp only;have hout:(arrOf st').map (·.2)=nU vs p.toList:=kat_snds Z har;refine OE (Xp ho6 Z ?_);rw[hout];refine OE (V6 ho6 Z ?_ (OZ _) (osz _ hp));rw[hf];simp only[bne_self_eq_false,RD,if_false];exact wpAny_pure (h _ hp hs)
end
def FP(K:Oz):List V->Hp->VK->Prop:=λxs H Q=>∃(p:Addr) (vs:List V) (ks:List (Int×Int)),xs=[.ref p]/\aS K H p vs/\cG (T3 K H) vs ks/\vs.length<64/\(ks.map k3).Nodup/\(∀k∈ks,0≤k.2/\k.2<1000)/\∀(l:Addr) (is:List Nat),is.Perm (OB vs.length)->(is.map λi=>k3 (ks.getD i (0,0))).Pairwise (· < ·)->H l=none->Q (.ref l) (upd H l (.lst (is.map λi=>vs.getD i .non)))
theorem nw{vs:List V}{us:List Value}(h:be vs us):∀{is:List Nat},(∀i∈is,i<vs.length)->be (is.map λi=>vs.getD i .non) (is.map λi=>us.getD i Qn)
 | [],_=>.nil
 |i::is,hl=>by
  refine .cons ?_ (nw h λj hj=>hl j (OL _ hj));have hi:=hl i OJ;obtain⟨u,e,r⟩:=be.get h (OA hi);show L2.RelV (vs.getD i V.non) (us.getD i Qn);rw[OF,OF,OA hi,e];exact r
theorem tQ:dH X (.builtin "sorted") (FP X.K):=by
 intro pins s σ H xs us Q I r h;obtain⟨p,vs,ks,rfl,hq,al,h64,nd,bd,q⟩:=h;obtain⟨u,rfl,rx⟩:=fQ r
 cases rx
 obtain⟨its,rv,pl,_⟩:=I.list hq;obtain⟨o,ho,hc,n,hd⟩:=pl.isList;have hlen:its.length=vs.length:=rv.length.symm;have lk:ks.length=its.length:=by rw[hlen,al.len]
 have sz:its.toArray.size≤sizeLine:=by rw[Ph,Rj];omega
 refine Calls.call_function_entry kind_sorted plain_sorted entry_sorted (args_sorted1 (.ref p)) ?_;unfold PH.«sorted»;refine OE (m:=checkCount "sorted" 1 1 _) (wpAny_pure (OE (wpAny_collect_seq p (.inl Z) ho hc hd (λh1 kp=>OE (wpAny_newList ?_)) sz)));have hoL:(h1.push (Te "list" its.toArray 0)).get? h1.objs.size=some (Te "list" its.toArray 0):=O4 _ Z;show OY _ _ _ _ _ { s with heap:=h1.push (Te "list" its.toArray 0)};have I1:L2.Inv X pins σ H { s with heap:=h1}:=I.kept (t':=s.toks) kp;have tri:∀i v,its[i]?=some v->IB (h1.push (Te "list" its.toArray 0)) v (ks.getD i (0,0))/\v≠.ref h1.objs.size:=λi v hv=>by
  have il:=(OV.mp hv).1;obtain⟨x,hx⟩:∃x,vs[i]?=some x:=⟨_,OA (by omega)⟩;obtain⟨k,hk,b,z,rfl,hS⟩:=al.at hx;obtain⟨u1,e4,ru1⟩:=be.get rv hx;rw[hv] at e4
  cases e4
  obtain rfl:v=.ref b:=ru1;obtain⟨it3,rv3,⟨o3,g1,g2,m3,g3⟩,_⟩:=I1.tuple hS;rw[OF,hk]
  cases rv3 with
  |cons w1 w2=>
   obtain⟨t1,rfl⟩:=w1
   cases w2 with
   |cons w3 w4=>
    obtain⟨t2,rfl⟩:=w3
    cases w4 with
    |cons w5 w6=>
     cases w6
     have lt:b<h1.objs.size:=OW g1;exact⟨⟨b,o3,t1,t2,_,m3,Z,OG _ g1,g2,g3⟩,λz=>by injection z with z;rw[z] at lt;exact PL _ lt⟩
 have inj:∀i j,i<its.length->j<its.length->k3 (ks.getD i (0,0))=k3 (ks.getD j (0,0))->i=j:=λi j hi hj e=>by
  have hi':i<(ks.map k3).length:=by rw[OD,lk];exact hi
  have hj':j<(ks.map k3).length:=by rw[OD,lk];exact hj
  refine(SD nd (h₀:=hi') (h₁:=hj')).mp ?_;rw[R4,R4];rw[OF,OF,OA (by omega),OA (by omega)] at e;exact e
 have bd':∀i,i<its.length->0≤(ks.getD i (0,0)).2/\(ks.getD i (0,0)).2<1000:=λi hi=>by
  rw[OF,OA (by omega)];exact bd _ (O6 _)
 refine OE (wpAny_holding (Ra slot_list_sort ⟨_,hoL,Z⟩ entry_list_sort (yo hoL ks lk tri inj bd' (by omega) λis a2 a3=>⟨_,Z,wpAny_pure ⟨_,Z,?_⟩⟩) (args_list_sort _)));obtain⟨ep,he⟩:=sortedHeap_at (out:=nU its is) hoL;have li:is.length=vs.length:=by rw[a2.length_eq,Pi,hlen]
 have lm:(is.map λi=>vs.getD i .non).length≤sizeLine:=by rw[OD,li,Rj];omega
 have vp:=nw rv (is:=is) λi hi=>by rw[←hlen];exact ON.mp (a2.mem_iff.mp hi)
 refine⟨.ref h1.objs.size,_,I1.laid (a:=h1.objs.size) (o:=.lst (is.map λi=>vs.getD i .non)) (t':=s.toks) (λb u hb=>?_) (OC _) ⟨lm,_,ep,vp,he⟩,Z,q _ is (by rw[←hlen];exact a2) a3 (I1.hok.fresh (OC _))⟩;have hlt:b<h1.objs.size:=OW hb;rw[sortedHeap_old (PF hlt) (by rw[size_push'];exact Ta hlt)];exact OG _ hb
end B
local macro_rules
 | `(tactic| nofun)=>`(tactic| (extract_lets +lift;try dsimp -zeta -zetaDelta only[L2.Cx.nox,L2.Cx.wish,L2.bD]))
namespace My
open PySem L2 B PyProof.Rows
theorem cn{X:Cx}{pos:So}(i:Nat){x:Pf}{e:PD}{te:TE}{pos':So}(hN:X.N.Nodup)(he:QE X e te)(hi:X.N[i]?=some x:=by rfl)(hx:xx X.env.scope x:=by first|exact Pq Z|exact Pp Z)(hs:Rq e (some (.Name x pos')) pos.line X.env=QP false:=by rfl)(hf:X.fn x=true∨X.env.scope.names.lookup x=some .local:=by first|exact .inl Z|exact .inr Z|assumption):QS X (.Assign [.Name x pos'] e pos) (oO te (jq i)):=FU hN hi hx he hs hf
theorem dQ{N P:List Pf}{sc:SG}(a:sc.kind=.function:=by rfl)(b:sc.isCoroutine=false:=by rfl)(c:sc.isGenerator=false:=by rfl)(d:N.Nodup:=by decide +kernel)(e:N.take P.length=P:=by rfl)(f:∀x∈P,sc.names.lookup x=some .local∨sc.names.lookup x=some .cell:=by decide +kernel)(g:∀y∈sc.names,y.2≠.free:=by decide +kernel):aD N P sc:=⟨a,b,c,d,e,f,g⟩
theorem cJ{X:Cx}{k j:Nat}{f:Addr}{fd:OK}{ps:List Pf}{sp:Sp}{x:Pf}{p pos:So}{e:PD}{es:List PD}{t:TA}(F:bn X.prog X.w X.K X.mg X.base dm k f fd ps sp)(hr:cV j X.A)(hm:X.mg x=some (.ref f))(hk:QF X.K (.ref f)=true)(hb:aL X.K fd ps [])(ha:QA X (e::es) t)(hl:k≤j:=by decide)(hg:Gl X x:=by rfl)(hdb:(x==("__debug__" : Pf))=false:=by decide)(he:OS (e::es) X.env=(false,eval e X.env)::OS es X.env:=by rfl)(hpl:(Rt pos (OS es X.env)).any (·.1)=false:=by rfl):QE X (.Call (.Name x p) (e::es) [] pos) (xX sp [] E0 t):=uI F (hr.mono hl) hg hm hk hb .nil kf ha hdb he hpl
theorem bV{X:Cx}{a b:PD}{ta tb:TE}{pos:So}{r:R2}(hr:Ic X r)(ha:QE X a ta)(hb:QE X b tb)(hs:p7 b:=by exact λ_ _=>Z):QE X (.Subscript a b pos) (BW r ta tb):=bI hr ha hb hs
theorem MK{K:Oz}{x qual:Pf}{st:Stmt}{f:Addr}{fd:OK}{ps:List Pf}(F:Fun K x qual st f fd) (h:∀(kV doc pm:Value) (an:Option Addr) (cdv ct:Value) (us:List Value),us.length=ps.length->Ww (QL x qual (di st) (cM st) (ay st) .none kV doc pm an cdv ct) ⟨us,[]⟩=QP (ps.zip us):=by
 intro _ _ _ _ _ _ us hl
 match us,hl with
 | [],h2=>first|rfl | (simp at h2)
 | [_],h2=>first|rfl | (simp at h2)
 | [_,_],h2=>first|rfl | (simp at h2)
 | [_,_,_],h2=>first|rfl | (simp at h2)
 | [_,_,_,_],h2=>first|rfl | (simp at h2)
 |_::_::_::_::_::_,h2=>simp at h2):aL K fd ps []:=F.binds h
def top(i:Nat):Stmt:=PySem.Challenge.pw_paceplan_k64_keepers_walked.main.body.getD i (.Pass ⟨0,0,0,0⟩)
abbrev yW:Stmt:=top 1
abbrev zr:Stmt:=top 2
abbrev FC:Stmt:=top 3
abbrev FI:Stmt:=top 13
abbrev yV:Stmt:=top 14
abbrev FH:Stmt:=top 15
abbrev yE:Stmt:=top 16
abbrev yz:Stmt:=top 17
abbrev yD:Stmt:=top 18
abbrev yC:Stmt:=top 19
abbrev yy:Stmt:=top 20
abbrev yJ:Stmt:=top 21
abbrev yH:Stmt:=top 22
abbrev yB:Stmt:=top 23
abbrev zq:Stmt:=top 24
abbrev yI:Stmt:=top 28
abbrev zc:Stmt:=top 29
abbrev zp:Stmt:=top 30
abbrev yU:Stmt:=top 31
abbrev FB:Stmt:=top 32
abbrev yT:Stmt:=top 33
abbrev Fz:Stmt:=top 35
abbrev yx:Stmt:=top 36
abbrev FG:Stmt:=top 37
abbrev yS:Stmt:=top 38
abbrev yG:Stmt:=top 39
abbrev FF:Stmt:=top 40
abbrev Fy:Stmt:=top 41
abbrev FE:Stmt:=top 43
abbrev yR:Stmt:=top 44
abbrev zb:Stmt:=top 45
abbrev yA:Stmt:=top 46
abbrev zh:Stmt:=top 47
abbrev FD:Stmt:=top 49
abbrev zg:Stmt:=top 50
abbrev zo:Stmt:=top 53
abbrev za:Stmt:=top 54
abbrev yQ:Stmt:=top 55
abbrev yP:Stmt:=top 56
abbrev yO:Stmt:=top 57
abbrev y9:Stmt:=top 58
abbrev yF:Stmt:=top 59
abbrev zn:Stmt:=top 60
abbrev yZ:Stmt:=top 61
abbrev yN:Stmt:=top 62
abbrev zf:Stmt:=top 63
abbrev yM:Stmt:=top 64
abbrev yL:Stmt:=top 65
abbrev yY:Stmt:=top 66
abbrev ze:Stmt:=top 67
abbrev yK:Stmt:=top 68
abbrev yu:Stmt:=top 69
abbrev zm:Stmt:=fm (top 51) 0
abbrev zk:Stmt:=fm (top 51) 1
abbrev yX:Stmt:=fm (top 51) 2
abbrev zd:Stmt:=fm (top 51) 3
abbrev zt:Stmt:=fm (top 51) 4
abbrev zj:Stmt:=fm (top 51) 5
abbrev zi:Stmt:=fm (top 51) 6
abbrev nN:Stmt:=fm (top 9) 0
abbrev nM:Stmt:=fm (top 10) 0
set_option genInjectivity false in
structure Ad where
 a_Q33:Addr
 d_Q33:OK
 a_Q11:Addr
 d_Q11:OK
 a_Q6:Addr
 d_Q6:OK
 a_Q0:Addr
 d_Q0:OK
 a_Q34:Addr
 d_Q34:OK
 a_Q1:Addr
 d_Q1:OK
 a_Q55:Addr
 d_Q55:OK
 a_Q60:Addr
 d_Q60:OK
 a_Q56:Addr
 d_Q56:OK
 a_Q57:Addr
 d_Q57:OK
 a_Q61:Addr
 d_Q61:OK
 a_Q46:Addr
 d_Q46:OK
 a_Q49:Addr
 d_Q49:OK
 a_Q58:Addr
 d_Q58:OK
 a_Q12:Addr
 d_Q12:OK
 a_Q47:Addr
 d_Q47:OK
 a_Q25:Addr
 d_Q25:OK
 a_Q13:Addr
 d_Q13:OK
 a_Q35:Addr
 d_Q35:OK
 a_Q7:Addr
 d_Q7:OK
 a_Q36:Addr
 d_Q36:OK
 a_Q8:Addr
 d_Q8:OK
 a_Q62:Addr
 d_Q62:OK
 a_Q2:Addr
 d_Q2:OK
 a_Q37:Addr
 d_Q37:OK
 a_Q50:Addr
 d_Q50:OK
 a_Q3:Addr
 d_Q3:OK
 a_Q9:Addr
 d_Q9:OK
 a_Q4:Addr
 d_Q4:OK
 a_Q38:Addr
 d_Q38:OK
 a_Q26:Addr
 d_Q26:OK
 a_Q59:Addr
 d_Q59:OK
 a_Q20:Addr
 d_Q20:OK
 a_Q5:Addr
 d_Q5:OK
 a_Q21:Addr
 d_Q21:OK
 a_Q14:Addr
 d_Q14:OK
 a_Q27:Addr
 d_Q27:OK
 a_Q39:Addr
 d_Q39:OK
 a_Q40:Addr
 d_Q40:OK
 a_Q41:Addr
 d_Q41:OK
 a_Q28:Addr
 d_Q28:OK
 a_Q51:Addr
 d_Q51:OK
 a_Q15:Addr
 d_Q15:OK
 a_Q29:Addr
 d_Q29:OK
 a_Q42:Addr
 d_Q42:OK
 a_Q22:Addr
 d_Q22:OK
 a_Q43:Addr
 d_Q43:OK
 a_Q44:Addr
 d_Q44:OK
 a_Q30:Addr
 d_Q30:OK
 a_Q23:Addr
 d_Q23:OK
 a_Q45:Addr
 d_Q45:OK
 a_Q63:Addr
 d_Q63:OK
 a_Q16:Addr
 d_Q16:OK
 a_Q17:Addr
 d_Q17:OK
 a_Q31:Addr
 d_Q31:OK
 a_Q24:Addr
 d_Q24:OK
 a_Q10:Addr
 d_Q10:OK
 a_Q18:Addr
 d_Q18:OK
 a_Q19:Addr
 d_Q19:OK
 c_Keeper:Addr
 c_NOUGHT:Addr
 k_TURNS:Ys
 k_MOST_WORKS:Ys
 c_base:Addr
 c_Q52:Addr
 a_Q52:Addr
 d_Q52:OK
 c_Q53:Addr
 a_Q53:Addr
 d_Q53:OK
 c_Q32:Addr
 c_Q54:Addr
 c_Q48:Addr
structure dP(K:Oz)(mg:Pf->Option Value)(t:Ad):Prop where
 F_Q33:Fun K "is_whole" "is_whole" yW t.a_Q33 t.d_Q33
 b_Q33:aL K t.d_Q33 ["thing"] []
 m_Q33:mg "is_whole"=some (.ref t.a_Q33)
 F_Q11:Fun K "is_tuple_of" "is_tuple_of" zr t.a_Q11 t.d_Q11
 b_Q11:aL K t.d_Q11 ["thing","length"] []
 m_Q11:mg "is_tuple_of"=some (.ref t.a_Q11)
 F_Q6:Fun K "is_number_of" "is_number_of" FC t.a_Q6 t.d_Q6
 b_Q6:aL K t.d_Q6 ["thing","count"] []
 m_Q6:mg "is_number_of"=some (.ref t.a_Q6)
 F_Q0:Fun K "greatest_divisor" "greatest_divisor" FI t.a_Q0 t.d_Q0
 b_Q0:aL K t.d_Q0 ["one","other"] []
 m_Q0:mg "greatest_divisor"=some (.ref t.a_Q0)
 F_Q34:Fun K "is_ratio" "is_ratio" yV t.a_Q34 t.d_Q34
 b_Q34:aL K t.d_Q34 ["thing"] []
 m_Q34:mg "is_ratio"=some (.ref t.a_Q34)
 F_Q1:Fun K "is_above_nought" "is_above_nought" FH t.a_Q1 t.d_Q1
 b_Q1:aL K t.d_Q1 ["thing"] []
 m_Q1:mg "is_above_nought"=some (.ref t.a_Q1)
 F_Q55:Fun K "ratio" "ratio" yE t.a_Q55 t.d_Q55
 b_Q55:aL K t.d_Q55 ["top","bottom"] []
 m_Q55:mg "ratio"=some (.ref t.a_Q55)
 F_Q60:Fun K "plus" "plus" yz t.a_Q60 t.d_Q60
 b_Q60:aL K t.d_Q60 ["one","other"] []
 m_Q60:mg "plus"=some (.ref t.a_Q60)
 F_Q56:Fun K "minus" "minus" yD t.a_Q56 t.d_Q56
 b_Q56:aL K t.d_Q56 ["one","other"] []
 m_Q56:mg "minus"=some (.ref t.a_Q56)
 F_Q57:Fun K "times" "times" yC t.a_Q57 t.d_Q57
 b_Q57:aL K t.d_Q57 ["one","other"] []
 m_Q57:mg "times"=some (.ref t.a_Q57)
 F_Q61:Fun K "over" "over" yy t.a_Q61 t.d_Q61
 b_Q61:aL K t.d_Q61 ["one","other"] []
 m_Q61:mg "over"=some (.ref t.a_Q61)
 F_Q46:Fun K "is_less" "is_less" yJ t.a_Q46 t.d_Q46
 b_Q46:aL K t.d_Q46 ["one","other"] []
 m_Q46:mg "is_less"=some (.ref t.a_Q46)
 F_Q49:Fun K "lesser" "lesser" yH t.a_Q49 t.d_Q49
 b_Q49:aL K t.d_Q49 ["one","other"] []
 m_Q49:mg "lesser"=some (.ref t.a_Q49)
 F_Q58:Fun K "total" "total" yB t.a_Q58 t.d_Q58
 b_Q58:aL K t.d_Q58 ["some"] []
 m_Q58:mg "total"=some (.ref t.a_Q58)
 F_Q12:Fun K "whole_parts" "whole_parts" zq t.a_Q12 t.d_Q12
 b_Q12:aL K t.d_Q12 ["some"] []
 m_Q12:mg "whole_parts"=some (.ref t.a_Q12)
 F_Q47:Fun K "is_work" "is_work" yI t.a_Q47 t.d_Q47
 b_Q47:aL K t.d_Q47 ["thing"] []
 m_Q47:mg "is_work"=some (.ref t.a_Q47)
 F_Q25:Fun K "in_window" "in_window" zc t.a_Q25 t.d_Q25
 b_Q25:aL K t.d_Q25 ["work","turn"] []
 m_Q25:mg "in_window"=some (.ref t.a_Q25)
 F_Q13:Fun K "no_leanings" "no_leanings" zp t.a_Q13 t.d_Q13
 b_Q13:aL K t.d_Q13 ["count"] []
 m_Q13:mg "no_leanings"=some (.ref t.a_Q13)
 F_Q35:Fun K "add_lean" "add_lean" yU t.a_Q35 t.d_Q35
 b_Q35:aL K t.d_Q35 ["leanings","lean"] []
 m_Q35:mg "add_lean"=some (.ref t.a_Q35)
 F_Q7:Fun K "all_leanings" "all_leanings" FB t.a_Q7 t.d_Q7
 b_Q7:aL K t.d_Q7 ["count","leans"] []
 m_Q7:mg "all_leanings"=some (.ref t.a_Q7)
 F_Q36:Fun K "drawn_in" "drawn_in" yT t.a_Q36 t.d_Q36
 b_Q36:aL K t.d_Q36 ["sheet"] []
 m_Q36:mg "drawn_in"=some (.ref t.a_Q36)
 F_Q8:Fun K "kept_windows" "kept_windows" Fz t.a_Q8 t.d_Q8
 b_Q8:aL K t.d_Q8 ["works","left"] []
 m_Q8:mg "kept_windows"=some (.ref t.a_Q8)
 F_Q62:Fun K "held" "held" yx t.a_Q62 t.d_Q62
 b_Q62:aL K t.d_Q62 ["windows","begin","end"] []
 m_Q62:mg "held"=some (.ref t.a_Q62)
 F_Q2:Fun K "tightest_places" "tightest_places" FG t.a_Q2 t.d_Q2
 b_Q2:aL K t.d_Q2 ["windows","amounts","count"] []
 m_Q2:mg "tightest_places"=some (.ref t.a_Q2)
 F_Q37:Fun K "tightest" "tightest" yS t.a_Q37 t.d_Q37
 b_Q37:aL K t.d_Q37 ["works","left"] []
 m_Q37:mg "tightest"=some (.ref t.a_Q37)
 F_Q50:Fun K "layers" "layers" yG t.a_Q50 t.d_Q50
 b_Q50:aL K t.d_Q50 ["works"] []
 m_Q50:mg "layers"=some (.ref t.a_Q50)
 F_Q3:Fun K "layer_density" "layer_density" FF t.a_Q3 t.d_Q3
 b_Q3:aL K t.d_Q3 ["works","layer"] []
 m_Q3:mg "layer_density"=some (.ref t.a_Q3)
 F_Q9:Fun K "layer_speeds" "layer_speeds" Fy t.a_Q9 t.d_Q9
 b_Q9:aL K t.d_Q9 ["works"] []
 m_Q9:mg "layer_speeds"=some (.ref t.a_Q9)
 F_Q4:Fun K "first_to_come" "first_to_come" FE t.a_Q4 t.d_Q4
 b_Q4:aL K t.d_Q4 ["works","leanings","waiting"] []
 m_Q4:mg "first_to_come"=some (.ref t.a_Q4)
 F_Q38:Fun K "order_of" "order_of" yR t.a_Q38 t.d_Q38
 b_Q38:aL K t.d_Q38 ["works","leans"] []
 m_Q38:mg "order_of"=some (.ref t.a_Q38)
 F_Q26:Fun K "deal_turn" "deal_turn" zb t.a_Q26 t.d_Q26
 b_Q26:aL K t.d_Q26 ["works","order","left","turn","speed"] []
 m_Q26:mg "deal_turn"=some (.ref t.a_Q26)
 F_Q59:Fun K "dealt" "dealt" yA t.a_Q59 t.d_Q59
 b_Q59:aL K t.d_Q59 ["works","leans","speeds"] []
 m_Q59:mg "dealt"=some (.ref t.a_Q59)
 F_Q20:Fun K "least_plan" "least_plan" zh t.a_Q20 t.d_Q20
 b_Q20:aL K t.d_Q20 ["sheet"] []
 m_Q20:mg "least_plan"=some (.ref t.a_Q20)
 F_Q5:Fun K "waiting_works" "waiting_works" FD t.a_Q5 t.d_Q5
 b_Q5:aL K t.d_Q5 ["works","amounts","turn"] []
 m_Q5:mg "waiting_works"=some (.ref t.a_Q5)
 F_Q21:Fun K "renumbered" "renumbered" zg t.a_Q21 t.d_Q21
 b_Q21:aL K t.d_Q21 ["pieces","numbers"] []
 m_Q21:mg "renumbered"=some (.ref t.a_Q21)
 F_Q14:Fun K "_law_cell_at" "_law_cell_at" zo t.a_Q14 t.d_Q14
 b_Q14:aL K t.d_Q14 ["_law_script","_law_k"] []
 m_Q14:mg "_law_cell_at"=some (.ref t.a_Q14)
 F_Q27:Fun K "_law_draws" "_law_draws" za t.a_Q27 t.d_Q27
 b_Q27:aL K t.d_Q27 ["_law_cell","_law_many"] []
 m_Q27:mg "_law_draws"=some (.ref t.a_Q27)
 F_Q39:Fun K "_law_take" "_law_take" yQ t.a_Q39 t.d_Q39
 b_Q39:aL K t.d_Q39 ["_law_tape","_law_many"] []
 m_Q39:mg "_law_take"=some (.ref t.a_Q39)
 F_Q40:Fun K "_law_made" "_law_made" yP t.a_Q40 t.d_Q40
 b_Q40:aL K t.d_Q40 ["_law_top","_law_bottom"] []
 m_Q40:mg "_law_made"=some (.ref t.a_Q40)
 F_Q41:Fun K "_law_plus" "_law_plus" yO t.a_Q41 t.d_Q41
 b_Q41:aL K t.d_Q41 ["_law_one","_law_other"] []
 m_Q41:mg "_law_plus"=some (.ref t.a_Q41)
 F_Q28:Fun K "_law_minus" "_law_minus" y9 t.a_Q28 t.d_Q28
 b_Q28:aL K t.d_Q28 ["_law_one","_law_other"] []
 m_Q28:mg "_law_minus"=some (.ref t.a_Q28)
 F_Q51:Fun K "_law_by" "_law_by" yF t.a_Q51 t.d_Q51
 b_Q51:aL K t.d_Q51 ["_law_one","_law_other"] []
 m_Q51:mg "_law_by"=some (.ref t.a_Q51)
 F_Q15:Fun K "_law_is_less" "_law_is_less" zn t.a_Q15 t.d_Q15
 b_Q15:aL K t.d_Q15 ["_law_one","_law_other"] []
 m_Q15:mg "_law_is_less"=some (.ref t.a_Q15)
 F_Q29:Fun K "_law_total" "_law_total" yZ t.a_Q29 t.d_Q29
 b_Q29:aL K t.d_Q29 ["_law_some"] []
 m_Q29:mg "_law_total"=some (.ref t.a_Q29)
 F_Q42:Fun K "_law_most" "_law_most" yN t.a_Q42 t.d_Q42
 b_Q42:aL K t.d_Q42 ["_law_some"] []
 m_Q42:mg "_law_most"=some (.ref t.a_Q42)
 F_Q22:Fun K "_law_pieces" "_law_pieces" zf t.a_Q22 t.d_Q22
 b_Q22:aL K t.d_Q22 ["_law_turn","_law_some"] []
 m_Q22:mg "_law_pieces"=some (.ref t.a_Q22)
 F_Q43:Fun K "_law_gone" "_law_gone" yM t.a_Q43 t.d_Q43
 b_Q43:aL K t.d_Q43 ["_law_house"] []
 m_Q43:mg "_law_gone"=some (.ref t.a_Q43)
 F_Q44:Fun K "_law_come" "_law_come" yL t.a_Q44 t.d_Q44
 b_Q44:aL K t.d_Q44 ["_law_tape","_law_house"] []
 m_Q44:mg "_law_come"=some (.ref t.a_Q44)
 F_Q30:Fun K "_law_found" "_law_found" yY t.a_Q30 t.d_Q30
 b_Q30:aL K t.d_Q30 ["_law_keeper","_law_k"] []
 m_Q30:mg "_law_found"=some (.ref t.a_Q30)
 F_Q23:Fun K "_law_stands" "_law_stands" ze t.a_Q23 t.d_Q23
 b_Q23:aL K t.d_Q23 ["_law_tape","_law_keeper","_law_house"] []
 m_Q23:mg "_law_stands"=some (.ref t.a_Q23)
 F_Q45:Fun K "_law_step" "_law_step" yK t.a_Q45 t.d_Q45
 b_Q45:aL K t.d_Q45 ["_law_tape","_law_keeper","_law_house"] []
 m_Q45:mg "_law_step"=some (.ref t.a_Q45)
 F_Q63:Fun K "law" "law" yu t.a_Q63 t.d_Q63
 b_Q63:aL K t.d_Q63 ["_law_script"] []
 m_Q63:mg "law"=some (.ref t.a_Q63)
 F_Q16:Fun K "__init__" "Keeper.__init__" zm t.a_Q16 t.d_Q16
 b_Q16:aL K t.d_Q16 ["self"] []
 K_Keeper:L2.Mk K t.c_Keeper t.a_Q16
 F_Q17:Fun K "come" "Keeper.come" zk t.a_Q17 t.d_Q17
 b_Q17:aL K t.d_Q17 ["self","last","amount"] []
 M_Keeper_come:kB K t.c_Keeper "come" t.a_Q17
 F_Q31:Fun K "go" "Keeper.go" yX t.a_Q31 t.d_Q31
 b_Q31:aL K t.d_Q31 ["self"] []
 M_Keeper_go:kB K t.c_Keeper "go" t.a_Q31
 F_Q24:Fun K "now" "Keeper.now" zd t.a_Q24 t.d_Q24
 b_Q24:aL K t.d_Q24 ["self"] []
 M_Keeper_now:kB K t.c_Keeper "now" t.a_Q24
 F_Q10:Fun K "works" "Keeper.works" zt t.a_Q10 t.d_Q10
 b_Q10:aL K t.d_Q10 ["self"] []
 M_Keeper_works:kB K t.c_Keeper "works" t.a_Q10
 F_Q18:Fun K "left" "Keeper.left" zj t.a_Q18 t.d_Q18
 b_Q18:aL K t.d_Q18 ["self"] []
 M_Keeper_left:kB K t.c_Keeper "left" t.a_Q18
 F_Q19:Fun K "plan" "Keeper.plan" zi t.a_Q19 t.d_Q19
 b_Q19:aL K t.d_Q19 ["self"] []
 M_Keeper_plan:kB K t.c_Keeper "plan" t.a_Q19
 m_Keeper:mg "Keeper"=some (.ref t.c_Keeper)
 cl_Keeper:ud K t.c_Keeper
 n_Keeper_turn:cN K t.c_Keeper "turn"
 n_Keeper_known:cN K t.c_Keeper "known"
 n_Keeper_rest:cN K t.c_Keeper "rest"
 n_Keeper_done:cN K t.c_Keeper "done"
 m_NOUGHT:mg "NOUGHT"=some (.ref t.c_NOUGHT)
 q_NOUGHT:∀H,bu K H t.c_NOUGHT [.int (0),.int (1)]
 m_TURNS:mg "TURNS"=some (.int (24) t.k_TURNS)
 m_MOST_WORKS:mg "MOST_WORKS"=some (.int (20) t.k_MOST_WORKS)
 X_Q52:XC K t.c_Q52 t.a_Q52 (.ref t.c_base::k6)
 F_Q52:Fun K "__init__" "NoWork.__init__" nN t.a_Q52 t.d_Q52
 b_Q52:aL K t.d_Q52 ["self","text"] []
 m_Q52:mg "NoWork"=some (.ref t.c_Q52)
 n_Q52_text:cN K t.c_Q52 "text"
 g_Q52:BE K t.c_Q52
 X_Q53:XC K t.c_Q53 t.a_Q53 (.ref t.c_base::k6)
 F_Q53:Fun K "__init__" "NoTurn.__init__" nM t.a_Q53 t.d_Q53
 b_Q53:aL K t.d_Q53 ["self","text"] []
 m_Q53:mg "NoTurn"=some (.ref t.c_Q53)
 n_Q53_text:cN K t.c_Q53 "text"
 g_Q53:BE K t.c_Q53
 m_Q32:mg "PaceError"=some (.ref t.c_Q32)
 m_Q54:mg "NoRoom"=some (.ref t.c_Q54)
 m_Q48:mg "NoRatio"=some (.ref t.c_Q48)
 z_abs:mg "abs"=none
 z_any:mg "any"=none
 z_bool:mg "bool"=none
 z_enumerate:mg "enumerate"=none
 z_int:mg "int"=none
 z_isinstance:mg "isinstance"=none
 z_len:mg "len"=none
 z_list:mg "list"=none
 z_max:mg "max"=none
 z_min:mg "min"=none
 z_range:mg "range"=none
 z_repr:mg "repr"=none
 z_sorted:mg "sorted"=none
 z_sum:mg "sum"=none
 z_tuple:mg "tuple"=none
def ie(_:Oz):Sp:=λvs H Q _=>∃a b:Int,vs=[.int a,.int b]/\Q (.int (O0 a b:Nat)) H
theorem AO(hB:0<B)(hb:0<b)(h1:B∣4834023173650597876544881407704768017555162023798869768948261467874213139288822304401239266415271355416806678311752296500438875701050478901734985823099062742197929195130163826648664551259341770021719244800000000000000000000000)(h2:b∣4834023173650597876544881407704768017555162023798869768948261467874213139288822304401239266415271355416806678311752296500438875701050478901734985823099062742197929195130163826648664551259341770021719244800000000000000000000000):0<B*(b/(O0 B b:Int))/\B*(b/(O0 B b:Int))∣4834023173650597876544881407704768017555162023798869768948261467874213139288822304401239266415271355416806678311752296500438875701050478901734985823099062742197929195130163826648664551259341770021719244800000000000000000000000/\B∣B*(b/(O0 B b:Int))/\b∣B*(b/(O0 B b:Int)):=by
 obtain⟨m,rfl⟩:=QU (QN hB);obtain⟨n,rfl⟩:=QU (QN hb);have e:(m:Int)*((n:Int)/(O0 m n:Int))=((Nat.lcm m n:Nat):Int):=by
  show(m:Int)*((n:Int)/((Nat.gcd m n:Nat):Int))=_;rw[←Int.natCast_ediv,←TF];unfold Nat.lcm;rw[Nat.mul_div_assoc _ (Nat.gcd_dvd_right m n)]
 rw[e];have p:=Nat.lcm_pos (show 0<m by omega) (show 0<n by omega);refine⟨by omega,?_,Qm.mpr (Nat.dvd_lcm_left m n),Qm.mpr (Nat.dvd_lcm_right m n)⟩;have a1:m∣4834023173650597876544881407704768017555162023798869768948261467874213139288822304401239266415271355416806678311752296500438875701050478901734985823099062742197929195130163826648664551259341770021719244800000000000000000000000:=Qm.mp h1;have a2:n∣4834023173650597876544881407704768017555162023798869768948261467874213139288822304401239266415271355416806678311752296500438875701050478901734985823099062742197929195130163826648664551259341770021719244800000000000000000000000:=Qm.mp h2;exact Qm.mpr (Nat.lcm_dvd a1 a2)
def pO(H:Hp)(Q:VK)(r:R):Prop:=∀p,H p=none->Q (.ref p) (upd H p (.tup [.int r.1,.int r.2]))
def K3(K:Oz)(H:Hp)(Q:VK)(r:R):Prop:=∀(v:V) (H':Hp),aE H H'->RV K H' v r->Q v H'
def yj(_:Oz):Sp:=λvs H Q _=>∃a b:Int,vs=[.int a,.int b]/\0<b/\b.natAbs<2^4000/\pO H Q (fc a b)
def B5(K:Oz):Sp:=λvs H Q _=>∃(v w:V) (r q:R) (n m:Nat),vs=[v,w]/\RV K H v r/\RV K H w q/\Wf n r/\Wf m q/\n+m+1≤3000/\pO H Q (bY r q)
def yi(K:Oz):Sp:=λvs H Q _=>∃(v w:V) (r q:R) (n m:Nat),vs=[v,w]/\RV K H v r/\RV K H w q/\Wf n r/\Wf m q/\n+m+1≤3000/\pO H Q (fT r q)
def NT(K:Oz)(H:Hp)(a:Addr)(xs:List V):Prop:=aS K H a xs∨bu K H a xs
def yh(K:Oz):Sp:=λvs H Q _=>∃(a:Addr) (xs:List V) (rs:List R) (n D:Nat),vs=[.ref a]/\NT K H a xs/\KQ K H xs rs/\(∀r∈rs,Wf n r/\r.2∣(D:Int))/\0<D/\D<2^n/\rs.length≤64/\n≤900/\∀(v':V) (H':Hp),aE H H'->RV K H' v' (f8 rs)->Q v' H'
theorem vk{D i n:Nat}{r:R}(h:∀p∈ps,p.1∣(D:Int))(hr:r.2∣(D:Int)):∀p∈fX ps r.2 r.1,p.1∣(D:Int):=λp hp=>by
 rcases(jx ps r.2 r.1 p.1).mp (OP.mpr ⟨p,hp,Z⟩) with z|z
 ·obtain⟨q,hq,e⟩:=OP.mp z;rw[←e];exact h q hq
 ·rw[z];exact hr
theorem AZ{D n i:Nat}(ok:kA n i ps)(hd:∀p∈ps,p.1∣(D:Int))(hi:i≤64){q:Int×Int}(hq:q∈ps):Bq D (64*2^n) (fc q.2 q.1):=by
 have b:=(ok.bot q hq).1;refine vc b (hd q hq) (O7 (ok.top q hq) ?_);refine O7 (Rp _ hi) (UX _ (by omega))
theorem By(h:Bq D (64*2^n*j) r)(hj:j≤64)(h0:0<D)(hD:D<2^n):Wf (2*n+12) r:=by
 refine h.wf h0 (O5 hD (Rn (by decide) (by omega))) ?_;have a:64*2^n*j≤64*2^n*64:=RW _ hj;have b:64*2^n*j*D<64*2^n*64*2^n:=PN (Rp _ a) (Nat.mul_lt_mul_of_pos_left hD (VH (VH (by decide) (Xo (by decide))) (by decide)));refine O5 b ?_;rw[show 2*n+12=n+(n+12) by omega,VA,VA,show(2:Nat)^12=4096 by decide];rw[show 64*2^n*64*2^n=2^n*(2^n*4096) by rw[show(4096:Nat)=64*64 by decide];ac_rfl];exact OC _
theorem gW{a g:Int}(hg:0<g)(h:a.natAbs<2^4000):(a/g).natAbs<2^4000:=PN (fV a hg) h
theorem mH(hb:0<b)(h:b.natAbs<2^4000):((O0 a b:Nat):Int).natAbs<2^4000:=by
 have z:O0 a b≤b.natAbs:=V4 (by omega) (by have:=RN a b;exact Tj.mpr this);have e:((O0 a b:Nat):Int).natAbs=O0 a b:=SW _;omega
theorem bJ{i:Int}(h:i.natAbs<2^n)(hn:n≤4000):i.natAbs<2^4000:=O5 h (Rn (by decide) hn)
def B6(K:Oz):Sp:=λvs H Q _=>∃(v w:V) (r:R) (n m:Nat),vs=[v,w]/\RV K H v r/\RV K H w ((m:Int),1)/\Wf n r/\0<m/\m≤24/\n≤2000/\K3 K H Q (fT r (1,(m:Int)))
theorem G8{m:Nat}(h:0<m):fc 1 (m:Int)=(1,(m:Int)):=fK (by omega) (by omega) (by simp) (by omega)
theorem Gr{m:Nat}(h:0<m)(h':m≤24):Wf 5 ((1,(m:Int)):R):=⟨by show(0:Int)<m;omega,by show(1:Int).natAbs<2^5;decide,by show((m:Int)).natAbs<32;omega,by simp⟩
theorem DQ{K:Oz}{H:Hp}{xs:List V}{rs:List R}(h:cG (RV K H) xs rs):KQ K H xs rs:=⟨h.len,λi x r hx hr=>by obtain⟨d,hd,p⟩:=h.at hx;rw[hr] at hd;cases hd;exact p⟩
theorem cG.setI{α:Type}{P:V->α->Prop}{v:V}{d:α}(k:P v d):∀{xs:List V} {ds:List α} (i:Nat),cG P xs ds->cG P (xs.set i v) (ds.set i d)
 |_,_,_,.nil=>.nil
 |_,_,0,.cons _ t=>.cons k t
 |_,_,i+1,.cons h t=>.cons h (cG.setI k i t)
theorem cG.rep{α:Type}{P:V->α->Prop}{v:V}{d:α}(k:P v d):∀n:Nat,cG P (Pg n v) (Pg n d)
 |0=>.nil
 |n+1=>.cons k (cG.rep k n)
theorem kL(h:t<n):AT n (t:Int)=some t:=by
 unfold AT;simp;omega
abbrev Wk:=Nat×Nat×R
def xG(K:Oz)(H:Hp)(v:V)(w:Wk):Prop:=∃p x,v=.ref p/\bu K H p [.int w.1,.int w.2.1,x]/\RV K H x w.2.2
theorem xG.mono{K:Oz}{H H':Hp}{v:V}{w:Wk}(h:xG K H v w)(t:aM K H H'):xG K H' v w:=let ⟨p,x,e,s,r⟩:=h;⟨p,x,e,t _ _ s,r.mono t⟩
structure Ii(r:R):Prop where
 top:1≤r.1
 top':r.1≤12*r.2
 bot:1≤r.2
 dvd:r.2∣4834023173650597876544881407704768017555162023798869768948261467874213139288822304401239266415271355416806678311752296500438875701050478901734985823099062742197929195130163826648664551259341770021719244800000000000000000000000
 wf:Wf 760 r
structure bz(w:Wk):Prop where
 le:w.1≤w.2.1
 lt:w.2.1<24
 am:Ii w.2.2
def gj(K:Oz)(H:Hp)(v:V)(ws:List Wk):Prop:=∃p xs,v=.ref p/\bu K H p xs/\cG (xG K H) xs ws
theorem gj.mono{K:Oz}{H H':Hp}{v:V}{ws:List Wk}(h:gj K H v ws)(t:aM K H H'):gj K H' v ws:=let ⟨p,xs,e,s,a⟩:=h;⟨p,xs,e,t _ _ s,a.mono λ_ _ q=>q.mono t⟩
def bt(ls:List Nat):List V:=ls.map λn:Nat=>V.int n
def ck(ws:List Wk):List Int:=ws.map λw=>w.2.2.1*4834023173650597876544881407704768017555162023798869768948261467874213139288822304401239266415271355416806678311752296500438875701050478901734985823099062742197929195130163826648664551259341770021719244800000000000000000000000/w.2.2.2
def fb(B:Int)(ws:List Wk):List Int:=ws.map λw=>w.2.2.1*(B/w.2.2.2)
def lF(K:Oz):Sp:=λvs H Q _=>∃(a:Addr) (xs:List V) (ws:List Wk),vs=[.ref a]/\aS K H a xs/\cG (RV K H) xs (ws.map λw=>w.2.2)/\ws.length≤64/\(∀w∈ws,bz w)/\∀(l:Addr) (B:Int) (H':Hp),aE H H'->H l=none->0<B->B∣4834023173650597876544881407704768017555162023798869768948261467874213139288822304401239266415271355416806678311752296500438875701050478901734985823099062742197929195130163826648664551259341770021719244800000000000000000000000->(∀w∈ws,w.2.2.2∣B)->H' l=some (.lst ((fb B ws).map V.int))->Q (.ref l) H'
def fk(w:Wk)(t:Nat):Bool:=decide (w.1≤t)&&decide (t≤w.2.1)
def oV(K:Oz):Sp:=λvs H Q _=>∃(v:V) (w:Wk) (t:Nat),vs=[v,.int t]/\xG K H v w/\Q (.bl (fk w t)) H
def gh(ls:List Nat)(w:Wk):List Nat:=(OB ls.length).filter λi=>fk w (ls.getD i 0)
def bF(ls:List Nat)(w:Wk):Wn:=match gh ls w with
 | []=>none
 |x::r=>some (x,(x::r).getLast (by simp))
def t9(K:Oz)(H:Hp)(v:V):Wn->Prop
 |none=>v=.non
 |some q=>∃p,v=.ref p/\bu K H p [.int q.1,.int q.2]
theorem t9.mono{K:Oz}{H H':Hp}{v:V}{o:Wn}(h:t9 K H v o)(t:aM K H H'):t9 K H' v o:=by
 cases o with
 |none=>exact h
 |some q=>obtain⟨p,e,s⟩:=h;exact⟨p,e,t _ _ s⟩
def ko(K:Oz):Sp:=λvs H Q _=>∃(v:V) (q:Addr) (ws:List Wk) (ls:List Nat),vs=[v,.ref q]/\gj K H v ws/\ws.length≤64/\bu K H q (bt ls)/\ls.length≤24/\∀(l:Addr) (xs:List V) (H':Hp),aE H H'->H l=none->H' l=some (.lst xs)->cG (t9 K H') xs (ws.map (bF ls))->Q (.ref l) H'
def B9(K:Oz):Sp:=λvs H Q _=>∃(l:Addr) (xs:List V) (os:List Wn) (p:Pl),vs=[.ref l,.int p.1,.int p.2]/\aS K H l xs/\cG (t9 K H) xs os/\os.length≤64/\∀(D:Addr) (H':Hp),aE H H'->H D=none->H' D=some (.lst (bt (cu os p)))->Q (.ref D) H'
def g4(as:List Int)(i:Nat):Int:=as.getD i 0
theorem Dj{os:List Wn}(hb:∀x∈as,0≤x/\x≤58008278083807174518538576892457216210661944285586437227379137614490557671465867652814871196983256265001680139741027558005266508412605746820819829877188752906375150341561965919783974615112101240260630937600000000000000000000000)(hn:os.length≤64)(q:Pl):0≤dA os (g4 as) q/\dA os (g4 as) q≤3712529797363659169186468921117261837482364434277531982552264807327395690973815529780151756606928400960107528943425763712337056538406767796532469112140080186008009621859965818866174375367174479376680380006400000000000000000000000:=by
 have h0:∀i,0≤g4 as i/\g4 as i≤58008278083807174518538576892457216210661944285586437227379137614490557671465867652814871196983256265001680139741027558005266508412605746820819829877188752906375150341561965919783974615112101240260630937600000000000000000000000:=λi=>by
  unfold g4;rw[OF]
  cases e:as[i]? with
  |none=>exact⟨by decide,by decide⟩
  |some x=>exact hb x (OM e)
 have key:∀l:List Nat,0≤(l.map (g4 as)).sum/\(l.map (g4 as)).sum≤58008278083807174518538576892457216210661944285586437227379137614490557671465867652814871196983256265001680139741027558005266508412605746820819829877188752906375150341561965919783974615112101240260630937600000000000000000000000*(l.length:Int):=by
  intro l
  induction l with
  |nil=>exact⟨by simp,by simp⟩
  |cons x l ih=>
   rw[Pm,SS,Pu];have:=h0 x;omega
 have k:=key (cu os q);have l:(cu os q).length≤os.length:=by
  unfold cu;exact O7 (Pt _ _) (by rw[Pi];exact OC _)
 unfold dA;omega
def mQ(K:Oz)(H:Hp)(S:Pl->Prop)(L:Pl->Int)(vb:Addr)(ld ln:Int):Prop:=(ld=-1/\ln=1/\∀r,¬S r)∨∃q:Pl,bu K H vb [.int q.1,.int q.2]/\ld=L q/\ln=bO q/\qa S L q
theorem mQ.mono{K:Oz}{H H':Hp}{S S':Pl->Prop}{L:Pl->Int}{vb:Addr}{ld ln:Int}(h:mQ K H S L vb ld ln)(t:aM K H H')(e:∀r,S' r↔S r):mQ K H' S' L vb ld ln:=by
 rcases h with⟨a,b,c⟩ | ⟨q,hq,a,b,c⟩
 ·exact .inl ⟨a,b,λr hr=>c r ((e r).mp hr)⟩
 ·exact .inr ⟨q,t _ _ hq,a,b,c.congr e⟩
theorem xj(e:∀r,S r↔r=q):qa S L q:=⟨(e q).mpr Z,λr hr=>by rw[(e r).mp hr];exact .inr ⟨Z,.inr ⟨Z,OC _⟩⟩⟩
def iG(K:Oz):Sp:=λvs H Q _=>∃(l a:Addr) (xs:List V) (os:List Wn) (as:List Int) (n:Nat),vs=[.ref l,.ref a,.int n]/\aS K H l xs/\cG (t9 K H) xs os/\os.length≤64/\aS K H a (as.map V.int)/\as.length=os.length/\(∀x∈as,0≤x/\x≤58008278083807174518538576892457216210661944285586437227379137614490557671465867652814871196983256265001680139741027558005266508412605746820819829877188752906375150341561965919783974615112101240260630937600000000000000000000000)/\1≤n/\n≤24/\∀(p:Addr) (q:Pl) (H':Hp),aE H H'->bu K H' p [.int q.1,.int q.2]->qa (ik n) (dA os (g4 as)) q->Q (.ref p) H'
def Dc(ls:List Nat):PyData:=.tuple (ls.map λn:Nat=>XV n)
def LG(ls:List Nat)(os:List Wn)(q:Pl):PyData:=.tuple [Dc ((ls.drop q.1).take (q.2+1-q.1)),Dc (cu os q)]
theorem An(ok:∀w∈ws,bz w)(b0:0<B)(bd:B∣4834023173650597876544881407704768017555162023798869768948261467874213139288822304401239266415271355416806678311752296500438875701050478901734985823099062742197929195130163826648664551259341770021719244800000000000000000000000):∀x∈fb B ws,0≤x/\x≤58008278083807174518538576892457216210661944285586437227379137614490557671465867652814871196983256265001680139741027558005266508412605746820819829877188752906375150341561965919783974615112101240260630937600000000000000000000000:=by
 intro x hx;obtain⟨w,hw,rfl⟩:=OP.mp hx;have o:=(ok w hw).am;have B84:=Sr (by decide) bd;have q0:0≤B/w.2.2.2:=Sk (by omega) (by have:=o.bot;omega);have q1:B/w.2.2.2≤B:=UY _ (by omega);have t1:=o.top;have t2:=o.top';refine⟨VE (by omega) q0,?_⟩;have h1:w.2.2.1*(B/w.2.2.2)≤12*w.2.2.2*(B/w.2.2.2):=Ts t2 q0;have h2:w.2.2.2*(B/w.2.2.2)≤B:=Int.mul_ediv_self_le (by have:=o.bot;omega);rw[V2] at h1;omega
theorem xK(ok:∀w∈ws,bz w):∀x∈ck ws,0≤x/\x≤58008278083807174518538576892457216210661944285586437227379137614490557671465867652814871196983256265001680139741027558005266508412605746820819829877188752906375150341561965919783974615112101240260630937600000000000000000000000:=by
 intro x hx;obtain⟨w,hw,rfl⟩:=OP.mp hx;have o:=(ok w hw).am;have t1:=o.top;have t2:=o.top';refine⟨Sk (by omega) (by have:=o.bot;omega),?_⟩;refine Int.le_of_lt_add_one (Int.ediv_lt_of_lt_mul (by have:=o.bot;omega) ?_);have:=o.bot;omega
theorem qj(ok:∀w∈ws,bz w)(dv:∀w∈ws,w.2.2.2∣B)(i:Nat):g4 (ck ws) i*B=g4 (fb B ws) i*4834023173650597876544881407704768017555162023798869768948261467874213139288822304401239266415271355416806678311752296500438875701050478901734985823099062742197929195130163826648664551259341770021719244800000000000000000000000:=by
 unfold g4 ck fb;rw[OF,OF,OQ,OQ]
 cases e:ws[i]? with
 |none=>simp
 |some w=>
  have hw:=OM e;have o:=(ok w hw).am;obtain⟨m,hm⟩:=dv w hw;obtain⟨n,hn⟩:=o.dvd;have nz:w.2.2.2≠0:=by have:=o.bot;omega
  show w.2.2.1*4834023173650597876544881407704768017555162023798869768948261467874213139288822304401239266415271355416806678311752296500438875701050478901734985823099062742197929195130163826648664551259341770021719244800000000000000000000000/w.2.2.2*B=w.2.2.1*(B/w.2.2.2)*4834023173650597876544881407704768017555162023798869768948261467874213139288822304401239266415271355416806678311752296500438875701050478901734985823099062742197929195130163826648664551259341770021719244800000000000000000000000;have e1:w.2.2.1*4834023173650597876544881407704768017555162023798869768948261467874213139288822304401239266415271355416806678311752296500438875701050478901734985823099062742197929195130163826648664551259341770021719244800000000000000000000000/w.2.2.2=w.2.2.1*n:=by
   rw[hn,Tb];exact Pa _ nz
  have e2:B/w.2.2.2=m:=by
   rw[hm];exact Pa _ nz
  rw[e1,e2,hm,hn]
  ac_rfl
theorem DG{ls:List Nat}(h1:a≤b)(h2:b≤ls.length):mZ (bt ls) (some (a:Int)) (some (b:Int))=bt ((ls.drop a).take (b-a)):=by
 unfold mZ bt;rw[HT.sIx_nat,HT.sIx_nat,OD,show min b ls.length=b from Xz h2,show min a ls.length=a from Xz (by omega),List.map_take,List.map_drop]
def EL(K:Oz)(H:Hp)(v:V)(y:List Nat×List Nat):Prop:=∃p a b,v=.ref p/\bu K H p [.ref a,.ref b]/\bu K H a (bt y.1)/\bu K H b (bt y.2)
theorem EL.mono{K:Oz}{H H':Hp}{v:V}{y:List Nat×List Nat}(h:EL K H v y)(t:aM K H H'):EL K H' v y:=let ⟨p,a,b,e,h1,h2,h3⟩:=h;⟨p,a,b,e,t _ _ h1,t _ _ h2,t _ _ h3⟩
def dC(ls:List Nat)(q:Pl):List Nat:=(ls.drop q.1).take (q.2+1-q.1)
def dE(ls:List Nat)(q:Pl):List Nat:=ls.filter λt=>!(dC ls q).contains t
def uO(ws:List Wk)(ls:List Nat):Nat:=ws.countP λw=>(bF ls w).isSome
theorem eO:i∈gh ls w↔i<ls.length/\fk w (ls.getD i 0)=true:=by
 unfold gh;rw[OU,ON]
theorem uh(h:gh ls w=[]):bF ls w=none:=by unfold bF;rw[h]
theorem qf(h:gh ls w=x:: r):bF ls w=some (x,(x:: r).getLast (by simp)):=by unfold bF;rw[h]
theorem fE:(bF ls w).isSome=true↔∃t∈ls,fk w t=true:=by
 cases c:gh ls w with
 |nil=>
  rw[uh c];refine⟨λh=>(by cases h),λ⟨t,ht,e⟩=>?_⟩;obtain⟨i,hi,rfl⟩:=PY.mp ht;have m:i∈gh ls w:=eO.mpr ⟨hi,by rw[az 0 (OA hi)];exact e⟩;rw[c] at m
  cases m
 |cons x r=>
  rw[qf c];refine⟨λ_=>?_,λ_=>Z⟩;have m:x∈gh ls w:=by rw[c];exact OJ
  obtain⟨hi,e⟩:=eO.mp m;rw[az 0 (OA hi)] at e;exact⟨_,O6 hi,e⟩
theorem sS(ls:List Nat)(w:Wk):(gh ls w).Pairwise (· < ·):=Qg _ Si
theorem g6(h:bF ls w=some (a,b)):a∈gh ls w/\b∈gh ls w/\∀i∈gh ls w,a≤i/\i≤b:=by
 cases c:gh ls w with
 |nil=>rw[uh c] at h;cases h
 |cons x r=>
  rw[qf c] at h;have srt:=sS ls w;rw[c] at srt;injection h with h;injection h with h1 h2;subst h1 h2;refine⟨OJ,List.getLast_mem _,λi hi=>⟨?_,?_⟩⟩
  ·rcases OO.mp hi with z|z
   ·omega
   ·have:=(RE.mp srt).1 i z;omega
  ·have e:=TK (show(x::r)≠[] by simp);rw[←e] at srt hi;rcases Pn.mp hi with z|z
   ·have:=(Sy.mp srt).2.2 i z _ (OH.mpr Z);omega
   ·have:=OH.mp z;omega
theorem G5{ls:List Nat}(nd:ls.Nodup){i j:Nat}{hi:i<ls.length}{hj:j<ls.length}(e:ls[i]=ls[j]):i=j:=by
 have h:=P5.mp nd;rcases Nat.lt_trichotomy i j with z|z|z
 ·exact absurd e (h i j hi hj z)
 ·exact z
 ·exact absurd e.symm (h j i hj hi z)
theorem pP(nd:ls.Nodup)(hp:ik ls.length p)(hi:i<ls.length):ls[i]∈dC ls p↔p.1≤i/\i≤p.2:=by
 have h1:=hp.1;have h2:=hp.2;unfold dC;constructor
 ·intro h;obtain⟨j,hj,e⟩:=PY.mp h;rw[P7,RZ] at hj;rw[UB,WQ] at e;have:=G5 nd e;omega
 ·rintro⟨a,b⟩;refine PY.mpr ⟨i-p.1,by rw[P7,RZ];omega,?_⟩;rw[UB,WQ]
  congr 1
  omega
theorem nO(nd:ls.Nodup)(hp:ik ls.length p):(bF (dE ls p) w).isSome=((bF ls w).isSome&&!gA p.1 p.2 (bF ls w)):=by
 have key:(bF (dE ls p) w).isSome=true↔∃i,∃hi:i<ls.length,fk w ls[i]=true/\¬(p.1≤i/\i≤p.2):=by
  rw[fE];constructor
  ·rintro⟨t,ht,e⟩;unfold dE at ht;obtain⟨m,c⟩:=OU.mp ht;obtain⟨i,hi,rfl⟩:=PY.mp m;refine⟨i,hi,e,λz=>?_⟩;rw[Q8.mpr ((pP nd hp hi).mpr z)] at c
   cases c
  ·rintro⟨i,hi,e,n⟩;refine⟨ls[i],OU.mpr ⟨O6 hi,?_⟩,e⟩
   cases c:(dC ls p).contains ls[i] with
   |false=>rfl
   |true=>exact absurd ((pP nd hp hi).mp (Q8.mp c)) n
 have pm:∀i,i∈gh ls w↔∃hi:i<ls.length,fk w ls[i]=true:=λi=>by
  rw[eO];constructor
  ·rintro⟨hi,e⟩;rw[az 0 (OA hi)] at e;exact⟨hi,e⟩
  ·rintro⟨hi,e⟩;exact⟨hi,by rw[az 0 (OA hi)];exact e⟩
 cases c:bF ls w with
 |none=>
  have n:¬(bF (dE ls p) w).isSome=true:=λh=>by
   obtain⟨i,hi,e,_⟩:=key.mp h;have:=fE.mpr ⟨ls[i],O6 hi,e⟩;rw[c] at this
   cases this
  simpa using n
 |some q=>
  obtain⟨a,b⟩:=q;obtain⟨m1,m2,bd⟩:=g6 c;show(bF (dE ls p) w).isSome=(true&&!(decide (p.1≤a)&&decide (b≤p.2)));by_cases h:p.1≤a/\b≤p.2
  ·rw[decide_eq_true h.1,decide_eq_true h.2];have n:¬(bF (dE ls p) w).isSome=true:=λh'=>by
    obtain⟨i,hi,e,n⟩:=key.mp h';have:=bd i ((pm i).mpr ⟨hi,e⟩);exact n (by omega)
   simpa using n
  ·have y:(bF (dE ls p) w).isSome=true:=key.mpr (by
    by_cases z:p.1≤a
    ·obtain⟨hi,e⟩:=(pm b).mp m2;exact⟨b,hi,e,by omega⟩
    ·obtain⟨hi,e⟩:=(pm a).mp m1;exact⟨a,hi,e,by omega⟩)
   rw[y];by_cases z:p.1≤a
   ·rw[decide_eq_false (show ¬b≤p.2 from λq=>h ⟨z,q⟩),RF];rfl
   ·rw[decide_eq_false z];rfl
theorem rg(os:List Wn)(p:Pl):(cu os p).length=os.countP (gA p.1 p.2):=by
 have:=congrArg List.length (eX (none:Wn) (gA p.1 p.2) id os);rw[OD,OD] at this;rw[List.countP_eq_length_filter];exact this
theorem C7(nd:ls.Nodup)(hp:ik ls.length p):uO ws (dE ls p)+(cu (ws.map (bF ls)) p).length=uO ws ls:=by
 rw[rg,List.countP_map];unfold uO
 induction ws with
 |nil=>rfl
 |cons w ws ih=>
  rw[UZ,UZ,UZ,nO nd hp,show(gA p.1 p.2∘bF ls) w=gA p.1 p.2 (bF ls w) from Z]
  cases c:bF ls w with
  |none=>
   have:gA p.1 p.2 none=false:=Z;rw[this];simp only[Option.isSome_none,Ri,RD,if_false,Vm];exact ih
  |some q=>
   cases gA p.1 p.2 (some q) with
   |true=>
    simp only[SX,V0,RF,RD,if_false,if_true,Vm];omega
   |false=>
    simp only[SX,Bool.not_false,V1,RD,if_false,if_true,Vm];omega
theorem Co(nd:ls.Nodup)(p:Pl):(dE ls p).Nodup:=Qg _ nd
theorem AN{A:Nat->Int}(h:∀i,0≤A i):∀{l:List Nat} {i:Nat},i∈l->A i≤(l.map A).sum
 |x::l,i,hi=>by
  rw[Pm,SS];rcases OO.mp hi with z|z
  ·subst z;have:=iF h l;omega
  ·have:=AN h z;have:=h x;omega
theorem qk(ok:∀w∈ws,bz w)(i:Nat):0≤g4 (ck ws) i:=by
 unfold g4;rw[OF]
 cases e:(ck ws)[i]? with
 |none=>decide
 |some x=>exact(xK ok x (OM e)).1
theorem Di(ok:∀w∈ws,bz w)(h:∀r,ik ls.length r->dA (ws.map (bF ls)) (g4 (ck ws)) r=0):uO ws ls=0:=by
 refine Ru.mpr λw hw n=>?_
 obtain⟨q,hq⟩:=QH.mp n;obtain⟨a,b⟩:=q;obtain⟨m1,m2,bd⟩:=g6 hq;have sec:ik ls.length (a,b):=⟨(bd b m2).1,(eO.mp m2).1⟩;obtain⟨i,hi,rfl⟩:=PY.mp hw;have mi:i∈cu (ws.map (bF ls)) (a,b):=by
  unfold cu;refine OU.mpr ⟨ON.mpr (by rw[OD];exact hi),?_⟩;rw[az none (show(ws.map (bF ls))[i]?=some (some (a,b)) by rw[OQ,OA hi];exact congrArg some hq)];show(decide (a≤a)&&decide (b≤b))=true;simp
 have l:=AN (qk ok) mi;have z:=h _ sec;unfold dA at z;rw[z] at l;have o:=(ok _ hw).am;have eu:g4 (ck ws) i=ws[i].2.2.1*4834023173650597876544881407704768017555162023798869768948261467874213139288822304401239266415271355416806678311752296500438875701050478901734985823099062742197929195130163826648664551259341770021719244800000000000000000000000/ws[i].2.2.2:=az 0 (by unfold ck;rw[OQ,OA hi];rfl);rw[eu] at l;have t1:=o.top;have b1:=o.bot;have b2:=Sr (by decide) o.dvd;have:1≤ws[i].2.2.1*4834023173650597876544881407704768017555162023798869768948261467874213139288822304401239266415271355416806678311752296500438875701050478901734985823099062742197929195130163826648664551259341770021719244800000000000000000000000/ws[i].2.2.2:=(Int.le_ediv_iff_mul_le (by omega)).mpr (by omega);omega
def vt(ws:List Wk)(ls:List Nat)(p:Pl):Prop:=qa (ik ls.length) (dA (ws.map (bF ls)) (g4 (ck ws))) p/\0<dA (ws.map (bF ls)) (g4 (ck ws)) p
theorem Hl(ok:∀w∈ws,bz w)(b:qa (ik ls.length) (dA (ws.map (bF ls)) (g4 (ck ws))) p)(h:uO ws ls≠0):vt ws ls p:=by
 refine⟨b,?_⟩;have nn:∀r,0≤dA (ws.map (bF ls)) (g4 (ck ws)) r:=λr=>iF (qk ok) _
 by_cases c:0<dA (ws.map (bF ls)) (g4 (ck ws)) p
 ·exact c
 ·refine absurd (Di ok λr hr=>?_) h;have z:dA (ws.map (bF ls)) (g4 (ck ws)) p=0:=by have:=nn p;omega
  have q:=b.all r hr;have pp:=(show ik ls.length p from b.inn).pos;rw[z,Int.zero_mul] at q;by_cases e:dA (ws.map (bF ls)) (g4 (ck ws)) r=0
  ·exact e
  ·have:=Qf (show 0<dA (ws.map (bF ls)) (g4 (ck ws)) r by have:=nn r;omega) pp;omega
theorem vt.held(h:vt ws ls p):0<(cu (ws.map (bF ls)) p).length:=by
 have:=h.2;unfold dA at this
 cases c:cu (ws.map (bF ls)) p with
 |nil=>rw[c] at this;exact absurd this (by simp)
 |cons x r=>exact Nat.succ_pos _
abbrev Ly:=List Nat×List Nat
def gs(ws:List Wk)(ls:List Nat)(p:Pl):Ly:=(dC ls p,cu (ws.map (bF ls)) p)
inductive im(ws:List Wk):List Nat->List Ly->Prop where
 |nil {ls:List Nat} (h:uO ws ls=0):im ws ls []
 |cons {ls:List Nat} {p:Pl} {r:List Ly} (h:vt ws ls p) (t:im ws (dE ls p) r):im ws ls (gs ws ls p::r)
structure ka(n:Nat)(y:Ly):Prop where
 pos:0<y.1.length
 few:y.1.length≤24
 lt:∀t∈y.1,t<24
 num:∀i∈y.2,i<n
 len:y.2.length≤n
theorem AK(hp:ik ls.length p)(hl:ls.length≤24)(hb:∀t∈ls,t<24):ka ws.length (gs ws ls p):=by
 have h1:=hp.1;have h2:=hp.2;have e:(dC ls p).length=min (p.2+1-p.1) (ls.length-p.1):=by unfold dC;rw[P7,RZ]
 refine⟨by show 0<(dC ls p).length;omega,by show(dC ls p).length≤24;omega,λt ht=>hb t (Tx (RP ht)),λi hi=>?_,?_⟩
 ·have:i∈cu (ws.map (bF ls)) p:=hi;unfold cu at this;have:=ON.mp (OU.mp this).1;rw[OD] at this;exact this
 ·show(cu (ws.map (bF ls)) p).length≤ws.length;rw[rg];exact O7 List.countP_le_length (by rw[OD];exact OC _)
def qu(K:Oz):Sp:=λvs H Q _=>∃(v:V) (q:Addr) (ws:List Wk) (ls:List Nat),vs=[v,.ref q]/\gj K H v ws/\ws.length≤64/\(∀w∈ws,bz w)/\bu K H q (bt ls)/\1≤ls.length/\ls.length≤24/\∀(x:V) (B:Int) (p:Pl) (H':Hp),aE H H'->0<B->B∣4834023173650597876544881407704768017555162023798869768948261467874213139288822304401239266415271355416806678311752296500438875701050478901734985823099062742197929195130163826648664551259341770021719244800000000000000000000000->(∀w∈ws,w.2.2.2∣B)->qa (ik ls.length) (dA (ws.map (bF ls)) (g4 (fb B ws))) p->EL K H' x (gs ws ls p)->Q x H'
def Ov(K:Oz)(H:Hp)(v:V)(s:Nat×Nat×Nat):Prop:=∃p,v=.ref p/\bu K H p [.int s.1,.int s.2.1,.int s.2.2]
def Og(os:List Wn)(i:Nat):List (Nat×Nat×Nat):=(OB i).filterMap λj=>(os.getD j none).map λq=>(q.1,q.2,j)
def MF(p:Pl)(s:Nat×Nat×Nat):Bool:=decide (p.1≤s.1)&&decide (s.2.1≤p.2)
def MZ(K:Oz)(H:Hp)(os:List Wn)(S:Pl->Prop)(L:Pl->Int)(pb:Addr):Prop:=∃(mn ln bg:Int) (lb:Addr),bu K H pb [.int mn,.int ln,.int bg,.ref lb]/\((mn=0/\ln=1/\bg=0/\∀r,S r->L r=0)∨∃q:Pl,0<L q/\mn=L q/\ln=bO q/\bg=(q.1:Int)/\aS K H lb (bt (cu os q))/\qa S L q)
mutual
def Me:PyData->Bool
 | .int _=>true
 | .str _=>true
 | .bool _=>true
 | .none=>true
 | .tuple ds=>decide (ds.length≤1000)&&Ei ds
 |_=>false
def Ei:List PyData->Bool
 | []=>true
 |d::ds=>Me d&&Ei ds
end
def qI(k:Nat)(K:Oz):Sp:=λvs H Q _=>∃(v w:V) (d:PyData),vs=[v,w]/\bv K H v d/\bv K H w d/\d.depth≤k/\Me d=true/\∀H',aE H H'->Q (.bl true) H'
abbrev Iq:=qI 0
abbrev Ip:=qI 1
abbrev Io:=qI 2
abbrev Im:=qI 3
abbrev B8:=qI 4
def MI(w:Wk):PyData:=.tuple [.int w.1,.int w.2.1,dR w.2.2]
def J5(ws:List Wk):PyData:=.tuple (ws.map MI)
theorem xG.deep{K:Oz}{H:Hp}{v:V}{w:Wk}(h:xG K H v w):bv K H v (MI w):=by
 obtain⟨p,x,rfl,hS,rx⟩:=h;exact .tup hS (.cons (.int _) (.cons (.int _) (.cons rx.deep .nil)))
theorem gj.deep{K:Oz}{H:Hp}{v:V}{ws:List Wk}(h:gj K H v ws):bv K H v (J5 ws):=by
 obtain⟨p,xs,rfl,hS,al⟩:=h;exact .tup hS (al.deep λ_ _ q=>q.deep)
def On(y:List Nat×List Nat):PyData:=.tuple [Dc y.1,Dc y.2]
def bL:Wk:=(0,0,(0,1))
def gZ(ws:List Wk)(y:List Nat×List Nat):List R:=y.2.map λi=>(ws.getD i bL).2.2
def cY(ws:List Wk)(y:List Nat×List Nat):R:=fT (f8 (gZ ws y)) (1,(y.1.length:Int))
def ig(r:R)(ss:List R)(ts:List Nat):List R:=ts.foldl (λs t=>s.set t r) ss
def aQ(ws:List Wk)(lys:List (List Nat×List Nat)):List R:=lys.foldl (λss y=>ig (cY ws y) ss y.1) (Pg 24 (0,1))
theorem lV(r:R):∀(ts:List Nat) (ss:List R),(ig r ss ts).length=ss.length
 | [],_=>rfl
 |t::ts,ss=>by
  show(ig r (ss.set t r) ts).length=_;rw[lV r ts,QM]
theorem kD(ws:List Wk):∀(lys:List (List Nat×List Nat)) (ss:List R),(lys.foldl (λss y=>ig (cY ws y) ss y.1) ss).length=ss.length
 | [],_=>rfl
 |y::r,ss=>by rw[PR,kD ws r,lV]
theorem HR{ws:List Wk}{n:Nat}{y:List Nat×List Nat}(ok:∀w∈ws,bz w)(h:ka ws.length y):∀r∈gZ ws y,Wf 760 r:=by
 intro r hr;obtain⟨i,hi,rfl⟩:=OP.mp hr;have hl:=h.num i hi;rw[az bL (OA hl)];exact(ok _ (O6 hl)).am.wf
theorem C8(ok:∀w∈ws,bz w):uO ws (OB 24)=ws.length:=by
 refine List.countP_eq_length.mpr λw hw=>fE.mpr ⟨w.1,ON.mpr ?_,?_⟩
 ·have:=(ok w hw).le;have:=(ok w hw).lt;omega
 ·unfold fk;rw[decide_eq_true (OC _),decide_eq_true (ok w hw).le];rfl
theorem G3(ws:List Wk):uO ws []=0:=Ru.mpr λw _ h=>by
 obtain⟨t,ht,_⟩:=fE.mp h
 cases ht
theorem jp(h:vt ws ls p):ik ls.length p:=h.1.inn
def LP(K:Oz)(H:Hp)(v:V)(lys:List (List Nat×List Nat)):Prop:=∃p xs,v=.ref p/\bu K H p xs/\cG (EL K H) xs lys
def vJ(K:Oz):Sp:=λvs H Q _=>∃(v:V) (ws:List Wk),vs=[v]/\gj K H v ws/\ws.length≤64/\(∀w∈ws,bz w)/\∀(x:V) (lys:List (List Nat×List Nat)) (H':Hp),aE H H'->LP K H' x lys->im ws (OB 24) lys->(∀y∈lys,ka ws.length y)->lys.length≤64->Q x H'
def jJ(K:Oz):Sp:=λvs H Q _=>∃(v x:V) (ws:List Wk) (y:List Nat×List Nat),vs=[v,x]/\gj K H v ws/\ws.length≤64/\(∀w∈ws,bz w)/\EL K H x y/\ka ws.length y/\K3 K H Q (cY ws y)
def km(K:Oz):Sp:=λvs H Q _=>∃(v:V) (ws:List Wk),vs=[v]/\gj K H v ws/\ws.length≤64/\(∀w∈ws,bz w)/\∀(p:Addr) (xs:List V) (lys:List (List Nat×List Nat)) (H':Hp),aE H H'->bu K H' p xs->cG (RV K H') xs (aQ ws lys)->im ws (OB 24) lys->Q (.ref p) H'
def BH(K:Oz):Sp:=λvs H Q _=>∃(v:V) (ws:List Wk),vs=[v]/\gj K H v ws/\ws.length≤64/\(∀w∈ws,bz w)/\∀(l:Addr) (xs:List V) (lys:List (List Nat×List Nat)) (H':Hp),aE H H'->H' l=some (.lst xs)->cG (RV K H') xs (aQ ws lys)->im ws (OB 24) lys->Q (.ref l) H'
def KS(K:Oz)(H:Hp)(v:V)(e:Ln):Prop:=∃p,v=.ref p/\bu K H p [.int (e.1:Nat),.int (e.2:Nat)]
theorem KS.mono{K:Oz}{H H':Hp}{v:V}{e:Ln}(h:KS K H v e)(t:aM K H H'):KS K H' v e:=let ⟨p,q,s⟩:=h;⟨p,q,t _ _ s⟩
def xy(K:Oz)(H:Hp)(v:V)(es:List Ln):Prop:=∃p xs,v=.ref p/\bu K H p xs/\cG (KS K H) xs es
theorem xy.mono{K:Oz}{H H':Hp}{v:V}{es:List Ln}(h:xy K H v es)(t:aM K H H'):xy K H' v es:=let ⟨p,xs,e,s,a⟩:=h;⟨p,xs,e,t _ _ s,a.mono λ_ _ q=>q.mono t⟩
def vR(n:Nat)(f:Nat->Bool):List V:=(OB n).map λj=>V.bl (f j)
theorem pA(h:j<n):(vR n f)[j]?=some (.bl (f j)):=by
 unfold vR;rw[OQ,Q2 h];rfl
structure BN(H:Hp)(l:Addr)(rows:List Addr)(n:Nat)(L:Nat->Nat->Bool):Prop where
 top:H l=some (.lst (rows.map V.ref))
 len:rows.length=n
 nd:rows.Nodup
 ne:l∉rows
 row:∀i r,rows[i]?=some r->H r=some (.lst (vR n (L i)))
theorem BN.same(h:BN H l rows n L)(s:aE H H'):BN H' l rows n L:=⟨s _ _ h.top,h.len,h.nd,h.ne,λi r e=>s _ _ (h.row i r e)⟩
structure Kp(rows:List Addr)(H H':Hp):Prop where
 keep:∀b o,b∉rows->H b=some o->H' b=some o
 ls:∀r∈rows,∃xs,H r=some (.lst xs)
 ls':∀r∈rows,∃xs,H' r=some (.lst xs)
theorem Kp.trans(a:Kp rows H H1)(b:Kp rows H1 H2):Kp rows H H2:=⟨λc o n e=>b.keep c o n (a.keep c o n e),a.ls,b.ls'⟩
theorem Kp.same(s:aE H H')(h:∀r∈rows,∃xs,H r=some (.lst xs)):Kp rows H H':=⟨λc o _ e=>s _ _ e,h,λr m=>let ⟨xs,e⟩:=h r m;⟨xs,s _ _ e⟩⟩
theorem Kp.up(m:r∈rows)(h:∀r∈rows,∃xs,H r=some (.lst xs))(ys:List V):Kp rows H (upd H r (.lst ys)):=⟨λc o n e=>by rw[au (show c≠r from λz=>n (by rw[z];exact m))];exact e,h,λq mq=>by
 by_cases c:q=r
 ·subst c;exact⟨_,ag⟩
 ·rw[au c];exact h q mq⟩
theorem BN.ls(h:BN H l rows n L):∀r∈rows,∃xs,H r=some (.lst xs):=λr m=>by
 obtain⟨i,hi,e⟩:=PY.mp m;exact⟨_,h.row i r (by rw[OA hi,e])⟩
theorem aM.kp{K:Oz}{rows:List Addr}{H H':Hp}(k:Kp rows H H'):aM K H H':=λp xs h=>by
 rcases h with h|h
 ·have n:p∉rows:=λm=>by
   obtain⟨ys,e⟩:=k.ls p m;rcases h with h | ⟨o,h⟩<;>rw[e] at h<;>cases h
  rcases h with h | ⟨o,h⟩
  ·exact .inl (.inl (k.keep _ _ n h))
  ·exact .inl (.inr ⟨o,k.keep _ _ n h⟩)
 ·exact .inr h
def lG(_:Oz):Sp:=λvs H Q _=>∃n:Nat,vs=[.int n]/\n≤64/\∀(l:Addr) (rows:List Addr) (H':Hp),aE H H'->H l=none->(∀r∈rows,H r=none)->BN H' l rows n (λ_ _=>false)->Q (.ref l) H'
def ub(_:Nat)(es:List Ln):Prop:=es=[]
def qK(_:Oz):Sp:=λ_ _ _ _=>False
def kr(K:Oz):Sp:=λvs H Q _=>∃(n:Nat) (v:V) (es:List Ln),vs=[.int n,v]/\xy K H v es/\ub n es/\n≤64/\∀(l:Addr) (rows:List Addr) (L:Nat->Nat->Bool) (H':Hp),aE H H'->BN H' l rows n L->KW n es L->Q (.ref l) H'
structure NM(w:Wk):Prop where
 l1:w.1<24
 l2:w.2.1<24
 am:Wf 900 w.2.2
def vF(ws:List Wk)(j:Nat):Int:=((ws.getD j bL).1:Nat)
def vL(ws:List Wk)(j:Nat):Int:=-((ws.getD j bL).2.1:Nat)
structure ii(ws:List Wk)(es:List Ln)(f l:Nat->Int):Prop where
 a:Ix ws.length es (vF ws) f
 b:Ix ws.length (BX es) (vL ws) (λi=>- l i)
theorem xQ{n:Nat}{v:Nat->Int}{P:Nat->Prop}:∀k,k≤n->(∀j,j<k->¬P j)∨∃M,(∀j,j<k->P j->v j≤M)/\∃j,j<k/\P j/\M=v j
 |0,_=>.inl λj hj=>absurd hj (Sn _)
 |k+1,hk=>by
  rcases xQ (n:=n) (v:=v) (P:=P) k (by omega) with h | ⟨M,h1,j,h2,h3,h4⟩
  ·by_cases c:P k
   ·refine .inr ⟨v k,λj hj pj=>?_,k,by omega,c,Z⟩;by_cases z:j=k
    ·subst z;exact UA _
    ·exact absurd pj (h j (by omega))
   ·refine .inl λj hj pj=>?_
    by_cases z:j=k
    ·subst z;exact c pj
    ·exact h j (by omega) pj
  ·by_cases c:P k/\M<v k
   ·refine .inr ⟨v k,λi hi pi=>?_,k,by omega,c.1,Z⟩;by_cases z:i=k
    ·subst z;exact UA _
    ·have:=h1 i (by omega) pi;have:=c.2;omega
   ·refine .inr ⟨M,λi hi pi=>?_,j,by omega,h3,h4⟩;by_cases z:i=k
    ·subst z;by_cases y:v i≤M
     ·exact y
     ·exact absurd ⟨pi,by omega⟩ c
    ·exact h1 i (by omega) pi
theorem Ix.ex(n:Nat)(es:List Ln)(v:Nat->Int):∃F,Ix n es v F:=by
 have h:∀i,∃M:Int,i<n->(∀j,j<n->(j=i∨iy es j i)->v j≤M)/\∃j,j<n/\(j=i∨iy es j i)/\M=v j:=λi=>by
  rcases xQ (n:=n) (v:=v) (P:=λj=>j=i∨iy es j i) n (OC _) with h | ⟨M,h1,h2⟩
  ·exact⟨0,λhi=>absurd (.inl Z) (h i hi)⟩
  ·exact⟨M,λ_=>⟨h1,h2⟩⟩
 exact⟨λi=>Classical.choose (h i),⟨λi j hi hj z=>(Vw (h i) hi).1 j hj z,λi hi=>(Vw (h i) hi).2⟩⟩
theorem ii.ex(ws:List Wk)(es:List Ln):∃f l,ii ws es f l:=by
 obtain⟨f,hf⟩:=Ix.ex ws.length es (vF ws);obtain⟨g,hg⟩:=Ix.ex ws.length (BX es) (vL ws);refine⟨f,λi=>- g i,hf,?_⟩;have:(λi=>- - g i)=g:=funext λi=>Int.neg_neg _
 rw[this];exact hg
def wX(ws:List Wk)(f l:Nat->Int)(i:Nat):PyData:=.tuple [.int (f i),.int (l i),dR (ws.getD i bL).2.2]
def iU(n:Nat)(f l:Nat->Int):Option Nat:=(OB n).find? λi=>decide (l i<f i)
def Nn(ws:List Wk)(f l:Nat->Int):PyData:=match iU ws.length f l with
 |some i=>.int i
 |none=>.tuple ((OB ws.length).map (wX ws f l))
theorem Bs(hi:i<n)(h:l i<f i)(b:∀j,j<i->f j≤l j):iU n f l=some i:=by
 unfold iU;rw[UH];refine⟨decide_eq_true h,ON.mpr hi,λj hj=>?_⟩;have:=b j hj;rw[decide_eq_false (by omega)];rfl
theorem rL(b:∀j,j<n->f j≤l j):iU n f l=none:=by
 unfold iU;rw[Uo];intro j hj;have:=b j (ON.mp hj);rw[decide_eq_false (by omega)];simp
theorem Bk{K:Oz}{H H':Hp}(t:aM K H H'){ws:List Wk}{f l:Nat->Int}{i:Nat}{v:V}(h:bv K H v (wX ws f l i)):bv K H' v (wX ws f l i):=by
 unfold wX at h ⊢
 cases h with
 |tup e h=>
  cases h with
  |cons h1 h=>
   cases h with
   |cons h2 h=>
    cases h with
    |cons h3 h=>
     cases h
     cases h1
     cases h2
     refine .tup (t _ _ e) (.cons (.int _) (.cons (.int _) (.cons ?_ .nil)))
     cases h3 with
     |tup e3 h3=>
      cases h3 with
      |cons a h3=>
       cases h3 with
       |cons b h3=>cases h3;cases a;cases b;exact .tup (t _ _ e3) (.cons (.int _) (.cons (.int _) .nil))
theorem rZ{K:Oz}{H H':Hp}(t:aM K H H'){ws:List Wk}{f l:Nat->Int}:∀{zs:List Nat} {vs:List V},bh K H vs (zs.map (wX ws f l))->bh K H' vs (zs.map (wX ws f l))
 | [],_,.nil=>.nil
 |_::_,_,.cons h r=>.cons (Bk t h) (rZ t r)
theorem kl{K:Oz}{H:Hp}:∀{xs ys:List V} {ds es:List PyData},bh K H xs ds->bh K H ys es->bh K H (xs++ys) (ds++es)
 |_,_,_,_,.nil,h=>h
 |_,_,_,_,.cons a t,h=>.cons a (kl t h)
def MQ(K:Oz)(H:Hp)(v:V)(ws:List Wk)(es:List Ln):Prop:=∃p a b,v=.ref p/\bu K H p [a,b]/\gj K H a ws/\xy K H b es
def Il(_:Oz):Sp:=λvs H Q _=>∃i:Int,vs=[.int i]/\Q (.int i) H
def Ir(_:Oz)(C:Addr):Sp:=λvs H Q _=>∃(a:Addr) (n:Int),vs=[.ref a,.int n]/\H a=some (jt a C none)/\∀d,H d=none->d≠a->Q .non (upd (upd H a (jt a C (some d))) d (dO d [("work",.int n)]))
structure Kc(ws:List Wk)(es:List Ln):Prop where
 few:ws.length≤20
 ok:∀w∈ws,NM w
 es:ub ws.length es
def oE(n:Nat)(es:List Ln):Prop:=∃ps:Nat->Nat,(∀i,i<n->ps i<n)/\∀a b,(a,b)∈es->ps a<ps b
def NJ(es:List Ln):PyData:=.tuple (es.map λe=>.tuple [.int (e.1:Nat),.int (e.2:Nat)])
theorem rN(h:Ii r):Bq 4834023173650597876544881407704768017555162023798869768948261467874213139288822304401239266415271355416806678311752296500438875701050478901734985823099062742197929195130163826648664551259341770021719244800000000000000000000000 12 r:=by
 have a:=h.top;have b:=h.top';have c:=h.bot;refine⟨by omega,h.wf.cop,h.dvd,?_⟩;have:12*1≤12*r.2.natAbs:=RW _ (by omega);omega
theorem ya{D N:Nat}(hD:0<D):∀{rs:List R},(∀r∈rs,Bq D N r)->∀{a:R} {M:Nat},Bq D M a->Bq D (M+N*rs.length) (rs.foldl bY a)
 | [],_,a,M,h=>by simpa using h
 |r::rs,hr,a,M,h=>by
  have:=ya hD (λq hq=>hr q (OL _ hq)) (h.plus hD (hr r OJ));rw[PR,Pu,Vj];refine this.mono (Qi _) (by omega)
theorem DM:Bq D 0 ((0,1):R):=⟨by decide,by decide,⟨(D:Int),by show(D:Int)=1*D;omega⟩,by show 0≤_;exact OZ _⟩
theorem g8(hD:0<D)(h:∀r∈rs,Bq D N r):Bq D (N*rs.length) (f8 rs):=by
 have:=ya hD h (DM (D:=D));rw[TZ] at this;exact this
theorem Cp(ok:∀w∈ws,bz w)(hw:ws.length≤20)(lok:ka ws.length y):Bq (4834023173650597876544881407704768017555162023798869768948261467874213139288822304401239266415271355416806678311752296500438875701050478901734985823099062742197929195130163826648664551259341770021719244800000000000000000000000*y.1.length) 240 (cY ws y):=by
 have am:∀r∈gZ ws y,Bq 4834023173650597876544881407704768017555162023798869768948261467874213139288822304401239266415271355416806678311752296500438875701050478901734985823099062742197929195130163826648664551259341770021719244800000000000000000000000 12 r:=λr hr=>by
  obtain⟨i,hi,rfl⟩:=OP.mp hr;have hl:=lok.num i hi;rw[az bL (OA hl)];exact rN (ok _ (O6 hl)).am
 have la:(gZ ws y).length=y.2.length:=OD _;have len:=lok.len;have pos:=lok.pos;have s:=(g8 (by decide) am).mono (Qi _) (show 12*(gZ ws y).length≤240 by omega);have o:Bq y.1.length 1 ((1,(y.1.length:Int)):R):=⟨by show(0:Int)<_;omega,by simp,Vh _,by show(1:Int).natAbs≤1*((y.1.length:Int)).natAbs;omega⟩;exact s.times o
def yk(K:Oz):Sp:=λvs H Q _=>∃(v w:V) (r q:R) (n m:Nat),vs=[v,w]/\RV K H v r/\RV K H w q/\Wf n r/\Wf m q/\n+m+1≤3000/\K3 K H Q (aY r q)
def lN(K:Oz):Sp:=λvs H Q _=>∃(v w:V) (r q:R) (n m:Nat),vs=[v,w]/\RV K H v r/\RV K H w q/\Wf n r/\Wf m q/\n+m+1≤3000/\Q (.bl (cD r q)) H
theorem Bl(h:O0 a b=1):O0 (-a) b=1:=by rw[Int.neg_gcd];exact h
theorem HN:∀m,m<25->0<m->4834023173650597876544881407704768017555162023798869768948261467874213139288822304401239266415271355416806678311752296500438875701050478901734985823099062742197929195130163826648664551259341770021719244800000000000000000000000*m∣25882466482949286179863278649307923433294195500903155828261708777083304197655675043413266388030659964209410754393653789328972760953294720473500143200427572835208147172761078519773593353785008074840607407759949824000000000000000000000000:=by decide
def aT(ws:List Wk)(i:Nat):Nat:=(ws.getD i bL).2.1
def eV(ws:List Wk)(l:List Nat):List Nat:=l.filter λi=>l.all λj=>decide (aT ws i≤aT ws j)
open Classical in
noncomputable def fS (es:List Ln) (i j:Nat):Bool:=decide (iy es j i)
open Classical in
theorem hU:fS es i j=true↔iy es j i:=by unfold fS;exact decide_eq_true_iff
noncomputable def gU (ws:List Wk) (es:List Ln) (l:List Nat):List Nat:=(eV ws l).filter λi=>!(eV ws l).any (fS es i)
noncomputable def fJ (ws:List Wk) (es:List Ln) (l:List Nat):Nat:=(gU ws es l).getD 0 0
def b9(n:Nat)(come:List Nat):List Nat:=(OB n).filter λi=>!come.contains i
noncomputable def aH (ws:List Wk) (es:List Ln):Nat->List Nat
 |0=>[]
 |k+1=>aH ws es k++[fJ ws es (b9 ws.length (aH ws es k))]
theorem Db{i:Nat}(h:(bt ls)[i]?=some x):∃n,ls[i]?=some n/\x=.int (n:Nat):=by
 unfold bt at h;rw[OQ] at h;obtain⟨n,hn,rfl⟩:=PX.mp h;exact⟨n,hn,Z⟩
theorem jo(f:Nat->Nat):∀(l:List Nat),l≠[]->∃i∈l,∀j∈l,f i≤f j
 | [],h=>absurd Z h
 | [a],_=>⟨a,OJ,λj hj=>by rw[OH] at hj;rw[hj];exact OC _⟩
 |a::b::l,_=>by
  obtain⟨i,hi,m⟩:=jo f (b::l) (by simp);by_cases c:f a≤f i
  ·refine⟨a,OJ,λj hj=>?_⟩;rcases OO.mp hj with z|z
   ·rw[z];exact OC _
   ·exact O7 c (m j z)
  ·refine⟨i,OL _ hi,λj hj=>?_⟩;rcases OO.mp hj with z|z
   ·rw[z];omega
   ·exact m j z
theorem eT:i∈eV ws l↔i∈l/\∀j∈l,aT ws i≤aT ws j:=by
 unfold eV;rw[OU,QV];exact and_congr_right λ_=>forall_congr' λj=>forall_congr' λ_=>decide_eq_true_iff
theorem iy.rank{es:List Ln}{ps:Nat->Nat}(h:∀a b,(a,b)∈es->ps a<ps b)(r:iy es a b):ps a<ps b:=by
 induction r with
 |one m=>exact h _ _ m
 |step m _ ih=>exact WI (h _ _ m) ih
theorem Du(rk:oE n es)(h:l≠[]):gU ws es l≠[]:=by
 obtain⟨ps,_,hp⟩:=rk;obtain⟨i,hi,m⟩:=jo (aT ws) l h;have hl:eV ws l≠[]:=λz=>by
  have:=eT.mpr ⟨hi,m⟩;rw[z] at this;cases this
 obtain⟨j,hj,q⟩:=jo ps _ hl;intro z;have:j∈gU ws es l:=by
  unfold gU;rw[OU];refine⟨hj,?_⟩;rw[RQ,S6];intro b hb c;have:=iy.rank hp (hU.mp c);have:=q b hb;omega
 rw[z] at this;cases this
theorem jj(rk:oE n es)(h:l≠[]):(gU ws es l)[0]?=some (fJ ws es l):=by
 have:=Du (ws:=ws) rk h;unfold fJ
 cases e:gU ws es l with
 |nil=>exact absurd e this
 |cons a r=>rfl
theorem ji(rk:oE n es)(h:l≠[]):fJ ws es l∈l:=by
 have a:=OM (jj (ws:=ws) rk h);exact(eT.mp (OU.mp a).1).1
theorem ui(n:Nat)(c:List Nat):(b9 n c).Nodup:=Qg _ R3
theorem c9:i∈b9 n c↔i<n/\i∉c:=by
 unfold b9;rw[OU,ON,RQ,Tz,decide_eq_false_iff_not]
theorem vz(n:Nat)(c:List Nat)(x:Nat):b9 n (c++[x])=(b9 n c).filter λi=>decide (i≠x):=by
 unfold b9;rw[Wl];refine WR λi _=>?_
 rw[QK,O2,RQ,RQ,Tz,Tz,decide_eq_false_iff_not,decide_eq_false_iff_not,decide_eq_true_iff,Pn,OH];exact⟨λh=>⟨λz=>h (.inr z),λz=>h (.inl z)⟩,λh z=>z.elim h.2 h.1⟩
theorem rq:∀{l:List Nat} {j x:Nat},l.Nodup->l[j]?=some x->l.eraseIdx j=l.filter (λi=>decide (i≠x))/\(l.eraseIdx j).length+1=l.length
 | [],j,x,_,h=>by simp at h
 |a::l,0,x,nd,h=>by
  have e:a=x:=by simpa using h
  subst e;obtain⟨n1,n2⟩:=PZ.mp nd;refine⟨?_,Z⟩;have e1:(a::l).filter (λi=>decide (i≠a))=l.filter (λi=>decide (i≠a)):=R1 (by simp);have e2:l.filter (λi=>decide (i≠a))=l:=Q1.mpr λi hi=>decide_eq_true λz=>n1 (by rw[←z];exact hi)
  rw[e1,e2];rfl
 |a::l,j+1,x,nd,h=>by
  obtain⟨n1,n2⟩:=PZ.mp nd;have h':l[j]?=some x:=by simpa using h
  obtain⟨e1,e2⟩:=rq n2 h';have ne:a≠x:=λz=>n1 (by rw[z];exact OM h')
  have e3:(a::l).filter (λi=>decide (i≠x))=a::l.filter (λi=>decide (i≠x)):=R0 (decide_eq_true ne);rw[UV,e3,←e1];refine⟨Z,?_⟩;rw[Pu,Pu,e2]
theorem A7{l:List Nat}{j x:Nat}(nd:l.Nodup)(h:l[j]?=some x):∀m,m<j->l[m]?≠some x:=λm hm e=>by
 obtain⟨h1,e1⟩:=OV.mp e;obtain⟨h2,e2⟩:=OV.mp h;exact P5.mp nd m j h1 h2 hm (e1.trans e2.symm)
structure t0(ws:List Wk)(es:List Ln)(k:Nat):Prop where
 len:(aH ws es k).length=k
 lt:∀i∈aH ws es k,i<ws.length
 wl:(b9 ws.length (aH ws es k)).length+k=ws.length
theorem Ao(ws:List Wk)(es:List Ln):t0 ws es 0:=by
 refine⟨Z,λi hi=>absurd (show i∈([]:List Nat) from hi) (by simp),?_⟩;show(b9 ws.length []).length+0=_;unfold b9;have e:(OB ws.length).filter (λi=>!([]:List Nat).contains i)=OB ws.length:=Q1.mpr λi _=>Z
 rw[e,Pi];rfl
theorem t0.ne(h:t0 ws es k)(hk:k<ws.length):b9 ws.length (aH ws es k)≠[]:=λz=>by
 have:=h.wl;rw[z] at this;have e:0+k=ws.length:=this;omega
theorem t0.step(h:t0 ws es k)(rk:oE ws.length es)(hk:k<ws.length):t0 ws es (k+1)/\∃j:Nat,(b9 ws.length (aH ws es k))[j]?=some (fJ ws es (b9 ws.length (aH ws es k)))/\(b9 ws.length (aH ws es k)).eraseIdx j=b9 ws.length (aH ws es (k+1)):=by
 have m:=ji (ws:=ws) rk (h.ne hk);obtain⟨j,hj⟩:=VG m;obtain⟨e1,e2⟩:=rq (ui _ _) hj;have e3:(b9 ws.length (aH ws es k)).eraseIdx j=b9 ws.length (aH ws es (k+1)):=by
  rw[e1];exact(vz _ _ _).symm
 refine⟨⟨?_,λi hi=>?_,?_⟩,j,hj,e3⟩
 ·show(aH ws es k++[_]).length=k+1;rw[Pk,h.len];rfl
 ·rcases Pn.mp (show i∈aH ws es k++[_] from hi) with z|z
  ·exact h.lt i z
  ·rw[OH.mp z];exact(c9.mp m).1
 ·rw[←e3];have:=h.wl;omega
theorem dg{ws:List Wk}{es:List Ln}(rk:oE ws.length es):∀k,k≤ws.length->t0 ws es k
 |0,_=>Ao ws es
 |k+1,h=>((dg rk k (Nat.le_of_succ_le h)).step rk h).1
def NL(es:List Ln)(w:Nat)(fd:List Nat)(i:Nat):Bool:=decide ((es.getD i (0,0)).2=w)&&!fd.contains (es.getD i (0,0)).1
def Op(es:List Ln)(w:Nat)(fd:List Nat):List Nat:=(OB es.length).filter (NL es w fd)
def KM(es:List Ln)(is:List Nat):List Nat:=is.map λi=>(es.getD i (0,0)).1
structure Ob(es:List Ln)(w n:Nat)(is:List Nat):Prop where
 nd:is.Nodup
 lt:∀i∈is,i<es.length
 sound:∀x∈KM es is,iy es x w
 base:∀a,(a,w)∈es->a∈KM es is
 done:∀j x,j<n->(KM es is)[j]?=some x->∀a,(a,x)∈es->a∈KM es is
structure dU(r:R):Prop where
 bq:Bq 25882466482949286179863278649307923433294195500903155828261708777083304197655675043413266388030659964209410754393653789328972760953294720473500143200427572835208147172761078519773593353785008074840607407759949824000000000000000000000000 256 r
 nn:0≤r.1
theorem dU.wf(h:dU r):Wf 800 r:=h.bq.wf (by decide) (by decide) (by decide)
theorem dU.red(h:dU r):fY r:=h.bq.red
theorem vh:dU (0,1):=⟨DM.mono (Qi _) (by decide),UA _⟩
theorem gw(h:0<r.2):0≤val r↔0≤r.1:=by
 have zz:val ((0,1):R)=0:=(f6 (r:=(0,1)) (by decide)).mpr Z;rw[←zz,←iX (r:=r) (q:=(0,1)) h (by decide),rc];show 0*r.2≤r.1*1↔_;omega
theorem pS{r:R}(hp:0<r.2)(hn:0≤r.1):r.1.natAbs≤N*r.2.natAbs↔val r≤(N:Rat):=by
 have e:val (((N:Nat):Int),1)=(N:Rat):=by
  show(((N:Nat):Int):Rat)/((1:Int):Rat)=_;rw[show((1:Int):Rat)=1 from Z];have:(((N:Nat):Int):Rat)=(N:Rat):=Z;rw[this];grind
 rw[←e,←iX (r:=(((N:Nat):Int),1)) (q:=r) (by show(0:Int)<1;decide) hp,rc];show _↔r.1*1≤(N:Int)*r.2;have h1:((r.1.natAbs:Nat):Int)=r.1:=by omega
 have h2:((r.2.natAbs:Nat):Int)=r.2:=by omega
 rw[←Int.ofNat_le,TF,h1,h2,Xg]
def dh(a b:R):R:=if cD b a=true then b else a
theorem iT(ha:dU a)(hb:dU b):dU (dh a b):=by
 unfold dh
 split
 ·exact hb
 ·exact ha
theorem tz(ha:dU a)(hb:dU b):val (dh a b)≤val a/\val (dh a b)≤val b:=by
 unfold dh
 cases c:cD b a with
 |true=>
  rw[if_pos Z];have:=(iY hb.bq.pos ha.bq.pos).mp c;exact⟨Qu this,P3⟩
 |false=>
  rw[if_neg O1];exact⟨P3,(iX hb.bq.pos ha.bq.pos).mp c⟩
theorem lC(hx:dU x)(ha:dU a)(h:val a≤val x):dU (aY x a):=by
 have b:=Bq.minus (by decide) hx.bq ha.bq;have ev:val (aY x a)=val x-val a:=eD hx.bq.pos ha.bq.pos;have na:=(gw ha.bq.pos).mpr ha.nn;have nn:0≤(aY x a).1:=(gw b.pos).mp (by rw[ev];grind);refine⟨⟨b.pos,b.cop,b.dvd,(pS b.pos nn).mpr ?_⟩,nn⟩;have:=(pS hx.bq.pos hx.nn).mp hx.bq.le;rw[ev];grind
abbrev Pc:=Nat×R
abbrev rT:=List R×R×List Pc
def bP(ws:List Wk)(t:Nat)(st:rT)(i:Nat):rT:=
 if fk (ws.getD i bL) t=true/\dh (st.1.getD i (0,1)) st.2.1≠(0,1) then(st.1.set i (aY (st.1.getD i (0,1)) (dh (st.1.getD i (0,1)) st.2.1)),aY st.2.1 (dh (st.1.getD i (0,1)) st.2.1),st.2.2++[(i,dh (st.1.getD i (0,1)) st.2.1)]) else st
def dr(ws:List Wk)(ord:List Nat)(t:Nat)(lf:List R)(sp:R):rT:=ord.foldl (bP ws t) (lf,sp,[])
def aO(ws:List Wk)(ord:List Nat)(ss:List R):Nat->List R×List (List Pc)
 |0=>(ws.map λw=>w.2.2,[])
 |t+1=>((dr ws ord t (aO ws ord ss t).1 (ss.getD t (0,1))).1,(aO ws ord ss t).2++[(dr ws ord t (aO ws ord ss t).1 (ss.getD t (0,1))).2.2])
structure vx(n:Nat)(st:rT):Prop where
 len:st.1.length=n
 lf:∀r∈st.1,dU r
 rm:dU st.2.1
 pc:∀p∈st.2.2,p.1<n/\dU p.2
theorem cv{n:Nat}{l:List R}(h:∀r∈l,dU r)(i:Nat):dU (l.getD i (0,1)):=by
 rw[OF]
 cases e:l[i]? with
 |none=>exact vh
 |some r=>exact h r (OM e)
theorem vx.step{st:rT}(h:vx n st)(hi:i<n):vx n (bP ws t st i)/\(bP ws t st i).2.2.length≤st.2.2.length+1:=by
 unfold bP
 split
 ·have a:=cv (n:=n) h.lf i;have le:=tz a h.rm;have la:=iT a h.rm;refine⟨⟨by rw[QM];exact h.len,λr hr=>?_,lC h.rm la le.2,λp hp=>?_⟩,by rw[Pk];exact OC _⟩
  ·rcases Q5 hr with z|z
   ·exact h.lf r z
   ·rw[z];exact lC a la le.1
  ·rcases Pn.mp hp with z|z
   ·exact h.pc p z
   ·rw[OH.mp z];exact⟨hi,la⟩
 ·exact⟨h,Q3 _⟩
theorem vx.fold{ws:List Wk}{n t:Nat}:∀{ord:List Nat} {st:rT},vx n st->(∀i∈ord,i<n)->vx n (ord.foldl (bP ws t) st)/\(ord.foldl (bP ws t) st).2.2.length≤st.2.2.length+ord.length
 | [],st,h,_=>⟨h,OC _⟩
 |i::ord,st,h,hl=>by
  obtain⟨h1,l1⟩:=h.step (ws:=ws) (t:=t) (hl i OJ);obtain⟨h2,l2⟩:=h1.fold (ws:=ws) (t:=t) (ord:=ord) λj hj=>hl j (OL _ hj)
  refine⟨h2,?_⟩;rw[PR,Pu];omega
structure NW(n m:Nat)(p:List R×List (List Pc)):Prop where
 len:p.1.length=n
 lf:∀r∈p.1,dU r
 pc:∀q∈p.2,q.length≤m/\∀x∈q,x.1<n/\dU x.2
theorem eN{ws:List Wk}{ord:List Nat}{ss:List R}(okw:∀w∈ws,bz w)(ho:∀i∈ord,i<ws.length)(hs:∀r∈ss,dU r):∀t,NW ws.length ord.length (aO ws ord ss t)/\(aO ws ord ss t).2.length=t
 |0=>by
  refine⟨⟨OD _,λr hr=>?_,λq hq=>by cases hq⟩,Z⟩;obtain⟨w,hw,rfl⟩:=OP.mp hr;have a:=(okw w hw).am;exact⟨(rN a).mono ⟨5354228880,by decide⟩ (by decide),by have:=a.top;omega⟩
 |t+1=>by
  obtain⟨h,hl⟩:=eN okw ho hs t;obtain⟨d,dl⟩:=vx.fold (ws:=ws) (t:=t) (ord:=ord) (st:=((aO ws ord ss t).1,ss.getD t (0,1),[])) ⟨h.len,h.lf,cv (n:=0) hs t,λp hp=>by cases hp⟩ ho;refine⟨⟨d.len,d.lf,λq hq=>?_⟩,?_⟩
  ·rcases Pn.mp (show q∈(aO ws ord ss t).2++[_] from hq) with z|z
   ·exact h.pc q z
   ·rw[OH.mp z];refine⟨?_,d.pc⟩;have:(dr ws ord t (aO ws ord ss t).1 (ss.getD t (0,1))).2.2.length≤0+ord.length:=dl;omega
  ·show((aO ws ord ss t).2++[_]).length=t+1;rw[Pk,hl];rfl
def mz(lf:List R):Option Nat:=(OB lf.length).find? λi=>decide (lf.getD i (0,1)≠(0,1))
theorem wE(hi:i<lf.length)(h:lf.getD i (0,1)≠(0,1))(b:∀j,j<i->lf.getD j (0,1)=(0,1)):mz lf=some i:=by
 unfold mz;rw[UH];exact⟨decide_eq_true h,ON.mpr hi,λj hj=>by rw[decide_eq_false (λz=>z (b j hj))];rfl⟩
theorem wF(b:∀j,j<lf.length->lf.getD j (0,1)=(0,1)):mz lf=none:=by
 unfold mz;rw[Uo];intro j hj z;exact(of_decide_eq_true z) (b j (ON.mp hj))
noncomputable def cX (ws:List Wk) (es:List Ln) (ss:List R):List R×List (List Pc):=aO ws (aH ws es ws.length) ss 24
def BC(K:Oz)(H:Hp)(v:V)(c:Pc):Prop:=∃p x,v=.ref p/\bu K H p [.int (c.1:Nat),x]/\RV K H x c.2
theorem BC.mono{K:Oz}{H H':Hp}{v:V}{c:Pc}(h:BC K H v c)(t:aM K H H'):BC K H' v c:=let ⟨p,x,e,s,r⟩:=h;⟨p,x,e,t _ _ s,r.mono t⟩
def qc(K:Oz)(H:Hp)(v:V)(q:List Pc):Prop:=∃p xs,v=.ref p/\bu K H p xs/\cG (BC K H) xs q
theorem qc.mono{K:Oz}{H H':Hp}{v:V}{q:List Pc}(h:qc K H v q)(t:aM K H H'):qc K H' v q:=let ⟨p,x,e,s,r⟩:=h;⟨p,x,e,t _ _ s,r.mono λ_ _ z=>z.mono t⟩
def LH(c:Pc):PyData:=.tuple [.int (c.1:Nat),dR c.2]
def J6(q:List Pc):PyData:=.tuple (q.map LH)
def J7(ps:List (List Pc)):PyData:=.tuple (ps.map J6)
theorem BC.deep{K:Oz}{H:Hp}{v:V}{c:Pc}(h:BC K H v c):bv K H v (LH c):=by
 obtain⟨p,x,rfl,hS,hx⟩:=h;exact .tup hS (.cons (.int _) (.cons hx.deep .nil))
theorem qc.deep{K:Oz}{H:Hp}{v:V}{q:List Pc}(h:qc K H v q):bv K H v (J6 q):=by
 obtain⟨p,xs,rfl,hS,al⟩:=h;exact .tup hS (al.deep λ_ _ z=>z.deep)
noncomputable def No (ws:List Wk) (es:List Ln) (ss:List R):PyData:=match mz (cX ws es ss).1 with
 |some i=>.int (i:Nat)
 |none=>J7 (cX ws es ss).2
def KP(K:Oz)(H:Hp)(v:V)(rs:List R):Prop:=∃p xs,v=.ref p/\bu K H p xs/\cG (RV K H) xs rs
theorem KP.deep{K:Oz}{H:Hp}{v:V}{rs:List R}(h:KP K H v rs):bv K H v (.tuple (rs.map dR)):=by
 obtain⟨p,xs,rfl,hS,al⟩:=h;exact .tup hS (al.deep λ_ _ z=>z.deep)
structure Ij(N:Nat)(r:R):Prop where
 bq:Bq 25882466482949286179863278649307923433294195500903155828261708777083304197655675043413266388030659964209410754393653789328972760953294720473500143200427572835208147172761078519773593353785008074840607407759949824000000000000000000000000 N r
 nn:0≤r.1
theorem Ij.am(h:Ij N r)(hN:N≤256):dU r:=⟨h.bq.mono (Qi _) hN,h.nn⟩
theorem EX(ok:∀w∈ws,bz w)(hw:ws.length≤20)(lok:ka ws.length y):Ij 240 (cY ws y):=by
 have b:=Cp ok hw lok;refine⟨b.mono (HN _ (by have:=lok.few;omega) lok.pos) (OC _),?_⟩;have nn:0≤(f8 (gZ ws y)).1:=by
  have go:∀(l:List R) (a:R),fY a->0≤a.1->(∀r∈l,Ii r)->0≤(l.foldl bY a).1:=by
   intro l
   induction l with
   |nil=>intro a _ na _;exact na
   |cons r l ih=>
    intro a ra na hl;have h:=hl r OJ;have hr:fY r:=⟨by have:=h.bot;omega,h.wf.cop⟩;exact ih (bY a r) (hJ (Qf ra.pos hr.pos)) (CJ ra hr na (by have:=h.top;omega)) λq hq=>hl q (OL _ hq)
  refine go _ (0,1) ⟨by decide,by decide⟩ (by decide) λr hr=>?_
  obtain⟨i,hi,rfl⟩:=OP.mp hr;have hl:=lok.num i hi;rw[az bL (OA hl)];exact(ok _ (O6 hl)).am
 show 0≤(fc ((f8 (gZ ws y)).1*1) _).1;exact AH (by omega)
theorem yf{ws:List Wk}(ok:∀w∈ws,bz w)(hw:ws.length≤20):∀{lys:List Ly} {ss:List R},(∀y∈lys,ka ws.length y)->(∀r∈ss,Ij 240 r)->∀r∈lys.foldl (λss y=>ig (cY ws y) ss y.1) ss,Ij 240 r
 | [],ss,_,h=>h
 |y::lys,ss,hl,h=>by
  refine yf (lys:=lys) ok hw (λz hz=>hl z (OL _ hz)) ?_;have sp:=EX ok hw (hl y OJ);have go:∀(ts:List Nat) (ss:List R),(∀r∈ss,Ij 240 r)->∀r∈ig (cY ws y) ss ts,Ij 240 r:=by
   intro ts
   induction ts with
   |nil=>intro ss h;exact h
   |cons t ts ih=>
    intro ss h;refine ih (ss.set t (cY ws y)) λr hr=>?_
    rcases Q5 hr with z|z
    ·exact h r z
    ·rw[z];exact sp
  exact go y.1 ss h
def vI(K:Oz):Sp:=λvs H Q _=>∃(v w:V) (r q:R),vs=[v,w]/\RV K H v r/\RV K H w q/\dU r/\dU q/\∀u,RV K H u (dh r q)->Q u H
structure LZ(K:Oz)(H:Hp)(v u:V)(ws:List Wk)(es:List Ln):Prop where
 wv:gj K H v ws
 w8:ws.length≤20
 ok:∀w∈ws,bz w
 lv:xy K H u es
 eok:ub ws.length es
 rk:oE ws.length es
 e8:es.length≤20
def jK(K:Oz):Sp:=λvs H Q _=>∃(v:V) (l wl:Addr) (ws:List Wk) (es:List Ln) (rows:List Addr) (L:Nat->Nat->Bool) (ls:List Nat),vs=[v,.ref l,.ref wl]/\gj K H v ws/\ws.length≤20/\BN H l rows ws.length L/\KW ws.length es L/\aS K H wl (bt ls)/\(∀i∈ls,i<ws.length)/\ls≠[]/\ls.length≤20/\oE ws.length es/\∀H',aE H H'->Q (.int (fJ ws es ls:Nat)) H'
def qw(K:Oz):Sp:=λvs H Q _=>∃(v u:V) (ws:List Wk) (es:List Ln),vs=[v,u]/\LZ K H v u ws es/\∀(l:Addr) (H':Hp),aE H H'->H l=none->H' l=some (.lst (bt (aH ws es ws.length)))->Q (.ref l) H'
def oW(K:Oz):Sp:=λvs H Q _=>∃(v u:V) (o lf:Addr) (ws:List Wk) (ord:List Nat) (xs:List V) (rs:List R) (t:Nat) (sp:R),vs=[v,.ref o,.ref lf,.int (t:Nat),u]/\gj K H v ws/\H o=some (.lst (bt ord))/\H lf=some (.lst xs)/\o≠lf/\cG (RV K H) xs rs/\rs.length=ws.length/\(∀r∈rs,dU r)/\RV K H u sp/\dU sp/\(∀i∈ord,i<ws.length)/\ord.length≤20∧
 ∀(w:V) (ys:List V) (H':Hp),d7 lf H H'->H' lf=some (.lst ys)->cG (RV K H') ys (dr ws ord t rs sp).1->qc K H' w (dr ws ord t rs sp).2.2->Q w H'
def yl(K:Oz):Sp:=λvs H Q _=>∃(v u s:V) (ws:List Wk) (es:List Ln) (ss:List R),vs=[v,u,s]/\LZ K H v u ws es/\KP K H s ss/\ss.length=24/\(∀r∈ss,dU r)/\mz (cX ws es ss).1=none/\∀(w:V) (H':Hp),aE H H'->bv K H' w (J7 (cX ws es ss).2)->Q w H'
def B7(K:Oz)(C:Addr):Sp:=λvs H Q _=>∃(x dd:Addr) (fs:List (Pf×V)),vs=[.ref x]/\H x=some (J1 x C dd)/\H dd=some (dO dd fs)/\∀(l:Addr) (H':Hp),aE H H'->H' l=some (.lst [.bl true,.bl true,.bl true,.bl false])->Q (.ref l) H'
def b8(b:Bool)(x:Rat):Rat:=if b=true then x else 0
theorem de(x:Rat):b8 true x=x:=Z
theorem bZ(x:Rat):b8 false x=0:=Z
def sQ{α:Type}(f:α->Rat):List α->Rat
 | []=>0
 |x::l=>f x+sQ f l
theorem io{α:Type}{f g:α->Rat}:∀{l:List α},(∀x∈l,f x≤g x)->sQ f l≤sQ g l
 | [],_=>P3
 |x::l,h=>by
  have a:=h x OJ;have b:=io (l:=l) λy hy=>h y (OL _ hy)
  show f x+sQ f l≤g x+sQ g l;grind
theorem aK{α:Type}{f g:α->Rat}:∀{l:List α},(∀x∈l,f x=g x)->sQ f l=sQ g l
 | [],_=>rfl
 |x::l,h=>by
  show f x+sQ f l=g x+sQ g l;rw[h x OJ,aK λy hy=>h y (OL _ hy)]
theorem eZ{α:Type}{f g:α->Rat}:∀l:List α,sQ (λx=>f x+g x) l=sQ f l+sQ g l
 | []=>by show(0:Rat)=0+0;grind
 |x::l=>by
  show f x+g x+sQ (λx=>f x+g x) l=(f x+sQ f l)+(g x+sQ g l);rw[eZ l];grind
theorem dB{α:Type}(c:Rat){f:α->Rat}:∀l:List α,sQ (λx=>c*f x) l=c*sQ f l
 | []=>by show(0:Rat)=c*0;grind
 |x::l=>by
  show c*f x+sQ (λx=>c*f x) l=c*(f x+sQ f l);rw[dB c l];grind
theorem eY{α:Type}{f:α->Rat}:∀a b:List α,sQ f (a++b)=sQ f a+sQ f b
 | [],b=>by show sQ f b=0+sQ f b;grind
 |x::a,b=>by
  show f x+sQ f (a++b)=(f x+sQ f a)+sQ f b;rw[eY a b];grind
theorem gf{α:Type}{f:α->Rat}(c:α->Bool):∀l:List α,sQ f (l.filter c)=sQ (λx=>b8 (c x) (f x)) l
 | []=>rfl
 |x::l=>by
  have ih:=gf (f:=f) c l
  cases e:c x with
  |true=>
   rw[R0 e];show f x+sQ f (l.filter c)=b8 (c x) (f x)+sQ _ l;rw[ih,e];rfl
  |false=>
   rw[R1 (by rw[e];simp)];show sQ f (l.filter c)=b8 (c x) (f x)+sQ _ l;rw[ih,e,bZ];grind
theorem iP{α β:Type}{f:β->Rat}(m:α->β):∀l:List α,sQ f (l.map m)=sQ (λx=>f (m x)) l
 | []=>rfl
 |x::l=>by
  show f (m x)+sQ f (l.map m)=f (m x)+sQ _ l;rw[iP m l]
theorem lX{f:α->Rat}{l:List α}(h:∀x∈l,0≤f x):0≤sQ f l:=by
 have:=io (f:=λ_:α=>(0:Rat)) (g:=f) (l:=l) h;have z:∀l:List α,sQ (λ_:α=>(0:Rat)) l=0:=λl=>by
  induction l with
  |nil=>rfl
  |cons x l ih=>show(0:Rat)+_=0;rw[ih];grind
 rw[z] at this;exact this
theorem i9(d:α)(l:List α):sQ f l=sQ (λi=>f (l.getD i d)) (OB l.length):=by
 have e:=dZ (β:=α) d id l;have e':(OB l.length).filter (λ_=>true)=OB l.length:=by simp
 rw[e',Xm] at e;have:=iP (f:=f) (λi=>id (l.getD i d)) (OB l.length);rw[e] at this;exact this
def BL(P:Nat->Bool):Rat:=sQ (λt=>b8 (P t) 1) (OB 24)
theorem fe(b:Bool)(h:0≤x):0≤b8 b x:=by cases b with|true=>exact h|false=>exact P3
theorem wZ(h:∀t,t<24->P t=Q t):BL P=BL Q:=aK λt ht=>by rw[h t (ON.mp ht)]
theorem sM{P:Nat->Bool}{x:Nat}:∀d,(∀i,x≤i->i<x+d->P i=true)->sQ (λt=>b8 (P t) 1) (OB (x+d))=sQ (λt=>b8 (P t) 1) (OB x)+(d:Rat)
 |0,_=>by show sQ _ (OB x)=sQ _ (OB x)+((0:Nat):Rat);rw[show((0:Nat):Rat)=0 from Z];grind
 |d+1,h=>by
  have ih:=sM (P:=P) (x:=x) d λi a b=>h i a (by omega)
  rw[←Yc,P4,eY,ih];show _+(b8 (P (x+d)) 1+0)=_;rw[h (x+d) (by omega) (by omega),de,show((d+1:Nat):Rat)=(d:Rat)+1 from Rat.natCast_add d 1];grind
theorem pz{P:Nat->Bool}{x:Nat}:∀d,(∀i,x≤i->i<x+d->P i=false)->sQ (λt=>b8 (P t) 1) (OB (x+d))=sQ (λt=>b8 (P t) 1) (OB x)
 |0,_=>rfl
 |d+1,h=>by
  have ih:=pz (P:=P) (x:=x) d λi a b=>h i a (by omega)
  rw[←Yc,P4,eY,ih];show _+(b8 (P (x+d)) 1+0)=_;rw[h (x+d) (by omega) (by omega),bZ];grind
theorem lY(P:Nat->Bool):∀k,∃x,x≤k/\(∀i,x≤i->i<k->P i=true)/\(x=0∨P (x-1)=false)
 |0=>⟨0,OC _,λi a b=>by omega,.inl Z⟩
 |k+1=>by
  cases c:P k with
  |false=>exact⟨k+1,OC _,λi a b=>by omega,.inr c⟩
  |true=>
   obtain⟨x,h1,h2,h3⟩:=lY P k;refine⟨x,by omega,λi a b=>?_,h3⟩;by_cases z:i=k
   ·rw[z];exact c
   ·exact h2 i a (by omega)
def gF(A:Nat->Bool)(w:Wk):Bool:=(OB 24).all λt=>!fk w t||A t
theorem dY:gF A w=true↔∀t,t<24->fk w t=true->A t=true:=by
 unfold gF;rw[QV];constructor
 ·intro h t ht e;have:=h t (ON.mpr ht);rw[e] at this
  simpa using this
 ·intro h t ht
  cases e:fk w t with
  |false=>rfl
  |true=>rw[h t (ON.mp ht) e];rfl
theorem gi(h:∀t,t<24->A t=true->A' t=true)(q:gF A w=true):gF A' w=true:=dY.mpr λt ht e=>h t ht (dY.mp q t ht e)
def kT(w:Wk):Rat:=val w.2.2
def FM(ws:List Wk)(A:Nat->Bool):Rat:=sQ (λw=>b8 (gF A w) (kT w)) ws
theorem tU(h:bz w):0<kT w:=by
 have a:=h.am;show 0<val w.2.2;unfold val;have h1:(0:Rat)<(w.2.2.1:Rat):=P1.mpr (show(0:Int)<w.2.2.1 by have:=a.top;omega);have h2:(0:Rat)<(w.2.2.2:Rat):=P1.mpr (show(0:Int)<w.2.2.2 by have:=a.bot;omega);generalize (w.2.2.1:Rat)=x at *;generalize (w.2.2.2:Rat)=y at *;exact(Rat.lt_div_iff h2).mpr (by grind)
theorem rM{ws:List Wk}(ok:∀w∈ws,bz w):∀w∈ws,0≤kT w:=λw hw=>Qu (tU (ok w hw))
theorem tG(hx:0≤x)(h:b=true->c=true):b8 b x≤b8 c x:=by
 cases b with
 |false=>exact fe c hx
 |true=>rw[h Z];exact P3
theorem DW(nn:∀w∈ws,0≤kT w)(h:∀t,t<24->A t=true->A' t=true):FM ws A≤FM ws A':=io λw hw=>tG (nn w hw) (gi h)
theorem BF(nn:∀w∈ws,0≤kT w)(A B:Nat->Bool):FM ws A+FM ws B≤FM ws (λt=>A t||B t)+FM ws (λt=>A t&&B t):=by
 unfold FM;rw[←eZ,←eZ];refine io λw hw=>?_
 have x:=nn w hw;have o1:gF A w=true->gF (λt=>A t||B t) w=true:=gi λt _ e=>by rw[e];rfl
 have o2:gF B w=true->gF (λt=>A t||B t) w=true:=gi λt _ e=>by rw[e,TW]
 have o3:gF A w=true->gF B w=true->gF (λt=>A t&&B t) w=true:=λa b=>dY.mpr λt ht e=>by rw[dY.mp a t ht e,dY.mp b t ht e];rfl
 have n3:=fe (gF (λt=>A t&&B t) w) x
 cases a:gF A w with
 |true=>
  cases b:gF B w with
  |true=>rw[o1 a,o3 a b];exact P3
  |false=>rw[o1 a,de,bZ];grind
 |false=>
  cases b:gF B w with
  |true=>rw[o2 b,de,bZ];grind
  |false=>
   have n4:=fe (gF (λt=>A t||B t) w) x;rw[bZ];grind
theorem jC:(bF ((OB 24).filter q) w).isSome=!gF (λt=>!q t) w:=by
 rw[QK,fE];constructor
 ·rintro⟨t,ht,e⟩;obtain⟨h1,h2⟩:=OU.mp ht
  cases c:gF (λt=>!q t) w with
  |false=>rfl
  |true=>
   have:=dY.mp c t (ON.mp h1) e;rw[h2] at this
   cases this
 ·intro h;apply Qw;intro n;have:gF (λt=>!q t) w=true:=dY.mpr λt ht e=>by
   cases c:q t with
   |false=>rfl
   |true=>exact absurd ⟨t,OU.mpr ⟨ON.mpr ht,c⟩,e⟩ n
  rw[this] at h
  cases h
def dG(ls:List Nat)(p:Pl)(w:Wk):Bool:=gA p.1 p.2 (bF ls w)
def SM(ws:List Wk)(ls:List Nat)(p:Pl):Rat:=sQ (λw=>b8 (dG ls p w) (kT w)) ws
theorem uY(ws:List Wk)(ls:List Nat)(p:Pl):cu (ws.map (bF ls)) p=(OB ws.length).filter λi=>dG ls p (ws.getD i bL):=by
 unfold cu dG;rw[OD];refine WR λi hi=>?_
 have hl:=ON.mp hi;have h:=OA hl;rw[az bL h,az none (show(ws.map (bF ls))[i]?=some (bF ls ws[i]) by rw[OQ,h];rfl)]
theorem Bu(ws:List Wk)(ls:List Nat)(p:Pl):gZ ws (gs ws ls p)=(ws.filter (dG ls p)).map λw=>w.2.2:=by
 unfold gZ gs;rw[uY];exact eX bL (dG ls p) (λw:Wk=>w.2.2) ws
theorem oI:∀rs:List R,iB rs=sQ val rs
 | []=>rfl
 |r::rs=>by
  show val r+iB rs=val r+sQ val rs;rw[oI rs]
theorem BT(ws:List Wk)(ls:List Nat)(p:Pl):iB (gZ ws (gs ws ls p))=SM ws ls p:=by
 rw[Bu,oI,iP];exact gf _ ws
theorem xL(h:bz w):((w.2.2.1*4834023173650597876544881407704768017555162023798869768948261467874213139288822304401239266415271355416806678311752296500438875701050478901734985823099062742197929195130163826648664551259341770021719244800000000000000000000000/w.2.2.2:Int):Rat)=4834023173650597876544881407704768017555162023798869768948261467874213139288822304401239266415271355416806678311752296500438875701050478901734985823099062742197929195130163826648664551259341770021719244800000000000000000000000*kT w:=by
 obtain⟨n,hn⟩:=h.am.dvd;have b:=h.am.bot;have e:w.2.2.1*4834023173650597876544881407704768017555162023798869768948261467874213139288822304401239266415271355416806678311752296500438875701050478901734985823099062742197929195130163826648664551259341770021719244800000000000000000000000/w.2.2.2=w.2.2.1*n:=by
  rw[hn,Tb];exact Pa _ (by omega)
 have e2:(4834023173650597876544881407704768017555162023798869768948261467874213139288822304401239266415271355416806678311752296500438875701050478901734985823099062742197929195130163826648664551259341770021719244800000000000000000000000:Rat)=(w.2.2.2:Rat)*(n:Rat):=by
  rw[←PJ,←hn];rfl
 have nz:(w.2.2.2:Rat)≠0:=cI (by omega);rw[e,PJ,e2];show _=_*val w.2.2;unfold val;generalize (w.2.2.1:Rat)=x at *;generalize (w.2.2.2:Rat)=y at *;generalize (n:Rat)=z at *;grind
theorem qq:∀l:List Int,((l.sum:Int):Rat)=sQ (λx:Int=>(x:Rat)) l
 | []=>rfl
 |x::l=>by
  rw[SS,TH,qq l];rfl
theorem pQ(ok:∀w∈ws,bz w)(ls:List Nat)(p:Pl):((dA (ws.map (bF ls)) (g4 (ck ws)) p:Int):Rat)=4834023173650597876544881407704768017555162023798869768948261467874213139288822304401239266415271355416806678311752296500438875701050478901734985823099062742197929195130163826648664551259341770021719244800000000000000000000000*SM ws ls p:=by
 unfold dA;have e:(cu (ws.map (bF ls)) p).map (g4 (ck ws))=(ws.filter (dG ls p)).map λw=>w.2.2.1*4834023173650597876544881407704768017555162023798869768948261467874213139288822304401239266415271355416806678311752296500438875701050478901734985823099062742197929195130163826648664551259341770021719244800000000000000000000000/w.2.2.2:=by
  rw[uY,←eX bL (dG ls p) (λw:Wk=>w.2.2.1*4834023173650597876544881407704768017555162023798869768948261467874213139288822304401239266415271355416806678311752296500438875701050478901734985823099062742197929195130163826648664551259341770021719244800000000000000000000000/w.2.2.2) ws];refine VW λi hi=>?_
  have h:=OA (ON.mp (OU.mp hi).1);rw[az bL h];exact az 0 (by unfold ck;rw[OQ,h];rfl)
 rw[e,qq,iP,gf];unfold SM;rw[←dB];refine aK λw hw=>?_
 rw[xL (ok w hw)]
 cases dG ls p w with
 |true=>rfl
 |false=>show(0:Rat)=4834023173650597876544881407704768017555162023798869768948261467874213139288822304401239266415271355416806678311752296500438875701050478901734985823099062742197929195130163826648664551259341770021719244800000000000000000000000*0;grind
theorem fM(h:ik n p):(0:Rat)<(bO p:Rat):=P1.mpr h.pos
theorem lu(ok:∀w∈ws,bz w)(h:vt ws ls p)(hr:ik ls.length r):SM ws ls r*(bO p:Rat)≤SM ws ls p*(bO r:Rat):=by
 have a:dA (ws.map (bF ls)) (g4 (ck ws)) r*bO p≤dA (ws.map (bF ls)) (g4 (ck ws)) p*bO r:=by
  rcases h.1.all r hr with z | ⟨z,_⟩<;>omega
 have b:=Vn.mpr a;rw[PJ,PJ,pQ ok,pQ ok] at b;generalize SM ws ls r=x at *;generalize SM ws ls p=y at *;generalize (bO p:Rat)=u at *;generalize (bO r:Rat)=v at *;grind
theorem wL(h:dG ls p w=true):(bF ls w).isSome=true:=by
 unfold dG at h
 cases c:bF ls w with
 |none=>rw[c] at h;cases h
 |some x=>rfl
theorem mE(e:bF ls w=some (a,b)):dG ls p w=(decide (p.1≤a)&&decide (b≤p.2)):=by
 unfold dG;rw[e];rfl
def nx(q:Nat->Bool)(p:Pl):Nat->Bool:=λt=>!(dC ((OB 24).filter q) p).contains t&&q t
theorem pC(q:Nat->Bool)(p:Pl):dE ((OB 24).filter q) p=(OB 24).filter (nx q p):=by
 unfold dE nx;rw[Wl]
theorem Ev(q:Nat->Bool):((OB 24).filter q).Nodup:=Qg _ R3
theorem Lo(hp:ik ((OB 24).filter q).length p):FM ws (λt=>!nx q p t)=FM ws (λt=>!q t)+SM ws ((OB 24).filter q) p:=by
 unfold FM SM;rw[←eZ];refine aK λw _=>?_
 have e:=nO (w:=w) (Ev q) hp;rw[pC,jC,jC] at e;have hs:=wL (ls:=(OB 24).filter q) (p:=p) (w:=w);rw[jC] at hs;show b8 (gF _ w) _=b8 (gF _ w) _+b8 (dG _ p w) _;have e':gF (λt=>!nx q p t) w=(gF (λt=>!q t) w||dG ((OB 24).filter q) p w):=by
  have:gA p.1 p.2 (bF ((OB 24).filter q) w)=dG ((OB 24).filter q) p w:=Z;rw[this] at e
  cases a:gF (λt=>!nx q p t) w<;>cases b:gF (λt=>!q t) w<;>cases c:dG ((OB 24).filter q) p w<;>rw[a,b,c] at e<;>first|rfl|cases e
 rw[e']
 cases b:gF (λt=>!q t) w with
 |true=>
  cases c:dG ((OB 24).filter q) p w with
  |true=>rw[b] at hs;cases hs c
  |false=>show kT w=kT w+0;grind
 |false=>
  cases c:dG ((OB 24).filter q) p w with
  |true=>show kT w=0+kT w;grind
  |false=>show(0:Rat)=0+0;grind
theorem Bo(q P:Nat->Bool):BL (λt=>q t&&P t)=sQ (λi=>b8 (P (((OB 24).filter q).getD i 0)) 1) (OB ((OB 24).filter q).length):=by
 rw[←i9 (f:=λt=>b8 (P t) 1) 0 ((OB 24).filter q),gf];refine aK λt _=>?_
 show b8 (q t&&P t) 1=b8 (q t) (b8 (P t) 1)
 cases q t<;>rfl
theorem G2(hp:ik ((OB 24).filter q).length p):BL (λt=>q t&&!nx q p t)=(bO p:Rat):=by
 have e1:BL (λt=>q t&&!nx q p t)=BL (λt=>q t&&(dC ((OB 24).filter q) p).contains t):=wZ λt _=>by
  unfold nx
  cases q t<;>cases(dC ((OB 24).filter q) p).contains t<;>rfl
 rw[e1,Bo];have h1:=hp.1;have h2:=hp.2;have e2:sQ (λi=>b8 ((dC ((OB 24).filter q) p).contains (((OB 24).filter q).getD i 0)) 1) (OB ((OB 24).filter q).length)=sQ (λi=>b8 (decide (p.1≤i)&&decide (i≤p.2)) 1) (OB ((OB 24).filter q).length):=aK λi hi=>by
  have hi':=ON.mp hi;have m:=pP (Ev q) hp hi';rw[az 0 (OA hi')]
  congr 1
  rw[QK,Q8,m,O2,decide_eq_true_iff,decide_eq_true_iff]
 rw[e2];generalize ((OB 24).filter q).length=n at *;obtain⟨d,rfl⟩:∃d,n=(p.2+1)+d:=⟨n-(p.2+1),by omega⟩;rw[pz (x:=p.2+1) d λi a b=>by rw[decide_eq_false (show ¬i≤p.2 by omega),RF]];obtain⟨e,he⟩:∃e,p.2+1=p.1+e:=⟨p.2+1-p.1,by omega⟩;rw[he,sM (x:=p.1) e λi a b=>by rw[decide_eq_true a,decide_eq_true (show i≤p.2 by omega)];rfl];have z:=pz (P:=λi=>decide (p.1≤i)&&decide (i≤p.2)) (x:=0) p.1 λi a b=>by
  show(decide (p.1≤i)&&_)=false;rw[decide_eq_false (show ¬p.1≤i by omega)];rfl
 rw[TZ] at z;rw[z];show(0:Rat)+(e:Rat)=_;have:bO p=(e:Int):=by unfold bO;omega
 rw[this,PU];grind
theorem vO(q:Nat->Bool):((OB 24).filter q).Pairwise (· < ·):=Qg _ Si
theorem CK(e:bF ((OB 24).filter q) w=some (a,b))(h1:a≤i)(h2:i≤b):i∈gh ((OB 24).filter q) w:=by
 obtain⟨m1,m2,_⟩:=g6 e;have srt:=P5.mp (vO q);generalize (OB 24).filter q=ls at *;obtain⟨la,wa⟩:=eO.mp m1;obtain⟨lb,wb⟩:=eO.mp m2;have li:i<ls.length:=by omega
 rw[az 0 (OA la)] at wa;rw[az 0 (OA lb)] at wb;refine eO.mpr ⟨li,?_⟩;rw[az 0 (OA li)];unfold fk at wa wb ⊢;rw[O2,decide_eq_true_iff,decide_eq_true_iff] at wa wb ⊢;have u1:ls[a]≤ls[i]:=by
  by_cases z:a=i
  ·subst z;exact OC _
  ·exact R8 (srt a i la li (by omega))
 have u2:ls[i]≤ls[b]:=by
  by_cases z:i=b
  ·subst z;exact OC _
  ·exact R8 (srt i b li lb (by omega))
 omega
def gB(ls:List Nat)(P:Nat->Bool)(k:Nat)(w:Wk):Bool:=(bF ls w).isSome&&(gh ls w).all λi=>decide (i<k)&&P i
theorem jZ:gB ls P k w=true↔(bF ls w).isSome=true/\∀i∈gh ls w,i<k/\P i=true:=by
 unfold gB;rw[O2,QV];constructor
 ·rintro⟨a,b⟩;refine⟨a,λi hi=>?_⟩;have:=b i hi;rw[O2,decide_eq_true_iff] at this;exact this
 ·rintro⟨a,b⟩;refine⟨a,λi hi=>?_⟩;rw[O2,decide_eq_true_iff];exact b i hi
def GM(ws:List Wk)(ls:List Nat)(P:Nat->Bool)(k:Nat):Rat:=sQ (λw=>b8 (gB ls P k w) (kT w)) ws
theorem Ko(ok:∀w∈ws,bz w)(h:vt ws ((OB 24).filter q) p)(P:Nat->Bool):∀n k,k≤n->k≤((OB 24).filter q).length->GM ws ((OB 24).filter q) P k*(bO p:Rat)≤SM ws ((OB 24).filter q) p*sQ (λi=>b8 (P i) 1) (OB k):=by
 have nn:=rM ok;have lp:=fM h.1.inn;intro n
 induction n with
 |zero=>
  intro k hk _;obtain rfl:k=0:=by omega
  have z:GM ws ((OB 24).filter q) P 0=0:=by
   have le:GM ws ((OB 24).filter q) P 0≤sQ (λ_:Wk=>b8 false 0) ws:=io λw _=>by
    cases c:gB ((OB 24).filter q) P 0 w with
    |false=>exact P3
    |true=>
     obtain⟨a,b⟩:=jZ.mp c;obtain⟨⟨x,y⟩,e⟩:=QH.mp a;have:=(b x (g6 e).1).1;omega
   have z0:∀l:List Wk,sQ (λ_:Wk=>b8 false 0) l=0:=λl=>by
    induction l with
    |nil=>rfl
    |cons x l ih=>show b8 false 0+_=0;rw[ih,bZ];grind
   rw[z0] at le;have ge:0≤GM ws ((OB 24).filter q) P 0:=lX λw hw=>fe _ (nn w hw)
   grind
  rw[z];show(0:Rat)*_≤_*0;grind
 |succ n ih=>
  intro k hk hl;by_cases k0:k≤n
  ·exact ih k k0 hl
  obtain rfl:k=n+1:=by omega
  cases c:P n with
  |false=>
   have e:GM ws ((OB 24).filter q) P (n+1)≤GM ws ((OB 24).filter q) P n:=io λw hw=>tG (nn w hw) λg=>by
    obtain⟨a,b⟩:=jZ.mp g;refine jZ.mpr ⟨a,λi hi=>?_⟩;obtain⟨x,y⟩:=b i hi;refine⟨?_,y⟩;by_cases z:i=n
    ·rw[z,c] at y;cases y
    ·omega
   have e2:=Rb e (Qu lp);have i1:=ih n (OC _) (by omega);rw[P4 (n:=n),eY];show _≤_*(_+(b8 (P n) 1+0));rw[c,bZ];grind
  |true=>
   obtain⟨x,x1,x2,x3⟩:=lY P (n+1);have xn:x≤n:=by
    by_cases z:x=n+1
    ·subst z;rcases x3 with y|y
     ·omega
     ·rw[show n+1-1=n by omega,c] at y;cases y
    ·omega
   have e:GM ws ((OB 24).filter q) P (n+1)≤GM ws ((OB 24).filter q) P x+SM ws ((OB 24).filter q) (x,n):=by
    unfold GM SM;rw[←eZ];refine io λw hw=>?_
    have w0:=nn w hw;have n1:=fe (gB ((OB 24).filter q) P x w) w0;have n2:=fe (dG ((OB 24).filter q) (x,n) w) w0
    cases g:gB ((OB 24).filter q) P (n+1) w with
    |false=>rw[bZ];grind
    |true=>
     obtain⟨a,b⟩:=jZ.mp g;obtain⟨⟨u,v⟩,eu⟩:=QH.mp a;obtain⟨m1,m2,bd⟩:=g6 eu;by_cases z:v<x
     ·have:gB ((OB 24).filter q) P x w=true:=jZ.mpr ⟨a,λi hi=>⟨by have:=bd i hi;omega,(b i hi).2⟩⟩;rw[this,de];grind
     ·have xu:x≤u:=by
       apply Qw;intro nu;have m:=CK eu (i:=x-1) (by omega) (by omega);have y:=(b _ m).2;rcases x3 with y'|y'
       ·omega
       ·rw[y'] at y;cases y
      have vn:=(b v m2).1;have:dG ((OB 24).filter q) (x,n) w=true:=by
       rw[mE eu,O2,decide_eq_true_iff,decide_eq_true_iff];exact⟨xu,by show v≤n;omega⟩
      rw[this,de];grind
   have i1:=ih x xn (by omega);have t1:=lu ok h (r:=(x,n)) ⟨xn,by show n<_;omega⟩;obtain⟨d,hd⟩:∃d,n+1=x+d:=⟨n+1-x,by omega⟩;have r:=sM (P:=P) (x:=x) d λi a b=>x2 i a (by omega)
   rw[←hd] at r;rw[r];have ld:(bO (x,n):Rat)=(d:Rat):=by
    have:bO (x,n)=(d:Int):=by show(n:Int)-(x:Int)+1=_;omega
    rw[this,PU]
   rw[ld] at t1;have e2:=Rb e (Qu lp);generalize GM ws ((OB 24).filter q) P (n+1)=g1 at *;generalize GM ws ((OB 24).filter q) P x=g0 at *;generalize SM ws ((OB 24).filter q) (x,n)=s1 at *;generalize SM ws ((OB 24).filter q) p=sp at *;generalize (bO p:Rat)=l at *;generalize sQ (λt=>b8 (P t) 1) (OB x)=c0 at *;generalize (d:Rat)=dd at *;grind
theorem Hs(ok:∀w∈ws,bz w)(h:vt ws ((OB 24).filter q) p)(hA:∀t,t<24->q t=false->A t=true):(FM ws A-FM ws (λt=>!q t))*(bO p:Rat)≤SM ws ((OB 24).filter q) p*BL (λt=>q t&&A t):=by
 have g:=Ko ok h (λi=>A (((OB 24).filter q).getD i 0)) _ _ (OC _) (OC ((OB 24).filter q).length);rw[Bo];have e:FM ws A=FM ws (λt=>!q t)+GM ws ((OB 24).filter q) (λi=>A (((OB 24).filter q).getD i 0)) ((OB 24).filter q).length:=by
  unfold FM GM;rw[←eZ];refine aK λw _=>?_
  have wi:=jC (q:=q) (w:=w)
  cases c:gF (λt=>!q t) w with
  |true=>
   have g0:gB ((OB 24).filter q) (λi=>A (((OB 24).filter q).getD i 0)) ((OB 24).filter q).length w=false:=by
    unfold gB;rw[wi,c];rfl
   have a1:gF A w=true:=gi (λt ht e=>hA t ht (by simpa using e)) c;rw[g0,a1,de,bZ];grind
  |false=>
   rw[c] at wi;have eq:gF A w=gB ((OB 24).filter q) (λi=>A (((OB 24).filter q).getD i 0)) ((OB 24).filter q).length w:=by
    rw[QK,jZ,dY];constructor
    ·intro z;refine⟨wi,λi hi=>?_⟩;obtain⟨li,wl⟩:=eO.mp hi;refine⟨li,?_⟩;have m:=O6 li;rw[az 0 (OA li)] at wl ⊢;exact z _ (ON.mp (OU.mp m).1) wl
    ·rintro⟨_,z⟩ t ht e
     cases cq:q t with
     |false=>exact hA t ht cq
     |true=>
      obtain⟨i,li,ei⟩:=PY.mp (OU.mpr ⟨ON.mpr ht,cq⟩);have gd:((OB 24).filter q).getD i 0=t:=by rw[az 0 (OA li)];exact ei
      have y:=(z i (eO.mpr ⟨li,by rw[gd];exact e⟩)).2;rw[gd] at y;exact y
   rw[eq,bZ];grind
 rw[e];grind
def BI(ws:List Wk):List Ly->Nat->Option R
 | [],_=>none
 |y::r,t=>if y.1.contains t then some (cY ws y) else BI ws r t
theorem lS(ws:List Wk)(y:Ly)(r:List Ly)(t:Nat):BI ws (y::r) t=if y.1.contains t then some (cY ws y) else BI ws r t:=by rw[BI]
def iJ(ws:List Wk)(lys:List Ly)(t:Nat):Rat:=match BI ws lys t with
 |none=>0
 |some r=>val r
theorem uv(ws:List Wk)(t:Nat):iJ ws [] t=0:=Z
theorem gI(ws:List Wk)(y:Ly)(r:List Ly)(t:Nat):iJ ws (y::r) t=if y.1.contains t then val (cY ws y) else iJ ws r t:=by
 unfold iJ;rw[lS]
 cases y.1.contains t<;>rfl
theorem yn(h:im ws ls lys):(BI ws lys t).isSome=true->t∈ls:=by
 induction h with
 |nil z=>intro e;cases e
 | @cons ls p r h tl ih=>
  intro e;rw[lS] at e
  cases c:(gs ws ls p).1.contains t with
  |true=>exact Tx (RP (show t∈(ls.drop p.1).take (p.2+1-p.1) from Q8.mp c))
  |false=>
   rw[c] at e;exact(OU.mp (ih e)).1
theorem qM(r:R)(d:R):∀(ts:List Nat) (ss:List R) (t:Nat),t<ss.length->(ig r ss ts).getD t d=if ts.contains t then r else ss.getD t d
 | [],ss,t,_=>rfl
 |u::ts,ss,t,h=>by
  show(ig r (ss.set u r) ts).getD t d=_;rw[qM r d ts (ss.set u r) t (by rw[QM];exact h),Sg]
  cases c:ts.contains t with
  |true=>simp
  |false=>
   by_cases z:t=u
   ·subst z;simp[OF,h]
   ·have z':¬u=t:=λq=>z q.symm
    simp[OF,z,z',Qe]
theorem B2(h:im ws ls lys):∀(ss:List R) (t:Nat) (d:R),t<ss.length->(lys.foldl (λss y=>ig (cY ws y) ss y.1) ss).getD t d=(BI ws lys t).getD (ss.getD t d):=by
 induction h with
 |nil z=>intro ss t d _;rfl
 | @cons ls p r h tl ih=>
  intro ss t d ht;rw[PR,ih _ t d (by rw[lV];exact ht),qM _ _ _ _ _ ht,lS]
  cases c:(gs ws ls p).1.contains t with
  |false=>rfl
  |true=>
   have:BI ws r t=none:=by
    cases e:BI ws r t with
    |none=>rfl
    |some x=>
     have m:=yn tl (t:=t) (by rw[e];rfl);have:=(OU.mp m).2;rw[show(dC ls p).contains t=true from c] at this
     cases this
   rw[this];rfl
theorem i7(h:im ws (OB 24) lys)(ht:t<24)(d:R):val ((aQ ws lys).getD t d)=iJ ws lys t:=by
 unfold aQ;rw[B2 h _ t d (by rw[Tg];exact ht)];unfold iJ
 cases BI ws lys t with
 |some r=>rfl
 |none=>
  show val ((Pg 24 ((0,1):R)).getD t d)=0;rw[az d (show(Pg 24 ((0,1):R))[t]?=some (0,1) by rw[S0,if_pos ht])];exact gv
theorem DO(ok:∀w∈ws,bz w)(ls:List Nat)(p:Pl):∀r∈gZ ws (gs ws ls p),fY r:=by
 intro r hr;rw[Bu] at hr;obtain⟨w,hw,rfl⟩:=OP.mp hr;exact(ok w (OU.mp hw).1).am.wf.red
theorem DH(hp:ik ls.length p):(((dC ls p).length:Nat):Rat)=(bO p:Rat):=by
 have h1:=hp.1;have h2:=hp.2;have e:(dC ls p).length=p.2+1-p.1:=by unfold dC;rw[P7,RZ];omega
 have:bO p=(((dC ls p).length:Nat):Int):=by rw[e];unfold bO;omega
 rw[this,PU]
theorem hG(ok:∀w∈ws,bz w)(hp:ik ls.length p):val (cY ws (gs ws ls p))*(bO p:Rat)=SM ws ls p:=by
 obtain⟨rd,e⟩:=kC (DO ok ls p);have lp:=fM hp;have cl:=DH hp;have pos:(0:Int)<(((gs ws ls p).1.length:Nat):Int):=by
  refine P1.mp ?_;rw[PU];show((0:Int):Rat)<(((dC ls p).length:Nat):Rat);rw[cl];exact lp
 unfold cY;rw[vA rd.pos pos,e,BT];have v1:val ((1,(((gs ws ls p).1.length:Nat):Int)):R)=1/(bO p:Rat):=by
  unfold val;show((1:Int):Rat)/((((dC ls p).length:Nat):Int):Rat)=_;rw[PU,cl];rfl
 rw[v1];generalize SM ws ls p=s at *;generalize (bO p:Rat)=l at *;have:l≠0:=λz=>by rw[z] at lp;exact absurd lp (by decide +kernel)
 grind
theorem Kd(ok:∀w∈ws,bz w)(ls:List Nat)(p:Pl):0≤SM ws ls p:=lX λw hw=>fe _ (rM ok w hw)
theorem EY(ok:∀w∈ws,bz w)(hp:ik ls.length p):0≤val (cY ws (gs ws ls p)):=by
 have e:=hG ok hp;have s:=Kd ok ls p;have lp:=fM hp;rw[←e] at s;generalize val (cY ws (gs ws ls p))=d at *;generalize (bO p:Rat)=l at *;by_cases z:0≤d
 ·exact z
 ·have z':d<0:=Ur.mp z;have:=Ry z' lp;grind
theorem E3(ok:∀w∈ws,bz w)(h:im ws ls lys)(t:Nat):0≤iJ ws lys t:=by
 induction h with
 |nil z=>exact P3
 | @cons ls p r h tl ih=>
  rw[gI]
  cases c:(gs ws ls p).1.contains t with
  |true=>exact EY ok h.1.inn
  |false=>exact ih
theorem A0(ok:∀w∈ws,bz w)(h:vt ws ((OB 24).filter q) p)(hA:∀t,t<24->q t=false->A t=true):FM ws A-FM ws (λt=>!q t)≤val (cY ws (gs ws ((OB 24).filter q) p))*BL (λt=>q t&&A t):=by
 have g:=Hs ok h hA;have e:=hG ok h.1.inn;have lp:=fM h.1.inn;rw[←e] at g;generalize FM ws A-FM ws (λt=>!q t)=x at *;generalize val (cY ws (gs ws ((OB 24).filter q) p))=d at *;generalize BL (λt=>q t&&A t)=c at *;generalize (bO p:Rat)=l at *;by_cases z:x≤d*c
 ·exact z
 ·have z':d*c<x:=Ur.mp z;have:=Ry z' lp;grind
theorem hV{a b c:Rat}(hc:0<c)(h:a*c≤b*c):a≤b:=by
 by_cases z:a≤b
 ·exact z
 ·have:=Ry (Ur.mp z) hc;grind
theorem uV:(dC ((OB 24).filter q) p).contains t=true->q t=true:=λh=>by
 have:=Tx (RP (show t∈(((OB 24).filter q).drop p.1).take (p.2+1-p.1) from Q8.mp h));exact(OU.mp this).2
theorem vw(ok:∀w∈ws,bz w):FM ws (λ_=>false)=0:=by
 have e:FM ws (λ_=>false)=sQ (λ_:Wk=>0*(0:Rat)) ws:=aK λw hw=>by
  have:gF (λ_=>false) w=false:=by
   cases c:gF (λ_=>false) w with
   |false=>rfl
   |true=>
    have o:=ok w hw;have l1:=o.le;have l2:=o.lt;have:=dY.mp c w.1 (by omega) (by unfold fk;rw[decide_eq_true (OC _),decide_eq_true l1];rfl)
    cases this
  rw[this,bZ];grind
 rw[e,dB];grind
theorem E1(ok:∀w∈ws,bz w)(h:im ws ls lys):∀(q:Nat->Bool),ls=(OB 24).filter q->sQ (λt=>b8 (q t) (iJ ws lys t)) (OB 24)=FM ws (λ_=>true)-FM ws (λt=>!q t):=by
 induction h with
 | @nil ls z=>
  intro q e;subst e;have e:FM ws (λ_=>true)=FM ws (λu=>!q u):=aK λw hw=>by
   have n:=Ru.mp z w hw;rw[jC] at n;have i0:gF (λt=>!q t) w=true:=by simpa using n
   rw[i0,gi (λ_ _ _=>Z) i0]
  rw[e];have e2:sQ (λt=>b8 (q t) (iJ ws [] t)) (OB 24)=sQ (λ_:Nat=>0*(0:Rat)) (OB 24):=aK λt _=>by
   rw[uv]
   cases q t with
   |true=>rw[de];grind
   |false=>rw[bZ];grind
  rw[e2,dB];grind
 | @cons ls p r h tl ih=>
  intro q e;subst e;have hp:ik ((OB 24).filter q).length p:=h.1.inn;have i1:=ih (nx q p) (pC q p);have nF:=Lo (ws:=ws) hp;have nC:=G2 hp;have sv:=hG ok hp;have e2:sQ (λt=>b8 (q t) (iJ ws (gs ws ((OB 24).filter q) p::r) t)) (OB 24)=sQ (λt=>b8 (nx q p t) (iJ ws r t)+val (cY ws (gs ws ((OB 24).filter q) p))*b8 (q t&&!nx q p t) 1) (OB 24):=aK λt ht=>by
   rw[gI];have n:nx q p t=(!(dC ((OB 24).filter q) p).contains t&&q t):=Z;have lf:=uV (q:=q) (p:=p) (t:=t);rw[show(gs ws ((OB 24).filter q) p).1.contains t=(dC ((OB 24).filter q) p).contains t from Z]
   cases a:(dC ((OB 24).filter q) p).contains t with
   |true=>
    rw[a] at n lf;rw[lf Z,n];show val _=0+val _*1;grind
   |false=>
    rw[a] at n;rw[n]
    cases q t with
    |true=>show iJ ws r t=iJ ws r t+_*0;grind
    |false=>show(0:Rat)=0+_*0;grind
  rw[e2,eZ,i1,dB];have:sQ (λt=>b8 (q t&&!nx q p t) 1) (OB 24)=(bO p:Rat):=nC;rw[this,sv,nF];grind
theorem DX(ws:List Wk):FM ws (λ_=>true)=sQ kT ws:=aK λw _=>by
 have:gF (λ_=>true) w=true:=dY.mpr λ_ _ _=>Z
 rw[this];rfl
theorem cap(ok:∀w∈ws,bz w)(h:im ws ls lys):∀(q A:Nat->Bool),ls=(OB 24).filter q->(∀t,t<24->q t=false->A t=true)->FM ws A-FM ws (λt=>!q t)≤sQ (λt=>b8 (q t&&A t) (iJ ws lys t)) (OB 24):=by
 induction h with
 | @nil ls z=>
  intro q A e hA;subst e;have e:FM ws (λ_=>true)=FM ws (λu=>!q u):=aK λw hw=>by
   have n:=Ru.mp z w hw;rw[jC] at n;have i0:gF (λt=>!q t) w=true:=by simpa using n
   rw[i0,gi (λ_ _ _=>Z) i0]
  have m:=DW (rM ok) (A:=A) (A':=λ_=>true) (λ_ _ _=>Z);have nn:0≤sQ (λt=>b8 (q t&&A t) (iJ ws [] t)) (OB 24):=lX λt _=>fe _ (by rw[uv];exact P3)
  rw[e] at m;grind
 | @cons ls p r h tl ih=>
  intro q A e hA;subst e;have i1:=ih (nx q p) (λt=>A t||!nx q p t) (pC q p) (λt _ hn=>by
   show(A t||!nx q p t)=true;rw[hn];exact TW _)
  have g:=A0 ok h (A:=λt=>A t&&!nx q p t) (λt ht hq=>by
   show(A t&&!nx q p t)=true;rw[hA t ht hq];unfold nx;rw[hq,RF];rfl)
  have sup:=BF (rM ok) A (λt=>!nx q p t);have e2:sQ (λt=>b8 (q t&&A t) (iJ ws (gs ws ((OB 24).filter q) p::r) t)) (OB 24)=sQ (λt=>b8 (nx q p t&&(A t||!nx q p t)) (iJ ws r t)+val (cY ws (gs ws ((OB 24).filter q) p))*b8 (q t&&(A t&&!nx q p t)) 1) (OB 24):=aK λt ht=>by
   rw[gI];have n:nx q p t=(!(dC ((OB 24).filter q) p).contains t&&q t):=Z;have lf:=uV (q:=q) (p:=p) (t:=t);rw[show(gs ws ((OB 24).filter q) p).1.contains t=(dC ((OB 24).filter q) p).contains t from Z]
   cases a:(dC ((OB 24).filter q) p).contains t with
   |true=>
    rw[a] at n lf;rw[lf Z,n]
    cases A t with
    |true=>show val _=0+val _*1;grind
    |false=>show(0:Rat)=0+val _*0;grind
   |false=>
    rw[a] at n;rw[n]
    cases q t with
    |true=>
     cases A t with
     |true=>show iJ ws r t=iJ ws r t+_*0;grind
     |false=>show(0:Rat)=0+_*0;grind
    |false=>show(0:Rat)=0+_*0;grind
  rw[e2,eZ,dB];have c:sQ (λt=>b8 (q t&&(A t&&!nx q p t)) 1) (OB 24)=BL (λt=>q t&&(A t&&!nx q p t)):=Z;rw[c];grind
abbrev Ls:=Nat->Rat
def f7(L:Ls)(i:Nat)(x:Rat):Ls:=λj=>if j=i then x else L j
def mn(a b:Rat):Rat:=if a≤b then a else b
def cc(W:Nat->Bool)(st:Ls×Rat)(i:Nat):Ls×Rat:=if W i=true then(f7 st.1 i (st.1 i-mn (st.1 i) st.2),st.2-mn (st.1 i) st.2) else st
def eh(W:Nat->Bool)(ord:List Nat)(L:Ls)(s:Rat):Ls×Rat:=ord.foldl (cc W) (L,s)
theorem G7(a b:Rat):mn a b≤a:=by
 unfold mn
 split
 ·exact P3
 ·rename_i h;exact Qu (Ur.mp h)
theorem AG(a b:Rat):mn a b≤b:=by
 unfold mn
 split
 ·assumption
 ·exact P3
theorem JN(ha:0≤a)(hb:0≤b):0≤mn a b:=by
 unfold mn
 split
 ·exact ha
 ·exact hb
theorem Eu(a b:Rat):mn a b=a∨mn a b=b:=by
 unfold mn
 split
 ·exact .inl Z
 ·exact .inr Z
structure xH(L:Ls)(s:Rat)(st:Ls×Rat):Prop where
 nn:∀i,0≤L i->0≤st.1 i
 le:∀i,st.1 i≤L i
 rm:0≤st.2
theorem xH.step{W:Nat->Bool}{L:Ls}{s:Rat}{st:Ls×Rat}(hL:∀i,0≤L i)(h:xH L s st)(i:Nat):xH L s (cc W st i):=by
 unfold cc
 split
 ·have a1:=G7 (st.1 i) st.2;have a2:=AG (st.1 i) st.2;have a3:=JN (h.nn i (hL i)) h.rm;refine⟨λj _=>?_,λj=>?_,?_⟩
  ·show 0≤f7 st.1 i _ j;unfold f7
   split
   ·grind
   ·exact h.nn j (hL j)
  ·show f7 st.1 i _ j≤L j;unfold f7;have:=h.le j
   split
   ·rename_i e;subst e;grind
   ·exact this
  ·show 0≤st.2-mn (st.1 i) st.2;grind
 ·exact h
theorem xH.fold{W:Nat->Bool}{L:Ls}{s:Rat}(hL:∀i,0≤L i):∀{ord:List Nat} {st:Ls×Rat},xH L s st->xH L s (ord.foldl (cc W) st)
 | [],_,h=>h
 |i::ord,st,h=>xH.fold hL (ord:=ord) (h.step hL i)
theorem lE{st:Ls×Rat}(h:j≠i):(cc W st i).1 j=st.1 j:=by
 unfold cc
 split
 ·show f7 st.1 i _ j=_;unfold f7;rw[if_neg h]
 ·rfl
theorem mI{W:Nat->Bool}{j:Nat}:∀{ord:List Nat} {st:Ls×Rat},j∉ord->(ord.foldl (cc W) st).1 j=st.1 j
 | [],_,_=>rfl
 |i::ord,st,h=>by
  rw[PR,mI (λz=>h (OL _ z)),lE (λz=>h (by rw[z];exact OJ))]
theorem yc{st:Ls×Rat}(hi:i<n):sQ (cc W st i).1 (OB n)-(cc W st i).2=sQ st.1 (OB n)-st.2:=by
 unfold cc
 split
 ·show sQ (f7 st.1 i (st.1 i-mn (st.1 i) st.2)) (OB n)-(st.2-mn (st.1 i) st.2)=_;have key:∀(m:Nat) (x:Rat),sQ (f7 st.1 i x) (OB m)=sQ st.1 (OB m)+(if i<m then x-st.1 i else 0):=by
   intro m x
   induction m with
   |zero=>show(0:Rat)=0+(if i<0 then _ else 0);rw[if_neg (Sn _)];grind
   |succ m ih=>
    rw[P4,eY,eY,ih];show sQ st.1 (OB m)+_+(f7 st.1 i x m+0)=sQ st.1 (OB m)+(st.1 m+0)+_;unfold f7;by_cases c:i<m
    ·rw[if_pos c,if_neg (by omega),if_pos (by omega)];grind
    ·rw[if_neg c];by_cases e:m=i
     ·subst e;rw[if_pos Z,if_pos (by omega)];grind
     ·rw[if_neg e,if_neg (by omega)];grind
  rw[key,if_pos hi];grind
 ·rfl
theorem rj{W:Nat->Bool}{n:Nat}:∀{ord:List Nat} {st:Ls×Rat},(∀i∈ord,i<n)->sQ (ord.foldl (cc W) st).1 (OB n)-(ord.foldl (cc W) st).2=sQ st.1 (OB n)-st.2
 | [],_,_=>rfl
 |i::ord,st,h=>by
  rw[PR,rj (λj hj=>h j (OL _ hj)),yc (h i OJ)]
theorem vH{st:Ls×Rat}(h0:0≤st.1 i)(hr:st.2=0):(cc W st i).1=st.1/\(cc W st i).2=0:=by
 unfold cc
 split
 ·have e:mn (st.1 i) st.2=0:=by
   rw[hr];rcases Eu (st.1 i) 0 with z|z
   ·have:=AG (st.1 i) 0;rw[z] at this ⊢;grind
   ·exact z
  rw[e];refine⟨?_,?_⟩
  ·show f7 st.1 i (st.1 i-0)=st.1
   funext j
   unfold f7
   split
   ·rename_i z;subst z;grind
   ·rfl
  ·show st.2-0=0;grind
 ·exact⟨Z,hr⟩
theorem n9{W:Nat->Bool}:∀{ord:List Nat} {st:Ls×Rat},(∀i,0≤st.1 i)->st.2=0->(ord.foldl (cc W) st).1=st.1/\(ord.foldl (cc W) st).2=0
 | [],_,_,hr=>⟨Z,hr⟩
 |i::ord,st,h0,hr=>by
  obtain⟨e1,e2⟩:=vH (W:=W) (h0 i) hr;rw[PR];have:=n9 (W:=W) (ord:=ord) (st:=cc W st i) (by rw[e1];exact h0) e2;rw[e1] at this;exact this
theorem nE(hL:∀j,0≤L j)(hs:0≤s)(nd:(l1++i:: l2).Nodup)(hW:W i=true)(hl:0<(eh W (l1++i:: l2) L s).1 i):
  (eh W (l1++i:: l2) L s).2=0/\∀j,j∉l1->j≠i->(eh W (l1++i:: l2) L s).1 j=L j:=by
 have e:eh W (l1++i::l2) L s=l2.foldl (cc W) (cc W (l1.foldl (cc W) (L,s)) i):=by
  unfold eh;rw[QD,PR]
 have i0:xH L s (L,s):=⟨λ_ h=>h,λ_=>P3,hs⟩;have i1:=i0.fold (W:=W) hL (ord:=l1);have i2:=i1.step (W:=W) hL i;obtain⟨n1,n2,n3⟩:=Qd.mp nd;have il2:i∉l2:=(PZ.mp n2).1;rw[e] at hl ⊢;rw[mI il2] at hl;have offA:∀j,j∉l1->(l1.foldl (cc W) (L,s)).1 j=L j:=λj hj=>mI hj
 generalize l1.foldl (cc W) (L,s)=A at *;have room:(cc W A i).2=0:=by
  unfold cc at hl ⊢;rw[if_pos hW] at hl ⊢;show A.2-mn (A.1 i) A.2=0;have hl':0<A.1 i-mn (A.1 i) A.2:=by
   have:0<f7 A.1 i (A.1 i-mn (A.1 i) A.2) i:=hl;unfold f7 at this;rw[if_pos Z] at this;exact this
  rcases Eu (A.1 i) A.2 with z|z
  ·rw[z] at hl';grind
  ·rw[z];grind
 obtain⟨e1,e2⟩:=n9 (W:=W) (ord:=l2) (st:=cc W A i) (λj=>i2.nn j (hL j)) room;refine⟨e2,λj hj hji=>?_⟩;rw[e1,lE hji];exact offA j hj
theorem ql{W:Nat->Bool}{i:Nat}(h:W i=false):∀{ord:List Nat} {st:Ls×Rat},(ord.foldl (cc W) st).1 i=st.1 i
 | [],_=>rfl
 |j::ord,st=>by
  rw[PR,ql h (ord:=ord)];by_cases c:i=j
  ·subst c;unfold cc;rw[if_neg (by rw[h];exact O1)]
  ·exact lE c
theorem ph{α β:Type}(f:α->β->Rat)(m:List β):∀l:List α,sQ (λx=>sQ (λy=>f x y) m) l=sQ (λy=>sQ (λx=>f x y) l) m
 | []=>by
  show(0:Rat)=sQ (λ_=>(0:Rat)) m;have e:sQ (λ_:β=>(0:Rat)) m=sQ (λy:β=>0*((λ_=>(0:Rat)) y)) m:=aK λ_ _=>by grind
  rw[e,dB];grind
 |x::l=>by
  show sQ (λy=>f x y) m+sQ (λx=>sQ (λy=>f x y) m) l=sQ (λy=>f x y+sQ (λx=>f x y) l) m;rw[ph f m l,eZ]
theorem zu(hi:i<n)(c:Rat):sQ (λj=>if j=i then c else 0) (OB n)=c:=by
 have key:∀m:Nat,sQ (λj=>if j=i then c else 0) (OB m)=if i<m then c else 0:=by
  intro m
  induction m with
  |zero=>show(0:Rat)=_;rw[if_neg (Sn _)]
  |succ m ih=>
   rw[P4,eY,ih];show _+((if m=i then c else 0)+0)=_;by_cases e:m=i
   ·subst e;rw[if_neg (PL _),if_pos Z,if_pos (UO _)];grind
   ·by_cases l:i<m
    ·rw[if_pos l,if_neg e,if_pos (by omega)];grind
    ·rw[if_neg l,if_neg e,if_neg (by omega)];grind
 rw[key,if_pos hi]
theorem uA(g:Nat->Rat)(b:Nat):∀N,b≤N->sQ (λt=>b8 (decide (b≤t)) (g t-g (t+1))) (OB N)=g b-g N:=by
 intro N
 induction N with
 |zero=>intro h;rw[show b=0 by omega];show(0:Rat)=_;grind
 |succ N ih=>
  intro h;rw[P4,eY];show _+(b8 (decide (b≤N)) (g N-g (N+1))+0)=_;by_cases c:b≤N
  ·rw[ih c,decide_eq_true c,de];grind
  ·have e:b=N+1:=by omega
   have z:sQ (λt=>b8 (decide (b≤t)) (g t-g (t+1))) (OB N)=sQ (λ_:Nat=>0*(0:Rat)) (OB N):=aK λt ht=>by
    have:=ON.mp ht;rw[decide_eq_false (by omega),bZ];grind
   rw[z,dB,decide_eq_false c,bZ,e];grind
theorem Cm(g:Nat->Rat)(d:Nat):∀k,sQ (λt=>b8 (decide (t≤d)) (g t)) (OB (d+1+k))=sQ g (OB (d+1)):=by
 intro k
 induction k with
 |zero=>exact aK λt ht=>by have:=ON.mp ht;rw[decide_eq_true (by omega),de]
 |succ k ih=>
  rw[show d+1+(k+1)=(d+1+k)+1 by omega,P4,eY,ih];show _+(b8 (decide (d+1+k≤d)) _+0)=_;rw[decide_eq_false (by omega),bZ];grind
def Wt(f l:Nat->Nat)(t i:Nat):Bool:=decide (f i≤t)&&decide (t≤l i)
def cF(ord:List Nat)(f l:Nat->Nat)(a:Ls)(s:Nat->Rat):Nat->Ls
 |0=>a
 |t+1=>(eh (Wt f l t) ord (cF ord f l a s t) (s t)).1
structure eC(n:Nat)(ord:List Nat)(f l:Nat->Nat)(a:Ls)(s:Nat->Rat):Prop where
 nd:ord.Nodup
 mem:∀i,i∈ord↔i<n
 srt:ord.Pairwise (λi j=>l i≤l j)
 win:∀i,i<n->f i≤l i/\l i<24
 an:∀i,0≤a i
 sn:∀t,0≤s t
 cap:∀b d,b≤d->d<24->sQ (λj=>b8 (decide (b≤f j)&&decide (l j≤d)) (a j)) (OB n)≤sQ (λt=>b8 (decide (t≤d)) (b8 (decide (b≤t)) (s t))) (OB 24)
section
variable {n:Nat}{ord:List Nat}{f l:Nat->Nat}{a:Ls}{s:Nat->Rat}
theorem eC.sti(h:eC n ord f l a s)(hL:∀i,0≤L i)(t:Nat):xH L (s t) (eh (Wt f l t) ord L (s t)):=xH.fold hL ⟨λ_ h=>h,λ_=>P3,h.sn t⟩
theorem eC.nn(h:eC n ord f l a s):∀t i,0≤cF ord f l a s t i
 |0,i=>h.an i
 |t+1,i=>(h.sti (h.nn t) t).nn i (h.nn t i)
theorem eC.dn(h:eC n ord f l a s)(t i:Nat):cF ord f l a s (t+1) i≤cF ord f l a s t i:=(h.sti (h.nn t) t).le i
theorem eC.dn'(h:eC n ord f l a s)(t i:Nat):∀k,cF ord f l a s (t+k) i≤cF ord f l a s t i
 |0=>P3
 |k+1=>T0 (h.dn (t+k) i) (h.dn' t i k)
theorem eC.out(h:eC n ord f l a s)(hw:Wt f l t i=false):cF ord f l a s (t+1) i=cF ord f l a s t i:=ql hw
theorem eC.sum(h:eC n ord f l a s)(t:Nat):sQ (λj=>cF ord f l a s t j-cF ord f l a s (t+1) j) (OB n)=s t-(eh (Wt f l t) ord (cF ord f l a s t) (s t)).2:=by
 have q:=rj (W:=Wt f l t) (n:=n) (ord:=ord) (st:=(cF ord f l a s t,s t)) λi hi=>(h.mem i).mp hi
 have e:sQ (λj=>cF ord f l a s t j-cF ord f l a s (t+1) j) (OB n)=sQ (cF ord f l a s t) (OB n)-sQ (cF ord f l a s (t+1)) (OB n):=by
  have e1:=eZ (f:=λj=>cF ord f l a s t j-cF ord f l a s (t+1) j) (g:=cF ord f l a s (t+1)) (OB n);have e2:sQ (λx=>cF ord f l a s t x-cF ord f l a s (t+1) x+cF ord f l a s (t+1) x) (OB n)=sQ (cF ord f l a s t) (OB n):=aK λx _=>by grind
  grind
 rw[e];have q':sQ (cF ord f l a s (t+1)) (OB n)-(eh (Wt f l t) ord (cF ord f l a s t) (s t)).2=sQ (cF ord f l a s t) (OB n)-s t:=q;grind
theorem eC.all_le(h:eC n ord f l a s)(t:Nat):sQ (λj=>cF ord f l a s t j-cF ord f l a s (t+1) j) (OB n)≤s t:=by
 rw[h.sum];have:=(h.sti (h.nn t) t).rm;grind
theorem eC.full(h:eC n ord f l a s)(hi:i<n)(hw:Wt f l t i=true)(hl:0<cF ord f l a s (t+1) i):sQ (λj=>b8 (decide (l j≤l i)) (cF ord f l a s t j-cF ord f l a s (t+1) j)) (OB n)=s t:=by
 obtain⟨l1,l2,e⟩:=SY ((h.mem i).mpr hi);have nd:=h.nd;have srt:=h.srt;rw[e] at nd srt;have hl':0<(eh (Wt f l t) (l1++i::l2) (cF ord f l a s t) (s t)).1 i:=by rw[←e];exact hl
 obtain⟨r0,keep⟩:=nE (h.nn t) (h.sn t) nd hw hl';rw[←e] at r0 keep;have sm:=h.sum t;rw[r0] at sm;have e2:sQ (λj=>b8 (decide (l j≤l i)) (cF ord f l a s t j-cF ord f l a s (t+1) j)) (OB n)=sQ (λj=>cF ord f l a s t j-cF ord f l a s (t+1) j) (OB n):=aK λj _=>by
  by_cases c:l j≤l i
  ·rw[decide_eq_true c,de]
  ·rw[decide_eq_false c,bZ];have j1:j∉l1:=λz=>c ((Sy.mp srt).2.2 j z i OJ)
   have j2:j≠i:=λz=>c (by rw[z];exact OC _)
   have k:cF ord f l a s (t+1) j=cF ord f l a s t j:=keep j j1 j2;rw[k];grind
 rw[e2,sm];grind
theorem LD(h:eC n ord f l a s)(hi:i<n):cF ord f l a s 24 i=0:=by
 by_cases z:cF ord f l a s 24 i=0
 ·exact z
 exfalso;have pos:0<cF ord f l a s 24 i:=by
  have:=h.nn 24 i;grind
 obtain⟨w1,w2⟩:=h.win i hi;have later:∀t,t≤24->0<cF ord f l a s t i:=λt ht=>by
  have:=h.dn' t i (24-t);rw[show t+(24-t)=24 by omega] at this;grind
 let P:Nat->Bool:=λt=>decide (sQ (λj=>b8 (decide (l j≤l i)) (cF ord f l a s t j-cF ord f l a s (t+1) j)) (OB n)=s t)
 have Pin:∀t,f i≤t->t≤l i->P t=true:=λt h1 h2=>decide_eq_true (h.full hi (by unfold Wt;rw[decide_eq_true h1,decide_eq_true h2];rfl) (later (t+1) (by omega)))
 obtain⟨b,hb,hrun,hend⟩:=lY P (l i+1);have bf:b≤f i:=by
  by_cases c:b≤f i
  ·exact c
  ·rcases hend with e|e
   ·omega
   ·rw[Pin (b-1) (by omega) (by omega)] at e;cases e
 have early:∀j,j<n->l j≤l i->f j<b->cF ord f l a s b j-cF ord f l a s (l i+1) j=0:=λj hj h1 h2=>by
  have e:P (b-1)=false:=by
   rcases hend with e|e
   ·omega
   ·exact e
  by_cases c:b-1≤l j
  ·have z0:cF ord f l a s b j=0:=by
    by_cases zz:cF ord f l a s b j=0
    ·exact zz
    exfalso;have nb:=h.nn b j;have fl:=h.full (t:=b-1) hj (by unfold Wt;rw[decide_eq_true (show f j≤b-1 by omega),decide_eq_true c];rfl) (by rw[show b-1+1=b by omega];grind);have m:sQ (λk=>b8 (decide (l k≤l j)) (cF ord f l a s (b-1) k-cF ord f l a s (b-1+1) k)) (OB n)≤sQ (λk=>b8 (decide (l k≤l i)) (cF ord f l a s (b-1) k-cF ord f l a s (b-1+1) k)) (OB n):=io λk _=>tG (by have:=h.dn (b-1) k;grind) λq=>decide_eq_true (by have:=of_decide_eq_true q;omega)
    have m2:sQ (λk=>b8 (decide (l k≤l i)) (cF ord f l a s (b-1) k-cF ord f l a s (b-1+1) k)) (OB n)≤sQ (λk=>cF ord f l a s (b-1) k-cF ord f l a s (b-1+1) k) (OB n):=io λk _=>by
     have:=h.dn (b-1) k
     cases decide (l k≤l i) with
     |true=>exact P3
     |false=>rw[bZ];grind
    have m3:=h.all_le (b-1);have:P (b-1)=true:=decide_eq_true (by grind);rw[this] at e
    cases e
   have d1:=h.dn' b j (l i+1-b);rw[show b+(l i+1-b)=l i+1 by omega] at d1;have d2:=h.nn (l i+1) j;grind
  ·have st:∀k,cF ord f l a s (b+k) j=cF ord f l a s b j:=λk=>by
    induction k with
    |zero=>rfl
    |succ k ih=>
     rw[←ih];exact h.out (t:=b+k) (by unfold Wt;rw[decide_eq_false (show ¬b+k≤l j by omega),RF])
   have:=st (l i+1-b);rw[show b+(l i+1-b)=l i+1 by omega] at this;rw[this];grind
 have tot:sQ (λt=>b8 (decide (b≤t)) (s t)) (OB (l i+1))=sQ (λj=>b8 (decide (l j≤l i)) (cF ord f l a s b j-cF ord f l a s (l i+1) j)) (OB n):=by
  have e1:sQ (λt=>b8 (decide (b≤t)) (s t)) (OB (l i+1))=sQ (λt=>sQ (λj=>b8 (decide (l j≤l i)) (b8 (decide (b≤t)) (cF ord f l a s t j-cF ord f l a s (t+1) j))) (OB n)) (OB (l i+1)):=aK λt ht=>by
   have tl:=ON.mp ht;by_cases c:b≤t
   ·rw[decide_eq_true c,de,←of_decide_eq_true (hrun t c tl)];exact aK λj _=>by rw[de]
   ·rw[decide_eq_false c,bZ];have e:sQ (λj=>b8 (decide (l j≤l i)) (b8 false (cF ord f l a s t j-cF ord f l a s (t+1) j))) (OB n)=sQ (λ_:Nat=>0*(0:Rat)) (OB n):=aK λj _=>by
     rw[bZ]
     cases decide (l j≤l i) with
     |true=>rw[de];grind
     |false=>rw[bZ];grind
    rw[e,dB];grind
  rw[e1,ph];exact aK λj _=>by
   cases decide (l j≤l i) with
   |true=>
    have:=uA (λt=>cF ord f l a s t j) b (l i+1) hb;rw[de,←this];exact aK λt _=>by rw[de]
   |false=>
    rw[bZ];have e:sQ (λt=>b8 false (b8 (decide (b≤t)) (cF ord f l a s t j-cF ord f l a s (t+1) j))) (OB (l i+1))=sQ (λ_:Nat=>0*(0:Rat)) (OB (l i+1)):=aK λt _=>by rw[bZ];grind
    rw[e,dB];grind
 have le:sQ (λj=>b8 (decide (l j≤l i)) (cF ord f l a s b j-cF ord f l a s (l i+1) j)+(if j=i then cF ord f l a s (l i+1) i else 0)) (OB n)≤sQ (λj=>b8 (decide (b≤f j)&&decide (l j≤l i)) (a j)) (OB n):=io λj hj=>by
  have jn:=ON.mp hj;by_cases c1:l j≤l i
  ·rw[decide_eq_true c1,de,V1];by_cases c2:b≤f j
   ·rw[decide_eq_true c2,de];have d1:=h.dn' 0 j b;rw[TZ] at d1;have d1':cF ord f l a s b j≤a j:=d1;have d2:=h.nn (l i+1) j;by_cases e:j=i
    ·subst e;rw[if_pos Z];grind
    ·rw[if_neg e];grind
   ·rw[decide_eq_false c2,bZ,early j jn c1 (by omega),if_neg (λe=>c2 (by rw[e];exact bf))];grind
  ·rw[decide_eq_false c1,bZ,RF,bZ,if_neg (λe=>c1 (by rw[e];exact OC _))];grind
 rw[eZ,zu hi,←tot] at le;have cp:=h.cap b (l i) (by omega) w2;have up:=Cm (λt=>b8 (decide (b≤t)) (s t)) (l i) (24-(l i+1));rw[show l i+1+(24-(l i+1))=24 by omega] at up;rw[up] at cp;have:=later (l i+1) (by omega);grind
end
def cS(l:List R):Ls:=λj=>val (l.getD j (0,1))
theorem kY:val ((0,1):R)=0:=(f6 (r:=(0,1)) (by decide)).mpr Z
theorem G6(ha:dU a)(hb:dU b):mn (val a) (val b)=val (dh a b):=by
 unfold dh mn
 cases c:cD b a with
 |true=>
  rw[if_pos Z,if_neg];have:=(iY hb.bq.pos ha.bq.pos).mp c;exact Ur.mpr this
 |false=>
  rw[if_neg O1,if_pos];exact(iX hb.bq.pos ha.bq.pos).mp c
theorem BU(hi:i<l.length)(x:R):cS (l.set i x)=f7 (cS l) i (val x):=by
 funext j
 unfold cS f7;rw[OF,List.getElem?_set];by_cases c:j=i
 ·subst c;rw[if_pos Z,if_pos Z,if_pos hi];rfl
 ·rw[if_neg (λz=>c z.symm),if_neg c,←OF]
theorem yb{ws:List Wk}{st:rT}(h:vx n st)(hi:i<n):(cS (bP ws t st i).1,val (bP ws t st i).2.1)=cc (λj=>fk (ws.getD j bL) t) (cS st.1,val st.2.1) i:=by
 have al:=cv (n:=n) h.lf i;have e:=G6 al h.rm;have eL:cS st.1 i=val (st.1.getD i (0,1)):=Z;unfold bP cc;dsimp only;by_cases c:fk (ws.getD i bL) t=true
 ·rw[if_pos c];show _=(f7 (cS st.1) i (cS st.1 i-mn (cS st.1 i) (val st.2.1)),val st.2.1-mn (cS st.1 i) (val st.2.1));rw[eL,e];by_cases z:dh (st.1.getD i (0,1)) st.2.1=(0,1)
  ·rw[if_neg (λq=>q.2 z),z,kY];have e1:f7 (cS st.1) i (val (st.1.getD i (0,1))-0)=cS st.1:=by
    funext j
    unfold f7
    split
    ·rename_i q;subst q;show _-0=val _;grind
    ·rfl
   rw[e1];have e2:val st.2.1-0=val st.2.1:=by grind
   rw[e2]
  ·rw[if_pos ⟨c,z⟩];have la:=iT al h.rm;show(cS (st.1.set i _),val (aY st.2.1 _))=_;rw[BU (by rw[h.len];exact hi),eD al.bq.pos la.bq.pos,eD h.rm.bq.pos la.bq.pos]
 ·rw[if_neg (λz=>c z.1),if_neg c]
theorem jr{ws:List Wk}{n t:Nat}:∀{ord:List Nat} {st:rT},vx n st->(∀i∈ord,i<n)->(cS (ord.foldl (bP ws t) st).1,val (ord.foldl (bP ws t) st).2.1)=ord.foldl (cc (λj=>fk (ws.getD j bL) t)) (cS st.1,val st.2.1)
 | [],_,_,_=>rfl
 |i::ord,st,h,hl=>by
  rw[PR,PR,←yb h (hl i OJ)];exact jr (h.step (ws:=ws) (t:=t) (hl i OJ)).1 λj hj=>hl j (OL _ hj)
abbrev fW(ws:List Wk)(i:Nat):Nat:=(ws.getD i bL).1
abbrev aW(ws:List Wk):Ls:=cS (ws.map λw=>w.2.2)
theorem jg{ws:List Wk}{ord:List Nat}{ss:List R}(okw:∀w∈ws,bz w)(ho:∀i∈ord,i<ws.length)(hs:∀r∈ss,dU r):∀t,cS (aO ws ord ss t).1=cF ord (fW ws) (aT ws) (aW ws) (cS ss) t
 |0=>rfl
 |t+1=>by
  obtain⟨h,hl⟩:=eN okw ho hs t;have d:vx ws.length ((aO ws ord ss t).1,ss.getD t (0,1),[]):=⟨h.len,h.lf,cv (n:=0) hs t,λp hp=>by cases hp⟩;have q:=jr (ws:=ws) (t:=t) d ho;have e:=congrArg Prod.fst q;show cS (ord.foldl (bP ws t) ((aO ws ord ss t).1,ss.getD t (0,1),[])).1=(eh (Wt (fW ws) (aT ws) t) ord (cF ord (fW ws) (aT ws) (aW ws) (cS ss) t) (cS ss t)).1;rw[←jg okw ho hs t];exact e
theorem jU{ws:List Wk}{es:List Ln}(rk:oE ws.length es):∀k,k≤ws.length->(aH ws es k).Nodup
 |0,_=>Td
 |k+1,h=>by
  have oi:=dg (es:=es) rk k (by omega);show(aH ws es k++[_]).Nodup;rw[Qd];refine⟨jU rk k (by omega),PZ.mpr ⟨by simp,Td⟩,λa ha b hb z=>?_⟩;have m:=ji (ws:=ws) rk (oi.ne (by omega));rw[OH.mp hb] at z;subst z;exact(c9.mp m).2 ha
theorem kH(rk:oE ws.length es)(i:Nat):i∈aH ws es ws.length↔i<ws.length:=by
 have oi:=dg (es:=es) rk ws.length (OC _);refine⟨oi.lt i,λh=>?_⟩;by_cases c:i∈aH ws es ws.length
 ·exact c
 ·have:i∈b9 ws.length (aH ws es ws.length):=c9.mpr ⟨h,c⟩;have l:=oi.wl;have e:(b9 ws.length (aH ws es ws.length)).length=0:=by omega
  rw[List.length_eq_zero_iff.mp e] at this
  cases this
theorem uK{ws:List Wk}{es:List Ln}(rk:oE ws.length es):∀k,k≤ws.length->(aH ws es k).Pairwise (λi j=>aT ws i≤aT ws j)/\∀i∈aH ws es k,∀j,j<ws.length->j∉aH ws es k->aT ws i≤aT ws j
 |0,_=>⟨.nil,λi hi=>absurd (show i∈([]:List Nat) from hi) (by simp)⟩
 |k+1,h=>by
  obtain⟨p,q⟩:=uK (es:=es) rk k (by omega);have oi:=dg (es:=es) rk k (by omega);have ne:=oi.ne (by omega);have m:=ji (ws:=ws) rk ne;have ml:∀j,j<ws.length->j∉aH ws es k->aT ws (fJ ws es (b9 ws.length (aH ws es k)))≤aT ws j:=λj h1 h2=>by
   have a:=OM (jj (ws:=ws) rk ne);exact(eT.mp (OU.mp a).1).2 j (c9.mpr ⟨h1,h2⟩)
  refine⟨?_,λi hi j hj nj=>?_⟩
  ·show(aH ws es k++[_]).Pairwise _;rw[Sy];exact⟨p,U0 _ _,λa ha b hb=>by rw[OH.mp hb];exact q a ha _ (c9.mp m).1 (c9.mp m).2⟩
  ·have nj':j∉aH ws es k:=λz=>nj (P2 _ z)
   rcases Pn.mp (show i∈aH ws es k++[_] from hi) with z|z
   ·exact q i z j hj nj'
   ·rw[OH.mp z];exact ml j hj nj'
theorem Hn(h:bz w)(b d:Nat)(hd:d<24):gF (λt=>decide (b≤t)&&decide (t≤d)) w=(decide (b≤w.1)&&decide (w.2.1≤d)):=by
 have h1:=h.le;have h2:=h.lt;rw[QK,dY,O2,decide_eq_true_iff,decide_eq_true_iff];constructor
 ·intro q;have a:=q w.1 (by omega) (by unfold fk;rw[decide_eq_true (OC _),decide_eq_true h1];rfl);have c:=q w.2.1 h2 (by unfold fk;rw[decide_eq_true h1,decide_eq_true (OC _)];rfl);rw[O2,decide_eq_true_iff,decide_eq_true_iff] at a c;exact⟨a.1,c.2⟩
 ·rintro⟨q1,q2⟩ t ht it;unfold fk at it;rw[O2,decide_eq_true_iff,decide_eq_true_iff] at it;rw[O2,decide_eq_true_iff,decide_eq_true_iff];omega
theorem vm(h:i<ws.length):aW ws i=kT (ws.getD i bL):=by
 unfold aW cS kT;rw[az (0,1) (show(ws.map λw=>w.2.2)[i]?=some ws[i].2.2 by rw[OQ,OA h];rfl),az bL (OA h)]
theorem tM(ok:∀w∈ws,bz w)(rk:oE ws.length es)(h:im ws (OB 24) lys):eC ws.length (aH ws es ws.length) (fW ws) (aT ws) (aW ws) (cS (aQ ws lys)) where
 nd:=jU rk _ (OC _)
 mem:=kH rk
 srt:=(uK rk _ (OC _)).1
 win:=λi hi=>by
  have o:=ok _ (O6 hi);unfold fW aT;rw[az bL (OA hi)];exact⟨o.le,o.lt⟩
 an:=λi=>by
  by_cases c:i<ws.length
  ·rw[vm c];refine rM ok _ ?_;rw[az bL (OA c)];exact O6 c
  ·unfold aW cS;rw[OF,Q7 (by rw[OD];omega)];show 0≤val ((0,1):R);rw[kY];exact P3
 sn:=λt=>by
  by_cases c:t<24
  ·show 0≤val ((aQ ws lys).getD t (0,1));rw[i7 h c];exact E3 ok h t
  ·have e24:(aQ ws lys).length=24:=by
    unfold aQ;rw[kD];rfl
   unfold cS;rw[OF,Q7 (by omega)];show 0≤val ((0,1):R);rw[kY];exact P3
 cap:=λb d hb hd=>by
  have c:=cap ok h (λ_=>true) (λt=>decide (b≤t)&&decide (t≤d)) (Q1.mpr λ_ _=>Z).symm (λt _ z=>by cases z);have e0:FM ws (λt=>!(λ_=>true) t)=0:=vw ok;rw[e0] at c;have e1:FM ws (λt=>decide (b≤t)&&decide (t≤d))=sQ (λj=>b8 (decide (b≤fW ws j)&&decide (aT ws j≤d)) (aW ws j)) (OB ws.length):=by
   unfold FM;rw[i9 bL];exact aK λj hj=>by
    have jl:=ON.mp hj;rw[Hn (by rw[az bL (OA jl)];exact ok _ (O6 jl)) b d hd,vm jl];rfl
  have e2:sQ (λt=>b8 (true&&(decide (b≤t)&&decide (t≤d))) (iJ ws lys t)) (OB 24)=sQ (λt=>b8 (decide (t≤d)) (b8 (decide (b≤t)) (cS (aQ ws lys) t))) (OB 24):=aK λt ht=>by
   have tl:=ON.mp ht;have ev:cS (aQ ws lys) t=iJ ws lys t:=i7 h tl _;rw[ev]
   cases decide (b≤t)<;>cases decide (t≤d)<;>rfl
  rw[←e1,←e2];grind
theorem wB(ok:∀w∈ws,bz w)(rk:oE ws.length es)(h:im ws (OB 24) lys)(hs:∀r∈aQ ws lys,dU r):mz (cX ws es (aQ ws lys)).1=none:=by
 have oi:=dg (es:=es) rk ws.length (OC _);obtain⟨po,_⟩:=eN (ord:=aH ws es ws.length) (ss:=aQ ws lys) ok oi.lt hs 24;refine wF λj hj=>?_
 have jn:j<ws.length:=by rw[←po.len];exact hj
 have e:=LD (tM (es:=es) ok rk h) jn;rw[←jg ok oi.lt hs 24] at e;have a:=cv (n:=0) po.lf j;have e':val ((cX ws es (aQ ws lys)).1.getD j (0,1))=0:=e;have z:=(f6 a.bq.pos).mp e';have r:=a.red;refine gx r ⟨by decide,by decide⟩ ?_;rw[kY];exact e'
structure DU(ws:List Wk)(n t:Nat)(L0:List R)(s:R)(seen:List Nat)(st:rT):Prop where
 ok:vx n st
 sub:(st.2.2.map (·.1)).Sublist seen
 pc:∀i r,(i,r)∈st.2.2->fk (ws.getD i bL) t=true/\dU r/\0<val r/\val r=cS L0 i-cS st.1 i
 un:∀i,i∉st.2.2.map (·.1)->st.1.getD i (0,1)=L0.getD i (0,1)
 sum:sQ (λp:Pc=>val p.2) st.2.2+val st.2.1=val s
theorem DP(h:dU r)(hz:r≠(0,1)):0<val r:=by
 have n:=(gw h.bq.pos).mpr h.nn;by_cases z:val r=0
 ·exfalso;refine hz (gx h.red ⟨by decide,by decide⟩ ?_);rw[kY];exact z
 ·grind
theorem DU.step{ws:List Wk}{n t i:Nat}{L0:List R}{s:R}{seen:List Nat}{st:rT}(h:DU ws n t L0 s seen st)(hi:i<n)(ni:i∉seen):DU ws n t L0 s (seen++[i]) (bP ws t st i):=by
 have d1:=(h.ok.step (ws:=ws) (t:=t) hi).1;have nf:i∉st.2.2.map (·.1):=λz=>ni (h.sub.subset z)
 have al:=cv (n:=n) h.ok.lf i;have la:=iT al h.ok.rm;by_cases c:fk (ws.getD i bL) t=true/\dh (st.1.getD i (0,1)) st.2.1≠(0,1)
 ·have e:bP ws t st i=(st.1.set i (aY (st.1.getD i (0,1)) (dh (st.1.getD i (0,1)) st.2.1)),aY st.2.1 (dh (st.1.getD i (0,1)) st.2.1),st.2.2++[(i,dh (st.1.getD i (0,1)) st.2.1)]):=by
   unfold bP;rw[if_pos c]
  have u0:=h.un i nf;rw[e] at d1 ⊢;have il:i<st.1.length:=by rw[h.ok.len];exact hi
  have off:∀j x,j≠i->(st.1.set i x).getD j (0,1)=st.1.getD j (0,1):=λj x hj=>by
   rw[OF,Qe (λz=>hj z.symm),←OF]
  have on:∀x,(st.1.set i x).getD i (0,1)=x:=λx=>by
   rw[OF,Sb il];rfl
  refine⟨d1,?_,λj r hj=>?_,λj hj=>?_,?_⟩
  ·show((st.2.2++[(i,dh (st.1.getD i (0,1)) st.2.1)]).map (λp:Pc=>p.1)).Sublist _;rw[P0];exact WS.append h.sub (WT _)
  ·rcases Pn.mp hj with z|z
   ·obtain⟨a1,a2,a3,a4⟩:=h.pc j r z;have jn:j≠i:=λq=>nf (by rw[←q];exact OP.mpr ⟨_,z,Z⟩)
    refine⟨a1,a2,a3,?_⟩;show val r=cS L0 j-val ((st.1.set i _).getD j (0,1));rw[off j _ jn];exact a4
   ·cases OH.mp z
    refine⟨c.1,la,DP la c.2,?_⟩;show val (dh (st.1.getD i (0,1)) st.2.1)=val (L0.getD i (0,1))-val ((st.1.set i _).getD i (0,1));rw[on,eD al.bq.pos la.bq.pos,u0];grind
  ·have hj':j∉(st.2.2++[(i,dh (st.1.getD i (0,1)) st.2.1)]).map (·.1):=hj;rw[P0] at hj';have jn:j≠i:=λq=>hj' (OX _ (by rw[q];exact OJ))
   show(st.1.set i _).getD j (0,1)=_;rw[off j _ jn];exact h.un j λz=>hj' (P2 _ z)
  ·show sQ (λp:Pc=>val p.2) (st.2.2++[_])+val (aY st.2.1 _)=val s;rw[eY,eD h.ok.rm.bq.pos la.bq.pos];have:=h.sum;show _+(val (dh (st.1.getD i (0,1)) st.2.1)+0)+_=_;grind
 ·have e:bP ws t st i=st:=by
   unfold bP;rw[if_neg c]
  rw[e];exact⟨h.ok,h.sub.trans (List.sublist_append_left _ _),h.pc,h.un,h.sum⟩
theorem DU.fold{ws:List Wk}{n t:Nat}{L0:List R}{s:R}:∀{ord seen:List Nat} {st:rT},DU ws n t L0 s seen st->(∀i∈ord,i<n)->(seen++ord).Nodup->DU ws n t L0 s (seen++ord) (ord.foldl (bP ws t) st)
 | [],seen,st,h,_,_=>by rw[Qr];exact h
 |i::ord,seen,st,h,hl,nd=>by
  have e:seen++i::ord=(seen++[i])++ord:=by simp
  rw[e] at nd ⊢;have ni:i∉seen:=λz=>(Qd.mp (Qd.mp nd).1).2.2 i z i OJ Z
  exact DU.fold (h.step (hl i OJ) ni) (λj hj=>hl j (OL _ hj)) nd
theorem sV(okw:∀w∈ws,bz w)(ho:∀i∈ord,i<ws.length)(nd:ord.Nodup)(hs:∀r∈ss,dU r)(t:Nat):DU ws ws.length t (aO ws ord ss t).1 (ss.getD t (0,1)) ord (dr ws ord t (aO ws ord ss t).1 (ss.getD t (0,1))):=by
 obtain⟨h,hl⟩:=eN okw ho hs t;have d:vx ws.length ((aO ws ord ss t).1,ss.getD t (0,1),[]):=⟨h.len,h.lf,cv (n:=0) hs t,λp hp=>by cases hp⟩;have q:DU ws ws.length t (aO ws ord ss t).1 (ss.getD t (0,1)) [] ((aO ws ord ss t).1,ss.getD t (0,1),[]):=⟨d,WT _,(λi r hr=>by cases hr),(λi _=>Z),by show(0:Rat)+_=_;grind⟩;exact q.fold ho nd
theorem gN{α:Type}{f:α->Rat}:∀{l:List α},(∀x∈l,0≤f x)->sQ f l=0->∀x∈l,f x=0
 | [],_,_,x,hx=>by cases hx
 |y::l,h,e,x,hx=>by
  have h1:=h y OJ;have h2:=lX (f:=f) (l:=l) λz hz=>h z (OL _ hz)
  have e':f y+sQ f l=0:=e;rcases OO.mp hx with z|z
  ·rw[z];grind
  ·exact gN (λz hz=>h z (OL _ hz)) (by grind) x z
theorem FJ(l:List α):sQ (λx=>f x-g x) l=sQ f l-sQ g l:=by
 have e1:=eZ (f:=λx=>f x-g x) (g:=g) l;have e2:sQ (λx=>f x-g x+g x) l=sQ f l:=aK λx _=>by grind
 grind
theorem Bw(ok:∀w∈ws,bz w)(rk:oE ws.length es)(h:im ws (OB 24) lys)(ht:t<24):(eh (Wt (fW ws) (aT ws) t) (aH ws es ws.length) (cF (aH ws es ws.length) (fW ws) (aT ws) (aW ws) (cS (aQ ws lys)) t) (cS (aQ ws lys) t)).2=0:=by
 have E:=tM (es:=es) ok rk h;have tot:sQ (λt=>(eh (Wt (fW ws) (aT ws) t) (aH ws es ws.length) (cF (aH ws es ws.length) (fW ws) (aT ws) (aW ws) (cS (aQ ws lys)) t) (cS (aQ ws lys) t)).2) (OB 24)=0:=by
  have e1:sQ (λt=>(eh (Wt (fW ws) (aT ws) t) (aH ws es ws.length) (cF (aH ws es ws.length) (fW ws) (aT ws) (aW ws) (cS (aQ ws lys)) t) (cS (aQ ws lys) t)).2) (OB 24)=sQ (λt=>cS (aQ ws lys) t-sQ (λj=>cF (aH ws es ws.length) (fW ws) (aT ws) (aW ws) (cS (aQ ws lys)) t j-cF (aH ws es ws.length) (fW ws) (aT ws) (aW ws) (cS (aQ ws lys)) (t+1) j) (OB ws.length)) (OB 24):=aK λt _=>by
   have:=E.sum t;grind
  rw[e1,FJ,ph];have e2:sQ (λj=>sQ (λt=>cF (aH ws es ws.length) (fW ws) (aT ws) (aW ws) (cS (aQ ws lys)) t j-cF (aH ws es ws.length) (fW ws) (aT ws) (aW ws) (cS (aQ ws lys)) (t+1) j) (OB 24)) (OB ws.length)=sQ (aW ws) (OB ws.length):=aK λj hj=>by
   have te:=uA (λt=>cF (aH ws es ws.length) (fW ws) (aT ws) (aW ws) (cS (aQ ws lys)) t j) 0 24 (by decide);have z:=LD E (ON.mp hj);have e:sQ (λt=>cF (aH ws es ws.length) (fW ws) (aT ws) (aW ws) (cS (aQ ws lys)) t j-cF (aH ws es ws.length) (fW ws) (aT ws) (aW ws) (cS (aQ ws lys)) (t+1) j) (OB 24)=sQ (λt=>b8 (decide (0≤t)) (cF (aH ws es ws.length) (fW ws) (aT ws) (aW ws) (cS (aQ ws lys)) t j-cF (aH ws es ws.length) (fW ws) (aT ws) (aW ws) (cS (aQ ws lys)) (t+1) j)) (OB 24):=aK λt _=>by rw[decide_eq_true (OZ _),de]
   rw[e,te];rw[z];show aW ws j-0=aW ws j;grind
  have e3:sQ (cS (aQ ws lys)) (OB 24)=sQ (aW ws) (OB ws.length):=by
   have sa:=E1 ok h (λ_=>true) (Q1.mpr λ_ _=>Z).symm;have e0:FM ws (λt=>!(λ_=>true) t)=0:=vw ok;rw[e0,DX,i9 bL] at sa;have e4:sQ (cS (aQ ws lys)) (OB 24)=sQ (λt=>b8 true (iJ ws lys t)) (OB 24):=aK λt ht=>by
    rw[de];exact i7 h (ON.mp ht) _
   have e5:sQ (λi=>kT (ws.getD i bL)) (OB ws.length)=sQ (aW ws) (OB ws.length):=aK λj hj=>(vm (ON.mp hj)).symm
   rw[e4,sa,e5];grind
  rw[e2];have e3':sQ (λt=>cS (aQ ws lys) t) (OB 24)=sQ (aW ws) (OB ws.length):=e3;rw[e3'];grind
 exact gN (λt _=>(E.sti (E.nn t) t).rm) tot t (ON.mpr ht)
theorem xM(ok:∀w∈ws,bz w)(rk:oE ws.length es)(h:im ws (OB 24) lys)(hs:∀r∈aQ ws lys,dU r)(ht:t<24):sQ (λp:Pc=>val p.2) (dr ws (aH ws es ws.length) t (aO ws (aH ws es ws.length) (aQ ws lys) t).1 ((aQ ws lys).getD t (0,1))).2.2=iJ ws lys t:=by
 have oi:=dg (es:=es) rk ws.length (OC _);have nd:=jU (es:=es) rk ws.length (OC _);have p:=(sV (ord:=aH ws es ws.length) ok oi.lt nd hs t);have u:=Bw (es:=es) ok rk h ht;have q:=jr (ws:=ws) (t:=t) (n:=ws.length) (ord:=aH ws es ws.length) (st:=((aO ws (aH ws es ws.length) (aQ ws lys) t).1,(aQ ws lys).getD t (0,1),[])) (by
  obtain⟨hh,_⟩:=eN (ord:=aH ws es ws.length) (ss:=aQ ws lys) ok oi.lt hs t;exact⟨hh.len,hh.lf,cv (n:=0) hs t,λp hp=>by cases hp⟩) oi.lt
 have e:=congrArg Prod.snd q;have e':val (dr ws (aH ws es ws.length) t (aO ws (aH ws es ws.length) (aQ ws lys) t).1 ((aQ ws lys).getD t (0,1))).2.1=(eh (Wt (fW ws) (aT ws) t) (aH ws es ws.length) (cS (aO ws (aH ws es ws.length) (aQ ws lys) t).1) (cS (aQ ws lys) t)).2:=e;rw[jg ok oi.lt hs t,u] at e';have sm:=p.sum;rw[e'] at sm;have sv:=i7 h ht (0,1);rw[←sv];grind
theorem l7{ws:List Wk}{es:List Ln}(rk:oE ws.length es){a b:Nat}(ha:a<ws.length)(r:iy es a b)(le:aT ws a≤aT ws b):∀k,k≤ws.length->∀l1 l2,aH ws es k=l1++b::l2->a∈l1
 |0,_,l1,l2,e=>by
  have e':([]:List Nat)=l1++b::l2:=e
  cases l1<;>cases e'
 |k+1,h,l1,l2,e=>by
  have oi:=dg (es:=es) rk k (by omega);have ne:=oi.ne (by omega);have e':aH ws es k++[fJ ws es (b9 ws.length (aH ws es k))]=l1++b::l2:=e;rcases List.eq_nil_or_concat l2 with z | ⟨l3,x,z⟩
  ·subst z;have e2:=Xe e' Z;have eb:fJ ws es (b9 ws.length (aH ws es k))=b:=(List.cons.inj e2.2).1;rw[←e2.1];by_cases c:a∈aH ws es k
   ·exact c
   ·exfalso;have aw:a∈b9 ws.length (aH ws es k):=c9.mpr ⟨ha,c⟩;have m:=OM (jj (ws:=ws) rk ne);obtain⟨m1,m2⟩:=OU.mp m;rw[eb] at m1 m2;have mb:=eT.mp m1;have al:a∈eV ws (b9 ws.length (aH ws es k)):=eT.mpr ⟨aw,λj hj=>O7 le (mb.2 j hj)⟩;rw[RQ,S6] at m2;exact m2 a al (hU.mpr r)
  ·subst z;have e3:aH ws es k++[fJ ws es (b9 ws.length (aH ws es k))]=(l1++b::l3)++[x]:=by rw[e'];simp
   have e2:=Xe e3 Z;exact l7 rk ha r le k (by omega) l1 l3 e2.1
theorem wD(ok:∀w∈ws,bz w)(rk:oE ws.length es)(hs:∀r∈ss,dU r)(ha:a<ws.length)(hb:b<ws.length)(r:iy es a b)(le:aT ws a≤aT ws b)(hw:fk (ws.getD a bL) t=true)
  (hp:b∈(dr ws (aH ws es ws.length) t (aO ws (aH ws es ws.length) ss t).1 (ss.getD t (0,1))).2.2.map (·.1)):cS (aO ws (aH ws es ws.length) ss (t+1)).1 a=0:=by
 have oi:=dg (es:=es) rk ws.length (OC _);have nd:=jU (es:=es) rk ws.length (OC _);obtain⟨l1,l2,e⟩:=SY ((kH (es:=es) rk a).mpr ha);have bl:b∈l2:=by
  have hbm:=(kH (es:=es) rk b).mpr hb;rw[e] at hbm;rcases Pn.mp hbm with z|z
  ·obtain⟨m1,m2,e2⟩:=SY z;have e3:aH ws es ws.length=m1++b::(m2++a::l2):=by rw[e,e2];simp
   have am:=l7 rk ha r le ws.length (OC _) _ _ e3;rw[e] at nd;exact absurd Z ((Qd.mp nd).2.2 a (by rw[e2];exact P2 _ am) a OJ)
  ·rcases OO.mp z with z|z
   ·subst z;obtain⟨ps,_,hps⟩:=rk;exact absurd (iy.rank hps r) (PL _)
   ·exact z
 by_cases z:cS (aO ws (aH ws es ws.length) ss (t+1)).1 a=0
 ·exact z
 exfalso;have p:=sV (ord:=aH ws es ws.length) ok oi.lt nd hs t;obtain⟨hh,_⟩:=eN (ord:=aH ws es ws.length) (ss:=ss) ok oi.lt hs t;have d:vx ws.length ((aO ws (aH ws es ws.length) ss t).1,ss.getD t (0,1),[]):=⟨hh.len,hh.lf,cv (n:=0) hs t,λp hp=>by cases hp⟩;have q:=congrArg Prod.fst (jr (ws:=ws) (t:=t) d oi.lt);have q':cS (aO ws (aH ws es ws.length) ss (t+1)).1=(eh (λj=>fk (ws.getD j bL) t) (aH ws es ws.length) (cS (aO ws (aH ws es ws.length) ss t).1) (cS ss t)).1:=q;have nnL:∀j,0≤cS (aO ws (aH ws es ws.length) ss t).1 j:=λj=>(gw (cv (n:=0) hh.lf j).bq.pos).mpr (cv (n:=0) hh.lf j).nn
 have nnS:0≤cS ss t:=(gw (cv (n:=0) hs t).bq.pos).mpr (cv (n:=0) hs t).nn;have sti:xH (cS (aO ws (aH ws es ws.length) ss t).1) (cS ss t) (eh (λj=>fk (ws.getD j bL) t) (aH ws es ws.length) (cS (aO ws (aH ws es ws.length) ss t).1) (cS ss t)):=xH.fold nnL ⟨λ_ h=>h,λ_=>P3,nnS⟩;have pos:0<(eh (λj=>fk (ws.getD j bL) t) (l1++a::l2) (cS (aO ws (aH ws es ws.length) ss t).1) (cS ss t)).1 a:=by
  rw[←e];have:=sti.nn a (nnL a);rw[←q'] at this ⊢;grind
 have nd':=nd;rw[e] at nd';obtain⟨_,keep⟩:=nE nnL nnS nd' hw pos;have b1:b∉l1:=λz=>(Qd.mp nd').2.2 b z b (OL _ bl) Z
 have b2:b≠a:=λz=>(PZ.mp (Qd.mp nd').2.1).1 (by rw[←z];exact bl)
 have kb:=keep b b1 b2;rw[←e,←q'] at kb;obtain⟨⟨b',rr⟩,hm,hb'⟩:=OP.mp hp;have hb'':b'=b:=hb';subst hb'';obtain⟨_,_,v0,v1⟩:=p.pc _ _ hm;have kb':cS (dr ws (aH ws es ws.length) t (aO ws (aH ws es ws.length) ss t).1 (ss.getD t (0,1))).1 b'=cS (aO ws (aH ws es ws.length) ss t).1 b':=kb;grind
def cm(pl:List (List Pc))(t k:Nat):Pc:=(pl.getD t []).getD k (0,(0,1))
def IY(pl:List (List Pc))(t k i:Nat):List (Nat×Nat):=((OB k).filter λj=>decide ((cm pl t j).1=i)).map λj=>(t,j)
def Eh(pl:List (List Pc)):Nat->Nat->List (Nat×Nat)
 |0,_=>[]
 |t+1,i=>Eh pl t i++IY pl t (pl.getD t []).length i
def tP(pl:List (List Pc))(t i:Nat)(r:R):Nat->R
 |0=>r
 |k+1=>if(cm pl t k).1=i then bY (tP pl t i r k) (cm pl t k).2 else tP pl t i r k
def xF(pl:List (List Pc))(i:Nat):Nat->R
 |0=>(0,1)
 |t+1=>tP pl t i (xF pl i t) (pl.getD t []).length
theorem Cd(h:x∈IY pl t k i):x.1=t/\x.2<k/\(cm pl t x.2).1=i:=by
 obtain⟨j,hj,rfl⟩:=OP.mp h;obtain⟨h1,h2⟩:=OU.mp hj;exact⟨Z,ON.mp h1,of_decide_eq_true h2⟩
theorem oY{pl:List (List Pc)}{i:Nat}:∀{t:Nat} {x:Nat×Nat},x∈Eh pl t i->x.1<t/\x.2<(pl.getD x.1 []).length/\(cm pl x.1 x.2).1=i
 |0,x,h=>by cases h
 |t+1,x,h=>by
  rcases Pn.mp (show x∈Eh pl t i++IY pl t (pl.getD t []).length i from h) with z|z
  ·obtain⟨a,b,c⟩:=oY z;exact⟨by omega,b,c⟩
  ·obtain⟨a,b,c⟩:=Cd z;rw[a];exact⟨by omega,b,c⟩
structure rR(ws:List Wk)(es:List Ln)(pl:List (List Pc)):Prop where
 len:pl.length=24
 few:∀t,(pl.getD t []).length≤20
 pc:∀t k,t<24->k<(pl.getD t []).length->(cm pl t k).1<ws.length/\dU (cm pl t k).2/\0<val (cm pl t k).2/\fk (ws.getD (cm pl t k).1 bL) t=true
 nd:∀t j k,t<24->j<k->k<(pl.getD t []).length->(cm pl t j).1≠(cm pl t k).1
 fin:∀i,i<ws.length->xF pl i 24=(ws.getD i bL).2.2
 ne:∀i,i<ws.length->Eh pl 24 i≠[]
 lean:∀a b,(a,b)∈es->∀x∈Eh pl 24 a,∀y∈Eh pl 24 b,x.1<y.1∨(x.1=y.1/\x.2<y.2)
theorem Be{pl:List (List Pc)}{t i:Nat}{r:R}{N:Nat}(h:Bq 25882466482949286179863278649307923433294195500903155828261708777083304197655675043413266388030659964209410754393653789328972760953294720473500143200427572835208147172761078519773593353785008074840607407759949824000000000000000000000000 N r):∀k,k≤(pl.getD t []).length->(∀j,j<(pl.getD t []).length->dU (cm pl t j).2)->Bq 25882466482949286179863278649307923433294195500903155828261708777083304197655675043413266388030659964209410754393653789328972760953294720473500143200427572835208147172761078519773593353785008074840607407759949824000000000000000000000000 (N+256*k) (tP pl t i r k)
 |0,_,_=>h
 |k+1,hk,ha=>by
  have ih:=Be (i:=i) h k (by omega) ha;show Bq _ _ (if(cm pl t k).1=i then bY (tP pl t i r k) (cm pl t k).2 else tP pl t i r k)
  split
  ·exact(Bq.plus (by decide) ih (ha k (by omega)).bq).mono (Qi _) (by omega)
  ·exact ih.mono (Qi _) (by omega)
theorem Bd{ws:List Wk}{pl:List (List Pc)}(few:∀t,(pl.getD t []).length≤20)(pc:∀t k,t<24->k<(pl.getD t []).length->dU (cm pl t k).2)(i:Nat):∀t,t≤24->Bq 25882466482949286179863278649307923433294195500903155828261708777083304197655675043413266388030659964209410754393653789328972760953294720473500143200427572835208147172761078519773593353785008074840607407759949824000000000000000000000000 (5120*t) (xF pl i t)
 |0,_=>(DM.mono (Qi _) (OC _))
 |t+1,h=>by
  have f:=few t;exact(Be (Bd (ws:=ws) few pc i t (by omega)) _ (OC _) λj hj=>pc t j (by omega) hj).mono (Qi _) (by omega)
theorem kO{pl:List (List Pc)}{t i:Nat}{r:R}(hr:0<r.2):∀k,(∀j,j<k->0<(cm pl t j).2.2)->0<(tP pl t i r k).2/\val (tP pl t i r k)=val r+sQ (λj=>b8 (decide ((cm pl t j).1=i)) (val (cm pl t j).2)) (OB k)
 |0,_=>⟨hr,by show val r=val r+0;grind⟩
 |k+1,h=>by
  obtain⟨p,e⟩:=kO (i:=i) hr k λj hj=>h j (by omega)
  have hk:=h k (by omega);rw[P4,eY];show 0<(if(cm pl t k).1=i then bY (tP pl t i r k) (cm pl t k).2 else tP pl t i r k).2/\val (if(cm pl t k).1=i then bY (tP pl t i r k) (cm pl t k).2 else tP pl t i r k)=val r+(_+(b8 (decide ((cm pl t k).1=i)) (val (cm pl t k).2)+0));by_cases c:(cm pl t k).1=i
  ·rw[if_pos c,decide_eq_true c,de];refine⟨(hJ (Qf p hk)).pos,?_⟩;rw[iW p hk,e];grind
  ·rw[if_neg c,decide_eq_false c,bZ,e];exact⟨p,by grind⟩
theorem nS{ws:List Wk}{ord:List Nat}{ss:List R}:∀{N t:Nat},t<N->(aO ws ord ss N).2.length=N->(aO ws ord ss N).2.getD t []=(dr ws ord t (aO ws ord ss t).1 (ss.getD t (0,1))).2.2
 |0,t,h,_=>absurd h (Sn _)
 |N+1,t,h,hl=>by
  have e:(aO ws ord ss (N+1)).2=(aO ws ord ss N).2++[(dr ws ord N (aO ws ord ss N).1 (ss.getD N (0,1))).2.2]:=Z;have l:(aO ws ord ss N).2.length=N:=by
   rw[e,Pk] at hl;have:[(dr ws ord N (aO ws ord ss N).1 (ss.getD N (0,1))).2.2].length=1:=Z;omega
  rw[e,OF];by_cases c:t<N
  ·rw[Qv (by omega),←OF];exact nS c l
  ·have:t=N:=by omega
   subst this;rw[QZ (by omega),l,Vo];rfl
theorem uB{q:List Pc}{f:Pc->Rat}(nd:(q.map (·.1)).Nodup):sQ (λp:Pc=>b8 (decide (p.1=i)) (f p)) q=0∨∃p∈q,p.1=i/\sQ (λp:Pc=>b8 (decide (p.1=i)) (f p)) q=f p:=by
 induction q with
 |nil=>exact .inl Z
 |cons p q ih=>
  have nd':(p.1::q.map (·.1)).Nodup:=nd;obtain⟨n1,n2⟩:=PZ.mp nd';by_cases c:p.1=i
  ·refine .inr ⟨p,OJ,c,?_⟩;have z:sQ (λp:Pc=>b8 (decide (p.1=i)) (f p)) q=sQ (λ_:Pc=>0*(0:Rat)) q:=aK λx hx=>by
    rw[decide_eq_false (λe=>n1 (by rw[c,←e];exact OP.mpr ⟨x,hx,Z⟩)),bZ];grind
   show b8 (decide (p.1=i)) (f p)+sQ _ q=f p;rw[z,dB,decide_eq_true c,de];grind
  ·have e:sQ (λp:Pc=>b8 (decide (p.1=i)) (f p)) (p::q)=sQ (λp:Pc=>b8 (decide (p.1=i)) (f p)) q:=by
    show b8 (decide (p.1=i)) (f p)+sQ _ q=_;rw[decide_eq_false c,bZ];grind
   rw[e];rcases ih n2 with z | ⟨x,hx,e1,e2⟩
   ·exact .inl z
   ·exact .inr ⟨x,OL _ hx,e1,e2⟩
theorem sT(len0:ws.length=ws0.length)(amt:∀i,i<ws.length->(ws.getD i bL).2.2=(ws0.getD i bL).2.2)(wid:∀i,i<ws.length->(ws0.getD i bL).1≤(ws.getD i bL).1/\(ws.getD i bL).2.1≤(ws0.getD i bL).2.1)
  (lns:∀a b,(a,b)∈es->a<ws.length/\b<ws.length/\(ws.getD a bL).1≤(ws.getD b bL).1/\(ws.getD a bL).2.1≤(ws.getD b bL).2.1) (ok:∀w∈ws,bz w) (w8:ws.length≤20) (rk:oE ws.length es) (h:im ws (OB 24) lys) (hs:∀r∈aQ ws lys,dU r):rR ws0 es (cX ws es (aQ ws lys)).2:=by
 have oi:=dg (es:=es) rk ws.length (OC _);have nd:=jU (es:=es) rk ws.length (OC _);have E:=tM (es:=es) ok rk h;obtain⟨po,pl24⟩:=eN (ord:=aH ws es ws.length) (ss:=aQ ws lys) ok oi.lt hs 24;have PC:=λt=>sV (ord:=aH ws es ws.length) ok oi.lt nd hs t
 have at_:∀t,t<24->(cX ws es (aQ ws lys)).2.getD t []=(dr ws (aH ws es ws.length) t (aO ws (aH ws es ws.length) (aQ ws lys) t).1 ((aQ ws lys).getD t (0,1))).2.2:=λt ht=>nS ht pl24
 have pv:=λt=>jg (ord:=aH ws es ws.length) (ss:=aQ ws lys) ok oi.lt hs t
 generalize hpl:(cX ws es (aQ ws lys)).2=pl at at_;have plen:pl.length=24:=by rw[←hpl];exact pl24
 have few:∀t,(pl.getD t []).length≤20:=λt=>by
  rw[OF]
  cases e:pl[t]? with
  |none=>exact OZ _
  |some q=>
   have m:q∈(aO ws (aH ws es ws.length) (aQ ws lys) 24).2:=by
    have:=OM e;rw[←hpl] at this;exact this
   have:=(po.pc q m).1;have l:=oi.len;show q.length≤20;omega
 have mem:∀t k,t<24->k<(pl.getD t []).length->((cm pl t k).1,(cm pl t k).2)∈(dr ws (aH ws es ws.length) t (aO ws (aH ws es ws.length) (aQ ws lys) t).1 ((aQ ws lys).getD t (0,1))).2.2:=λt k ht hk=>by
  rw[←at_ t ht];unfold cm;rw[az (0,(0,1)) (OA hk)];exact O6 hk
 have pc:∀t k,t<24->k<(pl.getD t []).length->(cm pl t k).1<ws.length/\fk (ws.getD (cm pl t k).1 bL) t=true/\dU (cm pl t k).2/\0<val (cm pl t k).2:=λt k ht hk=>by
  have m:=mem t k ht hk;obtain⟨a,b,c,_⟩:=(PC t).pc _ _ m;exact⟨((PC t).ok.pc _ m).1,a,b,c⟩
 have ndt:∀t,t<24->((pl.getD t []).map (·.1)).Nodup:=λt ht=>by
  rw[at_ t ht];exact(PC t).sub.nodup nd
 have ndj:∀t j k,t<24->j<k->k<(pl.getD t []).length->(cm pl t j).1≠(cm pl t k).1:=λt j k ht hj hk=>by
  have p:=P5.mp (ndt t ht) j k (by rw[OD];omega) (by rw[OD];exact hk) hj;unfold cm;rw[az (0,(0,1)) (OA (show j<(pl.getD t []).length by omega)),az (0,(0,1)) (OA hk)];rw[R4,R4] at p;exact p
 have turnv:∀t i,t<24->sQ (λj=>b8 (decide ((cm pl t j).1=i)) (val (cm pl t j).2)) (OB (pl.getD t []).length)=cS (aO ws (aH ws es ws.length) (aQ ws lys) t).1 i-cS (aO ws (aH ws es ws.length) (aQ ws lys) (t+1)).1 i:=λt i ht=>by
  have e:sQ (λj=>b8 (decide ((cm pl t j).1=i)) (val (cm pl t j).2)) (OB (pl.getD t []).length)=sQ (λp:Pc=>b8 (decide (p.1=i)) (val p.2)) (pl.getD t []):=(i9 (f:=λp:Pc=>b8 (decide (p.1=i)) (val p.2)) (0,(0,1)) (pl.getD t [])).symm;rw[e];by_cases c:i∈(pl.getD t []).map (·.1)
  ·obtain⟨⟨i',r⟩,hm,e1⟩:=OP.mp c;have e1':i'=i:=e1;subst e1';rcases uB (i:=i') (f:=λp:Pc=>val p.2) (ndt t ht) with z | ⟨p,hp,e2,e3⟩
   ·exfalso;have hm':=hm;rw[at_ t ht] at hm';obtain⟨_,_,v0,_⟩:=(PC t).pc _ _ hm';have:=gN (f:=λp:Pc=>b8 (decide (p.1=i')) (val p.2)) (l:=pl.getD t []) (λx hx=>fe _ (by
     have hx':=hx;rw[at_ t ht] at hx';obtain⟨_,_,w0,_⟩:=(PC t).pc x.1 x.2 hx';exact Qu w0)) z _ hm
    rw[decide_eq_true Z,de] at this;have this':val r=0:=this;grind
   ·rw[e3];have hp':=hp;rw[at_ t ht] at hp';obtain⟨_,_,_,v1⟩:=(PC t).pc p.1 p.2 hp';rw[e2] at v1;exact v1
  ·have z:sQ (λp:Pc=>b8 (decide (p.1=i)) (val p.2)) (pl.getD t [])=sQ (λ_:Pc=>0*(0:Rat)) (pl.getD t []):=aK λx hx=>by
    rw[decide_eq_false (λe=>c (by rw[←e];exact OP.mpr ⟨x,hx,Z⟩)),bZ];grind
   rw[at_ t ht] at c;have u:=(PC t).un i c;have u':cS (aO ws (aH ws es ws.length) (aQ ws lys) (t+1)).1 i=cS (aO ws (aH ws es ws.length) (aQ ws lys) t).1 i:=congrArg val u;rw[z,dB,u'];grind
 have dnv:∀i t,t≤24->0<(xF pl i t).2/\val (xF pl i t)=cS (aO ws (aH ws es ws.length) (aQ ws lys) 0).1 i-cS (aO ws (aH ws es ws.length) (aQ ws lys) t).1 i:=λi t=>by
  induction t with
  |zero=>intro _;exact⟨by show(0:Int)<1;decide,by show val ((0,1):R)=_;rw[kY];grind⟩
  |succ t ih=>
   intro ht;obtain⟨p,e⟩:=ih (by omega);obtain⟨p2,e2⟩:=kO (pl:=pl) (t:=t) (i:=i) p (pl.getD t []).length λj hj=>(pc t j (by omega) hj).2.2.1.bq.pos
   refine⟨p2,?_⟩;show val (tP pl t i (xF pl i t) (pl.getD t []).length)=_;rw[e2,e,turnv t i (by omega)];grind
 have a0:∀i,i<ws.length->val (xF pl i 24)=kT (ws.getD i bL):=λi hi=>by
  have e:=(dnv i 24 (OC _)).2;rw[pv 24,LD E hi] at e;have z:cS (aO ws (aH ws es ws.length) (aQ ws lys) 0).1 i=kT (ws.getD i bL):=by
   rw[pv 0];exact vm hi
  rw[z] at e;rw[e];grind
 have pos0:∀i,i<ws.length->0<kT (ws.getD i bL):=λi hi=>by
  rw[az bL (OA hi)];exact tU (ok _ (O6 hi))
 refine⟨plen,few,λt k ht hk=>?_,ndj,λi hi=>?_,λi hi=>?_,λa b hab x hx y hy=>?_⟩
 ·obtain⟨p1,p2,p3,p4⟩:=pc t k ht hk;refine⟨by rw[←len0];exact p1,p3,p4,?_⟩;obtain⟨w1,w2⟩:=wid _ p1;unfold fk at p2 ⊢;rw[O2,decide_eq_true_iff,decide_eq_true_iff] at p2 ⊢;omega
 ·have il:i<ws.length:=by rw[len0];exact hi
  rw[←amt i il];have o:=(ok _ (O6 il)).am;have bq:=Bd (ws:=ws) few (λt k ht hk=>(pc t k ht hk).2.2.1) i 24 (OC _);refine gx bq.red ?_ (a0 i il);rw[az bL (OA il)];exact(rN o).red
 ·intro e;have il:i<ws.length:=by rw[len0];exact hi
  have z:∀t,t≤24->Eh pl t i=[]->val (xF pl i t)=0:=λt=>by
   induction t with
   |zero=>intro _ _;exact kY
   |succ t ih=>
    intro ht he;have he':Eh pl t i++IY pl t (pl.getD t []).length i=[]:=he;obtain⟨h1,h2⟩:=List.append_eq_nil_iff.mp he';have v:=kO (pl:=pl) (t:=t) (i:=i) (dnv i t (by omega)).1 (pl.getD t []).length λj hj=>(pc t j (by omega) hj).2.2.1.bq.pos
    show val (tP pl t i (xF pl i t) (pl.getD t []).length)=0;rw[v.2,ih (by omega) h1];have q:sQ (λj=>b8 (decide ((cm pl t j).1=i)) (val (cm pl t j).2)) (OB (pl.getD t []).length)=sQ (λ_:Nat=>0*(0:Rat)) (OB (pl.getD t []).length):=aK λj hj=>by
     rw[decide_eq_false (λc=>by
      have m:(t,j)∈IY pl t (pl.getD t []).length i:=OP.mpr ⟨j,OU.mpr ⟨hj,decide_eq_true c⟩,Z⟩;rw[h2] at m
      cases m),bZ]
     grind
    rw[q,dB];grind
  have v:=z 24 (OC _) e;rw[a0 i il] at v;have:=pos0 i il;grind
 ·obtain⟨x1,x2,x3⟩:=oY hx;obtain⟨y1,y2,y3⟩:=oY hy;obtain⟨al,bl,fab,lab⟩:=lns a b hab;have px:=pc x.1 x.2 x1 x2;have py:=pc y.1 y.2 y1 y2;rw[x3] at px;rw[y3] at py;have wx:=px.2.1;have wy:=py.2.1;unfold fk at wx wy;rw[O2,decide_eq_true_iff,decide_eq_true_iff] at wx wy;by_cases c:x.1<y.1
  ·exact .inl c
  by_cases c2:x.1=y.1
  ·refine .inr ⟨c2,?_⟩;by_cases c3:x.2<y.2
   ·exact c3
   exfalso;obtain⟨ps,_,hps⟩:=id rk;have irr:a≠b:=λe=>by
    have:=iy.rank hps (iy.one hab);rw[e] at this;exact PL _ this
   have ne:x.2≠y.2:=λe=>by
    rw[c2,e,y3] at x3;exact irr x3.symm
   have lt:y.2<x.2:=by omega
   rw[c2] at x2 x3;have sub:=(PC y.1).sub;rw[←at_ y.1 y1] at sub;have ex:((pl.getD y.1 []).map (·.1))[x.2]?=some a:=by
    rw[OQ,OA x2];have e:=az (0,(0,1)) (OA x2);unfold cm at x3;rw[e] at x3;exact congrArg some x3
   have ey:((pl.getD y.1 []).map (·.1))[y.2]?=some b:=by
    rw[OQ,OA y2];have e:=az (0,(0,1)) (OA y2);unfold cm at y3;rw[e] at y3;exact congrArg some y3
   generalize (pl.getD y.1 []).map (·.1)=zs at sub ex ey;obtain⟨hy',ey'⟩:=OV.mp ey;have d:zs.drop y.2=b::zs.drop (y.2+1):=by rw[List.drop_eq_getElem_cons hy',ey']
   have am:a∈zs.drop (y.2+1):=by
    refine OM (i:=x.2-(y.2+1)) ?_;rw[Wm,show y.2+1+(x.2-(y.2+1))=x.2 by omega];exact ex
   have sb:(b::zs.drop (y.2+1)).Sublist (aH ws es ws.length):=by
    rw[←d];exact(List.drop_sublist _ _).trans sub
   obtain⟨r1,r2,e,hb1,hs2⟩:=List.cons_sublist_iff.mp sb;obtain⟨m1,m2,e2⟩:=SY hb1;have e3:aH ws es ws.length=m1++b::(m2++r2):=by rw[e,e2];simp
   have ain:=l7 rk al (.one hab) lab ws.length (OC _) _ _ e3;rw[e] at nd;exact(Qd.mp nd).2.2 a (by rw[e2];exact P2 _ ain) a (hs2.subset am) Z
  ·exfalso;have hw:fk (ws.getD a bL) y.1=true:=by
    unfold fk;rw[O2,decide_eq_true_iff,decide_eq_true_iff];omega
   have hb:b∈(dr ws (aH ws es ws.length) y.1 (aO ws (aH ws es ws.length) (aQ ws lys) y.1).1 ((aQ ws lys).getD y.1 (0,1))).2.2.map (·.1):=by
    have m:=mem y.1 y.2 y1 y2;rw[y3] at m;exact OP.mpr ⟨_,m,Z⟩
   have d:=wD ok rk hs al bl (.one hab) lab hw hb;have mx:=mem x.1 x.2 x1 x2;rw[x3] at mx;obtain⟨_,_,v0,v1⟩:=(PC x.1).pc _ _ mx;have zl:cS (aO ws (aH ws es ws.length) (aQ ws lys) x.1).1 a=0:=by
    rw[pv] at d ⊢;have q:=E.dn' (y.1+1) a (x.1-(y.1+1));rw[show y.1+1+(x.1-(y.1+1))=x.1 by omega] at q;have n0:=E.nn x.1 a;grind
   have n1:0≤cS (dr ws (aH ws es ws.length) x.1 (aO ws (aH ws es ws.length) (aQ ws lys) x.1).1 ((aQ ws lys).getD x.1 (0,1))).1 a:=by
    have g:=cv (n:=0) (PC x.1).ok.lf a;exact(gw g.bq.pos).mpr g.nn
   grind
structure KO(K:Oz)(H:Hp)(v:V)(ws:List Wk)(es:List Ln):Prop where
 sv:MQ K H v ws es
 w8:ws.length≤20
 ok:∀w∈ws,bz w
 eok:ub ws.length es
 rk:oE ws.length es
 e8:es.length≤20
theorem KO.sh{K:Oz}{H:Hp}{v:V}{ws:List Wk}{es:List Ln}(h:KO K H v ws es):Kc ws es:=⟨by have:=h.w8;omega,λw hw=>⟨by have:=(h.ok w hw).le;have:=(h.ok w hw).lt;omega,(h.ok w hw).lt,(h.ok w hw).am.wf.mono (by decide)⟩,h.eok⟩
def ky(ws:List Wk)(f l:Nat->Int):List Wk:=(OB ws.length).map λi=>((f i).toNat,(l i).toNat,(ws.getD i bL).2.2)
theorem tO(ws:List Wk)(f l:Nat->Int):(ky ws f l).length=ws.length:=by unfold ky;rw[OD,Pi]
theorem EH(h:i<ws.length):(ky ws f l).getD i bL=((f i).toNat,(l i).toNat,(ws.getD i bL).2.2):=by
 refine az bL ?_;unfold ky;rw[OQ,Q2 h];rfl
theorem HQ(h:iU n f l=none)(hi:i<n):f i≤l i:=by
 unfold iU at h;rw[Uo] at h;have:=h i (ON.mpr hi);by_cases c:l i<f i
 ·exact absurd (decide_eq_true c) this
 ·omega
theorem ug{ws:List Wk}(ok:∀w∈ws,bz w)(h:i<ws.length):bz (ws.getD i bL):=by
 rw[az bL (OA h)];exact ok _ (O6 h)
theorem xJ(ok:∀w∈ws,bz w)(h:ii ws es f l)(hi:i<ws.length):0≤f i/\f i<24/\0≤l i/\l i<24/\((ws.getD i bL).1:Int)≤f i/\l i≤((ws.getD i bL).2.1:Int):=by
 obtain⟨j,hj,_,e1⟩:=h.a.att i hi;obtain⟨k,hk,_,e2⟩:=h.b.att i hi;have oj:=ug ok hj;have okk:=ug ok hk;have a:=oj.le;have b:=oj.lt;have c:=okk.lt;have u1:=h.a.up i i hi hi (.inl Z);have u2:=h.b.up i i hi hi (.inl Z);unfold vF at e1 u1;unfold vL at e2 u2;omega
theorem EG(ok:∀w∈ws,bz w)(h:ii ws es f l)(nb:iU ws.length f l=none):∀w∈ky ws f l,bz w:=λw hw=>by
 obtain⟨i,hi,rfl⟩:=OP.mp hw;have il:=ON.mp hi;have q:=HQ nb il;have b:=xJ ok h il;have o:=ug ok il;exact⟨by show(f i).toNat≤(l i).toNat;omega,by show(l i).toNat<24;omega,o.am⟩
theorem Dy{K:Oz}{H:Hp}{u:V}{ws:List Wk}{es:List Ln}{f l:Nat->Int}(ok:∀w∈ws,bz w)(h:ii ws es f l)(d:bv K H u (.tuple ((OB ws.length).map (wX ws f l)))):gj K H u (ky ws f l):=by
 cases d with
 | @tup p xs ds hS hA=>
  refine⟨p,xs,Z,hS,?_⟩;have key:∀(zs:List Nat) (xs:List V),(∀i∈zs,i<ws.length)->bh K H xs (zs.map (wX ws f l))->cG (xG K H) xs (zs.map λi=>((f i).toNat,(l i).toNat,(ws.getD i bL).2.2)):=by
   intro zs
   induction zs with
   |nil=>intro xs _ d;cases d;exact .nil
   |cons i zs ih=>
    intro xs hz d
    cases d with
    | @cons x _ xs _ dx dt=>
     refine .cons ?_ (ih _ (λj hj=>hz j (OL _ hj)) dt);have b:=xJ ok h (hz i OJ)
     cases dx with
     | @tup p ys _ hS hA=>
      cases hA with
      |cons d1 d2=>
       cases d2 with
       |cons d3 d4=>
        cases d4 with
        |cons d5 d6=>
         cases d1
         cases d3
         cases d6
         cases d5 with
         | @tup q zs _ hS2 hA2=>
          cases hA2 with
          |cons e1 e2=>
           cases e2 with
           |cons e3 e4=>
            cases e1
            cases e3
            cases e4
            refine⟨p,.ref q,Z,?_,⟨q,Z,hS2⟩⟩;show bu K H p [.int ((f i).toNat:Nat),.int ((l i).toNat:Nat),.ref q];rw[show(((f i).toNat:Nat):Int)=f i by omega,show(((l i).toNat:Nat):Int)=l i by omega];exact hS
  exact key _ _ (λi hi=>ON.mp hi) hA
noncomputable def Mv (ws:List Wk) (es:List Ln) (f l:Nat->Int) (lys:List Ly):PyData:=J7 (cX (ky ws f l) es (aQ (ky ws f l) lys)).2
def qH(K:Oz):Sp:=λvs H Q _=>∃(v:V) (ws:List Wk) (es:List Ln),vs=[v]/\MQ K H v ws es/\Kc ws es/\(∀f l:Nat->Int,ii ws es f l->iU ws.length f l=none)/\∀(f l:Nat->Int) (u:V) (H':Hp),aE H H'->ii ws es f l->iU ws.length f l=none->bv K H' u (.tuple ((OB ws.length).map (wX ws f l)))->Q u H'
def mS(K:Oz):Sp:=λvs H Q _=>∃(v:V) (ws:List Wk) (es:List Ln),vs=[v]/\KO K H v ws es/\(∀f l:Nat->Int,ii ws es f l->iU ws.length f l=none)/\∀(f l:Nat->Int) (lys:List Ly) (w:V) (H':Hp),aE H H'->ii ws es f l->iU ws.length f l=none->im (ky ws f l) (OB 24) lys->bv K H' w (Mv ws es f l lys)->Q w H'
theorem jX(h:im ws ls lys):ls.length≤24->(∀t∈ls,t<24)->∀y∈lys,ka ws.length y:=by
 induction h with
 |nil _=>intro _ _ y hy;cases hy
 |cons h tl ih=>
  intro h1 h2 y hy;rcases OO.mp hy with z|z
  ·rw[z];exact AK h.1.inn h1 h2
  ·exact ih (O7 (Pt _ _) h1) (λt ht=>h2 t (OU.mp ht).1) y z
theorem jH{ws:List Wk}{lys:List Ly}(ok:∀w∈ws,bz w)(hw:ws.length≤20)(lok:∀y∈lys,ka ws.length y):∀r∈aQ ws lys,dU r:=λr hr=>(yf (ss:=Pg 24 (0,1)) ok hw lok (λr hr=>by rw[List.eq_of_mem_replicate hr];exact⟨DM.mono (Qi _) (by decide),UA _⟩) r hr).am (by decide)
def Ot(K:Oz)(C:Addr)(H:Hp)(u:V)(pd:PyData):Option Nat->Prop
 |none=>∃p x l,u=.ref p/\bu K H p [x,.ref l]/\bv K H x pd/\H l=some (.lst [])
 |some i=>∃p l x dd,u=.ref p/\bu K H p [.ref x,.ref l]/\H x=some (J1 x C dd)/\H dd=some (dO dd [("work",.int (i:Nat))])/\H l=some (.lst [.bl true,.bl true,.bl true,.bl false])
theorem Bi{K:Oz}{H:Hp}{v:V}{r:R}(d:bv K H v (dR r)):RV K H v r:=by
 cases d with
 | @tup q zs _ hS2 hA2=>
  cases hA2 with
  |cons e1 e2=>
   cases e2 with
   |cons e3 e4=>
    cases e1
    cases e3
    cases e4
    exact⟨q,Z,hS2⟩
theorem DE{K:Oz}{H:Hp}{v:V}{c:Pc}(d:bv K H v (LH c)):BC K H v c:=by
 cases d with
 | @tup q zs _ hS2 hA2=>
  cases hA2 with
  |cons e1 e2=>
   cases e2 with
   |cons e3 e4=>
    cases e1
    cases e4
    exact⟨q,_,Z,hS2,Bi e3⟩
theorem mK{α:Type}{K:Oz}{H:Hp}{f:α->PyData}{P:V->α->Prop}(h:∀v x,bv K H v (f x)->P v x):∀{l:List α} {xs:List V},bh K H xs (l.map f)->cG P xs l
 | [],_,d=>by cases d;exact .nil
 |x::l,_,d=>by
  cases d with
  |cons d1 d2=>exact .cons (h _ _ d1) (mK h d2)
theorem DC{K:Oz}{H:Hp}{v:V}{q:List Pc}(d:bv K H v (J6 q)):qc K H v q:=by
 cases d with
 | @tup p xs _ hS hA=>exact⟨p,xs,Z,hS,mK (P:=BC K H) (λ_ _ z=>DE z) hA⟩
theorem DD{K:Oz}{H:Hp}{u:V}{pl:List (List Pc)}(d:bv K H u (J7 pl)):∃p xs,u=.ref p/\bu K H p xs/\cG (qc K H) xs pl:=by
 cases d with
 | @tup p xs _ hS hA=>exact⟨p,xs,Z,hS,mK (P:=qc K H) (λ_ _ z=>DC z) hA⟩
def NQ(K:Oz)(H:Hp)(v:V)(x:Nat×Nat):Prop:=∃p,v=.ref p/\bu K H p [.int (x.1:Nat),.int (x.2:Nat)]
structure Ou(K:Oz)(H:Hp)(D:Addr)(rows:List Addr)(n:Nat)(S:Nat->List (Nat×Nat)):Prop where
 top:H D=some (.lst (rows.map V.ref))
 len:rows.length=n
 nd:rows.Nodup
 ne:D∉rows
 row:∀i r,rows[i]?=some r->∃ys,H r=some (.lst ys)/\cG (NQ K H) ys (S i)
theorem Dx(ok:∀w∈ws,bz w)(eok:ub ws.length es)(h:ii ws es f l)(a b:Nat)(hab:(a,b)∈es):a<(ky ws f l).length/\b<(ky ws f l).length/\((ky ws f l).getD a bL).1≤((ky ws f l).getD b bL).1/\((ky ws f l).getD a bL).2.1≤((ky ws f l).getD b bL).2.1:=by
 rw[show es=[] from eok] at hab
 cases hab
theorem Bc(ok:∀w∈ws,bz w)(w8:ws.length≤20)(eok:ub ws.length es)(rk:oE ws.length es)(h:ii ws es f l)(nb:iU ws.length f l=none)(ly:im (ky ws f l) (OB 24) lys):rR ws es (cX (ky ws f l) es (aQ (ky ws f l) lys)).2:=by
 have ok':=EG ok h nb;have len:=tO ws f l;refine sT len (λi hi=>?_) (λi hi=>?_) (Dx ok eok h) ok' (by omega) (by rw[len];exact rk) ly (jH ok' (by omega) (jX ly (by decide) λt ht=>ON.mp ht))
 ·rw[EH (by omega)]
 ·have il:i<ws.length:=by omega
  rw[EH il];have b:=xJ ok h il;show _≤(f i).toNat/\(l i).toNat≤_;omega
def Os(K:Oz)(t s lw:Addr)(m:Int)(en i:Nat)(r:Int)(H1:Hp):L2.St->Hp->Prop:=λσ H'=>∃a b:Nat,σ=[some (.ref t),some (.int m),some (.int en),some (.ref lw),some (.int (i:Nat)),some (.int (a:Nat)),some (.int (b:Nat)),some (.int r)]/\a≤b/\b<24/\d7 t H1 H'/\vo K H' t s
theorem pD:¬iy [] a b:=λh=>by
 cases h with
 |one h=>cases h
 |step h _=>cases h
theorem qd(h:ii ws [] f l)(hi:i<ws.length):f i=((ws.getD i bL).1:Int)/\l i=((ws.getD i bL).2.1:Int):=by
 obtain⟨j,_,z,e⟩:=h.a.att i hi;obtain⟨k,_,y,g⟩:=h.b.att i hi;rcases z with z|z
 ·rcases y with y|y
  ·rw[z] at e;rw[y] at g;have g':- l i=-((ws.getD i bL).2.1:Int):=g;exact⟨e,by omega⟩
  ·exact absurd y pD
 ·exact absurd z pD
theorem vf(ok:∀w∈ws,bz w)(f l:Nat->Int)(h:ii ws [] f l):iU ws.length f l=none:=rL λj hj=>by
 obtain⟨a,b⟩:=qd h hj;have:=(ug ok hj).le;omega
theorem tN(h:ii ws [] f l):ky ws f l=ws:=by
 refine WU λi=>?_
 by_cases hi:i<ws.length
 ·unfold ky;rw[OQ,Q2 hi];obtain⟨a,b⟩:=qd h hi;show some ((f i).toNat,(l i).toNat,(ws.getD i bL).2.2)=_;rw[a,b,RM,RM,OF,OA hi];rfl
 ·rw[Q7 (by rw[tO];omega),Q7 (by omega)]
theorem fg(n:Nat):oE n []:=⟨λi=>i,λ_ h=>h,λ_ _ h=>by cases h⟩
theorem xm{z:Int}(h0:0≤z)(h:z≤3712529797363659169186468921117261837482364434277531982552264807327395690973815529780151756606928400960107528943425763712337056538406767796532469112140080186008009621859965818866174375367174479376680380006400000000000000000000000):z.natAbs<2^4000:=PN (show z.natAbs≤3712529797363659169186468921117261837482364434277531982552264807327395690973815529780151756606928400960107528943425763712337056538406767796532469112140080186008009621859965818866174375367174479376680380006400000000000000000000000 by omega) (by decide)
def vM(_:Oz)(C:Addr):Sp:=λvs H Q _=>∃(a:Addr) (v:V),vs=[.ref a,v]/\H a=some (jt a C none)/\∀d,H d=none->d≠a->Q .non (upd (upd H a (jt a C (some d))) d (dO d [("text",v)]))
def vN(_:Oz)(C:Addr):Sp:=λvs H Q _=>∃(a:Addr) (v:V),vs=[.ref a,v]/\H a=some (jt a C none)/\∀d,H d=none->d≠a->Q .non (upd (upd H a (jt a C (some d))) d (dO d [("text",v)]))
def qF(K:Oz):Sp:=λvs H Q _=>∃(v:V) (d:PyData),vs=[v]/\bv K H v d/\Q (.bl (gu d)) H
def lM(K:Oz):Sp:=λvs H Q _=>∃(v:V) (d:PyData) (m:Nat),vs=[v,.int m]/\bv K H v d/\Q (.bl (oM m d)) H
def qG(K:Oz):Sp:=λvs H Q _=>∃(v:V) (d:PyData),vs=[v]/\bv K H v d/\Q (.bl (jO d)) H
theorem iA(h:gu d=true):∃i,d=.int i:=by
 cases d with
 |int i=>exact⟨i,Z⟩
 |_=>cases h
theorem Jg(h:gu x=false):jO (.tuple [x,y])=false:=by
 cases x with
 |int i=>cases h
 |_=>rfl
theorem Jf(h:gu y=false):jO (.tuple [x,y])=false:=by
 cases y with
 |int i=>cases h
 |_=>cases x<;>rfl
def mf(m:Int):PyData->Bool
 | .int i=>decide (0≤i)&&decide (i<m)
 |_=>false
def d0:PyData->Bool
 | .tuple [.int a,.int b]=>(decide (1≤b)&&decide (O0 a b=1))&&decide (0<a)
 |_=>false
def Lr:PyData->PyData->Bool
 | .int i,.int j=>decide (i≤j)
 |_,_=>false
def Ol:PyData->PyData->Bool
 | .int i,.int j=>!decide (i=j)
 |_,_=>false
def kW:PyData->Bool
 | .tuple [a,b,c]=>mf 24 a&&(mf 24 b&&(Lr a b&&d0 c))
 |_=>false
def kq(K:Oz):Sp:=λvs H Q _=>∃(v:V) (d:PyData) (m:Int),vs=[v,.int m]/\bv K H v d/\Q (.bl (mf m d)) H
def iI(K:Oz):Sp:=λvs H Q _=>∃(v:V) (d:PyData),vs=[v]/\bv K H v d/\Q (.bl (d0 d)) H
def si(K:Oz):Sp:=λvs H Q _=>∃(v:V) (d:PyData),vs=[v]/\bv K H v d/\Q (.bl (kW d)) H
theorem me(h:mf m d=true):∃i,d=.int i/\0≤i/\i<m:=by
 cases d with
 |int i=>
  have h':(decide (0≤i)&&decide (i<m))=true:=h;rw[O2,decide_eq_true_iff,decide_eq_true_iff] at h';exact⟨i,Z,h'⟩
 |_=>cases h
theorem C9(h:gu d=false):mf m d=false:=by
 cases d with
 |int i=>cases h
 |_=>rfl
theorem zJ(h:jO d=true):∃i j,d=.tuple [.int i,.int j]:=by
 unfold jO at h
 split at h
 ·exact⟨_,_,Z⟩
 ·cases h
theorem xo(h:jO d=false):d0 d=false:=by
 cases c:d0 d with
 |false=>rfl
 |true=>
  unfold d0 at c
  split at c
  ·rename_i a b;rw[O2] at c;have h':(decide (1≤b)&&decide (O0 a b=1))=false:=h;rw[h'] at c
   cases c.1
  ·cases c
theorem tX(h:jO (.tuple [.int i,.int j])=true):d0 (.tuple [.int i,.int j])=decide (0<i):=by
 show((decide (1≤j)&&decide (O0 i j=1))&&decide (0<i))=_;have h':(decide (1≤j)&&decide (O0 i j=1))=true:=h;rw[h',RT]
theorem bv.three{K:Oz}{H:Hp}{v:V}{d:PyData}(h:bv K H v d)(c:oM 3 d=true):∃a x y z dx dy dz,v=.ref a/\d=.tuple [dx,dy,dz]/\bu K H a [x,y,z]/\bv K H x dx/\bv K H y dy/\bv K H z dz:=by
 cases h with
 |tup e t=>
  have l:=of_decide_eq_true (show decide (_=3)=true from c)
  cases t with
  |nil=>cases l
  |cons a t=>
   cases t with
   |nil=>cases l
   |cons b t=>
    cases t with
    |nil=>cases l
    |cons c' t=>
     cases t with
     |nil=>exact⟨_,_,_,_,_,_,_,Z,Z,e,a,b,c'⟩
     |cons _ _=>simp at l
 |_=>cases c
theorem xI(h:oM 3 d=false):kW d=false:=by
 cases c:kW d with
 |false=>rfl
 |true=>
  unfold kW at c
  split at c
  ·cases h
  ·cases c
def qC(_:Oz):Sp:=λvs H Q _=>∃a b:Int,vs=[.int a,.int b]/\0<b/\b.natAbs<2^4000/\pO H Q (fc a b)
structure cR(H:Hp)(t l:Addr):Prop where
 ex:∃(ns:List Int) (p:Int),H t=some (.lst [.ref l,.int p])/\H l=some (.lst (ns.map V.int))/\l≠t/\0<ns.length/\ns.length≤1000
theorem cR.lst(h:cR H t l):∃xs,H t=some (.lst xs):=let ⟨_,_,e,_⟩:=h.ex;⟨_,e⟩
theorem cR.same(h:cR H t l)(s:aE H H'):cR H' t l:=let ⟨ns,p,a,b,c⟩:=h.ex;⟨ns,p,s _ _ a,s _ _ b,c⟩
def qx(_:Oz):Sp:=λvs H Q _=>∃(t l:Addr) (m:Int),vs=[.ref t,.int m]/\cR H t l/\0<m/\m<1073741824/\∀(r:Int) (xs:List V),0≤r->r<m->cR (upd H t (.lst xs)) t l->Q (.int r) (upd H t (.lst xs))
def lL(K:Oz):Sp:=λvs H Q _=>∃(a:Addr) (ns:List Int) (k:Nat),vs=[.ref a,.int k]/\aS K H a (ns.map V.int)/\∀z:Int,Q (.int z) H
def oS(_:Oz):Sp:=λvs H Q _=>∃(c:Int) (m:Nat),vs=[.int c,.int m]/\0<m/\m≤1000/\∀(l:Addr) (ns:List Int) (H':Hp),aE H H'->H l=none->H' l=some (.lst (ns.map V.int))->ns.length=m->Q (.ref l) H'
theorem mL(ok:∀w∈ws,bz w)(w8:ws.length≤20)(h:im ws (OB 24) lys):rR ws [] (cX ws [] (aQ ws lys)).2:=by
 obtain⟨f,l,win⟩:=ii.ex ws [];have e:=tN win;have:=Bc (lys:=lys) ok w8 Z (fg _) win (vf ok f l win) (by rw[e];exact h);rw[e] at this;exact this
structure ef where
 tn:Nat
 kn:List Wk
 rs:List R
 dn:List (List Pc)
def A2(t:Nat)(lk lr ld:Addr):List (Pf×V):=[("turn",.int t),("known",.ref lk),("rest",.ref lr),("done",.ref ld)]
structure jy(K:Oz)(C:Addr)(H:Hp)(a lk lr ld:Addr)(s:ef):Prop where
 ins:∃dx,H a=some (.ins C dx (A2 s.tn lk lr ld))
 hk:∃xs,H lk=some (.lst xs)/\cG (xG K H) xs s.kn
 hr:∃xs,H lr=some (.lst xs)/\cG (RV K H) xs s.rs
 hd:∃xs,H ld=some (.lst xs)/\cG (qc K H) xs s.dn
 n1:lk≠lr
 n2:lk≠ld
 n3:lr≠ld
theorem jy.same{K:Oz}{C:Addr}{H H':Hp}{a lk lr ld:Addr}{s:ef}(h:jy K C H a lk lr ld s)(z:aE H H'):jy K C H' a lk lr ld s:=by
 obtain⟨dx,i⟩:=h.ins;obtain⟨x,k1,k2⟩:=h.hk;obtain⟨y,r1,r2⟩:=h.hr;obtain⟨u,d1,d2⟩:=h.hd;have t:=aM.same (K:=K) z;exact⟨⟨dx,z _ _ i⟩,⟨x,z _ _ k1,k2.mono λ_ _ q=>q.mono t⟩,⟨y,z _ _ r1,r2.mono λ_ _ q=>q.mono t⟩,⟨u,z _ _ d1,d2.mono λ_ _ q=>q.mono t⟩,h.n1,h.n2,h.n3⟩
def kU(a lk lr ld:Addr)(H H':Hp):Prop:=∀b o,b≠a->b≠lk->b≠lr->b≠ld->H b=some o->H' b=some o
theorem jy.tst{K:Oz}{C:Addr}{H H':Hp}{a lk lr ld:Addr}{s:ef}(h:jy K C H a lk lr ld s)(z:kU a lk lr ld H H'):aM K H H':=by
 obtain⟨dx,i⟩:=h.ins;obtain⟨x,k1,_⟩:=h.hk;obtain⟨y,r1,_⟩:=h.hr;obtain⟨u,d1,_⟩:=h.hd;intro p xs q;rcases q with(q | ⟨o,q⟩)|q
 ·exact .inl (.inl (z _ _ (λe=>by subst e;rw[q] at i;cases i) (λe=>by subst e;rw[q] at k1;cases k1) (λe=>by subst e;rw[q] at r1;cases r1) (λe=>by subst e;rw[q] at d1;cases d1) q))
 ·exact .inl (.inr ⟨o,z _ _ (λe=>by subst e;rw[q] at i;cases i) (λe=>by subst e;rw[q] at k1;cases k1) (λe=>by subst e;rw[q] at r1;cases r1) (λe=>by subst e;rw[q] at d1;cases d1) q⟩)
 ·exact .inr q
def NV(K:Oz)(H:Hp)(v:V)(pl:List (List Pc)):Prop:=∃p xs,v=.ref p/\bu K H p xs/\cG (qc K H) xs pl
def lQ(K:Oz)(C:Addr):Sp:=λvs H Q _=>∃(x dx:Addr),vs=[.ref x]/\H x=some (.ins C dx [])/\∀(lk lr ld:Addr) (H':Hp),(∀b o,b≠x->H b=some o->H' b=some o)->H lk=none->H lr=none->H ld=none->jy K C H' x lk lr ld ⟨0,[],[],[]⟩->Q .non H'
def mV(K:Oz)(C:Addr):Sp:=λvs H Q _=>∃(a lk lr ld:Addr) (s:ef),vs=[.ref a]/\jy K C H a lk lr ld s/\Q (.int s.tn) H
def ku(K:Oz)(C:Addr):Sp:=λvs H Q _=>∃(a lk lr ld:Addr) (s:ef),vs=[.ref a]/\jy K C H a lk lr ld s/\∀v H',aE H H'->gj K H' v s.kn->Q v H'
def lP(K:Oz)(C:Addr):Sp:=λvs H Q _=>∃(a lk lr ld:Addr) (s:ef),vs=[.ref a]/\jy K C H a lk lr ld s/\∀v H',aE H H'->KP K H' v s.rs->Q v H'
def lO(K:Oz)(C:Addr):Sp:=λvs H Q _=>∃(a lk lr ld:Addr) (s:ef),vs=[.ref a]/\jy K C H a lk lr ld s/\∀v H',aE H H'->NV K H' v s.dn->Q v H'
def ix(s:ef)(dv du:PyData):Bool:=kW (.tuple [.int s.tn,dv,du])&&decide (s.kn.length<20)
def u9(s:ef)(l:Nat)(r:R):ef:=⟨s.tn,s.kn++[(s.tn,l,r)],s.rs++[r],s.dn⟩
def lR(K:Oz)(C Cw:Addr):Sp:=λvs H Q E=>∃(a lk lr ld:Addr) (s:ef) (v u:V) (dv du:PyData),vs=[.ref a,v,u]/\jy K C H a lk lr ld s/\s.kn.length≤20/\s.rs.length≤20/\bv K H v dv/\bv K H u du∧
 (ix s dv du=false->∀d fs H',aE H H'->H' d=none->E (.ref Cw) (some d) (upd H' d (dO d fs)))/\(ix s dv du=true->∀(l:Nat) (r:R) (H':Hp),dv=.int (l:Nat)->du=dR r->kU a lk lr ld H H'->jy K C H' a lk lr ld (u9 s l r)->Q (.int s.kn.length) H')
theorem u8(h:kW (.tuple [.int (t:Nat),dv,du])=true):∃(l:Nat) (r:R),dv=.int (l:Nat)/\du=dR r/\t≤l/\l<24/\0<r.1/\fY r:=by
 have h':(mf 24 (.int (t:Nat))&&(mf 24 dv&&(Lr (.int (t:Nat)) dv&&d0 du)))=true:=h;rw[O2,O2,O2] at h';obtain⟨_,h2,h3,h4⟩:=h';obtain⟨i,rfl,i0,i1⟩:=me h2;obtain⟨l,rfl⟩:=QU i0;have h3':=of_decide_eq_true (show decide (((t:Nat):Int)≤(l:Nat))=true from h3);unfold d0 at h4
 split at h4
 ·rename_i x y;rw[O2,O2,decide_eq_true_iff,decide_eq_true_iff,decide_eq_true_iff] at h4;exact⟨l,(x,y),Z,Z,by omega,by omega,h4.2,by show(0:Int)<y;omega,h4.1.2⟩
 ·cases h4
def ba(rs:List R):List Nat:=(OB rs.length).filter λi=>decide (rs.getD i (0,1)≠(0,1))
def cO(kn:List Wk)(rs:List R)(t:Nat):List Wk:=(ba rs).map λi=>(t,(kn.getD i bL).2.1,rs.getD i (0,1))
def jI(K:Oz):Sp:=λvs H Q _=>∃(a b:Addr) (xs ys:List V) (kn:List Wk) (rs:List R) (t:Nat),vs=[.ref a,.ref b,.int (t:Nat)]/\aS K H a xs/\cG (xG K H) xs kn/\aS K H b ys/\cG (RV K H) ys rs/\rs.length=kn.length/\rs.length≤20/\∀(p l:Addr) (u:V) (H':Hp),aE H H'->bu K H' p [u,.ref l]->gj K H' u (cO kn rs t)->H' l=some (.lst (bt (ba rs)))->Q (.ref p) H'
def cL(ns:List Nat)(q:List Pc):List Pc:=q.map λc=>(ns.getD c.1 0,c.2)
def mR(K:Oz):Sp:=λvs H Q _=>∃(u:V) (l:Addr) (q:List Pc) (ns:List Nat),vs=[u,.ref l]/\qc K H u q/\aS K H l (bt ns)/\(∀c∈q,c.1<ns.length)/\q.length≤64/\∀(v:V) (H':Hp),aE H H'->qc K H' v (cL ns q)->Q v H'
theorem sL{α:Type}{f:α->Rat}:∀{l:List α},(∀x∈l,0≤f x)->∀{x:α},x∈l->f x≤sQ f l
 |y::l,h,x,hx=>by
  show f x≤f y+sQ f l;have h0:=h y OJ;have hl:=lX (f:=f) (l:=l) λz hz=>h z (OL _ hz)
  rcases OO.mp hx with rfl|z
  ·grind
  ·have:=sL (λz hz=>h z (OL _ hz)) z;grind
theorem pI(hk:k<(pl.getD t []).length):cm pl t k=(pl.getD t [])[k]:=az _ (OA hk)
theorem rR.mem(pr:rR ws es pl)(ht:t<24)(hc:c∈pl.getD t []):c.1<ws.length/\dU c.2/\0<val c.2/\fk (ws.getD c.1 bL) t=true:=by
 obtain⟨k,hk,e⟩:=PY.mp hc;have:=pr.pc t k ht hk;rw[pI hk,e] at this;exact this
theorem rR.nodup(pr:rR ws es pl)(ht:t<24):((pl.getD t []).map (·.1)).Nodup:=by
 unfold PQ;rw[Rr,P5];intro i j hi hj hij;have:=pr.nd t i j ht hij hj;rw[pI hi,pI hj] at this;exact this
def BK(pl:List (List Pc))(i u:Nat):Rat:=sQ (λc:Pc=>b8 (decide (c.1=i)) (val c.2)) (pl.getD u [])
theorem rR.sum{ws:List Wk}{es:List Ln}{pl:List (List Pc)}(pr:rR ws es pl)(i:Nat):∀t,t≤24->0<(xF pl i t).2/\val (xF pl i t)=sQ (BK pl i) (OB t)
 |0,_=>⟨by show(0:Int)<1;decide,by show val (0,1)=0;exact(f6 (r:=(0,1)) (by decide)).mpr Z⟩
 |t+1,h=>by
  obtain⟨p,e⟩:=rR.sum pr i t (by omega);obtain⟨p2,e2⟩:=kO (pl:=pl) (t:=t) (i:=i) p (pl.getD t []).length λj hj=>(pr.pc t j (by omega) hj).2.1.bq.pos
  refine⟨p2,?_⟩;rw[P4,eY];show val (tP pl t i (xF pl i t) (pl.getD t []).length)=_+(BK pl i t+0);rw[e2,e];unfold BK;rw[i9 (0,(0,1)) (pl.getD t [])];unfold cm;grind
theorem rR.pt_nn(pr:rR ws es pl)(hu:u<24):0≤BK pl i u:=lX λc hc=>fe _ (Qu (pr.mem hu hc).2.2.1)
theorem rR.most(pr:rR ws es pl)(ht:t<24)(hc:c∈pl.getD t []):val c.2≤kT (ws.getD c.1 bL):=by
 have m:=pr.mem ht hc;have e:=(pr.sum c.1 24 (OC _)).2;rw[pr.fin c.1 m.1] at e;unfold kT;rw[e];have h1:val c.2≤BK pl c.1 t:=by
  have:=sL (f:=λx:Pc=>b8 (decide (x.1=c.1)) (val x.2)) (λx hx=>fe _ (Qu (pr.mem ht hx).2.2.1)) hc;rw[decide_eq_true Z,de] at this;exact this
 exact T0 h1 (sL (λu hu=>pr.pt_nn (ON.mp hu)) (ON.mpr ht))
theorem rR.all(pr:rR ws es pl)(ok:∀w∈ws,bz w)(ht:t<24)(hi:i<ws.length)(h1:(ws.getD i bL).1=t)(h2:(ws.getD i bL).2.1=t):∃c∈pl.getD t [],c.1=i/\c.2=(ws.getD i bL).2.2:=by
 have wo:=ok _ (O6 hi);have ew:ws.getD i bL=ws[i]:=az bL (OA hi);have e:=(pr.sum i 24 (OC _)).2;rw[pr.fin i hi] at e;have z:∀u∈OB 24,BK pl i u=if u=t then BK pl i t else 0:=λu hu=>by
  by_cases c:u=t
  ·rw[if_pos c,c]
  ·rw[if_neg c];have:∀x∈pl.getD u [],b8 (decide (x.1=i)) (val x.2)=0:=λx hx=>by
    have m:=pr.mem (ON.mp hu) hx;by_cases d:x.1=i
    ·exfalso;have w:=m.2.2.2;rw[d] at w;unfold fk at w;rw[O2,decide_eq_true_iff,decide_eq_true_iff] at w;omega
    ·rw[decide_eq_false d,bZ]
   unfold BK;rw[aK (g:=λ_=>(0:Rat)) this];have:=dB (0:Rat) (f:=λ_:Pc=>(0:Rat)) (pl.getD u []);grind
 rw[aK z,zu ht] at e;have pa:0<val (ws.getD i bL).2.2:=by rw[ew];exact tU wo
 rcases uB (q:=pl.getD t []) (i:=i) (f:=λp=>val p.2) (pr.nodup ht) with y | ⟨c,hc,ei,y⟩
 ·exfalso;unfold BK at e;rw[y] at e;rw[e] at pa;exact absurd pa (by decide)
 ·refine⟨c,hc,ei,?_⟩;unfold BK at e;rw[y] at e;exact gx (pr.mem ht hc).2.1.red (by rw[ew];exact⟨by have:=wo.am.bot;omega,wo.am.wf.cop⟩) e.symm
def BD(D:Nat)(r:R):Prop:=fY r/\r.2∣(D:Int)
theorem BD.bq(h:BD D r):Bq D r.1.natAbs r:=⟨h.1.pos,h.1.cop,h.2,UX _ (by have:=h.1.pos;omega)⟩
theorem ve(h:Bq D N r):BD D r:=⟨h.red,h.dvd⟩
theorem BD.minus(hD:0<D)(a:BD D x)(b:BD D y):BD D (aY x y):=ve (Bq.minus hD a.bq b.bq)
theorem BD.les(a:BD D x)(b:BD D y):BD D (dh x y):=by
 unfold dh
 split
 ·exact b
 ·exact a
theorem BD.zero(D:Nat):BD D (0,1):=⟨⟨by decide,by decide⟩,⟨(D:Int),by show(D:Int)=1*D;omega⟩⟩
theorem BD.mono(h:BD D r)(d:D∣D'):BD D' r:=⟨h.1,SQ h.2 (Qm.mpr d)⟩
structure DB(D:Nat)(st:rT):Prop where
 lf:∀r∈st.1,BD D r
 rm:BD D st.2.1
 pc:∀p∈st.2.2,BD D p.2
theorem u3{l:List R}(h:∀r∈l,BD D r)(i:Nat):BD D (l.getD i (0,1)):=by
 rw[OF]
 cases e:l[i]? with
 |none=>exact BD.zero D
 |some r=>exact h r (OM e)
theorem DB.step{D:Nat}{ws:List Wk}{t i:Nat}{st:rT}(hD:0<D)(h:DB D st):DB D (bP ws t st i):=by
 unfold bP
 split
 ·have a:=u3 h.lf i;have la:=a.les h.rm;refine⟨λr hr=>?_,h.rm.minus hD la,λp hp=>?_⟩
  ·rcases Q5 hr with z|z
   ·exact h.lf r z
   ·rw[z];exact a.minus hD la
  ·rcases Pn.mp hp with z|z
   ·exact h.pc p z
   ·rw[OH.mp z];exact la
 ·exact h
theorem DB.fold{D:Nat}{ws:List Wk}{t:Nat}(hD:0<D):∀{ord:List Nat} {st:rT},DB D st->DB D (ord.foldl (bP ws t) st)
 | [],st,h=>h
 |i::ord,st,h=>(h.step hD).fold hD (ord:=ord)
theorem uJ{D:Nat}{ws:List Wk}{ord:List Nat}{ss:List R}(hD:0<D)(hw:∀w∈ws,BD D w.2.2)(hs:∀r∈ss,BD D r):∀t,(∀r∈(aO ws ord ss t).1,BD D r)/\∀q∈(aO ws ord ss t).2,∀x∈q,BD D x.2
 |0=>⟨λr hr=>by obtain⟨w,hw',rfl⟩:=OP.mp hr;exact hw w hw',λq hq=>by cases hq⟩
 |t+1=>by
  obtain⟨h1,h2⟩:=uJ (ord:=ord) hD hw hs t;have d:=DB.fold (ws:=ws) (t:=t) (ord:=ord) (st:=((aO ws ord ss t).1,ss.getD t (0,1),[])) hD ⟨h1,u3 hs t,λp hp=>by cases hp⟩;refine⟨d.lf,λq hq=>?_⟩;rcases Pn.mp (show q∈(aO ws ord ss t).2++[_] from hq) with z|z
  ·exact h2 q z
  ·rw[OH.mp z];exact d.pc
theorem Ew:∀m,m<25->0<m->m∣5354228880:=by decide
theorem EZ(hd:0<d)(hw:∀w∈ws,Bq d 12 w.2.2)(lok:ka ws.length y):BD (d*5354228880) (cY ws y):=by
 have am:∀r∈gZ ws y,Bq d 12 r:=λr hr=>by
  obtain⟨i,hi,rfl⟩:=OP.mp hr;have hl:=lok.num i hi;rw[az bL (OA hl)];exact hw _ (O6 hl)
 have pos:=lok.pos;have few:=lok.few;have o:Bq y.1.length 1 ((1,(y.1.length:Int)):R):=⟨by show(0:Int)<_;omega,by simp,Vh _,by show(1:Int).natAbs≤1*((y.1.length:Int)).natAbs;omega⟩;exact(ve ((g8 hd am).times o)).mono (Sz _ (Ew _ (by omega) pos))
theorem yg{d:Nat}{ws:List Wk}(hd:0<d)(hw:∀w∈ws,Bq d 12 w.2.2):∀{lys:List Ly} {ss:List R},(∀y∈lys,ka ws.length y)->(∀r∈ss,BD (d*5354228880) r)->∀r∈lys.foldl (λss y=>ig (cY ws y) ss y.1) ss,BD (d*5354228880) r
 | [],ss,_,h=>h
 |y::lys,ss,hl,h=>by
  refine yg (lys:=lys) hd hw (λz hz=>hl z (OL _ hz)) ?_;have sp:=EZ hd hw (hl y OJ);have go:∀(ts:List Nat) (ss:List R),(∀r∈ss,BD (d*5354228880) r)->∀r∈ig (cY ws y) ss ts,BD (d*5354228880) r:=by
   intro ts
   induction ts with
   |nil=>intro ss h;exact h
   |cons t ts ih=>
    intro ss h;refine ih (ss.set t (cY ws y)) λr hr=>?_
    rcases Q5 hr with z|z
    ·exact h r z
    ·rw[z];exact sp
  exact go y.1 ss h
theorem DF(hd:0<d)(hw:∀w∈ws,Bq d 12 w.2.2)(h:im ws (OB 24) lys):∀q∈(cX ws [] (aQ ws lys)).2,∀x∈q,BD (d*5354228880) x.2:=by
 have ly:=jX h (by rw[Pi];exact OC _) (λt ht=>ON.mp ht);have sp:=yg (ss:=Pg 24 (0,1)) hd hw ly λr hr=>by rw[(List.mem_replicate.mp hr).2];exact BD.zero _
 exact(uJ (ord:=aH ws [] ws.length) (ss:=aQ ws lys) (VH hd (by decide)) (λw hw'=>(ve (hw w hw')).mono (UC _ _)) sp 24).2
theorem kF(ok:∀w∈ws,bz w)(h:vt ws ls p):0<val (cY ws (gs ws ls p)):=by
 have e:=hG ok (jp h);have lp:=fM (jp h);have l:=pQ ok ls p;have q:(0:Rat)<((dA (ws.map (bF ls)) (g4 (ck ws)) p:Int):Rat):=P1.mpr h.2;rw[l,←e] at q;generalize val (cY ws (gs ws ls p))=d at *;generalize (bO p:Rat)=l at *;by_cases z:d≤0
 ·exfalso;have:=Rb z (Qu lp);grind
 ·exact Ur.mp z
theorem Ca(ok:∀w∈ws,bz w)(h:im ws ls lys)(hw:w∈ws)(iw:fk w u=true):u∈ls->0<iJ ws lys u:=by
 induction h with
 |nil z=>
  intro hu;exact absurd (fE.mpr ⟨u,hu,iw⟩) (Ru.mp z w hw)
 | @cons ls p r hp tl ih=>
  intro hu;rw[gI]
  cases c:(gs ws ls p).1.contains u with
  |true=>exact kF ok hp
  |false=>
   refine ih ?_;unfold dE;exact OU.mpr ⟨hu,by rw[show(dC ls p).contains u=false from c];rfl⟩
theorem wU(ok:∀w∈ws,bz w)(w20:ws.length≤20)(h:im ws (OB 24) lys)(ht:t<24)(hw:w∈ws)(iw:fk w t=true):(cX ws [] (aQ ws lys)).2.getD t []≠[]:=by
 intro e;have lok:=jX h (by rw[Pi];exact OC _) (λt ht=>ON.mp ht);have z:=xM (es:=[]) ok (fg _) h (jH ok w20 lok) ht;have p:=Ca ok h hw iw (ON.mpr ht);have g:∀n,t<n->(aO ws (aH ws [] ws.length) (aQ ws lys) n).2.getD t []=(dr ws (aH ws [] ws.length) t (aO ws (aH ws [] ws.length) (aQ ws lys) t).1 ((aQ ws lys).getD t (0,1))).2.2:=by
  intro n
  induction n with
  |zero=>intro z;omega
  |succ n ih=>
   intro hn;have ln:=(eN (ord:=aH ws [] ws.length) (ss:=aQ ws lys) ok (dg (es:=[]) (fg _) ws.length (OC _)).lt (jH ok w20 lok) n).2;show((aO ws (aH ws [] ws.length) (aQ ws lys) n).2++[_]).getD t []=_;by_cases c:t<n
   ·rw[OF,Qv (by omega),←OF];exact ih c
   ·have:t=n:=by omega
    subst this;rw[OF,QZ (by omega),ln,Vo];rfl
 rw[←g 24 ht] at z;unfold cX at e;rw[e] at z;have z':(0:Rat)=iJ ws lys t:=z;rw[←z'] at p;exact absurd p (by decide)
def DK(t:Nat):Nat:=84*5354228880^t
theorem uc(t:Nat):0<DK t:=VH (by decide) (Xo (by decide))
theorem p9(t:Nat):DK (t+1)=DK t*5354228880:=by unfold DK;rw[Nat.pow_succ,V3]
theorem BG(h:t≤23):DK t∣4834023173650597876544881407704768017555162023798869768948261467874213139288822304401239266415271355416806678311752296500438875701050478901734985823099062742197929195130163826648664551259341770021719244800000000000000000000000:=by
 rw[show 4834023173650597876544881407704768017555162023798869768948261467874213139288822304401239266415271355416806678311752296500438875701050478901734985823099062742197929195130163826648664551259341770021719244800000000000000000000000=84*5354228880^23 by decide];exact Sz 84 (XA _ h)
theorem jA(h:t≤24):DK t∣25882466482949286179863278649307923433294195500903155828261708777083304197655675043413266388030659964209410754393653789328972760953294720473500143200427572835208147172761078519773593353785008074840607407759949824000000000000000000000000:=by
 rw[show 25882466482949286179863278649307923433294195500903155828261708777083304197655675043413266388030659964209410754393653789328972760953294720473500143200427572835208147172761078519773593353785008074840607407759949824000000000000000000000000=84*5354228880^24 by decide];exact Sz 84 (XA _ h)
structure xz(s:ef):Prop where
 t24:s.tn≤24
 len:s.rs.length=s.kn.length
 few:s.kn.length≤20
 dl:s.dn.length=s.tn
 kn:∀w∈s.kn,w.1<24/\w.2.1<24/\Bq 84 12 w.2.2/\0≤w.2.2.1
 am:∀r∈s.rs,Bq (DK s.tn) 12 r/\0≤r.1
 due:∀i,i<s.kn.length->s.rs.getD i (0,1)≠(0,1)->s.tn≤(s.kn.getD i bL).2.1
 pcs:∀q∈s.dn,q.length≤20/\∀c∈q,c.1<20/\dU c.2
theorem ja(h:fY r)(nn:0≤r.1)(nz:r≠(0,1)):1≤r.1:=by
 by_cases z:r.1=0
 ·exfalso;apply nz;have g:=h.cop;have p:=h.pos;rw[z,Int.gcd_zero_left] at g;exact Wy z (by show r.2=1;omega)
 ·omega
theorem eS:i∈ba rs↔i<rs.length/\rs.getD i (0,1)≠(0,1):=by
 unfold ba;rw[OU,ON,decide_eq_true_iff]
theorem uP(rs:List R):(ba rs).Nodup:=Qg _ R3
theorem uj(hj:j<(ba rs).length):(cO kn rs t).getD j bL=(t,(kn.getD (ba rs)[j] bL).2.1,rs.getD (ba rs)[j] (0,1)):=az bL (by unfold cO;rw[OQ,OA hj];rfl)
theorem qg(kn:List Wk)(rs:List R)(t:Nat):(cO kn rs t).length=(ba rs).length:=OD _
theorem kJ(rs:List R):(ba rs).length≤rs.length:=by
 unfold ba;exact O7 (Pt _ _) (by rw[Pi];exact OC _)
theorem fO{l:List R}(hi:i<l.length):l.getD i (0,1)∈l:=by
 rw[az (0,1) (OA hi)];exact O6 hi
theorem oH(o:xz s)(ht:s.tn<24):∀w∈cO s.kn s.rs s.tn,bz w/\w.1=s.tn/\Bq (DK s.tn) 12 w.2.2:=λw hw=>by
 obtain⟨i,hi,rfl⟩:=OP.mp hw;obtain⟨h1,h2⟩:=eS.mp hi;have a:=o.am _ (fO h1);have l:=o.due i (by rw[←o.len];exact h1) h2;have hk:i<s.kn.length:=by rw[←o.len];exact h1
 have k:=o.kn (s.kn.getD i bL) (by rw[az bL (OA hk)];exact O6 hk);have b:=a.1.pos;have le:=a.1.le;refine⟨⟨l,k.2.1,ja a.1.red a.2 h2,?_,by show 1≤(s.rs.getD i (0,1)).2;omega,SQ a.1.dvd (Qm.mpr (BG (by omega))),(a.1.mono (BG (by omega)) (OC _)).wf (by decide) (by decide) (by decide)⟩,Z,a.1⟩;show(s.rs.getD i (0,1)).1≤12*(s.rs.getD i (0,1)).2;have:=a.2;omega
def f9(rs:List R)(q:List Pc):List R:=q.foldl (λl c=>l.set c.1 (aY (l.getD c.1 (0,1)) c.2)) rs
theorem i5:∀(q:List Pc) (rs:List R),(f9 rs q).length=rs.length
 | [],_=>rfl
 |c::q,rs=>by
  show(f9 (rs.set c.1 _) q).length=_;rw[i5 q,QM]
theorem g9{i:Nat}:∀(q:List Pc) (rs:List R),i∉q.map (·.1)->(f9 rs q).getD i (0,1)=rs.getD i (0,1)
 | [],_,_=>rfl
 |c::q,rs,h=>by
  rw[Pm,OO,not_or] at h;show(f9 (rs.set c.1 _) q).getD i (0,1)=_;rw[g9 q _ h.2,OF,Qe (λz=>h.1 z.symm),←OF]
theorem se{x:Pc}:∀(q:List Pc) (rs:List R),(q.map (·.1)).Nodup->x∈q->x.1<rs.length->(f9 rs q).getD x.1 (0,1)=aY (rs.getD x.1 (0,1)) x.2
 |c::q,rs,nd,hx,hl=>by
  rw[Pm,PZ] at nd;show(f9 (rs.set c.1 _) q).getD x.1 (0,1)=_;rcases OO.mp hx with rfl|z
  ·rw[g9 q _ nd.1];exact az _ (by rw[Sb hl])
  ·have ne:c.1≠x.1:=λe=>nd.1 (by rw[e];exact OP.mpr ⟨x,z,Z⟩)
   rw[se q _ nd.2 z (by rw[QM];exact hl)]
   congr 1
   rw[OF,Qe ne,←OF]
theorem FO(nn:ns.Nodup)(hl:∀c∈q,c.1<ns.length)(nd:(q.map (·.1)).Nodup):((cL ns q).map (·.1)).Nodup:=by
 unfold cL;rw[Qt];unfold PQ at nd ⊢;rw[Rr] at nd ⊢;refine nd.imp_of_mem λ{a b} ha hb ne e=>ne ?_
 have e':ns.getD a.1 0=ns.getD b.1 0:=e;rw[az 0 (OA (hl a ha)),az 0 (OA (hl b hb))] at e';exact(SD nn).mp e'
theorem EV(hD:0<D)(hx:Bq D 12 x)(nx:0≤x.1)(hc:BD D c)(le:val c≤val x)(nc:0≤val c):Bq D 12 (aY x c)/\0≤(aY x c).1:=by
 have b:=BD.minus hD (ve hx) hc;have ev:val (aY x c)=val x-val c:=eD hx.pos hc.1.pos;have nn:0≤(aY x c).1:=(gw b.1.pos).mp (by rw[ev];grind);refine⟨⟨b.1.pos,b.1.cop,b.2,(pS b.1.pos nn).mpr ?_⟩,nn⟩;have:=(pS hx.pos nx).mp hx.le;rw[ev];grind
theorem sub_self(h:fY x):aY x x=(0,1):=by
 have b:=BD.minus (D:=x.2.natAbs) (by have:=h.pos;omega) (x:=x) (y:=x) ⟨h,by have:=h.pos;exact⟨1,by omega⟩⟩ ⟨h,by have:=h.pos;exact⟨1,by omega⟩⟩;refine gx b.1 ⟨by decide,by decide⟩ ?_;rw[eD h.pos h.pos,(f6 (r:=(0,1)) (by decide)).mpr Z];grind
def KL(s:ef)(q:List Pc):ef:=⟨s.tn+1,s.kn,f9 s.rs q,s.dn++[q]⟩
structure Kn(s:ef)(q0:List Pc):Prop where
 ok:xz (KL s (cL (ba s.rs) q0))
 lt:∀c∈q0,c.1<(ba s.rs).length
 nil:q0=[]↔∀r∈s.rs,r=(0,1)
 nd:((cL (ba s.rs) q0).map (·.1)).Nodup
 pc:∀x∈cL (ba s.rs) q0,x.1<s.rs.length/\dU x.2
 few:q0.length≤20
theorem Ht(o:xz s)(ht:s.tn<24)(h:im (cO s.kn s.rs s.tn) (OB 24) lys):Kn s ((cX (cO s.kn s.rs s.tn) [] (aQ (cO s.kn s.rs s.tn) lys)).2.getD s.tn []):=by
 have wok:=oH o ht;have ok:∀w∈cO s.kn s.rs s.tn,bz w:=λw hw=>(wok w hw).1
 have wl:=qg s.kn s.rs s.tn;have w20:(cO s.kn s.rs s.tn).length≤20:=by
  have:=kJ s.rs;have:=o.len;have:=o.few;omega
 have pr:=mL ok w20 h;have bd:=DF (uc s.tn) (λw hw=>(wok w hw).2.2) h;have some_:=λ(w:Wk) hw iw=>wU ok w20 h ht (w:=w) hw iw
 generalize (cX (cO s.kn s.rs s.tn) [] (aQ (cO s.kn s.rs s.tn) lys)).2=pl at pr bd some_ ⊢;have bq:∀c∈pl.getD s.tn [],BD (DK (s.tn+1)) c.2:=λc hc=>by
  rw[p9];refine bd (pl.getD s.tn []) ?_ c hc;rw[az [] (OA (show s.tn<pl.length by rw[pr.len];exact ht))];exact O6 _
 have M:=λ(c:Pc) hc=>pr.mem (c:=c) ht hc
 have lt:∀c∈pl.getD s.tn [],c.1<(ba s.rs).length:=λc hc=>by rw[←wl];exact(M c hc).1
 have mo:=λ(c:Pc) hc=>pr.most (c:=c) ht hc
 have al:=λ(i:Nat) hi h1 h2=>pr.all (i:=i) ok ht hi h1 h2
 have nq:=pr.nodup ht;have few:=pr.few s.tn;generalize pl.getD s.tn []=q0 at bq M lt mo al nq few some_ ⊢;have nr:=FO (uP s.rs) lt nq;have num:∀c∈q0,(ba s.rs).getD c.1 0∈ba s.rs:=λc hc=>by
  rw[az 0 (OA (lt c hc))];exact O6 _
 have am:∀c∈q0,val c.2≤val (s.rs.getD ((ba s.rs).getD c.1 0) (0,1)):=λc hc=>by
  have:=mo c hc;unfold kT at this;rw[uj (lt c hc)] at this;rw[az 0 (OA (lt c hc))];exact this
 refine⟨⟨by show s.tn+1≤24;omega,(i5 _ _).trans o.len,o.few,by show(s.dn++[_]).length=_;rw[Pk,o.dl];rfl,o.kn,?_,?_,?_⟩,lt,?_,nr,(λx hx=>by
  obtain⟨c,hc,rfl⟩:=OP.mp hx;exact⟨(eS.mp (num c hc)).1,(M c hc).2.1⟩),few⟩
 ·intro r hr;have hr':r∈f9 s.rs (cL (ba s.rs) q0):=hr;obtain⟨i,hi,rfl⟩:=PY.mp hr';have hi':i<s.rs.length:=by rw[←i5 (cL (ba s.rs) q0)];exact hi
  have eg:(f9 s.rs (cL (ba s.rs) q0)).getD i (0,1)=(f9 s.rs (cL (ba s.rs) q0))[i]:=az _ (OA hi);show Bq (DK (s.tn+1)) 12 _/\_;rw[←eg];have a:=o.am _ (fO hi');have a1:=a.1.mono (show DK s.tn∣DK (s.tn+1) by rw[p9];exact UC _ _) (OC _);by_cases m:i∈(cL (ba s.rs) q0).map (·.1)
  ·obtain⟨x,hx,rfl⟩:=OP.mp m;rw[se _ _ nr hx hi'];obtain⟨c,hc,rfl⟩:=OP.mp hx;exact EV (uc _) a1 a.2 (bq c hc) (am c hc) (Qu (M c hc).2.2.1)
  ·rw[g9 _ _ m];exact⟨a1,a.2⟩
 ·intro i hi nz;have hi':i<s.rs.length:=by rw[o.len];exact hi
  have nz':(f9 s.rs (cL (ba s.rs) q0)).getD i (0,1)≠(0,1):=nz;show s.tn+1≤(s.kn.getD i bL).2.1;have nz0:s.rs.getD i (0,1)≠(0,1):=λe=>by
   have m:i∉(cL (ba s.rs) q0).map (·.1):=λm=>by
    obtain⟨x,hx,ei⟩:=OP.mp m;obtain⟨c,hc,rfl⟩:=OP.mp hx;exact(eS.mp (num c hc)).2 (by rw[show(ba s.rs).getD c.1 0=i from ei];exact e)
   rw[g9 _ _ m] at nz';exact nz' e
  have d:=o.due i hi nz0;by_cases c0:(s.kn.getD i bL).2.1=s.tn
  ·exfalso;obtain⟨j,hj,ej⟩:=PY.mp (eS.mpr ⟨hi',nz0⟩);have wj:=uj (kn:=s.kn) (t:=s.tn) hj;obtain⟨c,hc,e1,e2⟩:=al j (by rw[wl];exact hj) (by rw[wj]) (by rw[wj,ej];exact c0);rw[wj] at e2;have ei:(ba s.rs).getD c.1 0=i:=by rw[e1,az 0 (OA hj)];exact ej
   have z:=se (x:=((ba s.rs).getD c.1 0,c.2)) (cL (ba s.rs) q0) s.rs nr (OP.mpr ⟨c,hc,Z⟩) (by show(ba s.rs).getD c.1 0<_;rw[ei];exact hi');have z':(f9 s.rs (cL (ba s.rs) q0)).getD ((ba s.rs).getD c.1 0) (0,1)=aY (s.rs.getD ((ba s.rs).getD c.1 0) (0,1)) c.2:=z;rw[ei,e2,ej] at z';rw[z'] at nz';exact nz' (sub_self (o.am _ (fO hi')).1.red)
  ·omega
 ·intro q hq;rcases Pn.mp (show q∈s.dn++[cL (ba s.rs) q0] from hq) with z|z
  ·exact o.pcs q z
  ·rw[OH.mp z];refine⟨by unfold cL;rw[OD];exact few,λx hx=>?_⟩;obtain⟨c,hc,rfl⟩:=OP.mp hx;have:=(eS.mp (num c hc)).1;have:=o.len;have:=o.few;exact⟨by show(ba s.rs).getD c.1 0<20;omega,(M c hc).2.1⟩
 ·constructor
  ·intro e r hr;obtain⟨i,hi,rfl⟩:=PY.mp hr;have eg:s.rs.getD i (0,1)=s.rs[i]:=az _ (OA hi);by_cases z:s.rs[i]=(0,1)
   ·exact z
   ·exfalso;have m:=eS.mpr ⟨hi,by rw[eg];exact z⟩;have mw:((s.tn,(s.kn.getD i bL).2.1,s.rs.getD i (0,1)):Wk)∈cO s.kn s.rs s.tn:=OP.mpr ⟨i,m,Z⟩;have w:=(ok _ mw).le;refine some_ _ mw ?_ e;unfold fk;rw[decide_eq_true (OC _),decide_eq_true w];rfl
  ·intro all
   cases hq:q0 with
   |nil=>rfl
   |cons c r=>
    exfalso;have hc:c∈q0:=by rw[hq];exact OJ
    obtain⟨h1,h2⟩:=eS.mp (num c hc);exact h2 (all _ (fO h1))
theorem oG(ok:bz w):bF (OB 24) w=some (w.1,w.2.1):=by
 have l:=ok.le;have l2:=ok.lt;have m:∀i,i∈gh (OB 24) w↔w.1≤i/\i≤w.2.1:=λi=>by
  rw[eO,Pi];constructor
  ·rintro⟨h1,h2⟩;rw[az 0 (show(OB 24)[i]?=some i from Q2 h1)] at h2;unfold fk at h2;rw[O2,decide_eq_true_iff,decide_eq_true_iff] at h2;exact h2
  ·intro h;refine⟨by omega,?_⟩;rw[az 0 (show(OB 24)[i]?=some i from Q2 (by omega))];unfold fk;rw[decide_eq_true h.1,decide_eq_true h.2];rfl
 cases e:bF (OB 24) w with
 |none=>
  have:=fE (ls:=OB 24) (w:=w);rw[e] at this;have z:=this.mpr ⟨w.1,ON.mpr (by omega),by unfold fk;rw[decide_eq_true (OC _),decide_eq_true l];rfl⟩
  cases z
 |some p=>
  obtain⟨a,b⟩:=p;obtain⟨h1,h2,h3⟩:=g6 e;have a1:=(m a).mp h1;have b1:=(m b).mp h2;have a2:=h3 w.1 ((m _).mpr ⟨OC _,l⟩);have b2:=h3 w.2.1 ((m _).mpr ⟨l,OC _⟩);rw[show a=w.1 by omega,show b=w.2.1 by omega]
def dV(ws:List Wk)(l:Nat):Rat:=sQ (λw=>b8 (decide (w.2.1≤l)) (kT w)) ws
theorem j9(ok:∀w∈ws,bz w)(h1:∀w∈ws,w.1=t)(p:Pl):SM ws (OB 24) p=if p.1≤t then dV ws p.2 else 0:=by
 unfold SM dV;by_cases c:p.1≤t
 ·rw[if_pos c];refine aK λw hw=>?_
  rw[mE (oG (ok w hw)),h1 w hw,decide_eq_true c,RT]
 ·rw[if_neg c];have e:sQ (λw=>b8 (dG (OB 24) p w) (kT w)) ws=sQ (λ_=>(0:Rat)*0) ws:=aK λw hw=>by
   rw[mE (oG (ok w hw)),h1 w hw,decide_eq_false c,Ri,bZ];grind
  rw[e,dB];grind
theorem u7(h:0<dV ws l):∃w∈ws,w.2.1≤l:=by
 apply Qw;intro n;have e:dV ws l=sQ (λ_=>(0:Rat)*0) ws:=aK λw hw=>by
  rw[decide_eq_false λz=>n ⟨w,hw,z⟩,bZ];grind
 rw[e,dB] at h;grind
theorem uU(a b:Nat)(h:a≤b):((bO (a,b):Int):Rat)=((b-a+1:Nat):Rat):=by
 have:bO (a,b)=((b-a+1:Nat):Int):=by unfold bO;show(b:Int)-a+1=_;omega
 rw[this,PU]
theorem og(ok:∀w∈ws,bz w)(h1:∀w∈ws,w.1=t)(h:vt ws (OB 24) p):p.1=t/\t≤p.2/\p.2<24/\0<dV ws p.2:=by
 have sc:=jp h;have s1:=sc.1;have s2:p.2<24:=by have:=sc.2;rw[Pi] at this;exact this
 have pos:0<SM ws (OB 24) p:=by
  have e:=hG ok sc;have d:=kF ok h;have l:=fM sc;rw[←e];exact Xl d l
 rw[j9 ok h1] at pos;by_cases c:p.1≤t
 ·rw[if_pos c] at pos;obtain⟨w,hw,hl⟩:=u7 pos;have wl:=(ok w hw).le;rw[h1 w hw] at wl;refine⟨?_,by omega,s2,pos⟩;by_cases d:p.1=t
  ·exact d
  ·exfalso;have q:=lu (r:=(t,p.2)) ok h ⟨by show t≤p.2;omega,by rw[Pi];exact s2⟩;rw[j9 ok h1,j9 ok h1,if_pos c,if_pos (OC _)] at q;have e1:((bO p:Int):Rat)=((bO (t,p.2):Int):Rat)+((t-p.1:Nat):Rat):=by
    rw[←PU,←TH]
    congr 1
    unfold bO;show(p.2:Int)-p.1+1=(p.2:Int)-t+1+_;omega
   have e2:(0:Rat)<((t-p.1:Nat):Rat):=by
    rw[←PU];have:((0:Int):Rat)<(((t-p.1:Nat):Int):Rat):=P1.mpr (by omega);exact this
   rw[e1] at q;have e3:=Xl pos e2;generalize dV ws p.2=x at *;generalize ((t-p.1:Nat):Rat)=y at *;generalize ((bO (t,p.2):Int):Rat)=z at *;grind
 ·rw[if_neg c] at pos;exact absurd pos (by decide)
theorem B3(ok:∀w∈ws,bz w)(h1:∀w∈ws,w.1=t)(h:vt ws (OB 24) p):(∀l,t≤l->l<24->dV ws l≤val (cY ws (gs ws (OB 24) p))*((l-t+1:Nat):Rat))/\∃w∈ws,dV ws w.2.1=val (cY ws (gs ws (OB 24) p))*((w.2.1-t+1:Nat):Rat):=by
 obtain⟨e1,le,lt,pos⟩:=og ok h1 h;have sc:=jp h;have ev:=hG ok sc;have lp:=fM sc;have d:=kF ok h;rw[j9 ok h1,if_pos (by omega)] at ev;have up:∀l,t≤l->l<24->dV ws l≤val (cY ws (gs ws (OB 24) p))*((l-t+1:Nat):Rat):=λl a b=>by
  have q:=lu (r:=(t,l)) ok h ⟨a,by rw[Pi];exact b⟩;rw[j9 ok h1,j9 ok h1,if_pos (show t≤t from OC _),if_pos (show p.1≤t by omega),←ev,uU t l a] at q;refine hV lp ?_;generalize val (cY ws (gs ws (OB 24) p))=x at *;generalize ((bO p:Int):Rat)=y at *;generalize ((l-t+1:Nat):Rat)=z at *;generalize dV ws (t,l).2=u at *;grind
 refine⟨up,?_⟩;obtain⟨w0,hw0,hl0⟩:=u7 pos;obtain⟨l,hl,best⟩:=jo (λx=>24-x) ((ws.filter λw=>decide (w.2.1≤p.2)).map λw=>w.2.1) (List.ne_nil_of_mem (OP.mpr ⟨w0,OU.mpr ⟨hw0,decide_eq_true hl0⟩,Z⟩));obtain⟨w,hw,rfl⟩:=OP.mp hl;obtain⟨hw,hd⟩:=OU.mp hw;have wd:=of_decide_eq_true hd;have wle:=(ok w hw).le;have wlt:=(ok w hw).lt;rw[h1 w hw] at wle;refine⟨w,hw,?_⟩;have ee:dV ws w.2.1=dV ws p.2:=aK λx hx=>by
  congr 1
  refine decide_eq_decide.mpr ⟨λz=>by omega,λz=>?_⟩;have:=best x.2.1 (OP.mpr ⟨x,OU.mpr ⟨hx,decide_eq_true z⟩,Z⟩);have:=(ok x hx).lt;show x.2.1≤w.2.1;have b:24-w.2.1≤24-x.2.1:=by assumption
  omega
 have u:=up w.2.1 wle wlt;refine XB u ?_;rw[ee,←ev];have lr:((bO p:Int):Rat)=((p.2-t+1:Nat):Rat):=by
  have:=uU t p.2 le;rw[←this]
  congr 1
  unfold bO;show(p.2:Int)-p.1+1=(p.2:Int)-t+1;omega
 rw[lr];refine Rat.mul_le_mul_of_nonneg_left ?_ (Qu d);rw[←PU,←PU];exact Vn.mpr (by omega)
theorem Cb(ok:∀w∈ws,bz w)(h1:∀w∈ws,w.1=t)(h:vt ws (OB 24) p):iJ ws (gs ws (OB 24) p:: r) t=val (cY ws (gs ws (OB 24) p)):=by
 obtain⟨e1,le,lt,_⟩:=og ok h1 h;rw[gI,if_pos];refine Q8.mpr ?_;show t∈((OB 24).drop p.1).take (p.2+1-p.1);refine OM (i:=0) ?_;rw[UF (by omega),Wm,Vm,e1];exact Q2 (by omega)
theorem wA(ok:∀w∈ws,bz w)(h1:∀w∈ws,w.1=t)(ht:t<24)(h:im ws (OB 24) lys):(ws=[]/\iJ ws lys t=0)∨(0<iJ ws lys t/\(∀w∈ws,dV ws w.2.1≤iJ ws lys t*((w.2.1-t+1:Nat):Rat))/\∃w∈ws,dV ws w.2.1=iJ ws lys t*((w.2.1-t+1:Nat):Rat)):=by
 cases h with
 |nil z=>
  refine .inl ⟨?_,Z⟩
  cases hw:ws with
  |nil=>rfl
  |cons w r=>
   exfalso;have mw:w∈ws:=by rw[hw];exact OJ
   have:=Ru.mp z w mw;rw[oG (ok w mw)] at this;exact this Z
 |cons hp tl=>
  refine .inr ?_;rw[Cb ok h1 hp];obtain⟨a,b⟩:=B3 ok h1 hp;exact⟨kF ok hp,λw hw=>a _ (by have:=(ok w hw).le;rw[h1 w hw] at this;exact this) (ok w hw).lt,b⟩
def Dk(ws:List Wk)(i j:Nat):Prop:=aT ws i<aT ws j∨(aT ws i=aT ws j/\i<j)
theorem A3(ws:List Wk)(l:List Nat):gU ws [] l=eV ws l:=by
 unfold gU;refine Q1.mpr λi _=>?_
 rw[RQ];exact S6.mpr λj _ z=>pD (hU.mp z)
theorem AF(srt:l.Pairwise (· < ·))(h:l≠[]):∀j∈l,j≠fJ ws [] l->Dk ws (fJ ws [] l) j:=λj hj ne=>by
 have a:=jj (ws:=ws) (fg 0) h;rw[A3] at a;have m:=eT.mp (OM a);have le:=m.2 j hj;by_cases c:aT ws (fJ ws [] l)=aT ws j
 ·refine .inr ⟨c,?_⟩;have jl:j∈eV ws l:=eT.mpr ⟨hj,λk hk=>by rw[←c];exact m.2 k hk⟩;have sl:(eV ws l).Pairwise (· < ·):=Qg _ srt
  cases e:eV ws l with
  |nil=>rw[e] at jl;cases jl
  |cons x r=>
   rw[e] at a jl sl;have ex:x=fJ ws [] l:=by simpa using a
   rcases OO.mp jl with z|z
   ·exact absurd (z.trans ex) ne
   ·rw[←ex];exact(RE.mp sl).1 j z
 ·exact .inl (by omega)
theorem uL{ws:List Wk}:∀k,k≤ws.length->(aH ws [] k).Pairwise (Dk ws)/\∀i∈aH ws [] k,∀j,j<ws.length->j∉aH ws [] k->Dk ws i j
 |0,_=>⟨.nil,λi hi=>absurd (show i∈([]:List Nat) from hi) (by simp)⟩
 |k+1,h=>by
  obtain⟨p,q⟩:=uL (ws:=ws) k (by omega);have oi:=dg (es:=[]) (fg ws.length) k (by omega);have ne:=oi.ne (by omega);have m:=ji (ws:=ws) (fg ws.length) ne;have sw:(b9 ws.length (aH ws [] k)).Pairwise (· < ·):=Qg _ Si;refine⟨?_,λi hi j hj nj=>?_⟩
  ·show(aH ws [] k++[_]).Pairwise _;rw[Sy];exact⟨p,U0 _ _,λa ha b hb=>by rw[OH.mp hb];exact q a ha _ (c9.mp m).1 (c9.mp m).2⟩
  ·have nj':j∉aH ws [] k:=λz=>nj (P2 _ z)
   rcases Pn.mp (show i∈aH ws [] k++[_] from hi) with z|z
   ·exact q i z j hj nj'
   ·rw[OH.mp z];exact AF sw ne j (c9.mpr ⟨hj,nj'⟩) λe=>nj (OX _ (by rw[e];exact OH.mpr Z))
abbrev Tr:=Nat×Nat×R
def mY(sm:List Tr)(l:Nat):R:=f8 ((sm.filter λx=>decide (x.2.1≤l)).map λx=>x.2.2)
def LI(r:R)(n:Int):R:=fc (r.1*1) (r.2*n)
def gr(s x:R):R:=if cD s x=true then x else s
def cW(t:Nat)(sm:List Tr)(x:Tr):R:=LI (mY sm x.2.1) ((x.2.1:Int)-t+1)
def Cc(t:Nat)(sm:List Tr):R:=sm.foldl (λs x=>gr s (cW t sm x)) (0,1)
def eR(sp a:R):R:=if cD sp a=true then sp else a
def eB(st:R×List Pc)(x:Tr):R×List Pc:=if 0<st.1.1 then(aY st.1 (eR st.1 x.2.2),st.2++[(x.1,eR st.1 x.2.2)]) else st
def Iv(x y:Tr):Prop:=x.2.1<y.2.1∨(x.2.1=y.2.1/\x.1<y.1)
def EJ(t:Nat)(sm:List Tr)(q:List Pc):Prop:=∃so:List Tr,so.Perm sm/\so.Pairwise Iv/\q=(so.foldl eB (Cc t sm,[])).2
theorem uS:∀{a b:List Tr},a.Perm b->a.Pairwise Iv->b.Pairwise Iv->a=b
 | [],b,h,_,_=>(List.Perm.nil_eq h)
 |x::a,[],h,_,_=>by have:=h.length_eq;cases this
 |x::a,y::b,h,p,q=>by
  have e:x=y:=by
   apply Qw;intro ne;rcases OO.mp (h.mem_iff.mp OJ) with z|z
   ·exact ne z
   ·rcases OO.mp (h.mem_iff.mpr OJ) with u|u
    ·exact ne u.symm
    ·have h1:=(RE.mp q).1 x z;have h2:=(RE.mp p).1 y u;unfold Iv at h1 h2;omega
  subst e;rw[uS ((List.perm_cons x).mp h) (RE.mp p).2 (RE.mp q).2]
theorem EJ.uniq(a:EJ t sm q)(b:EJ t sm r):q=r:=by
 obtain⟨s1,p1,w1,e1⟩:=a;obtain⟨s2,p2,w2,e2⟩:=b;rw[e1,e2,uS (p1.trans p2.symm) w1 w2]
def bK(t:Nat)(sm:List Tr):List Wk:=sm.map λx=>((t,x.2.1,x.2.2):Wk)
theorem uQ{α:Type}{f:α->R}:∀(l:List α) (s:R),fY s->(∀x∈l,fY (f x))->fY (l.foldl (λs x=>gr s (f x)) s)/\val s≤val (l.foldl (λs x=>gr s (f x)) s)/\(∀x∈l,val (f x)≤val (l.foldl (λs x=>gr s (f x)) s))/\(l.foldl (λs x=>gr s (f x)) s=s∨∃x∈l,l.foldl (λs x=>gr s (f x)) s=f x)
 | [],s,h,_=>⟨h,P3,(λx hx=>by cases hx),.inl Z⟩
 |y::l,s,h,hf=>by
  have ry:=hf y OJ;have m:fY (gr s (f y))/\val s≤val (gr s (f y))/\val (f y)≤val (gr s (f y))/\(gr s (f y)=s∨gr s (f y)=f y):=by
   unfold gr
   cases c:cD s (f y) with
   |true=>
    rw[if_pos Z];exact⟨ry,Qu ((iY h.pos ry.pos).mp c),P3,.inr Z⟩
   |false=>
    rw[if_neg O1];exact⟨h,P3,(iX h.pos ry.pos).mp c,.inl Z⟩
  obtain⟨a,b,c,d⟩:=uQ l (gr s (f y)) m.1 λx hx=>hf x (OL _ hx)
  rw[PR];refine⟨a,T0 m.2.1 b,λx hx=>?_,?_⟩
  ·rcases OO.mp hx with z|z
   ·rw[z];exact T0 m.2.2.1 b
   ·exact c x z
  ·rcases d with d | ⟨x,hx,d⟩
   ·rcases m.2.2.2 with e|e
    ·exact .inl (d.trans e)
    ·exact .inr ⟨y,OJ,d.trans e⟩
   ·exact .inr ⟨x,OL _ hx,d⟩
theorem Dz(h:∀x∈sm,fY x.2.2)(l:Nat):fY (mY sm l)/\val (mY sm l)=dV (bK t sm) l:=by
 obtain⟨a,b⟩:=kC (rs:=(sm.filter λx=>decide (x.2.1≤l)).map λx=>x.2.2) λr hr=>by
  obtain⟨x,hx,rfl⟩:=OP.mp hr;exact h x (OU.mp hx).1
 refine⟨a,?_⟩;show val (f8 _)=_;rw[b,oI,iP,gf];unfold dV bK;rw[iP];rfl
theorem jm(h:∀x∈sm,fY x.2.2)(le:t≤x.2.1):fY (cW t sm x)/\val (cW t sm x)*((x.2.1-t+1:Nat):Rat)=dV (bK t sm) x.2.1:=by
 obtain⟨rd,e⟩:=Dz (t:=t) h x.2.1;have en:((x.2.1:Int)-t+1)=((x.2.1-t+1:Nat):Int):=by omega
 have np:(0:Int)<((x.2.1-t+1:Nat):Int):=by omega
 have bp:0<(mY sm x.2.1).2*((x.2.1-t+1:Nat):Int):=Qf rd.pos np;unfold cW LI;rw[en];refine⟨hJ bp,?_⟩;rw[jF bp,←e,Xg,PJ,←PU];unfold val;have n1:((mY sm x.2.1).2:Rat)≠0:=cI rd.pos;have n2:(((x.2.1-t+1:Nat):Int):Rat)≠0:=cI np;generalize ((mY sm x.2.1).2:Rat)=a at *;generalize (((x.2.1-t+1:Nat):Int):Rat)=b at *;generalize ((mY sm x.2.1).1:Rat)=c at *;grind
theorem Eg(ok:∀w∈bK t sm,bz w)(w20:sm.length≤20)(ht:t<24)(h:im (bK t sm) (OB 24) lys):Cc t sm=(aQ (bK t sm) lys).getD t (0,1):=by
 have rd:∀x∈sm,fY x.2.2:=λx hx=>(ok _ (OP.mpr ⟨x,hx,Z⟩)).am.wf.red
 have le:∀x∈sm,t≤x.2.1:=λx hx=>(ok _ (OP.mpr ⟨x,hx,Z⟩)).le
 have h1:∀w∈bK t sm,w.1=t:=λw hw=>by obtain⟨x,_,rfl⟩:=OP.mp hw;rfl
 have lok:=jX h (by rw[Pi];exact OC _) (λt ht=>ON.mp ht);have am:=cv (n:=0) (jH ok (by unfold bK;rw[OD];exact w20) lok) t;obtain⟨a,b,c,d⟩:=uQ (f:=cW t sm) sm (0,1) ⟨by decide,by decide⟩ λx hx=>(jm rd (le x hx)).1
 refine gx a am.red ?_;rw[i7 h ht];have z0:val ((0,1):R)=0:=(f6 (r:=(0,1)) (by decide)).mpr Z;show val (sm.foldl (λs x=>gr s (cW t sm x)) (0,1))=_;generalize sm.foldl (λs x=>gr s (cW t sm x)) (0,1)=sp at *;have np:∀x:Tr,(0:Rat)<((x.2.1-t+1:Nat):Rat):=λx=>by
  rw[←PU];have:((0:Int):Rat)<(((x.2.1-t+1:Nat):Int):Rat):=P1.mpr (by omega);exact this
 rcases wA ok h1 ht h with⟨e,z⟩ | ⟨pos,up,w,hw,ew⟩
 ·have:sm=[]:=List.map_eq_nil_iff.mp e;subst this;rcases d with d | ⟨x,hx,_⟩
  ·rw[d,z,z0]
  ·cases hx
 ·refine XB ?_ ?_
  ·rcases d with d | ⟨x,hx,d⟩
   ·rw[d,z0];exact Qu pos
   ·rw[d];refine hV (np x) ?_;rw[(jm rd (le x hx)).2];exact up (t,x.2.1,x.2.2) (OP.mpr ⟨x,hx,Z⟩)
  ·obtain⟨x,hx,rfl⟩:=OP.mp hw;refine T0 ?_ (c x hx);refine hV (np x) ?_;rw[(jm rd (le x hx)).2];have e':dV (bK t sm) x.2.1=iJ (bK t sm) lys t*((x.2.1-t+1:Nat):Rat):=ew;rw[e'];exact P3
theorem nR{ws:List Wk}{ord:List Nat}{ss:List R}{t:Nat}(h1:∀w∈ws,w.1=t)(ho:∀i∈ord,i<ws.length):∀u,u≤t->(aO ws ord ss u).1=ws.map λw=>w.2.2
 |0,_=>rfl
 |u+1,h=>by
  have ih:=nR (ss:=ss) h1 ho u (by omega);have fx:∀(o:List Nat) (st:rT),(∀i∈o,i<ws.length)->o.foldl (bP ws u) st=st:=by
   intro o
   induction o with
   |nil=>intro st _;rfl
   |cons i o ihh=>
    intro st hl;have hi:=hl i OJ;have e:bP ws u st i=st:=by
     unfold bP;refine if_neg λz=>?_
     have z1:=z.1;rw[az bL (OA hi)] at z1;unfold fk at z1;rw[O2,decide_eq_true_iff,h1 _ (O6 hi)] at z1;omega
    rw[PR,e];exact ihh st λj hj=>hl j (OL _ hj)
  show(dr ws ord u (aO ws ord ss u).1 _).1=_;unfold dr;rw[fx ord _ ho];exact ih
theorem AM(p:0<a.1):dh a (0,1)=(0,1):=by
 unfold dh cD;rw[if_pos (decide_eq_true (by show(0:Int)*a.2<a.1*1;omega))]
theorem jD{t:Nat}{sm:List Tr}(ok:∀w∈bK t sm,bz w):∀(ord:List Nat) (lf:List R) (rm:R) (pc:List Pc),ord.Nodup->(∀i∈ord,i<sm.length)->lf.length=sm.length->(∀i∈ord,lf.getD i (0,1)=(sm.getD i (0,0,(0,1))).2.2)->(∀r∈lf,dU r)->dU rm->cL (sm.map (·.1)) (ord.foldl (bP (bK t sm) t) (lf,rm,pc)).2.2=((ord.map λi=>sm.getD i (0,0,(0,1))).foldl eB (rm,cL (sm.map (·.1)) pc)).2
 | [],lf,rm,pc,_,_,_,_,_,_=>rfl
 |i::ord,lf,rm,pc,nd,hl,ll,hlf,am,ar=>by
  have hi:=hl i OJ;have nd':=PZ.mp nd;have ei:sm.getD i (0,0,(0,1))=sm[i]:=az _ (OA hi);have ew:(bK t sm).getD i bL=(t,sm[i].2.1,sm[i].2.2):=az bL (by unfold bK;rw[OQ,OA hi];rfl);have wok:=ok (t,sm[i].2.1,sm[i].2.2) (OP.mpr ⟨sm[i],O6 hi,Z⟩);have iw:fk ((bK t sm).getD i bL) t=true:=by
   rw[ew];unfold fk;rw[decide_eq_true (OC _),decide_eq_true wok.le];rfl
  have ea:=hlf i OJ;have ap:0<(sm[i].2.2).1:=by have:=wok.am.top;have h:1≤(sm[i].2.2).1:=this;omega
  rw[ei] at ea;have aa:dU sm[i].2.2:=by rw[←ea];exact cv (n:=0) am i
  rw[Pm,PR,PR,ei];by_cases c:0<rm.1
  ·have e1:bP (bK t sm) t (lf,rm,pc) i=(lf.set i (aY sm[i].2.2 (eR rm sm[i].2.2)),aY rm (eR rm sm[i].2.2),pc++[(i,eR rm sm[i].2.2)]):=by
    unfold bP;show(if _/\dh (lf.getD i (0,1)) rm≠(0,1) then(lf.set i (aY (lf.getD i (0,1)) (dh (lf.getD i (0,1)) rm)),aY rm (dh (lf.getD i (0,1)) rm),pc++[(i,dh (lf.getD i (0,1)) rm)]) else _)=_;rw[ea];have em:dh sm[i].2.2 rm=eR rm sm[i].2.2:=Z;rw[em];refine if_pos ⟨iw,λz=>?_⟩;unfold eR at z
    split at z
    ·rw[z] at c;exact absurd c (by decide)
    ·rw[z] at ap;exact absurd ap (by decide)
   have e2:eB (rm,cL (sm.map (·.1)) pc) sm[i]=(aY rm (eR rm sm[i].2.2),cL (sm.map (·.1)) pc++[(sm[i].1,eR rm sm[i].2.2)]):=by
    unfold eB;exact if_pos c
   have le:=tz aa ar;have la:=iT aa ar;rw[e1,e2];have e3:cL (sm.map (·.1)) pc++[(sm[i].1,eR rm sm[i].2.2)]=cL (sm.map (·.1)) (pc++[(i,eR rm sm[i].2.2)]):=by
    unfold cL;rw[P0];show _=_++[((sm.map (·.1)).getD i 0,_)];rw[az 0 (show(sm.map (·.1))[i]?=some sm[i].1 by rw[OQ,OA hi];rfl)]
   rw[e3];refine jD ok ord _ _ _ nd'.2 (λj hj=>hl j (OL _ hj)) (by rw[QM];exact ll) (λj hj=>?_) (λr hr=>?_) (lC ar la le.2)
   ·have ne:i≠j:=λz=>nd'.1 (by rw[z];exact hj)
    rw[OF,Qe ne,←OF];exact hlf j (OL _ hj)
   ·rcases Q5 hr with z|z
    ·exact am r z
    ·rw[z];exact lC aa la le.1
  ·have rz:rm=(0,1):=by
    apply Qw;intro nz;have:=ja ar.red ar.nn nz;omega
   have e1:bP (bK t sm) t (lf,rm,pc) i=(lf,rm,pc):=by
    unfold bP;refine if_neg λz=>z.2 ?_
    show dh (lf.getD i (0,1)) rm=(0,1);rw[ea,rz,AM ap]
   have e2:eB (rm,cL (sm.map (·.1)) pc) sm[i]=(rm,cL (sm.map (·.1)) pc):=by
    unfold eB;exact if_neg c
   rw[e1,e2];exact jD ok ord lf rm pc nd'.2 (λj hj=>hl j (OL _ hj)) ll (λj hj=>hlf j (OL _ hj)) am ar
theorem BS(ok:∀w∈bK t sm,bz w)(w20:sm.length≤20)(ht:t<24)(rise:(sm.map (·.1)).Pairwise (· < ·))(h:im (bK t sm) (OB 24) lys):EJ t sm (cL (sm.map (·.1)) ((cX (bK t sm) [] (aQ (bK t sm) lys)).2.getD t [])):=by
 have wl:(bK t sm).length=sm.length:=OD _;have h1:∀w∈bK t sm,w.1=t:=λw hw=>by obtain⟨x,_,rfl⟩:=OP.mp hw;rfl
 have lok:=jX h (by rw[Pi];exact OC _) (λt ht=>ON.mp ht);have sam:=jH ok (by rw[wl];exact w20) lok;have om:=kH (ws:=bK t sm) (fg _);have ol:∀i∈aH (bK t sm) [] (bK t sm).length,i<sm.length:=λi hi=>by rw[←wl];exact(om i).mp hi
 have nd:=jU (ws:=bK t sm) (fg _) (bK t sm).length (OC _);have lx:=(uL (ws:=bK t sm) (bK t sm).length (OC _)).1;have g:∀n,t<n->(aO (bK t sm) (aH (bK t sm) [] (bK t sm).length) (aQ (bK t sm) lys) n).2.getD t []=(dr (bK t sm) (aH (bK t sm) [] (bK t sm).length) t (aO (bK t sm) (aH (bK t sm) [] (bK t sm).length) (aQ (bK t sm) lys) t).1 ((aQ (bK t sm) lys).getD t (0,1))).2.2:=by
  intro n
  induction n with
  |zero=>intro z;omega
  |succ n ih=>
   intro hn;have ln:=(eN (ord:=aH (bK t sm) [] (bK t sm).length) (ss:=aQ (bK t sm) lys) ok (λi hi=>(om i).mp hi) sam n).2;show((aO (bK t sm) (aH (bK t sm) [] (bK t sm).length) (aQ (bK t sm) lys) n).2++[_]).getD t []=_;by_cases c:t<n
   ·rw[OF,Qv (by omega),←OF];exact ih c
   ·have:t=n:=by omega
    subst this;rw[OF,QZ (by omega),ln,Vo];rfl
 have e:=g 24 ht;unfold cX;rw[e,nR h1 (λi hi=>(om i).mp hi) t (OC _),←Eg ok w20 ht h];generalize aH (bK t sm) [] (bK t sm).length=ord at *;have wf:=jD ok ord (sm.map λx=>x.2.2) (Cc t sm) [] nd ol (OD _) (λi hi=>by
  rw[az (0,1) (show(sm.map λx=>x.2.2)[i]?=some (sm.getD i (0,0,(0,1))).2.2 by rw[OQ,OF,OA (ol i hi)];rfl)]) (λr hr=>by
  obtain⟨x,hx,rfl⟩:=OP.mp hr;have a:=(ok _ (OP.mpr ⟨x,hx,Z⟩)).am;exact⟨(rN a).mono ⟨5354228880,by decide⟩ (by decide),by have:1≤x.2.2.1:=a.top;omega⟩) (by rw[Eg ok w20 ht h];exact cv (n:=0) sam t)
 refine⟨ord.map λi=>sm.getD i (0,0,(0,1)),?_,?_,?_⟩
 ·have p:ord.Perm (OB sm.length):=(List.perm_ext_iff_of_nodup nd R3).mpr λi=>by rw[ON,om i,wl]
  refine(p.map _).trans ?_;have:(OB sm.length).map (λi=>sm.getD i (0,0,(0,1)))=sm:=by
   refine UW (by simp) λi h1 h2=>?_
   simp[h2]
  rw[this]
 ·rw[Rr];refine lx.imp_of_mem λ{i j} hi hj l=>?_
  have hi':=ol i hi;have hj':=ol j hj;have ei:sm.getD i (0,0,(0,1))=sm[i]:=az _ (OA hi');have ej:sm.getD j (0,0,(0,1))=sm[j]:=az _ (OA hj');have l1:aT (bK t sm) i=sm[i].2.1:=by unfold aT;rw[az bL (show(bK t sm)[i]?=some (t,sm[i].2.1,sm[i].2.2) by unfold bK;rw[OQ,OA hi'];rfl)]
  have l2:aT (bK t sm) j=sm[j].2.1:=by unfold aT;rw[az bL (show(bK t sm)[j]?=some (t,sm[j].2.1,sm[j].2.2) by unfold bK;rw[OQ,OA hj'];rfl)]
  rw[ei,ej];unfold Dk at l;rw[l1,l2] at l;rcases l with l | ⟨l,ij⟩
  ·exact .inl l
  ·refine .inr ⟨l,?_⟩;have:=P5.mp rise i j (by rw[OD];exact hi') (by rw[OD];exact hj') ij
   simpa using this
 ·have:(bK t sm).map (λw=>w.2.2)=sm.map λx=>x.2.2:=by unfold bK;rw[Qt];rfl
  rw[this];exact wf
def gz(s:ef):List Tr:=(ba s.rs).map λi=>((i,(s.kn.getD i bL).2.1,s.rs.getD i (0,1)):Tr)
theorem uw(s:ef):cO s.kn s.rs s.tn=bK s.tn (gz s):=by
 unfold cO bK gz;rw[Qt];rfl
theorem jL(s:ef):(gz s).map (·.1)=ba s.rs:=by
 unfold gz;rw[Qt];exact Xm _
theorem wt(rs:List R):(ba rs).Pairwise (· < ·):=Qg _ Si
theorem qL(s:ef):(gz s).length=(ba s.rs).length:=OD _
theorem Dr(o:xz s)(ht:s.tn<24)(h:im (cO s.kn s.rs s.tn) (OB 24) lys):EJ s.tn (gz s) (cL (ba s.rs) ((cX (cO s.kn s.rs s.tn) [] (aQ (cO s.kn s.rs s.tn) lys)).2.getD s.tn [])):=by
 have wok:=oH o ht;rw[uw] at h wok;rw[uw,←jL];have:=kJ s.rs;have:=o.len;have:=o.few;exact BS (λw hw=>(wok w hw).1) (by rw[qL];omega) ht (by rw[jL];exact wt _) h
structure LT(s:ef)(q0:List Pc):Prop extends Kn s q0 where
 wk:EJ s.tn (gz s) (cL (ba s.rs) q0)
theorem JX(o:xz s)(ht:s.tn<24)(h:im (cO s.kn s.rs s.tn) (OB 24) lys):LT s ((cX (cO s.kn s.rs s.tn) [] (aQ (cO s.kn s.rs s.tn) lys)).2.getD s.tn []):=⟨Ht o ht h,Dr o ht h⟩
def oX(K:Oz)(C Ct:Addr):Sp:=λvs H Q E=>∃(a lk lr ld:Addr) (s:ef),vs=[.ref a]/\jy K C H a lk lr ld s/\xz s/\(s.tn=24->∀d fs,H d=none->E (.ref Ct) (some d) (upd H d (dO d fs)))∧
 (s.tn<24->∀(q0:List Pc) (v:V) (H':Hp),LT s q0->kU a lk lr ld H H'->jy K C H' a lk lr ld (KL s (cL (ba s.rs) q0))->qc K H' v (cL (ba s.rs) q0)->Q v H')
theorem aM.steps{K:Oz}{t:Addr}{H H':Hp}{xs:List V}(h:H t=some (.lst xs))(k:∀b o,b≠t->H b=some o->H' b=some o)(h':∃ys,H' t=some (.lst ys)):aM K H H':=aM.step ⟨k,⟨xs,h⟩,h'⟩
theorem qr(rs:List R)(q:List Pc)(c:Pc):f9 rs (q++[c])=(f9 rs q).set c.1 (aY ((f9 rs q).getD c.1 (0,1)) c.2):=by
 unfold f9;rw[QD];rfl
theorem qo{q:List Pc}{c:Pc}(nd:(q.map (·.1)).Nodup)(hc:q[i]?=some c):c.1∉(q.take i).map (·.1):=λm=>by
 obtain⟨hi,ei⟩:=OV.mp hc;obtain⟨z,hz,ez⟩:=OP.mp m;obtain⟨j,hj,ej⟩:=PY.mp hz;have hj':=hj;rw[P7] at hj';rw[UB] at ej;have e:(q.map (·.1))[j]'(by rw[OD];omega)=(q.map (·.1))[i]'(by rw[OD];exact hi):=by
  rw[R4,R4,ej,ei];exact ez
 have:=(SD nd).mp e;omega
def qz(K:Oz):Sp:=λvs H Q _=>∃(v w:V) (r q:R) (n m:Nat),vs=[v,w]/\RV K H v r/\RV K H w q/\Wf n r/\Wf m q/\n+m+1≤3000/\pO H Q (bY r q)
def oQ(K:Oz):Sp:=λvs H Q _=>∃(v w:V) (r q:R) (n m:Nat),vs=[v,w]/\RV K H v r/\RV K H w q/\Wf n r/\Wf m q/\n+m+1≤3000/\pO H Q (aY r q)
abbrev lJ:=lN
def vK(K:Oz):Sp:=λvs H Q _=>∃(v w:V) (r:R) (z:Int),vs=[v,w]/\RV K H v r/\RV K H w (z,1)/\Wf 800 r/\0<z/\z≤24/\pO H Q (LI r z)
def oP(K:Oz):Sp:=λvs H Q _=>∃(a:Addr) (xs:List V) (rs:List R),vs=[.ref a]/\aS K H a xs/\cG (RV K H) xs rs/\(∀r∈rs,Bq 25882466482949286179863278649307923433294195500903155828261708777083304197655675043413266388030659964209410754393653789328972760953294720473500143200427572835208147172761078519773593353785008074840607407759949824000000000000000000000000 12 r)/\rs.length≤20/\∀(v':V) (H':Hp),aE H H'->RV K H' v' (f8 rs)->Q v' H'
def qA(K:Oz):Sp:=λvs H Q _=>∃(a:Addr) (xs:List V) (rs:List R),vs=[.ref a]/\aS K H a xs/\cG (RV K H) xs rs/\(∀r∈rs,Wf 800 r)/\rs.length≤20/\∀(v':V) (H':Hp),aE H H'->RV K H' v' (rs.foldl gr (0,1))->Q v' H'
theorem w8(h:Bq 25882466482949286179863278649307923433294195500903155828261708777083304197655675043413266388030659964209410754393653789328972760953294720473500143200427572835208147172761078519773593353785008074840607407759949824000000000000000000000000 256 r):Wf 800 r:=h.wf (by decide) (by decide) (by decide)
theorem JM(hs:Wf n s)(hx:Wf n x):Wf n (gr s x):=by
 unfold gr
 split
 ·exact hx
 ·exact hs
theorem xY{rs:List R}(h:rs[i]?=some r):f8 (rs.take (i+1))=bY (f8 (rs.take i)) r:=by
 unfold f8;rw[Ps,h,QD];rfl
def Kb(K:Oz)(H:Hp)(v:V)(x:Tr):Prop:=∃p y,v=.ref p/\bu K H p [.int (x.1:Nat),.int (x.2.1:Nat),y]/\RV K H y x.2.2
theorem Kb.mono{K:Oz}{H H':Hp}{v:V}{x:Tr}(h:Kb K H v x)(t:aM K H H'):Kb K H' v x:=let ⟨p,y,e,s,r⟩:=h;⟨p,y,e,t _ _ s,r.mono t⟩
def Ka(K:Oz)(H:Hp)(v:V)(x:Tr):Prop:=∃p y,v=.ref p/\bu K H p [.int (x.2.1:Nat),.int (x.1:Nat),y]/\RV K H y x.2.2
theorem Ka.mono{K:Oz}{H H':Hp}{v:V}{x:Tr}(h:Ka K H v x)(t:aM K H H'):Ka K H' v x:=let ⟨p,y,e,s,r⟩:=h;⟨p,y,e,t _ _ s,r.mono t⟩
structure HU(t:Nat)(sm:List Tr):Prop where
 len:sm.length≤20
 tr:∀x∈sm,x.1<20/\t≤x.2.1/\x.2.1<24/\Bq 25882466482949286179863278649307923433294195500903155828261708777083304197655675043413266388030659964209410754393653789328972760953294720473500143200427572835208147172761078519773593353785008074840607407759949824000000000000000000000000 12 x.2.2/\0<x.2.2.1
 nd:(sm.map (·.1)).Nodup
 mean:∀x∈sm,Bq 25882466482949286179863278649307923433294195500903155828261708777083304197655675043413266388030659964209410754393653789328972760953294720473500143200427572835208147172761078519773593353785008074840607407759949824000000000000000000000000 256 (cW t sm x)
def mU(K:Oz):Sp:=λvs H Q _=>∃(t:Nat) (a:Addr) (xs:List V) (sm:List Tr),vs=[.int (t:Nat),.ref a]/\aS K H a xs/\cG (Kb K H) xs sm/\HU t sm/\∀(v':V) (q:List Pc) (H':Hp),aE H H'->EJ t sm q->qc K H' v' q->Q v' H'
theorem NE(h:fY s)(nn:0≤s.1):gr (0,1) s=s:=by
 unfold gr cD;by_cases c:(0:Int)<s.1
 ·rw[if_pos (decide_eq_true (by show(0:Int)*s.2<s.1*1;omega))]
 ·rw[if_neg (λz=>c (by have:=of_decide_eq_true z;have e:(0:Int)*s.2<s.1*1:=this;omega))];apply Qw;intro nz;have:=ja h nn (λz=>nz z.symm);omega
theorem Hy(len:sm.length≤20)(h:∀x∈sm,Bq 25882466482949286179863278649307923433294195500903155828261708777083304197655675043413266388030659964209410754393653789328972760953294720473500143200427572835208147172761078519773593353785008074840607407759949824000000000000000000000000 12 x.2.2)(l:Nat):Bq 25882466482949286179863278649307923433294195500903155828261708777083304197655675043413266388030659964209410754393653789328972760953294720473500143200427572835208147172761078519773593353785008074840607407759949824000000000000000000000000 240 (mY sm l):=by
 refine(g8 (N:=12) (by decide) λr hr=>?_).mono (Qi _) ?_
 ·obtain⟨x,hx,rfl⟩:=OP.mp hr;exact h x (OU.mp hx).1
 ·rw[OD];have:=Pt (λx:Tr=>decide (x.2.1≤l)) sm;omega
theorem Df(h:∀x∈sm,fY x.2.2)(pos:∀x∈sm,0≤val x.2.2)(le:t≤x.2.1):0≤(cW t sm x).1:=by
 obtain⟨rd,e⟩:=jm (t:=t) h le;refine(gw rd.pos).mp ?_;have nn:0≤dV (bK t sm) x.2.1:=by
  unfold dV bK;rw[iP];exact lX λy hy=>fe _ (pos y hy)
 have np:(0:Rat)<((x.2.1-t+1:Nat):Rat):=by
  rw[←PU];have:((0:Int):Rat)<(((x.2.1-t+1:Nat):Int):Rat):=P1.mpr (by omega);exact this
 refine hV np ?_;rw[e];grind
theorem yd(hs:dU sp)(hx:dU x.2.2):dU (eB (sp,q) x).1:=by
 unfold eB
 split
 ·exact lC hs (iT hx hs) (tz hx hs).2
 ·exact hs
theorem Hr(hx:σ[i]?=some (some x))(hy:σ[j]?=some (some y))(k:Q (if b=true then x else y) H):if b=true then xS i σ H Q else xS j σ H Q:=by
 cases b with
 |true=>exact⟨x,hx,k⟩
 |false=>exact⟨y,hy,k⟩
def k2(x:Tr):Int×Int:=((x.2.1:Nat),(x.1:Nat))
def oN:Tr:=(0,0,(0,1))
theorem Bv{K:Oz}{H:Hp}:∀{ys:List V} {sm:List Tr},cG (Ka K H) ys sm->cG (T3 K H) ys (sm.map k2)
 |_,_,.nil=>.nil
 |_,_,.cons h t=>.cons (let ⟨p,y,e,s,_⟩:=h;⟨p,y,e,s⟩) (Bv t)
theorem rO{P:V->Tr->Prop}{ys:List V}{sm:List Tr}(h:cG P ys sm):∀{is:List Nat},(∀i∈is,i<sm.length)->cG P (is.map λi=>ys.getD i .non) (is.map λi=>sm.getD i oN)
 | [],_=>.nil
 |i::is,hl=>by
  refine .cons ?_ (rO h λj hj=>hl j (OL _ hj));have hi:=hl i OJ;have hy:i<ys.length:=by rw[h.len];exact hi
  obtain⟨d,hd,p⟩:=h.at (OA hy);show P (ys.getD i .non) (sm.getD i oN);rw[az V.non (OA hy),az oN hd];exact p
theorem Ey{sm:List Tr}(hi:i<sm.length):(sm.map k2).getD i (0,0)=k2 (sm.getD i oN):=by
 rw[az oN (OA hi)];exact az _ (by rw[OQ,OA hi];rfl)
theorem EW{sm:List Tr}(b:∀x∈sm,x.1<20){is:List Nat}(p:is.Perm (OB sm.length))(h:(is.map λi=>k3 ((sm.map k2).getD i (0,0))).Pairwise (· < ·)):(is.map λi=>sm.getD i oN).Perm sm/\(is.map λi=>sm.getD i oN).Pairwise Iv:=by
 constructor
 ·refine(p.map _).trans ?_;have:(OB sm.length).map (λi=>sm.getD i oN)=sm:=by
   refine UW (by simp) λi h1 h2=>?_
   simp[h2]
  rw[this]
 ·rw[Rr] at h ⊢;refine h.imp_of_mem λ{i j} hi hj l=>?_
  have li:=ON.mp (p.mem_iff.mp hi);have lj:=ON.mp (p.mem_iff.mp hj);rw[Ey li,Ey lj] at l;have bi:(sm.getD i oN).1<20:=b _ (by rw[az oN (OA li)];exact O6 li);have bj:(sm.getD j oN).1<20:=b _ (by rw[az oN (OA lj)];exact O6 lj);have l':(((sm.getD i oN).2.1:Nat):Int)*1000+((sm.getD i oN).1:Nat)<(((sm.getD j oN).2.1:Nat):Int)*1000+((sm.getD j oN).1:Nat):=l;unfold Iv;omega
theorem JQ{sm:List Tr}(b:∀x∈sm,x.1<20)(nd:(sm.map (·.1)).Nodup):((sm.map k2).map k3).Nodup:=by
 rw[Qt];unfold PQ at nd ⊢;rw[Rr] at nd ⊢;refine nd.imp_of_mem λ{x y} hx hy ne e=>ne ?_
 have bx:=b x hx;have by':=b y hy;have e':((x.2.1:Nat):Int)*1000+(x.1:Nat)=((y.2.1:Nat):Int)*1000+(y.1:Nat):=e;omega
theorem B1{so:List Tr}(st:R×List Pc)(h:so[i]?=some x):(so.take (i+1)).foldl eB st=eB ((so.take i).foldl eB st) x:=by
 rw[Ps,h,QD];rfl
theorem B4(h:sm[i]?=some x):(sm.take (i+1)).foldl (λs x=>gr s (cW t sm x)) (0,1)=gr ((sm.take i).foldl (λs x=>gr s (cW t sm x)) (0,1)) (cW t sm x):=by
 rw[Ps,h,QD];rfl
theorem ym(ok:HU t sm)(i:Nat):dU ((sm.take i).foldl (λs x=>gr s (cW t sm x)) (0,1)):=by
 have rd:∀x∈sm,fY x.2.2:=λx hx=>(ok.tr x hx).2.2.2.1.red
 have vn:∀x∈sm,0≤val x.2.2:=λx hx=>(gw (rd x hx).pos).mpr (by have:=(ok.tr x hx).2.2.2.2;omega)
 have key:∀(l:List Tr) (s:R),(∀x∈l,x∈sm)->dU s->dU (l.foldl (λs x=>gr s (cW t sm x)) s):=by
  intro l
  induction l with
  |nil=>intro s _ h;exact h
  |cons y l ih=>
   intro s hl h;refine ih _ (λx hx=>hl x (OL _ hx)) ?_;have my:=hl y OJ;show dU (gr s (cW t sm y));unfold gr
   split
   ·exact⟨ok.mean y my,Df rd vn (ok.tr y my).2.1⟩
   ·exact h
 exact key _ _ (λx hx=>RP hx) vh
def ki(t:Nat)(lw ll lp:Addr):List (cA×V):=[(.inr (OT "turn"),.int (t:Nat)),(.inr (OT "works"),.ref lw),(.inr (OT "left"),.ref ll),(.inr (OT "plan"),.ref lp)]
structure m8(K:Oz)(H:Hp)(h lw ll lp:Addr)(s:ef):Prop where
 dk:H h=some (.dK (ki s.tn lw ll lp))
 hk:∃xs,H lw=some (.lst xs)/\cG (xG K H) xs s.kn
 hr:∃xs,H ll=some (.lst xs)/\cG (RV K H) xs s.rs
 hd:∃xs,H lp=some (.lst xs)/\cG (qc K H) xs s.dn
 n1:lw≠ll
 n2:lw≠lp
 n3:ll≠lp
theorem m8.same{K:Oz}{H H':Hp}{h lw ll lp:Addr}{s:ef}(z:m8 K H h lw ll lp s)(e:aE H H'):m8 K H' h lw ll lp s:=by
 obtain⟨x,k1,k2⟩:=z.hk;obtain⟨y,r1,r2⟩:=z.hr;obtain⟨u,d1,d2⟩:=z.hd;have t:=aM.same (K:=K) e;exact⟨e _ _ z.dk,⟨x,e _ _ k1,k2.mono λ_ _ q=>q.mono t⟩,⟨y,e _ _ r1,r2.mono λ_ _ q=>q.mono t⟩,⟨u,e _ _ d1,d2.mono λ_ _ q=>q.mono t⟩,z.n1,z.n2,z.n3⟩
theorem Lu:¬((SC (OT "turn"):cA)=.inr (OT "works")):=by decide +kernel
theorem wG:¬((SC (OT "turn"):cA)=.inr (OT "left")):=by decide +kernel
theorem xE:¬((SC (OT "turn"):cA)=.inr (OT "plan")):=by decide +kernel
theorem Mz:¬((SC (OT "works"):cA)=.inr (OT "left")):=by decide +kernel
theorem Mx:¬((SC (OT "works"):cA)=.inr (OT "plan")):=by decide +kernel
theorem Hf:¬((SC (OT "left"):cA)=.inr (OT "plan")):=by decide +kernel
section
variable {H:Hp}{h lw ll lp:Addr}{t:Nat} (e:H h=some (.dK (ki t lw ll lp)))
include e
theorem rE:fZ H h (.str (OT "turn")) (some (.int (t:Nat))):=by
 have q:=fZ.k (k:=.inr (OT "turn")) e;unfold ki at q;rw[eP Z] at q;exact q
theorem wS:fZ H h (.str (OT "works")) (some (.ref lw)):=by
 have q:=fZ.k (k:=.inr (OT "works")) e;unfold ki at q;rw[bX Lu,eP Z] at q;exact q
theorem wT:fZ H h (.str (OT "left")) (some (.ref ll)):=by
 have q:=fZ.k (k:=.inr (OT "left")) e;unfold ki at q;rw[bX wG,bX Mz,eP Z] at q;exact q
theorem J3:fZ H h (.str (OT "plan")) (some (.ref lp)):=by
 have q:=fZ.k (k:=.inr (OT "plan")) e;unfold ki at q;rw[bX xE,bX Mx,bX Hf,eP Z] at q;exact q
theorem LE(u:Nat):p8 H h (.str (OT "turn")) (.int (u:Nat)) (upd H h (.dK (ki u lw ll lp))):=by
 have q:=p8.k (k:=.inr (OT "turn")) (v:=.int (u:Nat)) e (by show 4<sizeLine;decide);have p:df (ki t lw ll lp) (.inr (OT "turn")) (.int (u:Nat))=ki u lw ll lp:=by
  unfold df ki;rw[if_pos (by rw[Rg,decide_eq_true Z,Bool.true_or])];rw[Pm,Pm,Pm,Pm,Vf];rw[if_pos Z,if_neg (λz=>Lu z.symm),if_neg (λz=>wG z.symm),if_neg (λz=>xE z.symm)]
 rw[p] at q;exact q
theorem IJ{K:Oz}(o:HO):aM K H (upd H h o):=λb xs q=>by
 rcases q with(q | ⟨o',q⟩)|q
 ·exact .inl (.inl (by rw[au (λz=>by subst z;rw[q] at e;cases e)];exact q))
 ·exact .inl (.inr ⟨o',by rw[au (λz=>by subst z;rw[q] at e;cases e)];exact q⟩)
 ·exact .inr q
end
def qD(K:Oz):Sp:=λvs H Q _=>∃(h lw ll lp:Addr) (s:ef) (q0:List Pc),vs=[.ref h]/\m8 K H h lw ll lp s/\xz s/\s.tn<24/\LT s q0/\∀(v:V) (H':Hp),kU h lw ll lp H H'->m8 K H' h lw ll lp (KL s (cL (ba s.rs) q0))->qc K H' v (cL (ba s.rs) q0)->Q v H'
theorem Dg(ht:t<24)(len:sm.length≤20)(hb:∀y∈sm,Bq (DK t) 12 y.2.2)(le:t≤x.2.1)(lt:x.2.1<24):Bq 25882466482949286179863278649307923433294195500903155828261708777083304197655675043413266388030659964209410754393653789328972760953294720473500143200427572835208147172761078519773593353785008074840607407759949824000000000000000000000000 256 (cW t sm x):=by
 have sb:Bq (DK t) 240 (mY sm x.2.1):=by
  refine(g8 (N:=12) (uc t) λr hr=>?_).mono (Qi _) ?_
  ·obtain⟨y,hy,rfl⟩:=OP.mp hr;exact hb y (OU.mp hy).1
  ·rw[OD];have:=Pt (λy:Tr=>decide (y.2.1≤x.2.1)) sm;omega
 have en:((x.2.1:Int)-t+1)=((x.2.1-t+1:Nat):Int):=by omega
 have o:Bq (x.2.1-t+1) 1 ((1,((x.2.1-t+1:Nat):Int)):R):=⟨by show(0:Int)<_;omega,by simp,Vh _,by show(1:Int).natAbs≤1*(((x.2.1-t+1:Nat):Int)).natAbs;omega⟩;unfold cW;rw[en];refine(sb.times o).mono ?_ (by decide);refine Nat.dvd_trans (Sz _ (Ew _ (by omega) (by omega))) ?_;rw[←p9];exact jA (by omega)
theorem Ce(o:xz s)(ht:s.tn<24):HU s.tn (gz s):=by
 have l1:=kJ s.rs;have l2:=o.len;have l3:=o.few;have len:(gz s).length≤20:=by rw[qL];omega
 have tr:∀x∈gz s,x.1<20/\s.tn≤x.2.1/\x.2.1<24/\Bq (DK s.tn) 12 x.2.2/\0<x.2.2.1:=λx hx=>by
  obtain⟨i,hi,rfl⟩:=OP.mp hx;obtain⟨h1,h2⟩:=eS.mp hi;have hk:i<s.kn.length:=by omega
  have a:=o.am _ (fO h1);have kk:=o.kn (s.kn.getD i bL) (by rw[az bL (OA hk)];exact O6 hk);have:=ja a.1.red a.2 h2;exact⟨by show i<20;omega,o.due i hk h2,kk.2.1,a.1,by show 0<(s.rs.getD i (0,1)).1;omega⟩
 refine⟨len,λx hx=>?_,by rw[jL];exact uP _,λx hx=>?_⟩
 ·obtain⟨a,b,c,d,e⟩:=tr x hx;exact⟨a,b,c,d.mono (jA (by omega)) (OC _),e⟩
 ·obtain⟨a,b,c,d,e⟩:=tr x hx;exact Dg ht len (λy hy=>(tr y hy).2.2.2.1) b c
def BJ(s:ef)(i:Nat):List Tr:=((OB i).filter λj=>decide (s.rs.getD j (0,1)≠(0,1))).map λj=>((j,(s.kn.getD j bL).2.1,s.rs.getD j (0,1)):Tr)
theorem Cf(h:s.rs.getD i (0,1)≠(0,1)):BJ s (i+1)=BJ s i++[(i,(s.kn.getD i bL).2.1,s.rs.getD i (0,1))]:=by
 unfold BJ;rw[P4,RC,R0 (p:=λj=>decide (s.rs.getD j (0,1)≠(0,1))) (decide_eq_true h),TJ,P0];rfl
theorem E4(h:s.rs.getD i (0,1)=(0,1)):BJ s (i+1)=BJ s i:=by
 unfold BJ;rw[P4,RC,R1 (p:=λj=>decide (s.rs.getD j (0,1)≠(0,1))) (by rw[h];decide),TJ,Qr]
theorem Cg(s:ef)(i:Nat):(BJ s i).length≤i:=by
 unfold BJ;rw[OD];have:=Pt (λj=>decide (s.rs.getD j (0,1)≠(0,1))) (OB i);rw[Pi] at this;exact this
theorem E8(h:i.natAbs<2^n)(hn:n≤1900):Sh 0 1921 (.int i):=by
 refine⟨?_,Z,OC _,He h hn⟩;show decide (i.natAbs.log2<1920)=true;refine decide_eq_true ?_;by_cases z:i.natAbs=0
 ·rw[z];decide
 ·exact O5 ((VB z).mpr h) (by omega)
theorem Ck(h:i≤100):Sh 0 1921 (.int (i:Nat)):=E8 (n:=7) (by show((i:Nat):Int).natAbs<128;omega) (by decide)
theorem E7(h:Wf n r)(hn:n≤1900):Sh 1 3856 (dR r):=by
 refine Sh.tup (k:=0) (n:=1921) (m:=2) (λd hd=>?_) (OC _) (by decide);simp only[OO,Py,or_false] at hd;rcases hd with rfl|rfl
 ·exact E8 h.top hn
 ·exact E8 h.bot hn
theorem DJ(h1:(s.tn:Int)≤i)(h2:i≤23):ix s (.int i) du=(d0 du&&decide (s.kn.length<20)):=by
 unfold ix
 congr 1
 show((decide ((0:Int)≤(s.tn:Nat))&&decide (((s.tn:Nat):Int)<24))&&((decide (0≤i)&&decide (i<24))&&(decide (((s.tn:Nat):Int)≤i)&&d0 du)))=d0 du;rw[decide_eq_true (show(0:Int)≤(s.tn:Nat) by omega),decide_eq_true (show((s.tn:Nat):Int)<24 by omega),decide_eq_true (show 0≤i by omega),decide_eq_true (show i<24 by omega),decide_eq_true h1];rfl
theorem DI(o:xz s)(c:ix s dv du=true)(e1:dv=.int (l:Nat))(e2:du=dR r)(am:Bq 84 12 r):xz (u9 s l r):=by
 subst e1;subst e2;unfold ix at c;rw[O2,decide_eq_true_iff] at c;obtain⟨l',r',q1,q2,h1,h2,h3,h4⟩:=u8 c.1;have:l'=l:=by injection q1 with z;omega
 subst this;have er:r'=r:=by
  have z:Vp [.int r.1,.int r.2]=Vp [.int r'.1,.int r'.2]:=q2;injection z with z;injection z with z1 z;injection z with z2 _;injection z1 with z1;injection z2 with z2;exact(Wy z1 z2).symm
 subst er;have len:=o.len;have few:=o.few;refine⟨o.t24,?_,?_,o.dl,?_,?_,?_,o.pcs⟩
 ·show(s.rs++[r']).length=(s.kn++[(s.tn,l',r')]).length;rw[Pk,Pk,len];rfl
 ·show(s.kn++[(s.tn,l',r')]).length≤20;rw[Pk,Q6];omega
 ·intro w hw;rcases Pn.mp (show w∈s.kn++[(s.tn,l',r')] from hw) with z|z
  ·exact o.kn w z
  ·rw[OH.mp z];exact⟨by show s.tn<24;omega,h2,am,by show 0≤r'.1;omega⟩
 ·intro x hx;rcases Pn.mp (show x∈s.rs++[r'] from hx) with z|z
  ·exact o.am x z
  ·rw[OH.mp z];exact⟨am.mono (by unfold DK;exact UC _ _) (OC _),by omega⟩
 ·intro i hi nz;have hi':i<(s.kn++[(s.tn,l',r')]).length:=hi;have nz':(s.rs++[r']).getD i (0,1)≠(0,1):=nz;show s.tn≤((s.kn++[(s.tn,l',r')]).getD i bL).2.1;rw[Pk,Q6] at hi';by_cases c':i<s.kn.length
  ·rw[OF,Qv c',←OF];rw[OF,Qv (by omega),←OF] at nz';exact o.due i c' nz'
  ·have:i=s.kn.length:=by omega
   subst this;rw[OF,QZ (OC _),Vo];exact h1
theorem cR.keep(h:cR H t l)(h1:∀o,H t=some o->H' t=some o)(h2:∀o,H l=some o->H' l=some o):cR H' t l:=by
 obtain⟨ns,p,e,f,c⟩:=h.ex;exact⟨ns,p,h1 _ e,h2 _ f,c⟩
theorem Ez:xz ⟨0,[],[],[]⟩:=⟨by decide,Z,by decide,Z,(λw h=>by cases h),(λr h=>by cases h),(λi h=>by cases h),(λq h=>by cases h)⟩
theorem Dh(h1:1≤a)(h2:a≤12)(h3:1≤b)(h5:b∣84):Bq 84 12 (fc a b):=vc (by omega) h5 (by
 have:12*1≤12*b.natAbs:=RW _ (by omega);omega)
theorem DT(h:fY r)(p:0<r.1):d0 (dR r)=true:=by
 show((decide (1≤r.2)&&decide (O0 r.1 r.2=1))&&decide (0<r.1))=true;rw[decide_eq_true (show 1≤r.2 by have:=h.pos;omega),decide_eq_true h.cop,decide_eq_true p];rfl
theorem tK(h:upd (upd H dx o1) a o2 b=none)(ha:H a=none)(hd:H dx=none):H b=none:=by
 cases e:H b with
 |none=>rfl
 |some o=>
  exfalso;rw[au (λz=>by rw[z,ha] at e;cases e),au (λz=>by rw[z,hd] at e;cases e),e] at h
  cases h
theorem HM(h:dR r=dR q):r=q:=by
 have z:Vp [.int r.1,.int r.2]=Vp [.int q.1,.int q.2]:=h;injection z with z;injection z with z1 z;injection z with z2 _;injection z1 with z1;injection z2 with z2;exact Wy z1 z2
def Iw(s:ef)(k:Int):PyData:=if k=0 then .int (s.tn:Nat) else if k=1 then J5 s.kn else if k=2 then .tuple (s.rs.map dR) else J7 s.dn
theorem Ek(l20:q.length≤20)(pc:∀c∈q,c.1<20/\dU c.2):Sh 3 154588 (J6 q):=by
 refine Sh.tup (k:=2) (n:=7726) (m:=20) (λd hd=>?_) (by rw[OD];exact l20) (by decide);obtain⟨c,hc,rfl⟩:=OP.mp hd;obtain⟨c20,ac⟩:=pc c hc;refine Sh.tup (k:=1) (n:=3856) (m:=2) (λd hd=>?_) (OC _) (by decide);simp only[OO,Py,or_false] at hd;rcases hd with rfl|rfl
 ·exact(Ck (by omega)).mono (by decide) (by decide)
 ·exact E7 ac.wf (by decide)
theorem Ej(o:xz s)(k:Int):vq (Iw s k):=by
 have t24:=o.t24;have key:Sh 4 3710192 (Iw s k):=by
  unfold Iw
  split
  ·exact(Ck (by omega)).mono (by decide) (by decide)
  split
  ·refine(Sh.tup (k:=2) (n:=12000) (m:=20) (N:=300000) (λd hd=>?_) (by rw[OD];exact o.few) (by decide)).mono (by decide) (by decide);obtain⟨w,hw,rfl⟩:=OP.mp hd;obtain⟨w1,w2,wb,_⟩:=o.kn w hw;refine Sh.tup (k:=1) (n:=3856) (m:=3) (λd hd=>?_) (OC _) (by decide);simp only[OO,Py,or_false] at hd;rcases hd with rfl|rfl|rfl
   ·exact(Ck (by omega)).mono (by decide) (by decide)
   ·exact(Ck (by omega)).mono (by decide) (by decide)
   ·exact E7 (wb.wf (n:=20) (by decide) (by decide) (by decide)) (by decide)
  split
  ·refine(Sh.tup (k:=1) (n:=3856) (m:=20) (N:=100000) (λd hd=>?_) (by rw[OD,o.len];exact o.few) (by decide)).mono (by decide) (by decide);obtain⟨r,hr,rfl⟩:=OP.mp hd;exact E7 (((o.am r hr).1.mono (jA o.t24) (OC _)).wf (n:=800) (by decide) (by decide) (by decide)) (by decide)
  ·refine Sh.tup (k:=3) (n:=154588) (m:=24) (λd hd=>?_) (by rw[OD,o.dl];exact t24) (by decide);obtain⟨q,hq,rfl⟩:=OP.mp hd;obtain⟨l20,pc⟩:=o.pcs q hq;exact Ek l20 pc
 exact Sh.shows (k:=4) (n:=3710192) key (by decide) (by decide)
structure PA where
 a:Addr
 lk:Addr
 lr:Addr
 ld:Addr
 h:Addr
 lw:Addr
 ll:Addr
 lp:Addr
def PA.l(p:PA):List Addr:=[p.a,p.lk,p.lr,p.ld,p.h,p.lw,p.ll,p.lp]
structure Pr(K:Oz)(C:Addr)(H:Hp)(p:PA)(s:ef):Prop where
 kp:jy K C H p.a p.lk p.lr p.ld s
 hs:m8 K H p.h p.lw p.ll p.lp s
 ok:xz s
 dj:p.l.Nodup
theorem jy.keep{K:Oz}{C:Addr}{H H':Hp}{a lk lr ld:Addr}{s:ef}(h:jy K C H a lk lr ld s)(z:∀b∈[a,lk,lr,ld],∀o,H b=some o->H' b=some o)(t:aM K H H'):jy K C H' a lk lr ld s:=by
 obtain⟨dx,i⟩:=h.ins;obtain⟨x,k1,k2⟩:=h.hk;obtain⟨y,r1,r2⟩:=h.hr;obtain⟨u,d1,d2⟩:=h.hd;exact⟨⟨dx,z _ (by simp) _ i⟩,⟨x,z _ (by simp) _ k1,k2.mono λ_ _ q=>q.mono t⟩,⟨y,z _ (by simp) _ r1,r2.mono λ_ _ q=>q.mono t⟩,⟨u,z _ (by simp) _ d1,d2.mono λ_ _ q=>q.mono t⟩,h.n1,h.n2,h.n3⟩
theorem m8.keep{K:Oz}{H H':Hp}{h lw ll lp:Addr}{s:ef}(e:m8 K H h lw ll lp s)(z:∀b∈[h,lw,ll,lp],∀o,H b=some o->H' b=some o)(t:aM K H H'):m8 K H' h lw ll lp s:=by
 obtain⟨x,k1,k2⟩:=e.hk;obtain⟨y,r1,r2⟩:=e.hr;obtain⟨u,d1,d2⟩:=e.hd;exact⟨z _ (by simp) _ e.dk,⟨x,z _ (by simp) _ k1,k2.mono λ_ _ q=>q.mono t⟩,⟨y,z _ (by simp) _ r1,r2.mono λ_ _ q=>q.mono t⟩,⟨u,z _ (by simp) _ d1,d2.mono λ_ _ q=>q.mono t⟩,e.n1,e.n2,e.n3⟩
theorem m8.tst{K:Oz}{H H':Hp}{h lw ll lp:Addr}{s:ef}(e:m8 K H h lw ll lp s)(z:kU h lw ll lp H H'):aM K H H':=by
 have i:=e.dk;obtain⟨x,k1,_⟩:=e.hk;obtain⟨y,r1,_⟩:=e.hr;obtain⟨u,d1,_⟩:=e.hd;intro p xs q;rcases q with(q | ⟨o,q⟩)|q
 ·exact .inl (.inl (z _ _ (λe=>by subst e;rw[q] at i;cases i) (λe=>by subst e;rw[q] at k1;cases k1) (λe=>by subst e;rw[q] at r1;cases r1) (λe=>by subst e;rw[q] at d1;cases d1) q))
 ·exact .inl (.inr ⟨o,z _ _ (λe=>by subst e;rw[q] at i;cases i) (λe=>by subst e;rw[q] at k1;cases k1) (λe=>by subst e;rw[q] at r1;cases r1) (λe=>by subst e;rw[q] at d1;cases d1) q⟩)
 ·exact .inr q
theorem jy.cls{K:Oz}{C:Addr}{H:Hp}{a lk lr ld:Addr}{s:ef}(h:jy K C H a lk lr ld s):∀b∈[a,lk,lr,ld],∃o,H b=some o:=λb hb=>by
 obtain⟨dx,i⟩:=h.ins;obtain⟨x,k1,_⟩:=h.hk;obtain⟨y,r1,_⟩:=h.hr;obtain⟨u,d1,_⟩:=h.hd;simp only[OO,Py,or_false] at hb;rcases hb with rfl|rfl|rfl|rfl
 ·exact⟨_,i⟩
 ·exact⟨_,k1⟩
 ·exact⟨_,r1⟩
 ·exact⟨_,d1⟩
theorem m8.cls{K:Oz}{H:Hp}{h lw ll lp:Addr}{s:ef}(e:m8 K H h lw ll lp s):∀b∈[h,lw,ll,lp],∃o,H b=some o:=λb hb=>by
 obtain⟨x,k1,_⟩:=e.hk;obtain⟨y,r1,_⟩:=e.hr;obtain⟨u,d1,_⟩:=e.hd;simp only[OO,Py,or_false] at hb;rcases hb with rfl|rfl|rfl|rfl
 ·exact⟨_,e.dk⟩
 ·exact⟨_,k1⟩
 ·exact⟨_,r1⟩
 ·exact⟨_,d1⟩
theorem PA.mem(p:PA)(b:Addr):b∈p.l↔b∈[p.a,p.lk,p.lr,p.ld]∨b∈[p.h,p.lw,p.ll,p.lp]:=by
 rw[←Pn];rfl
theorem PA.apart{p:PA}(d:p.l.Nodup)(hb:b∈[p.a,p.lk,p.lr,p.ld])(hc:c∈[p.h,p.lw,p.ll,p.lp]):b≠c:=by
 have d':([p.a,p.lk,p.lr,p.ld]++[p.h,p.lw,p.ll,p.lp]).Nodup:=d;exact(Qd.mp d').2.2 b hb c hc
theorem Pr.cls{K:Oz}{C:Addr}{H:Hp}{p:PA}{s:ef}(h:Pr K C H p s){b:Addr}(hb:b∈p.l):∃o,H b=some o:=by
 rcases(p.mem b).mp hb with z|z
 ·exact h.kp.cls b z
 ·exact h.hs.cls b z
def fP(S:List Addr)(H H':Hp):Prop:=∀b o,b∉S->H b=some o->H' b=some o
theorem fP.trans(a:fP S H H1)(b:fP S H1 H2):fP S H H2:=λc o n e=>b c o n (a c o n e)
theorem fP.of(z:aE H H'):fP S H H':=λb o _ e=>z b o e
theorem fP.sub(h:fP S H H')(z:∀b∈S,b∈S'):fP S' H H':=λb o n e=>h b o (λq=>n (z b q)) e
theorem kU.stl{a lk lr ld:Addr}{H H':Hp}(h:kU a lk lr ld H H'):fP [a,lk,lr,ld] H H':=λb o n e=>by
 simp only[OO,Py,or_false,not_or] at n;exact h b o n.1 n.2.1 n.2.2.1 n.2.2.2 e
theorem Pr.stay{K:Oz}{C:Addr}{H H':Hp}{p:PA}{s:ef}{S:List Addr}(h:Pr K C H p s)(z:fP S H H')(d:∀b∈p.l,b∉S)(t:aM K H H'):Pr K C H' p s:=
 ⟨h.kp.keep (λb hb o e=>z b o (d b ((p.mem b).mpr (.inl hb))) e) t,h.hs.keep (λb hb o e=>z b o (d b ((p.mem b).mpr (.inr hb))) e) t,h.ok,h.dj⟩
theorem Pr.same{K:Oz}{C:Addr}{H H':Hp}{p:PA}{s:ef}(h:Pr K C H p s)(z:aE H H'):Pr K C H' p s:=⟨h.kp.same z,h.hs.same z,h.ok,h.dj⟩
theorem Pr.tape{K:Oz}{C:Addr}{H:Hp}{p:PA}{s:ef}{t l:Addr}{xs:List V}(h:Pr K C H p s)(tb:cR H t l)(d:t∉p.l):Pr K C (upd H t (.lst xs)) p s:=by
 obtain⟨ys,et⟩:=tb.lst;exact h.stay (S:=[t]) (λb o n e=>by rw[au (λz=>n (by rw[z];exact OH.mpr Z))];exact e) (λb hb z=>d (by rw[←OH.mp z];exact hb)) (aM.up et xs)
def qE(K:Oz):Sp:=λvs H Q _=>∃(t l h lw ll lp:Addr) (tn:Nat),vs=[.ref t,.ref h]/\cR H t l/\H h=some (.dK (ki tn lw ll lp))/\tn≤23/\∀(p u:Addr) (j:Nat) (r:R) (H':Hp),fP [t] H H'->cR H' t l->bu K H' p [.int (j:Nat),.ref u]->RV K H' (.ref u) r->tn≤j->j≤23->Bq 84 12 r->0<r.1->Q (.ref p) H'
def oR(K:Oz)(C:Addr):Sp:=λvs H Q _=>∃(a lk lr ld:Addr) (s:ef) (k:Int),vs=[.ref a,.int k]/\jy K C H a lk lr ld s/\0≤k/\k<4/\∀(v:V) (H':Hp),aE H H'->bv K H' v (Iw s k)->Q v H'
def mT(K:Oz)(C:Addr):Sp:=λvs H Q _=>∃(t l:Addr) (p:PA) (s:ef),vs=[.ref t,.ref p.a,.ref p.h]/\cR H t l/\Pr K C H p s/\t∉p.l/\∀H',fP [t] H H'->cR H' t l->Q (.bl true) H'
theorem fP.tp(o:HO):fP [t] H (upd H t o):=λb o' n e=>by rw[au (λz=>n (by rw[z];exact OH.mpr Z))];exact e
theorem fP.at(h:fP [t] H H')(n:b≠t)(e:H b=some o):H' b=some o:=h b o (λz=>n (OH.mp z)) e
theorem AJ(h1:1≤a)(h3:1≤b):0<(fc a b).1:=De (by omega) (by omega)
def qy(K:Oz)(C:Addr):Sp:=λvs H Q _=>∃(t l:Addr) (p:PA) (s:ef),vs=[.ref t,.ref p.a,.ref p.h]/\cR H t l/\Pr K C H p s/\t∉p.l/\l∉p.l/\∀(s':ef) (H':Hp),fP (t::p.l) H H'->cR H' t l->Pr K C H' p s'->aM K H H'->Q (.bl true) H'
theorem IZ(l20:q.length≤20)(pc:∀c∈q,c.1<20/\dU c.2):vq (J6 q):=Sh.shows (k:=3) (n:=154588) (Ek l20 pc) (by decide) (by decide)
theorem Pr.pair{K:Oz}{C:Addr}{H H1 H2:Hp}{p:PA}{s s1:ef}(h:Pr K C H p s)(z1:kU p.a p.lk p.lr p.ld H H1)(k1:jy K C H1 p.a p.lk p.lr p.ld s1):m8 K H1 p.h p.lw p.ll p.lp s:=
 h.hs.keep (λb hb o e=>kU.stl z1 b o (λq=>PA.apart h.dj q hb Z) e) (h.kp.tst z1)
theorem jy.house{K:Oz}{C:Addr}{H1 H2:Hp}{p:PA}{s1 s:ef}(k1:jy K C H1 p.a p.lk p.lr p.ld s1)(dj:p.l.Nodup)(hs:m8 K H1 p.h p.lw p.ll p.lp s)(z2:kU p.h p.lw p.ll p.lp H1 H2):jy K C H2 p.a p.lk p.lr p.ld s1:=
 k1.keep (λb hb o e=>kU.stl z2 b o (λq=>PA.apart dj hb q Z) e) (hs.tst z2)
theorem fP.pair{p:PA}(a:kU p.a p.lk p.lr p.ld H H1)(b:kU p.h p.lw p.ll p.lp H1 H2):fP (t:: p.l) H H2:=((kU.stl a).sub (S':=t::p.l) λx hx=>OL _ ((p.mem x).mpr (.inl hx))).trans ((kU.stl b).sub λx hx=>OL _ ((p.mem x).mpr (.inr hx)))
theorem fP.tape{p:PA}(z:fP p.l H H')(tb:cR H t l)(n1:t∉p.l)(n2:l∉p.l):cR H' t l:=tb.keep (λo e=>z t o n1 e) (λo e=>z l o n2 e)
structure FA(p:Bool->PA)(lK lH:Addr)(H0:Hp):Prop where
 fr:∀c,∀x∈(p c).l,H0 x=none
 dj:∀x∈(p false).l,x∉(p true).l
 nK:∀c,lK∉(p c).l
 nH:∀c,lH∉(p c).l
structure Wd(K:Oz)(C:Addr)(H0:Hp)(p:Bool->PA)(lK lH:Addr)(H:Hp):Prop where
 sm:aE H0 H
 hK:H lK=some (.lst [.ref (p false).a,.ref (p true).a])
 hH:H lH=some (.lst [.ref (p false).h,.ref (p true).h])
 pr:∀c,∃s,Pr K C H (p c) s
section
variable {K:Oz}{C:Addr}{H0:Hp}{p:Bool->PA}{lK lH:Addr}{H H' Hb:Hp}
theorem Wd.same(w:Wd K C H0 p lK lH H)(z:aE H H'):Wd K C H0 p lK lH H':=⟨w.sm.trans z,z _ _ w.hK,z _ _ w.hH,λc=>let ⟨s,q⟩:=w.pr c;⟨s,q.same z⟩⟩
theorem Wd.gen(w:Wd K C H0 p lK lH H)(z:fP S H H')(tt:aM K H H')(h1:∀x o,H0 x=some o->x∉S)(h2:lK∉S)(h3:lH∉S)(h4:∀c,(∀x∈(p c).l,x∉S)∨∃s,Pr K C H' (p c) s):Wd K C H0 p lK lH H':=
 ⟨λx o e=>z x o (h1 x o e) (w.sm x o e),z _ _ h2 w.hK,z _ _ h3 w.hH,λc=>(h4 c).elim (λd=>let ⟨s,q⟩:=w.pr c;⟨s,q.stay z d tt⟩) id⟩
theorem Wd.out(w:Wd K C H0 p lK lH Hb)(n:Hb t=none)(c:Bool):t∉(p c).l:=λz=>by
 obtain⟨s,q⟩:=w.pr c;obtain⟨o,e⟩:=q.cls z;rw[n] at e
 cases e
theorem FA.dj'(F:FA p lK lH H0)(n:c≠b):∀x∈(p c).l,x∉(p b).l:=by
 cases b with
 |false=>
  cases c with
  |false=>exact absurd Z n
  |true=>exact λx h1 h2=>F.dj x h2 h1
 |true=>
  cases c with
  |false=>exact F.dj
  |true=>exact absurd Z n
theorem Wd.turn(w:Wd K C H0 p lK lH H)(F:FA p lK lH H0)(b:Bool)(z:fP (p b).l H H')(tt:aM K H H')(q:Pr K C H' (p b) s):Wd K C H0 p lK lH H':=by
 refine w.gen z tt (λx o e h=>?_) (F.nK b) (F.nH b) λc=>?_
 ·rw[F.fr b x h] at e;cases e
 ·by_cases e:c=b
  ·subst e;exact .inr ⟨s,q⟩
  ·exact .inl (F.dj' e)
theorem Wd.step(w0:Wd K C H0 p lK lH Hb)(n:Hb t=none)(w:Wd K C H0 p lK lH H)(F:FA p lK lH H0)(b:Bool)(z:fP (t:: (p b).l) H H')(tt:aM K H H')(q:Pr K C H' (p b) s):Wd K C H0 p lK lH H':=by
 have ne:∀{x:Addr} {o:HO},Hb x=some o->x≠t:=λe z=>by rw[z,n] at e;cases e
 refine w.gen z tt (λx o e h=>?_) (λh=>?_) (λh=>?_) λc=>?_
 ·rcases OO.mp h with h|h
  ·exact ne (w0.sm x o e) h
  ·rw[F.fr b x h] at e;cases e
 ·rcases OO.mp h with h|h
  ·exact ne w0.hK h
  ·exact F.nK b h
 ·rcases OO.mp h with h|h
  ·exact ne w0.hH h
  ·exact F.nH b h
 ·by_cases e:c=b
  ·subst e;exact .inr ⟨s,q⟩
  ·refine .inl λx hx h=>?_
   rcases OO.mp h with h|h
   ·rw[h] at hx;exact w0.out n c hx
   ·exact F.dj' e x hx h
theorem Wd.stay(w0:Wd K C H0 p lK lH Hb)(n:Hb t=none)(w:Wd K C H0 p lK lH H)(z:fP [t] H H')(tt:aM K H H'):Wd K C H0 p lK lH H':=by
 have ne:∀{x:Addr} {o:HO},Hb x=some o->x≠t:=λe z=>by rw[z,n] at e;cases e
 refine w.gen z tt (λx o e h=>ne (w0.sm x o e) (OH.mp h)) (λh=>ne w0.hK (OH.mp h)) (λh=>ne w0.hH (OH.mp h)) λc=>.inl λx hx h=>?_
 rw[OH.mp h] at hx;exact w0.out n c hx
theorem i3(z:fP [t] H H')(tb:cR H t l)(tb':cR H' t l):aM K H H':=by
 obtain⟨x,e⟩:=tb.lst;obtain⟨y,e'⟩:=tb'.lst;exact aM.steps e (λb o nb e=>z.at nb e) ⟨_,e'⟩
end
theorem uR(t:Nat)(lw ll lp:Addr):jW [] (ki t lw ll lp)=ki t lw ll lp:=by
 have h1:df ([]:List (cA×V)) (.inr (OT "turn")) (.int (t:Nat))=[(.inr (OT "turn"),.int (t:Nat))]:=je _ iZ;have h2:df [((.inr (OT "turn"),.int (t:Nat)):cA×V)] (.inr (OT "works")) (.ref lw)=[(.inr (OT "turn"),.int (t:Nat)),(.inr (OT "works"),.ref lw)]:=je _ (by rw[bX Lu,iZ]);have h3:df [((.inr (OT "turn"),.int (t:Nat)):cA×V),(.inr (OT "works"),.ref lw)] (.inr (OT "left")) (.ref ll)=[(.inr (OT "turn"),.int (t:Nat)),(.inr (OT "works"),.ref lw),(.inr (OT "left"),.ref ll)]:=je _ (by rw[bX wG,bX Mz,iZ]);have h4:df [((.inr (OT "turn"),.int (t:Nat)):cA×V),(.inr (OT "works"),.ref lw),(.inr (OT "left"),.ref ll)] (.inr (OT "plan")) (.ref lp)=ki t lw ll lp:=je _ (by rw[bX xE,bX Mx,bX Hf,iZ]);show df (df (df (df ([]:List (cA×V)) (.inr (OT "turn")) (.int (t:Nat))) (.inr (OT "works")) (.ref lw)) (.inr (OT "left")) (.ref ll)) (.inr (OT "plan")) (.ref lp)=_;rw[h1,h2,h3,h4]
theorem nZ{K:Oz}{H:Hp}{h lw ll lp:Addr}(g0:H h=none)(g1:upd H h (.dK []) lw=none)(g2:upd (upd H h (.dK [])) lw (.lst []) ll=none)(g3:upd (upd (upd H h (.dK [])) lw (.lst [])) ll (.lst []) lp=none) :
  upd (upd (upd (upd H h (.dK [])) lw (.lst [])) ll (.lst [])) lp (.lst []) h=some (.dK [])/\m8 K (upd (upd (upd (upd (upd H h (.dK [])) lw (.lst [])) ll (.lst [])) lp (.lst [])) h (.dK (ki 0 lw ll lp))) h lw ll lp ⟨0,[],[],[]⟩/\aE H (upd (upd (upd (upd (upd H h (.dK [])) lw (.lst [])) ll (.lst [])) lp (.lst [])) h (.dK (ki 0 lw ll lp)))/\∀x∈[h,lw,ll,lp],H x=none:=by
 have n1:h≠lw:=aC ag g1;have n2:h≠ll:=aC (by rw[au n1];exact ag) g2;have n3:h≠lp:=aC (by rw[au n2,au n1];exact ag) g3;have n4:lw≠ll:=aC ag g2;have n5:lw≠lp:=aC (by rw[au n4];exact ag) g3;have n6:ll≠lp:=aC ag g3;have z1:H lw=none:=by rw[au n1.symm] at g1;exact g1
 have z2:H ll=none:=by rw[au n4.symm,au n2.symm] at g2;exact g2
 have z3:H lp=none:=by rw[au n6.symm,au n5.symm,au n3.symm] at g3;exact g3
 refine⟨by rw[au n3,au n2,au n1];exact ag,⟨ag,⟨[],by rw[au n1.symm,au n5,au n4];exact ag,.nil⟩,⟨[],by rw[au n2.symm,au n6];exact ag,.nil⟩,⟨[],by rw[au n3.symm];exact ag,.nil⟩,n4,n5,n6⟩,λx o e=>?_,λx hx=>?_⟩
 ·rw[au (aC e g0),au (aC e z3),au (aC e z2),au (aC e z1),au (aC e g0)];exact e
 ·simp only[OO,Py,or_false] at hx;rcases hx with rfl|rfl|rfl|rfl
  ·exact g0
  ·exact z1
  ·exact z2
  ·exact z3
theorem re{H H1:Hp}{a dx lk lr ld:Addr}{o1 o2:HO}(ha:H a=none)(hd:H dx=none)(f1:∀b o,b≠a->upd (upd H dx o1) a o2 b=some o->H1 b=some o)(nk:upd (upd H dx o1) a o2 lk=none)(nr:upd (upd H dx o1) a o2 lr=none)(nd:upd (upd H dx o1) a o2 ld=none):aE H H1/\∀x∈[a,lk,lr,ld],H x=none:=by
 refine⟨λb o e=>?_,λx hx=>?_⟩
 ·have n1:b≠a:=λz=>by rw[z,ha] at e;cases e
  have n2:b≠dx:=λz=>by rw[z,hd] at e;cases e
  exact f1 b o n1 (by rw[au n1,au n2];exact e)
 ·simp only[OO,Py,or_false] at hx;rcases hx with rfl|rfl|rfl|rfl
  ·exact ha
  ·exact tK nk ha hd
  ·exact tK nr ha hd
  ·exact tK nd ha hd
theorem jy.nd{K:Oz}{C:Addr}{H:Hp}{a lk lr ld:Addr}{s:ef}(h:jy K C H a lk lr ld s):[a,lk,lr,ld].Nodup:=by
 obtain⟨dx,i⟩:=h.ins;obtain⟨x,k1,_⟩:=h.hk;obtain⟨y,r1,_⟩:=h.hr;obtain⟨u,d1,_⟩:=h.hd;have e1:a≠lk:=λz=>by rw[←z,i] at k1;cases k1
 have e2:a≠lr:=λz=>by rw[←z,i] at r1;cases r1
 have e3:a≠ld:=λz=>by rw[←z,i] at d1;cases d1
 simp[e1,e2,e3,h.n1,h.n2,h.n3]
theorem m8.nd{K:Oz}{H:Hp}{h lw ll lp:Addr}{s:ef}(e:m8 K H h lw ll lp s):[h,lw,ll,lp].Nodup:=by
 have i:=e.dk;obtain⟨x,k1,_⟩:=e.hk;obtain⟨y,r1,_⟩:=e.hr;obtain⟨u,d1,_⟩:=e.hd;have e1:h≠lw:=λz=>by rw[←z,i] at k1;cases k1
 have e2:h≠ll:=λz=>by rw[←z,i] at r1;cases r1
 have e3:h≠lp:=λz=>by rw[←z,i] at d1;cases d1
 simp[e1,e2,e3,e.n1,e.n2,e.n3]
theorem ap{H:Hp}{A B:List Addr}(e:∀x∈A,∃o,H x=some o)(f:∀x∈B,H x=none):∀x∈A,∀y∈B,x≠y:=λx hx y hy z=>by
 obtain⟨o,q⟩:=e x hx;rw[z,f y hy] at q
 cases q
def Lc(p q:PA):Bool->PA
 |false=>p
 |true=>q
theorem jV(z:aE H H')(e:H' x=none):H x=none:=by
 cases q:H x with
 |none=>rfl
 |some o=>rw[z x o q] at e;cases e
theorem vy{K:Oz}{C:Addr}{H H1 H2 H3 H4 H5 H6:Hp}{p q:PA}{lK lH:Addr}(m1:aE H H1)(fA:∀x∈[p.a,p.lk,p.lr,p.ld],H x=none)(kp1:jy K C H1 p.a p.lk p.lr p.ld ⟨0,[],[],[]⟩)(m2:aE H1 H2)(fB:∀x∈[q.a,q.lk,q.lr,q.ld],H1 x=none)(kp2:jy K C H2 q.a q.lk q.lr q.ld ⟨0,[],[],[]⟩)
  (hlK:H2 lK=none) (m3:aE H2 H3) (eK:H3 lK=some (.lst [.ref p.a,.ref q.a])) (m4:aE H3 H4) (fC:∀x∈[p.h,p.lw,p.ll,p.lp],H3 x=none) (hs4:m8 K H4 p.h p.lw p.ll p.lp ⟨0,[],[],[]⟩) (m5:aE H4 H5) (fD:∀x∈[q.h,q.lw,q.ll,q.lp],H4 x=none) (hs5:m8 K H5 q.h q.lw q.ll q.lp ⟨0,[],[],[]⟩) (hlH:H5 lH=none) (m6:aE H5 H6) (eH:H6 lH=some (.lst [.ref p.h,.ref q.h])) :
  FA (Lc p q) lK lH H/\Wd K C H (Lc p q) lK lH H6:=by
 have eA1:=kp1.cls;have eA2:=(kp1.same m2).cls;have eB2:=kp2.cls;have m23:=m3;have eA3:=((kp1.same m2).same m3).cls;have eB3:=(kp2.same m3).cls;have eA4:=(((kp1.same m2).same m3).same m4).cls;have eB4:=((kp2.same m3).same m4).cls;have eC4:=hs4.cls;have eC5:=(hs4.same m5).cls;have eD5:=hs5.cls;have eA5:=((((kp1.same m2).same m3).same m4).same m5).cls;have eB5:=(((kp2.same m3).same m4).same m5).cls;have nodup:∀{A B:List Addr},A.Nodup->B.Nodup->(∀x∈A,∀y∈B,x≠y)->(A++B).Nodup:=λa b c=>Qd.mpr ⟨a,b,c⟩
 have dp:p.l.Nodup:=nodup kp1.nd hs4.nd (ap eA3 fC);have dq:q.l.Nodup:=nodup kp2.nd hs5.nd (ap eB4 fD);refine⟨⟨λc=>?_,λx hx hy=>?_,λc=>?_,λc=>?_⟩,⟨m1.trans (m2.trans (m3.trans (m4.trans (m5.trans m6)))),m6 _ _ (m5 _ _ (m4 _ _ eK)),eH,λc=>?_⟩⟩
 ·cases c with
  |false=>
   intro x hx;rcases(p.mem x).mp hx with z|z
   ·exact fA x z
   ·exact jV (m1.trans (m2.trans m3)) (fC x z)
  |true=>
   intro x hx;rcases(q.mem x).mp hx with z|z
   ·exact jV m1 (fB x z)
   ·exact jV (m1.trans (m2.trans (m3.trans m4))) (fD x z)
 ·rcases(p.mem x).mp hx with z|z
  ·rcases(q.mem x).mp hy with u|u
   ·exact ap eA1 fB x z x u Z
   ·exact ap eA4 fD x z x u Z
  ·rcases(q.mem x).mp hy with u|u
   ·exact ap eB3 fC x u x z Z
   ·exact ap eC4 fD x z x u Z
 ·have kk:∀x∈[lK],∃o,H3 x=some o:=λx hx=>by rw[OH.mp hx];exact⟨_,eK⟩
  have kk4:∀x∈[lK],∃o,H4 x=some o:=λx hx=>by rw[OH.mp hx];exact⟨_,m4 _ _ eK⟩
  have kn:∀x∈[lK],H2 x=none:=λx hx=>by rw[OH.mp hx];exact hlK
  cases c with
  |false=>
   intro hx;rcases(p.mem lK).mp hx with z|z
   ·exact ap eA2 kn lK z lK (OH.mpr Z) Z
   ·exact ap kk fC lK (OH.mpr Z) lK z Z
  |true=>
   intro hx;rcases(q.mem lK).mp hx with z|z
   ·exact ap eB2 kn lK z lK (OH.mpr Z) Z
   ·exact ap kk4 fD lK (OH.mpr Z) lK z Z
 ·have kn:∀x∈[lH],H5 x=none:=λx hx=>by rw[OH.mp hx];exact hlH
  cases c with
  |false=>
   intro hx;rcases(p.mem lH).mp hx with z|z
   ·exact ap eA5 kn lH z lH (OH.mpr Z) Z
   ·exact ap eC5 kn lH z lH (OH.mpr Z) Z
  |true=>
   intro hx;rcases(q.mem lH).mp hx with z|z
   ·exact ap eB5 kn lH z lH (OH.mpr Z) Z
   ·exact ap eD5 kn lH z lH (OH.mpr Z) Z
 ·cases c with
  |false=>exact⟨_,((((kp1.same m2).same m3).same m4).same m5).same m6,(hs4.same m5).same m6,Ez,dp⟩
  |true=>exact⟨_,(((kp2.same m3).same m4).same m5).same m6,hs5.same m6,Ez,dq⟩
theorem LJ{b1 b2:Bool}{σ:L2.St}{H:Hp}{Qb:Bool->Hp->Prop}{t2:TT}(h2:∀Q:Bool->Hp->Prop,Q b2 H->t2 σ H Q)(k:Qb (b1&&b2) H):if b1=true then t2 σ H Qb else Qb false H:=by
 cases b1 with
 |true=>exact h2 _ k
 |false=>exact k
def oU(K:Oz):Sp:=λvs H Q _=>∃(a:Addr) (ns:List Int),vs=[.ref a]/\aS K H a (ns.map V.int)/\ns.length≤63/\∀H',Q (.bl true) H'
theorem Fk:aD ["thing"] ["thing"] (ay yW):=dQ
theorem Fw:aD ["thing","length"] ["thing","length"] (ay zr):=dQ
theorem Jb:aD ["thing","count"] ["thing","count"] (ay FC):=dQ
theorem nL:aD ["one","other","high","low","rest"] ["one","other"] (ay FI):=dQ
theorem sK:aD ["thing","top","bottom"] ["thing"] (ay yV):=dQ
theorem Jd:aD ["thing"] ["thing"] (ay FH):=dQ
theorem sy:aD ["top","bottom","shared"] ["top","bottom"] (ay yE):=dQ
theorem oZ:aD ["one","other","shared","top","rest"] ["one","other"] (ay yz):=dQ
theorem Fb:aD ["one","other"] ["one","other"] (ay yD):=dQ
theorem sx:aD ["one","other","left","right"] ["one","other"] (ay yC):=dQ
theorem Fa:aD ["one","other"] ["one","other"] (ay yy):=dQ
theorem Fg:aD ["one","other"] ["one","other"] (ay yJ):=dQ
theorem Ff:aD ["one","other"] ["one","other"] (ay yH):=dQ
theorem iN:aD ["some","tops","one","so_far","bottom","top"] ["some"] (ay yB):=dQ
theorem o9:aD ["some","bottom","one"] ["some"] (ay zq):=dQ
theorem sE:aD ["thing","first","last"] ["thing"] (ay yI):=dQ
theorem Fn:aD ["work","turn"] ["work","turn"] (ay zc):=dQ
theorem Fv:aD ["count"] ["count"] (ay zp):=dQ
theorem Fj:aD ["leanings","lean","ahead","behind","numbers","bases","leaners","leaner","base"] ["leanings","lean"] (ay yU):=dQ
theorem yq:aD ["count","leans","leanings","lean"] ["count","leans"] (ay FB):=dQ
theorem fU:aD ["sheet","works","leanings","drawn","number","work","firsts","lasts","first","last"] ["sheet"] (ay yT):=dQ
theorem uy:aD ["works","left","windows","work","places"] ["works","left"] (ay Fz):=dQ
theorem E9:aD ["windows","begin","end"] ["windows","begin","end"] (ay yx):=dQ
theorem gM:aD ["windows","amounts","count","best","best_load","best_length","begin","end","load","length"] ["windows","amounts","count"] (ay FG):=dQ
theorem sI:aD ["works","left","windows","places"] ["works","left"] (ay yS):=dQ
theorem iO:aD ["works","told","left","waiting","layer"] ["works"] (ay yG):=dQ
theorem Jc:aD ["works","layer"] ["works","layer"] (ay FF):=dQ
theorem qN:aD ["works","speeds","layer","speed","turn"] ["works"] (ay Fy):=dQ
theorem uz:aD ["works","leanings","waiting","earliest","like","free"] ["works","leanings","waiting"] (ay FE):=dQ
theorem lW:aD ["works","leans","leanings","waiting","order","number"] ["works","leans"] (ay yR):=dQ
theorem jN:aD ["works","order","left","turn","speed","pieces","room","number","amount"] ["works","order","left","turn","speed"] (ay zb):=dQ
theorem iM:aD ["works","leans","speeds","order","left","plan","turn","number","amount"] ["works","leans","speeds"] (ay yA):=dQ
theorem yr:aD ["sheet","works"] ["sheet"] (ay zh):=dQ
theorem El:aD ["works","amounts","turn","numbers"] ["works","amounts","turn"] (ay FD):=dQ
theorem Fp:aD ["pieces","numbers"] ["pieces","numbers"] (ay zg):=dQ
theorem Fu:aD ["_law_script","_law_k"] ["_law_script","_law_k"] (ay zo):=dQ
theorem gL:aD ["_law_cell","_law_many","_law_found_here","_law_number","_law_mixed","_law_k"] ["_law_cell","_law_many"] (ay za):=dQ
theorem Fi:aD ["_law_tape","_law_many"] ["_law_tape","_law_many"] (ay yQ):=dQ
theorem sG:aD ["_law_top","_law_bottom","_law_one","_law_other"] ["_law_top","_law_bottom"] (ay yP):=dQ
theorem Fh:aD ["_law_one","_law_other"] ["_law_one","_law_other"] (ay yO):=dQ
theorem Fm:aD ["_law_one","_law_other"] ["_law_one","_law_other"] (ay y9):=dQ
theorem Fe:aD ["_law_one","_law_other"] ["_law_one","_law_other"] (ay yF):=dQ
theorem Ft:aD ["_law_one","_law_other"] ["_law_one","_law_other"] (ay zn):=dQ
theorem o6:aD ["_law_some","_law_found_here","_law_one"] ["_law_some"] (ay yZ):=dQ
theorem o4:aD ["_law_some","_law_found_here","_law_one"] ["_law_some"] (ay yN):=dQ
theorem eE:aD ["_law_turn","_law_some","_law_speed","_law_number","_law_last","_law_amount","_law_due","_law_pieces_here","_law_much"] ["_law_turn","_law_some"] (ay zf):=dQ
theorem jM:aD ["_law_house","_law_some","_law_number","_law_pieces_here","_law_amount"] ["_law_house"] (ay yM):=dQ
theorem o0:aD ["_law_tape","_law_house","_law_far","_law_last","_law_amount"] ["_law_tape","_law_house"] (ay yL):=dQ
theorem Fl:aD ["_law_keeper","_law_k"] ["_law_keeper","_law_k"] (ay yY):=dQ
theorem o7:aD ["_law_tape","_law_keeper","_law_house","_law_due","_law_at","_law_k"] ["_law_tape","_law_keeper","_law_house"] (ay ze):=dQ
theorem sF:aD ["_law_tape","_law_keeper","_law_house","_law_last","_law_amount"] ["_law_tape","_law_keeper","_law_house"] (ay yK):=dQ
theorem iL:aD ["_law_script","_law_keepers","_law_houses","_law_many","_law_k","_law_tape","_law_at"] ["_law_script"] (ay yu):=dQ
theorem Fs:aD ["self"] ["self"] (ay zm):=dQ
theorem yt:aD ["self","last","amount","work"] ["self","last","amount"] (ay zk):=dQ
theorem o5:aD ["self","waiting","pieces","piece"] ["self"] (ay yX):=dQ
theorem Fo:aD ["self"] ["self"] (ay zd):=dQ
theorem Fx:aD ["self"] ["self"] (ay zt):=dQ
theorem Fr:aD ["self"] ["self"] (ay zj):=dQ
theorem Fq:aD ["self"] ["self"] (ay zi):=dQ
theorem Fd:aD ["self","text"] ["self","text"] (ay nN):=dQ
theorem Fc:aD ["self","text"] ["self","text"] (ay nM):=dQ
end My
namespace My
open PySem L2 B PyProof.Rows
section
variable {P:Po}{w:PM}{K:Oz}{mg:Pf->Option Value}{base:OR}{t:Ad}
theorem Av(T:dP K mg t):bn P w K mg base dm 1 t.a_Q52 t.d_Q52 ["self","text"] (vM K t.c_Q52):=by
 refine T.F_Q52.ok Fd (λvs H Q E h=>?_) (λcdv A outer s H vs Q E hr h=>?_)
 ·obtain⟨_,_,rfl,_⟩:=h;rfl
 obtain⟨a,v,rfl,ha,k⟩:=h;refine cZ.ok (av (uE Z (qv 0) (qv 1) Z)) ?_;nofun
 exact⟨_,Z,_,Z,a,_,_,Z,T.X_Q52.cl,T.n_Q52_text,.inl ⟨ha,k⟩⟩
theorem Gy(T:dP K mg t):bn P w K mg base dm 1 t.a_Q53 t.d_Q53 ["self","text"] (vN K t.c_Q53):=by
 refine T.F_Q53.ok Fc (λvs H Q E h=>?_) (λcdv A outer s H vs Q E hr h=>?_)
 ·obtain⟨_,_,rfl,_⟩:=h;rfl
 obtain⟨a,v,rfl,ha,k⟩:=h;refine cZ.ok (av (uE Z (qv 0) (qv 1) Z)) ?_;nofun
 exact⟨_,Z,_,Z,a,_,_,Z,T.X_Q53.cl,T.n_Q53_text,.inl ⟨ha,k⟩⟩
theorem sY(T:dP K mg t):bn P w K mg base dm 1 t.a_Q33 t.d_Q33 ["thing"] (qF K):=by
 refine T.F_Q33.ok Fk (λvs H Q E h=>?_) (λcdv A outer s H vs Q E hr h=>?_)
 ·obtain⟨_,_,rfl,_⟩:=h;rfl
 obtain⟨v,d,rfl,hD,k⟩:=h;obtain⟨b,c,e1,e2,e3⟩:=Dp hD;refine cZ.ok (av (aG (jS (aN j7 (by rfl) T.z_isinstance Vt (ae (qv 0) (ae (pG (v:=V.ty "int") Z T.z_int boot_int Z) ai af) af)) (jR (FY (aN j7 (by rfl) T.z_isinstance Vt (ae (qv 0) (ae (pG (v:=V.ty "bool") Z T.z_bool boot_bool Z) ai af) af))))))) ?_;nofun
 rw[e3] at k;refine⟨_,Z,_,_,_,_,Z,hD,e1,_,Z,?_⟩
 cases b with
 |false=>exact k
 |true=>exact⟨_,Z,_,_,_,_,Z,hD,e2,_,Z,k⟩
theorem AD(T:dP K mg t):bn P w K mg base dm 1 t.a_Q11 t.d_Q11 ["thing","length"] (lM K):=by
 refine T.F_Q11.ok Fw (λvs H Q E h=>?_) (λcdv A outer s H vs Q E hr h=>?_)
 ·obtain⟨_,_,_,rfl,_⟩:=h;rfl
 obtain⟨v,d,m,rfl,hD,k⟩:=h;refine cZ.ok (av (aG (jS (aN j7 (by rfl) T.z_isinstance Vt (ae (qv 0) (ae (pG (v:=V.ty "tuple") Z T.z_tuple Qq Z) ai af) af)) (jR (fj fR (aN bb (by rfl) T.z_len Rv (ae (qv 0) ai af)) (qv 1) (aV _)))))) ?_;nofun
 rcases Do hD with⟨e,p,xs,ds,rfl,rfl,hS,hA⟩ | ⟨e,no⟩
 ·refine⟨_,Z,_,_,_,_,Z,hD,e,_,Z,?_⟩;refine⟨_,Z,p,_,Z,.inr hS,_,Z,Z,?_⟩;have q:decide ((V.int xs.length:V)=.int m)=oM m (.tuple ds):=by
   show _=decide (ds.length=m);rw[hA.len];refine decide_eq_decide.mpr ⟨λz=>by injection z with z;omega,λz=>by rw[z]⟩
  rw[q];exact k
 ·refine⟨_,Z,_,_,_,_,Z,hD,e,_,Z,?_⟩;rw[BV no] at k;exact k
theorem Et(T:dP K mg t):bn P w K mg base dm 2 t.a_Q6 t.d_Q6 ["thing","count"] (kq K):=by
 refine T.F_Q6.ok Jb (λvs H Q E h=>?_) (λcdv A outer s H vs Q E hr h=>?_)
 ·obtain⟨_,_,_,rfl,_⟩:=h;rfl
 obtain⟨v,d,m,rfl,hD,k⟩:=h;refine cZ.ok (av (aG (jS (cJ (sY T) hr T.m_Q33 T.F_Q33.kp T.b_Q33 (ae (qv 0) ai af)) (jR (qS l9 jh aj (qv 0) (qv 1)))))) ?_;nofun
 refine⟨_,Z,v,d,Z,hD,?_⟩
 cases c:gu d with
 |false=>
  rw[C9 c] at k;exact⟨_,Z,k⟩
 |true=>
  obtain⟨i,rfl⟩:=iA c
  cases hD
  have kk:Q (.bl (decide (0≤i)&&decide (i<m))) H:=k;refine⟨_,Z,?_⟩;refine⟨_,Z,_,_,Z,Z,_,Z,?_⟩;by_cases c1:0≤i
  ·refine cK c1 ?_;rw[decide_eq_true c1,RT] at kk;exact⟨_,Z,_,_,Z,Z,kk⟩
  ·refine cE c1 ?_;rw[decide_eq_false c1,Ri] at kk;exact kk
theorem ma(T:dP K mg t):bn P w K mg base dm 1 t.a_Q0 t.d_Q0 ["one","other"] (ie K):=by
 refine T.F_Q0.ok nL (λvs H Q E h=>?_) (λcdv A outer s H vs Q E hr h=>?_)
 ·obtain⟨_,_,rfl,_⟩:=h;rfl
 obtain⟨a,b,rfl,k⟩:=h;refine cZ.ok (ah (cn 2 nL.nd (aN mO (by rfl) T.z_abs boot_abs (ae (qv 0) ai af))) (ah (cn 3 nL.nd (aN mO (by rfl) T.z_abs boot_abs (ae (qv 1) ai af))) (ah (gO Pe (aU Ap (qv 3) aj (aV _)) (ah (cn 4 nL.nd (aJ eG (qv 2) (qv 3))) (ah (cn 2 nL.nd (qv 3)) (av (cn 3 nL.nd (qv 4)))))) (av (aG (qv 2)))))) ?_
 nofun
 refine⟨_,Z,_,Z,_,Z,_,Z,?_⟩;rw[tW,tW];refine⟨λm σ H'=>∃(x y:Int) (v:Option V),σ=[some (.int a),some (.int b),some (.int x),some (.int y),v]/\H'=H/\0≤x/\0≤y/\O0 x y=O0 a b/\m=y.toNat,⟨_,_,_,_,Z,Z,by omega,by omega,(by simp[O0]),Z⟩,?_⟩;rintro m σ H' ⟨x,y,v,rfl,rfl,hx,hy,hg,rfl⟩;refine⟨_,Z,Z,_,Z,?_⟩;by_cases c:y=0
 ·subst c;refine AU Z ?_;rw[←hg] at k;refine⟨_,Z,?_⟩;have e:(x:Int)=(O0 x 0:Nat):=by simp[O0];omega
  rw[←e] at k;exact k
 ·refine JR (λz=>c (by injection z)) ?_;refine⟨_,λ_ _ z=>z,?_⟩;refine⟨_,Z,_,Z,_,_,Z,Z,(by omega),_,Z,_,Z,?_⟩;refine⟨_,?_,y,x%y,_,Z,Z,hy,Q4 _ c,?_,Z⟩
  ·have:=Re x (show 0<y by omega);have:=Q4 x c;omega
  ·rw[rh hx (by omega),hg]
theorem GN(T:dP K mg t):bn P w K mg base dm 2 t.a_Q34 t.d_Q34 ["thing"] (qG K):=by
 refine T.F_Q34.ok sK (λvs H Q E h=>?_) (λcdv A outer s H vs Q E hr h=>?_)
 ·obtain⟨_,_,rfl,_⟩:=h;rfl
 obtain⟨v,d,rfl,hD,k⟩:=h;refine cZ.ok (ah (cj (e9 (cT (cJ (AD T) hr T.m_Q11 T.F_Q11.kp T.b_Q11 (ae (qv 0) (ae aj ai aI) af)))) (av (aG gP)) bw) (ah (cn 1 sK.nd (bV aB (qv 0) aj)) (ah (cn 2 sK.nd (bV aB (qv 0) aj)) (ah (cj (nQ (uD (e9 (cT (cJ (sY T) hr T.m_Q33 T.F_Q33.kp T.b_Q33 (ae (qv 1) ai af)))) (uD (e9 (cT (cJ (sY T) hr T.m_Q33 T.F_Q33.kp T.b_Q33 (ae (qv 2) ai af)))) (sR (aU jh (qv 2) aj (aV _)))))) (av (aG gP)) bw) (av (aG (fj fR (cJ (ma T) hr T.m_Q0 T.F_Q0.kp T.b_Q0 (ae (qv 1) (ae (qv 2) ai af) af)) aj (aV _)))))))) ?_
 nofun
 refine⟨_,Z,v,d,2,Z,hD,⟨_,Z,?_⟩⟩
 cases c2:oM 2 d with
 |false=>
  refine gD ?_;rw[Cq c2] at k;exact k
 |true=>
  refine fN ?_;obtain⟨p,x,y,dx,dy,rfl,rfl,hS,hx,hy⟩:=hD.two c2;refine⟨_,Z,p,_,_,_,Z,Z,hS,Z,_,Z,p,_,_,_,Z,Z,hS,Z,?_⟩;refine⟨_,Z,x,dx,Z,hx,_,Z,?_⟩
  cases cx:gu dx with
  |false=>
   refine gD (gD ?_);rw[Jg cx] at k;exact k
  |true=>
   refine fN ?_;refine⟨_,Z,y,dy,Z,hy,_,Z,?_⟩
   cases cy:gu dy with
   |false=>
    refine gD (gD ?_);rw[Jf cy] at k;exact k
   |true=>
    refine fN ?_;obtain⟨i,rfl⟩:=iA cx;obtain⟨j,rfl⟩:=iA cy
    cases hx
    cases hy
    have kk:Q (.bl (decide (1≤j)&&decide (O0 i j=1))) H:=k;refine⟨_,Z,_,_,Z,Z,_,Z,?_⟩;by_cases c:j<1
    ·refine cK c ?_;rw[decide_eq_false (show ¬1≤j by omega)] at kk;exact kk
    ·refine cE c ?_;refine⟨_,Z,_,Z,i,j,Z,Z,?_⟩;rw[decide_eq_true (show 1≤j by omega),RT] at kk;have q:decide ((V.int (O0 i j:Nat):V)=.int 1)=decide (O0 i j=1):=decide_eq_decide.mpr ⟨λz=>by injection z with z;omega,λz=>by rw[z];rfl⟩;rw[q];exact kk
theorem JJ(T:dP K mg t):bn P w K mg base dm 3 t.a_Q1 t.d_Q1 ["thing"] (iI K):=by
 refine T.F_Q1.ok Jd (λvs H Q E h=>?_) (λcdv A outer s H vs Q E hr h=>?_)
 ·obtain⟨_,_,rfl,_⟩:=h;rfl
 obtain⟨v,d,rfl,hD,k⟩:=h;refine cZ.ok (av (aG (jS (cJ (GN T) hr T.m_Q34 T.F_Q34.kp T.b_Q34 (ae (qv 0) ai af)) (jR (fj ir (bV aB (qv 0) aj) aj (aV _)))))) ?_;nofun
 refine⟨_,Z,v,d,Z,hD,?_⟩
 cases c:jO d with
 |false=>
  rw[xo c] at k;exact⟨_,Z,k⟩
 |true=>
  obtain⟨i,j,rfl⟩:=zJ c;obtain⟨p,x,y,dx,dy,rfl,e,hS,hx,hy⟩:=hD.two Z
  cases e
  cases hx
  rw[tX c] at k;exact⟨_,Z,_,Z,p,_,_,_,Z,Z,hS,Z,_,_,Z,Z,k⟩
theorem Au(T:dP K mg t):bn P w K mg base dm 2 t.a_Q55 t.d_Q55 ["top","bottom"] (yj K):=by
 refine T.F_Q55.ok sy (λvs H Q E h=>?_) (λcdv A outer s H vs Q E hr h=>?_)
 ·obtain⟨_,_,rfl,_⟩:=h;rfl
 obtain⟨a,b,rfl,hb,hz,k⟩:=h;refine cZ.ok (ah (cj (aU fR (qv 1) aj (aV _)) (av jc) bw) (ah (cn 2 sy.nd (cJ (ma T) hr T.m_Q0 T.F_Q0.kp T.b_Q0 (ae (qv 0) (ae (qv 1) ai af) af))) (ah (cj (aU jh (qv 1) aj (aV _)) (av (cn 2 sy.nd (qP k8 (qv 2)))) bw) (av (aG (bS (ae (aJ dN (qv 0) (qv 2)) (ae (aJ dN (qv 1) (qv 2)) ai aZ) aZ))))))) ?_
 nofun
 have gp:=b6 (a:=a) hb;have gb:((O0 a b:Nat):Int).natAbs<2^4000:=by
  have z:O0 a b≤b.natAbs:=V4 (by omega) (by have:=RN a b;exact Tj.mpr this);have e:((O0 a b:Nat):Int).natAbs=O0 a b:=SW _;omega
 refine⟨_,Z,Z,_,Z,?_⟩;refine cE (λz=>by injection z with z;omega) ?_;refine⟨_,rfl,_,rfl,a,b,rfl,?_⟩;refine⟨_,rfl,_,_,rfl,rfl,_,rfl,?_⟩;refine cE (by omega) ?_;refine⟨_,rfl,_,rfl,_,_,rfl,rfl,⟨gp,gb⟩,_,rfl,_,rfl,_,_,rfl,rfl,⟨gp,gb⟩,jB,λp hp=>?_⟩;exact k p hp
theorem At(T:dP K mg t):bn P w K mg base dm 2 t.a_Q60 t.d_Q60 ["one","other"] (B5 K):=by
 refine T.F_Q60.ok oZ (λvs H Q E h=>?_) (λcdv A outer s H vs Q E hr h=>?_)
 ·obtain⟨_,_,_,_,_,_,rfl,_⟩:=h;rfl
 obtain⟨v,w,r,q,n,m,rfl,hv,hw,wr,wq,hz,k⟩:=h;refine cZ.ok (ah (cn 2 oZ.nd (cJ (ma T) hr T.m_Q0 T.F_Q0.kp T.b_Q0 (ae (bV aB (qv 0) aj) (ae (bV aB (qv 1) aj) ai aA) aA))) (ah (cn 3 oZ.nd (aJ cU (aJ b7 (bV aB (qv 0) aj) (aJ dN (bV aB (qv 1) aj) (qv 2))) (aJ b7 (bV aB (qv 1) aj) (aJ dN (bV aB (qv 0) aj) (qv 2))))) (ah (cn 4 oZ.nd (cJ (ma T) hr T.m_Q0 T.F_Q0.kp T.b_Q0 (ae (qv 3) (ae (qv 2) ai af) af))) (av (aG (bS (ae (aJ dN (qv 3) (qv 4)) (ae (aJ b7 (aJ dN (bV aB (qv 0) aj) (qv 2)) (aJ dN (bV aB (qv 1) aj) (qv 4))) ai aZ) aZ))))))) ?_
 nofun
 obtain⟨p,rfl,hv⟩:=hv;obtain⟨p',rfl,hw⟩:=hw;have c1:=bJ wr.top (show n≤4000 by omega);have c2:=bJ wr.bot (show n≤4000 by omega);have c3:=bJ wq.top (show m≤4000 by omega);have c4:=bJ wq.bot (show m≤4000 by omega);have gp:(0:Int)<(O0 r.2 q.2:Nat):=b6 wq.pos;have gb:=mH (a:=r.2) wq.pos c4;refine⟨_,Z,p,_,_,_,Z,Z,hv,Z,_,Z,p',_,_,_,Z,Z,hw,Z,r.2,q.2,Z,?_⟩;have z:=z6 ⟨wr.pos,wr.cop⟩ ⟨wq.pos,wq.cop⟩;have kk:pO H Q (qU r q):=by rw[z];exact k
 unfold qU at kk;simp only at kk;generalize ((O0 r.2 q.2:Nat):Int)=d at gp gb kk ⊢;refine⟨_,Z,p,_,_,_,Z,Z,hv,Z,_,Z,p',_,_,_,Z,Z,hw,Z,_,Z,_,_,Z,Z,⟨gp,gb⟩,_,_,Z,Z,⟨c1,gW gp c4⟩,_,Z,p',_,_,_,Z,Z,hw,Z,_,Z,p,_,_,_,Z,Z,hv,Z,_,Z,_,_,Z,Z,⟨gp,gb⟩,_,_,Z,Z,⟨c3,gW gp c2⟩,_,_,Z,Z,?_⟩;refine⟨_,Z,_,Z,_,_,Z,?_⟩;have ep:(0:Int)<(O0 (r.1*(q.2/d)+q.1*(r.2/d)) d:Nat):=b6 gp;have eb:=mH (a:=r.1*(q.2/d)+q.1*(r.2/d)) gp gb;generalize ((O0 (r.1*(q.2/d)+q.1*(r.2/d)) d:Nat):Int)=e at ep eb kk ⊢;refine⟨_,Z,_,Z,_,_,Z,Z,⟨ep,eb⟩,_,Z,p,_,_,_,Z,Z,hv,Z,_,Z,_,_,Z,Z,⟨gp,gb⟩,_,Z,p',_,_,_,Z,Z,hw,Z,_,Z,_,_,Z,Z,⟨ep,eb⟩,_,_,Z,Z,⟨gW gp c2,gW ep c4⟩,jB,kk⟩
theorem sX(T:dP K mg t):bn P w K mg base dm 3 t.a_Q56 t.d_Q56 ["one","other"] (yk K):=by
 refine T.F_Q56.ok Fb (λvs H Q E h=>?_) (λcdv A outer s H vs Q E hr h=>?_)
 ·obtain⟨_,_,_,_,_,_,rfl,_⟩:=h;rfl
 obtain⟨v,w,r,q,n,m,rfl,hv,hw,wr,wq,hz,k⟩:=h;refine cZ.ok (av (aG (cJ (At T) hr T.m_Q60 T.F_Q60.kp T.b_Q60 (ae (qv 0) (ae (bS (ae (qP k8 (bV aB (qv 1) aj)) (ae (bV aB (qv 1) aj) ai aA) ur)) ai dD) af)))) ?_;nofun
 obtain⟨p',rfl,hw⟩:=hw;refine⟨_,Z,_,Z,p',_,_,_,Z,Z,hw,Z,_,Z,_,Z,p',_,_,_,Z,Z,hw,Z,jB,λpt ht=>?_⟩;have s1:=ao ht (.tup [.int (-q.1),.int q.2]);refine⟨v,.ref pt,r,(-q.1,q.2),n,m,Z,hv.mono (aM.same s1),RV.of ag,wr,⟨wq.pos,by show(-q.1).natAbs<_;rw[XZ];exact wq.top,wq.bot,Bl wq.cop⟩,hz,λp hp=>?_⟩;refine k _ _ (s1.trans (ao hp _)) ?_;rw[←qY];exact RV.of ag
theorem Gx(T:dP K mg t):bn P w K mg base dm 2 t.a_Q57 t.d_Q57 ["one","other"] (yi K):=by
 refine T.F_Q57.ok sx (λvs H Q E h=>?_) (λcdv A outer s H vs Q E hr h=>?_)
 ·obtain⟨_,_,_,_,_,_,rfl,_⟩:=h;rfl
 obtain⟨v,w,r,q,n,m,rfl,hv,hw,wr,wq,hz,k⟩:=h;refine cZ.ok (ah (cn 2 sx.nd (cJ (ma T) hr T.m_Q0 T.F_Q0.kp T.b_Q0 (ae (bV aB (qv 0) aj) (ae (bV aB (qv 1) aj) ai aA) aA))) (ah (cn 3 sx.nd (cJ (ma T) hr T.m_Q0 T.F_Q0.kp T.b_Q0 (ae (bV aB (qv 1) aj) (ae (bV aB (qv 0) aj) ai aA) aA))) (av (aG (bS (ae (aJ b7 (aJ dN (bV aB (qv 0) aj) (qv 2)) (aJ dN (bV aB (qv 1) aj) (qv 3))) (ae (aJ b7 (aJ dN (bV aB (qv 0) aj) (qv 3)) (aJ dN (bV aB (qv 1) aj) (qv 2))) ai aZ) aZ)))))) ?_
 nofun
 obtain⟨p,rfl,hv⟩:=hv;obtain⟨p',rfl,hw⟩:=hw;have c1:=bJ wr.top (show n≤4000 by omega);have c2:=bJ wr.bot (show n≤4000 by omega);have c3:=bJ wq.top (show m≤4000 by omega);have c4:=bJ wq.bot (show m≤4000 by omega);have lp:(0:Int)<(O0 r.1 q.2:Nat):=b6 wq.pos;have lb:=mH (a:=r.1) wq.pos c4;have mp:(0:Int)<(O0 q.1 r.2:Nat):=b6 wr.pos;have mb:=mH (a:=q.1) wr.pos c2;have z:=vC ⟨wr.pos,wr.cop⟩ ⟨wq.pos,wq.cop⟩;have kk:pO H Q (lh r q):=by rw[z];exact k
 unfold lh at kk;simp only at kk;refine⟨_,Z,p,_,_,_,Z,Z,hv,Z,_,Z,p',_,_,_,Z,Z,hw,Z,r.1,q.2,Z,_,Z,p',_,_,_,Z,Z,hw,Z,_,Z,p,_,_,_,Z,Z,hv,Z,q.1,r.2,Z,?_⟩;generalize ((O0 r.1 q.2:Nat):Int)=l at lp lb kk ⊢;generalize ((O0 q.1 r.2:Nat):Int)=m' at mp mb kk ⊢;refine⟨_,Z,p,_,_,_,Z,Z,hv,Z,_,Z,_,_,Z,Z,⟨lp,lb⟩,_,Z,p',_,_,_,Z,Z,hw,Z,_,Z,_,_,Z,Z,⟨mp,mb⟩,_,_,Z,Z,⟨gW lp c1,gW mp c3⟩,_,Z,p,_,_,_,Z,Z,hv,Z,_,Z,_,_,Z,Z,⟨mp,mb⟩,_,Z,p',_,_,_,Z,Z,hw,Z,_,Z,_,_,Z,Z,⟨lp,lb⟩,_,_,Z,Z,⟨gW mp c2,gW lp c4⟩,jB,kk⟩
theorem Gu(T:dP K mg t):bn P w K mg base dm 3 t.a_Q61 t.d_Q61 ["one","other"] (B6 K):=by
 refine T.F_Q61.ok Fa (λvs H Q E h=>?_) (λcdv A outer s H vs Q E hr h=>?_)
 ·obtain⟨_,_,_,_,_,rfl,_⟩:=h;rfl
 obtain⟨v,w,r,n,m,rfl,hv,⟨pw,rfl,hw⟩,wr,m0,m24,hn,k⟩:=h;refine cZ.ok (ah (cj (aU fR (bV aB (qv 1) aj) aj (aV _)) (av jc) bw) (av (aG (cJ (Gx T) hr T.m_Q57 T.F_Q57.kp T.b_Q57 (ae (qv 0) (ae (cJ (Au T) hr T.m_Q55 T.F_Q55.kp T.b_Q55 (ae (bV aB (qv 1) aj) (ae (bV aB (qv 1) aj) ai aA) aA)) ai aP) af))))) ?_
 nofun
 refine⟨_,Z,pw,_,_,_,Z,Z,hw,Z,Z,_,Z,cE (λz=>by injection z with z;omega) ?_⟩;refine⟨_,rfl,_,rfl,pw,_,_,_,rfl,rfl,hw,rfl,_,rfl,pw,_,_,_,rfl,rfl,hw,rfl,1,m,rfl,by omega,bJ (n:=5) (by show((m:Int)).natAbs<32;omega) (by decide),λpr hpr=>?_⟩;have s1:=ao hpr (.tup [.int (fc 1 m).1,.int (fc 1 m).2]);have rr:RV K _ (.ref pr) (fc 1 m):=RV.of (ag (H:=H) (a:=pr) (o:=.tup [.int (fc 1 m).1,.int (fc 1 m).2]));rw[G8 m0] at rr s1 ⊢;refine⟨v,.ref pr,r,(1,(m:Int)),n,5,Z,hv.mono (aM.same s1),rr,wr,Gr m0 m24,by omega,λpt hpt=>?_⟩;exact k _ _ (s1.trans (ao hpt _)) (RV.of ag)
theorem GD(T:dP K mg t):bn P w K mg base dm 1 t.a_Q46 t.d_Q46 ["one","other"] (lN K):=by
 refine T.F_Q46.ok Fg (λvs H Q E h=>?_) (λcdv A outer s H vs Q E hr h=>?_)
 ·obtain⟨_,_,_,_,_,_,rfl,_⟩:=h;rfl
 obtain⟨v,w,r,q,n,m,rfl,hv,hw,wr,wq,hz,k⟩:=h;refine cZ.ok (av (aG (fj jh (aJ b7 (bV aB (qv 0) aj) (bV aB (qv 1) aj)) (aJ b7 (bV aB (qv 1) aj) (bV aB (qv 0) aj)) (aV _)))) ?_;nofun
 obtain⟨p,rfl,hv⟩:=hv;obtain⟨p',rfl,hw⟩:=hw;have c1:=bJ wr.top (show n≤4000 by omega);have c2:=bJ wr.bot (show n≤4000 by omega);have c3:=bJ wq.top (show m≤4000 by omega);have c4:=bJ wq.bot (show m≤4000 by omega);refine⟨_,Z,p,_,_,_,Z,Z,hv,Z,_,Z,p',_,_,_,Z,Z,hw,Z,_,_,Z,Z,⟨c1,c4⟩,_,Z,p',_,_,_,Z,Z,hw,Z,_,Z,p,_,_,_,Z,Z,hv,Z,_,_,Z,Z,⟨c3,c2⟩,_,_,Z,Z,k⟩
theorem GB(T:dP K mg t):bn P w K mg base dm 2 t.a_Q49 t.d_Q49 ["one","other"] (vI K):=by
 refine T.F_Q49.ok Ff (λvs H Q E h=>?_) (λcdv A outer s H vs Q E hr h=>?_)
 ·obtain⟨_,_,_,_,rfl,_⟩:=h;rfl
 obtain⟨v,w,r,q,rfl,hv,hw,ar,aq,k⟩:=h;refine cZ.ok (ah (cj (cT (cJ (GD T) hr T.m_Q46 T.F_Q46.kp T.b_Q46 (ae (qv 1) (ae (qv 0) ai af) af))) (av (aG (qv 1))) bw) (av (aG (qv 0)))) ?_
 nofun
 refine⟨_,Z,_,Z,w,v,q,r,800,800,Z,hw,hv,aq.wf,ar.wf,by decide,_,Z,?_⟩
 cases c:cD q r with
 |true=>exact gD ⟨_,Z,k _ (by unfold dh;rw[if_pos c];exact hw)⟩
 |false=>exact fN ⟨_,Z,k _ (by unfold dh;rw[if_neg (by rw[c];exact O1)];exact hv)⟩
theorem Gw(T:dP K mg t):bn P w K mg base dm 3 t.a_Q58 t.d_Q58 ["some"] (yh K):=by
 refine T.F_Q58.ok iN (λvs H Q E h=>?_) (λcdv A outer s H vs Q E hr h=>?_)
 ·obtain⟨_,_,_,_,_,rfl,_⟩:=h;rfl
 obtain⟨a,xs,rs,n,D₀,rfl,hS,hR,hWD,h0,hDn₀,hlen,hn,k⟩:=h;refine cZ.ok (ah (cn 1 iN.nd zS) (ah (cf Pe Z (FX (qv 0)) (aF (i:=2) iN.nd Z (by first|exact Pq Z|exact Pp Z)) (av (uF (cQ hr) (qv 1) (bV aB (qv 2) aj) (aJ cU (zT (cQ hr) (qv 1) (bV aB (qv 2) aj) aj ⟨Z,Z,Z,Z⟩) (bV aB (qv 2) aj)) Z))) (ah (cn 3 iN.nd (dJ (v:=.ref t.c_NOUGHT) Z T.m_NOUGHT Z)) (ah (cf Pe Z (zP (qv 1)) (iQ Z (bo (aF (i:=4) iN.nd Z (by first|exact Pq Z|exact Pp Z)) (bo (aF (i:=5) iN.nd Z (by first|exact Pq Z|exact Pp Z)) dI))) (av (cn 3 iN.nd (cJ (At T) hr T.m_Q60 T.F_Q60.kp T.b_Q60 (ae (qv 3) (ae (cJ (Au T) hr T.m_Q55 T.F_Q55.kp T.b_Q55 (ae (qv 5) (ae (qv 4) ai af) af)) ai aP) af))))) (av (aG (qv 3))))))) ?_
 nofun
 refine λD hDn=>⟨_,Z,?_⟩
 have sD:=ao hDn (.dK []);rcases hS with hS|hS
 ·refine .inl ⟨a,Z,⟨_,sD.seq hS⟩,eW (K:=K) (a:=a) (xs:=xs) (λi σ H'=>∃(x:Option V) (ps:List (Int×Int)),σ=[some (.ref a),some (.ref D),x,none,none,none]/\aE H H'/\H' D=some (.dK (mX ps))/\kA n i ps/\(∀p∈ps,p.1∣(D₀:Int))/\iE ps=iB (rs.take i)) ⟨none,[],Z,sD,ag,kA.nil n,(λ_ h=>nomatch h),Z⟩ (λi σ H1 _ ⟨_,_,_,s1,_⟩=>s1.seq hS) ?_ ?_⟩
  ·rintro i y σ H1 hi ⟨x,ps,rfl,s1,hD1,ok,dv,ev⟩;obtain⟨ry,hry,hyv⟩:=hR.at hi;have my:ry∈rs:=OM hry;have hil:=(OV.mp hry).1;obtain⟨py,rfl,hSy⟩:=hyv.mono (aM.same s1);have el:(mX ps).length=ps.length:=OD _;have hlp:(mX ps).length<sizeLine:=by rw[el];exact aR (by have:=ok.len;omega)
   refine⟨_,Z,D,Z,.inl ⟨_,.inl hD1⟩,_,Z,py,_,_,_,Z,Z,hSy,Z,_,fZ.k (k:=QX ry.2) hD1,_,Z,py,_,_,_,Z,Z,hSy,Z,r8 ps ry.2,ry.1,pV ps ry.2,Z,_,Z,_,Z,py,_,_,_,Z,Z,hSy,Z,D,_,Z,p8.k (k:=QX ry.2) hD1 hlp,?_⟩;refine⟨_,fX ps ry.2 ry.1,Z,λb o q=>?_,?_,ok.add (hWD ry my).1,vk (i:=0) (n:=0) dv (hWD ry my).2,?_⟩
   ·rw[au (aC q hDn)];exact s1 b o q
   ·rw[pH ps _ _ ok.nd];exact ag
   ·rw[lA,ev,Ps,hry];exact(jE _ _).symm
  ·rintro σ H1 ⟨x,ps,rfl,s1,hD1,ok,dv,ev⟩;rw[hR.1,Pw] at ev;rw[hR.1] at ok;refine⟨_,Z,D,mX ps,Z,hD1,λob=>n8 (d:=D) (ob:=ob) (kvs:=mX ps) (λj σ H'=>∃(u:V) (acc:R) (y4 y5:Option V),σ=[some (.ref a),some (.ref D),x,some u,y4,y5]/\aE H H'/\H' D=some (.frz ob (.dK (mX ps)))/\RV K H' u acc/\Bq D₀ (64*2^n*j) acc/\val acc=iE (ps.take j)) ⟨_,(0,1),none,none,Z,?_,ag,⟨_,Z,T.q_NOUGHT _⟩,⟨by decide,by decide,⟨(D₀:Int),by show(D₀:Int)=1*D₀;omega⟩,by show 0≤_;exact OZ _⟩,gv⟩ (λi σ H1 ⟨_,_,_,_,_,_,z,_⟩=>z) ?_ ?_⟩
   ·intro b o q;rw[au (aC q hDn)];exact s1 b o q
   ·rintro j kk v p σ H2 hkv ⟨u,acc,y4,y5,rfl,s2,hD2,r2,w2,ev2⟩ hp;have hkv':(ps.map λp=>((QX p.1:cA),V.int p.2))[j]?=some (kk,v):=hkv;rw[OQ] at hkv';obtain⟨q,hq,e⟩:=PX.mp hkv'
    cases e
    have mq:=OM hq;have hjl:=(OV.mp hq).1;have wq:=ok.wf (by omega) mq;have lps:=ok.len;have gq:=AZ ok dv hlen mq;have wa:=By w2 (by omega) h0 hDn₀;have bq:=ok.bot q mq;have e1:=ao hp (.tup [kV (QX q.1),V.int q.2]);refine⟨p,_,Z,bu.of ag,Z,_,_,Z,_,_,Z,Z,?_⟩;refine⟨_,Z,_,Z,_,Z,q.2,q.1,Z,bq.1,bJ bq.2 (by omega),λp1 g1=>?_⟩;have e2:=ao g1 (.tup [.int (fc q.2 q.1).1,.int (fc q.2 q.1).2]);refine⟨u,.ref p1,acc,fc q.2 q.1,2*n+12,n+8,Z,(r2.mono (aM.same e1)).mono (aM.same e2),RV.of ag,wa,wq,by omega,λp2 g2=>?_⟩;have e3:=ao g2 (.tup [.int (bY acc (fc q.2 q.1)).1,.int (bY acc (fc q.2 q.1)).2]);have s3:=((e1.trans e2).trans e3);refine⟨_,bY acc (fc q.2 q.1),_,_,Z,s2.trans s3,s3 _ _ hD2,RV.of ag,(by rw[Vj];exact Bq.plus h0 w2 gq),?_⟩;rw[iW w2.pos wq.pos,jF bq.1,ev2,Ps,hq];exact(jG _ _).symm
   ·rintro σ H2 ⟨u,acc,y4,y5,rfl,s2,hD2,r2,w2,ev2⟩;have el:(mX ps).length=ps.length:=OD _;rw[el,Pw] at ev2;have es:=xZ (λr hr=>(hWD r hr).1.red) w2.red (ev2.trans ev);rw[es] at r2;exact⟨_,Z,k u H2 s2 r2⟩
 ·refine .inr ⟨a,Z,⟨_,aM.same sD _ _ hS⟩,gy (K:=K) (a:=a) (xs:=xs) (λi σ H'=>∃(x:Option V) (ps:List (Int×Int)),σ=[some (.ref a),some (.ref D),x,none,none,none]/\aE H H'/\H' D=some (.dK (mX ps))/\kA n i ps/\(∀p∈ps,p.1∣(D₀:Int))/\iE ps=iB (rs.take i)) ⟨none,[],Z,sD,ag,kA.nil n,(λ_ h=>nomatch h),Z⟩ (λi σ H1 _ ⟨_,_,_,s1,_⟩=>aM.same s1 _ _ hS) ?_ ?_⟩
  ·rintro i y σ H1 hi ⟨x,ps,rfl,s1,hD1,ok,dv,ev⟩;obtain⟨ry,hry,hyv⟩:=hR.at hi;have my:ry∈rs:=OM hry;have hil:=(OV.mp hry).1;obtain⟨py,rfl,hSy⟩:=hyv.mono (aM.same s1);have el:(mX ps).length=ps.length:=OD _;have hlp:(mX ps).length<sizeLine:=by rw[el];exact aR (by have:=ok.len;omega)
   refine⟨_,Z,D,Z,.inl ⟨_,.inl hD1⟩,_,Z,py,_,_,_,Z,Z,hSy,Z,_,fZ.k (k:=QX ry.2) hD1,_,Z,py,_,_,_,Z,Z,hSy,Z,r8 ps ry.2,ry.1,pV ps ry.2,Z,_,Z,_,Z,py,_,_,_,Z,Z,hSy,Z,D,_,Z,p8.k (k:=QX ry.2) hD1 hlp,?_⟩;refine⟨_,fX ps ry.2 ry.1,Z,λb o q=>?_,?_,ok.add (hWD ry my).1,vk (i:=0) (n:=0) dv (hWD ry my).2,?_⟩
   ·rw[au (aC q hDn)];exact s1 b o q
   ·rw[pH ps _ _ ok.nd];exact ag
   ·rw[lA,ev,Ps,hry];exact(jE _ _).symm
  ·rintro σ H1 ⟨x,ps,rfl,s1,hD1,ok,dv,ev⟩;rw[hR.1,Pw] at ev;rw[hR.1] at ok;refine⟨_,Z,D,mX ps,Z,hD1,λob=>n8 (d:=D) (ob:=ob) (kvs:=mX ps) (λj σ H'=>∃(u:V) (acc:R) (y4 y5:Option V),σ=[some (.ref a),some (.ref D),x,some u,y4,y5]/\aE H H'/\H' D=some (.frz ob (.dK (mX ps)))/\RV K H' u acc/\Bq D₀ (64*2^n*j) acc/\val acc=iE (ps.take j)) ⟨_,(0,1),none,none,Z,?_,ag,⟨_,Z,T.q_NOUGHT _⟩,⟨by decide,by decide,⟨(D₀:Int),by show(D₀:Int)=1*D₀;omega⟩,by show 0≤_;exact OZ _⟩,gv⟩ (λi σ H1 ⟨_,_,_,_,_,_,z,_⟩=>z) ?_ ?_⟩
   ·intro b o q;rw[au (aC q hDn)];exact s1 b o q
   ·rintro j kk v p σ H2 hkv ⟨u,acc,y4,y5,rfl,s2,hD2,r2,w2,ev2⟩ hp;have hkv':(ps.map λp=>((QX p.1:cA),V.int p.2))[j]?=some (kk,v):=hkv;rw[OQ] at hkv';obtain⟨q,hq,e⟩:=PX.mp hkv'
    cases e
    have mq:=OM hq;have hjl:=(OV.mp hq).1;have wq:=ok.wf (by omega) mq;have lps:=ok.len;have gq:=AZ ok dv hlen mq;have wa:=By w2 (by omega) h0 hDn₀;have bq:=ok.bot q mq;have e1:=ao hp (.tup [kV (QX q.1),V.int q.2]);refine⟨p,_,Z,bu.of ag,Z,_,_,Z,_,_,Z,Z,?_⟩;refine⟨_,Z,_,Z,_,Z,q.2,q.1,Z,bq.1,bJ bq.2 (by omega),λp1 g1=>?_⟩;have e2:=ao g1 (.tup [.int (fc q.2 q.1).1,.int (fc q.2 q.1).2]);refine⟨u,.ref p1,acc,fc q.2 q.1,2*n+12,n+8,Z,(r2.mono (aM.same e1)).mono (aM.same e2),RV.of ag,wa,wq,by omega,λp2 g2=>?_⟩;have e3:=ao g2 (.tup [.int (bY acc (fc q.2 q.1)).1,.int (bY acc (fc q.2 q.1)).2]);have s3:=((e1.trans e2).trans e3);refine⟨_,bY acc (fc q.2 q.1),_,_,Z,s2.trans s3,s3 _ _ hD2,RV.of ag,(by rw[Vj];exact Bq.plus h0 w2 gq),?_⟩;rw[iW w2.pos wq.pos,jF bq.1,ev2,Ps,hq];exact(jG _ _).symm
   ·rintro σ H2 ⟨u,acc,y4,y5,rfl,s2,hD2,r2,w2,ev2⟩;have el:(mX ps).length=ps.length:=OD _;rw[el,Pw] at ev2;have es:=xZ (λr hr=>(hWD r hr).1.red) w2.red (ev2.trans ev);rw[es] at r2;exact⟨_,Z,k u H2 s2 r2⟩
theorem G0(T:dP K mg t):bn P w K mg base dm 2 t.a_Q12 t.d_Q12 ["some"] (lF K):=by
 refine T.F_Q12.ok o9 (λvs H Q E h=>?_) (λcdv A outer s H vs Q E hr h=>?_)
 ·obtain⟨_,_,_,rfl,_⟩:=h;rfl
 obtain⟨a,xs,ws,rfl,hS,al,hn,ok,k⟩:=h;refine cZ.ok (ah (cn 1 o9.nd aj) (ah (cf Pe Z (cH (qv 0)) (aF (i:=2) o9.nd Z (by first|exact Pq Z|exact Pp Z)) (av (cn 1 o9.nd (aJ b7 (qv 1) (aJ dN (bV aB (qv 2) aj) (cJ (ma T) hr T.m_Q0 T.F_Q0.kp T.b_Q0 (ae (qv 1) (ae (bV aB (qv 2) aj) ai aA) af))))))) (av (aG (cr (N':=["one","bottom"]) (src:=[none,some 1]) Z (by exact(cH (qv 0))) (λ_ _ _ _ _=>(by exact(by exact aF (i:=0) (by show PQ (["one","bottom"]:List Pf);decide +kernel) (by exact Z) (by first|exact Pq Z|exact Pp Z)))) (λ_ _ _ _ _=>dX) (λ_ _ _ _ _=>(by exact(by exact(aJ b7 (by exact(bI (bQ (K:=K) (by exact Z)) (by exact(qv 0)) aj (by exact λ_ _=>Z))) (by exact(aJ dN (by exact(qv 1)) (by exact(bI (bQ (K:=K) (by exact Z)) (by exact(qv 0)) aj (by exact λ_ _=>Z))))))))) (by exact⟨Z,Z,Z,Z,trivial⟩) Z (by decide +kernel) Z (by decide +kernel) (by exact bR Z ⟨Z,trivial⟩)))))) ?_
 nofun
 have hlen:=al.len;rw[OD] at hlen;let Iv1:Nat->L2.St->Hp->Prop:=λi σ H'=>∃(B:Int) (x3:Option V),σ=[some (.ref a),some (.int B),x3]/\H'=H/\0<B/\B∣4834023173650597876544881407704768017555162023798869768948261467874213139288822304401239266415271355416806678311752296500438875701050478901734985823099062742197929195130163826648664551259341770021719244800000000000000000000000/\∀w∈ws.take i,w.2.2.2∣B
 refine⟨_,Z,a,Z,⟨_,hS⟩,eW (K:=K) (a:=a) (xs:=xs) Iv1 ⟨1,none,Z,Z,by decide,⟨4834023173650597876544881407704768017555162023798869768948261467874213139288822304401239266415271355416806678311752296500438875701050478901734985823099062742197929195130163826648664551259341770021719244800000000000000000000000,Z⟩,by simp⟩ (λi σ H1 _ ⟨_,_,_,e,_⟩=>by rw[e];exact hS) ?_ ?_⟩
 ·rintro i x σ H1 hx ⟨B,x3,rfl,rfl,b0,bd,all⟩;obtain⟨r,hr,px,rfl,hSx⟩:=al.at hx;rw[OQ] at hr;obtain⟨w,hw,er⟩:=PX.mp hr;subst er;have okw:=ok w (OM hw);have c1:=okw.am.bot;have c2:=Sr (by decide) okw.am.dvd;have B84:=Sr (by decide) bd;have g0:0<(O0 B w.2.2.2:Int):=b6 (by omega);have g1:(O0 B w.2.2.2:Int)≤w.2.2.2:=Sr (by omega) (RN _ _);obtain⟨l0,l1,l2,l3⟩:=AO b0 (show 0<w.2.2.2 by omega) bd okw.am.dvd;refine⟨_,Z,_,Z,px,_,_,_,Z,Z,hSx,Z,_,Z,_,Z,px,_,_,_,Z,Z,hSx,Z,B,w.2.2.2,Z,_,_,Z,Z,⟨g0,xm (by omega) (by omega)⟩,_,_,Z,Z,⟨xm (by omega) (by omega),xm (Sk (by omega) (by omega)) (Int.le_trans (UY _ (by omega)) (by omega))⟩,?_⟩;refine⟨_,_,Z,Z,l0,l1,λz hz=>?_⟩;rw[Ps,hw] at hz;rcases Pn.mp hz with h|h
  ·exact SQ (all z h) l2
  ·have:z=w:=by simpa using h
   subst this;exact l3
 ·rintro σ H1 ⟨B,x3,rfl,rfl,b0,bd,all⟩;rw[hlen,Pw] at all;have B84:=Sr (by decide) bd;refine⟨_,Z,a,Z,⟨_,hS⟩,λD hD=>dM (g5 hS) (λ_=>true) (λi=>V.int ((fb B ws).getD i 0)) hD (by omega) (λi x H' hi s' hx R E kR kE=>?_) λH4 s4 h4=>?_⟩
  ·obtain⟨r,hr,px,rfl,hSx⟩:=al.at hx;rw[OQ] at hr;obtain⟨w,hw,er⟩:=PX.mp hr;subst er;have okw:=ok w (OM hw);have t':=aM.same (K:=K) s';have e:(fb B ws).getD i 0=w.2.2.1*(B/w.2.2.2):=az 0 (by unfold fb;rw[OQ,hw];rfl);have q:=kR Z _ (aE.refl _);rw[e] at q;have:=okw.am.bot;have:=Sr (by decide) okw.am.dvd;have:=okw.am.top;have:=okw.am.top';exact⟨gG.set Z,_,Z,px,_,_,_,Z,Z,t' _ _ hSx,Z,_,Z,_,Z,px,_,_,_,Z,Z,t' _ _ hSx,Z,_,_,Z,Z,⟨by omega,xm (by omega) (by omega)⟩,_,_,Z,Z,⟨xm (by omega) (by omega),xm (Sk (by omega) (by omega)) (Int.le_trans (UY _ (by omega)) (by omega))⟩,q⟩
  ·refine k D B H4 s4 hD b0 bd all ?_;rw[h4,show xs.length=(fb B ws).length by unfold fb;rw[OD];exact hlen,dZ 0 V.int]
theorem GC(T:dP K mg t):bn P w K mg base dm 4 t.a_Q47 t.d_Q47 ["thing"] (si K):=by
 refine T.F_Q47.ok sE (λvs H Q E h=>?_) (λcdv A outer s H vs Q E hr h=>?_)
 ·obtain⟨_,_,rfl,_⟩:=h;rfl
 obtain⟨v,d,rfl,hD,k⟩:=h;refine cZ.ok (ah (cj (e9 (cT (cJ (AD T) hr T.m_Q11 T.F_Q11.kp T.b_Q11 (ae (qv 0) (ae aj ai aI) af)))) (av (aG gP)) bw) (ah (cn 1 sE.nd (bV aB (qv 0) aj)) (ah (cn 2 sE.nd (bV aB (qv 0) aj)) (ah (cj (nQ (uD (e9 (cT (cJ (Et T) hr T.m_Q6 T.F_Q6.kp T.b_Q6 (ae (qv 1) (ae (dJ (v:=.int (24)) Z T.m_TURNS ⟨_,Z⟩) ai af) af)))) (sR (e9 (cT (cJ (Et T) hr T.m_Q6 T.F_Q6.kp T.b_Q6 (ae (qv 2) (ae (dJ (v:=.int (24)) Z T.m_TURNS ⟨_,Z⟩) ai af) af))))))) (av (aG gP)) bw) (av (aG (jS (fj l9 (qv 1) (qv 2) (aV _)) (jR (cJ (JJ T) hr T.m_Q1 T.F_Q1.kp T.b_Q1 (ae (bV aB (qv 0) aj) ai aA)))))))))) ?_
 nofun
 refine⟨_,Z,v,d,3,Z,hD,⟨_,Z,?_⟩⟩
 cases c3:oM 3 d with
 |false=>
  refine gD ?_;rw[xI c3] at k;exact k
 |true=>
  refine fN ?_;obtain⟨p,x,y,z,dx,dy,dz,rfl,rfl,hS,hx,hy,hz⟩:=bv.three hD c3;have kk:Q (.bl (mf 24 dx&&(mf 24 dy&&(Lr dx dy&&d0 dz)))) H:=k;refine⟨_,Z,p,_,_,_,Z,Z,hS,Z,_,Z,p,_,_,_,Z,Z,hS,Z,?_⟩;refine⟨_,Z,x,dx,24,Z,hx,_,Z,?_⟩
  cases cx:mf 24 dx with
  |false=>
   rw[cx,Ri] at kk;exact gD (gD kk)
  |true=>
   rw[cx,RT] at kk;refine fN ?_;refine⟨_,Z,y,dy,24,Z,hy,_,Z,?_⟩
   cases cy:mf 24 dy with
   |false=>
    rw[cy,Ri] at kk;exact gD kk
   |true=>
    rw[cy,RT] at kk;refine fN ?_;obtain⟨i,rfl,_⟩:=me cx;obtain⟨j,rfl,_⟩:=me cy
    cases hx
    cases hy
    have k3:Q (.bl (decide (i≤j)&&d0 dz)) H:=kk;refine⟨_,Z,_,Z,_,_,Z,Z,_,Z,?_⟩;by_cases c:i≤j
    ·rw[decide_eq_true c,RT] at k3;refine cK c ?_;exact⟨_,Z,p,_,_,_,Z,Z,hS,Z,z,dz,Z,hz,k3⟩
    ·rw[decide_eq_false c,Ri] at k3;exact cE c k3
theorem Az(T:dP K mg t):bn P w K mg base dm 1 t.a_Q25 t.d_Q25 ["work","turn"] (oV K):=by
 refine T.F_Q25.ok Fn (λvs H Q E h=>?_) (λcdv A outer s H vs Q E hr h=>?_)
 ·obtain⟨_,_,_,rfl,_⟩:=h;rfl
 obtain⟨v,w,t₀,rfl,⟨p,x,rfl,hS,rx⟩,k⟩:=h;refine cZ.ok (av (aG (qS l9 l9 (bV aB (qv 0) aj) (qv 1) (bV aB (qv 0) aj)))) ?_;nofun
 refine⟨_,Z,p,_,_,_,Z,Z,hS,Z,_,Z,_,_,Z,Z,_,Z,?_⟩;by_cases c:w.1≤t₀
 ·refine cK (by omega) ?_;have e:fk w t₀=decide ((t₀:Int)≤(w.2.1:Int)):=by
   unfold fk;rw[decide_eq_true c,RT];exact decide_eq_decide.mpr (by omega)
  rw[e] at k;exact⟨_,Z,p,_,_,_,Z,Z,hS,Z,_,_,Z,Z,k⟩
 ·refine cE (by omega) ?_;have e:fk w t₀=false:=by
   unfold fk;rw[decide_eq_false c,Ri]
  rw[e] at k;exact k
theorem GZ(T:dP K mg t):bn P w K mg base dm 1 t.a_Q13 t.d_Q13 ["count"] (lG K):=by
 refine T.F_Q13.ok Fv (λvs H Q E h=>?_) (λcdv A outer s H vs Q E hr h=>?_)
 ·obtain⟨_,rfl,_⟩:=h;rfl
 obtain⟨n,rfl,hn,k⟩:=h;refine cZ.ok (av (aG (cr (N':=["work","count"]) (src:=[none,some 0]) Z (by exact(ft Z T.z_range (ae (qv 0) ai af))) (λ_ _ _ _ _=>(by exact(by exact aF (i:=0) (by show PQ (["work","count"]:List Pf);decide +kernel) (by exact Z) (by first|exact Pq Z|exact Pp Z)))) (λ_ _ _ _ _=>dX) (λ_ _ _ _ _=>(by exact(by exact(aJ uM (by exact(bA (ae gP ai aI))) (by exact(qv 1)))))) (by exact⟨Z,Z,Z,Z,trivial⟩) Z (by decide +kernel) Z (by decide +kernel) (by exact bR Z ⟨Z,trivial⟩)))) ?_;nofun
 refine⟨_,Z,n,Z,by omega,by omega,λD hD=>Bm (J:=EN 0 n) (n:=n) (λi ys H'=>∃rows:List Addr,ys=rows.map V.ref/\rows.length=i/\rows.Nodup/\D∉rows/\(∀r∈rows,H r=none)/\aE H H'/\H' D=some (.lst ys)/\∀r∈rows,H' r=some (.lst (vR n λ_=>false))) ⟨[],Z,Z,Td,(λz=>by cases z),(λr hr=>by cases hr),ao hD _,ag,λr hr=>by cases hr⟩ (λi ys H' hi _=>hi) (λys H' ⟨rows,e1,e2,e3,e4,e5,e6,e7,e8⟩=>⟨OC _,k D rows H' e6 hD e5 ⟨by rw[e7,e1],e2,e3,e4,λi r e=>e8 r (OM e)⟩⟩) ?_⟩;rintro i ys H1 x H2 hi ⟨rows,rfl,e2,e3,e4,e5,e6,e7,e8⟩ ⟨rfl,rfl⟩ R E kR kE;refine⟨gG.set Z,?_⟩;refine⟨BP,λq hq=>?_⟩;have s1:=ao hq (.lst [.bl false]);refine⟨_,Z,q,.bl false,n,Z,Z,ag,by omega,λr hr=>?_⟩;have s2:=ao hr (.lst (Pg n (.bl false)));have s12:=s1.trans s2;have nr:r∉rows:=λm=>by rw[s1 _ _ (e8 r m)] at hr;cases hr
 have nD:r≠D:=λz=>by subst z;rw[s1 _ _ e7] at hr;cases hr
 have er:Pg n (V.bl false)=vR n λ_=>false:=by
  unfold vR;apply WU;intro j;rw[S0,OQ];by_cases c:j<n
  ·rw[if_pos c,Q2 c];rfl
  ·rw[if_neg c,Q7 (by rw[Pi];omega)];rfl
 have hD4:=s12 _ _ e7;refine kR (.ref r) _ hD4 (aR (by rw[OD];omega)) ⟨rows++[r],by rw[P0];rfl,by rw[Pk,e2];rfl,?_,?_,λz hz=>?_,λb o q=>?_,ag,λz hz=>?_⟩
 ·rw[Qd];exact⟨e3,PZ.mpr ⟨(λz=>by cases z),Td⟩,λa ha b hb=>by rw[OH.mp hb];exact λz=>nr (by rw[←z];exact ha)⟩
 ·intro m;rcases Pn.mp m with z|z
  ·exact e4 z
  ·exact nD (OH.mp z).symm
 ·rcases Pn.mp hz with y|y
  ·exact e5 z y
  ·rw[OH.mp y]
   cases c:H r with
   |none=>rfl
   |some o=>rw[s1 _ _ (e6 _ _ c)] at hr;cases hr
 ·rw[au (aC q hD)];exact s12 _ _ (e6 _ _ q)
 ·rcases Pn.mp hz with y|y
  ·rw[au (show z≠D from λw=>e4 (by rw[←w];exact y))];exact s12 _ _ (e8 z y)
  ·rw[OH.mp y,au nD,ag,er]
theorem GL(T:dP K mg t):bn P w K mg base dm 1 t.a_Q35 t.d_Q35 ["leanings","lean"] (qK K):=by
 exact T.F_Q35.ok Fj (λvs H Q E h=>h.elim) (λcdv A outer s H vs Q E hr h=>h.elim)
theorem Es(T:dP K mg t):bn P w K mg base dm 2 t.a_Q7 t.d_Q7 ["count","leans"] (kr K):=by
 refine T.F_Q7.ok yq (λvs H Q E h=>?_) (λcdv A outer s H vs Q E hr h=>?_)
 ·obtain⟨_,_,_,rfl,_⟩:=h;rfl
 obtain⟨n,v,es,rfl,⟨p,xs,rfl,hS,al⟩,ok,hn,k⟩:=h;refine cZ.ok (ah (cn 2 yq.nd (cJ (GZ T) hr T.m_Q13 T.F_Q13.kp T.b_Q13 (ae (qv 0) ai af))) (ah (cf Pe Z (fH (qv 1)) (aF (i:=3) yq.nd Z (by first|exact Pq Z|exact Pp Z)) (av (ci (cJ (GL T) hr T.m_Q35 T.F_Q35.kp T.b_Q35 (ae (qv 2) (ae (qv 3) ai af) af))))) (av (aG (qv 2))))) ?_
 nofun
 refine⟨_,Z,n,Z,hn,λl rows H1 s1 hl hr m1=>?_⟩;have hS1:=aM.same (K:=K) s1 _ _ hS;have sm:∀H',Kp rows H1 H'->aE H H':=λH' kp b o e=>kp.keep b o (λz=>by rw[hr b z] at e;cases e) (s1 _ _ e)
 let Iv1:Nat->L2.St->Hp->Prop:=λi σ H'=>∃(L:Nat->Nat->Bool) (x4:Option V),σ=[some (.int n),some (.ref p),some (.ref l),x4]/\Kp rows H1 H'/\BN H' l rows n L/\KW n (es.take i) L
 refine⟨_,Z,p,Z,⟨_,hS1⟩,gy (K:=K) (a:=p) (xs:=xs) Iv1 ⟨_,none,Z,Kp.same (aE.refl _) m1.ls,m1,by rw[X0];exact DL n⟩ (λi σ H' _ ⟨_,_,_,kp,_⟩=>aM.kp (K:=K) kp _ _ hS1) ?_ ?_⟩
 ·rintro i x σ H2 hx ⟨L,x4,rfl,kp2,m2,c2⟩;obtain⟨⟨a,b⟩,hd,lv⟩:=al.at hx;rw[show es=[] from ok] at hd
  cases hd
 ·rintro σ H2 ⟨L,x4,rfl,kp2,m2,c2⟩;rw[al.len,Pw] at c2;exact⟨_,Z,k l rows L H2 (sm _ kp2) m2 c2⟩
theorem GK(T:dP K mg t):bn P w K mg base dm 3 t.a_Q36 t.d_Q36 ["sheet"] (qH K):=by
 refine T.F_Q36.ok fU (λvs H Q E h=>?_) (λcdv A outer s H vs Q E hr h=>?_)
 ·obtain⟨_,_,_,rfl,_⟩:=h;rfl
 obtain⟨v,ws,es,rfl,⟨p,a,b,rfl,hS,wv,lv⟩,ok,nb_,k⟩:=h;refine cZ.ok (ah (cn 1 fU.nd (bV aB (qv 0) aj)) (ah (cn 2 fU.nd (cJ (Es T) hr T.m_Q7 T.F_Q7.kp T.b_Q7 (ae (aN bb (by rfl) T.z_len Rv (ae (qv 1) ai af)) (ae (bV aB (qv 0) aj) ai aA) aP))) (ah (cn 3 fU.nd (bA ai)) (ah (cf Pe Z (kG Z T.z_enumerate (ae (qv 1) ai af)) (iQ Z (bo (aF (i:=4) fU.nd Z (by first|exact Pq Z|exact Pp Z)) (bo (aF (i:=5) fU.nd Z (by first|exact Pq Z|exact Pp Z)) dI))) (ah (jb (i:=6) (N':=["base","other","leanings","number"]) (src:=[none,none,some 2,some 4]) fU.nd Z (by first|exact Pq Z|exact Pp Z) Z (by exact(kG Z T.z_enumerate (ae (qv 1) ai af))) (λ_ _ _ _ _=>(by exact(by exact jd (K:=K) (n:=2) (by exact Z) (by exact Z) (by exact bo (by exact aF (i:=0) (by show PQ (["base","other","leanings","number"]:List Pf);decide +kernel) (by exact Z) (by first|exact Pq Z|exact Pp Z)) (by exact bo (by exact aF (i:=1) (by show PQ (["base","other","leanings","number"]:List Pf);decide +kernel) (by exact Z) (by first|exact Pq Z|exact Pp Z)) dI))))) (λ_ _ _ _ _=>(fh (cT (by exact(bI (dF (K:=K) (by exact Z)) (by exact(bI (dF (K:=K) (by exact Z)) (by exact(qv 2)) (by exact(qv 3)) (by exact λ_ _=>Z))) (by exact(qv 0)) (by exact λ_ _=>Z)))))) (λ_ _ _ _ _=>(by exact(by exact(bI (bQ (K:=K) (by exact Z)) (by exact(qv 1)) aj (by exact λ_ _=>Z))))) (by exact⟨Z,Z,Z,Z,⟨Z,Z,Z,Z,trivial⟩⟩) Z (by decide +kernel) Z (by decide +kernel) (by exact bR Z ⟨Z,⟨Z,trivial⟩⟩)) (ah (jb (i:=7) (N':=["leaner","other","number","leanings"]) (src:=[none,none,some 4,some 2]) fU.nd Z (by first|exact Pq Z|exact Pp Z) Z (by exact(kG Z T.z_enumerate (ae (qv 1) ai af))) (λ_ _ _ _ _=>(by exact(by exact jd (K:=K) (n:=2) (by exact Z) (by exact Z) (by exact bo (by exact aF (i:=0) (by show PQ (["leaner","other","number","leanings"]:List Pf);decide +kernel) (by exact Z) (by first|exact Pq Z|exact Pp Z)) (by exact bo (by exact aF (i:=1) (by show PQ (["leaner","other","number","leanings"]:List Pf);decide +kernel) (by exact Z) (by first|exact Pq Z|exact Pp Z)) dI))))) (λ_ _ _ _ _=>(fh (cT (by exact(bI (dF (K:=K) (by exact Z)) (by exact(bI (dF (K:=K) (by exact Z)) (by exact(qv 3)) (by exact(qv 0)) (by exact λ_ _=>Z))) (by exact(qv 2)) (by exact λ_ _=>Z)))))) (λ_ _ _ _ _=>(by exact(by exact(bI (bQ (K:=K) (by exact Z)) (by exact(qv 1)) aj (by exact λ_ _=>Z))))) (by exact⟨Z,Z,Z,Z,⟨Z,Z,Z,Z,trivial⟩⟩) Z (by decide +kernel) Z (by decide +kernel) (by exact bR Z ⟨Z,⟨Z,trivial⟩⟩)) (ah (cn 8 fU.nd (aN (xf Z) (by rfl) T.z_max boot_max (ae (aJ Ar (bA (ae (bV aB (qv 5) aj) ai aA)) (qv 6)) ai aZ))) (ah (cn 9 fU.nd (aN (oq Z) (by rfl) T.z_min boot_min (ae (aJ Ar (bA (ae (bV aB (qv 5) aj) ai aA)) (qv 7)) ai aZ))) (ah (cj (aU ir (qv 8) (qv 9) (aV _)) (av jc) bw) (av (ci (eQ O9 Pb Pd bH (qv 3) (ae (bS (ae (qv 8) (ae (qv 9) (ae (bV aB (qv 5) aj) ai aA) af) af)) ai dD)))))))))) (av (aG (bC aX (by rfl) T.z_tuple Qq (ae (qv 3) ai af)))))))) ?_
 nofun
 obtain⟨pa,xs,rfl,hpa,al⟩:=id wv;have hxl:=al.len;have few:=ok.few;obtain⟨f,l_,win⟩:=ii.ex ws es;refine⟨_,Z,p,_,_,_,Z,Z,hS,Z,?_⟩;refine⟨_,Z,pa,_,Z,.inr hpa,_,Z,p,_,_,_,Z,Z,hS,Z,ws.length,b,es,(by rw[hxl];rfl),lv,ok.es,by omega,λl rows L H1 s1 MX1 clo=>?_⟩;refine⟨(by show 0≤sizeLine;exact OZ _),λdl hdl=>?_⟩;have s2:=ao hdl (.lst []);have hd2:upd H1 dl (.lst []) dl=some (.lst []):=ag;have MX2:=MX1.same s2;have s02:=s1.trans s2;generalize upd H1 dl (.lst [])=H2 at s2 hd2 MX2 s02 ⊢;have hdN:H dl=none:=by
  cases e:H dl with
  |none=>rfl
  |some o=>rw[s1 _ _ e] at hdl;cases hdl
 have ndl:dl≠l:=λz=>by subst z;rw[MX1.top] at hdl;cases hdl
 have ndr:dl∉rows:=λz=>by obtain⟨ys,e⟩:=MX1.ls _ z;rw[hdl] at e;cases e
 have t02:=aM.same (K:=K) s02;have mst:∀H',d7 dl H2 H'->BN H' l rows ws.length L:=λH' S=>⟨S.keep _ _ (λz=>ndl z.symm) MX2.top,MX2.len,MX2.nd,MX2.ne,λi r e=>S.keep _ _ (λz=>ndr (by rw[←z];exact OM e)) (MX2.row i r e)⟩
 have sst:∀H',d7 dl H2 H'->aE H H':=λH' S b' o e=>S.keep b' o (λz=>by subst z;rw[hdN] at e;cases e) (s02 _ _ e)
 let Iv1:Nat->L2.St->Hp->Prop:=λi σ H'=>∃(ys:List V) (x5 x6 x7 x8 x9 x10:Option V),σ=[some (.ref p),some (.ref pa),some (.ref l),some (.ref dl),x5,x6,x7,x8,x9,x10]/\d7 dl H2 H'/\H' dl=some (.lst ys)/\ys.length=i/\bh K H' ys ((OB i).map (wX ws f l_))/\∀j,j<i->f j≤l_ j
 refine⟨_,Z,pa,Z,⟨_,t02 _ _ hpa⟩,A4 (K:=K) (a:=pa) (xs:=xs) Iv1 ⟨[],none,none,none,none,none,none,Z,d7.refl ⟨_,hd2⟩,hd2,Z,.nil,λj hj=>absurd hj (Sn _)⟩ (λi σ H' _ ⟨_,_,_,_,_,_,_,_,S,_⟩=>aM.step (K:=K) S _ _ (t02 _ _ hpa)) ?_ ?_⟩
 ·rintro i x pe σ H3 hx ⟨ys,x5,x6,x7,x8,x9,x10,rfl,S3,hd3,hys,dp,le⟩ hpe;have hi:i<ws.length:=by have:=(OV.mp hx).1;omega
  obtain⟨w,hw,pw,am,rfl,hpw,ram⟩:=al.at hx;have ewi:ws.getD i bL=w:=az bL hw;have wok:=ok.ok w (OM hw);have s4:=ao hpe (.tup [.int i,.ref pw]);have hpe4:upd H3 pe (.tup [.int i,.ref pw]) pe=some (.tup [.int i,.ref pw]):=ag;generalize upd H3 pe (.tup [.int i,.ref pw])=H4 at s4 hpe4 ⊢;have S4:=S3.trans (d7.same s4 ⟨_,hd3⟩);have t4:=t02.trans (aM.step (K:=K) S4);refine⟨pe,_,Z,bu.of hpe4,Z,_,_,Z,_,_,Z,Z,?_⟩;have MX:=mst _ S4;have SM:=t4;refine⟨_,Z,pa,Z,⟨_,(SM _ _ hpa)⟩,λD1 hD1=>dM (oF ((SM _ _ hpa))) (λj=>L i j) (λj=>V.int ((ws.getD j bL).1:Nat)) hD1 (by omega) (λj y H' hj s' hy R E kR kE=>?_) λH5 s5 h5=>?_⟩
  ·obtain⟨pt,x',rfl,hx',hpt⟩:=hy;obtain⟨w',hw',pw',am',rfl,hpw',_⟩:=al.at hx';have ew:ws.getD j bL=w':=az bL hw';rw[ew] at kR;have Ms:=MX.same s';obtain⟨rr,hrr⟩:∃r,rows[i]?=some r:=⟨_,OA (by rw[MX.len];omega)⟩;refine⟨pt,_,Z,bu.of hpt,Z,_,_,Z,_,_,Z,Z,(gG.set Z).set' Z,?_⟩;refine⟨_,Z,_,Z,l,_,_,_,Z,Z,aS.of Ms.top,bG (v:=V.ref rr) (by rw[OQ,hrr];rfl),_,Z,rr,_,_,_,Z,Z,aS.of (Ms.row _ _ hrr),bG (pA (by omega)),_,Z,?_⟩
   cases cl:L i j with
   |true=>
    exact gD ⟨_,Z,pw',_,_,_,Z,Z,SM.trans (aM.same (K:=K) s') _ _ hpw',Z,kR cl _ (aE.refl _)⟩
   |false=>exact fN (kE cl _ (aE.refl _))
  rw[show xs.length=ws.length from hxl] at h5;have MX5:=MX.same s5;have SM5:=SM.trans (aM.same (K:=K) s5);refine⟨_,Z,pa,Z,⟨_,(SM5 _ _ hpa)⟩,λD2 hD2=>dM (oF ((SM5 _ _ hpa))) (λj=>L j i) (λj=>V.int ((ws.getD j bL).2.1:Nat)) hD2 (by omega) (λj y H' hj s' hy R E kR kE=>?_) λH6 s6 h6=>?_⟩
  ·obtain⟨pt,x',rfl,hx',hpt⟩:=hy;obtain⟨w',hw',pw',am',rfl,hpw',_⟩:=al.at hx';have ew:ws.getD j bL=w':=az bL hw';rw[ew] at kR;have Ms:=MX5.same s';obtain⟨rr,hrr⟩:∃r,rows[j]?=some r:=⟨_,OA (by rw[MX5.len];omega)⟩;refine⟨pt,_,Z,bu.of hpt,Z,_,_,Z,_,_,Z,Z,(gG.set Z).set' Z,?_⟩;refine⟨_,Z,_,Z,l,_,_,_,Z,Z,aS.of Ms.top,bG (v:=V.ref rr) (by rw[OQ,hrr];rfl),_,Z,rr,_,_,_,Z,Z,aS.of (Ms.row _ _ hrr),bG (pA (by omega)),_,Z,?_⟩
   cases cl:L j i with
   |true=>
    exact gD ⟨_,Z,pw',_,_,_,Z,Z,SM5.trans (aM.same (K:=K) s') _ _ hpw',Z,kR cl _ (aE.refl _)⟩
   |false=>exact fN (kE cl _ (aE.refl _))
  rw[show xs.length=ws.length from hxl] at h6;have s46:=s5.trans s6;have h5':=s6 _ _ h5;have t6:=SM5.trans (aM.same (K:=K) s6);refine⟨_,Z,pw,_,_,_,Z,Z,t6 _ _ hpw,Z,BP,λq1 hq1=>?_⟩;have s7:=ao hq1 (.lst [.int (w.1:Nat)]);have l1:((OB ws.length).filter λj=>L i j).length≤ws.length:=O7 (Pt _ _) (by rw[Pi];exact OC _);have l2:((OB ws.length).filter λj=>L j i).length≤ws.length:=O7 (Pt _ _) (by rw[Pi];exact OC _);refine⟨_,Z,q1,D1,_,_,Z,Z,ag,s7 _ _ h5',R8 (aR (by rw[OD];show 1+_≤1000;omega)),λq2 hq2=>?_⟩;have s8:=ao hq2 (.lst ([.int (w.1:Nat)]++((OB ws.length).filter λj=>L i j).map λj=>V.int ((ws.getD j bL).1:Nat)));have e8:[V.int (w.1:Nat)]++(((OB ws.length).filter λj=>L i j).map λj=>V.int ((ws.getD j bL).1:Nat))=((w.1:Int)::((OB ws.length).filter λj=>L i j).map λj=>((ws.getD j bL).1:Int)).map V.int:=by rw[Pm,Qt];rfl
  refine⟨q2,_,Z,aS.of (by rw[←e8];exact ag),by rw[Pu];omega,λM hM hB=>?_⟩;have eM:M=f i:=by
   obtain⟨j0,hj0,z0,q0⟩:=win.a.att i hi;have u1:f i≤M:=by
    rw[q0];refine hB _ ?_;rcases z0 with z0|z0
    ·subst z0;unfold vF;rw[ewi];exact OJ
    ·exact OL _ (OP.mpr ⟨j0,OU.mpr ⟨ON.mpr hj0,(clo i j0 hi hj0).mpr z0⟩,Z⟩)
   have u2:M≤f i:=by
    rcases OO.mp hM with z|z
    ·have:=win.a.up i i hi hi (.inl Z);unfold vF at this;rw[ewi] at this;omega
    ·obtain⟨j,hj,rfl⟩:=OP.mp z;obtain⟨hj1,hj2⟩:=OU.mp hj;exact win.a.up i j hi (ON.mp hj1) (.inr ((clo i j hi (ON.mp hj1)).mp hj2))
   omega
  rw[eM];have s78:=s7.trans s8;clear hM hB eM;have h6':=s78 _ _ h6;have t8:=t6.trans (aM.same (K:=K) s78);refine⟨_,Z,pw,_,_,_,Z,Z,t8 _ _ hpw,Z,BP,λq3 hq3=>?_⟩;have s9:=ao hq3 (.lst [.int (w.2.1:Nat)]);refine⟨_,Z,q3,D2,_,_,Z,Z,ag,s9 _ _ h6',R8 (aR (by rw[OD];show 1+_≤1000;omega)),λq4 hq4=>?_⟩;have sA:=ao hq4 (.lst ([.int (w.2.1:Nat)]++((OB ws.length).filter λj=>L j i).map λj=>V.int ((ws.getD j bL).2.1:Nat)));have eA:[V.int (w.2.1:Nat)]++(((OB ws.length).filter λj=>L j i).map λj=>V.int ((ws.getD j bL).2.1:Nat))=((w.2.1:Int)::((OB ws.length).filter λj=>L j i).map λj=>((ws.getD j bL).2.1:Int)).map V.int:=by rw[Pm,Qt];rfl
  refine⟨q4,_,Z,aS.of (by rw[←eA];exact ag),by rw[Pu];omega,λM hM hB=>?_⟩;have eM:M=l_ i:=by
   obtain⟨j0,hj0,z0,q0⟩:=win.b.att i hi;have u1:M≤l_ i:=by
    have q0':- l_ i=-((ws.getD j0 bL).2.1:Int):=q0;have:l_ i=((ws.getD j0 bL).2.1:Int):=by omega
    rw[this];refine hB _ ?_;rcases z0 with z0|z0
    ·subst z0;rw[ewi];exact OJ
    ·exact OL _ (OP.mpr ⟨j0,OU.mpr ⟨ON.mpr hj0,(clo j0 i hj0 hi).mpr (uo.mp z0)⟩,Z⟩)
   have u2:l_ i≤M:=by
    rcases OO.mp hM with z|z
    ·have:=win.b.up i i hi hi (.inl Z);unfold vL at this;rw[ewi] at this;have:-(w.2.1:Int)≤- l_ i:=this;omega
    ·obtain⟨j,hj,rfl⟩:=OP.mp z;obtain⟨hj1,hj2⟩:=OU.mp hj;have:=win.b.up i j hi (ON.mp hj1) (.inr (uo.mpr ((clo j i (ON.mp hj1) hi).mp hj2)));have:-((ws.getD j bL).2.1:Int)≤- l_ i:=this;omega
   omega
  rw[eM];clear hM hB eM;have s9A:=s9.trans sA;have s4A:=(s46.trans s78).trans s9A;generalize upd (upd (upd (upd H6 q1 _) q2 _) q3 _) q4 _=HA at s9A s4A ⊢;have SA:=S4.trans (d7.same s4A ⟨_,s4 _ _ hd3⟩);refine⟨_,Z,_,Z,_,_,Z,Z,_,Z,?_⟩;by_cases c:l_ i<f i
  ·refine cK c ?_;have rs:iU ws.length f l_=some i:=Bs hi c le;exact absurd (nb_ f l_ win) (by rw[rs];exact λz=>nomatch z)
  ·refine cE c ?_;have hdA:=s4A _ _ (s4 _ _ hd3);refine⟨_,Z,.inl ⟨Z,_,aS.of hdA⟩,_,Z,_,Z,_,Z,pw,_,_,_,Z,Z,(t02.trans (aM.step (K:=K) SA)) _ _ hpw,Z,Ik,λpn hpn=>?_⟩;have sB:=ao hpn (.tup [.int (f i),.int (l_ i),am]);have hpB:upd HA pn (.tup [.int (f i),.int (l_ i),am]) pn=some (.tup [.int (f i),.int (l_ i),am]):=ag;generalize upd HA pn (.tup [.int (f i),.int (l_ i),am])=HB at sB hpB ⊢;have hdB:=sB _ _ hdA;have SB:=SA.trans (d7.same sB ⟨_,hdA⟩);refine⟨dl,ys,_,Z,Z,hdB,aR (by omega),?_⟩;have tC:aM K HB (upd HB dl (.lst (ys++[.ref pn]))):=aM.up hdB _;refine⟨_,_,_,_,_,_,_,Z,SB.trans (d7.up hdB),ag,by rw[Pk,hys];rfl,?_,λj hj=>?_⟩
   ·rw[P4,P0];have dn:bv K (upd HB dl (.lst (ys++[.ref pn]))) (.ref pn) (wX ws f l_ i):=by
     unfold wX;rw[ewi];exact .tup (tC _ _ (bu.of hpB)) (.cons (.int _) (.cons (.int _) (.cons (((ram.mono t02).mono (aM.step (K:=K) SB)).mono tC).deep .nil)))
    have dd:bh K (upd HB dl (.lst (ys++[.ref pn]))) ys ((OB i).map (wX ws f l_)):=by
     refine rZ (K:=K) ?_ dp;exact(((aM.same (K:=K) s4).trans (aM.same s4A)).trans (aM.same sB)).trans tC
    exact kl dd (.cons dn .nil)
   ·by_cases z:j<i
    ·exact le j z
    ·have:j=i:=by omega
     subst this;omega
 ·rintro σ H3 ⟨ys,x5,x6,x7,x8,x9,x10,rfl,S3,hd3,hys,dp,le⟩;refine⟨_,Z,dl,_,Z,.inl ⟨aS.of hd3,λpt hpt=>?_⟩⟩;have s4:=ao hpt (.tup ys);refine k f l_ (.ref pt) _ ((sst _ S3).trans s4) win (rL (λj hj=>le j (by omega))) ?_;rw[hxl] at dp;exact .tup (bu.of ag) (rZ (aM.same s4) dp)
theorem JE(T:dP K mg t):bn P w K mg base dm 2 t.a_Q8 t.d_Q8 ["works","left"] (ko K):=by
 refine T.F_Q8.ok uy (λvs H Q E h=>?_) (λcdv A outer s H vs Q E hr h=>?_)
 ·obtain⟨_,_,_,_,rfl,_⟩:=h;rfl
 obtain⟨v,q,ws,ls,rfl,⟨p,xs,rfl,hS,al⟩,hw,hq,hl,k⟩:=h;refine cZ.ok (ah (cn 2 uy.nd (bA ai)) (ah (cf Pe Z (fH (qv 0)) (aF (i:=3) uy.nd Z (by first|exact Pq Z|exact Pp Z)) (ah (jb (i:=4) (N':=["place","turn","work"]) (src:=[none,none,some 3]) uy.nd Z (by first|exact Pq Z|exact Pp Z) Z (by exact(kG Z T.z_enumerate (ae (qv 1) ai af))) (λ_ _ _ _ _=>(by exact(by exact jd (K:=K) (n:=2) (by exact Z) (by exact Z) (by exact bo (by exact aF (i:=0) (by show PQ (["place","turn","work"]:List Pf);decide +kernel) (by exact Z) (by first|exact Pq Z|exact Pp Z)) (by exact bo (by exact aF (i:=1) (by show PQ (["place","turn","work"]:List Pf);decide +kernel) (by exact Z) (by first|exact Pq Z|exact Pp Z)) dI))))) (λ_ _ _ _ _=>(fh (cT (by exact(uI (Az T) (by exact hr.mono (by decide)) (by exact Z) T.m_Q25 T.F_Q25.kp T.b_Q25 (by exact .nil) (by exact kf) (ae (by exact(qv 2)) (ae (by exact(qv 1)) ai af) af)))))) (λ_ _ _ _ _=>(by exact(by exact(qv 0)))) (by exact⟨Z,Z,Z,Z,trivial⟩) Z (by decide +kernel) Z (by decide +kernel) (by exact bR Z ⟨Z,trivial⟩)) (av (ci (eQ O9 Pb Pd bH (qv 2) (ae (l6 (aU ir (aN bb (by rfl) T.z_len Rv (ae (qv 4) ai af)) aj (aV _)) (bS (ae (bV bc (qv 4) aj) (ae (bV bc (qv 4) (qP k8 aj)) ai aA) aA)) zR) ai BZ)))))) (av (aG (qv 2))))) ?_
 nofun
 have hlen:=al.len;refine⟨(by show 0≤sizeLine;exact OZ _),λl h0=>?_⟩;have s0:=ao h0 (.lst []);let Iv1:Nat->L2.St->Hp->Prop:=λi σ H'=>∃(ys:List V) (x4 x5:Option V),σ=[some (.ref p),some (.ref q),some (.ref l),x4,x5]/\aE H H'/\H' l=some (.lst ys)/\cG (t9 K H') ys ((ws.take i).map (bF ls))
 refine⟨_,Z,p,Z,⟨_,aM.same (K:=K) s0 _ _ hS⟩,gy (K:=K) (a:=p) (xs:=xs) Iv1 ⟨[],none,none,Z,s0,ag,.nil⟩ (λi σ H1 _ ⟨_,_,_,_,sm,_⟩=>aM.same sm _ _ hS) ?_ ?_⟩
 ·rintro i x σ H1 hx ⟨ys,x4,x5,rfl,s1,hl1,al1⟩;obtain⟨w,hwi,wv⟩:=al.at hx;have hq1:=aM.same (K:=K) s1 _ _ hq;have nl:(bt ls).length=ls.length:=OD _;refine⟨_,Z,q,Z,⟨_,hq1⟩,λD hD=>dM (oF hq1) (λi=>fk w (ls.getD i 0)) (λi=>V.int i) hD (by omega) (λj y H' hj s' hy R E kR kE=>?_) λH4 s4 h4=>?_⟩
  ·obtain⟨pt,z,rfl,hz,hpt⟩:=hy;obtain⟨z',hz',rfl⟩:∃z',ls[j]?=some z'/\V.int (z':Nat)=z:=by
    unfold bt at hz;rw[OQ] at hz;exact PX.mp hz
   rw[az 0 hz'] at kR kE;refine⟨pt,_,Z,bu.of hpt,Z,_,_,Z,_,_,Z,Z,(gG.set Z).set' Z,?_⟩;refine⟨_,Z,_,Z,x,w,z',Z,wv.mono (aM.same (s1.trans s')),_,Z,?_⟩
   cases c:fk w z' with
   |true=>exact gD ⟨_,Z,kR c _ (aE.refl _)⟩
   |false=>exact fN (kE c _ (aE.refl _))
  rw[nl] at h4
  replace h4:H4 D=some (.lst ((gh ls w).map λi:Nat=>V.int i)):=h4
  have hl4:=s4 _ _ hl1;have ne:D≠l:=λz=>by subst z;rw[hl1] at hD;cases hD
  have hle:=al1.len;rw[OD,P7] at hle;have ewi:(ws.take (i+1)).map (bF ls)=(ws.take i).map (bF ls)++[bF ls w]:=by
   rw[Ps,hwi,P0];rfl
  refine⟨_,Z,.inl ⟨Z,_,aS.of hl4⟩,_,Z,D,_,Z,.inl (aS.of h4),_,_,Z,Z,_,Z,?_⟩
  cases c:gh ls w with
  |nil=>
   rw[c] at h4;refine fN ?_;refine⟨l,_,_,Z,Z,hl4,aR (by omega),?_⟩;refine⟨_,_,_,Z,?_,ag,?_⟩
   ·intro b o e;rw[au (aC e h0)];exact s4 _ _ (s1 _ _ e)
   ·rw[ewi];refine(al1.mono λv d m=>m.mono ((aM.same s4).trans (aM.up hl4 _))).snoc ?_;unfold bF;rw[c];rfl
  |cons a r=>
   rw[c] at h4;refine cK (by show(0:Int)<((Yr (λi:Nat=>V.int i) (a::r)).length:Int);rw[OD,Pu];omega) ?_;have hlast:oB ((a::r).map λi:Nat=>V.int i) (-1)=some (.int ((a::r).getLast (by simp):Nat)):=by
    have e:=TK (show(a::r)≠[] by simp);have e2:(a::r).map (λi:Nat=>V.int i)=(a::r).dropLast.map (λi:Nat=>V.int i)++[V.int ((a::r).getLast (by simp):Nat)]:=by
     conv=>lhs;rw[←e]
     rw[P0];rfl
    rw[e2];exact Bt _ _
   have hfst:oB ((a::r).map λi:Nat=>V.int i) 0=some (.int (a:Nat)):=bG (j:=0) Z;refine⟨_,Z,D,_,_,_,Z,Z,aS.of h4,hfst,_,Z,_,Z,D,_,_,_,Z,Z,aS.of h4,hlast,jB,λpt hpt=>?_⟩;have s5:=ao hpt (.tup [.int a,.int ((a::r).getLast (by simp):Nat)]);have hl5:=s5 _ _ hl4;refine⟨l,_,_,Z,Z,hl5,aR (by omega),?_⟩;refine⟨_,_,_,Z,?_,ag,?_⟩
   ·intro b o e;rw[au (aC e h0)];exact s5 _ _ (s4 _ _ (s1 _ _ e))
   ·rw[ewi];refine(al1.mono λv d m=>m.mono (((aM.same s4).trans (aM.same s5)).trans (aM.up hl5 _))).snoc ?_;unfold bF;rw[c];exact⟨pt,Z,aM.up (K:=K) hl5 _ _ _ (bu.of ag)⟩
 ·rintro σ H1 ⟨ys,x4,x5,rfl,s1,hl1,al1⟩;rw[hlen,Pw] at al1;exact⟨_,Z,k l ys H1 s1 h0 hl1 al1⟩
theorem As(T:dP K mg t):bn P w K mg base dm 1 t.a_Q62 t.d_Q62 ["windows","begin","end"] (B9 K):=by
 refine T.F_Q62.ok E9 (λvs H Q E h=>?_) (λcdv A outer s H vs Q E hr h=>?_)
 ·obtain⟨_,_,_,_,rfl,_⟩:=h;rfl
 obtain⟨l,xs,os,p,rfl,hS,al,hn,k⟩:=h;refine cZ.ok (av (aG (cr (N':=["number","window","begin","end"]) (src:=[none,none,some 1,some 2]) Z (by exact(l4 Z T.z_enumerate (ae (qv 0) ai af))) (λ_ _ _ _ _=>(by exact(by exact jd (K:=K) (n:=2) (by exact Z) (by exact Z) (by exact bo (by exact aF (i:=0) (by show PQ (["number","window","begin","end"]:List Pf);decide +kernel) (by exact Z) (by first|exact Pq Z|exact Pp Z)) (by exact bo (by exact aF (i:=1) (by show PQ (["number","window","begin","end"]:List Pf);decide +kernel) (by exact Z) (by first|exact Pq Z|exact Pp Z)) dI))))) (λ_ _ _ _ _=>(fh (nQ (lZ (aU C2 (by exact(qv 1)) zR (aV _)) (lZ (aU l9 (by exact(qv 2)) (by exact(bI (bQ (K:=K) (by exact Z)) (by exact(qv 1)) aj (by exact λ_ _=>Z))) (aV _)) (pE (aU l9 (by exact(bI (bQ (K:=K) (by exact Z)) (by exact(qv 1)) aj (by exact λ_ _=>Z))) (by exact(qv 3)) (aV _)))))))) (λ_ _ _ _ _=>(by exact(by exact(qv 0)))) (by exact⟨Z,Z,Z,Z,⟨Z,Z,Z,Z,trivial⟩⟩) Z (by decide +kernel) Z (by decide +kernel) (by exact bR Z ⟨Z,⟨Z,trivial⟩⟩)))) ?_;nofun
 have hlen:=al.len;refine⟨_,Z,l,Z,⟨_,hS⟩,λD hD=>dM (uf hS) (λi=>gA p.1 p.2 (os.getD i none)) (λi=>V.int i) hD (by omega) (λi y H' hi s' hx R E kR kE=>?_) λH4 s4 h4=>?_⟩
 ·obtain⟨pt,x,rfl,hx,hpt⟩:=hx;obtain⟨o,ho,ow⟩:=al.at hx;have eo:os.getD i none=o:=az none ho;rw[eo] at kR kE;refine⟨pt,_,Z,bu.of hpt,Z,_,_,Z,_,_,Z,Z,(gG.set Z).set' Z,?_⟩
  cases o with
  |none=>
   obtain rfl:x=.non:=ow;exact⟨_,Z,Z,_,Z,fN (fN (kE Z _ (aE.refl _)))⟩
  |some q=>
   obtain⟨pw,rfl,hw⟩:=ow;have hw':=aM.same (K:=K) s' _ _ hw;refine⟨_,Z,Z,_,Z,gD ?_⟩;refine⟨_,Z,_,Z,pw,_,_,_,Z,Z,hw',Z,_,_,Z,Z,_,Z,?_⟩;by_cases c:p.1≤q.1
   ·refine cK (by omega) ?_;refine⟨_,Z,pw,_,_,_,Z,Z,hw',Z,_,Z,_,_,Z,Z,_,Z,?_⟩;by_cases c':q.2≤p.2
    ·refine cK (by omega) ?_;exact⟨_,Z,kR (by show(decide (p.1≤q.1)&&decide (q.2≤p.2))=true;rw[decide_eq_true c,decide_eq_true c'];rfl) _ (aE.refl _)⟩
    ·refine cE (by omega) ?_;exact kE (by show(decide (p.1≤q.1)&&decide (q.2≤p.2))=false;rw[decide_eq_false c',RF]) _ (aE.refl _)
   ·refine cE (by omega) (fN ?_);exact kE (by show(decide (p.1≤q.1)&&decide (q.2≤p.2))=false;rw[decide_eq_false c,Ri]) _ (aE.refl _)
 ·refine k D H4 s4 hD ?_;rw[h4,hlen];rfl
theorem JI(T:dP K mg t):bn P w K mg base dm 2 t.a_Q2 t.d_Q2 ["windows","amounts","count"] (iG K):=by
 refine T.F_Q2.ok gM (λvs H Q E h=>?_) (λcdv A outer s H vs Q E hr h=>?_)
 ·obtain⟨_,_,_,_,_,_,rfl,_⟩:=h;rfl
 obtain⟨l,a,xs,os,as,n,rfl,hS,al,hn,ha,hlen,hb,n1,n24,k⟩:=h;refine cZ.ok (ah (cn 3 gM.nd (bS (ae aj (ae aj ai aI) aI))) (ah (cn 4 gM.nd (qP k8 aj)) (ah (cn 5 gM.nd aj) (ah (cf Pe Z (ft Z T.z_range (ae (qv 2) ai af)) (aF (i:=6) gM.nd Z (by first|exact Pq Z|exact Pp Z)) (av (cf Pe Z (vV Z T.z_range (ae (aJ gQ (qv 2) aj) (ae (aJ gQ (qv 6) aj) (ae (qP k8 aj) ai ur) aZ) aZ)) (aF (i:=7) gM.nd Z (by first|exact Pq Z|exact Pp Z)) (ah (cn 8 gM.nd (aN (xb Z) (by rfl) T.z_sum boot_sum (ae (cr (N':=["number","amounts"]) (src:=[none,some 1]) Z (by exact(cH (cJ (As T) hr T.m_Q62 T.F_Q62.kp T.b_Q62 (ae (qv 0) (ae (qv 6) (ae (qv 7) ai af) af) af)))) (λ_ _ _ _ _=>(by exact(by exact aF (i:=0) (by show PQ (["number","amounts"]:List Pf);decide +kernel) (by exact Z) (by first|exact Pq Z|exact Pp Z)))) (λ_ _ _ _ _=>dX) (λ_ _ _ _ _=>(by exact(by exact(bI (dF (K:=K) (by exact Z)) (by exact(qv 1)) (by exact(qv 0)) (by exact λ_ _=>Z))))) (by exact⟨Z,Z,Z,Z,trivial⟩) Z (by decide +kernel) Z (by decide +kernel) (by exact bR Z ⟨Z,trivial⟩)) ai eJ))) (ah (cn 9 gM.nd (aJ cU (aJ gQ (qv 7) (qv 6)) aj)) (av (cj (aU ir (aJ gR (qv 8) (qv 5)) (aJ gR (qv 4) (qv 9)) (aV _)) (ah (cn 3 gM.nd (bS (ae (qv 6) (ae (qv 7) ai af) af))) (ah (cn 4 gM.nd (qv 8)) (av (cn 5 gM.nd (qv 9))))) bw))))))) (av (aG (qv 3))))))) ?_
 nofun
 have hxl:=al.len;have LB:=λq=>Dj hb hn q
 generalize hL:dA os (g4 as)=L at LB k;refine⟨jB,λp0 h0=>?_⟩;have s0:=ao h0 (.tup [.int 0,.int 0]);let Iv1:Nat->L2.St->Hp->Prop:=λi σ H'=>∃(vb:Addr) (ld ln:Int) (x7 x8 x9 x10:Option V),σ=[some (.ref l),some (.ref a),some (.int n),some (.ref vb),some (.int ld),some (.int ln),x7,x8,x9,x10]/\aE H H'/\mQ K H' (gl n i n) L vb ld ln
 refine⟨_,Z,_,Z,n,Z,by omega,by omega,fw (lo:=0) (n:=(n:Int).toNat) Iv1 ⟨p0,-1,1,none,none,none,none,Z,s0,.inl ⟨Z,Z,λr hr=>?_⟩⟩ ?_ ?_⟩
 ·unfold gl ik at hr;omega
 ·rintro i σ H1 hi ⟨vb,ld,ln,x7,x8,x9,x10,rfl,s1,best⟩;have hin:i<n:=by omega
  rw[TX];refine⟨_,Z,_,_,Z,Z,_,Z,_,_,Z,Z,_,Z,_,_,Z,⟨by omega,by omega,by omega,by omega⟩,A5 (hi:=(n:Int)-1) (n:=((n:Int)-1-((i:Int)-1)).toNat) (λj σ H'=>∃(vb:Addr) (ld ln:Int) (x8 x9 x10:Option V),σ=[some (.ref l),some (.ref a),some (.int n),some (.ref vb),some (.int ld),some (.int ln),some (.int i),x8,x9,x10]/\aE H H'/\mQ K H' (gl n i (n-j)) L vb ld ln) ⟨vb,ld,ln,x8,x9,x10,Z,s1,best⟩ ?_ ?_⟩
  ·rintro j σ H2 hj ⟨vb,ld,ln,x8,x9,x10,rfl,s2,best⟩;obtain⟨e,he⟩:∃e:Nat,n-j=e+1:=⟨n-j-1,by omega⟩;rw[he] at best;rw[show(n:Int)-1-(j:Int)=(e:Nat) by omega,show n-(j+1)=e by omega];have t2:=aM.same (K:=K) s2;refine⟨_,Z,_,Z,_,Z,l,xs,os,(i,e),Z,s2.seq hS,al.mono (λ_ _ m=>m.mono t2),hn,λD H3 s3 hD h3=>?_⟩;refine⟨D,Z,⟨_,aS.of h3⟩,λE hE=>dM (g5 (aS.of h3)) (λ_=>true) (λm=>V.int (g4 as ((cu os (i,e)).getD m 0))) hE ?_ (λm x H' hm s' hx R E kR kE=>?_) λH4 s4 h4=>?_⟩
   ·unfold bt cu;rw[OD];have:=Pt (λi_1=>gA i e (os.getD i_1 none)) (OB os.length);rw[Pi] at this;exact O7 this (by omega)
   ·unfold bt at hx;rw[OQ] at hx;obtain⟨z,hz,rfl⟩:=PX.mp hx;have q:=kR Z _ (aE.refl _);rw[az 0 hz] at q;have hzl:z<os.length:=by
     have:=OM hz;unfold cu at this;exact ON.mp (OU.mp this).1
    obtain⟨y,hy⟩:∃y,as[z]?=some y:=⟨_,OA (by omega)⟩;rw[show g4 as z=y from az 0 hy] at q;exact⟨gG.set Z,_,Z,_,Z,a,_,_,_,Z,Z,((s2.trans s3).trans s').seq ha,bG (by rw[OQ,hy];rfl),q⟩
   have e4:H4 E=some (.lst (((cu os (i,e)).map (g4 as)).map V.int)):=by
    rw[h4,show(bt (cu os (i,e))).length=(cu os (i,e)).length from OD _,dZ 0 (λk=>V.int (g4 as k)),Qt];rfl
   have s24:=s3.trans s4;have sH:=s2.trans s24;refine⟨E,_,Z,aS.of e4,?_⟩;have eL:((cu os (i,e)).map (g4 as)).sum=L (i,e):=by rw[←hL];rfl
   rw[eL];have lb:=LB (i,e);have elen:(e:Int)-(i:Int)+1=bO (i,e):=Z;refine⟨_,Z,_,Z,_,_,Z,Z,_,_,Z,Z,?_⟩;have lp:1≤bO (i,e)/\bO (i,e)≤24:=by rw[←elen];omega
   have bl:(ld=-1∨(0≤ld/\ld≤3712529797363659169186468921117261837482364434277531982552264807327395690973815529780151756606928400960107528943425763712337056538406767796532469112140080186008009621859965818866174375367174479376680380006400000000000000000000000))/\0<ln/\ln≤24:=by
    rcases best with⟨r1,r2,_⟩ | ⟨q,_,r1,r2,b⟩
    ·exact⟨.inl r1,by omega,by omega⟩
    ·exact⟨.inr (by rw[r1];exact LB q),by rw[r2];exact(show ik n q from b.inn.1).pos,by
      have z:=(show ik n q from b.inn.1);unfold ik at z;rw[r2];unfold bO;omega⟩
   refine⟨_,Z,_,Z,_,_,Z,Z,.inr ⟨by omega,by omega⟩,_,Z,_,Z,_,_,Z,Z,.inr ⟨by omega,by omega⟩,_,_,Z,Z,_,Z,?_⟩;have st:=λr=>sr (n:=n) (b:=i) (e:=e) (by omega) (by omega) r
   by_cases c:ld*bO (i,e)<L (i,e)*ln
   ·refine cK c ?_;refine⟨_,Z,_,Z,jB,λpt hpt=>?_⟩;have s5:=ao hpt (.tup [.int (i:Nat),.int (e:Nat)]);refine⟨_,Z,_,Z,?_⟩;refine⟨pt,L (i,e),bO (i,e),_,_,_,Z,sH.trans s5,.inr ⟨(i,e),bu.of ag,Z,Z,?_⟩⟩;rcases best with⟨_,_,r3⟩ | ⟨q,_,r1,r2,b⟩
    ·exact xj λr=>⟨λh=>((st r).mp h).elim (λz=>absurd z (r3 r)) id,λh=>(st r).mpr (.inr h)⟩
    ·subst r1 r2;exact b.more (n:=n) (λr hr=>hr.1) st c
   ·refine cE c ?_;refine⟨vb,ld,ln,_,_,_,Z,sH,?_⟩;rcases best with⟨r1,r2,r3⟩ | ⟨q,hq,r1,r2,b⟩
    ·exfalso;subst r1 r2;apply c;omega
    ·subst r1 r2;refine .inr ⟨q,aM.same s24 _ _ hq,Z,Z,b.stay st (by omega) (.inl ?_)⟩;have:=b.inn;unfold gl at this;unfold ue;show q.1<i∨q.1=i/\e≤q.2;omega
  ·rintro σ H2 ⟨vb,ld,ln,x8,x9,x10,rfl,s2,best⟩;refine⟨vb,ld,ln,_,_,_,_,Z,s2,best.mono (λ_ _ h=>h) λr=>?_⟩;rw[show n-((n:Int)-1-((i:Int)-1)).toNat=i by omega];exact su r
 ·rintro σ H1 ⟨vb,ld,ln,x7,x8,x9,x10,rfl,s1,best⟩;rw[show(n:Int).toNat=n by omega] at best;refine⟨_,Z,?_⟩;rcases best with⟨_,_,r3⟩ | ⟨q,hq,_,_,b⟩
  ·exact absurd (show gl n n n (0,0) from⟨⟨OC _,by show 0<n;omega⟩,.inl (by show 0<n;omega)⟩) (r3 _)
  ·exact k vb q H1 s1 hq (b.congr vP)
theorem GJ(T:dP K mg t):bn P w K mg base dm 3 t.a_Q37 t.d_Q37 ["works","left"] (qu K):=by
 refine T.F_Q37.ok sI (λvs H Q E h=>?_) (λcdv A outer s H vs Q E hr h=>?_)
 ·obtain⟨_,_,_,_,rfl,_⟩:=h;rfl
 obtain⟨v,q,ws,ls,rfl,⟨p,xs,rfl,hS,al⟩,hw,ok,hq,l1,l24,k⟩:=h;refine cZ.ok (ah (cn 2 sI.nd (cJ (JE T) hr T.m_Q8 T.F_Q8.kp T.b_Q8 (ae (qv 0) (ae (qv 1) ai af) af))) (ah (cn 3 sI.nd (cJ (JI T) hr T.m_Q2 T.F_Q2.kp T.b_Q2 (ae (qv 2) (ae (cJ (G0 T) hr T.m_Q12 T.F_Q12.kp T.b_Q12 (ae (cr (N':=["work"]) (src:=[none]) Z (by exact(fH (qv 0))) (λ_ _ _ _ _=>(by exact(by exact aF (i:=0) (by show PQ (["work"]:List Pf);decide +kernel) (by exact Z) (by first|exact Pq Z|exact Pp Z)))) (λ_ _ _ _ _=>dX) (λ_ _ _ _ _=>(by exact(by exact(bI (bQ (K:=K) (by exact Z)) (by exact(qv 0)) aj (by exact λ_ _=>Z))))) (by exact trivial) Z (by decide +kernel) Z (by decide +kernel) (by exact bR Z trivial)) ai eJ)) (ae (aN bb (by rfl) T.z_len Rv (ae (qv 1) ai af)) ai aP) aP) af))) (av (aG (bS (ae (zQ Ci (qv 1) (uG (bV aB (qv 3) aj)) (uG (aJ cU (bV aB (qv 3) aj) aj))) (ae (bC aX (by rfl) T.z_tuple Qq (ae (cJ (As T) hr T.m_Q62 T.F_Q62.kp T.b_Q62 (ae (qv 2) (ae (bV aB (qv 3) aj) (ae (bV aB (qv 3) aj) ai aA) aA) af)) ai aP)) ai aP) aA)))))) ?_
 nofun
 have nl:(bt ls).length=ls.length:=OD _;refine⟨_,Z,_,Z,.ref p,q,ws,ls,Z,⟨p,xs,Z,hS,al⟩,hw,hq,l24,λl ys H1 s1 hl0 hl1 al1=>?_⟩;have t1:=aM.same (K:=K) s1;refine⟨_,Z,_,Z,p,Z,⟨_,t1 _ _ hS⟩,λD hD=>ia (K:=K) (P:=RV K) (ds:=ws) (f:=λw:Wk=>w.2.2) (λ_ _ _ _ t p=>p.mono t) hD (t1 _ _ hS) al.len (by omega) (λi x d H' hx hd s' R E kR=>?_) λH2 ys2 s2 hD2 al2=>?_⟩
 ·obtain⟨d',hd',pw,xw,rfl,hSw,rx⟩:=al.at hx;rw[hd] at hd'
  cases hd'
  have t':=aM.same (K:=K) (s1.trans s');exact⟨gG.set Z,_,Z,pw,_,_,_,Z,Z,t' _ _ hSw,Z,kR _ _ (aE.refl _) (rx.mono t')⟩
 refine⟨D,ys2,ws,Z,aS.of hD2,al2,hw,ok,λl2 B H3 s3 hl2 b0 bd dv hl3=>?_⟩;have s13:=s2.trans s3;have t13:=aM.same (K:=K) s13;have sH3:=s1.trans s13;refine⟨_,Z,q,_,Z,.inr (aM.same (K:=K) sH3 _ _ hq),?_⟩;refine⟨l,l2,ys,ws.map (bF ls),fb B ws,ls.length,(by rw[nl];rfl),s13.seq (aS.of hl1),al1.mono (λ_ _ m=>m.mono t13),by rw[OD];exact hw,aS.of hl3,by unfold fb;rw[OD,OD],An ok b0 bd,l1,l24,λpp pl H4 s4 hpp bst=>?_⟩;have sec:=bst.inn;have c1:pl.1≤pl.2:=sec.1;have c2:pl.2<ls.length:=sec.2;have sH4:=sH3.trans s4;refine⟨_,Z,_,Z,pp,_,_,_,Z,Z,hpp,Z,_,Z,_,Z,pp,_,_,_,Z,Z,hpp,Z,_,_,Z,Z,_,Z,q,_,Z,aM.same (K:=K) sH4 _ _ hq,λpc H5 s5 hpc=>?_⟩;rw[show(pl.2:Int)+1=((pl.2+1:Nat):Int) by omega,DG (by omega) (by omega)] at hpc;have t5:=aM.same (K:=K) s5;have t45:=aM.same (K:=K) (s13.trans (s4.trans s5));refine⟨_,Z,_,Z,pp,_,_,_,Z,Z,t5 _ _ hpp,Z,_,Z,pp,_,_,_,Z,Z,t5 _ _ hpp,Z,l,ys,ws.map (bF ls),pl,Z,(s13.trans (s4.trans s5)).seq (aS.of hl1),al1.mono (λ_ _ m=>m.mono t45),by rw[OD];exact hw,λE H6 s6 hE hE6=>?_⟩;refine⟨E,_,Z,.inl ⟨aS.of hE6,λpe hpe=>?_⟩⟩;have s7:=ao hpe (.tup (bt (cu (ws.map (bF ls)) pl)));refine⟨jB,λpr hpr=>?_⟩;have s8:=ao hpr (.tup [.ref pc,.ref pe]);refine k (.ref pr) B pl _ ((((sH4.trans s5).trans s6).trans s7).trans s8) b0 bd dv bst ?_;exact⟨pr,pc,pe,Z,bu.of ag,aM.same (K:=K) ((s6.trans s7).trans s8) _ _ hpc,aM.same (K:=K) s8 _ _ (bu.of ag)⟩
theorem GA(T:dP K mg t):bn P w K mg base dm 4 t.a_Q50 t.d_Q50 ["works"] (vJ K):=by
 refine T.F_Q50.ok iO (λvs H Q E h=>?_) (λcdv A outer s H vs Q E hr h=>?_)
 ·obtain⟨_,_,rfl,_⟩:=h;rfl
 obtain⟨v,ws,rfl,⟨p,xs,rfl,hS,al⟩,hw,ok,k⟩:=h;refine cZ.ok (ah (cn 1 iO.nd (bA ai)) (ah (cn 2 iO.nd (bC (rK Z) (by rfl) T.z_tuple Qq (ae (uH Z T.z_range (ae (dJ (v:=.int (24)) Z T.m_TURNS ⟨_,Z⟩) ai af)) ai aP))) (ah (cn 3 iO.nd (aN bb (by rfl) T.z_len Rv (ae (qv 0) ai af))) (ah (gO Pe (aU ir (qv 3) aj (aV _)) (ah (cn 4 iO.nd (cJ (GJ T) hr T.m_Q37 T.F_Q37.kp T.b_Q37 (ae (qv 0) (ae (qv 2) ai af) af))) (ah (ci (eQ O9 Pb Pd bH (qv 1) (ae (qv 4) ai af))) (ah (cn 2 iO.nd (bC aX (by rfl) T.z_tuple Qq (ae (cr (N':=["turn","layer"]) (src:=[none,some 4]) Z (by exact(fH (qv 2))) (λ_ _ _ _ _=>(by exact(by exact aF (i:=0) (by show PQ (["turn","layer"]:List Pf);decide +kernel) (by exact Z) (by first|exact Pq Z|exact Pp Z)))) (λ_ _ _ _ _=>(fh (aU (mW (K:=K) (by exact Z)) (by exact(qv 0)) (by exact(bI (bQ (K:=K) (by exact Z)) (by exact(qv 1)) aj (by exact λ_ _=>Z))) (by with_unfolding_all rfl)))) (λ_ _ _ _ _=>(by exact(by exact(qv 0)))) (by exact⟨Z,Z,Z,Z,trivial⟩) Z (by decide +kernel) Z (by decide +kernel) (by exact bR Z ⟨Z,trivial⟩)) ai eJ))) (av (FW (i:=3) iO.nd Z (by first|exact Pq Z|exact Pp Z) (aN bb (by rfl) T.z_len Rv (ae (bV aB (qv 4) aj) ai aA)) Hm)))))) (av (aG (bC aX (by rfl) T.z_tuple Qq (ae (qv 1) ai af)))))))) ?_
 nofun
 have hlen:=al.len;refine⟨(by show 0≤sizeLine;exact OZ _),λl h0=>?_⟩;have s0:=ao h0 (.lst []);have hl0:upd H l (.lst []) l=some (.lst []):=ag;refine⟨_,Z,λpr hpr=>?_⟩;have s1:=ao hpr (.rng 0 24);refine⟨pr,24,Z,ag,by decide,λq0 hq0=>?_⟩;have s2:=ao hq0 (.tup ((B.upTo 24).map V.int));have hq0':bu K (upd (upd (upd H l (.lst [])) pr (.rng 0 24)) q0 (.tup ((B.upTo 24).map V.int))) q0 (bt (OB 24)):=by
  have e:bt (OB 24)=(B.upTo 24).map V.int:=by unfold bt B.upTo;rw[Qt];rfl
  rw[e];exact bu.of (ag (H:=upd (upd H l (.lst [])) pr (.rng 0 24)) (a:=q0) (o:=.tup ((B.upTo 24).map V.int)))
 have s02:=(s0.trans s1).trans s2;have hl2:=s2 _ _ (s1 _ _ hl0);refine⟨_,Z,p,_,Z,.inr (aM.same (K:=K) s02 _ _ hS),?_⟩;have nf:=C8 ok;let Iv1:Nat->L2.St->Hp->Prop:=λm σ H'=>∃(acc:List (List Nat×List Nat)) (ys:List V) (q:Addr) (ls:List Nat) (x5:Option V),σ=[some (.ref p),some (.ref l),some (.ref q),some (.int (uO ws ls)),x5]/\aE H H'/\H' l=some (.lst ys)/\cG (EL K H') ys acc/\bu K H' q (bt ls)/\ls.Nodup/\(∀t∈ls,t<24)/\ls.length≤24/\acc.length+uO ws ls≤ws.length/\(∀y∈acc,ka ws.length y)/\(∀r,im ws ls r->im ws (OB 24) (acc++r))/\m=uO ws ls
 refine⟨Iv1,⟨_,[],[],q0,OB 24,none,(by rw[nf,hlen];rfl),s02,hl2,.nil,hq0',R3,(λt ht=>ON.mp ht),by decide,(by rw[nf];exact Sd (TZ _)),(λy hy=>by cases hy),(λr h=>h),Z⟩,?_⟩;rintro m σ H1 ⟨acc,ys,q,ls,x5,rfl,sm,hl1,al1,hq,nd,lt,l24,few,lok,con,rfl⟩;refine⟨_,Z,_,_,Z,Z,_,Z,?_⟩;by_cases c:uO ws ls=0
 ·refine cE (by omega) ?_;have ly:=con [] (.nil c);rw[Qr] at ly;refine⟨_,Z,l,_,Z,.inl ⟨aS.of hl1,λpt hpt=>?_⟩⟩;have s5:=ao hpt (.tup ys);exact k (.ref pt) acc _ (sm.trans s5) ⟨pt,ys,Z,bu.of ag,al1.mono λ_ _ m=>m.mono (aM.same s5)⟩ ly lok (by omega)
 ·refine cK (by omega) ?_;refine⟨_,λ_ _ z=>z,?_⟩;have ln1:1≤ls.length:=by
   cases ls with
   |nil=>exact absurd (G3 ws) c
   |cons a r=>exact Tq (OZ _)
  refine⟨_,Z,_,Z,.ref p,q,ws,ls,Z,⟨p,xs,Z,aM.same (K:=K) sm _ _ hS,al.mono λ_ _ m=>m.mono (aM.same sm)⟩,hw,ok,hq,ln1,l24,λx B pl H2 s2 b0 bd dv bst lv=>?_⟩;have it:vt ws ls pl:=Hl ok (bst.scale b0 (by decide) λq=>nG _ λi _=>qj ok dv i) c;have sec:=jp it;have hl2:=s2 _ _ hl1;have hy:=al1.len;have sm2:=sm.trans s2;have lyo:ka ws.length (gs ws ls pl):=AK sec l24 lt;refine⟨_,Z,.inl ⟨Z,_,aS.of hl2⟩,_,Z,l,_,_,Z,Z,hl2,aR (by omega),?_⟩;have t3:aM K H2 (upd H2 l (.lst (ys++[x]))):=aM.up hl2 _;have sm3:aE H (upd H2 l (.lst (ys++[x]))):=λb o e=>by rw[au (aC e h0)];exact sm2 _ _ e
  have hl3:upd H2 l (.lst (ys++[x])) l=some (.lst (ys++[x])):=ag;have al3:cG (EL K (upd H2 l (.lst (ys++[x])))) (ys++[x]) (acc++[gs ws ls pl]):=(al1.mono λ_ _ m=>m.mono ((aM.same s2).trans t3)).snoc (lv.mono t3);have lv3:=lv.mono t3;have hq3:=t3 _ _ (aM.same (K:=K) s2 _ _ hq);generalize upd H2 l (.lst (ys++[x]))=H3 at sm3 hl3 al3 lv3 hq3 ⊢;obtain⟨pL,a,b,rfl,hpL,ha,hb⟩:=lv3;have nl:(bt ls).length=ls.length:=OD _;refine⟨_,Z,q,Z,⟨_,hq3⟩,λD hD=>dM (BR hq3) (λi=>!(dC ls pl).contains (ls.getD i 0)) (λi=>V.int (ls.getD i 0:Nat)) hD (by omega) (λi x H' hi s' hx R E kR kE=>?_) λH4 s4 h4=>?_⟩
  ·unfold bt at hx;rw[OQ] at hx;obtain⟨z,hz,rfl⟩:=PX.mp hx;rw[az 0 hz] at kR kE;have t':=aM.same (K:=K) s';refine⟨gG.set Z,_,Z,_,Z,pL,_,_,_,Z,Z,t' _ _ hpL,Z,a,_,Z,.inr (t' _ _ ha),Z,A6 _,_,Z,?_⟩;have e:Hq (.int (z:Nat)) (bt (gs ws ls pl).1)=(dC ls pl).contains z:=Dq z (dC ls pl)
   cases cz:(dC ls pl).contains z with
   |true=>exact nY (by show(!Hq (.int (z:Nat)) (bt (gs ws ls pl).1))=false;rw[e,cz];rfl) (kE (by rw[cz];rfl) _ (aE.refl _))
   |false=>exact nX (by show(!Hq (.int (z:Nat)) (bt (gs ws ls pl).1))=true;rw[e,cz];rfl) ⟨_,Z,kR (by rw[cz];rfl) _ (aE.refl _)⟩
  rw[nl,eX 0 (λt=>!(dC ls pl).contains t) (λt:Nat=>V.int t)] at h4
  replace h4:H4 D=some (.lst (bt (dE ls pl))):=h4
  refine⟨D,_,Z,.inl ⟨aS.of h4,λqn hqn=>?_⟩⟩;have s5:=ao hqn (.tup (bt (dE ls pl)));have hqn5:bu K _ qn (bt (dE ls pl)):=bu.of (ag (H:=H4) (a:=qn) (o:=.tup (bt (dE ls pl))));have s35:=s4.trans s5;generalize upd H4 qn (.tup (bt (dE ls pl)))=H5 at s35 hqn5 ⊢;have t5:=aM.same (K:=K) s35;have rst:=C7 (ws:=ws) nd sec;have hp:=it.held;have lb:(bt (gs ws ls pl).2).length=(cu (ws.map (bF ls)) pl).length:=OD _;refine⟨_,Z,_,Z,pL,_,_,_,Z,Z,t5 _ _ hpL,Z,b,_,Z,.inr (t5 _ _ hb),_,_,Z,Z,?_⟩;have ew:((uO ws ls:Nat):Int)-((bt (gs ws ls pl).2).length:Int)=((uO ws (dE ls pl):Nat):Int):=by rw[lb];omega
  have rl:(dE ls pl).length≤ls.length:=Pt _ _;refine⟨_,?_,acc++[gs ws ls pl],ys++[.ref pL],qn,dE ls pl,_,(by rw[←ew];rfl),sm3.trans s35,s35 _ _ hl3,al3.mono (λ_ _ m=>m.mono t5),hqn5,Co nd pl,(λt ht=>lt t (OU.mp ht).1),by omega,(by rw[Pk];show acc.length+1+_≤_;omega),(λy hy=>?_),(λr hr=>?_),Z⟩
  ·omega
  ·rcases Pn.mp hy with h|h
   ·exact lok y h
   ·rw[OH.mp h];exact lyo
  ·have:=con _ (im.cons it hr);rw[List.append_assoc];exact this
theorem JH(T:dP K mg t):bn P w K mg base dm 4 t.a_Q3 t.d_Q3 ["works","layer"] (jJ K):=by
 refine T.F_Q3.ok Jc (λvs H Q E h=>?_) (λcdv A outer s H vs Q E hr h=>?_)
 ·obtain⟨_,_,_,_,rfl,_⟩:=h;rfl
 obtain⟨v,x,ws,y,rfl,⟨p,xs,rfl,hS,al⟩,hw,ok,lv,lok,k⟩:=h;refine cZ.ok (av (aG (cJ (Gu T) hr T.m_Q61 T.F_Q61.kp T.b_Q61 (ae (cJ (Gw T) hr T.m_Q58 T.F_Q58.kp T.b_Q58 (ae (cr (N':=["number","works"]) (src:=[none,some 0]) Z (by exact(fH (bI aB (qv 1) aj (λ_ _=>Z)))) (λ_ _ _ _ _=>(by exact(by exact aF (i:=0) (by show PQ (["number","works"]:List Pf);decide +kernel) (by exact Z) (by first|exact Pq Z|exact Pp Z)))) (λ_ _ _ _ _=>dX) (λ_ _ _ _ _=>(by exact(by exact(bI (bQ (K:=K) (by exact Z)) (by exact(bI (bQ (K:=K) (by exact Z)) (by exact(qv 1)) (by exact(qv 0)) (by exact λ_ _=>Z))) aj (by exact λ_ _=>Z))))) (by exact⟨Z,Z,Z,Z,trivial⟩) Z (by decide +kernel) Z (by decide +kernel) (by exact bR Z ⟨Z,trivial⟩)) ai eJ)) (ae (bS (ae (aN bb (by rfl) T.z_len Rv (ae (bI aB (qv 1) aj (λ_ _=>Z)) ai aA)) (ae aj ai aI) aP)) ai dD) aP)))) ?_;nofun
 have hSl:=al.len;obtain⟨pL,a,b,rfl,hpL,ha,hb⟩:=lv;have nb:(bt y.2).length=y.2.length:=OD _;have na:(bt y.1).length=y.1.length:=OD _;have len:=lok.len;refine⟨_,Z,pL,_,_,_,Z,Z,hpL,Z,b,Z,⟨_,hb⟩,λD hD=>ia (K:=K) (P:=RV K) (ds:=y.2) (f:=λi=>(ws.getD i bL).2.2) (λ_ _ _ _ t p=>p.mono t) hD hb nb (by omega) (λi x d H' hx hd s' R E kR=>?_) λH2 ys2 s2 hD2 al2=>?_⟩
 ·have hx':(bt y.2)[i]?=some (V.int (d:Nat)):=by unfold bt;rw[OQ,hd];rfl
  rw[hx] at hx'
  cases hx'
  have hdl:=lok.num d (OM hd);obtain⟨xw,hxw⟩:∃xw,xs[d]?=some xw:=⟨_,OA (by omega)⟩;obtain⟨w,hwd,pw,xa,rfl,hSw,rx⟩:=al.at hxw;rw[az bL hwd] at kR;have t':=aM.same (K:=K) s';exact⟨gG.set Z,_,Z,_,Z,p,_,_,_,Z,Z,t' _ _ hS,bG hxw,pw,_,_,_,Z,Z,t' _ _ hSw,Z,kR _ _ (aE.refl _) (rx.mono t')⟩
 have wf:=HR (n:=ws.length) ok lok;have la:(gZ ws y).length=y.2.length:=OD _;have am:∀r∈gZ ws y,Bq 4834023173650597876544881407704768017555162023798869768948261467874213139288822304401239266415271355416806678311752296500438875701050478901734985823099062742197929195130163826648664551259341770021719244800000000000000000000000 12 r:=λr hr=>by
  obtain⟨i,hi,rfl⟩:=OP.mp hr;have hl:=lok.num i hi;rw[az bL (OA hl)];exact rN (ok _ (O6 hl)).am
 have sq:=((g8 (by decide) am).mono (Qi _) (show 12*(gZ ws y).length≤768 by omega)).wf (n:=800) (by decide) (by decide) (by decide);refine⟨D,ys2,gZ ws y,760,4834023173650597876544881407704768017555162023798869768948261467874213139288822304401239266415271355416806678311752296500438875701050478901734985823099062742197929195130163826648664551259341770021719244800000000000000000000000,Z,.inl (aS.of hD2),DQ al2,λr hr=>⟨wf r hr,(am r hr).dvd⟩,by decide,by decide,by omega,by decide,λv' H3 s3 rv3=>?_⟩;have t23:=aM.same (K:=K) (s2.trans s3);refine⟨_,Z,pL,_,_,_,Z,Z,t23 _ _ hpL,Z,a,_,Z,.inr (t23 _ _ ha),jB,λpt hpt=>?_⟩;rw[na];have s4:=ao hpt (.tup [.int (y.1.length:Int),.int 1]);have pos:=lok.pos;have few:=lok.few;refine⟨v',.ref pt,f8 (gZ ws y),800,y.1.length,Z,rv3.mono (aM.same s4),RV.of ag,sq,pos,few,by omega,λu H5 s5 r5=>?_⟩;exact k u H5 (((s2.trans s3).trans s4).trans s5) r5
theorem JD(T:dP K mg t):bn P w K mg base dm 5 t.a_Q9 t.d_Q9 ["works"] (km K):=by
 refine T.F_Q9.ok qN (λvs H Q E h=>?_) (λcdv A outer s H vs Q E hr h=>?_)
 ·obtain⟨_,_,rfl,_⟩:=h;rfl
 obtain⟨v,ws,rfl,⟨p,xs,rfl,hS,al⟩,hw,ok,k⟩:=h;refine cZ.ok (ah (cn 1 qN.nd (aJ uM (bA (ae (dJ (v:=.ref t.c_NOUGHT) Z T.m_NOUGHT Z) ai af)) (dJ (v:=.int (24)) Z T.m_TURNS ⟨_,Z⟩))) (ah (cf Pe Z (fH (cJ (GA T) hr T.m_Q50 T.F_Q50.kp T.b_Q50 (ae (qv 0) ai af))) (aF (i:=2) qN.nd Z (by first|exact Pq Z|exact Pp Z)) (ah (cn 3 qN.nd (cJ (JH T) hr T.m_Q3 T.F_Q3.kp T.b_Q3 (ae (qv 0) (ae (qv 2) ai af) af))) (av (cf Pe Z (fH (bV aB (qv 2) aj)) (aF (i:=4) qN.nd Z (by first|exact Pq Z|exact Pp Z)) (av (jQ (qv 3) (l5 (qv 1) (qv 4) gJ))))))) (av (aG (bC aX (by rfl) T.z_tuple Qq (ae (qv 1) ai af)))))) ?_
 nofun
 refine⟨BP,λl0 h0=>?_⟩;have s0:=ao h0 (.lst [.ref t.c_NOUGHT]);refine⟨l0,.ref t.c_NOUGHT,24,Z,Z,ag,by decide,λl hl=>?_⟩;have s1:=ao hl (.lst (Pg 24 (.ref t.c_NOUGHT)));have s01:=s0.trans s1;have hln:H l=none:=by
  cases e:H l with
  |none=>rfl
  |some o=>rw[s0 _ _ e] at hl;cases hl
 have hl1:upd (upd H l0 (.lst [.ref t.c_NOUGHT])) l (.lst (Pg 24 (.ref t.c_NOUGHT))) l=some (.lst (Pg 24 (.ref t.c_NOUGHT))):=ag;generalize upd (upd H l0 (.lst [.ref t.c_NOUGHT])) l (.lst (Pg 24 (.ref t.c_NOUGHT)))=H1 at hl1 s01 ⊢;refine⟨_,Z,.ref p,ws,Z,⟨p,xs,Z,aM.same (K:=K) s01 _ _ hS,al.mono λ_ _ m=>m.mono (aM.same s01)⟩,hw,ok,λx lys H2 s2 lv ly lok ll=>?_⟩;obtain⟨pl,xl,rfl,hpl,all⟩:=lv;have hl2:=s2 _ _ hl1;have s02:=s01.trans s2;have wvS:∀H',aE H H'->gj K H' (.ref p) ws:=λH' s=>⟨p,xs,Z,aM.same (K:=K) s _ _ hS,al.mono λ_ _ m=>m.mono (aM.same s)⟩
 have smS:∀H',d7 l H2 H'->aE H H':=λH' S b o e=>S.keep b o (λz=>by subst z;rw[hln] at e;cases e) (s02 _ _ e)
 let Iv1:Nat->L2.St->Hp->Prop:=λi σ H'=>∃(ys:List V) (x3 x4 x5:Option V),σ=[some (.ref p),some (.ref l),x3,x4,x5]/\d7 l H2 H'/\H' l=some (.lst ys)/\cG (RV K H') ys (aQ ws (lys.take i))
 refine⟨pl,Z,⟨_,hpl⟩,gy (K:=K) (a:=pl) (xs:=xl) Iv1 ⟨_,none,none,none,Z,d7.refl ⟨_,hl2⟩,hl2,cG.rep ⟨_,Z,T.q_NOUGHT _⟩ 24⟩ (λi σ H' _ ⟨_,_,_,_,_,S,_⟩=>aM.step (K:=K) S _ _ hpl) ?_ ?_⟩
 ·rintro i x σ H3 hx ⟨ys,x3,x4,x5,rfl,S3,hl3,al3⟩;obtain⟨y,hy,lvy⟩:=all.at hx;have lyo:=lok y (OM hy);have sm3:=smS _ S3;have lv3:=lvy.mono (aM.step (K:=K) S3);refine⟨_,Z,_,Z,.ref p,x,ws,y,Z,wvS _ sm3,hw,ok,lv3,lyo,λsv H4 s4 rv4=>?_⟩;have hl4:=s4 _ _ hl3;have lv4:=lv3.mono (aM.same s4);obtain⟨pL,a,b,rfl,hpL,ha,hb⟩:=lv4;have S4:=S3.trans (d7.same s4 ⟨_,hl3⟩);have al4:=al3.mono λ_ _ m=>m.mono (aM.same s4)
  have ly24:=al4.len;rw[show(aQ ws (lys.take i)).length=24 by unfold aQ;rw[kD];rfl] at ly24;let Iv2:Nat->L2.St->Hp->Prop:=λj σ H'=>∃(zs:List V) (x5:Option V),σ=[some (.ref p),some (.ref l),some (.ref pL),some sv,x5]/\d7 l H4 H'/\H' l=some (.lst zs)/\zs.length=24/\cG (RV K H') zs (ig (cY ws y) (aQ ws (lys.take i)) (y.1.take j))
  refine⟨_,Z,pL,_,_,_,Z,Z,hpL,Z,a,Z,⟨_,ha⟩,gy (K:=K) (a:=a) (xs:=bt y.1) Iv2 ⟨ys,_,Z,d7.refl ⟨_,hl4⟩,hl4,ly24,al4⟩ (λj σ H' _ ⟨_,_,_,S,_⟩=>aM.step (K:=K) S _ _ ha) ?_ ?_⟩
  ·rintro j tv σ H5 ht ⟨zs,x5,rfl,S5,hl5,zl,al5⟩;unfold bt at ht;rw[OQ] at ht;obtain⟨tt,htt,rfl⟩:=PX.mp ht;have lt:=lyo.lt tt (OM htt);refine⟨_,Z,_,Z,_,Z,l,zs,_,tt,Z,Z,hl5,kL (by omega),?_⟩;have t6:aM K H5 (upd H5 l (.lst (zs.set tt sv))):=aM.up hl5 _;refine⟨_,_,Z,S5.trans (d7.up hl5),ag,by rw[QM];exact zl,?_⟩;have e:ig (cY ws y) (aQ ws (lys.take i)) (y.1.take (j+1))=(ig (cY ws y) (aQ ws (lys.take i)) (y.1.take j)).set tt (cY ws y):=by
    unfold ig;rw[Ps,htt,QD];rfl
   rw[e];exact cG.setI (rv4.mono ((aM.step (K:=K) S5).trans t6)) tt (al5.mono λ_ _ m=>m.mono t6)
  ·rintro σ H5 ⟨zs,x5,rfl,S5,hl5,zl,al5⟩;rw[show(bt y.1).length=y.1.length from OD _,Pw] at al5;refine⟨zs,_,_,_,Z,S4.trans S5,hl5,?_⟩;have e:aQ ws (lys.take (i+1))=ig (cY ws y) (aQ ws (lys.take i)) y.1:=by
    unfold aQ;rw[Ps,hy,QD];rfl
   rw[e];exact al5
 ·rintro σ H3 ⟨ys,x3,x4,x5,rfl,S3,hl3,al3⟩;rw[all.len,Pw] at al3;refine⟨_,Z,l,_,Z,.inl ⟨aS.of hl3,λpt hpt=>?_⟩⟩;have s5:=ao hpt (.tup ys);exact k pt ys lys _ ((smS _ S3).trans s5) (bu.of ag) (al3.mono λ_ _ m=>m.mono (aM.same s5)) ly
theorem JG(T:dP K mg t):bn P w K mg base dm 1 t.a_Q4 t.d_Q4 ["works","leanings","waiting"] (jK K):=by
 refine T.F_Q4.ok uz (λvs H Q E h=>?_) (λcdv A outer s H vs Q E hr h=>?_)
 ·obtain⟨_,_,_,_,_,_,_,_,rfl,_⟩:=h;rfl
 obtain⟨v,l,wl,ws,es,rows,L,ls,rfl,⟨p,xs,rfl,hS,al⟩,w8,m0,cl,hwl,lt,ne,l8,rk,k⟩:=h;refine cZ.ok (ah (cn 3 uz.nd (aN (oq Z) (by rfl) T.z_min boot_min (ae (cr (N':=["number","works"]) (src:=[none,some 0]) Z (by exact(cH (qv 2))) (λ_ _ _ _ _=>(by exact(by exact aF (i:=0) (by show PQ (["number","works"]:List Pf);decide +kernel) (by exact Z) (by first|exact Pq Z|exact Pp Z)))) (λ_ _ _ _ _=>dX) (λ_ _ _ _ _=>(by exact(by exact(bI (bQ (K:=K) (by exact Z)) (by exact(bI (bQ (K:=K) (by exact Z)) (by exact(qv 1)) (by exact(qv 0)) (by exact λ_ _=>Z))) aj (by exact λ_ _=>Z))))) (by exact⟨Z,Z,Z,Z,trivial⟩) Z (by decide +kernel) Z (by decide +kernel) (by exact bR Z ⟨Z,trivial⟩)) ai eJ))) (ah (cn 4 uz.nd (cr (N':=["number","earliest","works"]) (src:=[none,some 3,some 0]) Z (by exact(cH (qv 2))) (λ_ _ _ _ _=>(by exact(by exact aF (i:=0) (by show PQ (["number","earliest","works"]:List Pf);decide +kernel) (by exact Z) (by first|exact Pq Z|exact Pp Z)))) (λ_ _ _ _ _=>(fh (aU fR (by exact(bI (bQ (K:=K) (by exact Z)) (by exact(bI (bQ (K:=K) (by exact Z)) (by exact(qv 2)) (by exact(qv 0)) (by exact λ_ _=>Z))) aj (by exact λ_ _=>Z))) (by exact(qv 1)) (aV _)))) (λ_ _ _ _ _=>(by exact(by exact(qv 0)))) (by exact⟨Z,Z,Z,Z,⟨Z,Z,Z,Z,trivial⟩⟩) Z (by decide +kernel) Z (by decide +kernel) (by exact bR Z ⟨Z,⟨Z,trivial⟩⟩))) (ah (zM (i:=5) (N':=["number","like","leanings"]) (y := "number") (src:=[none,some 4,some 1]) uz.nd Z (by first|exact Pq Z|exact Pp Z) Z (by exact(cH (qv 4))) (λ_ _ _ _ _=>(by exact(by exact aF (i:=0) (by show PQ (["number","like","leanings"]:List Pf);decide +kernel) (by exact Z) (by first|exact Pq Z|exact Pp Z)))) (λ_ _ _ _ _=>(fh (e9 (cT (by exact(aN (tT (K:=K) (by exact Z) (by exact Z)) (by exact Z) T.z_any boot_any (ae (by exact(vW (N':=["base","leanings","number"]) (src:=[none,some 2,some 0]) (by exact Z) (by exact Z) (by exact(zO (K:=K) (by exact Z) (by exact(qv 1)))) (by exact λ_ _ _ _ _=>(by exact(by exact aF (i:=0) (by show PQ (["base","leanings","number"]:List Pf);decide +kernel) (by exact Z) (by first|exact Pq Z|exact Pp Z)))) (by exact λ_ _ _ _ _=>dX) (by exact λ_ _ _ _ _=>(by exact(by exact(bI (dF (K:=K) (by exact Z)) (by exact(bI (dF (K:=K) (by exact Z)) (by exact(qv 1)) (by exact(qv 2)) (by exact λ_ _=>Z))) (by exact(qv 0)) (by exact λ_ _=>Z))))) (by exact⟨Z,Z,Z,Z,⟨Z,Z,Z,Z,trivial⟩⟩) (by decide +kernel) (by exact Z) (by decide +kernel) (by exact bR Z ⟨Z,⟨Z,trivial⟩⟩))) ai eJ))))))) (λ_ _ _ _ _=>(by exact(by exact(qv 0)))) (by exact⟨Z,Z,Z,Z,⟨Z,Z,Z,Z,trivial⟩⟩) Z (λ_=>Z) (λ_=>Z) Z (by decide +kernel) (by exact w9 Z ⟨Z,⟨Z,trivial⟩⟩ Z)) (av (aG (bV bc (qv 5) aj)))))) ?_
 nofun
 have lx:xs.length=ws.length:=al.len;have lv:(bt ls).length=ls.length:=OD _;have pos:0<ls.length:=List.length_pos_iff.mpr ne;have at_:∀{H':Hp},aE H H'->∀i,i<ws.length->∃pw x,xs[i]?=some (.ref pw)/\bu K H' pw [.int (ws.getD i bL).1,.int (aT ws i:Nat),x]:=λ{H'} s i hi=>by
  have e:xs[i]?=some (xs[i]'(by omega)):=OA _;obtain⟨w,hw,pw,x,ex,hSw,_⟩:=al.at e;refine⟨pw,x,by rw[e,ex],?_⟩;have g:ws.getD i bL=w:=az bL hw;unfold aT;rw[g];exact aM.same s _ _ hSw
 have nat_:∀{zs:List Nat} {i:Nat} {x:V},(bt zs)[i]?=some x->∃n,zs[i]?=some n/\x=.int (n:Nat):=λ{zs i x} h=>by
  unfold bt at h;rw[OQ] at h;obtain⟨n,hn,rfl⟩:=PX.mp h;exact⟨n,hn,Z⟩
 refine⟨_,Z,wl,Z,⟨_,hwl⟩,λD1 hD1=>dM (g5 hwl) (λ_=>true) (λi=>V.int (aT ws (ls.getD i 0):Nat)) hD1 (by omega) (λi x H' hi sm hx Rk E kR _=>?_) λH1 s1 h1=>?_⟩
 ·obtain⟨n,hn,rfl⟩:=nat_ hx;obtain⟨pw,y,ex,hSw⟩:=at_ sm n (lt n (OM hn));rw[az 0 hn] at kR;exact⟨gG.set Z,_,Z,_,Z,p,_,_,_,Z,Z,aM.same sm _ _ hS,bG ex,pw,_,_,_,Z,Z,hSw,Z,kR Z _ (aE.refl _)⟩
 have e1:((OB (bt ls).length).filter λ_=>true).map (λi=>V.int (aT ws (ls.getD i 0):Nat))=(ls.map λi=>((aT ws i:Nat):Int)).map V.int:=by
  rw[lv,Qt];exact dZ 0 (λn=>V.int (aT ws n:Nat)) ls
 rw[e1] at h1;refine⟨D1,_,Z,aS.of h1,by rw[OD];exact pos,λM hM hle=>?_⟩;have key:∀i,i∈ls->(((aT ws i:Nat):Int)=M↔∀j∈ls,aT ws i≤aT ws j):=λi hi=>by
  constructor
  ·intro e j hj;have:=hle _ (OP.mpr ⟨j,hj,Z⟩);omega
  ·intro h;obtain⟨j,hj,e⟩:=OP.mp hM;have a:=h j hj;have b:=hle _ (OP.mpr ⟨i,hi,Z⟩);omega
 have hw1:aS K H1 wl (bt ls):=s1.seq hwl;refine⟨_,Z,wl,Z,⟨_,hw1⟩,λD2 hD2=>dM (g5 hw1) (λi=>ls.all λj=>decide (aT ws (ls.getD i 0)≤aT ws j)) (λi=>V.int (ls.getD i 0:Nat)) hD2 (by omega) (λi x H' hi sm hx Rk E kR kE=>?_) λH2 s2 h2=>?_⟩
 ·obtain⟨n,hn,rfl⟩:=nat_ hx;have sm':=s1.trans sm;have mn:=OM hn;obtain⟨pw,y,ex,hSw⟩:=at_ sm' n (lt n mn);rw[az 0 hn] at kR kE;refine⟨gG.set Z,_,Z,_,Z,p,_,_,_,Z,Z,aM.same sm' _ _ hS,bG ex,pw,_,_,_,Z,Z,hSw,Z,_,Z,Z,_,Z,?_⟩;by_cases c:((aT ws n:Nat):Int)=M
  ·refine cK (by rw[c]) ⟨_,Z,kR ?_ _ (aE.refl _)⟩;rw[QV];exact λj hj=>decide_eq_true ((key n mn).mp c j hj)
  ·refine cE (λz=>c (by injection z)) (kE ?_ _ (aE.refl _))
   cases q:ls.all λj=>decide (aT ws n≤aT ws j) with
   |false=>rfl
   |true=>
    rw[QV] at q;exact absurd ((key n mn).mpr λj hj=>of_decide_eq_true (q j hj)) c
 have e2:((OB (bt ls).length).filter λi=>ls.all λj=>decide (aT ws (ls.getD i 0)≤aT ws j)).map (λi=>V.int (ls.getD i 0:Nat))=bt (eV ws ls):=by
  rw[lv];exact eX 0 (λn=>ls.all λj=>decide (aT ws n≤aT ws j)) (λn=>V.int (n:Nat)) ls
 rw[e2] at h2;have s12:=s1.trans s2;have lkl:∀i∈eV ws ls,i<ws.length:=λi hi=>lt i (eT.mp hi).1
 have ll:(eV ws ls).length≤ls.length:=Pt _ _;have lk:(bt (eV ws ls)).length=(eV ws ls).length:=OD _;have hl2:aS K H2 D2 (bt (eV ws ls)):=aS.of h2;generalize hlk:eV ws ls=lk_ at h2 hl2 lkl ll lk;refine⟨_,Z,D2,Z,⟨_,hl2⟩,λD3 hD3=>dM (g5 hl2) (λi=>!lk_.any (fS es (lk_.getD i 0))) (λi=>V.int (lk_.getD i 0:Nat)) hD3 (by omega) (λi x H' hi sm hx Rk E kR kE=>?_) λH3 s3 h3=>?_⟩
 ·obtain⟨n,hn,rfl⟩:=nat_ hx;have mn:=OM hn;have nl:=lkl n mn;have sm':=s12.trans sm;have hl3:aS K H' D2 (bt lk_):=sm.seq hl2;have mm:=m0.same sm';rw[az 0 hn] at kR kE;refine⟨gG.set Z,_,Z,D2,Z,⟨_,hl3⟩,λD4 hD4=>dM (g5 hl3) (λ_=>true) (λj=>V.bl (fS es n (lk_.getD j 0))) hD4 (by omega) (λj y H5 hj sm5 hy Rk2 E2 kR2 _=>?_) λH6 s6 h6=>?_⟩
  ·obtain⟨b,hb,rfl⟩:=nat_ hy;have bl:=lkl b (OM hb);have m5:=mm.same sm5;obtain⟨rr,hrr⟩:∃r,rows[n]?=some r:=⟨_,OA (by rw[mm.len];exact nl)⟩;have hrow:=m5.row n rr hrr;rw[az 0 hb] at kR2;have ev:L n b=fS es n b:=by rw[QK,hU];exact cl n b nl bl
   refine⟨gG.set Z,_,Z,_,Z,l,_,_,_,Z,Z,aS.of m5.top,bG (show(rows.map V.ref)[n]?=some (V.ref rr) by rw[OQ,hrr];rfl),_,Z,rr,_,_,_,Z,Z,aS.of hrow,bG (pA bl),?_⟩;rw[ev];exact kR2 Z _ (aE.refl _)
  ·have e6:((OB (bt lk_).length).filter λ_=>true).map (λj=>V.bl (fS es n (lk_.getD j 0)))=(lk_.map (fS es n)).map V.bl:=by
    rw[lk,Qt];exact dZ 0 (λb=>V.bl (fS es n b)) lk_
   rw[e6] at h6;refine⟨D4,_,Z,aS.of h6,_,Z,?_⟩;rw[WO];have ea:lk_.any (id∘fS es n)=lk_.any (fS es n):=Z;rw[ea]
   cases c:lk_.any (fS es n) with
   |false=>exact nX (b:=!false) Z ⟨_,Z,kR (by rw[c];rfl) _ s6⟩
   |true=>exact nY (b:=!true) Z (kE (by rw[c];rfl) _ s6)
 have e3:((OB (bt lk_).length).filter λi=>!lk_.any (fS es (lk_.getD i 0))).map (λi=>V.int (lk_.getD i 0:Nat))=bt (gU ws es ls):=by
  rw[lk];unfold gU;rw[hlk];exact eX 0 (λn=>!lk_.any (fS es n)) (λn=>V.int (n:Nat)) lk_
 rw[e3] at h3;have nx:=jj (ws:=ws) rk ne;refine⟨_,Z,D3,_,_,_,Z,Z,aS.of h3,bG (j:=0) (show(bt (gU ws es ls))[0]?=some (V.int (fJ ws es ls:Nat)) by unfold bt;rw[OQ,nx];rfl),k _ (s12.trans s3)⟩
theorem GI(T:dP K mg t):bn P w K mg base dm 3 t.a_Q38 t.d_Q38 ["works","leans"] (qw K):=by
 refine T.F_Q38.ok lW (λvs H Q E h=>?_) (λcdv A outer s H vs Q E hr h=>?_)
 ·obtain⟨_,_,_,_,rfl,_⟩:=h;rfl
 obtain⟨v,u,ws,es,rfl,ak,k⟩:=h;refine cZ.ok (ah (cn 2 lW.nd (cJ (Es T) hr T.m_Q7 T.F_Q7.kp T.b_Q7 (ae (aN bb (by rfl) T.z_len Rv (ae (qv 0) ai af)) (ae (qv 1) ai af) aP))) (ah (cn 3 lW.nd (bC (tR Z) (by rfl) T.z_list boot_list (ae (uH Z T.z_range (ae (aN bb (by rfl) T.z_len Rv (ae (qv 0) ai af)) ai aP)) ai aP))) (ah (cn 4 lW.nd (bA ai)) (ah (gO Pe (aU ir (aN bb (by rfl) T.z_len Rv (ae (qv 3) ai af)) aj (aV _)) (ah (cn 5 lW.nd (cJ (JG T) hr T.m_Q4 T.F_Q4.kp T.b_Q4 (ae (qv 0) (ae (qv 2) (ae (qv 3) ai af) af) af))) (ah (ci (eQ O9 PySem.F.slot_list_remove PySem.F.type_list_remove Dd (qv 3) (ae (qv 5) ai af))) (av (ci (eQ O9 Pb Pd bH (qv 4) (ae (qv 5) ai af))))))) (av (aG (qv 4))))))) ?_
 nofun
 obtain⟨p,xs,rfl,hS,al⟩:=id ak.wv;have lx:xs.length=ws.length:=al.len;have w8:=ak.w8;refine⟨_,Z,p,_,Z,.inr hS,_,Z,ws.length,u,es,(by rw[←lx];rfl),ak.lv,ak.eok,by omega,λlm rows L H1 s1 m1 c1=>?_⟩;have hS1:=aM.same (K:=K) s1 _ _ hS;refine⟨_,Z,p,_,Z,.inr hS1,_,Z,λpr hpr=>?_⟩;rw[lx];have s2:=ao hpr (.rng 0 ws.length);refine⟨pr,ws.length,Z,ag,by omega,λwl hwl=>?_⟩;have s3:=ao hwl (.lst ((B.upTo ws.length).map V.int));have s23:=s2.trans s3;have hw3:upd (upd H1 pr (.rng 0 ws.length)) wl (.lst ((B.upTo ws.length).map V.int)) wl=some (.lst ((B.upTo ws.length).map V.int)):=ag;have wl0:H1 wl=none:=by
  cases e:H1 wl with
  |none=>rfl
  |some o=>rw[s2 _ _ e] at hwl;cases hwl
 generalize upd (upd H1 pr (.rng 0 ws.length)) wl (.lst ((B.upTo ws.length).map V.int))=H3 at s23 hw3 ⊢;refine⟨(by show 0≤sizeLine;exact OZ _),λlo hlo=>?_⟩;have s4:=ao hlo (.lst []);have nlw:lo≠wl:=λz=>by subst z;rw[hw3] at hlo;cases hlo
 have hw4:=s4 _ _ hw3;have ho4:upd H3 lo (.lst []) lo=some (.lst []):=ag;have s14:=s23.trans s4;have lo0:H1 lo=none:=by
  cases e:H1 lo with
  |none=>rfl
  |some o=>rw[s23 _ _ e] at hlo;cases hlo
 have eup:(B.upTo ws.length).map V.int=bt (b9 ws.length (aH ws es 0)):=by
  show _=bt ((OB ws.length).filter λi=>!([]:List Nat).contains i);have e:(OB ws.length).filter (λi=>!([]:List Nat).contains i)=OB ws.length:=Q1.mpr λi _=>Z
  rw[e];unfold B.upTo bt;rw[Qt];rfl
 rw[eup] at hw4;generalize upd H3 lo (.lst [])=H4 at s14 hw4 ho4 ⊢;have keep:∀H',(∀b o,b≠wl->b≠lo->H4 b=some o->H' b=some o)->aE H1 H':=λH' kp b o e=>kp b o (λz=>by subst z;rw[wl0] at e;cases e) (λz=>by subst z;rw[lo0] at e;cases e) (s14 _ _ e)
 let Iv1:Nat->L2.St->Hp->Prop:=λm σ H'=>∃(i:Nat) (x5:Option V),σ=[some (.ref p),some u,some (.ref lm),some (.ref wl),some (.ref lo),x5]/\(∀b o,b≠wl->b≠lo->H4 b=some o->H' b=some o)/\H' wl=some (.lst (bt (b9 ws.length (aH ws es i))))/\H' lo=some (.lst (bt (aH ws es i)))/\i≤ws.length/\m=ws.length-i
 refine⟨Iv1,⟨_,0,none,Z,λ_ _ _ _ e=>e,hw4,ho4,OZ _,Z⟩,?_⟩;rintro m σ H5 ⟨i,x5,rfl,kp,hw5,ho5,hi,rfl⟩;have oi:=dg (es:=es) ak.rk i hi;have s5:=keep H5 kp;have wl_:=oi.wl;refine⟨_,Z,wl,_,Z,.inl (aS.of hw5),_,_,Z,Z,_,Z,?_⟩;have lnv:(bt (b9 ws.length (aH ws es i))).length=(b9 ws.length (aH ws es i)).length:=OD _;by_cases c:i<ws.length
 ·refine cK (by omega) ⟨_,λ_ _ z=>z,?_⟩;obtain⟨oi1,j,hj,ej⟩:=oi.step ak.rk c;refine⟨_,Z,_,Z,_,Z,.ref p,lm,wl,ws,es,rows,L,b9 ws.length (aH ws es i),Z,⟨p,xs,Z,aM.same s5 _ _ hS1,(al.mono λ_ _ z=>z.mono (aM.same s1)).mono λ_ _ z=>z.mono (aM.same s5)⟩,w8,m1.same s5,c1,aS.of hw5,(λn hn=>(c9.mp hn).1),oi.ne c,by omega,ak.rk,λH6 s6=>?_⟩;refine⟨_,Z,.inl ⟨Z,_,aS.of (s6 _ _ hw5)⟩,_,Z,wl,_,j,_,Z,Z,s6 _ _ hw5,hj,A7 (ui _ _) hj,?_⟩;rw[ej];have ho6:=s6 _ _ ho5;have ho7:upd H6 wl (.lst ((b9 ws.length (aH ws es (i+1))).map λi:Nat=>V.int i)) lo=some (.lst (bt (aH ws es i))):=by rw[au nlw];exact ho6
  refine⟨_,Z,.inl ⟨Z,_,aS.of ho7⟩,_,Z,lo,_,_,Z,Z,ho7,aR (by unfold bt;rw[OD,oi.len];omega),?_⟩;refine⟨_,(by omega),i+1,_,Z,λb o n1 n2 e=>?_,?_,?_,c,Z⟩
  ·rw[au n2,au n1];exact s6 _ _ (kp b o n1 n2 e)
  ·rw[au (R9 nlw),ag];rfl
  ·rw[ag];show some (HO.lst (bt (aH ws es i)++[_]))=some (HO.lst (bt (aH ws es i++[_])));unfold bt;rw[P0];rfl
 ·refine cE (by omega) ?_;have e:i=ws.length:=by omega
  subst e;exact⟨_,Z,k lo H5 (s1.trans s5) (by
   cases e:H lo with
   |none=>rfl
   |some o=>rw[s1 _ _ e] at lo0;cases lo0) ho5⟩
theorem GR(T:dP K mg t):bn P w K mg base dm 4 t.a_Q26 t.d_Q26 ["works","order","left","turn","speed"] (oW K):=by
 refine T.F_Q26.ok jN (λvs H Q E h=>?_) (λcdv A outer s H vs Q E hr h=>?_)
 ·obtain⟨_,_,_,_,_,_,_,_,_,_,rfl,_⟩:=h;rfl
 obtain⟨v,u,o,lf,ws,ord,xs,rs,t_,sp,rfl,⟨p,xw,rfl,hS,al⟩,ho,hlf,nol,alr,lr,okr,hu,asp,olt,o8,k⟩:=h;refine cZ.ok (ah (cn 5 jN.nd (bA ai)) (ah (cn 6 jN.nd (qv 4)) (ah (cf Pe Z (cH (qv 1)) (aF (i:=7) jN.nd Z (by first|exact Pq Z|exact Pp Z)) (ah (cj (e9 (cT (cJ (Az T) hr T.m_Q25 T.F_Q25.kp T.b_Q25 (ae (bV aB (qv 0) (qv 7)) (ae (qv 3) ai af) aA)))) (av qO) bw) (ah (cn 8 jN.nd (cJ (GB T) hr T.m_Q49 T.F_Q49.kp T.b_Q49 (ae (bV bc (qv 2) (qv 7)) (ae (qv 6) ai af) aA))) (av (cj (aU (sW hr) (qv 8) (dJ (v:=.ref t.c_NOUGHT) Z T.m_NOUGHT Z) (aV _)) (ah (ci (eQ O9 Pb Pd bH (qv 5) (ae (bS (ae (qv 7) (ae (qv 8) ai af) af)) ai dD))) (ah (jQ (cJ (sX T) hr T.m_Q56 T.F_Q56.kp T.b_Q56 (ae (bV bc (qv 2) (qv 7)) (ae (qv 8) ai af) aA)) (l5 (qv 2) (qv 7) gJ)) (av (cn 6 jN.nd (cJ (sX T) hr T.m_Q56 T.F_Q56.kp T.b_Q56 (ae (qv 6) (ae (qv 8) ai af) af)))))) bw))))) (av (aG (bC aX (by rfl) T.z_tuple Qq (ae (qv 5) ai af))))))) ?_
 nofun
 refine⟨(by show 0≤sizeLine;exact OZ _),λdl hdl=>?_⟩;have s1:=ao hdl (.lst []);have hd1:upd H dl (.lst []) dl=some (.lst []):=ag;have ndf:dl≠lf:=λz=>by subst z;rw[hlf] at hdl;cases hdl
 have ndo:dl≠o:=λz=>by subst z;rw[ho] at hdl;cases hdl
 have hlf1:=s1 _ _ hlf;have ho1:=s1 _ _ ho;generalize upd H dl (.lst [])=H1 at s1 hd1 hlf1 ho1 ⊢;have l12:∀r∈[dl,lf],∃xs,H1 r=some (.lst xs):=λr m=>by
  rcases OO.mp m with z|z
  ·exact⟨_,by rw[z];exact hd1⟩
  ·exact⟨_,by rw[OH.mp z];exact hlf1⟩
 have t1:=aM.same (K:=K) s1;have onot:o∉[dl,lf]:=λm=>by
  rcases OO.mp m with z|z
  ·exact ndo z.symm
  ·exact nol (OH.mp z)
 have md:dl∈[dl,lf]:=OJ;have ml:lf∈[dl,lf]:=OL _ OJ;let Iv1:Nat->L2.St->Hp->Prop:=λi σ H'=>∃(rv:V) (zs ys:List V) (st:rT) (x8 x9:Option V),σ=[some (.ref p),some (.ref o),some (.ref lf),some (.int (t_:Nat)),some u,some (.ref dl),some rv,x8,x9]/\st=(ord.take i).foldl (bP ws t_) (rs,sp,[])/\Kp [dl,lf] H1 H'/\H' lf=some (.lst zs)/\cG (RV K H') zs st.1/\RV K H' rv st.2.1/\H' dl=some (.lst ys)/\cG (BC K H') ys st.2.2/\vx ws.length st/\st.2.2.length≤i
 refine⟨_,Z,_,Z,o,Z,⟨_,aS.of ho1⟩,eW (K:=K) (a:=o) (xs:=bt ord) Iv1 ⟨u,xs,[],(rs,sp,[]),none,none,Z,Z,Kp.same (aE.refl _) l12,hlf1,alr.mono λ_ _ z=>z.mono t1,hu.mono t1,hd1,.nil,⟨lr,okr,asp,λp hp=>by cases hp⟩,OC _⟩ (λi σ H' _ ⟨_,_,_,_,_,_,_,_,kp,_⟩=>aS.of (kp.keep _ _ onot ho1)) ?_ ?_⟩
 ·rintro i x σ H3 hx ⟨rv,zs,ys,st,x8,x9,rfl,est,kp,hl3,alz,hrv,hd3,aly,dok,few⟩;obtain⟨n,hn,rfl⟩:=Db hx;have nl:=olt n (OM hn);have i8:i<ord.length:=(OV.mp hn).1;have t3:=t1.trans (aM.kp kp);have es:(ord.take (i+1)).foldl (bP ws t_) (rs,sp,[])=bP ws t_ st n:=by rw[Ps,hn,QD,est];rfl
  obtain⟨wv,hwv⟩:∃wv,xw[n]?=some wv:=⟨_,OA (by rw[al.len];exact nl)⟩;obtain⟨w,hw,hwk⟩:=al.at hwv;have ew:ws.getD n bL=w:=az bL hw;obtain⟨zv,hzv⟩:∃zv,zs[n]?=some zv:=⟨_,OA (by rw[alz.len,dok.len];exact nl)⟩;obtain⟨r,hr_,hrz⟩:=alz.at hzv;have er:st.1.getD n (0,1)=r:=az (0,1) hr_;have ar:dU r:=dok.lf r (OM hr_);refine⟨_,Z,_,Z,p,_,_,_,Z,Z,t3 _ _ hS,bG hwv,_,Z,_,w,t_,Z,hwk.mono t3,_,Z,?_⟩;obtain⟨dk1,fw1⟩:=dok.step (ws:=ws) (t:=t_) nl
  cases c:fk w t_ with
  |false=>
   refine nX (b:=!false) Z ?_;have e0:bP ws t_ st n=st:=by
    unfold bP;rw[if_neg];rintro⟨z,_⟩;rw[ew,c] at z
    cases z
   exact⟨rv,zs,ys,st,_,_,Z,(es.trans e0).symm,kp,hl3,alz,hrv,hd3,aly,dok,by omega⟩
  |true=>
   refine nY (b:=!true) Z ?_;refine⟨_,Z,_,Z,lf,_,_,_,Z,Z,aS.of hl3,bG hzv,_,Z,_,rv,r,st.2.1,Z,hrz,hrv,ar,dok.rm,λa ha=>?_⟩;have aa:=iT ar dok.rm;generalize ea:dh r st.2.1=am at ha aa;refine⟨_,Z,dR am,dR (0,1),ha.deep,RV.deep ⟨_,Z,T.q_NOUGHT _⟩,Z,Z,mM _,_,Z,?_⟩;rw[pZ];by_cases cz:am=(0,1)
   ·refine nY (b:=!decide (am=(0,1))) (by rw[decide_eq_true cz];rfl) ?_;have e0:bP ws t_ st n=st:=by
     unfold bP;rw[if_neg];rintro⟨_,z⟩;rw[er,ea] at z;exact z cz
    exact⟨rv,zs,ys,st,_,_,Z,(es.trans e0).symm,kp,hl3,alz,hrv,hd3,aly,dok,by omega⟩
   ·refine nX (b:=!decide (am=(0,1))) (by rw[decide_eq_false cz];rfl) ?_;have e1:bP ws t_ st n=(st.1.set n (aY r am),aY st.2.1 am,st.2.2++[(n,am)]):=by
     unfold bP;rw[if_pos ⟨by rw[ew];exact c,by rw[er,ea];exact cz⟩,er,ea]
    refine⟨_,Z,.inl ⟨Z,_,aS.of hd3⟩,_,Z,_,Z,jB,λpn hpn=>?_⟩;have s4:=ao hpn (.tup [.int (n:Nat),a]);have hp4:upd H3 pn (.tup [.int (n:Nat),a]) pn=some (.tup [.int (n:Nat),a]):=ag;generalize upd H3 pn (.tup [.int (n:Nat),a])=H4 at s4 hp4 ⊢;have hd4:=s4 _ _ hd3;have kp4:=kp.trans (Kp.same s4 kp.ls');refine⟨dl,ys,_,Z,Z,hd4,aR (by rw[aly.len];omega),?_⟩;have kp5:=Kp.up md kp4.ls' (ys++[.ref pn]);have hd5:upd H4 dl (.lst (ys++[.ref pn])) dl=some (.lst (ys++[.ref pn])):=ag;have hl5:upd H4 dl (.lst (ys++[.ref pn])) lf=some (.lst zs):=by rw[au (R9 ndf)];exact s4 _ _ hl3
    generalize upd H4 dl (.lst (ys++[.ref pn]))=H5 at kp5 hd5 hl5 ⊢;have t35:=(aM.same (K:=K) s4).trans (aM.kp kp5);have kq5:=kp4.trans kp5;refine⟨_,Z,_,Z,lf,_,_,_,Z,Z,aS.of hl5,bG hzv,_,Z,_,a,r,am,800,800,Z,hrz.mono t35,ha.mono t35,ar.wf,aa.wf,by decide,λmv H6 s6 hmv=>?_⟩;have hl6:=s6 _ _ hl5;have hd6:=s6 _ _ hd5;have kq6:=kq5.trans (Kp.same s6 kq5.ls');have t36:=t35.trans (aM.same s6);refine⟨_,Z,_,Z,lf,zs,_,n,Z,Z,hl6,kL (by rw[alz.len,dok.len];exact nl),?_⟩;have kp7:=Kp.up ml kq6.ls' (zs.set n mv);have hl7:upd H6 lf (.lst (zs.set n mv)) lf=some (.lst (zs.set n mv)):=ag;have hd7:upd H6 lf (.lst (zs.set n mv)) dl=some (.lst (ys++[.ref pn])):=by rw[au ndf];exact hd6
    generalize upd H6 lf (.lst (zs.set n mv))=H7 at kp7 hl7 hd7 ⊢;have t67:=aM.kp (K:=K) kp7;have t37:=t36.trans t67;have kq7:=kq6.trans kp7;refine⟨_,Z,_,Z,rv,a,st.2.1,am,800,800,Z,hrv.mono t37,ha.mono t37,dok.rm.wf,aa.wf,by decide,λrv2 H8 s8 hrv2=>?_⟩;have t78:=aM.same (K:=K) s8;have t38:=t37.trans t78;have est':bP ws t_ st n=(ord.take (i+1)).foldl (bP ws t_) (rs,sp,[]):=es.symm;rw[e1] at est' dk1 fw1;exact⟨rv2,_,_,_,_,_,Z,est',kq7.trans (Kp.same s8 kq7.ls'),s8 _ _ hl7,cG.setI (hmv.mono (t67.trans t78)) n (alz.mono λ_ _ z=>z.mono t38),hrv2,s8 _ _ hd7,cG.snoc ⟨pn,a,Z,(((aM.kp kp5).trans (aM.same s6)).trans (t67.trans t78)) _ _ (bu.of hp4),ha.mono t38⟩ (aly.mono λ_ _ z=>z.mono t38),dk1,by omega⟩
 ·rintro σ H3 ⟨rv,zs,ys,st,x8,x9,rfl,est,kp,hl3,alz,hrv,hd3,aly,dok,few⟩;rw[show(bt ord).length=ord.length from OD _,Pw] at est;refine⟨_,Z,dl,_,Z,.inl ⟨aS.of hd3,λpt hpt=>?_⟩⟩;have s4:=ao hpt (.tup ys);have t34:=aM.same (K:=K) s4;have e:dr ws ord t_ rs sp=st:=est.symm;refine k (.ref pt) zs _ ⟨λb o' nb e=>s4 _ _ (kp.keep b o' (λm=>?_) (s1 _ _ e)),⟨_,hlf⟩,⟨_,s4 _ _ hl3⟩⟩ (s4 _ _ hl3) (by rw[e];exact alz.mono λ_ _ z=>z.mono t34) (by rw[e];exact⟨pt,ys,Z,bu.of ag,aly.mono λ_ _ z=>z.mono t34⟩);rcases OO.mp m with z|z
  ·rw[z,hdl] at e;cases e
  ·exact nb (OH.mp z)
theorem Gv(T:dP K mg t):bn P w K mg base dm 5 t.a_Q59 t.d_Q59 ["works","leans","speeds"] (yl K):=by
 refine T.F_Q59.ok iM (λvs H Q E h=>?_) (λcdv A outer s H vs Q E hr h=>?_)
 ·obtain⟨_,_,_,_,_,_,rfl,_⟩:=h;rfl
 obtain⟨v,u,s_,ws,es,ss,rfl,ak,⟨q,qs,rfl,hq,alq⟩,l24,oks,nl_,k⟩:=h;refine cZ.ok (ah (cn 3 iM.nd (cJ (GI T) hr T.m_Q38 T.F_Q38.kp T.b_Q38 (ae (qv 0) (ae (qv 1) ai af) af))) (ah (jb (i:=4) (N':=["work"]) (src:=[none]) iM.nd Z (by first|exact Pq Z|exact Pp Z) Z (by exact(fH (qv 0))) (λ_ _ _ _ _=>(by exact(by exact aF (i:=0) (by show PQ (["work"]:List Pf);decide +kernel) (by exact Z) (by first|exact Pq Z|exact Pp Z)))) (λ_ _ _ _ _=>dX) (λ_ _ _ _ _=>(by exact(by exact(bI (bQ (K:=K) (by exact Z)) (by exact(qv 0)) aj (by exact λ_ _=>Z))))) (by exact trivial) Z (by decide +kernel) Z (by decide +kernel) (by exact bR Z trivial)) (ah (cn 5 iM.nd (bA ai)) (ah (cf Pe Z (ft Z T.z_range (ae (dJ (v:=.int (24)) Z T.m_TURNS ⟨_,Z⟩) ai af)) (aF (i:=6) iM.nd Z (by first|exact Pq Z|exact Pp Z)) (av (ci (eQ O9 Pb Pd bH (qv 5) (ae (cJ (GR T) hr T.m_Q26 T.F_Q26.kp T.b_Q26 (ae (qv 0) (ae (qv 3) (ae (qv 4) (ae (qv 6) (ae (bV aB (qv 2) (qv 6)) ai aA) af) af) af) af)) ai aP))))) (ah (cf Pe Z (l4 Z T.z_enumerate (ae (qv 4) ai af)) (iQ Z (bo (aF (i:=7) iM.nd Z (by first|exact Pq Z|exact Pp Z)) (bo (aF (i:=8) iM.nd Z (by first|exact Pq Z|exact Pp Z)) dI))) (av (cj (aU (sW hr) (qv 8) (dJ (v:=.ref t.c_NOUGHT) Z T.m_NOUGHT Z) (aV _)) (av jc) bw))) (av (aG (bC aX (by rfl) T.z_tuple Qq (ae (qv 5) ai af))))))))) ?_
 nofun
 obtain⟨p,xs,rfl,hS,al⟩:=id ak.wv;have w8:=ak.w8;have lx:xs.length=ws.length:=al.len;refine⟨_,Z,_,Z,_,u,ws,es,Z,ak,λo H1 s1 _ ho=>?_⟩;have hS1:=aM.same (K:=K) s1 _ _ hS;refine⟨_,Z,p,Z,⟨_,hS1⟩,λlf hlf0=>ia (K:=K) (P:=RV K) (ds:=ws) (f:=λw=>w.2.2) (λ_ _ _ _ t z=>z.mono t) hlf0 hS1 lx (by omega) (λi x d H' hx hd sm Rk E kR=>?_) λH2 ys s2 hlf al2=>?_⟩
 ·obtain⟨d',hd',pw,xa,rfl,hSw,rx⟩:=al.at hx;rw[hd] at hd'
  cases hd'
  have t':=aM.same (K:=K) (s1.trans sm);exact⟨gG.set Z,_,Z,pw,_,_,_,Z,Z,t' _ _ hSw,Z,kR _ _ (aE.refl _) (rx.mono t')⟩
 have ho2:=s2 _ _ ho;have nol:o≠lf:=λz=>by subst z;rw[ho] at hlf0;cases hlf0
 have lfN:H lf=none:=by
  cases e:H lf with
  |none=>rfl
  |some o'=>rw[s1 _ _ e] at hlf0;cases hlf0
 refine⟨(by show 0≤sizeLine;exact OZ _),λpl hpl=>?_⟩;have s3:=ao hpl (.lst []);have hp3:upd H2 pl (.lst []) pl=some (.lst []):=ag;have npf:pl≠lf:=λz=>by subst z;rw[hlf] at hpl;cases hpl
 have npo:pl≠o:=λz=>by subst z;rw[ho2] at hpl;cases hpl
 have hl3:=s3 _ _ hlf;have ho3:=s3 _ _ ho2;have al3:=al2.mono λ_ _ z=>z.mono (aM.same s3)
 have s03:=(s1.trans s2).trans s3;have plN:H pl=none:=by
  cases e:H pl with
  |none=>rfl
  |some o'=>rw[s2 _ _ (s1 _ _ e)] at hpl;cases hpl
 generalize upd H2 pl (.lst [])=H3 at s03 hp3 hl3 ho3 al3 ⊢;have t03:=aM.same (K:=K) s03;have oi:=dg (es:=es) ak.rk ws.length (OC _);have pk:=eN (ord:=aH ws es ws.length) ak.ok oi.lt oks;have md:pl∈[pl,lf]:=OJ;have l12:∀r∈[pl,lf],∃xs,H3 r=some (.lst xs):=λr m=>by
  rcases OO.mp m with z|z
  ·exact⟨_,by rw[z];exact hp3⟩
  ·exact⟨_,by rw[OH.mp z];exact hl3⟩
 have onot:o∉[pl,lf]:=λm=>by
  rcases OO.mp m with z|z
  ·exact npo z.symm
  ·exact nol (OH.mp z)
 have sk:∀H',Kp [pl,lf] H3 H'->aE H H':=λH' kp b o' e=>kp.keep b o' (λm=>by
  rcases OO.mp m with z|z
  ·rw[z,plN] at e;cases e
  ·rw[OH.mp z,lfN] at e;cases e) (s03 _ _ e)
 have olt:=oi.lt;have olen:=oi.len;generalize hod:aH ws es ws.length=od at ho3 pk olt olen;let Iv1:Nat->L2.St->Hp->Prop:=λi σ H'=>∃(zs ys:List V) (x7 x8 x9:Option V),σ=[some (.ref p),some u,some (.ref q),some (.ref o),some (.ref lf),some (.ref pl),x7,x8,x9]/\Kp [pl,lf] H3 H'/\H' lf=some (.lst zs)/\cG (RV K H') zs (aO ws od ss i).1/\H' pl=some (.lst ys)/\cG (qc K H') ys (aO ws od ss i).2
 refine⟨24,Z,by decide,by decide,fw (lo:=0) (n:=24) Iv1 ⟨_,[],none,none,none,Z,Kp.same (aE.refl _) l12,hl3,al3,hp3,.nil⟩ ?_ ?_⟩
 ·rintro i σ H4 hi ⟨zs,ys,x7,x8,x9,rfl,kp,hl4,alz,hp4,aly⟩;obtain⟨po,pl_⟩:=pk i;have t4:=t03.trans (aM.kp kp);obtain⟨sv,hsv⟩:∃sv,qs[i]?=some sv:=⟨_,OA (by rw[alq.len,l24];exact hi)⟩;obtain⟨sp,hsp,rsp⟩:=alq.at hsv;have esp:ss.getD i (0,1)=sp:=az (0,1) hsp;have z0:(0:Int)+(i:Int)=(i:Int):=TX _;refine⟨_,Z,.inl ⟨Z,_,aS.of hp4⟩,_,Z,_,Z,_,Z,_,Z,_,Z,_,Z,q,_,_,_,Z,Z,t4 _ _ hq,(by rw[z0];exact bG hsv),.ref p,sv,o,lf,ws,od,zs,(aO ws od ss i).1,i,sp,(by rw[z0];rfl),⟨p,xs,Z,t4 _ _ hS,al.mono λ_ _ z=>z.mono t4⟩,kp.keep _ _ onot ho3,hl4,nol,alz,po.len,po.lf,rsp.mono t4,oks _ (OM hsp),olt,by rw[olen];omega,λw ys' H5 S5 hl5 al5 tn5=>?_⟩;have hp5:=S5.keep _ _ npf hp4;have t45:=aM.step (K:=K) S5;have kp5:Kp [pl,lf] H4 H5:=⟨λb o' nb e=>S5.keep b o' (λz=>nb (by rw[z];exact OL _ OJ)) e,kp.ls',λr m=>by
   rcases OO.mp m with z|z
   ·exact⟨_,by rw[z];exact hp5⟩
   ·exact⟨_,by rw[OH.mp z];exact hl5⟩⟩
  have kq5:=kp.trans kp5;refine⟨pl,ys,_,Z,Z,hp5,aR (by rw[aly.len,pl_];omega),?_⟩;have kp6:=Kp.up md kq5.ls' (ys++[w]);have t56:=aM.kp (K:=K) kp6;rw[←esp] at al5 tn5;exact⟨ys',_,_,_,_,Z,kq5.trans kp6,by rw[au (R9 npf)];exact hl5,al5.mono λ_ _ z=>z.mono t56,ag,cG.snoc (tn5.mono t56) (aly.mono λ_ _ z=>(z.mono t45).mono t56)⟩
 rintro σ H4 ⟨zs,ys,x7,x8,x9,rfl,kp,hl4,alz,hp4,aly⟩;obtain⟨po,pl_⟩:=pk 24;have ed:cX ws es ss=aO ws od ss 24:=by unfold cX;rw[hod]
 rw[ed] at k nl_;have s04:=sk H4 kp;generalize aO ws od ss 24=pm at k nl_ alz aly po pl_;have lz:zs.length=ws.length:=by rw[alz.len,po.len]
 let Iv2:Nat->L2.St->Hp->Prop:=λi σ H'=>∃(x8 x9:Option V),σ=[some (.ref p),some u,some (.ref q),some (.ref o),some (.ref lf),some (.ref pl),x7,x8,x9]/\aE H4 H'/\∀j,j<i->pm.1.getD j (0,1)=(0,1)
 refine⟨_,Z,lf,Z,⟨_,aS.of hl4⟩,wO (K:=K) (a:=lf) (xs:=zs) Iv2 ⟨_,_,Z,aE.refl _,λj hj=>absurd hj (Sn _)⟩ (λi σ H' _ ⟨_,_,_,sm,_⟩=>aS.of (sm _ _ hl4)) ?_ ?_⟩
 ·rintro i x pe σ H5 hx ⟨x8,x9,rfl,s5,le⟩ hpe;obtain⟨r,hr_,hrz⟩:=alz.at hx;have er:pm.1.getD i (0,1)=r:=az (0,1) hr_;have il:i<pm.1.length:=(OV.mp hr_).1;have s6:=ao hpe (.tup [.int i,x]);have hpe6:upd H5 pe (.tup [.int i,x]) pe=some (.tup [.int i,x]):=ag;generalize upd H5 pe (.tup [.int i,x])=H6 at s6 hpe6 ⊢;have s46:=s5.trans s6;have t46:=aM.same (K:=K) s46;refine⟨pe,_,Z,bu.of hpe6,Z,_,_,Z,_,_,Z,Z,?_⟩;refine⟨_,Z,dR r,dR (0,1),(hrz.mono t46).deep,RV.deep ⟨_,Z,T.q_NOUGHT _⟩,Z,Z,mM _,_,Z,?_⟩;rw[pZ];by_cases cz:r=(0,1)
  ·refine nY (b:=!decide (r=(0,1))) (by rw[decide_eq_true cz];rfl) ?_;refine⟨_,_,Z,s46,λj hj=>?_⟩;by_cases z:j<i
   ·exact le j z
   ·rw[show j=i by omega,er];exact cz
  ·refine nX (b:=!decide (r=(0,1))) (by rw[decide_eq_false cz];rfl) ?_;exact absurd nl_ (by rw[wE il (by rw[er];exact cz) le];exact λz=>nomatch z)
 ·rintro σ H5 ⟨x8,x9,rfl,s5,le⟩;refine⟨_,Z,pl,_,Z,.inl ⟨aS.of (s5 _ _ hp4),λpt hpt=>?_⟩⟩;have s6:=ao hpt (.tup ys);have t46:=(aM.same (K:=K) s5).trans (aM.same s6);refine k (.ref pt) _ ((s04.trans s5).trans s6) ?_;exact .tup (bu.of ag) ((aly.mono λ_ _ z=>z.mono t46).deep λ_ _ z=>z.deep)
theorem GV(T:dP K mg t):bn P w K mg base dm 6 t.a_Q20 t.d_Q20 ["sheet"] (mS K):=by
 refine T.F_Q20.ok yr (λvs H Q E h=>?_) (λcdv A outer s H vs Q E hr h=>?_)
 ·obtain⟨_,_,_,rfl,_⟩:=h;rfl
 obtain⟨v,ws,es,rfl,sa,nb_,k⟩:=h;refine cZ.ok (ah (cn 1 yr.nd (cJ (GK T) hr T.m_Q36 T.F_Q36.kp T.b_Q36 (ae (qv 0) ai af))) (av (aG (cJ (Gv T) hr T.m_Q59 T.F_Q59.kp T.b_Q59 (ae (qv 1) (ae (bV aB (qv 0) aj) (ae (cJ (JD T) hr T.m_Q9 T.F_Q9.kp T.b_Q9 (ae (qv 1) ai af)) ai aP) aA) af))))) ?_
 nofun
 obtain⟨p,a,b,rfl,hS,wv,lv⟩:=id sa.sv;refine⟨_,Z,.ref p,ws,es,Z,sa.sv,sa.sh,nb_,λf l u H1 s1 win nb d1=>?_⟩;have ok':=EG sa.ok win nb;have wv':=Dy sa.ok win d1;have w8:=sa.w8;have len:=tO ws f l;have t1:=aM.same (K:=K) s1;refine⟨_,Z,_,Z,p,_,_,_,Z,Z,t1 _ _ hS,Z,_,Z,u,ky ws f l,Z,wv',by omega,ok',λq xs lys H2 s2 hq al ly=>?_⟩;have lok:=jX ly (by decide) (λt ht=>ON.mp ht);have ams:=jH ok' (by omega) lok;have ak:LZ K H2 u b (ky ws f l) es:=⟨wv'.mono (aM.same s2),by omega,ok',(lv.mono t1).mono (aM.same s2),by rw[len];exact sa.eok,by rw[len];exact sa.rk,sa.e8⟩;have nl:=wB (es:=es) ok' (by rw[len];exact sa.rk) ly ams;have l24:(aQ (ky ws f l) lys).length=24:=by unfold aQ;rw[kD];rfl
 refine⟨u,b,.ref q,ky ws f l,es,aQ (ky ws f l) lys,Z,ak,⟨q,xs,Z,hq,al⟩,l24,ams,nl,λw H3 s3 dw=>?_⟩;exact k f l lys w H3 ((s1.trans s2).trans s3) win nb ly dw
theorem JF(T:dP K mg t):bn P w K mg base dm 1 t.a_Q5 t.d_Q5 ["works","amounts","turn"] (jI K):=by
 refine T.F_Q5.ok El (λvs H Q E h=>?_) (λcdv A outer s H vs Q E hr h=>?_)
 ·obtain⟨_,_,_,_,_,_,_,rfl,_⟩:=h;rfl
 obtain⟨a,b,xs,ys,kn,rs,t₀,rfl,hA,ak,hB,ar,len,l20,k⟩:=h;refine cZ.ok (ah (jb (i:=3) (N':=["number","amount"]) (src:=[none,none]) El.nd Z (by first|exact Pq Z|exact Pp Z) Z (by exact(l4 Z T.z_enumerate (ae (qv 1) ai af))) (λ_ _ _ _ _=>(by exact(by exact jd (K:=K) (n:=2) (by exact Z) (by exact Z) (by exact bo (by exact aF (i:=0) (by show PQ (["number","amount"]:List Pf);decide +kernel) (by exact Z) (by first|exact Pq Z|exact Pp Z)) (by exact bo (by exact aF (i:=1) (by show PQ (["number","amount"]:List Pf);decide +kernel) (by exact Z) (by first|exact Pq Z|exact Pp Z)) dI))))) (λ_ _ _ _ _=>(fh (aU (C3 (K:=K) (by exact Z) hr) (by exact(qv 1)) (by exact(dJ (v:=.ref t.c_NOUGHT) (by exact Z) T.m_NOUGHT Z)) (aV _)))) (λ_ _ _ _ _=>(by exact(by exact(qv 0)))) (by exact trivial) Z (by decide +kernel) Z (by decide +kernel) (by exact bR Z trivial)) (av (aG (bS (ae (bC aX (by rfl) T.z_tuple Qq (ae (cr (N':=["number","turn","amounts","works"]) (src:=[none,some 2,some 1,some 0]) Z (by exact(cH (qv 3))) (λ_ _ _ _ _=>(by exact(by exact aF (i:=0) (by show PQ (["number","turn","amounts","works"]:List Pf);decide +kernel) (by exact Z) (by first|exact Pq Z|exact Pp Z)))) (λ_ _ _ _ _=>dX) (λ_ _ _ _ _=>(by exact(by exact(bS (ae (by exact(qv 1)) (ae (by exact(bI (bQ (K:=K) (by exact Z)) (by exact(bI (dF (K:=K) (by exact Z)) (by exact(qv 3)) (by exact(qv 0)) (by exact λ_ _=>Z))) aj (by exact λ_ _=>Z))) (ae (by exact(bI (dF (K:=K) (by exact Z)) (by exact(qv 2)) (by exact(qv 0)) (by exact λ_ _=>Z))) ai aA) aA) af))))) (by exact⟨Z,Z,Z,Z,⟨Z,Z,Z,Z,⟨Z,Z,Z,Z,trivial⟩⟩⟩) Z (by decide +kernel) Z (by decide +kernel) (by exact bR Z ⟨Z,⟨Z,⟨Z,trivial⟩⟩⟩)) ai eJ)) (ae (qv 3) ai af) aP))))) ?_
 nofun
 have lx:=ak.len;have ly:=ar.len;refine⟨_,Z,b,Z,⟨_,hB⟩,λD hD=>dM (uf hB) (λi=>decide (rs.getD i (0,1)≠(0,1))) (λi=>V.int (i:Nat)) hD (by omega) (λi x H' hi s' hx R E kR kE=>?_) λH4 s4 h4=>?_⟩
 ·obtain⟨pe,y,rfl,hy,hpe⟩:=hx;obtain⟨r,hr_,hrz⟩:=ar.at hy;have er:rs.getD i (0,1)=r:=az (0,1) hr_;have t':=aM.same (K:=K) s';rw[er] at kR kE;refine⟨pe,_,Z,bu.of hpe,Z,_,_,Z,_,_,Z,Z,(gG.set Z).set' Z,?_⟩;refine⟨_,Z,dR r,dR (0,1),(hrz.mono t').deep,RV.deep ⟨_,Z,T.q_NOUGHT _⟩,Z,Z,mM _,_,Z,?_⟩;rw[pZ];by_cases cz:r=(0,1)
  ·refine nY (b:=!decide (r=(0,1))) (by rw[decide_eq_true cz];rfl) ?_;exact kE (decide_eq_false λz=>z cz) _ (aE.refl _)
  ·refine nX (b:=!decide (r=(0,1))) (by rw[decide_eq_false cz];rfl) ?_;exact⟨_,Z,kR (decide_eq_true cz) _ (aE.refl _)⟩
 have e4:H4 D=some (.lst (bt (ba rs))):=by rw[h4,ly];rfl
 have nl:(bt (ba rs)).length=(ba rs).length:=OD _;have nm:(ba rs).length≤rs.length:=by
  unfold ba;exact O7 (Pt _ _) (by rw[Pi];exact OC _)
 refine⟨_,Z,D,Z,⟨_,aS.of e4⟩,λD2 hD2=>oh (K:=K) (P:=xG K) (ds:=ba rs) (f:=λi=>((t₀,(kn.getD i bL).2.1,rs.getD i (0,1)):Wk)) (λ_ _ _ _ t p=>p.mono t) hD2 (aS.of e4) nl (by omega) (λi x d H' hx hd s' R E kR=>?_) λH5 ys5 s5 hD5 al5=>?_⟩
 ·have hx':(bt (ba rs))[i]?=some (V.int (d:Nat)):=by unfold bt;rw[OQ,hd];rfl
  rw[hx] at hx'
  cases hx'
  have hdl:d<rs.length:=by
   have m:=OM hd;unfold ba at m;exact ON.mp (OU.mp m).1
  obtain⟨xw,hxw⟩:∃xw,xs[d]?=some xw:=⟨_,OA (by omega)⟩;obtain⟨yw,hyw⟩:∃yw,ys[d]?=some yw:=⟨_,OA (by omega)⟩;obtain⟨w,hwd,pw,xa,rfl,hSw,rx⟩:=ak.at hxw;obtain⟨r,hrd,ry⟩:=ar.at hyw;rw[az bL hwd,az (0,1) hrd] at kR;have s0':=s4.trans s';have t':=aM.same (K:=K) s0';refine⟨gG.set Z,_,Z,_,Z,_,Z,a,_,_,_,Z,Z,s0'.seq hA,bG hxw,pw,_,_,_,Z,Z,t' _ _ hSw,Z,_,Z,_,Z,b,_,_,_,Z,Z,s0'.seq hB,bG hyw,Ik,λpn hpn=>?_⟩;exact kR _ _ (ao hpn _) ⟨pn,yw,Z,bu.of ag,(ry.mono t').mono (aM.new hpn _)⟩
 ·refine⟨D2,ys5,Z,.inl ⟨aS.of hD5,λpt hpt=>?_⟩⟩;have z:=ao hpt (.tup ys5);have wz:gj K (upd H5 pt (.tup ys5)) (.ref pt) (cO kn rs t₀):=⟨pt,ys5,Z,bu.of ag,al5.mono λ_ _ q=>q.mono (aM.same z)⟩;refine⟨_,Z,jB,λpp hpp=>?_⟩;have z2:=ao hpp (.tup [.ref pt,.ref D]);exact k pp D (.ref pt) _ (((s4.trans s5).trans z).trans z2) (bu.of ag) (wz.mono (aM.same z2)) (z2 _ _ (z _ _ (s5 _ _ e4)))
theorem GU(T:dP K mg t):bn P w K mg base dm 1 t.a_Q21 t.d_Q21 ["pieces","numbers"] (mR K):=by
 refine T.F_Q21.ok Fp (λvs H Q E h=>?_) (λcdv A outer s H vs Q E hr h=>?_)
 ·obtain⟨_,_,_,_,rfl,_⟩:=h;rfl
 obtain⟨u,l,q,ns,rfl,⟨p,xs,rfl,hS,al⟩,hL,lt,l64,k⟩:=h;refine cZ.ok (av (aG (bC aX (by rfl) T.z_tuple Qq (ae (cr (N':=["piece","numbers"]) (src:=[none,some 1]) Z (by exact(fH (qv 0))) (λ_ _ _ _ _=>(by exact(by exact aF (i:=0) (by show PQ (["piece","numbers"]:List Pf);decide +kernel) (by exact Z) (by first|exact Pq Z|exact Pp Z)))) (λ_ _ _ _ _=>dX) (λ_ _ _ _ _=>(by exact(by exact(bS (ae (by exact(bI (dF (K:=K) (by exact Z)) (by exact(qv 1)) (by exact(bI (bQ (K:=K) (by exact Z)) (by exact(qv 0)) aj (by exact λ_ _=>Z))) (by exact λ_ _=>Z))) (ae (by exact(bI (bQ (K:=K) (by exact Z)) (by exact(qv 0)) aj (by exact λ_ _=>Z))) ai aA) aA))))) (by exact⟨Z,Z,Z,Z,trivial⟩) Z (by decide +kernel) Z (by decide +kernel) (by exact bR Z ⟨Z,trivial⟩)) ai eJ)))) ?_;nofun
 have lx:=al.len;refine⟨_,Z,p,Z,⟨_,hS⟩,λD hD=>ia (K:=K) (P:=BC K) (ds:=q) (f:=λc:Pc=>((ns.getD c.1 0,c.2):Pc)) (λ_ _ _ _ t p=>p.mono t) hD hS lx (by omega) (λi x c H' hx hc s' R E kR=>?_) λH2 ys2 s2 hD2 al2=>?_⟩
 ·obtain⟨c',hc',pc,xa,rfl,hSc,rx⟩:=al.at hx;rw[hc] at hc'
  cases hc'
  have hl:=lt c (OM hc);have t':=aM.same (K:=K) s';refine⟨gG.set Z,_,Z,_,Z,pc,_,_,_,Z,Z,t' _ _ hSc,Z,l,_,_,_,Z,Z,s'.seq hL,bG (v:=V.int ((ns.getD c.1 0:Nat):Int)) (by unfold bt;rw[OQ,OA hl,az 0 (OA hl)];rfl),_,Z,pc,_,_,_,Z,Z,t' _ _ hSc,Z,jB,λpn hpn=>?_⟩;exact kR _ _ (ao hpn _) ⟨pn,xa,Z,bu.of ag,(rx.mono t').mono (aM.new hpn _)⟩
 ·refine⟨D,ys2,Z,.inl ⟨aS.of hD2,λpt hpt=>?_⟩⟩;have z:=ao hpt (.tup ys2);exact k _ _ (s2.trans z) ⟨pt,ys2,Z,bu.of ag,al2.mono λ_ _ q=>q.mono (aM.same z)⟩
theorem AC(T:dP K mg t):bn P w K mg base dm 1 t.a_Q14 t.d_Q14 ["_law_script","_law_k"] (lL K):=by
 refine T.F_Q14.ok Fu (λvs H Q E h=>?_) (λcdv A outer s H vs Q E hr h=>?_)
 ·obtain⟨_,_,_,rfl,_⟩:=h;rfl
 obtain⟨a,ns,k₀,rfl,hS,k⟩:=h;refine cZ.ok (ah (cj (aU jh (qv 1) (aN bb (by rfl) T.z_len Rv (ae (qv 0) ai af)) (aV _)) (av (aG (bV bc (qv 0) (qv 1)))) bw) (av (aG aj))) ?_
 nofun
 have hlm:((ns.map V.int).length:Int)=(ns.length:Int):=by rw[OD]
 refine⟨_,Z,_,Z,a,_,Z,.inl hS,_,_,Z,Z,_,Z,?_⟩;by_cases c:(k₀:Int)<((ns.map V.int).length:Int)
 ·refine cK c ?_;obtain⟨z,hz⟩:=Er (ns:=ns) (r:=(k₀:Int)) (by omega) (by omega);exact⟨_,Z,_,Z,a,_,_,_,Z,Z,hS,hz,k z⟩
 ·exact cE c (k 0)
theorem GQ(T:dP K mg t):bn P w K mg base dm 1 t.a_Q27 t.d_Q27 ["_law_cell","_law_many"] (oS K):=by
 refine T.F_Q27.ok gL (λvs H Q E h=>?_) (λcdv A outer s H vs Q E hr h=>?_)
 ·obtain⟨_,_,rfl,_⟩:=h;rfl
 obtain⟨c,m,rfl,m0,m1,k⟩:=h;refine cZ.ok (ah (cn 2 gL.nd (bA ai)) (ah (cn 3 gL.nd aj) (ah (cj (aU Aq (qv 0) (aJ Gq aj aj) (aV _)) (av (cn 3 gL.nd (qv 0))) bw) (ah (cn 4 gL.nd (aJ cU (aJ eG (qv 0) aj) aj)) (ah (cf Pe Z (ft Z T.z_range (ae (qv 1) ai af)) (aF (i:=5) gL.nd Z (by first|exact Pq Z|exact Pp Z)) (ah (cn 4 gL.nd (aJ eG (aJ cU (aJ cU (aJ gR (qv 4) (qv 4)) (aJ gR aj (qv 4))) (aJ gR aj (qv 5))) aj)) (av (cj (aU ir (qv 3) aj (aV _)) (ah (ci (eQ O9 Pb Pd bH (qv 2) (ae (aJ eG (qv 3) aj) ai aZ))) (av (cn 3 gL.nd (aJ uN (qv 3) aj)))) (av (ci (eQ O9 Pb Pd bH (qv 2) (ae (aJ uN (aJ eG (aJ cU (aJ gR (qv 4) aj) (aJ gR aj (qv 5))) aj) aj) ai aZ)))))))) (av (aG (qv 2)))))))) ?_
 nofun
 refine⟨(by show 0≤sizeLine;exact OZ _),λl h0=>?_⟩;have s0:=ao h0 (.lst []);have q0:=Q4 c (show(2147483629:Int)≠0 by decide);have q1:=Re c (show(0:Int)<2147483629 by decide);refine⟨_,Z,_,_,Z,Z,⟨by decide,by decide,by decide⟩,_,_,Z,Z,_,Z,Hk (λ_=>?_) (λ_=>?_)⟩
 ·refine⟨_,Z,?_⟩;refine⟨_,Z,_,_,Z,Z,(by show(0:Int)<_;decide),_,_,Z,Z,?_⟩;refine⟨_,Z,m,Z,by omega,by omega,fw (lo:=0) (n:=(m:Int).toNat) (λi σ H'=>∃(ns:List Int) (num mx:Int) (x6:Option V),σ=[some (.int c),some (.int m),some (.ref l),some (.int num),some (.int mx),x6]/\aE H H'/\H' l=some (.lst (ns.map V.int))/\ns.length=i/\0≤mx/\mx<2147540000) ⟨[],c,_,none,Z,s0,ag,Z,by omega,by omega⟩ ?_ ?_⟩
  ·rintro i σ H1 hi ⟨ns,num,mx,x6,rfl,s1,hl1,hn,x0,x1⟩;refine⟨_,Z,_,Z,_,_,Z,Z,.inl ⟨by omega,by omega⟩,_,Z,_,_,Z,Z,.inl ⟨by decide,by decide⟩,_,_,Z,Z,_,Z,_,_,Z,Z,.inl ⟨by decide,by decide⟩,_,_,Z,Z,_,_,Z,Z,(by show(0:Int)<_;decide),?_⟩;have y0:=Q4 (mx*mx+48271*mx+7*(0+(i:Int))) (show(2147483647:Int)≠0 by decide);have y1:=Re (mx*mx+48271*mx+7*(0+(i:Int))) (show(0:Int)<2147483647 by decide);have fin:∀(z:Int),∃ns':List Int,upd H1 l (.lst (ns.map V.int++[.int z])) l=some (.lst (ns'.map V.int))/\ns'.length=i+1:=λz=>⟨ns++[z],by rw[ag,P0];rfl,by rw[Pk,hn];rfl⟩
   have sm:∀o,aE H (upd H1 l o):=λo b u e=>by rw[au (aC e h0)];exact s1 _ _ e
   refine⟨_,Z,_,_,Z,Z,_,Z,Hk (λ_=>?_) (λ_=>?_)⟩
   ·refine⟨_,Z,.inl ⟨Z,_,aS.of hl1⟩,_,Z,_,_,Z,Z,(by show(0:Int)<_;decide),l,_,_,Z,Z,hl1,aR (by rw[OD];omega),?_⟩;refine⟨_,Z,_,_,Z,Z,⟨by decide,by decide⟩,?_⟩;obtain⟨ns',e,el⟩:=fin (num%720720);exact⟨ns',_,_,_,Z,sm _,e,el,y0,by omega⟩
   ·refine⟨_,Z,.inl ⟨Z,_,aS.of hl1⟩,_,Z,_,_,Z,Z,.inr ⟨by decide,by decide⟩,_,Z,_,_,Z,Z,.inl ⟨by decide,by decide⟩,_,_,Z,Z,_,_,Z,Z,(by show(0:Int)<_;decide),_,_,Z,Z,⟨by decide,by decide⟩,l,_,_,Z,Z,hl1,aR (by rw[OD];omega),?_⟩;obtain⟨ns',e,el⟩:=fin (((mx*mx+48271*mx+7*(0+(i:Int)))%2147483647*69621+13*(0+(i:Int)))%2147483629/3);exact⟨ns',_,_,_,Z,sm _,e,el,y0,by omega⟩
  ·rintro σ H1 ⟨ns,num,mx,x6,rfl,s1,hl1,hn,x0,x1⟩;exact⟨_,Z,k l ns H1 s1 h0 hl1 (by rw[hn];omega)⟩
 ·refine⟨_,Z,_,_,Z,Z,(by show(0:Int)<_;decide),_,_,Z,Z,?_⟩;refine⟨_,Z,m,Z,by omega,by omega,fw (lo:=0) (n:=(m:Int).toNat) (λi σ H'=>∃(ns:List Int) (num mx:Int) (x6:Option V),σ=[some (.int c),some (.int m),some (.ref l),some (.int num),some (.int mx),x6]/\aE H H'/\H' l=some (.lst (ns.map V.int))/\ns.length=i/\0≤mx/\mx<2147540000) ⟨[],0,_,none,Z,s0,ag,Z,by omega,by omega⟩ ?_ ?_⟩
  ·rintro i σ H1 hi ⟨ns,num,mx,x6,rfl,s1,hl1,hn,x0,x1⟩;refine⟨_,Z,_,Z,_,_,Z,Z,.inl ⟨by omega,by omega⟩,_,Z,_,_,Z,Z,.inl ⟨by decide,by decide⟩,_,_,Z,Z,_,Z,_,_,Z,Z,.inl ⟨by decide,by decide⟩,_,_,Z,Z,_,_,Z,Z,(by show(0:Int)<_;decide),?_⟩;have y0:=Q4 (mx*mx+48271*mx+7*(0+(i:Int))) (show(2147483647:Int)≠0 by decide);have y1:=Re (mx*mx+48271*mx+7*(0+(i:Int))) (show(0:Int)<2147483647 by decide);have fin:∀(z:Int),∃ns':List Int,upd H1 l (.lst (ns.map V.int++[.int z])) l=some (.lst (ns'.map V.int))/\ns'.length=i+1:=λz=>⟨ns++[z],by rw[ag,P0];rfl,by rw[Pk,hn];rfl⟩
   have sm:∀o,aE H (upd H1 l o):=λo b u e=>by rw[au (aC e h0)];exact s1 _ _ e
   refine⟨_,Z,_,_,Z,Z,_,Z,Hk (λ_=>?_) (λ_=>?_)⟩
   ·refine⟨_,Z,.inl ⟨Z,_,aS.of hl1⟩,_,Z,_,_,Z,Z,(by show(0:Int)<_;decide),l,_,_,Z,Z,hl1,aR (by rw[OD];omega),?_⟩;refine⟨_,Z,_,_,Z,Z,⟨by decide,by decide⟩,?_⟩;obtain⟨ns',e,el⟩:=fin (num%720720);exact⟨ns',_,_,_,Z,sm _,e,el,y0,by omega⟩
   ·refine⟨_,Z,.inl ⟨Z,_,aS.of hl1⟩,_,Z,_,_,Z,Z,.inr ⟨by decide,by decide⟩,_,Z,_,_,Z,Z,.inl ⟨by decide,by decide⟩,_,_,Z,Z,_,_,Z,Z,(by show(0:Int)<_;decide),_,_,Z,Z,⟨by decide,by decide⟩,l,_,_,Z,Z,hl1,aR (by rw[OD];omega),?_⟩;obtain⟨ns',e,el⟩:=fin (((mx*mx+48271*mx+7*(0+(i:Int)))%2147483647*69621+13*(0+(i:Int)))%2147483629/3);exact⟨ns',_,_,_,Z,sm _,e,el,y0,by omega⟩
  ·rintro σ H1 ⟨ns,num,mx,x6,rfl,s1,hl1,hn,x0,x1⟩;exact⟨_,Z,k l ns H1 s1 h0 hl1 (by rw[hn];omega)⟩
theorem iS(T:dP K mg t):bn P w K mg base dm 1 t.a_Q39 t.d_Q39 ["_law_tape","_law_many"] (qx K):=by
 refine T.F_Q39.ok Fi (λvs H Q E h=>?_) (λcdv A outer s H vs Q E hr h=>?_)
 ·obtain⟨_,_,_,rfl,_⟩:=h;rfl
 obtain⟨t₁,l,m,rfl,tp,hm0,hm1,k⟩:=h;refine cZ.ok (ah (jQ (aJ cU (bV bc (qv 0) aj) aj) (l5 (qv 0) aj gJ)) (av (aG (aJ eG (bV bc (bV bc (qv 0) aj) (aJ eG (aJ gQ (bV bc (qv 0) aj) aj) (aN bb (by rfl) T.z_len Rv (ae (bV bc (qv 0) aj) ai aA)))) (qv 1))))) ?_
 nofun
 obtain⟨ns,p,ht,hl,nl,n0,n1⟩:=tp.ex;refine⟨_,Z,t₁,_,_,_,Z,Z,aS.of ht,Z,_,_,Z,Z,_,Z,t₁,_,_,_,Z,Z,ht,Z,?_⟩;have hl':∀o,upd H t₁ o l=some (.lst (ns.map V.int)):=λo=>by rw[au nl];exact hl
 have hlm:((ns.map V.int).length:Int)=(ns.length:Int):=by rw[OD]
 obtain⟨z,hz⟩:=Er (ns:=ns) (r:=(p+1-1)%((ns.map V.int).length:Int)) (Q4 _ (by omega)) (by have:=Re (p+1-1) (show(0:Int)<((ns.map V.int).length:Int) by omega);omega);refine⟨_,Z,t₁,_,_,_,Z,Z,aS.of ag,Z,_,Z,t₁,_,_,_,Z,Z,aS.of ag,Z,_,_,Z,Z,_,Z,t₁,_,_,_,Z,Z,aS.of ag,Z,l,_,Z,.inl (aS.of (hl' _)),_,_,Z,Z,(by omega),l,_,_,_,Z,Z,aS.of (hl' _),hz,_,Z,_,_,Z,Z,hm0,?_⟩;exact k _ _ (Q4 _ (by omega)) (Re _ hm0) ⟨ns,_,ag,hl' _,nl,n0,n1⟩
theorem pM(T:dP K mg t):bn P w K mg base dm 1 t.a_Q40 t.d_Q40 ["_law_top","_law_bottom"] (qC K):=by
 refine T.F_Q40.ok sG (λvs H Q E h=>?_) (λcdv A outer s H vs Q E hr h=>?_)
 ·obtain⟨_,_,rfl,_⟩:=h;rfl
 obtain⟨a,b,rfl,hb,hz,k⟩:=h;refine cZ.ok (ah (zN (i:=2) (j:=3) Z sG.nd Z Z (by decide) Z Z (ae (aN mO (by rfl) T.z_abs boot_abs (ae (qv 0) ai af)) (ae (qv 1) ai af) aP) Z) (ah (gO Pe (aU ir (qv 3) aj (aV _)) (av (zN (i:=2) (j:=3) Z sG.nd Z Z (by decide) Z Z (ae (qv 3) (ae (aJ eG (qv 2) (qv 3)) ai aZ) af) Z))) (av (aG (bS (ae (aJ dN (qv 0) (qv 2)) (ae (aJ dN (qv 1) (qv 2)) ai aZ) aZ)))))) ?_
 nofun
 have gp:=b6 (a:=a) hb;have gb:=mH (a:=a) hb hz;refine⟨_,Z,_,Z,_,Z,_,_,Z,?_⟩;rw[tW];refine⟨λm σ H'=>∃(x y:Int),σ=[some (.int a),some (.int b),some (.int x),some (.int y)]/\H'=H/\0≤x/\0≤y/\O0 x y=O0 a b/\m=y.toNat,⟨_,_,_,Z,Z,by omega,by omega,(by simp[O0]),Z⟩,?_⟩;rintro m σ H' ⟨x,y,rfl,rfl,hx,hy,hg,rfl⟩;refine⟨_,Z,_,_,Z,Z,_,Z,?_⟩;by_cases c:y=0
 ·subst c;refine cE (by decide) ?_;have e:(x:Int)=(O0 x 0:Nat):=by simp[O0];omega
  rw[hg] at e;subst e;exact⟨_,Z,_,Z,_,_,Z,Z,⟨gp,gb⟩,_,Z,_,Z,_,_,Z,Z,⟨gp,gb⟩,jB,λp hp=>k p hp⟩
 ·refine cK (by omega) ?_;refine⟨_,λ_ _ z=>z,?_⟩;refine⟨_,Z,_,Z,_,Z,_,_,Z,Z,(by omega),_,_,Z,?_⟩;refine⟨_,?_,y,x%y,Z,Z,hy,Q4 _ c,?_,Z⟩
  ·have:=Re x (show 0<y by omega);have:=Q4 x c;omega
  ·rw[rh hx (by omega),hg]
theorem GH(T:dP K mg t):bn P w K mg base dm 2 t.a_Q41 t.d_Q41 ["_law_one","_law_other"] (qz K):=by
 refine T.F_Q41.ok Fh (λvs H Q E h=>?_) (λcdv A outer s H vs Q E hr h=>?_)
 ·obtain⟨_,_,_,_,_,_,rfl,_⟩:=h;rfl
 obtain⟨v,w,r,q,n,m,rfl,hv,hw,wr,wq,hz,k⟩:=h;refine cZ.ok (av (aG (cJ (pM T) hr T.m_Q40 T.F_Q40.kp T.b_Q40 (ae (aJ cU (aJ b7 (bV aB (qv 0) aj) (bV aB (qv 1) aj)) (aJ b7 (bV aB (qv 1) aj) (bV aB (qv 0) aj))) (ae (aJ b7 (bV aB (qv 0) aj) (bV aB (qv 1) aj)) ai aZ) aZ)))) ?_;nofun
 obtain⟨p,rfl,hv⟩:=hv;obtain⟨p',rfl,hw⟩:=hw;have c1:=bJ wr.top (show n≤4000 by omega);have c2:=bJ wr.bot (show n≤4000 by omega);have c3:=bJ wq.top (show m≤4000 by omega);have c4:=bJ wq.bot (show m≤4000 by omega);refine⟨_,Z,p,_,_,_,Z,Z,hv,Z,_,Z,p',_,_,_,Z,Z,hw,Z,_,_,Z,Z,⟨c1,c4⟩,_,Z,p',_,_,_,Z,Z,hw,Z,_,Z,p,_,_,_,Z,Z,hv,Z,_,_,Z,Z,⟨c3,c2⟩,_,_,Z,Z,_,Z,p,_,_,_,Z,Z,hv,Z,_,Z,p',_,_,_,Z,Z,hw,Z,_,_,Z,Z,⟨c2,c4⟩,_,_,Z,Qf wr.pos wq.pos,bJ (sZ wr.bot wq.bot) (by omega),k⟩
theorem Ay(T:dP K mg t):bn P w K mg base dm 2 t.a_Q28 t.d_Q28 ["_law_one","_law_other"] (oQ K):=by
 refine T.F_Q28.ok Fm (λvs H Q E h=>?_) (λcdv A outer s H vs Q E hr h=>?_)
 ·obtain⟨_,_,_,_,_,_,rfl,_⟩:=h;rfl
 obtain⟨v,w,r,q,n,m,rfl,hv,hw,wr,wq,hz,k⟩:=h;refine cZ.ok (av (aG (cJ (pM T) hr T.m_Q40 T.F_Q40.kp T.b_Q40 (ae (aJ gQ (aJ b7 (bV aB (qv 0) aj) (bV aB (qv 1) aj)) (aJ b7 (bV aB (qv 1) aj) (bV aB (qv 0) aj))) (ae (aJ b7 (bV aB (qv 0) aj) (bV aB (qv 1) aj)) ai aZ) aZ)))) ?_;nofun
 obtain⟨p,rfl,hv⟩:=hv;obtain⟨p',rfl,hw⟩:=hw;have c1:=bJ wr.top (show n≤4000 by omega);have c2:=bJ wr.bot (show n≤4000 by omega);have c3:=bJ wq.top (show m≤4000 by omega);have c4:=bJ wq.bot (show m≤4000 by omega);refine⟨_,Z,p,_,_,_,Z,Z,hv,Z,_,Z,p',_,_,_,Z,Z,hw,Z,_,_,Z,Z,⟨c1,c4⟩,_,Z,p',_,_,_,Z,Z,hw,Z,_,Z,p,_,_,_,Z,Z,hv,Z,_,_,Z,Z,⟨c3,c2⟩,_,_,Z,Z,_,Z,p,_,_,_,Z,Z,hv,Z,_,Z,p',_,_,_,Z,Z,hw,Z,_,_,Z,Z,⟨c2,c4⟩,_,_,Z,Qf wr.pos wq.pos,bJ (sZ wr.bot wq.bot) (by omega),k⟩
theorem Gz(T:dP K mg t):bn P w K mg base dm 2 t.a_Q51 t.d_Q51 ["_law_one","_law_other"] (vK K):=by
 refine T.F_Q51.ok Fe (λvs H Q E h=>?_) (λcdv A outer s H vs Q E hr h=>?_)
 ·obtain⟨_,_,_,_,rfl,_⟩:=h;rfl
 obtain⟨v,w,r,z,rfl,hv,hw,wr,z0,z24,k⟩:=h;refine cZ.ok (av (aG (cJ (pM T) hr T.m_Q40 T.F_Q40.kp T.b_Q40 (ae (aJ b7 (bV aB (qv 0) aj) (bV aB (qv 1) aj)) (ae (aJ b7 (bV aB (qv 0) aj) (bV aB (qv 1) aj)) ai aZ) aZ)))) ?_;nofun
 obtain⟨p,rfl,hv⟩:=hv;obtain⟨p',rfl,hw⟩:=hw;have c1:=bJ wr.top (show 800≤4000 by omega);have c2:=bJ wr.bot (show 800≤4000 by omega);have c3:z.natAbs<2^4000:=PN (show z.natAbs≤24 by omega) (by decide);have c4:(1:Int).natAbs<2^4000:=by decide
 have z5:z.natAbs<2^5:=PN (show z.natAbs≤24 by omega) (by decide);exact⟨_,Z,p,_,_,_,Z,Z,hv,Z,_,Z,p',_,_,_,Z,Z,hw,Z,_,_,Z,Z,⟨c1,c4⟩,_,Z,p,_,_,_,Z,Z,hv,Z,_,Z,p',_,_,_,Z,Z,hw,Z,_,_,Z,Z,⟨c2,c3⟩,_,_,Z,Qf wr.pos z0,bJ (sZ wr.bot z5) (by omega),k⟩
theorem AB(T:dP K mg t):bn P w K mg base dm 1 t.a_Q15 t.d_Q15 ["_law_one","_law_other"] (lJ K):=by
 refine T.F_Q15.ok Ft (λvs H Q E h=>?_) (λcdv A outer s H vs Q E hr h=>?_)
 ·obtain⟨_,_,_,_,_,_,rfl,_⟩:=h;rfl
 obtain⟨v,w,r,q,n,m,rfl,hv,hw,wr,wq,hz,k⟩:=h;refine cZ.ok (av (aG (fj jh (aJ b7 (bV aB (qv 0) aj) (bV aB (qv 1) aj)) (aJ b7 (bV aB (qv 1) aj) (bV aB (qv 0) aj)) (aV _)))) ?_;nofun
 obtain⟨p,rfl,hv⟩:=hv;obtain⟨p',rfl,hw⟩:=hw;have c1:=bJ wr.top (show n≤4000 by omega);have c2:=bJ wr.bot (show n≤4000 by omega);have c3:=bJ wq.top (show m≤4000 by omega);have c4:=bJ wq.bot (show m≤4000 by omega);refine⟨_,Z,p,_,_,_,Z,Z,hv,Z,_,Z,p',_,_,_,Z,Z,hw,Z,_,_,Z,Z,⟨c1,c4⟩,_,Z,p',_,_,_,Z,Z,hw,Z,_,Z,p,_,_,_,Z,Z,hv,Z,_,_,Z,Z,⟨c3,c2⟩,_,_,Z,Z,k⟩
theorem GP(T:dP K mg t):bn P w K mg base dm 3 t.a_Q29 t.d_Q29 ["_law_some"] (oP K):=by
 refine T.F_Q29.ok o6 (λvs H Q E h=>?_) (λcdv A outer s H vs Q E hr h=>?_)
 ·obtain⟨_,_,_,rfl,_⟩:=h;rfl
 obtain⟨a,xs,rs,rfl,hS,al,bq,hl,k⟩:=h;refine cZ.ok (ah (cn 1 o6.nd (bS (ae aj (ae aj ai aI) aI))) (ah (cf Pe Z (cH (qv 0)) (aF (i:=2) o6.nd Z (by first|exact Pq Z|exact Pp Z)) (av (cn 1 o6.nd (cJ (GH T) hr T.m_Q41 T.F_Q41.kp T.b_Q41 (ae (qv 1) (ae (qv 2) ai af) af))))) (av (aG (qv 1))))) ?_
 nofun
 have hlen:=al.len;refine⟨jB,λp0 hp0=>?_⟩;have s0:=ao hp0 (.tup [.int 0,.int 1]);refine⟨_,Z,a,Z,⟨_,s0.seq hS⟩,eW (K:=K) (a:=a) (xs:=xs) (λi σ H'=>∃(u:V) (x3:Option V),σ=[some (.ref a),some u,x3]/\aE H H'/\RV K H' u (f8 (rs.take i))) ⟨_,none,Z,s0,RV.of ag⟩ (λi σ H1 _ ⟨_,_,_,s1,_⟩=>s1.seq hS) ?_ ?_⟩
 ·rintro i y σ H1 hi ⟨u,x3,rfl,s1,ru⟩;obtain⟨r,hr,rv⟩:=al.at hi;have br:=bq r (OM hr);have hil:=(OV.mp hr).1;have wu:Wf 800 (f8 (rs.take i)):=w8 ((g8 (N:=12) (by decide) λx hx=>bq x (RP hx)).mono (Qi _) (by rw[P7];omega));have wr:Wf 800 r:=w8 (br.mono (Qi _) (by decide));refine⟨_,Z,_,Z,u,y,f8 (rs.take i),r,800,800,Z,ru,rv.mono (aM.same s1),wu,wr,by decide,λp hp=>?_⟩;have s2:=ao hp (.tup [.int (bY (f8 (rs.take i)) r).1,.int (bY (f8 (rs.take i)) r).2]);refine⟨_,_,Z,s1.trans s2,?_⟩;rw[xY hr];exact RV.of ag
 ·rintro σ H1 ⟨u,x3,rfl,s1,ru⟩;rw[hlen,Pw] at ru;exact⟨_,Z,k u H1 s1 ru⟩
theorem GG(T:dP K mg t):bn P w K mg base dm 2 t.a_Q42 t.d_Q42 ["_law_some"] (qA K):=by
 refine T.F_Q42.ok o4 (λvs H Q E h=>?_) (λcdv A outer s H vs Q E hr h=>?_)
 ·obtain⟨_,_,_,rfl,_⟩:=h;rfl
 obtain⟨a,xs,rs,rfl,hS,al,wf,hl,k⟩:=h;refine cZ.ok (ah (cn 1 o4.nd (bS (ae aj (ae aj ai aI) aI))) (ah (cf Pe Z (cH (qv 0)) (aF (i:=2) o4.nd Z (by first|exact Pq Z|exact Pp Z)) (av (cj (cT (cJ (AB T) hr T.m_Q15 T.F_Q15.kp T.b_Q15 (ae (qv 1) (ae (qv 2) ai af) af))) (av (cn 1 o4.nd (qv 2))) bw))) (av (aG (qv 1))))) ?_
 nofun
 have hlen:=al.len;refine⟨jB,λp0 hp0=>?_⟩;have s0:=ao hp0 (.tup [.int 0,.int 1]);refine⟨_,Z,a,Z,⟨_,s0.seq hS⟩,eW (K:=K) (a:=a) (xs:=xs) (λi σ H'=>∃(u:V) (x3:Option V),σ=[some (.ref a),some u,x3]/\aE H H'/\RV K H' u ((rs.take i).foldl gr (0,1))/\Wf 800 ((rs.take i).foldl gr (0,1))) ⟨_,none,Z,s0,RV.of ag,BQ.mono (by decide)⟩ (λi σ H1 _ ⟨_,_,_,s1,_⟩=>s1.seq hS) ?_ ?_⟩
 ·rintro i y σ H1 hi ⟨u,x3,rfl,s1,ru,wu⟩;obtain⟨r,hr,rv⟩:=al.at hi;have wr:=wf r (OM hr);have e:(rs.take (i+1)).foldl gr (0,1)=gr ((rs.take i).foldl gr (0,1)) r:=by
   rw[Ps,hr,QD];rfl
  rw[e];generalize (rs.take i).foldl gr (0,1)=m at ru wu ⊢;have ww:=JM wu wr;refine⟨_,Z,_,Z,u,y,m,r,800,800,Z,ru,rv.mono (aM.same s1),wu,wr,by decide,_,Z,?_⟩;unfold gr at ww ⊢
  cases c:cD m r with
  |true=>
   rw[c,if_pos Z] at ww;refine gD ?_;exact⟨_,Z,y,_,Z,s1,(by rw[if_pos Z];exact rv.mono (aM.same s1)),(by rw[if_pos Z];exact ww)⟩
  |false=>
   refine fN ?_;exact⟨u,_,Z,s1,(by rw[if_neg O1];exact ru),(by rw[if_neg O1];exact wu)⟩
 ·rintro σ H1 ⟨u,x3,rfl,s1,ru,wu⟩;rw[hlen,Pw] at ru;exact⟨_,Z,k u H1 s1 ru⟩
theorem GT(T:dP K mg t):bn P w K mg base dm 4 t.a_Q22 t.d_Q22 ["_law_turn","_law_some"] (mU K):=by
 refine T.F_Q22.ok eE (λvs H Q E h=>?_) (λcdv A outer s H vs Q E hr h=>?_)
 ·obtain⟨_,_,_,_,rfl,_⟩:=h;rfl
 obtain⟨t₀,a,xs,sm,rfl,hS,al,ok,k⟩:=h;refine cZ.ok (ah (cn 2 eE.nd (bS (ae aj (ae aj ai aI) aI))) (ah (cf Pe Z (cH (qv 1)) (iQ Z (bo (aF (i:=3) eE.nd Z (by first|exact Pq Z|exact Pp Z)) (bo (aF (i:=4) eE.nd Z (by first|exact Pq Z|exact Pp Z)) (bo (aF (i:=5) eE.nd Z (by first|exact Pq Z|exact Pp Z)) dI)))) (ah (cn 6 eE.nd (cJ (GP T) hr T.m_Q29 T.F_Q29.kp T.b_Q29 (ae (cr (N':=["_law_one","_law_last"]) (src:=[none,some 4]) Z (by exact(cH (qv 1))) (λ_ _ _ _ _=>(by exact(by exact aF (i:=0) (by show PQ (["_law_one","_law_last"]:List Pf);decide +kernel) (by exact Z) (by first|exact Pq Z|exact Pp Z)))) (λ_ _ _ _ _=>(fh (aU l9 (by exact(bI (bQ (K:=K) (by exact Z)) (by exact(qv 0)) aj (by exact λ_ _=>Z))) (by exact(qv 1)) (aV _)))) (λ_ _ _ _ _=>(by exact(by exact(bI (bQ (K:=K) (by exact Z)) (by exact(qv 0)) aj (by exact λ_ _=>Z))))) (by exact⟨Z,Z,Z,Z,trivial⟩) Z (by decide +kernel) Z (by decide +kernel) (by exact bR Z ⟨Z,trivial⟩)) ai eJ))) (av (cn 2 eE.nd (cJ (GG T) hr T.m_Q42 T.F_Q42.kp T.b_Q42 (ae (bA (ae (qv 2) (ae (cJ (Gz T) hr T.m_Q51 T.F_Q51.kp T.b_Q51 (ae (qv 6) (ae (bS (ae (aJ cU (aJ gQ (qv 4) (qv 0)) aj) (ae aj ai aI) aZ)) ai dD) af)) ai aP) af)) ai gH)))))) (ah (cn 7 eE.nd (bA ai)) (ah (cf Pe Z (cH (aN tQ (by rfl) T.z_sorted boot_sorted (ae (cr (N':=["_law_one"]) (src:=[none]) Z (by exact(cH (qv 1))) (λ_ _ _ _ _=>(by exact(by exact aF (i:=0) (by show PQ (["_law_one"]:List Pf);decide +kernel) (by exact Z) (by first|exact Pq Z|exact Pp Z)))) (λ_ _ _ _ _=>dX) (λ_ _ _ _ _=>(by exact(by exact(bS (ae (by exact(bI (bQ (K:=K) (by exact Z)) (by exact(qv 0)) aj (by exact λ_ _=>Z))) (ae (by exact(bI (bQ (K:=K) (by exact Z)) (by exact(qv 0)) aj (by exact λ_ _=>Z))) (ae (by exact(bI (bQ (K:=K) (by exact Z)) (by exact(qv 0)) aj (by exact λ_ _=>Z))) ai aA) aA) aA))))) (by exact trivial) Z (by decide +kernel) Z (by decide +kernel) (by exact bR Z trivial)) ai eJ))) (iQ Z (bo (aF (i:=4) eE.nd Z (by first|exact Pq Z|exact Pp Z)) (bo (aF (i:=3) eE.nd Z (by first|exact Pq Z|exact Pp Z)) (bo (aF (i:=5) eE.nd Z (by first|exact Pq Z|exact Pp Z)) dI)))) (av (cj (aU ir (bV aB (qv 2) aj) aj (aV _)) (ah (cn 8 eE.nd (l6 (cT (cJ (AB T) hr T.m_Q15 T.F_Q15.kp T.b_Q15 (ae (qv 2) (ae (qv 5) ai af) af))) (qv 2) (qv 5))) (ah (ci (eQ O9 Pb Pd bH (qv 7) (ae (bS (ae (qv 3) (ae (qv 8) ai af) af)) ai dD))) (av (cn 2 eE.nd (cJ (Ay T) hr T.m_Q28 T.F_Q28.kp T.b_Q28 (ae (qv 2) (ae (qv 8) ai af) af)))))) bw))) (av (aG (bC aX (by rfl) T.z_tuple Qq (ae (qv 7) ai af)))))))) ?_
 nofun
 have hlen:=al.len;have l20:=ok.len;refine⟨jB,λp0 hp0=>?_⟩;have s0:=ao hp0 (.tup [.int 0,.int 1]);refine⟨_,Z,a,Z,⟨_,s0.seq hS⟩,eW (K:=K) (a:=a) (xs:=xs) (λi σ H'=>∃(u:V) (x3 x4 x5 x6:Option V),σ=[some (.int (t₀:Nat)),some (.ref a),some u,x3,x4,x5,x6,none,none]/\aE H H'/\RV K H' u ((sm.take i).foldl (λs x=>gr s (cW t₀ sm x)) (0,1))) ⟨_,none,none,none,none,Z,s0,RV.of ag⟩ (λi σ H1 _ ⟨_,_,_,_,_,_,s1,_⟩=>s1.seq hS) ?_ ?_⟩
 ·rintro i y σ H1 hi ⟨u,x3,x4,x5,x6,rfl,s1,ru⟩;obtain⟨x,hx,px,ax,rfl,hSx,rx⟩:=al.at hi;have mx:=OM hx;obtain⟨c1,c2,c3,c4,c5⟩:=ok.tr x mx;have t1:=aM.same (K:=K) s1;have wm:=(ym ok i).wf;have w0:=ym ok i;have ww:=w8 (ok.mean x mx);rw[B4 hx];generalize (sm.take i).foldl (λs x=>gr s (cW t₀ sm x)) (0,1)=m at ru wm w0 ⊢;refine⟨px,_,Z,t1 _ _ hSx,Z,_,_,Z,_,_,Z,_,_,Z,Z,?_⟩;refine⟨_,Z,a,Z,⟨_,s1.seq hS⟩,λD hD=>Bn (K:=K) (P:=RV K) (ds:=sm) (f:=λd:Tr=>d.2.2) (p:=λd:Tr=>decide (d.2.1≤x.2.1)) (λ_ _ _ _ t p=>p.mono t) hD (s1.seq hS) hlen (by omega) (λj z d H' hz hd s' R E kR kE=>?_) λH2 ys s2 hD2 al2=>?_⟩
  ·obtain⟨d',hd',pd,ad,rfl,hSd,rdd⟩:=al.at hz;rw[hd] at hd'
   cases hd'
   have t':=aM.same (K:=K) (s1.trans s');refine⟨gG.set Z,_,Z,pd,_,_,_,Z,Z,t' _ _ hSd,Z,_,Z,_,_,Z,Z,_,Z,?_⟩;by_cases c:d.2.1≤x.2.1
   ·refine cK (by omega) ?_;exact⟨_,Z,pd,_,_,_,Z,Z,t' _ _ hSd,Z,kR (decide_eq_true c) _ _ (aE.refl _) (rdd.mono t')⟩
   ·refine cE (by omega) ?_;exact kE (decide_eq_false c) _ (aE.refl _)
  ·refine⟨D,ys,_,Z,aS.of hD2,al2,λr hr=>?_,?_,λv3 H3 s3 rv3=>?_⟩
   ·obtain⟨z,hz,rfl⟩:=OP.mp hr;exact(ok.tr z (OU.mp hz).1).2.2.2.1
   ·rw[OD];exact O7 (Pt _ _) l20
   have s13:=s2.trans s3;refine⟨_,Z,_,Z,_,Z,_,Z,_,_,Z,Z,_,_,Z,Z,jB,λpm hpm=>?_⟩;have s4:=ao hpm (.tup [.int ((x.2.1:Int)-t₀+1),.int 1]);have wd:=w8 ((Hy l20 (λz hz=>(ok.tr z hz).2.2.2.1) x.2.1).mono (Qi _) (by decide));refine⟨_,_,mY sm x.2.1,(x.2.1:Int)-t₀+1,Z,rv3.mono (aM.same s4),RV.of ag,wd,by omega,by omega,λpb hpb=>?_⟩;have s5:=ao hpb (.tup [.int (cW t₀ sm x).1,.int (cW t₀ sm x).2]);refine⟨jB,λpl hpl=>?_⟩;have s6:=ao hpl (.lst [u,.ref pb]);have s46:=(s4.trans s5).trans s6;have s16:=s13.trans s46;refine⟨pl,_,[m,cW t₀ sm x],Z,aS.of ag,.cons (ru.mono (aM.same s16)) (.cons (RV.mono (RV.of ag) (aM.same s6)) .nil),λr hr=>?_,by show 2≤20;decide,λv7 H7 s7 rv7=>?_⟩
   ·simp only[OO,Py,or_false] at hr;rcases hr with rfl|rfl
    ·exact wm
    ·exact ww
   have e7:[m,cW t₀ sm x].foldl gr (0,1)=gr m (cW t₀ sm x):=by
    show gr (gr (0,1) m) _=_;rw[NE w0.red w0.nn]
   rw[e7] at rv7;exact⟨v7,_,_,_,_,Z,(s1.trans s16).trans s7,rv7⟩
 ·rintro σ H1 ⟨u,x3,x4,x5,x6,rfl,s1,ru⟩;have am0:=ym ok xs.length;rw[hlen,Pw] at ru am0;have t1:=aM.same (K:=K) s1;refine⟨(by show 0≤sizeLine;exact OZ _),λlp hlp=>?_⟩;have s2:=ao hlp (.lst []);have hp2:upd H1 lp (.lst []) lp=some (.lst []):=ag;generalize upd H1 lp (.lst [])=H2 at s2 hp2 ⊢;have s02:=s1.trans s2;refine⟨_,Z,a,Z,⟨_,s02.seq hS⟩,λD hD=>oh (K:=K) (P:=Ka K) (ds:=sm) (f:=λd:Tr=>d) (λ_ _ _ _ t p=>p.mono t) hD (s02.seq hS) hlen (by omega) (λj z d H' hz hd s' R E kR=>?_) λH3 ys s3 hD3 al3=>?_⟩
  ·obtain⟨d',hd',pd,ad,rfl,hSd,rdd⟩:=al.at hz;rw[hd] at hd'
   cases hd'
   have t':=aM.same (K:=K) (s02.trans s');refine⟨gG.set Z,_,Z,pd,_,_,_,Z,Z,t' _ _ hSd,Z,_,Z,pd,_,_,_,Z,Z,t' _ _ hSd,Z,_,Z,pd,_,_,_,Z,Z,t' _ _ hSd,Z,Ik,λpn hpn=>?_⟩;exact kR _ _ (ao hpn _) ⟨pn,ad,Z,bu.of ag,(rdd.mono t').mono (aM.new hpn _)⟩
  rw[List.map_id'] at al3;have b20:∀x∈sm,x.1<20:=λx hx=>(ok.tr x hx).1
  have ly:=al3.len;refine⟨D,ys,sm.map k2,Z,aS.of hD3,Bv al3,by omega,JQ b20 ok.nd,λz hz=>?_,λl is p1 p2 hl=>?_⟩
  ·obtain⟨x,hx,rfl⟩:=OP.mp hz;have:=b20 x hx;exact⟨by show(0:Int)≤(x.1:Nat);omega,by show((x.1:Nat):Int)<1000;omega⟩
  rw[ly] at p1;obtain⟨so1,so2⟩:=EW b20 p1 p2;have s4:=ao hl (.lst (is.map λi=>ys.getD i .non));have hl4:upd H3 l (.lst (is.map λi=>ys.getD i .non)) l=some (.lst (is.map λi=>ys.getD i .non)):=ag;have alo:=rO (al3.mono λ_ _ q=>q.mono (aM.same s4)) (is:=is) λi hi=>ON.mp (p1.mem_iff.mp hi)
  generalize upd H3 l (.lst (is.map λi=>ys.getD i .non))=H4 at s4 hl4 alo ⊢;generalize (is.map λi=>ys.getD i .non)=zs at hl4 alo ⊢;have wk:∀q,q=(((is.map λi=>sm.getD i oN)).foldl eB (Cc t₀ sm,[])).2->EJ t₀ sm q:=λq e=>⟨_,so1,so2,e⟩
  have mo:∀x∈(is.map λi=>sm.getD i oN),x∈sm:=λx hx=>so1.mem_iff.mp hx
  generalize (is.map λi=>sm.getD i oN)=so at alo wk mo so1;have lz:=alo.len;have lso:so.length≤20:=by rw[so1.length_eq];exact l20
  have s24:=s3.trans s4;have hp4:=s24 _ _ hp2;have nlp:l≠lp:=λz=>by subst z;rw[s3 _ _ hp2] at hl;cases hl
  have ru4:=(ru.mono (aM.same s2)).mono (aM.same s24);refine⟨l,Z,⟨_,aS.of hl4⟩,eW (K:=K) (a:=l) (xs:=zs) (λi σ H'=>∃(u:V) (y3 y4 y5 y8:Option V) (ps:List V),σ=[some (.int (t₀:Nat)),some (.ref a),some u,y3,y4,y5,x6,some (.ref lp),y8]/\(∀b o,b≠lp->H4 b=some o->H' b=some o)/\H' lp=some (.lst ps)/\cG (BC K H') ps ((so.take i).foldl eB (Cc t₀ sm,[])).2/\RV K H' u ((so.take i).foldl eB (Cc t₀ sm,[])).1/\dU ((so.take i).foldl eB (Cc t₀ sm,[])).1/\ps.length≤i) ⟨u,_,_,_,none,[],Z,λ_ _ _ e=>e,hp4,.nil,ru4,am0,OC _⟩ (λi σ H' _ ⟨_,_,_,_,_,_,_,k',_⟩=>aS.of (k' _ _ nlp hl4)) ?_ ?_⟩
  ·rintro i y σ H5 hi ⟨u,y3,y4,y5,y8,ps,rfl,k5,hp5,alp,ru5,am5,lps⟩;obtain⟨x,hx,px,ax,rfl,hSx,rx⟩:=alo.at hi;obtain⟨c1,c2,c3,c4,c5⟩:=ok.tr x (mo x (OM hx));have ax_:dU x.2.2:=⟨c4.mono (Qi _) (by decide),by omega⟩;have hil:=(OV.mp hx).1;have t5:=aM.steps (K:=K) hp4 k5 ⟨_,hp5⟩;have am6:=yd (q:=((so.take i).foldl eB (Cc t₀ sm,[])).2) am5 ax_;rw[B1 _ hx];generalize (so.take i).foldl eB (Cc t₀ sm,[])=st at alp ru5 am5 am6 ⊢;obtain⟨sp,q⟩:=st;obtain⟨pu,rfl,hSu⟩:=ru5;refine⟨px,_,Z,t5 _ _ hSx,Z,_,_,Z,_,_,Z,_,_,Z,Z,?_⟩;refine⟨_,Z,pu,_,_,_,Z,Z,hSu,Z,_,_,Z,Z,_,Z,?_⟩;unfold eB at am6 ⊢;by_cases c:0<sp.1
   rotate_left
   ·refine cE (by show ¬(sp.1>0);omega) ?_;rw[if_neg (show ¬0<(sp,q).1.1 from c)] at am6 ⊢;exact⟨_,_,_,_,_,ps,Z,k5,hp5,alp,⟨pu,Z,hSu⟩,am5,by omega⟩
   refine cK (by show sp.1>0;omega) ?_;rw[if_pos (show 0<(sp,q).1.1 from c)] at am6 ⊢;have rx5:=rx.mono t5;have rsp:RV K H5 (.ref pu) sp:=⟨pu,Z,hSu⟩;have lm:=iT ax_ am5;have lm':dU (eR sp x.2.2):=lm;refine⟨_,Z,_,Z,.ref pu,ax,sp,x.2.2,800,800,Z,rsp,rx5,am5.wf,ax_.wf,by decide,_,Z,Hr Z Z ?_⟩;have rv:RV K H5 (if cD sp x.2.2=true then .ref pu else ax) (eR sp x.2.2):=by
    unfold eR
    cases cD sp x.2.2 with
    |true=>exact rsp
    |false=>exact rx5
   generalize (if cD sp x.2.2=true then V.ref pu else ax)=v at rv ⊢;refine⟨_,Z,.inl ⟨Z,_,aS.of hp5⟩,_,Z,_,Z,jB,λpn hpn=>?_⟩;have s6:=ao hpn (.tup [.int (x.1:Nat),v]);have hp6:=s6 _ _ hp5;have q6:upd H5 pn (.tup [.int (x.1:Nat),v]) pn=some (.tup [.int (x.1:Nat),v]):=ag;have r6:=rv.mono (aM.same s6);generalize upd H5 pn (.tup [.int (x.1:Nat),v])=H6 at s6 hp6 q6 r6 ⊢;refine⟨lp,_,_,Z,Z,hp6,aR (by omega),?_⟩;have t7:=aM.up (K:=K) hp6 (ps++[.ref pn]);have t57:=(aM.same (K:=K) s6).trans t7;have k7:∀b o,b≠lp->H4 b=some o->upd H6 lp (.lst (ps++[.ref pn])) b=some o:=λb o nb e=>by rw[au nb];exact s6 _ _ (k5 b o nb e)
   have hp7:upd H6 lp (.lst (ps++[.ref pn])) lp=some (.lst (ps++[.ref pn])):=ag;generalize upd H6 lp (.lst (ps++[.ref pn]))=H7 at t7 t57 k7 hp7 ⊢;refine⟨_,Z,_,Z,.ref pu,v,sp,eR sp x.2.2,800,800,Z,rsp.mono t57,r6.mono t7,am5.wf,lm'.wf,by decide,λpm hpm=>?_⟩;have s8:=ao hpm (.tup [.int (aY sp (eR sp x.2.2)).1,.int (aY sp (eR sp x.2.2)).2]);have t8:=aM.same (K:=K) s8;refine⟨.ref pm,_,_,_,_,ps++[.ref pn],Z,λb o nb e=>s8 _ _ (k7 b o nb e),s8 _ _ hp7,?_,RV.of ag,am6,by rw[Pk,Q6];omega⟩;exact(alp.mono λ_ _ z=>(z.mono t57).mono t8).snoc ⟨pn,v,Z,t8 _ _ (t7 _ _ (bu.of q6)),(r6.mono t7).mono t8⟩
  ·rintro σ H5 ⟨u,y3,y4,y5,y8,ps,rfl,k5,hp5,alp,ru5,am5,lps⟩;rw[lz,Pw] at alp;refine⟨_,Z,lp,ps,Z,.inl ⟨aS.of hp5,λpt hpt=>?_⟩⟩;have z:=ao hpt (.tup ps);refine k _ _ _ (λb o e=>z _ _ (k5 b o (λq=>by subst q;rw[s1 _ _ e] at hlp;cases hlp) (s24 _ _ (s02 _ _ e)))) (wk _ Z) ⟨pt,ps,Z,bu.of ag,alp.mono λ_ _ q=>q.mono (aM.same z)⟩
theorem Aw(T:dP K mg t):bn P w K mg base dm 5 t.a_Q43 t.d_Q43 ["_law_house"] (qD K):=by
 refine T.F_Q43.ok jM (λvs H Q E h=>?_) (λcdv A outer s H vs Q E hr h=>?_)
 ·obtain⟨_,_,_,_,_,_,rfl,_⟩:=h;rfl
 obtain⟨h₀,lw,ll,lp,s₀,q0,rfl,hs,o,ht,G,k⟩:=h;refine cZ.ok (ah (cn 1 jM.nd (bA ai)) (ah (cf Pe Z (ft Z T.z_range (ae (aN bb (by rfl) T.z_len Rv (ae (bE (cQ hr) (qv 0) bB (λ_ _=>Z)) ai aA)) ai aP)) (aF (i:=2) jM.nd Z (by first|exact Pq Z|exact Pp Z)) (av (cj (aU ir (bI aB (bI bc (bE (cQ hr) (qv 0) bB (λ_ _=>Z)) (qv 2) (λ_ _=>Z)) aj (λ_ _=>Z)) aj (aV _)) (av (ci (eQ O9 Pb Pd bH (qv 1) (ae (bS (ae (qv 2) (ae (bI aB (bI bc (bE (cQ hr) (qv 0) bB (λ_ _=>Z)) (qv 2) (λ_ _=>Z)) aj (λ_ _=>Z)) (ae (bI bc (bE (cQ hr) (qv 0) bB (λ_ _=>Z)) (qv 2) (λ_ _=>Z)) ai aA) aA) af)) ai dD)))) bw))) (ah (cn 3 jM.nd (cJ (GT T) hr T.m_Q22 T.F_Q22.kp T.b_Q22 (ae (bE (cQ hr) (qv 0) bB (λ_ _=>Z)) (ae (qv 1) ai af) aA))) (ah (cf Pe Z (fH (qv 3)) (iQ Z (bo (aF (i:=2) jM.nd Z (by first|exact Pq Z|exact Pp Z)) (bo (aF (i:=4) jM.nd Z (by first|exact Pq Z|exact Pp Z)) dI))) (av (jQ (cJ (Ay T) hr T.m_Q28 T.F_Q28.kp T.b_Q28 (ae (bI bc (bE (cQ hr) (qv 0) bB (λ_ _=>Z)) (qv 2) (λ_ _=>Z)) (ae (qv 4) ai af) aA)) (l5 (bE (cQ hr) (qv 0) bB (λ_ _=>Z)) (qv 2) gJ)))) (ah (ci (eQ O9 Pb Pd bH (bE (cQ hr) (qv 0) bB (λ_ _=>Z)) (ae (qv 3) ai af))) (ah (uF (cQ hr) (qv 0) bB (aJ cU (bE (cQ hr) (qv 0) bB (λ_ _=>Z)) aj) Z) (av (aG (qv 3))))))))) ?_
 nofun
 obtain⟨xk,hk,ak⟩:=hs.hk;obtain⟨xr,hr_,ar⟩:=hs.hr;obtain⟨xd,hd_,ad⟩:=hs.hd;have hdk:=hs.dk;have lxk:=ak.len;have lxr:=ar.len;have olen:=o.len;have o20:=o.few;refine⟨(by show 0≤sizeLine;exact OZ _),λl0 hl0=>?_⟩;have s1:=ao hl0 (.lst []);have e1:upd H l0 (.lst []) l0=some (.lst []):=ag;generalize upd H l0 (.lst [])=H1 at s1 e1 ⊢;refine⟨_,Z,h₀,_,Z,wS (s1 _ _ hdk),lw,_,Z,.inl (aS.of (s1 _ _ hk)),xk.length,Z,by omega,by omega,fw (lo:=0) (n:=((xk.length:Nat):Int).toNat) (λi σ H'=>∃(x2:Option V) (zs:List V),σ=[some (.ref h₀),some (.ref l0),x2,none,none]/\(∀b o,b≠l0->H1 b=some o->H' b=some o)/\H' l0=some (.lst zs)/\cG (Kb K H') zs (BJ s₀ i)) ⟨none,[],Z,λ_ _ _ e=>e,e1,.nil⟩ ?_ ?_⟩
 ·rintro i σ H2 hi ⟨x2,zs,rfl,k2,hz,alz⟩;rw[TX];have hi':i<xk.length:=by omega
  have m2:aE H H2:=λb o e=>k2 b o (aC e hl0) (s1 _ _ e)
  have t2:=aM.same (K:=K) m2;obtain⟨yv,hyv⟩:∃yv,xr[i]?=some yv:=⟨_,OA (by omega)⟩;obtain⟨xw,hxw⟩:∃xw,xk[i]?=some xw:=⟨_,OA hi'⟩;obtain⟨r,hrd,ry⟩:=ar.at hyv;obtain⟨w,hwd,pw,xa,rfl,hSw,rw_⟩:=ak.at hxw;have er:=az (0,1) hrd;have ew:=az bL hwd;have am:=o.am r (OM hrd);obtain⟨pr,rfl,hSr⟩:=id ry;have lz:=alz.len;have lt:=Cg s₀ i;refine⟨_,Z,h₀,_,Z,wT (m2 _ _ hdk),_,Z,ll,_,_,_,Z,Z,aS.of (m2 _ _ hr_),bG hyv,pr,_,_,_,Z,Z,t2 _ _ hSr,Z,_,_,Z,Z,_,Z,?_⟩;by_cases c:r=(0,1)
  ·refine cE (by rw[c];decide) ?_;refine⟨_,zs,Z,k2,hz,?_⟩;rw[E4 (by rw[er];exact c)];exact alz
  ·have rp:=ja am.1.red am.2 c;refine cK (by show r.1>0;omega) ?_;refine⟨_,Z,.inl ⟨Z,_,aS.of hz⟩,_,Z,_,Z,h₀,_,Z,wS (m2 _ _ hdk),_,Z,lw,_,_,_,Z,Z,aS.of (m2 _ _ hk),bG hxw,pw,_,_,_,Z,Z,t2 _ _ hSw,Z,_,Z,h₀,_,Z,wT (m2 _ _ hdk),_,Z,ll,_,_,_,Z,Z,aS.of (m2 _ _ hr_),bG hyv,Ik,λpn hpn=>?_⟩;have s3:=ao hpn (.tup [.int (i:Nat),.int (w.2.1:Nat),.ref pr]);have t3:=aM.same (K:=K) s3;have hz3:=s3 _ _ hz;have q3:upd H2 pn (.tup [.int (i:Nat),.int (w.2.1:Nat),.ref pr]) pn=some (.tup [.int (i:Nat),.int (w.2.1:Nat),.ref pr]):=ag;generalize upd H2 pn (.tup [.int (i:Nat),.int (w.2.1:Nat),.ref pr])=H3 at s3 t3 hz3 q3 ⊢;refine⟨l0,_,_,Z,Z,hz3,aR (by omega),?_⟩;have t4:=aM.up (K:=K) hz3 (zs++[.ref pn]);refine⟨_,_,Z,λb o nb e=>by rw[au nb];exact s3 _ _ (k2 b o nb e),ag,?_⟩;rw[Cf (by rw[er];exact c),er,ew];exact(alz.mono λ_ _ z=>(z.mono t3).mono t4).snoc ⟨pn,.ref pr,Z,t4 _ _ (bu.of q3),(((ry.mono t2).mono t3).mono t4)⟩
 ·rintro σ H2 ⟨x2,zs,rfl,k2,hz,alz⟩;have e2:BJ s₀ (((xk.length:Nat):Int).toNat)=gz s₀:=by rw[RM,lxk,←olen];rfl
  rw[e2] at alz;have m2:aE H H2:=λb o e=>k2 b o (aC e hl0) (s1 _ _ e)
  refine⟨_,Z,h₀,_,Z,rE (m2 _ _ hdk),_,Z,s₀.tn,l0,zs,gz s₀,Z,aS.of hz,alz,Ce o ht,λv q H9 s9 wk tv=>?_⟩;have eq:=wk.uniq G.wk;have s09:=m2.trans s9;have qp:=G.pc;have qn:=G.nd;rw[←eq] at qp qn k;have kk:=k;have bq:∀r∈s₀.rs,Wf 800 r:=λr hr=>((o.am r hr).1.mono (jA (by omega)) (OC _)).wf (by decide) (by decide) (by decide)
  obtain⟨pv,xs9,rfl,hv,alv⟩:=tv;have lv:=alv.len;have t09:=aM.same (K:=K) s09;have hi9:=s09 _ _ hdk;have hr9:=s09 _ _ hr_;have hd9:=s09 _ _ hd_;have hk9:=s09 _ _ hk;have nll:ll≠h₀:=λz=>by subst z;rw[hdk] at hr_;cases hr_
  have nlw:lw≠h₀:=λz=>by subst z;rw[hdk] at hk;cases hk
  have nlp:lp≠h₀:=λz=>by subst z;rw[hdk] at hd_;cases hd_
  refine⟨_,Z,pv,Z,⟨_,hv⟩,gy (K:=K) (a:=pv) (xs:=xs9) (λi σ H'=>∃(ys:List V) (y2 y4:Option V),σ=[some (.ref h₀),some (.ref l0),y2,some (.ref pv),y4]/\(∀b o,b≠ll->H9 b=some o->H' b=some o)/\H' ll=some (.lst ys)/\cG (RV K H') ys (f9 s₀.rs (q.take i))) ⟨xr,_,none,Z,λb o _ e=>e,hr9,ar.mono λ_ _ z=>z.mono t09⟩ (λi σ H' _ ⟨_,_,_,_,k',h',_⟩=>aM.steps hr9 k' ⟨_,h'⟩ _ _ hv) ?_ ?_⟩
  ·rintro i x σ HI hx ⟨ys,y2,y4,rfl,kI,hrI,alI⟩;obtain⟨c,hc,pc,xa,rfl,hSc,rx⟩:=alv.at hx;have tI:=aM.steps (K:=K) hr9 kI ⟨_,hrI⟩;obtain⟨lc,ac⟩:=qp c (OM hc);have cur:=g9 (q.take i) s₀.rs (qo qn hc);have lI:=alI.len;rw[i5] at lI;obtain⟨yv,hyv⟩:∃yv,ys[c.1]?=some yv:=⟨_,OA (by omega)⟩;obtain⟨r,hrd,ry⟩:=alI.at hyv;have er:r=s₀.rs.getD c.1 (0,1):=by rw[←cur];exact(az (0,1) hrd).symm
   have wr:Wf 800 r:=by rw[er];exact bq _ (fO lc)
   have hiI:=kI _ _ nll.symm hi9;refine⟨pc,_,Z,tI _ _ hSc,Z,_,_,Z,_,_,Z,Z,?_⟩;refine⟨_,Z,h₀,_,Z,wT hiI,_,Z,ll,_,_,_,Z,Z,aS.of hrI,bG hyv,_,Z,yv,xa,r,c.2,800,800,Z,ry,rx.mono tI,wr,ac.wf,by decide,λpm hpm=>?_⟩;have sJ:=ao hpm (.tup [.int (aY r c.2).1,.int (aY r c.2).2]);have hiJ:=sJ _ _ hiI;have hrJ:=sJ _ _ hrI;have tJ:=aM.same (K:=K) sJ;have qJ:RV K (upd HI pm (.tup [.int (aY r c.2).1,.int (aY r c.2).2])) (.ref pm) (aY r c.2):=RV.of ag;generalize upd HI pm (.tup [.int (aY r c.2).1,.int (aY r c.2).2])=HJ at sJ hiJ hrJ tJ qJ ⊢;refine⟨_,Z,h₀,_,Z,wT hiJ,_,Z,ll,ys,_,c.1,Z,Z,hrJ,kL (by omega),?_⟩;have tu:=aM.up (K:=K) hrJ (ys.set c.1 (.ref pm));refine⟨_,_,_,Z,λb o' nb e=>by rw[au nb];exact sJ _ _ (kI b o' nb e),ag,?_⟩;rw[Ps,hc];show cG _ _ (f9 s₀.rs (q.take i++[c]));rw[qr,cur,←er];exact cG.setI (qJ.mono tu) c.1 (alI.mono λ_ _ z=>(z.mono tJ).mono tu)
  ·rintro σ HI ⟨ys,y2,y4,rfl,kI,hrI,alI⟩;rw[lv,Pw] at alI;have tI:=aM.steps (K:=K) hr9 kI ⟨_,hrI⟩;have hiI:=kI _ _ nll.symm hi9;have hdI:=kI _ _ hs.n3.symm hd9;have hkI:=kI _ _ hs.n1 hk9;have lxd:=ad.len;have ldl:=o.dl;refine⟨_,Z,h₀,_,Z,J3 hiI,.inl ⟨Z,_,aS.of hdI⟩,_,Z,lp,_,_,Z,Z,hdI,aR (by omega),?_⟩;have hiL:upd HI lp (.lst (xd++[.ref pv])) h₀=some (.dK (ki s₀.tn lw ll lp)):=by rw[au nlp.symm];exact hiI
   have tL:=aM.up (K:=K) hdI (xd++[.ref pv]);have fL:∀b o',b≠lp->HI b=some o'->upd HI lp (.lst (xd++[.ref pv])) b=some o':=λb o' nb e=>by rw[au nb];exact e
   have hdL:upd HI lp (.lst (xd++[.ref pv])) lp=some (.lst (xd++[.ref pv])):=ag;generalize upd HI lp (.lst (xd++[.ref pv]))=HL at hiL tL fL hdL ⊢;refine⟨_,Z,h₀,_,Z,rE hiL,_,_,Z,Z,_,Z,h₀,_,Z,LE hiL (s₀.tn+1),?_⟩;have tF:=IJ (K:=K) hiL (.dK (ki (s₀.tn+1) lw ll lp));have fF:∀b o',b≠h₀->HL b=some o'->upd HL h₀ (.dK (ki (s₀.tn+1) lw ll lp)) b=some o':=λb o' nb e=>by rw[au nb];exact e
   have hiF:upd HL h₀ (.dK (ki (s₀.tn+1) lw ll lp)) h₀=some (.dK (ki (s₀.tn+1) lw ll lp)):=ag;generalize upd HL h₀ (.dK (ki (s₀.tn+1) lw ll lp))=HF at tF fF hiF ⊢;have tIF:=tL.trans tF;have t9F:=tI.trans tIF;exact⟨_,Z,kk (.ref pv) HF (λb o' b1 b2 b3 b4 e=>fF b o' b1 (fL b o' b4 (kI b o' b3 (s09 _ _ e)))) ⟨hiF,⟨xk,fF _ _ nlw (fL _ _ hs.n2 hkI),ak.mono λ_ _ z=>(z.mono t09).mono t9F⟩,⟨ys,fF _ _ nll (fL _ _ hs.n3 hrI),alI.mono λ_ _ z=>z.mono tIF⟩,⟨xd++[.ref pv],fF _ _ nlp hdL,(ad.mono λ_ _ z=>(z.mono t09).mono t9F).snoc ⟨pv,xs9,Z,t9F _ _ hv,alv.mono λ_ _ z=>z.mono t9F⟩⟩,hs.n1,hs.n2,hs.n3⟩ ⟨pv,xs9,Z,t9F _ _ hv,alv.mono λ_ _ z=>z.mono t9F⟩⟩
theorem GF(T:dP K mg t):bn P w K mg base dm 2 t.a_Q44 t.d_Q44 ["_law_tape","_law_house"] (qE K):=by
 refine T.F_Q44.ok o0 (λvs H Q E h=>?_) (λcdv A outer s H vs Q E hr h=>?_)
 ·obtain⟨_,_,_,_,_,_,_,rfl,_⟩:=h;rfl
 obtain⟨t₁,l,h₀,lw,ll,lp,tn,rfl,tb,hdk,t23,k⟩:=h;refine cZ.ok (ah (cn 2 o0.nd (bV bc (bA (ae aj (ae aj (ae aj (ae aj ai aI) aI) aI) aI)) (cJ (iS T) hr T.m_Q39 T.F_Q39.kp T.b_Q39 (ae (qv 0) (ae aj ai aI) af)))) (ah (cn 3 o0.nd (aN (xc Z) (by rfl) T.z_min boot_min (ae aj (ae (aJ cU (bE (cQ hr) (qv 1) bB (λ_ _=>Z)) (cJ (iS T) hr T.m_Q39 T.F_Q39.kp T.b_Q39 (ae (qv 0) (ae (qv 2) ai af) af))) ai aZ) aI))) (ah (cn 4 o0.nd (cJ (pM T) hr T.m_Q40 T.F_Q40.kp T.b_Q40 (ae (aJ cU aj (cJ (iS T) hr T.m_Q39 T.F_Q39.kp T.b_Q39 (ae (qv 0) (ae aj ai aI) af))) (ae (bV bc (bA (ae aj (ae aj (ae aj (ae aj (ae aj (ae aj ai aI) aI) aI) aI) aI) aI)) (cJ (iS T) hr T.m_Q39 T.F_Q39.kp T.b_Q39 (ae (qv 0) (ae aj ai aI) af))) ai aA) aZ))) (av (aG (bS (ae (qv 3) (ae (qv 4) ai af) af))))))) ?_
 nofun
 have nt:h₀≠t₁:=λz=>by obtain⟨ys,e⟩:=tb.lst;rw[←z,hdk] at e;cases e
 refine⟨Ks,λpf hpf=>?_⟩;have s1:=ao hpf (.lst [.int 1,.int 3,.int 6,.int 24]);have e1:upd H pf (.lst [.int 1,.int 3,.int 6,.int 24]) pf=some (.lst [.int 1,.int 3,.int 6,.int 24]):=ag;have tb1:=tb.same s1;have nf:pf≠t₁:=λz=>by obtain⟨ys,e⟩:=tb.lst;rw[←z,hpf] at e;cases e
 have c1:=fP.of (S:=[t₁]) s1;generalize upd H pf (.lst [.int 1,.int 3,.int 6,.int 24])=H1 at e1 tb1 c1 ⊢;refine⟨_,Z,t₁,l,4,Z,tb1,by omega,by omega,λr1 x1 a1 b1 tb2=>?_⟩;have c2:=c1.trans (fP.tp (.lst x1));have e2:upd H1 t₁ (.lst x1) pf=some (.lst [.int 1,.int 3,.int 6,.int 24]):=by rw[au nf];exact e1
 generalize upd H1 t₁ (.lst x1)=H2 at tb2 c2 e2 ⊢;obtain⟨f,hf,f0,f24⟩:∃f:Int,oB [V.int 1,.int 3,.int 6,.int 24] r1=some (.int f)/\0<f/\f≤24:=by
  rcases(show r1=0∨r1=1∨r1=2∨r1=3 by omega) with rfl|rfl|rfl|rfl
  ·exact⟨1,Z,by decide,by decide⟩
  ·exact⟨3,Z,by decide,by decide⟩
  ·exact⟨6,Z,by decide,by decide⟩
  ·exact⟨24,Z,by decide,by decide⟩
 refine⟨pf,_,_,_,Z,Z,aS.of e2,hf,?_⟩;refine⟨_,Z,h₀,_,Z,rE (c2.at nt hdk),_,Z,_,Z,t₁,l,f,Z,tb2,f0,by omega,λr2 x2 a2 b2 tb3=>?_⟩;have c3:=c2.trans (fP.tp (.lst x2));generalize upd H2 t₁ (.lst x2)=H3 at tb3 c3 ⊢;refine⟨_,_,Z,Z,_,_,Z,?_⟩;have hz:(tn:Int)≤(if(tn:Int)+r2<23 then(tn:Int)+r2 else 23)/\(if(tn:Int)+r2<23 then(tn:Int)+r2 else 23)≤23:=by split<;>omega
 generalize (if(tn:Int)+r2<23 then(tn:Int)+r2 else 23)=z at hz ⊢;obtain⟨j,rfl⟩:=QU (show 0≤z by omega);refine⟨_,Z,t₁,l,12,Z,tb3,by omega,by omega,λr3 x3 a3 b3 tb4=>?_⟩;have c4:=c3.trans (fP.tp (.lst x3));generalize upd H3 t₁ (.lst x3)=H4 at tb4 c4 ⊢;refine⟨_,_,Z,Z,M3,λpg hpg=>?_⟩;have s5:=ao hpg (.lst [.int 1,.int 1,.int 2,.int 3,.int 4,.int 7]);have e5:upd H4 pg (.lst [.int 1,.int 1,.int 2,.int 3,.int 4,.int 7]) pg=some (.lst [.int 1,.int 1,.int 2,.int 3,.int 4,.int 7]):=ag;have tb5:=tb4.same s5;have ng:pg≠t₁:=λz=>by obtain⟨ys,e⟩:=tb4.lst;rw[←z,hpg] at e;cases e
 have c5:=c4.trans (fP.of s5);generalize upd H4 pg (.lst [.int 1,.int 1,.int 2,.int 3,.int 4,.int 7])=H5 at e5 tb5 c5 ⊢;refine⟨_,Z,t₁,l,6,Z,tb5,by omega,by omega,λr4 x4 a4 b4 tb6=>?_⟩;have c6:=c5.trans (fP.tp (.lst x4));have e6:upd H5 t₁ (.lst x4) pg=some (.lst [.int 1,.int 1,.int 2,.int 3,.int 4,.int 7]):=by rw[au ng];exact e5
 generalize upd H5 t₁ (.lst x4)=H6 at tb6 c6 e6 ⊢;obtain⟨g,hg,g0,g7,g84⟩:∃g:Int,oB [V.int 1,.int 1,.int 2,.int 3,.int 4,.int 7] r4=some (.int g)/\1≤g/\g≤7/\g∣84:=by
  rcases(show r4=0∨r4=1∨r4=2∨r4=3∨r4=4∨r4=5 by omega) with rfl|rfl|rfl|rfl|rfl|rfl
  ·exact⟨1,Z,by decide,by decide,by decide⟩
  ·exact⟨1,Z,by decide,by decide,by decide⟩
  ·exact⟨2,Z,by decide,by decide,by decide⟩
  ·exact⟨3,Z,by decide,by decide,by decide⟩
  ·exact⟨4,Z,by decide,by decide,by decide⟩
  ·exact⟨7,Z,by decide,by decide,by decide⟩
 have am:=Dh (a:=1+r3) (b:=g) (by omega) (by omega) g0 g84;have ap:=AJ (a:=1+r3) (b:=g) (by omega) g0;refine⟨pg,_,_,_,Z,Z,aS.of e6,hg,1+r3,g,Z,by omega,PN (show g.natAbs≤7 by omega) (by decide),λpm hpm=>?_⟩;generalize fc (1+r3) g=ra at am ap ⊢;have s7:=ao hpm (.tup [.int ra.1,.int ra.2]);have rv7:RV K (upd H6 pm (.tup [.int ra.1,.int ra.2])) (.ref pm) ra:=RV.of ag;have tb7:=tb6.same s7;have c7:=c6.trans (fP.of s7);generalize upd H6 pm (.tup [.int ra.1,.int ra.2])=H7 at rv7 tb7 c7 ⊢;refine⟨_,Z,_,Z,jB,λpp hpp=>?_⟩;have s8:=ao hpp (.tup [.int (j:Nat),.ref pm]);exact k pp pm j ra _ (c7.trans (fP.of s8)) (tb7.same s8) (bu.of ag) (rv7.mono (aM.same s8)) (by omega) (by omega) am ap
theorem AA(T:dP K mg t):bn P w K mg base dm 1 t.a_Q16 t.d_Q16 ["self"] (lQ K t.c_Keeper):=by
 refine T.F_Q16.ok Fs (λvs H Q E h=>?_) (λcdv A outer s H vs Q E hr h=>?_)
 ·obtain⟨_,_,rfl,_⟩:=h;rfl
 obtain⟨x,dx,rfl,hx,k⟩:=h;refine cZ.ok (ah (pF (qv 0) aj Z) (ah (pF (qv 0) (bA ai) Z) (ah (pF (qv 0) (bA ai) Z) (av (pF (qv 0) (bA ai) Z))))) ?_
 nofun
 refine⟨_,Z,x,_,_,_,Z,hx,T.cl_Keeper,T.n_Keeper_turn,by decide,?_⟩;refine⟨(by show 0≤sizeLine;exact OZ _),λlk hlk=>⟨_,Z,x,_,_,_,Z,ao hlk _ _ _ ag,T.cl_Keeper,T.n_Keeper_known,(by show 1<1000;decide),?_⟩⟩;refine⟨(by show 0≤sizeLine;exact OZ _),λlr hlr=>⟨_,Z,x,_,_,_,Z,ao hlr _ _ _ ag,T.cl_Keeper,T.n_Keeper_rest,(by show 2<1000;decide),?_⟩⟩;refine⟨(by show 0≤sizeLine;exact OZ _),λld hld=>⟨_,Z,x,_,_,_,Z,ao hld _ _ _ ag,T.cl_Keeper,T.n_Keeper_done,(by show 3<1000;decide),?_⟩⟩;have nk:x≠lk:=aC ag hlk;have nr:x≠lr:=aC ag hlr;have nd:x≠ld:=aC ag hld;have n1:lk≠lr:=aC (by rw[au nk.symm];exact ag) hlr;have n2:lk≠ld:=aC (by rw[au nk.symm,au n1,au nk.symm];exact ag) hld;have n3:lr≠ld:=aC (by rw[au nr.symm];exact ag) hld;refine k lk lr ld _ (λb o nb e=>?_) (by rw[au nk.symm] at hlk;exact hlk) (by rw[au nr.symm,au n1.symm,au nr.symm] at hlr;exact hlr) (by rw[au nd.symm,au n3.symm,au nd.symm,au n2.symm,au nd.symm] at hld;exact hld) ⟨⟨dx,ag⟩,⟨[],(by rw[au nk.symm,au n2,au nk.symm,au n1,au nk.symm];exact ag),.nil⟩,⟨[],(by rw[au nr.symm,au n3,au nr.symm];exact ag),.nil⟩,⟨[],(by rw[au nd.symm];exact ag),.nil⟩,n1,n2,n3⟩;rw[au nb];refine ao hld _ _ _ ?_;rw[au nb];refine ao hlr _ _ _ ?_;rw[au nb];refine ao hlk _ _ _ ?_;rw[au nb];exact e
theorem GY(T:dP K mg t):bn P w K mg base (IC P w) 5 t.a_Q17 t.d_Q17 ["self","last","amount"] (lR K t.c_Keeper t.c_Q52):=by
 refine B.Fun.okD T.F_Q17 yt (λvs H Q E h=>?_) (λcdv A outer s H vs Q E hr h=>?_)
 ·obtain⟨_,_,_,_,_,_,_,_,_,rfl,_⟩:=h;rfl
 obtain⟨a,lk,lr,ld,s,v,u,dv,du,rfl,kp,k20,r20,hv,hu,ke,k⟩:=h;refine cZ.ok (ah (cn 3 yt.nd (bS (ae (c8 (qv 0) Z) (ae (qv 1) (ae (qv 2) ai af) af) dW))) (ah (cj (e9 (cT (cJ (GC T) hr T.m_Q47 T.F_Q47.kp T.b_Q47 (ae (qv 3) ai af)))) (av (jP T.X_Q52 (rW _) Z r9 (Av T) (hr.mono (by decide)) T.b_Q52 Z T.m_Q52 (ae bB ai aI))) bw) (ah (cj (aU Aq (aN bb (by rfl) T.z_len Rv (ae (c8 (qv 0) Z) ai dW)) (dJ (v:=.int (20)) Z T.m_MOST_WORKS ⟨_,Z⟩) (aV _)) (av (jP T.X_Q52 (rW _) Z r9 (Av T) (hr.mono (by decide)) T.b_Q52 Z T.m_Q52 (ae bB ai aI))) bw) (ah (ci (eQ O9 Pb Pd bH (c8 (qv 0) Z) (ae (qv 3) ai af))) (ah (ci (eQ O9 Pb Pd bH (c8 (qv 0) Z) (ae (qv 2) ai af))) (av (aG (aJ gQ (aN bb (by rfl) T.z_len Rv (ae (c8 (qv 0) Z) ai dW)) aj)))))))) ?_
 nofun
 obtain⟨dx,hi⟩:=kp.ins;obtain⟨xk,hk,ak⟩:=kp.hk;obtain⟨xr,hr_,ar⟩:=kp.hr;have lxk:=ak.len;have lxr:=ar.len;refine⟨_,Z,a,_,_,_,_,Z,hi,T.cl_Keeper,T.n_Keeper_turn,Z,_,Z,_,Z,Ik,λpw hpw=>?_⟩;have s1:=ao hpw (.tup [.int s.tn,v,u]);have q1:upd H pw (.tup [.int s.tn,v,u]) pw=some (.tup [.int s.tn,v,u]):=ag;generalize upd H pw (.tup [.int s.tn,v,u])=H1 at s1 q1 ⊢;refine⟨_,Z,.ref pw,.tuple [.int s.tn,dv,du],Z,.tup (bu.of q1) (.cons (.int _) (.cons (hv.same s1) (.cons (hu.same s1) .nil))),_,Z,?_⟩
 cases cw:kW (.tuple [.int s.tn,dv,du]) with
 |false=>
  refine gD ⟨BP,λx hx=>⟨x,_,Z,ag,λd hd nd=>⟨Z,some d,(by rw[au nd.symm];exact ag),?_⟩⟩⟩;rw[mJ hx nd];exact ke (by unfold ix;rw[cw];rfl) d _ _ s1 (by rw[au nd] at hd;exact hd)
 |true=>
  refine fN ?_;have hi1:=s1 _ _ hi;have hk1:=s1 _ _ hk;refine⟨_,Z,a,_,_,_,_,Z,hi1,T.cl_Keeper,T.n_Keeper_known,Z,lk,_,Z,.inl (aS.of hk1),_,_,Z,Z,_,Z,?_⟩;by_cases c20:s.kn.length<20
  ·refine cE (by omega) ?_;obtain⟨l,r,el,er,_,_,_,_⟩:=u8 cw;subst el;subst er;obtain rfl:v=.int (l:Nat):=by cases hv;rfl
   refine⟨_,Z,a,_,_,_,_,Z,hi1,T.cl_Keeper,T.n_Keeper_known,Z,.inl ⟨Z,_,aS.of hk1⟩,_,Z,lk,_,_,Z,Z,hk1,aR (by omega),?_⟩;have nka:lk≠a:=λz=>by subst z;rw[hi] at hk;cases hk
   have nra:lr≠a:=λz=>by subst z;rw[hi] at hr_;cases hr_
   have hi2:upd H1 lk (.lst (xk++[.ref pw])) a=some (.ins t.c_Keeper dx (A2 s.tn lk lr ld)):=by rw[au nka.symm];exact hi1
   have hr2:upd H1 lk (.lst (xk++[.ref pw])) lr=some (.lst xr):=by rw[au kp.n1.symm];exact s1 _ _ hr_
   have hk2:upd H1 lk (.lst (xk++[.ref pw])) lk=some (.lst (xk++[.ref pw])):=ag;have t2:=aM.up (K:=K) hk1 (xk++[.ref pw]);have f2:∀b o,b≠lk->H1 b=some o->upd H1 lk (.lst (xk++[.ref pw])) b=some o:=λb o nb e=>by rw[au nb];exact e
   generalize upd H1 lk (.lst (xk++[.ref pw]))=H2 at hi2 hr2 hk2 t2 f2 ⊢;refine⟨_,Z,a,_,_,_,_,Z,hi2,T.cl_Keeper,T.n_Keeper_rest,Z,.inl ⟨Z,_,aS.of hr2⟩,_,Z,lr,_,_,Z,Z,hr2,aR (by omega),?_⟩;have hi3:upd H2 lr (.lst (xr++[u])) a=some (.ins t.c_Keeper dx (A2 s.tn lk lr ld)):=by rw[au nra.symm];exact hi2
   have hk3:upd H2 lr (.lst (xr++[u])) lk=some (.lst (xk++[.ref pw])):=by rw[au kp.n1];exact hk2
   have t3:=aM.up (K:=K) hr2 (xr++[u]);have hr3:upd H2 lr (.lst (xr++[u])) lr=some (.lst (xr++[u])):=ag;have f3:∀b o,b≠lr->H2 b=some o->upd H2 lr (.lst (xr++[u])) b=some o:=λb o nb e=>by rw[au nb];exact e
   generalize upd H2 lr (.lst (xr++[u]))=H3 at hi3 hk3 t3 hr3 f3 ⊢;refine⟨_,Z,a,_,_,_,_,Z,hi3,T.cl_Keeper,T.n_Keeper_known,Z,lk,_,Z,.inl (aS.of hk3),_,_,Z,Z,?_⟩;obtain⟨xd,hd,ad⟩:=kp.hd;have t1:=aM.same (K:=K) s1;have t13:=t2.trans t3;have t03:=t1.trans t13;have rvu:RV K H1 u r:=Bi (hu.same s1);have e1:(((xk++[V.ref pw]).length:Nat):Int)-1=(s.kn.length:Nat):=by rw[Pk,Q6];omega
   have q:Q (.int (s.kn.length:Nat)) H3:=by
    refine k (by unfold ix;rw[cw,decide_eq_true c20];rfl) l r H3 Z Z (λb o b1 b2 b3 _ e=>f3 b o b3 (f2 b o b2 (s1 _ _ e))) ⟨⟨dx,hi3⟩,⟨_,hk3,?_⟩,⟨_,hr3,?_⟩,⟨xd,f3 _ _ kp.n3.symm (f2 _ _ kp.n2.symm (s1 _ _ hd)),ad.mono λ_ _ z=>z.mono t03⟩,kp.n1,kp.n2,kp.n3⟩
    ·exact(ak.mono λ_ _ z=>z.mono t03).snoc ⟨pw,u,Z,t13 _ _ (bu.of q1),rvu.mono t13⟩
    ·exact(ar.mono λ_ _ z=>z.mono t03).snoc (rvu.mono t13)
   rw[←e1] at q;exact q
  ·refine cK (by omega) ?_;refine⟨BP,λx hx=>⟨x,_,Z,ag,λd hd nd=>⟨Z,some d,(by rw[au nd.symm];exact ag),?_⟩⟩⟩;rw[mJ hx nd];exact ke (by unfold ix;rw[decide_eq_false c20,RF]) d _ _ s1 (by rw[au nd] at hd;exact hd)
theorem Ax(T:dP K mg t):bn P w K mg base (IC P w) 7 t.a_Q31 t.d_Q31 ["self"] (oX K t.c_Keeper t.c_Q53):=by
 refine B.Fun.okD T.F_Q31 o5 (λvs H Q E h=>?_) (λcdv A outer s H vs Q E hr h=>?_)
 ·obtain⟨_,_,_,_,_,rfl,_⟩:=h;rfl
 obtain⟨a,lk,lr,ld,s,rfl,kp,o,ke,k⟩:=h;refine cZ.ok (ah (cj (aU Aq (c8 (qv 0) Z) (dJ (v:=.int (24)) Z T.m_TURNS ⟨_,Z⟩) (aV _)) (av (jP T.X_Q53 (rW _) Z r9 (Gy T) (hr.mono (by decide)) T.b_Q53 Z T.m_Q53 (ae bB ai aI))) bw) (ah (cn 1 o5.nd (cJ (JF T) hr T.m_Q5 T.F_Q5.kp T.b_Q5 (ae (c8 (qv 0) Z) (ae (c8 (qv 0) Z) (ae (c8 (qv 0) Z) ai dW) dW) dW))) (ah (cn 2 o5.nd (cJ (GU T) hr T.m_Q21 T.F_Q21.kp T.b_Q21 (ae (bV aB (cJ (GV T) hr T.m_Q20 T.F_Q20.kp T.b_Q20 (ae (bS (ae (bV aB (qv 1) aj) (ae (bS ai) ai dD) aA)) ai dD)) (c8 (qv 0) Z)) (ae (bV aB (qv 1) aj) ai aA) aA))) (ah (cf PP.leaving Z (fH (qv 2)) (aF (i:=3) o5.nd Z (by first|exact Pq Z|exact Pp Z)) (av (jQ (cJ (sX T) hr T.m_Q56 T.F_Q56.kp T.b_Q56 (ae (bV bc (c8 (qv 0) Z) (bV aB (qv 3) aj)) (ae (bV aB (qv 3) aj) ai aA) aA)) (l5 (c8 (qv 0) Z) (bV aB (qv 3) aj) gJ)))) (ah (ci (eQ O9 Pb Pd bH (c8 (qv 0) Z) (ae (qv 2) ai af))) (ah (vU (qv 0) aj Ho) (av (aG (qv 2))))))))) ?_
 nofun
 obtain⟨dx,hi⟩:=kp.ins;obtain⟨xk,hk,ak⟩:=kp.hk;obtain⟨xr,hr_,ar⟩:=kp.hr;obtain⟨xd,hd_,ad⟩:=kp.hd;have nka:lk≠a:=λz=>by subst z;rw[hi] at hk;cases hk
 have nra:lr≠a:=λz=>by subst z;rw[hi] at hr_;cases hr_
 have nda:ld≠a:=λz=>by subst z;rw[hi] at hd_;cases hd_
 refine⟨_,Z,a,_,_,_,_,Z,hi,T.cl_Keeper,T.n_Keeper_turn,Z,_,_,Z,Z,_,Z,?_⟩;have t24:=o.t24;by_cases c24:s.tn=24
 ·refine cK (by omega) ?_;refine⟨BP,λx hx=>⟨x,_,Z,ag,λd hd nd=>⟨Z,some d,(by rw[au nd.symm];exact ag),?_⟩⟩⟩;rw[mJ hx nd];exact ke c24 d _ (by rw[au nd] at hd;exact hd)
 refine cE (by omega) ?_;have ht:s.tn<24:=by omega
 have o20:=o.few;have ole:=o.len;refine⟨_,Z,a,_,_,_,_,Z,hi,T.cl_Keeper,T.n_Keeper_known,Z,_,Z,a,_,_,_,_,Z,hi,T.cl_Keeper,T.n_Keeper_rest,Z,_,Z,a,_,_,_,_,Z,hi,T.cl_Keeper,T.n_Keeper_turn,Z,lk,lr,xk,xr,s.kn,s.rs,s.tn,Z,aS.of hk,ak,aS.of hr_,ar,o.len,by omega,λp l u H1 s1 hp wv hl=>?_⟩;have wok:=oH o ht;have ok:∀w∈cO s.kn s.rs s.tn,bz w:=λw hw=>(wok w hw).1
 have wl:=qg s.kn s.rs s.tn;have w20:(cO s.kn s.rs s.tn).length≤20:=by
  have:=kJ s.rs;omega
 have gk:=λlys hly=>JX (lys:=lys) o ht hly
 have pk:=λlys hly=>mL (lys:=lys) ok w20 hly
 generalize cO s.kn s.rs s.tn=ws at ok w20 wv gk pk;refine⟨_,Z,p,_,_,_,Z,Z,hp,Z,(by show 0≤sizeLine;exact OZ _),λpe he=>⟨jB,λps hs=>?_⟩⟩;have e6:=ao he (.tup []);have e7:=ao hs (.tup [u,.ref pe]);have h6:upd (upd H1 pe (.tup [])) ps (.tup [u,.ref pe]) pe=some (.tup []):=e7 _ _ ag;have h7:upd (upd H1 pe (.tup [])) ps (.tup [u,.ref pe]) ps=some (.tup [u,.ref pe]):=ag;have e67:=e6.trans e7;generalize upd (upd H1 pe (.tup [])) ps (.tup [u,.ref pe])=H7 at h6 h7 e67 ⊢;have sa:KO K H7 (.ref ps) ws []:=⟨⟨ps,u,.ref pe,Z,bu.of h7,wv.mono (aM.same e67),⟨pe,[],Z,bu.of h6,.nil⟩⟩,w20,ok,Z,fg _,by decide⟩;refine⟨.ref ps,ws,[],Z,sa,vf ok,λf l_ lys x H8 s8 win nb ly d=>?_⟩;rw[tN win] at ly;unfold Mv at d;rw[tN win] at d;have G:=gk lys ly;have P24:=(pk lys ly).len;generalize (cX ws [] (aQ ws lys)).2=pl at d G P24;obtain⟨px,xs,rfl,hx,alx⟩:=DD d;have lx:=alx.len;obtain⟨xt,hxt⟩:∃xt,xs[s.tn]?=some xt:=⟨_,OA (by omega)⟩;obtain⟨q0,hq0,tq⟩:=alx.at hxt;rw[az [] hq0] at G;have s08:=(s1.trans e67).trans s8;have s18:=e67.trans s8;have hi8:=s08 _ _ hi;refine⟨_,Z,a,_,_,_,_,Z,hi8,T.cl_Keeper,T.n_Keeper_turn,Z,px,_,_,_,Z,Z,hx,bG hxt,_,Z,p,_,_,_,Z,Z,aM.same (K:=K) s18 _ _ hp,Z,xt,l,q0,ba s.rs,Z,tq,aS.of (s18 _ _ hl),G.lt,(by have:=G.few;omega),λv H9 s9 tv=>?_⟩;have s09:=s08.trans s9;have qp:=G.pc;have qn:=G.nd;have kk:=k ht q0;have bq:∀r∈s.rs,Wf 800 r:=λr hr=>((o.am r hr).1.mono (jA (by omega)) (OC _)).wf (by decide) (by decide) (by decide)
 generalize cL (ba s.rs) q0=q at tv qp qn kk;obtain⟨pv,xs9,rfl,hv,alv⟩:=tv;have lv:=alv.len;have t09:=aM.same (K:=K) s09;have hi9:=s09 _ _ hi;have hr9:=s09 _ _ hr_;have hd9:=s09 _ _ hd_;have hk9:=s09 _ _ hk;let Iv1:Nat->L2.St->Hp->Prop:=λi σ H'=>∃(ys:List V) (x3:Option V),σ=[some (.ref a),some (.ref p),some (.ref pv),x3]/\(∀b o,b≠lr->H9 b=some o->H' b=some o)/\H' lr=some (.lst ys)/\cG (RV K H') ys (f9 s.rs (q.take i))
 refine⟨_,Z,pv,Z,⟨_,hv⟩,gy (K:=K) (a:=pv) (xs:=xs9) Iv1 ⟨xr,none,Z,λb o _ e=>e,hr9,ar.mono λ_ _ z=>z.mono t09⟩ (λi σ H' _ ⟨_,_,_,k',h',_⟩=>aM.steps hr9 k' ⟨_,h'⟩ _ _ hv) ?_ ?_⟩
 ·rintro i x σ HI hx ⟨ys,x3,rfl,kI,hrI,alI⟩;obtain⟨c,hc,pc,xa,rfl,hSc,rx⟩:=alv.at hx;have tI:=aM.steps (K:=K) hr9 kI ⟨_,hrI⟩;obtain⟨lc,ac⟩:=qp c (OM hc);have cur:=g9 (q.take i) s.rs (qo qn hc);have lI:=alI.len;rw[i5] at lI;obtain⟨yv,hyv⟩:∃yv,ys[c.1]?=some yv:=⟨_,OA (by omega)⟩;obtain⟨r,hrd,ry⟩:=alI.at hyv;have er:r=s.rs.getD c.1 (0,1):=by rw[←cur];exact(az (0,1) hrd).symm
  have wr:Wf 800 r:=by rw[er];exact bq _ (fO lc)
  have hiI:=kI _ _ nra.symm hi9;refine⟨_,Z,a,_,_,_,_,Z,hiI,T.cl_Keeper,T.n_Keeper_rest,Z,_,Z,pc,_,_,_,Z,Z,tI _ _ hSc,Z,lr,_,_,_,Z,Z,aS.of hrI,bG hyv,_,Z,pc,_,_,_,Z,Z,tI _ _ hSc,Z,yv,xa,r,c.2,800,800,Z,ry,rx.mono tI,wr,ac.wf,by decide,λw_ HJ sJ rw_=>?_⟩;have hiJ:=sJ _ _ hiI;have hrJ:=sJ _ _ hrI;have tJ:=aM.same (K:=K) sJ;refine⟨_,Z,a,_,_,_,_,Z,hiJ,T.cl_Keeper,T.n_Keeper_rest,Z,_,Z,pc,_,_,_,Z,Z,tJ _ _ (tI _ _ hSc),Z,lr,ys,_,c.1,Z,Z,hrJ,kL (by omega),?_⟩;have tu:=aM.up (K:=K) hrJ (ys.set c.1 w_);refine⟨_,_,Z,λb o' nb e=>by rw[au nb];exact sJ _ _ (kI b o' nb e),ag,?_⟩;rw[Ps,hc];show cG _ _ (f9 s.rs (q.take i++[c]));rw[qr,cur,←er];exact cG.setI (rw_.mono tu) c.1 (alI.mono λ_ _ z=>(z.mono tJ).mono tu)
 ·rintro σ HI ⟨ys,x3,rfl,kI,hrI,alI⟩;rw[lv,Pw] at alI;have tI:=aM.steps (K:=K) hr9 kI ⟨_,hrI⟩;have hiI:=kI _ _ nra.symm hi9;have hdI:=kI _ _ kp.n3.symm hd9;have hkI:=kI _ _ kp.n1 hk9;have lxd:=ad.len;have ldl:=o.dl;refine⟨_,Z,a,_,_,_,_,Z,hiI,T.cl_Keeper,T.n_Keeper_done,Z,.inl ⟨Z,_,aS.of hdI⟩,_,Z,ld,_,_,Z,Z,hdI,aR (by omega),?_⟩;have hiL:upd HI ld (.lst (xd++[.ref pv])) a=some (.ins t.c_Keeper dx (A2 s.tn lk lr ld)):=by rw[au nda.symm];exact hiI
  have tL:=aM.up (K:=K) hdI (xd++[.ref pv]);have fL:∀b o',b≠ld->HI b=some o'->upd HI ld (.lst (xd++[.ref pv])) b=some o':=λb o' nb e=>by rw[au nb];exact e
  have hdL:upd HI ld (.lst (xd++[.ref pv])) ld=some (.lst (xd++[.ref pv])):=ag;generalize upd HI ld (.lst (xd++[.ref pv]))=HL at hiL tL fL hdL ⊢;refine⟨_,Z,a,_,_,_,_,Z,hiL,T.cl_Keeper,T.n_Keeper_turn,Z,_,_,Z,Z,dx,_,hiL,(by show 4<1000;decide),?_⟩;have eF:gC (OT "turn") (V.int ((s.tn:Int)+1)) (A2 s.tn lk lr ld)=A2 (s.tn+1) lk lr ld:=Z;rw[eF];have tF:aM K HL (upd HL a (.ins t.c_Keeper dx (A2 (s.tn+1) lk lr ld))):=λb xs h=>by
   rcases h with(h | ⟨o',h⟩)|h
   ·exact .inl (.inl (by rw[au (λz=>by subst z;rw[h] at hiL;cases hiL)];exact h))
   ·exact .inl (.inr ⟨o',by rw[au (λz=>by subst z;rw[h] at hiL;cases hiL)];exact h⟩)
   ·exact .inr h
  have fF:∀b o',b≠a->HL b=some o'->upd HL a (.ins t.c_Keeper dx (A2 (s.tn+1) lk lr ld)) b=some o':=λb o' nb e=>by rw[au nb];exact e
  have hiF:upd HL a (.ins t.c_Keeper dx (A2 (s.tn+1) lk lr ld)) a=some (.ins t.c_Keeper dx (A2 (s.tn+1) lk lr ld)):=ag;generalize upd HL a (.ins t.c_Keeper dx (A2 (s.tn+1) lk lr ld))=HF at tF fF hiF ⊢;have tIF:=tL.trans tF;have t9F:=tI.trans tIF;refine⟨_,Z,kk (.ref pv) HF G (λb o' b1 b2 b3 b4 e=>fF b o' b1 (fL b o' b4 (kI b o' b3 (s09 _ _ e)))) ⟨⟨dx,hiF⟩,⟨xk,fF _ _ nka (fL _ _ kp.n2 hkI),ak.mono λ_ _ z=>(z.mono t09).mono t9F⟩,⟨ys,fF _ _ nra (fL _ _ kp.n3 hrI),alI.mono λ_ _ z=>z.mono tIF⟩,⟨xd++[.ref pv],fF _ _ nda hdL,(ad.mono λ_ _ z=>(z.mono t09).mono t9F).snoc ⟨pv,xs9,Z,t9F _ _ hv,alv.mono λ_ _ z=>z.mono t9F⟩⟩,kp.n1,kp.n2,kp.n3⟩ ⟨pv,xs9,Z,t9F _ _ hv,alv.mono λ_ _ z=>z.mono t9F⟩⟩
theorem GS(T:dP K mg t):bn P w K mg base dm 1 t.a_Q24 t.d_Q24 ["self"] (mV K t.c_Keeper):=by
 refine T.F_Q24.ok Fo (λvs H Q E h=>?_) (λcdv A outer s H vs Q E hr h=>?_)
 ·obtain⟨_,_,_,_,_,rfl,_⟩:=h;rfl
 obtain⟨a,lk,lr,ld,s,rfl,kp,k⟩:=h;refine cZ.ok (av (aG (c8 (qv 0) Z))) ?_;nofun
 obtain⟨dx,hi⟩:=kp.ins;exact⟨_,Z,a,_,_,_,_,Z,hi,T.cl_Keeper,T.n_Keeper_turn,Z,k⟩
theorem G1(T:dP K mg t):bn P w K mg base dm 1 t.a_Q10 t.d_Q10 ["self"] (ku K t.c_Keeper):=by
 refine T.F_Q10.ok Fx (λvs H Q E h=>?_) (λcdv A outer s H vs Q E hr h=>?_)
 ·obtain⟨_,_,_,_,_,rfl,_⟩:=h;rfl
 obtain⟨a,lk,lr,ld,s,rfl,kp,k⟩:=h;refine cZ.ok (av (aG (bC aX (by rfl) T.z_tuple Qq (ae (c8 (qv 0) Z) ai dW)))) ?_;nofun
 obtain⟨dx,hi⟩:=kp.ins;obtain⟨xs,h1,h2⟩:=kp.hk;refine⟨_,Z,a,_,_,_,_,Z,hi,T.cl_Keeper,T.n_Keeper_known,Z,_,xs,Z,.inl ⟨aS.of h1,λl hl=>?_⟩⟩;have z:=ao hl (.tup xs);exact k _ _ z ⟨l,xs,Z,bu.of ag,h2.mono λ_ _ q=>q.mono (aM.same z)⟩
theorem GX(T:dP K mg t):bn P w K mg base dm 1 t.a_Q18 t.d_Q18 ["self"] (lP K t.c_Keeper):=by
 refine T.F_Q18.ok Fr (λvs H Q E h=>?_) (λcdv A outer s H vs Q E hr h=>?_)
 ·obtain⟨_,_,_,_,_,rfl,_⟩:=h;rfl
 obtain⟨a,lk,lr,ld,s,rfl,kp,k⟩:=h;refine cZ.ok (av (aG (bC aX (by rfl) T.z_tuple Qq (ae (c8 (qv 0) Z) ai dW)))) ?_;nofun
 obtain⟨dx,hi⟩:=kp.ins;obtain⟨xs,h1,h2⟩:=kp.hr;refine⟨_,Z,a,_,_,_,_,Z,hi,T.cl_Keeper,T.n_Keeper_rest,Z,_,xs,Z,.inl ⟨aS.of h1,λl hl=>?_⟩⟩;have z:=ao hl (.tup xs);exact k _ _ z ⟨l,xs,Z,bu.of ag,h2.mono λ_ _ q=>q.mono (aM.same z)⟩
theorem GW(T:dP K mg t):bn P w K mg base dm 1 t.a_Q19 t.d_Q19 ["self"] (lO K t.c_Keeper):=by
 refine T.F_Q19.ok Fq (λvs H Q E h=>?_) (λcdv A outer s H vs Q E hr h=>?_)
 ·obtain⟨_,_,_,_,_,rfl,_⟩:=h;rfl
 obtain⟨a,lk,lr,ld,s,rfl,kp,k⟩:=h;refine cZ.ok (av (aG (bC aX (by rfl) T.z_tuple Qq (ae (c8 (qv 0) Z) ai dW)))) ?_;nofun
 obtain⟨dx,hi⟩:=kp.ins;obtain⟨xs,h1,h2⟩:=kp.hd;refine⟨_,Z,a,_,_,_,_,Z,hi,T.cl_Keeper,T.n_Keeper_done,Z,_,xs,Z,.inl ⟨aS.of h1,λl hl=>?_⟩⟩;have z:=ao hl (.tup xs);exact k _ _ z ⟨l,xs,Z,bu.of ag,h2.mono λ_ _ q=>q.mono (aM.same z)⟩
theorem GO(T:dP K mg t):bn P w K mg base dm 2 t.a_Q30 t.d_Q30 ["_law_keeper","_law_k"] (oR K t.c_Keeper):=by
 refine T.F_Q30.ok Fl (λvs H Q E h=>?_) (λcdv A outer s H vs Q E hr h=>?_)
 ·obtain⟨_,_,_,_,_,_,rfl,_⟩:=h;rfl
 obtain⟨a,lk,lr,ld,s₀,kk,rfl,kp,k0,k4,k⟩:=h;refine cZ.ok (ah (cj (aU fR (qv 1) aj (aV _)) (av (aG (gg (qv 0) T.cl_Keeper T.M_Keeper_now (GS T) (hr.mono (by decide)) T.b_Q24 .nil kf))) bw) (ah (cj (aU fR (qv 1) aj (aV _)) (av (aG (gg (qv 0) T.cl_Keeper T.M_Keeper_works (G1 T) (hr.mono (by decide)) T.b_Q10 .nil kf))) bw) (av (aG (l6 (aU fR (qv 1) aj (aV _)) (gg (qv 0) T.cl_Keeper T.M_Keeper_left (GX T) (hr.mono (by decide)) T.b_Q18 .nil kf) (gg (qv 0) T.cl_Keeper T.M_Keeper_plan (GW T) (hr.mono (by decide)) T.b_Q19 .nil kf)))))) ?_
 nofun
 obtain⟨dx,hi⟩:=kp.ins;refine⟨_,Z,Z,_,Z,?_⟩;by_cases c0:kk=0
 ·refine cK (by rw[c0]) ?_;refine⟨_,Z,a,_,_,Z,hi,Z,a,lk,lr,ld,s₀,Z,kp,k _ _ (aE.refl _) ?_⟩;rw[c0];exact .int _
 refine cE (λz=>by injection z with z;exact c0 z) ?_;refine⟨_,rfl,rfl,_,rfl,?_⟩;by_cases c1:kk=1
 ·refine cK (by rw[c1]) ?_;refine⟨_,Z,a,_,_,Z,hi,Z,a,lk,lr,ld,s₀,Z,kp,λv H' s' p=>k _ _ s' ?_⟩;rw[c1];exact p.deep
 refine cE (λz=>by injection z with z;exact c1 z) ?_;refine⟨_,rfl,rfl,_,rfl,?_⟩;by_cases c2:kk=2
 ·refine cK (by rw[c2]) ?_;refine⟨_,Z,a,_,_,Z,hi,Z,a,lk,lr,ld,s₀,Z,kp,λv H' s' p=>k _ _ s' ?_⟩;rw[c2];exact p.deep
 refine cE (λz=>by injection z with z;exact c2 z) ?_;refine⟨_,rfl,a,_,_,rfl,hi,rfl,a,lk,lr,ld,s₀,rfl,kp,λv H' s' p=>k _ _ s' ?_⟩;unfold Iw;rw[if_neg c0,if_neg c1,if_neg c2];obtain⟨q1,x1,rfl,g1,a1⟩:=p;exact .tup g1 (a1.deep λ_ _ z=>z.deep)
theorem pN(T:dP K mg t):bn P w K mg base dm 3 t.a_Q23 t.d_Q23 ["_law_tape","_law_keeper","_law_house"] (mT K t.c_Keeper):=by
 refine T.F_Q23.ok o7 (λvs H Q E h=>?_) (λcdv A outer s H vs Q E hr h=>?_)
 ·obtain⟨_,_,_,_,rfl,_⟩:=h;rfl
 obtain⟨t₁,l,p,s₀,rfl,tb,pr,nt,k⟩:=h;refine cZ.ok (ah (cn 3 o7.nd (bA (ae (bE (cQ hr) (qv 2) bB (λ_ _=>Z)) (ae (bC aX (by rfl) T.z_tuple Qq (ae (bE (cQ hr) (qv 2) bB (λ_ _=>Z)) ai aA)) (ae (bC aX (by rfl) T.z_tuple Qq (ae (bE (cQ hr) (qv 2) bB (λ_ _=>Z)) ai aA)) (ae (bC aX (by rfl) T.z_tuple Qq (ae (bE (cQ hr) (qv 2) bB (λ_ _=>Z)) ai aA)) ai aP) aP) aP) aA))) (ah (cn 4 o7.nd (cJ (iS T) hr T.m_Q39 T.F_Q39.kp T.b_Q39 (ae (qv 0) (ae aj ai aI) af))) (ah (cf Pe Z (cH (bA (ae (qv 4) (ae (aJ eG (aJ cU (qv 4) aj) aj) (ae (aJ eG (aJ cU (qv 4) aj) aj) (ae (aJ eG (aJ cU (qv 4) aj) aj) ai aZ) aZ) aZ) af))) (aF (i:=5) o7.nd Z (by first|exact Pq Z|exact Pp Z)) (av (cj (aU Ap (aN (fz hr) (by rfl) T.z_repr U1 (ae (cJ (GO T) hr T.m_Q30 T.F_Q30.kp T.b_Q30 (ae (qv 1) (ae (qv 5) ai af) af)) ai aP)) (aN (fz hr) (by rfl) T.z_repr U1 (ae (bV bc (qv 3) (qv 5)) ai aA)) (aV _)) (av (aG gP)) bw))) (av (aG gP))))) ?_
 nofun
 obtain⟨xk,hk,ak⟩:=pr.hs.hk;obtain⟨xr,hr_,ar⟩:=pr.hs.hr;obtain⟨xd,hd_,ad⟩:=pr.hs.hd;have hdk:=pr.hs.dk;refine⟨_,Z,p.h,_,Z,rE hdk,_,Z,p.h,_,Z,wS hdk,p.lw,xk,Z,.inl ⟨aS.of hk,λq1 g1=>?_⟩⟩;have s1:=ao g1 (.tup xk);have e1:bu K (upd H q1 (.tup xk)) q1 xk:=bu.of ag;generalize upd H q1 (.tup xk)=H1 at s1 e1 ⊢;refine⟨_,Z,p.h,_,Z,wT (s1 _ _ hdk),p.ll,xr,Z,.inl ⟨aS.of (s1 _ _ hr_),λq2 g2=>?_⟩⟩;have s2:=ao g2 (.tup xr);have e2:bu K (upd H1 q2 (.tup xr)) q2 xr:=bu.of ag;generalize upd H1 q2 (.tup xr)=H2 at s2 e2 ⊢;have s02:=s1.trans s2;refine⟨_,Z,p.h,_,Z,J3 (s02 _ _ hdk),p.lp,xd,Z,.inl ⟨aS.of (s02 _ _ hd_),λq3 g3=>?_⟩⟩;have s3:=ao g3 (.tup xd);have e3:bu K (upd H2 q3 (.tup xd)) q3 xd:=bu.of ag;generalize upd H2 q3 (.tup xd)=H3 at s3 e3 ⊢;have s03:=s02.trans s3;refine⟨Ks,λpd hpd=>?_⟩;have s4:=ao hpd (.lst [.int (s₀.tn:Nat),.ref q1,.ref q2,.ref q3]);have e4:upd H3 pd (.lst [.int (s₀.tn:Nat),.ref q1,.ref q2,.ref q3]) pd=some (.lst [.int (s₀.tn:Nat),.ref q1,.ref q2,.ref q3]):=ag;have s04:=s03.trans s4;have t04:=aM.same (K:=K) s04;have tb4:=tb.same s04;have pr4:=pr.same s04;have nd:pd≠t₁:=λz=>by obtain⟨ys,e⟩:=(tb.same s03).lst;rw[←z,hpd] at e;cases e
 have f1:=aM.same (K:=K) ((s2.trans s3).trans s4) _ _ e1;have f2:=aM.same (K:=K) (s3.trans s4) _ _ e2;have f3:=aM.same (K:=K) s4 _ _ e3;have due:∀H',aM K (upd H3 pd (.lst [.int (s₀.tn:Nat),.ref q1,.ref q2,.ref q3])) H'->∀kk:Int,0≤kk->kk<4->∃v,oB [V.int (s₀.tn:Nat),.ref q1,.ref q2,.ref q3] kk=some v/\bv K H' v (Iw s₀ kk):=λH' tt kk k0 k4=>by
  rcases(show kk=0∨kk=1∨kk=2∨kk=3 by omega) with rfl|rfl|rfl|rfl
  ·exact⟨_,Z,.int _⟩
  ·exact⟨_,Z,.tup (tt _ _ f1) ((ak.mono λ_ _ z=>(z.mono t04).mono tt).deep λ_ _ z=>z.deep)⟩
  ·exact⟨_,Z,.tup (tt _ _ f2) ((ar.mono λ_ _ z=>(z.mono t04).mono tt).deep λ_ _ z=>z.deep)⟩
  ·exact⟨_,Z,.tup (tt _ _ f3) ((ad.mono λ_ _ z=>(z.mono t04).mono tt).deep λ_ _ z=>z.deep)⟩
 have c4:=fP.of (S:=[t₁]) s04;clear f1 f2 f3 s4;generalize [V.int (s₀.tn:Nat),.ref q1,.ref q2,.ref q3]=xs4 at e4 due tb4 pr4 c4 s04 t04 ⊢;generalize upd H3 pd (.lst xs4)=H4 at e4 due tb4 pr4 c4 s04 t04 ⊢;refine⟨_,Z,t₁,l,4,Z,tb4,by omega,by omega,λr x a4 b4 tb5=>?_⟩;obtain⟨ys4,et4⟩:=tb4.lst;have pr5:=pr4.tape (xs:=x) tb4 nt;have c5:=c4.trans (fP.tp (.lst x));have e5:upd H4 t₁ (.lst x) pd=some (.lst xs4):=by rw[au nd];exact e4
 have due5:=λH' (z:aE (upd H4 t₁ (.lst x)) H')=>due H' ((aM.up et4 x).trans (aM.same z))
 clear due;generalize upd H4 t₁ (.lst x)=H5 at tb5 pr5 c5 e5 due5 ⊢;refine⟨_,Z,_,Z,_,_,Z,Z,_,_,Z,Z,(by show(0:Int)<4;decide),_,Z,_,_,Z,Z,_,_,Z,Z,(by show(0:Int)<4;decide),_,Z,_,_,Z,Z,_,_,Z,Z,(by show(0:Int)<4;decide),Ks,λpq hpq=>?_⟩;have s6:=ao hpq (.lst [.int r,.int ((r+3)%4),.int ((r+1)%4),.int ((r+2)%4)]);have e6:upd H5 pq (.lst [.int r,.int ((r+3)%4),.int ((r+1)%4),.int ((r+2)%4)]) pq=some (.lst [.int r,.int ((r+3)%4),.int ((r+1)%4),.int ((r+2)%4)]):=ag;have all:∀v∈[V.int r,.int ((r+3)%4),.int ((r+1)%4),.int ((r+2)%4)],∃kk:Int,v=.int kk/\0≤kk/\kk<4:=λv hv=>by
  simp only[OO,Py,or_false] at hv;rcases hv with rfl|rfl|rfl|rfl
  ·exact⟨_,Z,a4,b4⟩
  ·exact⟨_,Z,by omega,by omega⟩
  ·exact⟨_,Z,by omega,by omega⟩
  ·exact⟨_,Z,by omega,by omega⟩
 generalize [V.int r,.int ((r+3)%4),.int ((r+1)%4),.int ((r+2)%4)]=ks at s6 e6 all ⊢;generalize upd H5 pq (.lst ks)=H6 at s6 e6 ⊢;refine⟨pq,Z,⟨_,aS.of e6⟩,eW (K:=K) (a:=pq) (xs:=ks) (λi σ H'=>∃x5:Option V,σ=[some (.ref t₁),some (.ref p.a),some (.ref p.h),some (.ref pd),some (.int r),x5]/\aE H6 H') ⟨none,Z,aE.refl _⟩ (λi σ H' _ ⟨_,_,z⟩=>aS.of (z _ _ e6)) ?_ ?_⟩
 ·rintro i y σ H7 hi ⟨x5,rfl,s7⟩;obtain⟨kk,rfl,k0,k4⟩:=all y (OM hi);have s57:=s6.trans s7;have pr7:=pr5.same s57;refine⟨_,Z,_,Z,p.a,p.lk,p.lr,p.ld,s₀,kk,Z,pr7.kp,k0,k4,λv8 H8 s8 d8=>?_⟩;obtain⟨v9,h9,d9⟩:=due5 H8 (s57.trans s8) kk k0 k4;refine⟨v8,_,Z,d8,Ej pr.ok kk,_,Z,_,Z,pd,_,_,_,Z,Z,aS.of (s8 _ _ (s57 _ _ e5)),h9,v9,_,Z,d9,Ej pr.ok kk,Z,_,Z,AU Z ?_⟩;exact⟨_,Z,s7.trans s8⟩
 ·rintro σ H7 ⟨x5,rfl,s7⟩;exact k _ (c5.trans (fP.of (s6.trans s7))) (tb5.same (s6.trans s7))
theorem GE(T:dP K mg t):bn P w K mg base dm 8 t.a_Q45 t.d_Q45 ["_law_tape","_law_keeper","_law_house"] (qy K t.c_Keeper):=by
 refine T.F_Q45.ok sF (λvs H Q E h=>?_) (λcdv A outer s H vs Q E hr h=>?_)
 ·obtain⟨_,_,_,_,rfl,_⟩:=h;rfl
 obtain⟨t₁,l,p,s₀,rfl,tb,pr,nt,nl,k⟩:=h;refine cZ.ok (ah (FV (cj (nQ (lZ (aU jh (bE (cQ hr) (qv 2) bB (λ_ _=>Z)) aj (aV _)) (lZ (aU jh (aN bb (by rfl) T.z_len Rv (ae (bE (cQ hr) (qv 2) bB (λ_ _=>Z)) ai aA)) aj (aV _)) (pE (aU fR (cJ (iS T) hr T.m_Q39 T.F_Q39.kp T.b_Q39 (ae (qv 0) (ae aj ai aI) af)) aj (aV _)))))) (ah (jQ (cJ (GF T) hr T.m_Q44 T.F_Q44.kp T.b_Q44 (ae (qv 0) (ae (qv 2) ai af) af)) (iQ Z (bo (aF (i:=3) sF.nd Z (by first|exact Pq Z|exact Pp Z)) (bo (aF (i:=4) sF.nd Z (by first|exact Pq Z|exact Pp Z)) dI)))) (ah (ci (eQ O9 Pb Pd bH (bE (cQ hr) (qv 2) bB (λ_ _=>Z)) (ae (bS (ae (bE (cQ hr) (qv 2) bB (λ_ _=>Z)) (ae (qv 3) (ae (qv 4) ai af) af) aA)) ai dD))) (ah (ci (eQ O9 Pb Pd bH (bE (cQ hr) (qv 2) bB (λ_ _=>Z)) (ae (qv 4) ai af))) (av (aG (fj fR (Cs (E:=EF) (qv 1) T.cl_Keeper T.M_Keeper_come (GY T) (hr.mono (by decide)) T.b_Q17 .nil Am (ae (qv 3) (ae (qv 4) ai af) af)) (aJ gQ (aN bb (by rfl) T.z_len Rv (ae (bE (cQ hr) (qv 2) bB (λ_ _=>Z)) ai aA)) aj) (aV _))))))) bw)) (ah (cj (aU fR (bE (cQ hr) (qv 2) bB (λ_ _=>Z)) aj (aV _)) (av (aG gP)) bw) (av (aG (fj fR (aN (fz hr) (by rfl) T.z_repr U1 (ae (gg (E:=EF) (qv 1) T.cl_Keeper T.M_Keeper_go (Ax T) (hr.mono (by decide)) T.b_Q31 .nil Am) ai aP)) (aN (fz hr) (by rfl) T.z_repr U1 (ae (cJ (Aw T) hr T.m_Q43 T.F_Q43.kp T.b_Q43 (ae (qv 2) ai af)) ai aP)) (aV _)))))) ?_
 nofun
 have hdk:=pr.hs.dk;obtain⟨xk,hk,ak⟩:=pr.hs.hk;have lxk:=ak.len;refine⟨λσ H'=>σ=[some (.ref t₁),some (.ref p.a),some (.ref p.h),none,none]/\fP [t₁] H H'/\cR H' t₁ l/\Pr K t.c_Keeper H' p s₀/\aM K H H',?_,?_⟩
 ·refine⟨_,Z,p.h,_,Z,rE hdk,_,_,Z,Z,_,Z,?_⟩;by_cases c1:s₀.tn<24
  rotate_left
  ·refine cE (by omega) (fN ?_);exact⟨Z,fP.of (aE.refl _),tb,pr,aM.same (aE.refl _)⟩
  refine cK (by omega) ?_;refine⟨_,Z,p.h,_,Z,wS hdk,p.lw,_,Z,.inl (aS.of hk),_,_,Z,Z,_,Z,?_⟩;by_cases c2:xk.length<20
  rotate_left
  ·refine cE (by omega) (fN ?_);exact⟨Z,fP.of (aE.refl _),tb,pr,aM.same (aE.refl _)⟩
  refine cK (by omega) ?_;obtain⟨ys,et⟩:=tb.lst;refine⟨_,Z,t₁,l,2,Z,tb,by omega,by omega,λr1 x1 a1 b1 tb1=>?_⟩;have pr1:=pr.tape (xs:=x1) tb nt;have g1:=fP.tp (H:=H) (t:=t₁) (.lst x1);have t1:=aM.up (K:=K) et x1;generalize upd H t₁ (.lst x1)=H1 at tb1 pr1 g1 t1 ⊢;refine⟨Z,_,Z,?_⟩;by_cases c0:r1=0
  rotate_left
  ·refine cE (λz=>by injection z with z;exact c0 z) ?_;exact⟨rfl,g1,tb1,pr1,t1⟩
  refine cK (by rw[c0]) ?_;clear c0 a1 b1;refine⟨_,Z,_,Z,t₁,l,p.h,p.lw,p.ll,p.lp,s₀.tn,Z,tb1,pr1.hs.dk,by omega,λpp u j r H2 g2 tb2 sq rv l1 l2 bq pos=>?_⟩;obtain⟨ys1,et1⟩:=tb1.lst;obtain⟨ys2,et2⟩:=tb2.lst;have t2:=aM.steps (K:=K) et1 (λb o nb e=>g2.at nb e) ⟨_,et2⟩;have pr2:=pr1.stay g2 (λb hb z=>nt (by rw[←OH.mp z];exact hb)) t2;have g02:=g1.trans g2;have t02:=t1.trans t2;clear pr1 g1 g2 t1 t2 tb1;refine⟨pp,_,Z,sq,Z,_,_,Z,_,_,Z,Z,?_⟩;obtain⟨xk2,hk2,ak2⟩:=pr2.hs.hk;obtain⟨xr2,hr2,ar2⟩:=pr2.hs.hr;obtain⟨xd2,hd2,ad2⟩:=pr2.hs.hd;have hdk2:=pr2.hs.dk;have lk2:=ak2.len;have lr2:=ar2.len;have olen:=pr.ok.len;have ofew:=pr.ok.few;have nlw:p.lw≠p.h:=λz=>by rw[z,hdk2] at hk2;cases hk2
  have nll:p.ll≠p.h:=λz=>by rw[z,hdk2] at hr2;cases hr2
  have nlp:p.lp≠p.h:=λz=>by rw[z,hdk2] at hd2;cases hd2
  refine⟨_,Z,p.h,_,Z,wS hdk2,.inl ⟨Z,_,aS.of hk2⟩,_,Z,p.h,_,Z,rE hdk2,_,Z,_,Z,Ik,λpw hpw=>?_⟩;have s3:=ao hpw (.tup [.int (s₀.tn:Nat),.int (j:Nat),.ref u]);have q3:upd H2 pw (.tup [.int (s₀.tn:Nat),.int (j:Nat),.ref u]) pw=some (.tup [.int (s₀.tn:Nat),.int (j:Nat),.ref u]):=ag;generalize upd H2 pw (.tup [.int (s₀.tn:Nat),.int (j:Nat),.ref u])=H3 at s3 q3 ⊢;have t3:=aM.same (K:=K) s3;have hk3:=s3 _ _ hk2;refine⟨p.lw,_,_,Z,Z,hk3,aR (by omega),?_⟩;have t4:=aM.up (K:=K) hk3 (xk2++[.ref pw]);have f4:∀b o,b≠p.lw->H3 b=some o->upd H3 p.lw (.lst (xk2++[.ref pw])) b=some o:=λb o nb e=>by rw[au nb];exact e
  have hk4:upd H3 p.lw (.lst (xk2++[.ref pw])) p.lw=some (.lst (xk2++[.ref pw])):=ag;generalize upd H3 p.lw (.lst (xk2++[.ref pw]))=H4 at t4 f4 hk4 ⊢;have hr4:=f4 _ _ pr2.hs.n1.symm (s3 _ _ hr2);have hdk4:=f4 _ _ nlw.symm (s3 _ _ hdk2);refine⟨_,Z,p.h,_,Z,wT hdk4,.inl ⟨Z,_,aS.of hr4⟩,_,Z,p.ll,_,_,Z,Z,hr4,aR (by omega),?_⟩;have t5:=aM.up (K:=K) hr4 (xr2++[.ref u]);have f5:∀b o,b≠p.ll->H4 b=some o->upd H4 p.ll (.lst (xr2++[.ref u])) b=some o:=λb o nb e=>by rw[au nb];exact e
  have hr5:upd H4 p.ll (.lst (xr2++[.ref u])) p.ll=some (.lst (xr2++[.ref u])):=ag;generalize upd H4 p.ll (.lst (xr2++[.ref u]))=H5 at t5 f5 hr5 ⊢;have hk5:=f5 _ _ pr2.hs.n1 hk4;have hdk5:=f5 _ _ nll.symm hdk4;have t35:=t4.trans t5;have t25:=t3.trans t35;have z25:kU p.h p.lw p.ll p.lp H2 H5:=λb o b1 b2 b3 b4 e=>f5 b o b3 (f4 b o b2 (s3 _ _ e))
  have hs5:m8 K H5 p.h p.lw p.ll p.lp (u9 s₀ j r):=⟨hdk5,⟨_,hk5,(ak2.mono λ_ _ q=>q.mono t25).snoc ⟨pw,.ref u,Z,t35 _ _ (bu.of q3),rv.mono t25⟩⟩,⟨_,hr5,(ar2.mono λ_ _ q=>q.mono t25).snoc (rv.mono t25)⟩,⟨xd2,f5 _ _ pr2.hs.n3.symm (f4 _ _ pr2.hs.n2.symm (s3 _ _ hd2)),ad2.mono λ_ _ q=>q.mono t25⟩,pr2.hs.n1,pr2.hs.n2,pr2.hs.n3⟩;have kp5:=pr2.kp.house pr.dj pr2.hs z25;have rv5:=rv.mono t25;obtain⟨dx5,hi5⟩:=kp5.ins;have cb:ix s₀ (.int (j:Nat)) (dR r)=true:=by rw[DJ (by omega) (by omega),DT bq.red pos,decide_eq_true (by omega)];rfl
  refine⟨_,Z,p.a,_,_,Z,hi5,Z,_,Z,_,Z,p.a,p.lk,p.lr,p.ld,s₀,.int (j:Nat),.ref u,.int (j:Nat),dR r,Z,kp5,ofew,by omega,.int _,rv5.deep,(λz=>by rw[cb] at z;cases z),λ_ j' r' H6 e1 e2 Hf kp6=>?_⟩;obtain rfl:j=j':=by injection e1 with e1;omega
  obtain rfl:r=r':=HM e2;have hs6:=hs5.keep (λb hb o e=>kU.stl Hf b o (λq=>PA.apart pr.dj q hb Z) e) (kp5.tst Hf);obtain⟨xk6,hk6,ak6⟩:=hs6.hk;have lk6:xk6.length=(s₀.kn++[(s₀.tn,j,r)]).length:=ak6.len;rw[Pk,Q6] at lk6;refine⟨_,Z,p.h,_,Z,wS hs6.dk,p.lw,_,Z,.inl (aS.of hk6),_,_,Z,Z,Z,?_⟩;have z26:fP p.l H2 H6:=((kU.stl z25).sub (S':=p.l) λx hx=>(p.mem x).mpr (.inr hx)).trans ((kU.stl Hf).sub λx hx=>(p.mem x).mpr (.inl hx));have fin:=k (u9 s₀ j r) H6 ((g02.sub λb hb=>by rw[OH.mp hb];exact OJ).trans (z26.sub λb hb=>OL _ hb)) (z26.tape tb2 nt nl) ⟨kp6,hs6,DI pr.ok cb Z Z bq,pr.dj⟩ (t02.trans (t25.trans (kp5.tst Hf)));rw[decide_eq_true (show V.int (s₀.kn.length:Nat)=V.int (((xk6.length:Nat):Int)-1) by congr 1;omega)];exact fin
 ·rintro σ H1 ⟨rfl,c1,tb1,pr1,t1⟩;have hdk1:=pr1.hs.dk;refine⟨_,Z,p.h,_,Z,rE hdk1,Z,_,Z,?_⟩;by_cases c:s₀.tn=24
  ·refine cK (by rw[c];rfl) ?_;exact k s₀ H1 (c1.sub λb hb=>by rw[OH.mp hb];exact OJ) tb1 pr1 t1
  refine cE (λz=>by injection z with z;omega) ?_;have t24:=pr.ok.t24;obtain⟨dx1,hi1⟩:=pr1.kp.ins;refine⟨_,Z,p.a,_,_,Z,hi1,Z,p.a,p.lk,p.lr,p.ld,s₀,Z,pr1.kp,pr.ok,(λz=>absurd z c),λ_ q0 v2 H2 G wG kp2 tv2=>?_⟩;have hs2:=pr1.pair (H2:=H2) wG kp2;have few:=G.few;have lq:(cL (ba s₀.rs) q0).length≤20:=by unfold cL;rw[OD];exact few
  have olen:=pr.ok.len;have ofew:=pr.ok.few;have shq:=IZ lq λc hc=>⟨by have:=(G.pc c hc).1;omega,(G.pc c hc).2⟩
  refine⟨v2,_,Z,tv2.deep,shq,_,Z,p.h,p.lw,p.ll,p.lp,s₀,q0,Z,hs2,pr.ok,by omega,G,λv3 H3 xE hs3 tv3=>?_⟩;refine⟨v3,_,Z,tv3.deep,shq,?_⟩;have z13:=fP.pair (t:=t₁) wG xE;have z13':fP p.l H1 H3:=((kU.stl wG).sub (S':=p.l) λx hx=>(p.mem x).mpr (.inl hx)).trans ((kU.stl xE).sub λx hx=>(p.mem x).mpr (.inr hx));have kp3:=kp2.house pr.dj hs2 xE;have fin:=k _ H3 ((c1.sub λb hb=>by rw[OH.mp hb];exact OJ).trans z13) (z13'.tape tb1 nt nl) ⟨kp3,hs3,G.ok,pr.dj⟩ (t1.trans ((pr1.kp.tst wG).trans (hs2.tst xE)));refine⟨Z,?_⟩;rw[decide_eq_true Z];exact fin
theorem Gs(T:dP K mg t):bn P w K mg base dm 9 t.a_Q63 t.d_Q63 ["_law_script"] (oU K):=by
 refine T.F_Q63.ok iL (λvs H Q E h=>?_) (λcdv A outer s H vs Q E hr h=>?_)
 ·obtain⟨_,_,rfl,_⟩:=h;rfl
 obtain⟨a₀,ns,rfl,hS,hl,k⟩:=h;refine cZ.ok (ah (cn 1 iL.nd (bA (ae (qQ T.K_Keeper (AA T) (hr.mono (by decide)) Z T.m_Keeper T.b_Q16 .nil kf) (ae (qQ T.K_Keeper (AA T) (hr.mono (by decide)) Z T.m_Keeper T.b_Q16 .nil kf) ai aP) aP))) (ah (cn 2 iL.nd (bA (ae (qR bB aj bB (bA ai) bB (bA ai) bB (bA ai)) (ae (qR bB aj bB (bA ai) bB (bA ai) bB (bA ai)) ai qt) qt))) (ah (cn 3 iL.nd (bV bc (bA (ae aj (ae aj (ae aj (ae aj ai aI) aI) aI) aI)) (aJ eG (cJ (AC T) hr T.m_Q14 T.F_Q14.kp T.b_Q14 (ae (qv 0) (ae aj ai aI) af)) aj))) (ah (cf Pe Z (ft Z T.z_range (ae (qv 3) ai af)) (aF (i:=4) iL.nd Z (by first|exact Pq Z|exact Pp Z)) (ah (cn 5 iL.nd (bA (ae (cJ (GQ T) hr T.m_Q27 T.F_Q27.kp T.b_Q27 (ae (aJ cU (cJ (AC T) hr T.m_Q14 T.F_Q14.kp T.b_Q14 (ae (qv 0) (ae (aJ eG (qv 4) aj) ai aZ) af)) (aJ gR aj (qv 4))) (ae aj ai aI) aZ)) (ae aj ai aI) aP))) (ah (cn 6 iL.nd (bC xh (by rfl) T.z_int boot_int (ae (fj fR (cJ (iS T) hr T.m_Q39 T.F_Q39.kp T.b_Q39 (ae (qv 5) (ae aj ai aI) af)) aj (aV _)) ai ye))) (ah (cj (e9 (cT (cJ (GE T) hr T.m_Q45 T.F_Q45.kp T.b_Q45 (ae (qv 5) (ae (bV bc (qv 1) (qv 6)) (ae (bV bc (qv 2) (qv 6)) ai aA) aA) af)))) (av (aG gP)) bw) (av (cj (nQ (uD (e9 (cT (cJ (pN T) hr T.m_Q23 T.F_Q23.kp T.b_Q23 (ae (qv 5) (ae (bV bc (qv 1) aj) (ae (bV bc (qv 2) aj) ai aA) aA) af)))) (sR (e9 (cT (cJ (pN T) hr T.m_Q23 T.F_Q23.kp T.b_Q23 (ae (qv 5) (ae (bV bc (qv 1) aj) (ae (bV bc (qv 2) aj) ai aA) aA) af))))))) (av (aG gP)) bw)))))) (ah (gO Pe (nQ (lZ (aU fR (qv 3) aj (aV _)) (pE (aU jh (bE (cQ hr) (bI bc (qv 2) aj (λ_ _=>Z)) bB (λ_ _=>Z)) aj (aV _))))) (av (cj (aU Ap (aN (fz hr) (by rfl) T.z_repr U1 (ae (gg (E:=EF) (bV bc (qv 1) aj) T.cl_Keeper T.M_Keeper_go (Ax T) (hr.mono (by decide)) T.b_Q31 .nil Am) ai aP)) (aN (fz hr) (by rfl) T.z_repr U1 (ae (cJ (Aw T) hr T.m_Q43 T.F_Q43.kp T.b_Q43 (ae (bV bc (qv 2) aj) ai aA)) ai aP)) (aV _)) (av (aG gP)) bw))) (av (aG (jS (cJ (pN T) hr T.m_Q23 T.F_Q23.kp T.b_Q23 (ae (bA (ae (bA (ae aj ai aI)) (ae aj ai aI) gH)) (ae (bV bc (qv 1) aj) (ae (bV bc (qv 2) aj) ai aA) aA) gH)) (jR (cJ (pN T) hr T.m_Q23 T.F_Q23.kp T.b_Q23 (ae (bA (ae (bA (ae aj ai aI)) (ae aj ai aI) gH)) (ae (bV bc (qv 1) aj) (ae (bV bc (qv 2) aj) ai aA) aA) gH))))))))))) ?_
 nofun
 refine λa dx ha hdx ndx=>⟨a,dx,Z,ag,λlk lr ld H1 f1 nk nr nd kp1=>⟨Z,?_⟩⟩
 refine λb dy hb hdy ndy=>⟨b,dy,Z,ag,λmk mr md H2 f2 nk2 nr2 nd2 kp2=>⟨Z,?_⟩⟩
 obtain⟨m1,fA⟩:=re ha hdx f1 nk nr nd;obtain⟨m2,fB⟩:=re hb hdy f2 nk2 nr2 nd2;clear f1 nk nr nd f2 nk2 nr2 nd2 ha hdx ndx hb hdy ndy;refine⟨jB,λlK hlK=>?_⟩;have m3:=ao hlK (.lst [.ref a,.ref b]);have eK:upd H2 lK (.lst [.ref a,.ref b]) lK=some (.lst [.ref a,.ref b]):=ag;generalize upd H2 lK (.lst [.ref a,.ref b])=H3 at m3 eK ⊢;refine λh0 g0=>⟨(by show 0≤sizeLine;exact OZ _),λlw g1=>⟨(by show 0≤sizeLine;exact OZ _),λll g2=>⟨(by show 0≤sizeLine;exact OZ _),λlp g3=>?_⟩⟩⟩
 obtain⟨q4,hs4,m4,fC⟩:=nZ (K:=K) g0 g1 g2 g3;refine⟨q4,ki 0 lw ll lp,Z,(by show 4≤15;decide),?_⟩;rw[uR];clear q4;generalize upd (upd (upd (upd (upd H3 h0 (.dK [])) lw (.lst [])) ll (.lst [])) lp (.lst [])) h0 (.dK (ki 0 lw ll lp))=H4 at hs4 m4 ⊢;clear g0 g1 g2 g3;refine λh1 g0=>⟨(by show 0≤sizeLine;exact OZ _),λlw1 g1=>⟨(by show 0≤sizeLine;exact OZ _),λll1 g2=>⟨(by show 0≤sizeLine;exact OZ _),λlp1 g3=>?_⟩⟩⟩
 obtain⟨q5,hs5,m5,fD⟩:=nZ (K:=K) g0 g1 g2 g3;refine⟨q5,ki 0 lw1 ll1 lp1,Z,(by show 4≤15;decide),?_⟩;rw[uR];clear q5;generalize upd (upd (upd (upd (upd H4 h1 (.dK [])) lw1 (.lst [])) ll1 (.lst [])) lp1 (.lst [])) h1 (.dK (ki 0 lw1 ll1 lp1))=H5 at hs5 m5 ⊢;clear g0 g1 g2 g3;refine⟨jB,λlH hlH=>?_⟩;have m6:=ao hlH (.lst [.ref h0,.ref h1]);have eH:upd H5 lH (.lst [.ref h0,.ref h1]) lH=some (.lst [.ref h0,.ref h1]):=ag;generalize upd H5 lH (.lst [.ref h0,.ref h1])=H6 at m6 eH ⊢;obtain⟨F,W0⟩:=vy (p:=⟨a,lk,lr,ld,h0,lw,ll,lp⟩) (q:=⟨b,mk,mr,md,h1,lw1,ll1,lp1⟩) m1 fA kp1 m2 fB kp2 hlK m3 eK m4 fC hs4 m5 fD hs5 hlH m6 eH;clear m1 fA kp1 m2 fB kp2 hlK m3 eK m4 fC hs4 m5 fD hs5 hlH m6 eH;generalize Lc ⟨a,lk,lr,ld,h0,lw,ll,lp⟩ ⟨b,mk,mr,md,h1,lw1,ll1,lp1⟩=p at F W0;refine⟨Ks,λpf hpf=>?_⟩;have s7:=ao hpf (.lst [.int 32,.int 24,.int 16,.int 80]);have e7:upd H6 pf (.lst [.int 32,.int 24,.int 16,.int 80]) pf=some (.lst [.int 32,.int 24,.int 16,.int 80]):=ag;have W1:=W0.same s7;generalize upd H6 pf (.lst [.int 32,.int 24,.int 16,.int 80])=H7 at e7 W1 ⊢;refine⟨_,Z,a₀,ns,0,Z,W1.sm.seq hS,λz=>?_⟩;refine⟨_,_,Z,Z,(by show(0:Int)<4;decide),?_⟩;obtain⟨m,hm,m80⟩:∃m:Nat,oB [V.int 32,.int 24,.int 16,.int 80] (z%4)=some (.int m)/\m≤80:=by
  rcases(show z%4=0∨z%4=1∨z%4=2∨z%4=3 by omega) with e|e|e|e<;>rw[e]
  ·exact⟨32,Z,by decide⟩
  ·exact⟨24,Z,by decide⟩
  ·exact⟨16,Z,by decide⟩
  ·exact⟨80,Z,by decide⟩
 refine⟨pf,_,_,_,Z,Z,aS.of e7,hm,?_⟩;clear e7 hm W0;let Iv1:Nat->L2.St->Hp->Prop:=λi σ H'=>∃(x4 x5 x6:Option V),σ=[some (.ref a₀),some (.ref lK),some (.ref lH),some (.int m),x4,x5,x6]/\Wd K t.c_Keeper H p lK lH H'
 refine⟨_,Z,m,Z,by omega,by omega,fw (lo:=0) (n:=(m:Int).toNat) Iv1 ⟨none,none,none,Z,W1⟩ ?_ ?_⟩
 ·rintro i σ HA hi ⟨x4,x5,x6,rfl,WA⟩;rw[TX];refine⟨_,Z,_,Z,_,_,Z,Z,(by show(0:Int)<40;decide),a₀,ns,i%40,(by show [V.ref a₀,V.int (((i:Nat):Int)%40)]=_;rw[show((i:Nat):Int)%40=((i%40:Nat):Int) by omega]),WA.sm.seq hS,λz=>?_⟩;refine⟨_,Z,_,_,Z,Z,.inl ⟨by omega,by omega⟩,_,_,Z,Z,_,20,Z,by decide,by decide,λl nz HB sB hl0 hlB hln=>?_⟩;have WB:=WA.same sB;have nl:=λc=>WA.out hl0 c
  refine⟨jB,λt₁ ht=>?_⟩;have nt:=λc=>WB.out ht c
  have n1:l≠t₁:=λz=>by subst z;rw[hlB] at ht;cases ht
  have sC:=ao ht (.lst [.ref l,.int 0]);have T1:cR (upd HB t₁ (.lst [.ref l,.int 0])) t₁ l:=⟨nz,0,ag,sC _ _ hlB,n1,by omega,by omega⟩;have WC:=WB.same sC;clear hl0 hlB hln WA sB;generalize upd HB t₁ (.lst [.ref l,.int 0])=HC at T1 WC sC ⊢;refine⟨_,Z,t₁,l,3,Z,T1,by omega,by omega,λr xD _ _ T2=>?_⟩;have zD:=fP.tp (H:=HC) (t:=t₁) (.lst xD);have WD:=WB.stay ht WC zD (i3 zD T1 T2);generalize upd HC t₁ (.lst xD)=HD at T2 WD ⊢;refine⟨Z,.inr ⟨_,Z,?_⟩⟩;generalize decide (V.int r=V.int 0)=c;obtain⟨s,pr⟩:=WD.pr c;have iK:oB [V.ref (p false).a,.ref (p true).a] (if c=true then 1 else 0)=some (.ref (p c).a):=by cases c<;>rfl
  have iH:oB [V.ref (p false).h,.ref (p true).h] (if c=true then 1 else 0)=some (.ref (p c).h):=by cases c<;>rfl
  refine⟨_,Z,_,Z,_,Z,lK,_,_,_,Z,Z,aS.of WD.hK,iK,_,Z,_,Z,lH,_,_,_,Z,Z,aS.of WD.hH,iH,t₁,l,p c,s,Z,T2,pr,nt c,nl c,λs' HE zE T3 prE ttE=>⟨_,Z,fN ?_⟩⟩;have WE:=WB.step ht WD F c zE ttE prE;obtain⟨u0,pr0⟩:=WE.pr false;refine⟨_,Z,_,Z,lK,_,_,_,Z,Z,aS.of WE.hK,Z,_,Z,lH,_,_,_,Z,Z,aS.of WE.hH,Z,t₁,l,p false,u0,Z,T3,pr0,nt false,λHF zF T4=>⟨_,Z,?_⟩⟩;have WF:=WB.stay ht WE zF (i3 zF T3 T4);obtain⟨u1,pr1⟩:=WF.pr true;refine fN ?_;refine⟨_,Z,_,Z,lK,_,_,_,Z,Z,aS.of WF.hK,Z,_,Z,lH,_,_,_,Z,Z,aS.of WF.hH,Z,t₁,l,p true,u1,Z,T4,pr1,nt true,λHG zG T5=>⟨_,Z,fN ?_⟩⟩;exact⟨_,_,_,Z,WB.stay ht WF zG (i3 zG T4 T5)⟩
 ·rintro σ HA ⟨x4,x5,x6,rfl,WA⟩;refine⟨λn σ H'=>∃(y4 y5 y6:Option V) (u:ef),σ=[some (.ref a₀),some (.ref lK),some (.ref lH),some (.int m),y4,y5,y6]/\Wd K t.c_Keeper H p lK lH H'/\Pr K t.c_Keeper H' (p false) u/\n=24-u.tn,?_,?_⟩
  ·obtain⟨u,q⟩:=WA.pr false;exact⟨_,x4,x5,x6,u,Z,WA,q,Z⟩
  rintro n σ HB ⟨y4,y5,y6,u,rfl,WB,q,rfl⟩;refine⟨_,Z,Z,_,Z,LJ (b2:=decide ((u.tn:Int)<24)) (λQ q'=>⟨_,Z,lH,_,_,_,Z,Z,aS.of WB.hH,Z,(p false).h,_,Z,rE q.hs.dk,_,_,Z,Z,_,Z,q'⟩) ?_⟩
  cases hb:(decide (V.int m=V.int 80)&&decide ((u.tn:Int)<24)) with
  |true=>
   rw[O2] at hb;have ct:=of_decide_eq_true hb.2;refine gD ⟨_,λ_ _ z=>z,?_⟩;obtain⟨dx1,hi1⟩:=q.kp.ins;refine⟨_,Z,lK,_,_,_,Z,Z,aS.of WB.hK,Z,(p false).a,_,_,Z,hi1,Z,(p false).a,(p false).lk,(p false).lr,(p false).ld,u,Z,q.kp,q.ok,(λz=>absurd z (by omega)),λ_ q0 v2 H2 G wG kp2 tv2=>?_⟩;have hs2:=q.pair (H2:=H2) wG kp2;have few:=G.few;have lq:(cL (ba u.rs) q0).length≤20:=by unfold cL;rw[OD];exact few
   have olen:=q.ok.len;have ofew:=q.ok.few;have shq:=IZ lq λc hc=>⟨by have:=(G.pc c hc).1;omega,(G.pc c hc).2⟩
   have hH2:=kU.stl wG lH _ (λz=>F.nH false (((p false).mem lH).mpr (.inl z))) WB.hH;refine⟨v2,_,Z,tv2.deep,shq,_,Z,lH,_,_,_,Z,Z,aS.of hH2,Z,(p false).h,(p false).lw,(p false).ll,(p false).lp,u,q0,Z,hs2,q.ok,by omega,G,λv3 H3 xE hs3 tv3=>⟨v3,_,Z,tv3.deep,shq,Z,_,Z,AU Z ?_⟩⟩;have z13:fP (p false).l HB H3:=((kU.stl wG).sub (S':=(p false).l) λx hx=>((p false).mem x).mpr (.inl hx)).trans ((kU.stl xE).sub λx hx=>((p false).mem x).mpr (.inr hx));have q3:Pr K t.c_Keeper H3 (p false) (KL u (cL (ba u.rs) q0)):=⟨kp2.house q.dj hs2 xE,hs3,G.ok,q.dj⟩;exact⟨24-(u.tn+1),by omega,y4,y5,y6,_,Z,WB.turn F false z13 ((q.kp.tst wG).trans (hs2.tst xE)) q3,q3,Z⟩
  |false=>
   refine fN ?_;refine⟨BP,λl1 hl1=>?_⟩;have s1:=ao hl1 (.lst [.int 0]);have e1:upd HB l1 (.lst [.int 0]) l1=some (.lst ([0].map V.int)):=ag;have W1':=WB.same s1;generalize upd HB l1 (.lst [.int 0])=HC at e1 W1' s1 ⊢;refine⟨jB,λt1 ht1=>?_⟩;have n1:l1≠t1:=λz=>by subst z;rw[e1] at ht1;cases ht1
   have s2:=ao ht1 (.lst [.ref l1,.int 0]);have T1:cR (upd HC t1 (.lst [.ref l1,.int 0])) t1 l1:=⟨[0],0,ag,s2 _ _ e1,n1,by decide,by decide⟩;have W2:=W1'.same s2;generalize upd HC t1 (.lst [.ref l1,.int 0])=HD at T1 W2 s2 ⊢;obtain⟨u0,pr0⟩:=W2.pr false;refine⟨_,Z,lK,_,_,_,Z,Z,aS.of W2.hK,Z,_,Z,lH,_,_,_,Z,Z,aS.of W2.hH,Z,t1,l1,p false,u0,Z,T1,pr0,W1'.out ht1 false,λHE zE T2=>?_⟩;have W3:=W1'.stay ht1 W2 zE (i3 zE T1 T2);refine⟨_,Z,gD ?_⟩;clear W2 T1 T2 s2 s1 e1 W1' pr0 zE;refine⟨BP,λl2 hl2=>?_⟩;have s1:=ao hl2 (.lst [.int 1]);have e1:upd HE l2 (.lst [.int 1]) l2=some (.lst ([1].map V.int)):=ag;have W4:=W3.same s1;generalize upd HE l2 (.lst [.int 1])=HF at e1 W4 s1 ⊢;refine⟨jB,λt2 ht2=>?_⟩;have n2:l2≠t2:=λz=>by subst z;rw[e1] at ht2;cases ht2
   have s2:=ao ht2 (.lst [.ref l2,.int 0]);have T1:cR (upd HF t2 (.lst [.ref l2,.int 0])) t2 l2:=⟨[1],0,ag,s2 _ _ e1,n2,by decide,by decide⟩;have W5:=W4.same s2;generalize upd HF t2 (.lst [.ref l2,.int 0])=HG at T1 W5 s2 ⊢;obtain⟨u1,pr1⟩:=W5.pr true;exact⟨_,Z,lK,_,_,_,Z,Z,aS.of W5.hK,Z,_,Z,lH,_,_,_,Z,Z,aS.of W5.hH,Z,t2,l2,p true,u1,Z,T1,pr1,W4.out ht2 true,λHH _ _=>k _⟩
end
set_option autoImplicit true in
set_option relaxedAutoImplicit true in
open PySem.W in
theorem all_mk{l:OpenLaw}{w:PM}{K:Frag}{h:OR}{mg:Pf->Option Value}{fa:Addr}(X:K.In h)(G:h.Ns Pj mg)(hfa:mg "law"=some (.ref fa))
  {c_Keeper:Addr} (p_Keeper:nsIn K Pj "Keeper"=some (some (.ref c_Keeper))) (x1_Keeper:plainGet K c_Keeper Pf.empty=true) (x2_Keeper:hasDictIn K c_Keeper=true) (x3_Keeper:plainOver K c_Keeper=true) (x4_Keeper:findIn K (.ref c_Keeper) "__setattr__"=some (some (.builtin "object.__setattr__"))) (x5_Keeper:makesIn K c_Keeper=true) (x6_Keeper:keepIn K (.ref c_Keeper)=true)
  (na_Keeper_turn:findIn K (.ref c_Keeper) "turn"=some none) (na_Keeper_known:findIn K (.ref c_Keeper) "known"=some none) (na_Keeper_rest:findIn K (.ref c_Keeper) "rest"=some none) (na_Keeper_done:findIn K (.ref c_Keeper) "done"=some none)
  {f_Q33:Addr} {d_Q33:OK} (h_is_whole:dS K "is_whole" yW f_Q33 d_Q33)
  {f_Q11:Addr} {d_Q11:OK} (h_is_tuple_of:dS K "is_tuple_of" zr f_Q11 d_Q11)
  {f_Q6:Addr} {d_Q6:OK} (h_is_number_of:dS K "is_number_of" FC f_Q6 d_Q6)
  {f_Q0:Addr} {d_Q0:OK} (h_greatest_divisor:dS K "greatest_divisor" FI f_Q0 d_Q0)
  {f_Q34:Addr} {d_Q34:OK} (h_is_ratio:dS K "is_ratio" yV f_Q34 d_Q34)
  {f_Q1:Addr} {d_Q1:OK} (h_is_above_nought:dS K "is_above_nought" FH f_Q1 d_Q1)
  {f_Q55:Addr} {d_Q55:OK} (h_ratio:dS K "ratio" yE f_Q55 d_Q55)
  {f_Q60:Addr} {d_Q60:OK} (h_plus:dS K "plus" yz f_Q60 d_Q60)
  {f_Q56:Addr} {d_Q56:OK} (h_minus:dS K "minus" yD f_Q56 d_Q56)
  {f_Q57:Addr} {d_Q57:OK} (h_times:dS K "times" yC f_Q57 d_Q57)
  {f_Q61:Addr} {d_Q61:OK} (h_over:dS K "over" yy f_Q61 d_Q61)
  {f_Q46:Addr} {d_Q46:OK} (h_is_less:dS K "is_less" yJ f_Q46 d_Q46)
  {f_Q49:Addr} {d_Q49:OK} (h_lesser:dS K "lesser" yH f_Q49 d_Q49)
  {f_Q58:Addr} {d_Q58:OK} (h_total:dS K "total" yB f_Q58 d_Q58)
  {f_Q12:Addr} {d_Q12:OK} (h_whole_parts:dS K "whole_parts" zq f_Q12 d_Q12)
  {f_Q47:Addr} {d_Q47:OK} (h_is_work:dS K "is_work" yI f_Q47 d_Q47)
  {f_Q25:Addr} {d_Q25:OK} (h_in_window:dS K "in_window" zc f_Q25 d_Q25)
  {f_Q13:Addr} {d_Q13:OK} (h_no_leanings:dS K "no_leanings" zp f_Q13 d_Q13)
  {f_Q35:Addr} {d_Q35:OK} (h_add_lean:dS K "add_lean" yU f_Q35 d_Q35)
  {f_Q7:Addr} {d_Q7:OK} (h_all_leanings:dS K "all_leanings" FB f_Q7 d_Q7)
  {f_Q36:Addr} {d_Q36:OK} (h_drawn_in:dS K "drawn_in" yT f_Q36 d_Q36)
  {f_Q8:Addr} {d_Q8:OK} (h_kept_windows:dS K "kept_windows" Fz f_Q8 d_Q8)
  {f_Q62:Addr} {d_Q62:OK} (h_held:dS K "held" yx f_Q62 d_Q62)
  {f_Q2:Addr} {d_Q2:OK} (h_tightest_places:dS K "tightest_places" FG f_Q2 d_Q2)
  {f_Q37:Addr} {d_Q37:OK} (h_tightest:dS K "tightest" yS f_Q37 d_Q37)
  {f_Q50:Addr} {d_Q50:OK} (h_layers:dS K "layers" yG f_Q50 d_Q50)
  {f_Q3:Addr} {d_Q3:OK} (h_layer_density:dS K "layer_density" FF f_Q3 d_Q3)
  {f_Q9:Addr} {d_Q9:OK} (h_layer_speeds:dS K "layer_speeds" Fy f_Q9 d_Q9)
  {f_Q4:Addr} {d_Q4:OK} (h_first_to_come:dS K "first_to_come" FE f_Q4 d_Q4)
  {f_Q38:Addr} {d_Q38:OK} (h_order_of:dS K "order_of" yR f_Q38 d_Q38)
  {f_Q26:Addr} {d_Q26:OK} (h_deal_turn:dS K "deal_turn" zb f_Q26 d_Q26)
  {f_Q59:Addr} {d_Q59:OK} (h_dealt:dS K "dealt" yA f_Q59 d_Q59)
  {f_Q20:Addr} {d_Q20:OK} (h_least_plan:dS K "least_plan" zh f_Q20 d_Q20)
  {f_Q5:Addr} {d_Q5:OK} (h_waiting_works:dS K "waiting_works" FD f_Q5 d_Q5)
  {f_Q21:Addr} {d_Q21:OK} (h_renumbered:dS K "renumbered" zg f_Q21 d_Q21)
  {f_Q14:Addr} {d_Q14:OK} (h_law_cell_at:dS K "_law_cell_at" zo f_Q14 d_Q14)
  {f_Q27:Addr} {d_Q27:OK} (h_law_draws:dS K "_law_draws" za f_Q27 d_Q27)
  {f_Q39:Addr} {d_Q39:OK} (h_law_take:dS K "_law_take" yQ f_Q39 d_Q39)
  {f_Q40:Addr} {d_Q40:OK} (h_law_made:dS K "_law_made" yP f_Q40 d_Q40)
  {f_Q41:Addr} {d_Q41:OK} (h_law_plus:dS K "_law_plus" yO f_Q41 d_Q41)
  {f_Q28:Addr} {d_Q28:OK} (h_law_minus:dS K "_law_minus" y9 f_Q28 d_Q28)
  {f_Q51:Addr} {d_Q51:OK} (h_law_by:dS K "_law_by" yF f_Q51 d_Q51)
  {f_Q15:Addr} {d_Q15:OK} (h_law_is_less:dS K "_law_is_less" zn f_Q15 d_Q15)
  {f_Q29:Addr} {d_Q29:OK} (h_law_total:dS K "_law_total" yZ f_Q29 d_Q29)
  {f_Q42:Addr} {d_Q42:OK} (h_law_most:dS K "_law_most" yN f_Q42 d_Q42)
  {f_Q22:Addr} {d_Q22:OK} (h_law_pieces:dS K "_law_pieces" zf f_Q22 d_Q22)
  {f_Q43:Addr} {d_Q43:OK} (h_law_gone:dS K "_law_gone" yM f_Q43 d_Q43)
  {f_Q44:Addr} {d_Q44:OK} (h_law_come:dS K "_law_come" yL f_Q44 d_Q44)
  {f_Q30:Addr} {d_Q30:OK} (h_law_found:dS K "_law_found" yY f_Q30 d_Q30)
  {f_Q23:Addr} {d_Q23:OK} (h_law_stands:dS K "_law_stands" ze f_Q23 d_Q23)
  {f_Q45:Addr} {d_Q45:OK} (h_law_step:dS K "_law_step" yK f_Q45 d_Q45)
  {f_Q63:Addr} {d_Q63:OK} (h_law:dS K "law" yu f_Q63 d_Q63)
  {f_Q16:Addr} {d_Q16:OK} (h_Keeper_init:vv K c_Keeper "__init__" "Keeper.__init__" zm f_Q16 d_Q16)
  {f_Q17:Addr} {d_Q17:OK} (h_Keeper_come:vv K c_Keeper "come" "Keeper.come" zk f_Q17 d_Q17)
  {f_Q31:Addr} {d_Q31:OK} (h_Keeper_go:vv K c_Keeper "go" "Keeper.go" yX f_Q31 d_Q31)
  {f_Q24:Addr} {d_Q24:OK} (h_Keeper_now:vv K c_Keeper "now" "Keeper.now" zd f_Q24 d_Q24)
  {f_Q10:Addr} {d_Q10:OK} (h_Keeper_works:vv K c_Keeper "works" "Keeper.works" zt f_Q10 d_Q10)
  {f_Q18:Addr} {d_Q18:OK} (h_Keeper_left:vv K c_Keeper "left" "Keeper.left" zj f_Q18 d_Q18)
  {f_Q19:Addr} {d_Q19:OK} (h_Keeper_plan:vv K c_Keeper "plan" "Keeper.plan" zi f_Q19 d_Q19)
  {f_NOUGHT:Addr} {od_NOUGHT:Option Addr} {sl_NOUGHT:Array (Option Value)} {tkNOUGHT0 tkNOUGHT1:Ys} {n_NOUGHT:Nat} (p_NOUGHT:nsIn K Pj "NOUGHT"=some (some (.ref f_NOUGHT))) (l_NOUGHT:K.lookup f_NOUGHT=some ⟨.type "tuple",od_NOUGHT,.seq #[.int (0) tkNOUGHT0,.int (1) tkNOUGHT1] n_NOUGHT,sl_NOUGHT⟩)
  {tkTURNS:Ys} (p_TURNS:nsIn K Pj "TURNS"=some (some (.int (24) tkTURNS)))
  {tkMOST_WORKS:Ys} (p_MOST_WORKS:nsIn K Pj "MOST_WORKS"=some (some (.int (20) tkMOST_WORKS)))
  {cB NB:Addr} {nmB qB:Pf} {bsB:List Value} {hdB:Bool} {snB:List Pf} {suB:List Value} {abB:Bool} {coB:Option Bool} {ddB:Option Addr} {j0 j1 j2 j3 j5:Option Value} {ocB:Value} {odB:Option Addr} {esB:Array VL} {nB:Nat} {slB:Array (Option Value)}
  (pB:nsIn K Pj "PaceError"=some (some (.ref cB))) (lB:K.lookup cB=some (RB nmB qB cB NB bsB [.type "ValueError",.type "Exception",.type "BaseException",.type "object"] hdB snB suB abB coB ddB j0 j1 j2 j3 j5 "ValueError.__new__")) (lnB:K.lookup NB=some ⟨ocB,odB,.dict esB nB,slB⟩) (hsB:lD esB=true) (hnB:(nsFind esB "__init__").isNone=true)
  (cgB:specialIn K (.builtin "object.__class__") "__get__"=some (some (.builtin "getset_descriptor.__get__"))) (ctB:takesIn K (.builtin "object.__class__")=some true)
  {c_Q52 N_Q52 i_Q52:Addr} {nm_Q52 q_Q52:Pf} {bs_Q52:List Value} {hd_Q52:Bool} {sn_Q52:List Pf} {su_Q52:List Value} {ab_Q52:Bool} {co_Q52:Option Bool} {dd_Q52:Option Addr} {k0_Q52 k1_Q52 k2_Q52 k3_Q52 k5_Q52:Option Value} {od_Q52 an_Q52:Option Addr} {sl_Q52:Array (Option Value)} {oc_Q52 kV_Q52 dc_Q52 pm_Q52 cd_Q52 ct_Q52:Value}
  (p_Q52:nsIn K Pj "NoWork"=some (some (.ref c_Q52))) (lc_Q52:K.lookup c_Q52=some (RB nm_Q52 q_Q52 c_Q52 N_Q52 bs_Q52 (.ref cB::[.type "ValueError",.type "Exception",.type "BaseException",.type "object"]) hd_Q52 sn_Q52 su_Q52 ab_Q52 co_Q52 dd_Q52 k0_Q52 k1_Q52 k2_Q52 k3_Q52 k5_Q52 "ValueError.__new__")) (fi_Q52:findIn K (.ref c_Q52) "__init__"=some (some (.ref i_Q52)))
  (l_Q52:K.lookup i_Q52=some ⟨oc_Q52,od_Q52,.func (fnOf "__init__" "NoWork.__init__" (di nN) (cM nN) (ay nN) .none kV_Q52 dc_Q52 pm_Q52 an_Q52 cd_Q52 ct_Q52),sl_Q52⟩) (cd_Q52_:codeIn K cd_Q52 "NoWork.__init__"=true) (ki_Q52:keepIn K (.ref i_Q52)=true) (ti_Q52:typeIn K (.ref i_Q52)=some (.type "function")) (kc_Q52:keepIn K (.ref c_Q52)=true)
  (hh_Q52:hasDictIn K c_Q52=true) (sa_Q52:findIn K (.ref c_Q52) "__setattr__"=some (some (.builtin "object.__setattr__")))
  (na_Q52_text:findIn K (.ref c_Q52) "text"=some none) (ga_Q52:findIn K (.ref c_Q52) "__getattribute__"=some (some (.builtin "BaseException.__getattribute__"))) (gn_Q52:findIn K (.ref c_Q52) "__getattr__"=some none) (cl_Q52:findIn K (.ref c_Q52) "__class__"=some (some (.builtin "object.__class__")))
  {c_Q53 N_Q53 i_Q53:Addr} {nm_Q53 q_Q53:Pf} {bs_Q53:List Value} {hd_Q53:Bool} {sn_Q53:List Pf} {su_Q53:List Value} {ab_Q53:Bool} {co_Q53:Option Bool} {dd_Q53:Option Addr} {k0_Q53 k1_Q53 k2_Q53 k3_Q53 k5_Q53:Option Value} {od_Q53 an_Q53:Option Addr} {sl_Q53:Array (Option Value)} {oc_Q53 kV_Q53 dc_Q53 pm_Q53 cd_Q53 ct_Q53:Value}
  (p_Q53:nsIn K Pj "NoTurn"=some (some (.ref c_Q53))) (lc_Q53:K.lookup c_Q53=some (RB nm_Q53 q_Q53 c_Q53 N_Q53 bs_Q53 (.ref cB::[.type "ValueError",.type "Exception",.type "BaseException",.type "object"]) hd_Q53 sn_Q53 su_Q53 ab_Q53 co_Q53 dd_Q53 k0_Q53 k1_Q53 k2_Q53 k3_Q53 k5_Q53 "ValueError.__new__")) (fi_Q53:findIn K (.ref c_Q53) "__init__"=some (some (.ref i_Q53)))
  (l_Q53:K.lookup i_Q53=some ⟨oc_Q53,od_Q53,.func (fnOf "__init__" "NoTurn.__init__" (di nM) (cM nM) (ay nM) .none kV_Q53 dc_Q53 pm_Q53 an_Q53 cd_Q53 ct_Q53),sl_Q53⟩) (cd_Q53_:codeIn K cd_Q53 "NoTurn.__init__"=true) (ki_Q53:keepIn K (.ref i_Q53)=true) (ti_Q53:typeIn K (.ref i_Q53)=some (.type "function")) (kc_Q53:keepIn K (.ref c_Q53)=true)
  (hh_Q53:hasDictIn K c_Q53=true) (sa_Q53:findIn K (.ref c_Q53) "__setattr__"=some (some (.builtin "object.__setattr__")))
  (na_Q53_text:findIn K (.ref c_Q53) "text"=some none) (ga_Q53:findIn K (.ref c_Q53) "__getattribute__"=some (some (.builtin "BaseException.__getattribute__"))) (gn_Q53:findIn K (.ref c_Q53) "__getattr__"=some none) (cl_Q53:findIn K (.ref c_Q53) "__class__"=some (some (.builtin "object.__class__")))
  {c_Q32:Addr} (p_Q32:nsIn K Pj "PaceError"=some (some (.ref c_Q32)))
  {c_Q54:Addr} (p_Q54:nsIn K Pj "NoRoom"=some (some (.ref c_Q54)))
  {c_Q48:Addr} (p_Q48:nsIn K Pj "NoRatio"=some (some (.ref c_Q48)))
  (z_abs:nsIn K Pj "abs"=some none)
  (z_any:nsIn K Pj "any"=some none)
  (z_bool:nsIn K Pj "bool"=some none)
  (z_enumerate:nsIn K Pj "enumerate"=some none)
  (z_int:nsIn K Pj "int"=some none)
  (z_isinstance:nsIn K Pj "isinstance"=some none)
  (z_len:nsIn K Pj "len"=some none)
  (z_list:nsIn K Pj "list"=some none)
  (z_max:nsIn K Pj "max"=some none)
  (z_min:nsIn K Pj "min"=some none)
  (z_range:nsIn K Pj "range"=some none)
  (z_repr:nsIn K Pj "repr"=some none)
  (z_sorted:nsIn K Pj "sorted"=some none)
  (z_sum:nsIn K Pj "sum"=some none)
  (z_tuple:nsIn K Pj "tuple"=some none)
  : ∃fd:OK,(∀(s:OI) (v:Value),U7 s fd ⟨[v],[]⟩ [("_law_script",v)])/\∀base:OR,K.In base->base.Ns Pj mg->bn l.prog w K mg base dm 9 fa fd ["_law_script"] (oU K):=by
 have e:=hfa.symm.trans (mg_of X G h_law.p)
 cases e
 obtain⟨_,_,_,_,_,_,_,_,_,rfl,_,_⟩:=h_law.F.ex;have F_Q52:=pW (st:=nN) l_Q52 cd_Q52_ ki_Q52;have F_Q53:=pW (st:=nM) l_Q53 cd_Q53_ ki_Q53;have T:dP K mg ⟨f_Q33,_,f_Q11,_,f_Q6,_,f_Q0,_,f_Q34,_,f_Q1,_,f_Q55,_,f_Q60,_,f_Q56,_,f_Q57,_,f_Q61,_,f_Q46,_,f_Q49,_,f_Q58,_,f_Q12,_,f_Q47,_,f_Q25,_,f_Q13,_,f_Q35,_,f_Q7,_,f_Q36,_,f_Q8,_,f_Q62,_,f_Q2,_,f_Q37,_,f_Q50,_,f_Q3,_,f_Q9,_,f_Q4,_,f_Q38,_,f_Q26,_,f_Q59,_,f_Q20,_,f_Q5,_,f_Q21,_,f_Q14,_,f_Q27,_,f_Q39,_,f_Q40,_,f_Q41,_,f_Q28,_,f_Q51,_,f_Q15,_,f_Q29,_,f_Q42,_,f_Q22,_,f_Q43,_,f_Q44,_,f_Q30,_,f_Q23,_,f_Q45,_,fa,_,f_Q16,_,f_Q17,_,f_Q31,_,f_Q24,_,f_Q10,_,f_Q18,_,f_Q19,_,c_Keeper,f_NOUGHT,tkTURNS,tkMOST_WORKS,cB,c_Q52,i_Q52,_,c_Q53,i_Q53,_,c_Q32,c_Q54,c_Q48⟩:={
  F_Q33:=h_is_whole.F,b_Q33:=h_is_whole.b1,m_Q33:=mg_of X G h_is_whole.p,
  F_Q11:=h_is_tuple_of.F,b_Q11:=h_is_tuple_of.b2,m_Q11:=mg_of X G h_is_tuple_of.p,
  F_Q6:=h_is_number_of.F,b_Q6:=h_is_number_of.b2,m_Q6:=mg_of X G h_is_number_of.p,
  F_Q0:=h_greatest_divisor.F,b_Q0:=h_greatest_divisor.b2,m_Q0:=mg_of X G h_greatest_divisor.p,
  F_Q34:=h_is_ratio.F,b_Q34:=h_is_ratio.b1,m_Q34:=mg_of X G h_is_ratio.p,
  F_Q1:=h_is_above_nought.F,b_Q1:=h_is_above_nought.b1,m_Q1:=mg_of X G h_is_above_nought.p,
  F_Q55:=h_ratio.F,b_Q55:=h_ratio.b2,m_Q55:=mg_of X G h_ratio.p,
  F_Q60:=h_plus.F,b_Q60:=h_plus.b2,m_Q60:=mg_of X G h_plus.p,
  F_Q56:=h_minus.F,b_Q56:=h_minus.b2,m_Q56:=mg_of X G h_minus.p,
  F_Q57:=h_times.F,b_Q57:=h_times.b2,m_Q57:=mg_of X G h_times.p,
  F_Q61:=h_over.F,b_Q61:=h_over.b2,m_Q61:=mg_of X G h_over.p,
  F_Q46:=h_is_less.F,b_Q46:=h_is_less.b2,m_Q46:=mg_of X G h_is_less.p,
  F_Q49:=h_lesser.F,b_Q49:=h_lesser.b2,m_Q49:=mg_of X G h_lesser.p,
  F_Q58:=h_total.F,b_Q58:=h_total.b1,m_Q58:=mg_of X G h_total.p,
  F_Q12:=h_whole_parts.F,b_Q12:=h_whole_parts.b1,m_Q12:=mg_of X G h_whole_parts.p,
  F_Q47:=h_is_work.F,b_Q47:=h_is_work.b1,m_Q47:=mg_of X G h_is_work.p,
  F_Q25:=h_in_window.F,b_Q25:=h_in_window.b2,m_Q25:=mg_of X G h_in_window.p,
  F_Q13:=h_no_leanings.F,b_Q13:=h_no_leanings.b1,m_Q13:=mg_of X G h_no_leanings.p,
  F_Q35:=h_add_lean.F,b_Q35:=h_add_lean.b2,m_Q35:=mg_of X G h_add_lean.p,
  F_Q7:=h_all_leanings.F,b_Q7:=h_all_leanings.b2,m_Q7:=mg_of X G h_all_leanings.p,
  F_Q36:=h_drawn_in.F,b_Q36:=h_drawn_in.b1,m_Q36:=mg_of X G h_drawn_in.p,
  F_Q8:=h_kept_windows.F,b_Q8:=h_kept_windows.b2,m_Q8:=mg_of X G h_kept_windows.p,
  F_Q62:=h_held.F,b_Q62:=h_held.b3,m_Q62:=mg_of X G h_held.p,
  F_Q2:=h_tightest_places.F,b_Q2:=h_tightest_places.b3,m_Q2:=mg_of X G h_tightest_places.p,
  F_Q37:=h_tightest.F,b_Q37:=h_tightest.b2,m_Q37:=mg_of X G h_tightest.p,
  F_Q50:=h_layers.F,b_Q50:=h_layers.b1,m_Q50:=mg_of X G h_layers.p,
  F_Q3:=h_layer_density.F,b_Q3:=h_layer_density.b2,m_Q3:=mg_of X G h_layer_density.p,
  F_Q9:=h_layer_speeds.F,b_Q9:=h_layer_speeds.b1,m_Q9:=mg_of X G h_layer_speeds.p,
  F_Q4:=h_first_to_come.F,b_Q4:=h_first_to_come.b3,m_Q4:=mg_of X G h_first_to_come.p,
  F_Q38:=h_order_of.F,b_Q38:=h_order_of.b2,m_Q38:=mg_of X G h_order_of.p,
  F_Q26:=h_deal_turn.F,b_Q26:=h_deal_turn.b5,m_Q26:=mg_of X G h_deal_turn.p,
  F_Q59:=h_dealt.F,b_Q59:=h_dealt.b3,m_Q59:=mg_of X G h_dealt.p,
  F_Q20:=h_least_plan.F,b_Q20:=h_least_plan.b1,m_Q20:=mg_of X G h_least_plan.p,
  F_Q5:=h_waiting_works.F,b_Q5:=h_waiting_works.b3,m_Q5:=mg_of X G h_waiting_works.p,
  F_Q21:=h_renumbered.F,b_Q21:=h_renumbered.b2,m_Q21:=mg_of X G h_renumbered.p,
  F_Q14:=h_law_cell_at.F,b_Q14:=h_law_cell_at.b2,m_Q14:=mg_of X G h_law_cell_at.p,
  F_Q27:=h_law_draws.F,b_Q27:=h_law_draws.b2,m_Q27:=mg_of X G h_law_draws.p,
  F_Q39:=h_law_take.F,b_Q39:=h_law_take.b2,m_Q39:=mg_of X G h_law_take.p,
  F_Q40:=h_law_made.F,b_Q40:=h_law_made.b2,m_Q40:=mg_of X G h_law_made.p,
  F_Q41:=h_law_plus.F,b_Q41:=h_law_plus.b2,m_Q41:=mg_of X G h_law_plus.p,
  F_Q28:=h_law_minus.F,b_Q28:=h_law_minus.b2,m_Q28:=mg_of X G h_law_minus.p,
  F_Q51:=h_law_by.F,b_Q51:=h_law_by.b2,m_Q51:=mg_of X G h_law_by.p,
  F_Q15:=h_law_is_less.F,b_Q15:=h_law_is_less.b2,m_Q15:=mg_of X G h_law_is_less.p,
  F_Q29:=h_law_total.F,b_Q29:=h_law_total.b1,m_Q29:=mg_of X G h_law_total.p,
  F_Q42:=h_law_most.F,b_Q42:=h_law_most.b1,m_Q42:=mg_of X G h_law_most.p,
  F_Q22:=h_law_pieces.F,b_Q22:=h_law_pieces.b2,m_Q22:=mg_of X G h_law_pieces.p,
  F_Q43:=h_law_gone.F,b_Q43:=h_law_gone.b1,m_Q43:=mg_of X G h_law_gone.p,
  F_Q44:=h_law_come.F,b_Q44:=h_law_come.b2,m_Q44:=mg_of X G h_law_come.p,
  F_Q30:=h_law_found.F,b_Q30:=h_law_found.b2,m_Q30:=mg_of X G h_law_found.p,
  F_Q23:=h_law_stands.F,b_Q23:=h_law_stands.b3,m_Q23:=mg_of X G h_law_stands.p,
  F_Q45:=h_law_step.F,b_Q45:=h_law_step.b3,m_Q45:=mg_of X G h_law_step.p,
  F_Q63:=h_law.F,b_Q63:=h_law.b1,m_Q63:=mg_of X G h_law.p,
  F_Q16:=h_Keeper_init.F,b_Q16:=h_Keeper_init.b1,K_Keeper:=⟨x5_Keeper,h_Keeper_init.p,h_Keeper_init.fn,x6_Keeper⟩,
  F_Q17:=h_Keeper_come.F,b_Q17:=h_Keeper_come.b3,M_Keeper_come:=h_Keeper_come.meth,
  F_Q31:=h_Keeper_go.F,b_Q31:=h_Keeper_go.b1,M_Keeper_go:=h_Keeper_go.meth,
  F_Q24:=h_Keeper_now.F,b_Q24:=h_Keeper_now.b1,M_Keeper_now:=h_Keeper_now.meth,
  F_Q10:=h_Keeper_works.F,b_Q10:=h_Keeper_works.b1,M_Keeper_works:=h_Keeper_works.meth,
  F_Q18:=h_Keeper_left.F,b_Q18:=h_Keeper_left.b1,M_Keeper_left:=h_Keeper_left.meth,
  F_Q19:=h_Keeper_plan.F,b_Q19:=h_Keeper_plan.b1,M_Keeper_plan:=h_Keeper_plan.meth,
  m_Keeper:=mg_of X G p_Keeper,cl_Keeper:=⟨x1_Keeper,x2_Keeper,x3_Keeper,x4_Keeper⟩,n_Keeper_turn:=na_Keeper_turn,n_Keeper_known:=na_Keeper_known,n_Keeper_rest:=na_Keeper_rest,n_Keeper_done:=na_Keeper_done,
  m_NOUGHT:=mg_of X G p_NOUGHT,q_NOUGHT:=λH=>.inr ⟨_,_,_,l_NOUGHT,Z,Z,jB,(.cons ⟨_,Z⟩ (.cons ⟨_,Z⟩ .nil))⟩,
  m_TURNS:=mg_of X G p_TURNS,
  m_MOST_WORKS:=mg_of X G p_MOST_WORKS,
  X_Q52:=DY lc_Q52 lB lnB hsB hnB fi_Q52 ti_Q52 kc_Q52 hh_Q52 sa_Q52,F_Q52:=F_Q52,b_Q52:=MK F_Q52,m_Q52:=mg_of X G p_Q52,n_Q52_text:=na_Q52_text,g_Q52:=⟨ga_Q52,gn_Q52,cl_Q52,cgB,ctB⟩,
  X_Q53:=DY lc_Q53 lB lnB hsB hnB fi_Q53 ti_Q53 kc_Q53 hh_Q53 sa_Q53,F_Q53:=F_Q53,b_Q53:=MK F_Q53,m_Q53:=mg_of X G p_Q53,n_Q53_text:=na_Q53_text,g_Q53:=⟨ga_Q53,gn_Q53,cl_Q53,cgB,ctB⟩,
  m_Q32:=mg_of X G p_Q32,
  m_Q54:=mg_of X G p_Q54,
  m_Q48:=mg_of X G p_Q48,
  z_abs:=mg_none_of X G z_abs,z_any:=mg_none_of X G z_any,z_bool:=mg_none_of X G z_bool,z_enumerate:=mg_none_of X G z_enumerate,z_int:=mg_none_of X G z_int,z_isinstance:=mg_none_of X G z_isinstance,z_len:=mg_none_of X G z_len,z_list:=mg_none_of X G z_list,z_max:=mg_none_of X G z_max,z_min:=mg_none_of X G z_min,z_range:=mg_none_of X G z_range,z_repr:=mg_none_of X G z_repr,z_sorted:=mg_none_of X G z_sorted,z_sum:=mg_none_of X G z_sum,z_tuple:=mg_none_of X G z_tuple}
 exact⟨_,λs v=>.of_eq Z,λbase _ _=>Gs T⟩
theorem walk{l:Xu}{loose:List Pf}{XP:(Pf->Option Value)->OR->Prop}{YP:PM->OR->Prop}{d:DefRec}{K:Params->Oz}(hn:l.most=some 63)(hdf:d.params.defaults=[])
  (hY:∀(w:PM) (h:OR),YP w h->(K w.params).In h)
  (F:∀(w:PM) (mg:Pf->Option Value) (fa:Addr) (h:OR),(K w.params).In h->h.Ns Pj mg->mg d.name=some (.ref fa)→
   ∃fd:OK,(∀(s:OI) (u:Value),U7 s fd ⟨[u],[]⟩ [("_law_script",u)])/\∀base:OR,(K w.params).In base->base.Ns Pj mg->bn l.prog w (K w.params) mg base dm 9 fa fd ["_law_script"] (oU (K w.params))):
  X7 q loose XP YP l.row.toRowW d [] (λf vs=>XU f vs):=
 L2.walk_of (n:=63) (k:=9) (x := "_law_script") (CX:=λ_=>dm) (sp:=λw=>oU (K w.params)) hn (by decide) hdf ⟨Z,by decide,by decide,Z⟩ hY F (λ_ _ a ns hl _ hS=>⟨a,ns,Z,hS,hl,λ_=>Z⟩) λ_ _ _ _ _ z=>z
end My
open PySem PySem.W PyProof.Rows
set_option maxRecDepth 100000 in
set_option maxHeartbeats 0 in
theorem PySem.Challenge.cw_paceplan_k64_keepers_walked_holds : PySem.Challenge.rw_paceplan_k64_keepers_walked.Holds := by
 w_on;refine HWtop ?_
 k_fill
 refine My.walk (l:=PySem.Challenge.rw_paceplan_k64_keepers_walked) rfl rfl (fun w h Y=>PySem.W.kIn_of Y) ?F
 case F=>
  intro w mg fa h KX G hmg
  refine' My.all_mk KX G hmg ?q0 ?q1 ?q2 ?q3 ?q4 ?q5 ?q6 ?q7 ?q8 ?q9 ?q10 ?q11 ?q12 ?q13 ?q14 ?q15 ?q16 ?q17 ?q18 ?q19 ?q20 ?q21 ?q22 ?q23 ?q24 ?q25 ?q26 ?q27 ?q28 ?q29 ?q30 ?q31 ?q32 ?q33 ?q34 ?q35 ?q36 ?q37 ?q38 ?q39 ?q40 ?q41 ?q42 ?q43 ?q44 ?q45 ?q46 ?q47 ?q48 ?q49 ?q50 ?q51 ?q52 ?q53 ?q54 ?q55 ?q56 ?q57 ?q58 ?q59 ?q60 ?q61 ?q62 ?q63 ?q64 ?q65 ?q66 ?q67 ?q68 ?q69 ?q70 ?q71 ?q72 ?q73 ?q74 ?q75 ?q76 ?q77 ?q78 ?q79 ?q80 ?q81 ?q82 ?q83 ?q84 ?q85 ?q86 ?q87 ?q88 ?q89 ?q90 ?q91 ?q92 ?q93 ?q94 ?q95 ?q96 ?q97 ?q98 ?q99 ?q100 ?q101 ?q102 ?q103 ?q104 ?q105 ?q106 ?q107 ?q108 ?q109 ?q110 ?q111 ?q112 ?q113 ?q114 ?q115 ?q116 ?q117 ?q118 ?q119 ?q120 ?q121 ?q122 ?q123 ?q124 ?q125 ?q126
  (case q0|q1|q2|q3|q4|q5|q6|q7|q8|q9|q10=>k_is)
  (case q11|q12|q13|q14|q15|q16|q17|q18|q19|q20|q21|q22|q23|q24|q25|q26|q27|q28|q29|q30|q31|q32|q33|q34|q35|q36|q37|q38|q39|q40|q41|q42|q43|q44|q45|q46|q47|q48|q49|q50|q51|q52|q53|q54|q55|q56|q57|q58|q59|q60|q61|q62=>refine' B.isF ?a ?b ?c ?d;(case a=>k_is);(case b=>k_is);(case c=>k_is);(case d=>k_is))
  (case q63|q64|q65|q66|q67|q68|q69=>refine' B.isM ?a ?e ?b ?c ?d;(case a=>k_is);(case e=>k_is);(case b=>k_is);(case c=>k_is);(case d=>k_is))
  (case q70|q71|q72|q73|q74|q75|q76=>k_is)
  (case q77|q78=>rfl)
  (case q79|q80|q81|q82|q83|q84|q85|q86|q87|q88|q89|q90|q91|q92|q93|q94|q95|q96|q97|q98|q99|q100|q101|q102|q103|q104|q105|q106|q107|q108|q109|q110|q111|q112|q113|q114|q115|q116|q117|q118|q119|q120|q121|q122|q123|q124|q125|q126=>k_is)
