import PyProof.Rows.All
import KE.RegKIsAll
import KE.RegKTryMore
import KE.KItem
import PySem.Challenge.RW_paceplan_k65_keepers_refused
set_option Elab.async false
set_option linter.all false
set_option maxRecDepth 100000
set_option autoImplicit true
set_option relaxedAutoImplicit true
namespace HP
open PySem
abbrev S:=Stmt
noncomputable def b:=PySem.Challenge.pw_paceplan_k65_keepers_refused.main.body
local macro_rules
 | `(tactic| o_head $n:term)=>`(tactic| (refine (?f:∀ s,b[$n]?=some s->_) _ rfl;exact fun s _=>s))
noncomputable def c0:S:=by o_head 0
noncomputable def c1:S:=by o_head 1
noncomputable def c2:S:=by o_head 2
noncomputable def c3:S:=by o_head 3
noncomputable def c4:S:=by o_head 4
noncomputable def c5:S:=by o_head 5
noncomputable def c6:S:=by o_head 6
noncomputable def c7:S:=by o_head 7
noncomputable def c8:S:=by o_head 8
noncomputable def c9:S:=by o_head 9
noncomputable def c10:S:=by o_head 10
noncomputable def c11:S:=by o_head 11
noncomputable def c12:S:=by o_head 12
noncomputable def c13:S:=by o_head 13
noncomputable def c14:S:=by o_head 14
noncomputable def c15:S:=by o_head 15
noncomputable def c16:S:=by o_head 16
noncomputable def c17:S:=by o_head 17
noncomputable def c18:S:=by o_head 18
noncomputable def c19:S:=by o_head 19
noncomputable def c20:S:=by o_head 20
noncomputable def c21:S:=by o_head 21
noncomputable def c22:S:=by o_head 22
noncomputable def c23:S:=by o_head 23
noncomputable def c24:S:=by o_head 24
noncomputable def c25:S:=by o_head 25
noncomputable def c26:S:=by o_head 26
noncomputable def c27:S:=by o_head 27
noncomputable def c28:S:=by o_head 28
noncomputable def c29:S:=by o_head 29
noncomputable def c30:S:=by o_head 30
noncomputable def c31:S:=by o_head 31
noncomputable def c32:S:=by o_head 32
noncomputable def c33:S:=by o_head 33
noncomputable def c34:S:=by o_head 34
noncomputable def c35:S:=by o_head 35
noncomputable def c36:S:=by o_head 36
noncomputable def c37:S:=by o_head 37
noncomputable def c38:S:=by o_head 38
noncomputable def c39:S:=by o_head 39
noncomputable def c40:S:=by o_head 40
noncomputable def c41:S:=by o_head 41
noncomputable def c42:S:=by o_head 42
noncomputable def c43:S:=by o_head 43
noncomputable def c44:S:=by o_head 44
noncomputable def c45:S:=by o_head 45
noncomputable def c46:S:=by o_head 46
noncomputable def c47:S:=by o_head 47
noncomputable def c48:S:=by o_head 48
noncomputable def c49:S:=by o_head 49
noncomputable def c50:S:=by o_head 50
noncomputable def c51:S:=by o_head 51
noncomputable def c52:S:=by o_head 52
noncomputable def c53:S:=by o_head 53
noncomputable def c54:S:=by o_head 54
noncomputable def c55:S:=by o_head 55
noncomputable def c56:S:=by o_head 56
noncomputable def c57:S:=by o_head 57
noncomputable def c58:S:=by o_head 58
noncomputable def c59:S:=by o_head 59
noncomputable def c60:S:=by o_head 60
noncomputable def c61:S:=by o_head 61
noncomputable def c62:S:=by o_head 62
noncomputable def c63:S:=by o_head 63
noncomputable def c64:S:=by o_head 64
noncomputable def c65:S:=by o_head 65
noncomputable def t57:List S:=c57::c58::c59::c60::c61::c62::c63::c64::c65::[]
noncomputable def t48:List S:=c48::c49::c50::c51::c52::c53::c54::c55::c56::t57
noncomputable def t39:List S:=c39::c40::c41::c42::c43::c44::c45::c46::c47::t48
noncomputable def t30:List S:=c30::c31::c32::c33::c34::c35::c36::c37::c38::t39
noncomputable def t21:List S:=c21::c22::c23::c24::c25::c26::c27::c28::c29::t30
noncomputable def t12:List S:=c12::c13::c14::c15::c16::c17::c18::c19::c20::t21
noncomputable def t3:List S:=c3::c4::c5::c6::c7::c8::c9::c10::c11::t12
noncomputable def t0:List S:=c0::c1::c2::t3
noncomputable def s:Scope:=by refine (?f:∀ s,PySem.Challenge.pw_paceplan_k65_keepers_refused.main=⟨_,s,_,_,_⟩->_) _ rfl;exact fun s _=>s
noncomputable def p:Program:=by
 refine (?f:∀ l s a f m ms ps ab h g,PySem.Challenge.pw_paceplan_k65_keepers_refused=Program.mk ⟨l,s,a,f,m⟩ ms ps ab h g->_) _ _ _ _ _ _ _ _ _ _ rfl
 exact fun _ _ a f m ms ps ab h g _=>⟨⟨t0,s,a,f,m⟩,ms,ps,ab,h,g⟩
theorem e:PySem.Challenge.pw_paceplan_k65_keepers_refused=p:=by kernel_rfl
end HP
name_quick tw15186515875045465484 for HP.p by HP.e
theorem PySem.W.Fast.te15186515875045465484:PySem.Challenge.pw_paceplan_k65_keepers_refused=PySem.W.Fast.tw15186515875045465484:=PySem.W.Fast.tw15186515875045465484_eq
theorem CO {α β γ:Type} {o:Option α} {f:α->β} {g:α->γ} {a:β} {b:γ} (h1:o.map f=some a) (h2:o.map g=some b):o.map (fun s=>(f s,g s))=some (a,b):=by
 cases o with
 | none=>cases h1
 | some x=>cases h1;cases h2;rfl
namespace HW
open PySem
def keep:List Nat:=[1,2,3,4,6,7,8,9,10,11,12,14,15,16,17,18,19,20,21,22,23,24,25,26,28,29,30,31,32,33,34,35,37,38,39,40,41,42,43,45,46,47,48,49,51,52,53,55,56,57,58,59,60,61,62,63,64,65]
def V:Program:=PySem.W.view PySem.Challenge.pw_paceplan_k65_keepers_refused keep
end HW
section HWs
open PySem PySem.W PyProof.Rows
set_option maxHeartbeats 0
abbrev HWe(w:World):=openEnds treeTable PySem.Challenge.rw_paceplan_k65_keepers_refused.row.prog w 7258
abbrev HWo:=fun s:Shared=>openSeen HW.V [] (importedModules PySem.Challenge.rw_paceplan_k65_keepers_refused.row.prog.main.body) (fun s=>xlAt HW.V [] s && recOk PySem.Challenge.rw_paceplan_k65_keepers_refused.row.records s) true s
local macro_rules
 | `(tactic| nofun)=>`(tactic| (intro w;delta HWe HWo openEnds fencedOpening topFrom;rw [PySem.W.Fast.te14364793385576792824,PySem.W.Fast.te14082659384304107361,PySem.W.Fast.te10274390034422433532,PySem.W.Fast.te1435165496053646825,PySem.W.Fast.te14289696077712309145,PySem.W.Fast.te4187177175401517315];kernel_rfl))
theorem HW1:∀ w,(HWe w).map (fun s=>(HWo s).1)=some (openGood HW.V []).1:=by nofun
theorem HW2:∀ w,(HWe w).map (fun s=>(HWo s).2.1)=some (openGood HW.V []).2.1:=by nofun
theorem HW3:∀ w,(HWe w).map (fun s=>(HWo s).2.2.1)=some (openGood HW.V []).2.2.1:=by nofun
theorem HW4:∀ w,(HWe w).map (fun s=>(HWo s).2.2.2)=some (openGood HW.V []).2.2.2:=by nofun
theorem HWa:∀ w,(HWe w).map HWo=some (openGood HW.V []):=fun w=>CO (HW1 w) (CO (HW2 w) (CO (HW3 w) (HW4 w)))
local macro_rules
 | `(tactic| o_head $H:term) => `(tactic| (
   refine holds_open (q:=HW.V) (loose:=[]) (N:=7258)
    (Xt:=fun s=>xlAt HW.V [] s && recOk (RowW.records (OpenRow.toRowW (OpenLaw.row PySem.Challenge.rw_paceplan_k65_keepers_refused))) s)
    (XP:=XL HW.V []) (Yf:=Hook.obs $H) (Ya:=Hook.val $H) (YP:=Hook.says $H)
    ?hl (Hook.of $H) (Hook.keeps $H)
    (fun s e=>xl_of s (Bool.and_eq_true_iff.mp e).1) XL.keeps
    (by rfl) (by rfl) (by rfl)
    (fun s e=>recFacts_of (Bool.and_eq_true_iff.mp e).2) (by rfl) (by assumption) (by decide +kernel)
    ⟨rfl,rfl,rfl,rfl,rfl,by decide +kernel⟩ ?hw ?hc
   (case hl=>
    intro w;refine CO (HWa w) ?_;delta openEnds fencedOpening topFrom;rw [PySem.W.Fast.te14364793385576792824,PySem.W.Fast.te14082659384304107361,PySem.W.Fast.te10274390034422433532,PySem.W.Fast.te1435165496053646825,PySem.W.Fast.te14289696077712309145]
    kernel_rfl)))
open_top HWtop for PySem.Challenge.rw_paceplan_k65_keepers_refused
end HWs
open Array renaming length_toList→Qv,getElem?_eq_some_iff→Rc,getElem?_eq_none_iff→TM,mem_toList_iff→Vc
open Bool renaming and_eq_true→OA,false_ne_true→OK,and_false→PV,eq_iff_iff→Qd,false_and→Ra,true_and→Rv,not_eq_true'→R8,or_true→Sd,false_eq_true→Sx,and_true→S0,false_or→Ud,not_true→VC,noConfusion→WF,or_eq_true→W0
open Classical renaming byContradiction→TU,choose_spec→U8
open False renaming elim→P6
open ForInStep renaming yield→Tc
open Int renaming gcd→OG,mul_ediv_cancel_left→OT,eq_ofNat_of_zero_le→PP,natCast_dvd_natCast→PZ,le_of_lt→Qg,mul_pos→Ql,emod_nonneg→Qz,mul_right_comm→QK,emod_lt_of_pos→QL,toNat_natCast→QX,gcd_comm→Q3,natAbs_mul→Re,gcd_dvd_right→Rq,mul_comm→Rr,mul_le_mul_of_nonneg_left→RI,ediv_nonneg→RS,le_of_dvd→R0,ediv_pos_of_pos_of_dvd→Sa,eq_of_mul_eq_mul_right→Sb,gcd_ediv_gcd_ediv_gcd→Si,dvd_trans→So,natAbs_natCast→Sv,mul_left_comm→SH,natAbs_dvd_natAbs→SN,mul_le_mul_of_nonneg_right→SV,natCast_mul→Td,gcd_add_mul_right_right→To,mul_lt_mul_of_pos_right→Tq,fdiv_eq_ediv_of_nonneg→Tw,lt_of_mul_lt_mul_right→TN,le_refl→T5,ediv_le_self→Uy,ediv_one→UL,zero_add→UW,natAbs_of_nonneg→Vf,add_mul→Vh,mul_nonneg→Vi,mul_assoc→VD,gcd_eq_one_iff→VR,gcd_mul_right→Wd,dvd_refl→Wh,gcd_dvd_left→WD,neg_mul→WQ,natAbs_neg→Xm
open LawfulBEq renaming eq_of_beq→Tt
open List renaming range→Og,getElem?_eq_getElem→Oh,length_map→Ol,getD_eq_getElem?_getD→Op,mem_cons_self→Oq,mem_of_getElem?→Os,mem_cons_of_mem→Ot,replicate→Ou,mem_cons→Ov,mem_range→Ow,mem_singleton→Ox,getElem?_map→OB,mem_map→OD,mem_append_right→OE,getElem?_eq_some_iff→OH,mem_filter→OL,length_append→OQ,mem_append→OU,getElem_mem→OW,not_mem_nil→OX,size_toArray→OY,map_cons→O1,mem_append_left→O6,length_cons→Ph,mem_iff_getElem→Pj,Nodup→Po,take_length→Pt,nodup_cons→Pw,take_add_one→Px,length_filter_le→Py,foldl_cons→PB,length_range→PF,map_append→PJ,range_succ→PL,getElem?_set_ne→PQ,length_take→PX,nodup_append→P9,append_nil→Qe,all_eq_true→Qj,getElem?_append_right→Qs,length_set→Qy,getElem?_append_left→QB,pairwise_iff_getElem→QC,getElem?_eq_none→QF,contains_cons→QH,filter_eq_self→Q0,replicate_succ→Q1,getElem?_set_self→Q2,map_map→Q4,any_cons→Q7,contains_iff_mem→Rf,mem_or_eq_of_mem_set→Ri,countP_eq_zero→RB,getElem?_replicate→RF,length_drop→RG,find?_cons→RT,Pairwise→RZ,length_replicate→R3,length_singleton→R4,foldl_append→R9,lookup_cons→Sc,getElem?_range→Sk,sum_cons→Sr,eq_of_mem_replicate→Ss,append_of_mem→Sy,lookup→SC,nodup_nil→SK,nodup_range→SW,getElem_map→SX,pairwise_append→S2,mem_of_mem_drop→S6,mem_of_mem_take→S7,contains_eq_mem→S8,dropLast_concat_getLast→Tf,filterMap_cons→Tg,find?_eq_none→TQ,drop_eq_getElem_cons→TR,any_eq_false→TZ,getElem_take→T7,find?_range_eq_some→Uf,getElem_inj→Uh,getElem?_cons_zero→Ur,getElem?_cons_succ→Us,eraseIdx_cons_succ→Uw,countP_cons→Uz,filter_cons_of_neg→UA,filter_cons_of_pos→UB,take_of_length_le→UT,range_succ_eq_map→UU,foldl→UV,pairwise_lt_range→UX,of_mem_zip→U2,nil_append→U3,getElem?_of_mem→Vk,map_congr_left→Vy,length_pos_iff→Vz,mem_filterMap→VN,filter_append→VX,filter_filter→VY,any_map→Wm,flatten_cons→Wp,getElem_drop→Wq,filter_congr→Ws,Sublist→Wu,ext_getElem?→Ww,pairwise_map→Wx,cons_append→WE,filter_cons→WI,append_inj'→WL,mem_flatten→WM,length_nil→WZ,take_zero→Xo,all_cons→Xs
open List.Pairwise renaming filter→QU
open List.Sublist renaming refl→Wv
open Max renaming max→WO
open Nat renaming le_refl→Oi,lt_of_lt_of_le→OI,zero_le→ON,le_trans→OS,ne_of_lt→O9,lt_irrefl→Pm,lt_of_le_of_lt→Pq,pow_le_pow_right→P4,le_succ→Qw,mul_le_mul_right→QR,dvd_refl→Q5,ne_of_gt→Rn,mul_le_mul_left→Rz,le_of_lt→RK,le_of_eq→RO,not_lt_zero→RW,succ_le_succ→Se,mul_dvd_mul_left→Ta,lt_succ_of_lt→T4,dvd_mul_right→Ua,lt_succ_self→Uo,le_mul_of_pos_right→Ux,mul_succ→US,zero_add→UY,sub_self→U0,log2_lt→Ve,mul_pos→Vl,mul_assoc→VG,le_of_dvd→VH,lt_trans→Wc,add_zero→Wr,succ_ne_self→WH,add_mul→WR,pow_pos→WT,pow_add→WU,min_eq_left→W1,pow_dvd_pow→W2,add_assoc→Xx
open Ne renaming symm→Rw
open Option renaming map_eq_some_iff→Pr,isSome_iff_exists→Qb,isSome_some→Sw
open Option.some renaming inj→Pp
open Or renaming inr→O7,inl→Pd
open Prod renaming ext→Vd
open Pure renaming pure→Qm
open PyProof renaming noPylong_small→UG
open PyProof.Rows renaming slot_tuple_getitem→PH,boot_isinstance→PM,callWith_type1→PY,boot_tuple→Qt,AllBare→SY,assignInOrder_cons→Tv,envOfC→UJ,subscriptTail_builtinR→UO,IntsAre→Vp,entry_tuple_getitem→Vu,args_tuple_getitem→VP,assignInOrder_nil→VZ,IsTup→W4,boot_range→Xc,boot_min→Xq,boot_bool→XD
open PyProof.Rows.IsTup renaming new→WA
open PySem renaming wpAny_bind→Oj,Shared→Om,FuncData→Oo,Heap→Oy,starEach→Oz,wpAny_pure→OC,wpAny→OJ,model→OM,mainGlobals→OR,Str→OV,Program→O0,Expr→O3,Around→O5,Builtin→Pa,World→Pk,PassesOwn→Ps,compareOp→Pz,wpAny_newObj_type→PD,Obj→P0,foldedSetIterable→P7,wpAny_mono→Qh,wpAny_callSpecial?_slot→Qi,wpAny_truthy_bool→Qp,assignEach→Qq,boot_len→Qu,wpAny_field→Qx,bootBuiltins→QM,swapsWith→QV,backTo→QZ,attributeBase→Q6,excClassObj→Q8,wpAny_call_entry→Q9,wpAny_passesOwn→Rm,codeAny→Ro,mem_of_lookup→Ry,sizeLine→RD,binaryOp→RE,keywordEach→RH,sysModules→RJ,wpAny_pyIter_tuple→RM,wpAny_Call_Name_kw→RP,wpAny_standAt→RY,Pos→R1,Scope→Sf,behindInMarks→Sl,NameKind→Sm,wpAny_comprehension_free→Sn,wpAny_execs_nil→Su,sizeLine_eq→Sz,codeAny_mono→SE,compEnvC→SG,wpAny_setField→SI,wpAny_pyIter_enum→SJ,plainObj_wpAny_Assign_Attribute→SL,assign→SR,closureFor→SU,backToKw→S1,letOwnedTupleGo→Tb,Within→Tj,getItem→Tk,Keyword→Tn,cellsFrom→Ts,noteFrame→Tu,wpAny_loadPart→Tz,wpAny_call→TB,newFunctionEnv→TH,wpAny_letOwnedTupleGo_enum→TL,wpAny_assign_Name→TW,wpAny_pyIter_list→TY,swapsWithSole→Ub,swappedStores→Uc,wpAny_attempt→Ue,tupleKind→Ug,getMethod→Uj,wpAny_lookBehind→Ul,pastItsLine_dict→Um,wpAny_pyNext_enum_itemD→Up,standAt→UD,wpAny_pyNext_range_end→UE,wpAny_pyIter_rangeiter→UF,BindsTo→UI,IsPart→UM,wpAny_typeOf→UN,codeAny_compStart_list→UQ,exec_Assign_Name_used→U7,wpAny_loadName_local→U9,IsRangeIter→Va,subscripted→Vb,codeAny_call_builtin→Vg,IsRange→Vn,DictEntry→Vo,callerA→Vq,setFlight→Vr,wpAny_loadName_cell→Vs,assignInOrder→VA,nums_intItems→VI,wpAny_pyIter_range→VM,call_meets→VQ,tupleKind_room_in1→VU,bindName→V0,wpAny_nsSet1→V2,Code→V5,bindArgs→V7,callWith→V8,wpAny_sequenceKey→V9,seqIndex_neg→Wa,relabel→Wb,OwnTail→We,valueAt→Wi,wpAny_Call_method→Wj,wpAny_execs_cons→Wy,lastMarks→WB,Result→WC,wpAny_isInstance→WG,pushCells→WK,seqIndex_of→WP,newList→W3,builtinsNs→W5,Env→W6,wpAny_Name→W7,CmpOp→W8,Operator→W9,wpAny_rule→Xa,Data→Xb,bindL→Xd,bindC→Xe,typeIs_int→Xf,call→Xg,isInstance→Xj,IsPair→Xl,atKey→Xn,numAt_eq→Xp,storeName→Xy,inplaceOp→Xz,small_one→XA,seqIndex?→XB,setItem→XE,pyNext→XF,pyIter→XG,operate→XH,setAttr→XI,ItemsOf→XJ,field→XM,Tok→XN
open PySem.Around renaming under→UH,under_plainId→Vj
open PySem.AutoSeq1 renaming wpAny_loadPart'→Ru
open PySem.Builtin.Int renaming intBits→Vv
open PySem.Builtin.Range renaming rangeSize→PN,small→RA
open PySem.Builtin.Slice renaming slicePlaces→Rg,sliceAdjust→Sg,sliceApplied→TD
open PySem.Builtin.SmallTypes renaming nextOf→Rh
open PySem.Builtin.Tuple renaming tupleExact→Qc,tupleItemsOf→TF
open PySem.Code renaming quiet_builtin→VS,isFrame→V6
open PySem.Data renaming fields→TX,cell→Vm
open PySem.F renaming plainAttrs_list→O8,slot_list_append→Pe,type_list_append→Pf,slot_dict_itemiterator_iter→Sq,slot_dict_get→SO,attrBase_ValueError→Tp,args_dict_get_3→Ut,plainAttrs_dict→Uu,slot_dict_items→Uv,entry_dict_get→UR
open PySem.Flow renaming next→Wz
open PySem.Heap renaming get?_push_of_some→On,lt_size→OF,get?_push_size→OO,get?_update_other→Pg,get?_none_of_le→P2,get?_update_self→QD,size_push→QQ,SameBut→RL,MadeExcOf→Xi
open PySem.Heap.Ns1 renaming of_empty→V3
open PySem.Heap.SameBut renaming update→Vx
open PySem.MeetsSeq renaming EqGives→WJ
open PySem.NameKind renaming cell→VB,free→Xv
open PySem.Obj renaming data_mapFields→RQ,isFreed_of_fields→R5,mapSeq→UP,mapFields→VF,cls_mapFields→Wg
open PySem.PassesOwn renaming never→OZ
open PySem.PyData renaming eqv→Pn,tuple→Rs,shownAll→RU,depthAll→Te,showableAll→VW,hasDictAll→Wl,canLayAll0→Wo,int→Xh
open PySem.SeqAt renaming EqAt→PU
open PySem.SeqAt.EqAt renaming int_str→VJ,str_int→VL
open PySem.Str renaming ofString→Pb
open PySem.Value renaming ref→OP,none→Qo,int→Rj,type→Rt,bool→SQ,str→Tr,builtin→VE,float→WN,isStrOf→Xr
open PySem.W renaming Frag→Of,findIn→O2,kia_one→Pu,kitOne→P3,emptyDict→P8,keepIn→Qa,fnOf→Qf,InstAt→Qr,Looks→QN,instObj→QY,looks_findIn→Rp,hasDictIn→R6,looks_clsIn→Sj,typeIn→SD,codeIn→SF,plainGet→SS,mroIn→SZ,plainGet_of→Ti,isFn→Tl,lookIn→Tx,callWith_K→TC,exmOne→TJ,kitAny→TK,methodObj→TV,set_plain→T0,specialIn→T1,kitx_list→T3,handedIn→Ui,any_some→Uk,cellsFrom_some→UK,takerIn→U1,methodCall_KW→U6,callWith_K0→Vt,looks_mroIn→Vw,kitx_tuple→VO,check_slot→VT,plainOver→V1,kitx_dict→V4,makesIn→WV,bind_fn→WW,takesIn→WX,OpenLaw→WY,notCls→Xk,WalkO→Xu,clsIn→Xw
open PySem.W.Looks renaming here→RN
open Rat renaming intCast_mul→Pi,le_refl→PR,intCast_lt_intCast→P5,mul_le_mul_of_nonneg_right→QJ,le_of_lt→QP,intCast_natCast→RC,mul_lt_mul_of_pos_right→R7,not_le→UZ,intCast_inj→U4,intCast_add→U5,div_def→WS
open Sum renaming inl→Qn,inr→UC
open True renaming intro→Rb
local macro_rules
 | `(Z)=>`(rfl)
theorem BF:1≤RD:=by decide
theorem gC:2≤RD:=by decide
theorem w6:3≤RD:=by decide
theorem Lo:4≤RD:=by decide
theorem Mo:5≤RD:=by decide
theorem Kr:12≤RD:=by decide
theorem Kq:14≤RD:=by decide
namespace L2
open PySem PySem.Spec PyProof.Rows
abbrev dg:=Sum Int OV
def l7:dg->Value->Bool
 | .inl k,v=>Value.isInt k v
 | .inr x,v=>Xr x v
def KY(w:Pk):dg->Int
 | .inl k=>hashInt k
 | .inr x=>hashStr w x
theorem bU:∀{k:dg} {v:Value},l7 k v=true->(∃i t,k=Qn i/\v=Rj i t)∨(∃x t,k=UC x/\v=Tr x t)
 | .inl i,v,h=>by
  obtain⟨t,e⟩:=Value.isInt_shape (k:=i) (v:=v) h;exact .inl ⟨i,t,Z,e⟩
 | .inr x,v,h=>by
  obtain⟨t,e⟩:=Value.isStrOf_shape (x:=x) (v:=v) h;exact .inr ⟨x,t,Z,e⟩
theorem wd(i:Int)(t:XN):l7 (.inl i) (.int i t)=true:=by simp[l7,Value.isInt]
theorem wc(x:OV)(t:XN):l7 (.inr x) (.str x t)=true:=by simp[l7,Xr]
theorem GW(a b:Int):decide ((Qn a:dg)=Qn b)=(a==b):=by
 by_cases e:a=b
 ·subst e;simp
 ·have h:¬(Qn a:dg)=Qn b:=λq=>e (Qn.inj q)
  rw[decide_eq_false h];exact(beq_eq_false_iff_ne.mpr e).symm
theorem GT(a b:OV):decide ((UC a:dg)=UC b)=decide (a=b):=by
 by_cases e:a=b
 ·subst e;simp
 ·have h:¬(UC a:dg)=UC b:=λq=>e (UC.inj q)
  rw[decide_eq_false h,decide_eq_false e]
theorem GV(a:Int)(b:OV):decide ((Qn a:dg)=UC b)=false:=decide_eq_false (λq=>nomatch q)
theorem GU(a:OV)(b:Int):decide ((UC a:dg)=Qn b)=false:=decide_eq_false (λq=>nomatch q)
def bS(prog:O0)(w:Pk):PySem.KeyKind prog w dg where
 is:=l7
 hash:=KY w
 inj:=λv a b ha hb=>by
  rcases bU ha with⟨i,t,rfl,rfl⟩ | ⟨x,t,rfl,rfl⟩
  ·rcases bU hb with⟨j,u,rfl,e⟩ | ⟨y,u,rfl,e⟩
   ·injection e with e1 _;rw[e1]
   ·exact nomatch e
  ·rcases bU hb with⟨j,u,rfl,e⟩ | ⟨y,u,rfl,e⟩
   ·exact nomatch e
   ·injection e with e1 _;rw[e1]
 byValue:=λk v h=>by
  rcases bU h with⟨i,t,rfl,rfl⟩ | ⟨x,t,rfl,rfl⟩<;>rfl
 pyHash:=λhv h=>by
  rcases bU hv with⟨i,t,rfl,rfl⟩ | ⟨x,t,rfl,rfl⟩
  ·exact wpAny_pyHash_int h
  ·exact wpAny_pyHash_str h
 eqBool:=λhu hv h=>by
  rcases bU hu with⟨i,t,rfl,rfl⟩ | ⟨x,t,rfl,rfl⟩
  ·rcases bU hv with⟨j,u,rfl,rfl⟩ | ⟨y,u,rfl,rfl⟩
   ·rw[GW] at h;exact wpAny_eqBool_int h
   ·rw[GV] at h;exact VJ i t y u _ _ _ _ h
  ·rcases bU hv with⟨j,u,rfl,rfl⟩ | ⟨y,u,rfl,rfl⟩
   ·rw[GU] at h;exact VL x t j u _ _ _ _ h
   ·rw[GT] at h;exact wpAny_eqBool_str h
 «strs»:=λk x t v h=>by
  rcases bU h with⟨i,u,rfl,e⟩ | ⟨y,u,rfl,e⟩
  ·exact nomatch e
  ·injection e with e1 _;subst e1
   cases v<;>rfl
theorem qL(prog:O0)(w:Pk)(i:Int)(t:XN):(bS prog w).is (.inl i) (.int i t)=true:=wd i t
theorem qK(prog:O0)(w:Pk)(x:OV)(t:XN):(bS prog w).is (.inr x) (.str x t)=true:=wc x t
end L2
namespace L2
open PySem PySem.Spec PyProof.Rows
inductive V where
 |non|bl (b:Bool)|int (i:Int)|str (x:OV)|byt (b:Array UInt8)|flt (b:UInt64)|ref (a:Addr)|ty (n:String)
 deriving DecidableEq
def aZ:V->Value->Prop
 | .non,u=>u=Qo
 | .bl b,u=>u=SQ b
 | .int i,u=>∃t,u=Rj i t
 | .str x,u=>∃t,u=Tr x t
 | .byt b,u=>∃t,u=Value.bytes b t
 | .flt b,u=>∃t,u=WN b t
 | .ref a,u=>u=OP a
 | .ty n,u=>u=Rt n
abbrev bc:List V->List Value->Prop:=Paired aZ
theorem bc.length(r:bc xs us):xs.length=us.length:=Paired.length r
theorem bc.get:∀{xs:List V} {us:List Value} {i:Nat} {x:V},bc xs us->xs[i]?=some x->∃u,us[i]?=some u/\aZ x u
 |_,_,_,_,.nil,e=>by simp at e
 |_,_,0,_,.cons r _,e=>by simp at e;subst e;exact⟨_,Z,r⟩
 |_,_,i+1,x,.cons _ t,e=>by
  obtain⟨u,h1,h2⟩:=bc.get (i:=i) (x:=x) t (by simpa using e);exact⟨u,by simpa using h1,h2⟩
theorem bc.set{x:V}{u:Value}(r:aZ x u):∀{xs:List V} {us:List Value} (i:Nat),bc xs us->bc (xs.set i x) (us.set i u)
 |_,_,_,.nil=>.nil
 |_,_,0,.cons _ t=>.cons r t
 |_,_,i+1,.cons q t=>.cons q (bc.set r i t)
theorem bc.append:∀{xs ys:List V} {us ws:List Value},bc xs us->bc ys ws->bc (xs++ys) (us++ws)
 |_,_,_,_,.nil,s=>s
 |_,_,_,_,.cons r t,s=>.cons r (bc.append t s)
theorem bc.take:∀{xs:List V} {us:List Value} (n:Nat),bc xs us->bc (xs.take n) (us.take n)
 |_,_,0,_=>.nil
 |_,_,_+1,.nil=>.nil
 |_,_,n+1,.cons r t=>.cons r (bc.take n t)
theorem bc.drop:∀{xs:List V} {us:List Value} (n:Nat),bc xs us->bc (xs.drop n) (us.drop n)
 |_,_,0,r=>r
 |_,_,_+1,.nil=>.nil
 |_,_,n+1,.cons _ t=>bc.drop n t
def fM:Option V->Option Value->Prop
 |some v,some u=>aZ v u
 |none,none=>True
 |_,_=>False
def KV{κ:Type}:List (κ×V)->List (κ×Value)->Prop:=Paired λ(p:κ×V) (q:κ×Value)=>p.1=q.1/\aZ p.2 q.2
def kV:dg->V
 | .inl i=>.int i
 | .inr x=>.str x
inductive HO where
 |lst (xs:List V)
 |tup (xs:List V)
 |dK (kvs:List (dg×V))|dT (kvs:List (List dg×V))
 |set (S:Int->Bool) (n:Nat)
 |ins (C dx:Addr) (fs:List (OV×V))
 |own (x:Addr)
 |xd (fs:List (OV×V))
 |met (f x:Addr)
 |rng (lo hi:Int)
 |frz (o:P0) (u:HO)
 |tbl (ps:Array Value)
 |ext (φ:Oy->Prop)
abbrev Hp:=Addr->Option HO
def upd(H:Hp)(a:Addr)(o:HO):Hp:=λb=>if b=a then some o else H b
theorem ag:upd H a o a=some o:=by unfold upd;rw[if_pos Z]
theorem ay(h:b≠a):upd H a o b=H b:=by unfold upd;rw[if_neg h]
theorem Jn{H:Hp}{a b:Addr}{o u:HO}(h:H a=some o)(h':H b=some u)(d:o≠u):a≠b:=by
 intro e;subst e;rw[h] at h';exact d (Pp h')
theorem aR{H:Hp}{a b:Addr}{o:HO}(h:H a=some o)(h':H b=none):a≠b:=by
 intro e;subst e;rw[h] at h';cases h'
section
variable (P:O0) (w:Pk)
def ObjOk(H:Hp)(h:Oy)(a:Addr):HO->Prop
 | .lst xs=>xs.length≤sizeLine/\∃(its:List Value) (n:Nat),bc xs its/\h.get? a=some { cls:=.type "list",data:=.seq its.toArray n}
 | .tup xs=>xs.length≤sizeLine/\∃its:List Value,bc xs its/\W4 h a its.toArray
 | .dK kvs=>kvs.length≤sizeLine/\(a==RJ)=false/\∃vs,KV kvs vs/\h.DictOf (bS P w) a vs
 | .dT kvs=>kvs.length≤sizeLine/\(a==RJ)=false/\∃xs:List (List dg×Addr×Value),
   Paired (λ(p:List dg×V) (q:List dg×Addr×Value)=>p.1=q.1/\H q.2.1=some (.tup (p.1.map kV))/\aZ p.2 q.2.2) kvs xs∧
   ∃o es ep,h.get? a=some o/\o.ExactDict/\o.data=.dict es ep/\es.toList=xs.map (entryOfKey (Ug (bS P w)))/\(xs.map (·.1)).Nodup
 | .set S n=>h.SetOf (intKind P w) a S n
 | .ins C dx fs=>H dx=some (.own a)/\fs.length≤1000/\dx≠a/\h.get? a=some (QY C dx)∧
   ∃mA,h.Ns1 dx mA/\(∀f,fM (fs.lookup f) (mA f))/\Tj mA (fs.map (·.1))
 | .own _=>∃o,h.get? a=some o
 | .xd fs=>∃mA,h.Ns1 a mA/\∀f,fM (fs.lookup f) (mA f)
 | .rng lo hi=>∃t u v,h.get? a=some { cls:=.type "range",data:=.fields #[.int lo t,.int hi u,.int 1 v]}
 | .frz o u=>h.get? a=some o/\ObjOk H h a u
 | .tbl ps=>h.get? a=some { cls:=.none,data:=.fields ps}
 | .met f x=>h.get? a=some (TV (.ref f) (.ref x))
 | .ext φ=>φ h/\(∃o,h.get? a=some o)/\∀h1 h2:Oy,φ h1->(∀o,h1.get? a=some o->h2.get? a=some o)->φ h2
def iz(H:Hp)(h:Oy):Prop:=∀a o,H a=some o->ObjOk P w H h a o
end
section
variable {P:O0}{w:Pk}{H H':Hp}{h h':Oy}{a:Addr}{o:HO}
theorem ObjOk.lt(x:ObjOk P w H h a o):a<h.objs.size:=by
 cases o with
 |lst xs=>obtain⟨_,_,_,_,e⟩:=x;exact OF e
 |tup xs=>obtain⟨_,_,_,p⟩:=x;exact p.lt
 |dK kvs=>obtain⟨_,_,_,_,o,_,_,e,_⟩:=x;exact OF e
 |dT kvs=>obtain⟨_,_,_,_,o,_,_,e,_⟩:=x;exact OF e
 |set S n=>obtain⟨o,_,_,_,e,_⟩:=x;exact OF e
 |ins C dx fs=>obtain⟨_,_,_,e,_⟩:=x;exact OF e
 |own y=>obtain⟨_,e⟩:=x;exact OF e
 |xd fs=>obtain⟨_,⟨_,_,_,e,_⟩,_⟩:=x;exact OF e
 |rng lo hi=>obtain⟨_,_,_,e⟩:=x;exact OF e
 |frz ob u=>obtain⟨e,_⟩:=x;exact OF e
 |tbl ps=>exact OF (show h.get? a=some _ from x)
 |met f y=>exact OF (show h.get? a=some _ from x)
 |ext φ=>obtain⟨_,⟨_,e⟩,_⟩:=x;exact OF e
theorem Paired.mapP{α β:Type}{F G:α->β->Prop}:∀{l₁:List α} {l₂:List β},Paired F l₁ l₂->(∀a b,F a b->G a b)->Paired G l₁ l₂
 |_,_,.nil,_=>.nil
 |_,_,.cons r t,f=>.cons (f _ _ r) (Paired.mapP t f)
theorem ObjOk.stay(x:ObjOk P w H h a o)(k:∀b u,(b=a∨H b=some (.own a))->h.get? b=some u->h'.get? b=some u)
  (ho:∀b,H b=some (.own a)->H' b=some (.own a)) (ht:∀b xs,H b=some (.tup xs)->H' b=some (.tup xs)):ObjOk P w H' h' a o:=by
 induction o with
 |lst xs=>obtain⟨z,its,n,r,e⟩:=x;exact⟨z,its,n,r,k _ _ (.inl Z) e⟩
 |tup xs=>obtain⟨z,its,r,ob,e,c⟩:=x;exact⟨z,its,r,ob,k _ _ (.inl Z) e,c⟩
 |dK kvs=>obtain⟨z,y,vs,r,ob,es,ep,e,c⟩:=x;exact⟨z,y,vs,r,ob,es,ep,k _ _ (.inl Z) e,c⟩
 |dT kvs=>
  obtain⟨z,y,xs,r,ob,es,ep,e,c⟩:=x;exact⟨z,y,xs,Paired.mapP r λp q z=>⟨z.1,ht _ _ z.2.1,z.2.2⟩,ob,es,ep,k _ _ (.inl Z) e,c⟩
 |set S n=>obtain⟨ob,es,ep,t,e,c⟩:=x;exact⟨ob,es,ep,t,k _ _ (.inl Z) e,c⟩
 |ins C dx fs=>
  obtain⟨d,z,ne,e,mA,⟨od,es,ep,e2,c⟩,r⟩:=x;exact⟨ho _ d,z,ne,k _ _ (.inl Z) e,mA,⟨od,es,ep,k _ _ (.inr d) e2,c⟩,r⟩
 |own y=>obtain⟨ob,e⟩:=x;exact⟨ob,k _ _ (.inl Z) e⟩
 |xd fs=>obtain⟨mA,⟨od,es,ep,e,c⟩,r⟩:=x;exact⟨mA,⟨od,es,ep,k _ _ (.inl Z) e,c⟩,r⟩
 |rng lo hi=>obtain⟨t,u,v,e⟩:=x;exact⟨t,u,v,k _ _ (.inl Z) e⟩
 |frz ob u ih=>obtain⟨e,q⟩:=x;exact⟨k _ _ (.inl Z) e,ih q⟩
 |tbl ps=>
  have e:h.get? a=some { cls:=.none,data:=.fields ps}:=x;show h'.get? a=some { cls:=.none,data:=.fields ps};exact k a _ (.inl Z) e
 |met f y=>
  have e:h.get? a=some (TV (.ref f) (.ref y)):=x;show h'.get? a=some (TV (.ref f) (.ref y));exact k a _ (.inl Z) e
 |ext φ=>obtain⟨p,⟨o,e⟩,st⟩:=x;exact⟨st _ _ p λo q=>k _ _ (.inl Z) q,⟨o,k _ _ (.inl Z) e⟩,st⟩
theorem iz.lt(x:iz P w H h)(e:H a=some o):a<h.objs.size:=(x a o e).lt
theorem iz.fresh(x:iz P w H h)(e:h.objs.size≤a):H a=none:=by
 cases q:H a with
 |none=>rfl
 |some u=>exact absurd (OI (x.lt q) e) (Pm _)
theorem iz.kept(x:iz P w H h)(k:∀b u,h.get? b=some u->h'.get? b=some u):iz P w H h':=λa o e=>
 (x a o e).stay (λb u _ q=>k b u q) (λ_ q=>q) λ_ _ q=>q
theorem iz.laid(x:iz P w H h)(k:∀b u,h.get? b=some u->h'.get? b=some u)(hp:h.objs.size≤a)(new:ObjOk P w (upd H a o) h' a o):iz P w (upd H a o) h':=λb u e=>by
 have hn:=x.fresh hp;by_cases hb:b=a
 ·subst hb;rw[ag] at e;cases e;exact new
 ·rw[ay hb] at e;exact(x b u e).stay (λc v _ q=>k c v q) (λc q=>by rw[ay (aR q hn)];exact q) λc xs q=>by rw[ay (aR q hn)];exact q
end
def Rd(H:Hp)(a:Addr)(u:HO):Prop:=H a=some u∨∃o,H a=some (.frz o u)
theorem Rd.ok(r:Rd H a u)(x:iz P w H h):ObjOk P w H h a u:=by
 rcases r with r | ⟨o,r⟩
 ·exact x a u r
 ·obtain⟨_,q⟩:=x a _ r;exact q
def JN:Option HO->Prop
 |some (.lst _)=>True
 |some (.dK _)=>True
 |some (.dT _)=>True
 |some (.set _ _)=>True
 |some (.ins _ _ _)=>True
 |some (.ext _)=>True
 |_=>False
section
variable {P:O0}{w:Pk}{H:Hp}{h h':Oy}{x e:Addr}{o':HO}
theorem iz.write(ok:iz P w H h)(mu:JN (H x))(he:e=x∨H e=some (.own x))(k:∀b u,b≠e->h.get? b=some u->h'.get? b=some u)(heo:∃u,h'.get? e=some u)
  (new:ObjOk P w (upd H x o') h' x o'):iz P w (upd H x o') h':=λb u q=>by
 have nown:∀c y,H c=some (.own y)->c≠x:=λc y r z=>by subst z;rw[r] at mu;exact mu
 have ntup:∀c xs,H c=some (.tup xs)->c≠x:=λc xs r z=>by subst z;rw[r] at mu;exact mu
 by_cases hb:b=x
 ·subst hb;rw[ag] at q;cases q;exact new
 ·rw[ay hb] at q;by_cases hbe:b=e
  ·have q':H b=some (.own x):=by
    rcases he with z|z
    ·exact absurd (hbe.trans z) hb
    ·rw[hbe];exact z
   rw[q] at q';cases q';obtain⟨v,hv⟩:=heo;exact⟨v,by rw[hbe];exact hv⟩
  ·refine(ok b u q).stay (λc v hc r=>k c v ?_ r) (λc r=>by rw[ay (nown c b r)];exact r) λc xs r=>by rw[ay (ntup c xs r)];exact r
   rcases hc with rfl|hc
   ·exact hbe
   ·rintro rfl;rcases he with z|z
    ·exact nown c b hc z
    ·rw[hc] at z;cases z;exact hb Z
end
structure Un(fs ex:List Addr)(H H':Hp)(h h':Oy):Prop where
 keep:∀b o,h.get? b=some o->H b=none->b∉fs->b∉ex->h'.get? b=some o
 slot:∀b o,h.get? b=some o->H b=none->b∈fs->b∉ex->∃sl,h'.get? b=some { o with slots:=sl}
 free:∀b o,h.get? b=some o->H b=none->b∉ex->H' b=none
 there:∀b o,h.get? b=some o->b∉ex->∃o',h'.get? b=some o'
 tups:∀b xs,H b=some (.tup xs)->H' b=some (.tup xs)
 frzs:∀b o u,H b=some (.frz o u)->H' b=some (.frz o u)
 tbls:∀b ps,H b=some (.tbl ps)->∃more,H' b=some (.tbl (ps++more))
section
variable {fs fs' ex ex':List Addr}{H H1 H2:Hp}{h h1 h2 h':Oy}{a x e:Addr}{o:HO}
theorem Un.any(u:Un fs ex H H1 h h1)(q:h.get? b=some ob)(n:H b=none)(hx:b∉ex):∃sl,h1.get? b=some { ob with slots:=sl}:=by
 by_cases hb:b∈fs
 ·exact u.slot b ob q n hb hx
 ·exact⟨ob.slots,u.keep b ob q n hb hx⟩
theorem Un.kept(k:∀b u,h.get? b=some u->h'.get? b=some u):Un fs ex H H h h':=
 ⟨λb ob q _ _ _=>k b ob q,λb ob q _ _ _=>⟨ob.slots,k b ob q⟩,λ_ _ _ n _=>n,λb ob q _=>⟨ob,k b ob q⟩,λ_ _ q=>q,λ_ _ _ q=>q,λ_ ps q=>⟨#[],by rw[q];simp⟩⟩
theorem Un.refl:Un fs ex H H h h:=Un.kept λ_ _ q=>q
theorem Un.laid(k:∀b u,h.get? b=some u->h'.get? b=some u)(hp:h.objs.size≤a)(hn:H a=none):Un fs ex H (upd H a o) h h' where
 keep:=λb u q _ _ _=>k b u q
 slot:=λb u q _ _ _=>⟨u.slots,k b u q⟩
 free:=λb u q n _=>by rw[ay (O9 (OI (OF q) hp))];exact n
 there:=λb u q _=>⟨u,k b u q⟩
 tups:=λb xs q=>by rw[ay (aR q hn)];exact q
 frzs:=λb u xs q=>by rw[ay (aR q hn)];exact q
 tbls:=λb ps q=>⟨#[],by rw[ay (aR q hn),q];simp⟩
theorem Un.write(mu:JN (H x))(he:e=x∨H e=some (.own x))(k:∀b u,b≠e->h.get? b=some u->h'.get? b=some u)(heo:∃u,h'.get? e=some u):Un fs ex H (upd H x o) h h':=by
 have hx:∀b,H b=none->b≠x:=λb n z=>by subst z;rw[n] at mu;exact mu
 have hb:∀b,H b=none->b≠e:=λb n z=>by
  subst z;rcases he with r|r
  ·exact hx b n r
  ·rw[n] at r;cases r
 have hm:∀b u,H b=some u->¬JN (some u)->b≠x:=λb u q nm z=>by subst z;rw[q] at mu;exact nm mu
 refine⟨λb u q n _ _=>k b u (hb b n) q,λb u q n _ _=>⟨u.slots,k b u (hb b n) q⟩,λb u q n _=>by rw[ay (hx b n)];exact n,λb u q _=>?_,
  λb xs q=>by rw[ay (hm b _ q λz=>z)];exact q,λb u xs q=>by rw[ay (hm b _ q λz=>z)];exact q,λb ps q=>⟨#[],by rw[ay (hm b _ q λz=>z),q];simp⟩⟩
 by_cases hbe:b=e
 ·subst hbe;exact heo
 ·exact⟨u,k b u hbe q⟩
end
def EE(h:Oy)(H:Hp):List Addr:=(Og h.objs.size).filter λa=>(H a).isSome
def pI(h:Oy)(H:Hp):Oy:=PySem.W.hideAll h (EE h H)
theorem wm(h:Oy)(H:Hp):(pI h H).objs.size=h.objs.size:=PySem.W.hideAll_size _ _
theorem AG(e:h.get? b=some o)(n:H b=none):(pI h H).get? b=some o:=
 PySem.W.hideAll_get _ e λhm=>by
  have q:(H b).isSome=true:=(OL.mp hm).2;rw[n] at q;simp at q
theorem CS(e:(pI h H).get? b=some o):h.get? b=some o/\H b=none:=by
 have e':h.get? b=some o:=PySem.W.of_hideAll (EE h H) e;refine⟨e',?_⟩
 cases q:H b with
 |none=>rfl
 |some x=>
  have hm:b∈EE h H:=OL.mpr ⟨Ow.mpr (OF e'),by simp[q]⟩;have z:(pI h H).get? b=none:=PySem.W.hideAll_none (EE h H) hm;rw[z] at e;cases e
def DC(g h:Oy)(L:Addr):List (Addr×P0):=(Og h.objs.size).filterMap λa=>if a=L∨(g.get? a).isSome=true then none else(h.get? a).map λo=>(a,o)
def cQ(g h:Oy)(L d:Addr):List (Addr×P0):=(DC g h L).filter λp=>decide (p.1≠d)
end L2
namespace L2
open PySem PySem.Spec PyProof.Rows
structure Mod(K:Of)(mg:OV->Option Value)(base:Oy):Prop where
 kin:K.In base
 glob:base.Ns OR mg
 blt:∃mb,base.Ns W5 mb/\∀x:OV,x ≠ "__name__"->mb x=QM x
 nolimit:base.NoLimit
structure Cx where
 prog:O0
 w:Pk
 K:Of
 mg:OV->Option Value
 base:Oy
 A:O5
 N:List OV
 s₀:Om
 H₀:Hp
 env:W6
 outer:List W6
 stack:List W6
 ex:List Addr
 fn:OV->Bool
 calm:Bool
 pn:List (Addr×P0)
 xe:Value->Om->Prop
def mR(l:List W6):List Addr:=l.filterMap (·.frame)
abbrev Cx.fs(X:Cx):List Addr:=mR X.outer
def JG(sc:Sf)(x:OV):Prop:=sc.names.lookup x=some .local∨sc.names.lookup x=some .cell∨sc.names.lookup x=some .free
def wU(sc:Sf)(x:OV):Prop:=sc.names.lookup x=some .local∨sc.names.lookup x=some .cell
def Lb(env:W6)(h:Oy)(m:OV->Option Value)(x:OV)(u:Value):Prop:=
 (env.kindOf x=some .local/\m x=some u)∨((env.kindOf x=some .cell∨env.kindOf x=some .free)/\∃c,env.cells.lookup x=some c/\h.IsCell c (some u))
structure Cx.Ok(X:Cx):Prop where
 mod:Mod X.K X.mg X.base
 kind:X.env.scope.kind=.function
 glob:X.env.globals=OR
 blt:X.env.builtins=W5
 above:X.s₀.heap.objs.size≤X.env.locals
 inj:∀x y c,X.env.cells.lookup x=some c->X.env.cells.lookup y=some c->x=y
 has:∀x,(X.env.kindOf x=some .cell∨X.env.kindOf x=some .free)->∃c,X.env.cells.lookup x=some c
 cab:∀x c,X.fn x=true->X.env.cells.lookup x=some c->X.s₀.heap.objs.size≤c
 hd:X.calm=true->X.A.handled=none
 frames:X.A.frames=some X.stack
 stk:X.stack=X.outer∨(X.stack=X.env::X.outer/\X.env.frame=some X.env.locals)
 exf:∀b∈X.ex,b≠X.env.locals/\∀x c,X.env.cells.lookup x=some c->c≠b
 bs:∀b o,X.base.get? b=some o->X.s₀.heap.get? b=some o/\X.H₀ b=none
 bsz:X.base.objs.size≤X.s₀.heap.objs.size
 noex:∀b o,X.base.get? b=some o->b∉X.ex
 exfs:∀b∈X.ex,b∉X.fs
 funs:X.s₀.heap.FunFrames X.base X.outer
 frf:∀b∈X.fs,X.H₀ b=none
structure Inv(X:Cx)(pins:List (Addr×P0))(σ:List (Option V))(H:Hp)(s:Om):Prop where
 ok:X.Ok
 os:s.os=X.s₀.os
 bare:SY s.gens
 base:Un X.fs X.ex X.H₀ H X.s₀.heap s.heap
 loc:∃m,s.heap.Ns X.env.locals m/\∀(i:Nat) (x:OV) (v:V),X.N[i]?=some x->σ[i]?=some (some v)->JG X.env.scope x->∃u,aZ v u/\Lb X.env s.heap m x u
 cell:∀x c,X.env.cells.lookup x=some c->∃v,s.heap.IsCell c v
 free:H X.env.locals=none
 freeC:∀x c,X.env.cells.lookup x=some c->H c=none
 pin:∀p∈X.pn++pins,s.heap.get? p.1=some p.2/\H p.1=none/\p.1≠X.env.locals/\p.1∉X.fs/\∀v,p.2.data≠.cell v
 hok:iz X.prog X.w H s.heap
 len:σ.length=X.N.length
section
variable {X:Cx}{pins:List (Addr×P0)}{σ:List (Option V)}{H H':Hp}{s:Om}{h':Oy}
theorem Cx.Ok.nofr(ok:X.Ok)(e:X.base.get? b=some o):b∉X.fs:=λhb=>by
 have:=(ok.funs.mem hb).1;rw[e] at this;cases this
theorem Inv.bs(I:Inv X pins σ H s):∀b o,X.base.get? b=some o->s.heap.get? b=some o/\H b=none:=λb o e=>
 ⟨I.base.keep b o (I.ok.bs b o e).1 (I.ok.bs b o e).2 (I.ok.nofr e) (I.ok.noex b o e),I.base.free b o (I.ok.bs b o e).1 (I.ok.bs b o e).2 (I.ok.noex b o e)⟩
theorem Inv.bk(I:Inv X pins σ H s):∀b o,X.base.get? b=some o->s.heap.get? b=some o:=λb o e=>(I.bs b o e).1
theorem Inv.mod(I:Inv X pins σ H s):Mod X.K X.mg X.base:=I.ok.mod
theorem Inv.kIn(I:Inv X pins σ H s):X.K.In s.heap:=I.ok.mod.kin.keeps I.bk
theorem Inv.lt(I:Inv X pins σ H s):X.env.locals<s.heap.objs.size:=let ⟨_,hn,_⟩:=I.loc;hn.lt
theorem Inv.sz(I:Inv X pins σ H s):X.s₀.heap.objs.size≤s.heap.objs.size:=OS I.ok.above (RK I.lt)
theorem Inv.nofs(I:Inv X pins σ H s){a:Addr}(h:s.heap.objs.size≤a):a∉X.fs:=λhb=>by
 obtain⟨_,o,ho,_⟩:=I.ok.funs.mem hb;exact absurd (OI (OF ho) (OS I.sz h)) (Pm _)
theorem Inv.cne(I:Inv X pins σ H s):∀x c,X.env.cells.lookup x=some c->c≠X.env.locals:=λx c e z=>by
 obtain⟨v,o,ho,hd⟩:=I.cell x c e;obtain⟨m,⟨o',es,ep,ho',hd',_⟩,_⟩:=I.loc;rw[z,ho'] at ho;cases ho;rw[hd'] at hd;cases hd
theorem Inv.funs(I:Inv X pins σ H s):s.heap.FunFrames X.base X.outer:=by
 have all:∀(l:List W6),(∀b∈mR l,b∈X.fs)->X.s₀.heap.FunFrames X.base l->s.heap.FunFrames X.base l:=by
  intro l
  induction l with
  |nil=>intro _ _;trivial
  |cons env r ih=>
   intro hs hl;obtain⟨hk,⟨L,o,hf,hn,ho,hd⟩,hr⟩:=hl;have hL:L∈X.fs:=hs L (by unfold mR;rw[Tg,hf];exact Oq);obtain⟨sl,e⟩:=I.base.slot L o ho (I.ok.frf L hL) hL λz=>I.ok.exfs L z hL
   exact⟨hk,⟨L,_,hf,hn,e,hd⟩,ih (λb hb=>hs b (by unfold mR;rw[Tg,hf];exact Ot _ hb)) hr⟩
 exact all X.outer (λ_ hb=>hb) I.ok.funs
theorem Inv.stack(I:Inv X pins σ H s):s.heap.FunFrames X.base X.stack:=by
 rcases I.ok.stk with e | ⟨e,hf⟩
 ·rw[e];exact I.funs
 ·rw[e];obtain⟨m,hn,_⟩:=I.loc;refine .cons (by rw[I.ok.kind];decide) hf hn ?_ I.funs;exact P2 (OS I.ok.bsz I.ok.above)
theorem Inv.stkSub(I:Inv X pins σ H s):∀b∈mR X.stack,b∈X.env.locals::X.fs:=λb hb=>by
 rcases I.ok.stk with e | ⟨e,hf⟩
 ·rw[e] at hb;exact Ot _ hb
 ·rw[e] at hb;unfold mR at hb;rw[Tg,hf] at hb;exact hb
theorem Inv.stkFree(I:Inv X pins σ H s):∀b∈mR X.stack,H b=none:=λb hb=>by
 rcases Ov.mp (I.stkSub b hb) with e|hb
 ·rw[e];exact I.free
 ·obtain⟨_,o,ho,_⟩:=I.ok.funs.mem hb;exact I.base.free b o ho (I.ok.frf b hb) λz=>I.ok.exfs b z hb
theorem Inv.step{ch:List Addr}(I:Inv X pins σ H s)
  (hch:∀b∈ch,(b∈X.ex∨X.s₀.heap.get? b=none)/\b≠X.env.locals/\(∀x c,X.env.cells.lookup x=some c->c≠b)/\∀p∈X.pn++pins,p.1≠b)
  (keep:∀b o,b≠X.env.locals->b∉X.fs->b∉ch->s.heap.get? b=some o->H b=none->h'.get? b=some o)
  (slot:∀b o,b≠X.env.locals->b∈X.fs->b∉ch->s.heap.get? b=some o->H b=none->∃sl,h'.get? b=some { o with slots:=sl}) (free:∀b o,b∉ch->s.heap.get? b=some o->H b=none->H' b=none)
  (there:∀b o,b∉ch->s.heap.get? b=some o->∃o',h'.get? b=some o')
  (tups:∀b xs,H b=some (.tup xs)->H' b=some (.tup xs)) (frzs:∀b o u,H b=some (.frz o u)->H' b=some (.frz o u)) (tbls:∀b ps,H b=some (.tbl ps)->∃more,H' b=some (.tbl (ps++more)))
  (ns:∀m,s.heap.Ns X.env.locals m->h'.Ns X.env.locals m) (hok:iz X.prog X.w H' h') (hg:SY g'):
  Inv X pins σ H' { s with heap:=h',gens:=g',drawn:=d',toks:=t'}:=by
 have neL:∀b o,X.s₀.heap.get? b=some o->b≠X.env.locals:=λb o e=>O9 (OI (OF e) I.ok.above)
 have neC:∀b o,X.s₀.heap.get? b=some o->b∉X.ex->b∉ch:=λb o e hx hb=>by
  rcases(hch b hb).1 with z|z
  ·exact hx z
  ·rw[e] at z;cases z
 have cellK:∀x c,X.env.cells.lookup x=some c->∀v,s.heap.IsCell c v->h'.IsCell c v:=λx c e v ⟨o,ho,hd⟩=>by
  have nch:c∉ch:=λz=>(hch c z).2.2.1 x c e Z
  by_cases hc:c∈X.fs
  ·obtain⟨sl,q⟩:=slot c o (I.cne x c e) hc nch ho (I.freeC x c e);exact⟨_,q,hd⟩
  ·exact⟨o,keep c o (I.cne x c e) hc nch ho (I.freeC x c e),hd⟩
 refine⟨I.ok,I.os,hg,⟨λb o e n hb hx=>?_,λb o e n hb hx=>?_,λb o e n hx=>?_,λb o e hx=>?_,λb xs e=>tups b xs (I.base.tups b xs e),λb o xs e=>frzs b o xs (I.base.frzs b o xs e),λb ps e=>?_⟩,?_,λx c e=>?_,?_,λx c e=>?_,λp hp=>?_,hok,I.len⟩
 ·exact keep b o (neL b o e) hb (neC b o e hx) (I.base.keep b o e n hb hx) (I.base.free b o e n hx)
 ·obtain⟨sl,e1⟩:=I.base.slot b o e n hb hx;obtain⟨sl',e2⟩:=slot b _ (neL b o e) hb (neC b o e hx) e1 (I.base.free b o e n hx);exact⟨sl',e2⟩
 ·obtain⟨o',e1⟩:=I.base.there b o e hx;exact free b o' (neC b o e hx) e1 (I.base.free b o e n hx)
 ·obtain⟨o',e1⟩:=I.base.there b o e hx;exact there b o' (neC b o e hx) e1
 ·obtain⟨m1,e1⟩:=I.base.tbls b ps e;obtain⟨m2,e2⟩:=tbls b _ e1;exact⟨m1++m2,by rw[e2,Array.append_assoc]⟩
 ·obtain⟨m,hn,hl⟩:=I.loc;refine⟨m,ns m hn,λi x v e1 e2 e3=>?_⟩;obtain⟨u,r,l⟩:=hl i x v e1 e2 e3;refine⟨u,r,?_⟩;rcases l with l | ⟨k,c,e,z⟩
  ·exact .inl l
  ·exact .inr ⟨k,c,e,cellK x c e _ z⟩
 ·obtain⟨v,z⟩:=I.cell x c e;exact⟨v,cellK x c e v z⟩
 ·obtain⟨m,⟨o,_,_,ho,_⟩,_⟩:=I.loc;exact free _ o (λz=>(hch _ z).2.1 Z) ho I.free
 ·obtain⟨v,o,ho,hd⟩:=I.cell x c e;exact free c o (λz=>(hch c z).2.2.1 x c e Z) ho (I.freeC x c e)
 ·obtain⟨e,n,ne,nf,d⟩:=I.pin p hp;have nch:p.1∉ch:=λz=>(hch p.1 z).2.2.2 p hp Z
  exact⟨keep p.1 p.2 ne nf nch e n,free p.1 p.2 nch e n,ne,nf,d⟩
theorem Inv.un(I:Inv X pins σ H s)(u:Un X.fs [] H H' s.heap h')(hok:iz X.prog X.w H' h'):Inv X pins σ H' { s with heap:=h',toks:=t'}:=by
 obtain⟨m,⟨o,es,ep,ho,r⟩,_⟩:=id I.loc;obtain⟨sl,hL⟩:=u.any ho I.free (by simp);exact I.step (g':=s.gens) (d':=s.drawn) (ch:=[]) (λ_ z=>nomatch z) (λb o _ hb _ e n=>u.keep b o e n hb (by simp)) (λb o _ hb _ e n=>u.slot b o e n hb (by simp)) (λb o _ e n=>u.free b o e n (by simp)) (λb o _ e=>u.there b o e (by simp)) u.tups u.frzs u.tbls (λm' hm=>by
  obtain⟨o',es',ep',ho',r'⟩:=hm;rw[ho] at ho';cases ho';exact⟨_,es',ep',hL,r'⟩) hok I.bare
theorem Inv.call(I:Inv X pins σ H s)(u:Un (mR X.stack) ch H H' s.heap h')(hok:iz X.prog X.w H' h')(hg:SY g')
  (hch:∀b∈ch,(b∈X.ex∨X.s₀.heap.get? b=none)/\b≠X.env.locals/\(∀x c,X.env.cells.lookup x=some c->c≠b)/\∀p∈X.pn++pins,p.1≠b):
  Inv X pins σ H' { s with heap:=h',gens:=g',drawn:=d',toks:=t'}:=by
 obtain⟨m,⟨o,es,ep,ho,r⟩,_⟩:=id I.loc;obtain⟨sl,hL⟩:=u.any ho I.free λz=>(hch _ z).2.1 Z
 exact I.step (ch:=ch) hch (λb o hL hb hc e n=>u.keep b o e n (λz=>(Ov.mp (I.stkSub b z)).elim hL hb) hc) (λb o _ _ hc e n=>u.any e n hc) (λb o hc e n=>u.free b o e n hc) (λb o hc e=>u.there b o e hc) u.tups u.frzs u.tbls (λm' hm=>by
  obtain⟨o',es',ep',ho',r'⟩:=hm;rw[ho] at ho';cases ho';exact⟨_,es',ep',hL,r'⟩) hok hg
theorem Inv.turned(I:Inv X pins σ H s)(k:∀b o,b≠it->s.heap.get? b=some o->h'.get? b=some o)(hn:H it=none)(hL:it≠X.env.locals)
  (h1:it∈X.ex∨X.s₀.heap.get? it=none) (h2:∀x c,X.env.cells.lookup x=some c->c≠it) (h3:∀p∈X.pn++pins,p.1≠it):Inv X pins σ H { s with heap:=h',toks:=t'}:=by
 have nit:∀b u,H b=some u->b≠it:=λb u e z=>by rw[z,hn] at e;cases e
 refine I.step (g':=s.gens) (d':=s.drawn) (ch:=[it]) (λb hb=>?_) (λb o _ _ hc e _=>k b o (λz=>hc (by simp[z])) e) (λb o _ _ hc e _=>⟨o.slots,k b o (λz=>hc (by simp[z])) e⟩) (λ_ _ _ _ n=>n)
  (λb o hc e=>⟨o,k b o (λz=>hc (by simp[z])) e⟩) (λ_ _ e=>e) (λ_ _ _ e=>e) (λb ps e=>⟨#[],by rw[e];simp⟩) (λm hm=>?_) (λb u e=>?_) I.bare
 ·have e:b=it:=by simpa using hb
  subst e;exact⟨h1,hL,h2,h3⟩
 ·obtain⟨o,es,ep,ho,r⟩:=hm;exact⟨o,es,ep,k _ o (Rw hL) ho,r⟩
 ·refine(I.hok b u e).stay (λc v hc q=>k c v ?_ q) (λ_ q=>q) λ_ _ q=>q
  rcases hc with z|z
  ·rw[z];exact nit b u e
  ·exact nit c _ z
theorem Inv.tok(I:Inv X pins σ H s)(t:Nat):Inv X pins σ H { s with toks:=t}:=I.un (h':=s.heap) (t':=t) Un.refl I.hok
theorem Inv.kept(I:Inv X pins σ H s)(k:∀b u,s.heap.get? b=some u->h'.get? b=some u):Inv X pins σ H { s with heap:=h',toks:=t'}:=I.un (Un.kept k) (I.hok.kept k)
theorem Inv.laid{a:Addr}{o:HO}{t':Nat}(I:Inv X pins σ H s)(k:∀b u,s.heap.get? b=some u->h'.get? b=some u)(hp:s.heap.objs.size≤a)(new:ObjOk X.prog X.w (upd H a o) h' a o) :
  Inv X pins σ (upd H a o) { s with heap:=h',toks:=t'}:=I.un (Un.laid k hp (I.hok.fresh hp)) (I.hok.laid k hp new)
theorem Inv.write(I:Inv X pins σ H s)(mu:JN (H x))(he:e=x∨H e=some (.own x))(k:∀b u,b≠e->s.heap.get? b=some u->h'.get? b=some u)(heo:∃u,h'.get? e=some u)
  (new:ObjOk X.prog X.w (upd H x o) h' x o):Inv X pins σ (upd H x o) { s with heap:=h',toks:=t'}:=I.un (Un.write mu he k heo) (I.hok.write mu he k heo new)
theorem Inv.weak(I:Inv X pins σ H s)(hl:σ'.length=σ.length)(w:∀(i:Nat) v,σ'[i]?=some (some v)->σ[i]?=some (some v)):Inv X pins σ' H s:=
 ⟨I.ok,I.os,I.bare,I.base,let ⟨m,hn,hl'⟩:=I.loc;⟨m,hn,λi x v e1 e2 e3=>hl' i x v e1 (w i v e2) e3⟩,I.cell,I.free,I.freeC,I.pin,I.hok,hl.trans I.len⟩
theorem Inv.pins_of(I:Inv X pins σ H s)(h:∀p∈pins',s.heap.get? p.1=some p.2/\H p.1=none/\p.1≠X.env.locals/\p.1∉X.fs/\∀v,p.2.data≠.cell v):Inv X pins' σ H s:=
 ⟨I.ok,I.os,I.bare,I.base,I.loc,I.cell,I.free,I.freeC,λp hp=>(OU.mp hp).elim (λz=>I.pin p (O6 _ z)) (h p),I.hok,I.len⟩
theorem lV{N:List OV}(hN:N.Nodup){i j:Nat}(a:N[i]?=some x)(b:N[j]?=some x):i=j:=by
 obtain⟨h1,e1⟩:=OH.mp a;obtain⟨h2,e2⟩:=OH.mp b;exact(Uh hN).mp (e1.trans e2.symm)
theorem vx{M:Model}{A:O5}{E:Value->Om->Prop}{i:Nat}{x:OV}{v:V}{u:Value}{Q:Unit->Om->Prop}(I:Inv X pins σ H s)(hN:X.N.Nodup)(hi:X.N[i]?=some x)(hx:wU X.env.scope x)(r:aZ v u)
  (h:∀s',Inv X pins (σ.set i (some v)) H s'->(∃a,RL a s.heap s'.heap/\(a=X.env.locals∨X.env.cells.lookup x=some a))->Q () s') (hf:X.fn x=true∨X.env.scope.names.lookup x=some .local:=by first|exact .inl Z|exact .inr Z|assumption):OJ M A (Xy X.env x u) Q E s:=by
 obtain⟨m,hn,hl⟩:=id I.loc;have hcls:(X.env.scope.kind==.class||(X.env.scope.kind==.module&&X.env.locals != X.env.globals))=false:=by rw[I.ok.kind];rfl
 have hiσ:i<σ.length:=by rw[I.len];exact(OH.mp hi).1
 have cne:=I.cne;have tracked:∀{a:Addr} {h':Oy},(∃o,s.heap.get? a=some o/\H a=none)->RL a s.heap h'->iz X.prog X.w H h':=λ{a h'} ha hs b ob e=>by
  obtain⟨_,_,hfree⟩:=ha;refine(I.hok b ob e).stay (λc w' hc q=>(hs.2 c ?_).trans q) (λ_ q=>q) λ_ _ q=>q
  rintro rfl;rcases hc with rfl|hc
  ·rw[hfree] at e;cases e
  ·rw[hfree] at hc;cases hc
 rcases hx with hk|hk
 ·refine wpAny_storeName_local hk hn (λh' hn' hs=>?_) hcls;obtain⟨oL,_,_,hoL,_⟩:=id hn;refine h _ ⟨I.ok,I.os,I.bare,⟨λb o e n hb hx=>?_,λb o e n hb hx=>?_,I.base.free,λb o e hx=>?_,I.base.tups,I.base.frzs,I.base.tbls⟩,⟨_,hn',λj y v' e1 e2 e3=>?_⟩,λy c e=>?_,I.free,I.freeC,λp hp=>?_,tracked ⟨oL,hoL,I.free⟩ hs,by simpa using I.len⟩ ⟨_,hs,.inl Z⟩
  ·exact(hs.2 b (O9 (OI (OF e) I.ok.above))).trans (I.base.keep b o e n hb hx)
  ·obtain⟨sl,e1⟩:=I.base.slot b o e n hb hx;exact⟨sl,(hs.2 b (O9 (OI (OF e) I.ok.above))).trans e1⟩
  ·obtain⟨o',e1⟩:=I.base.there b o e hx;exact⟨o',(hs.2 b (O9 (OI (OF e) I.ok.above))).trans e1⟩
  ·by_cases hj:j=i
   ·subst hj;rw[hi] at e1;cases e1;rw[Q2 hiσ] at e2
    cases e2
    exact⟨u,r,.inl ⟨hk,by simp⟩⟩
   ·rw[PQ (Rw hj)] at e2;obtain⟨u',r',q⟩:=hl j y v' e1 e2 e3;refine⟨u',r',?_⟩;rcases q with⟨k,e⟩ | ⟨k,c,e,z⟩
    ·refine .inl ⟨k,?_⟩;have:y≠x:=λe=>hj (lV hN e1 (e▸hi))
     simp[this,e]
    ·exact .inr ⟨k,c,e,z.sameBut hs (cne y c e)⟩
  ·obtain⟨w',z⟩:=I.cell y c e;exact⟨w',z.sameBut hs (cne y c e)⟩
  ·obtain⟨e,n,ne,nf,d⟩:=I.pin p hp;exact⟨(hs.2 p.1 ne).trans e,n,ne,nf,d⟩
 ·have hfn:X.fn x=true:=by
   rcases hf with z|z
   ·exact z
   ·rw[z] at hk;cases hk
  obtain⟨c,hc⟩:=I.ok.has x (.inl hk);obtain⟨w',z⟩:=I.cell x c hc;refine wpAny_storeName_cell I.ok.kind hk hc z (λh' hc' hs=>?_);obtain⟨oc,hoc,hocd⟩:=id z;refine h { s with heap:=h'} ⟨I.ok,I.os,I.bare,⟨λb o e n hb hx=>?_,λb o e n hb hx=>?_,I.base.free,λb o e hx=>?_,I.base.tups,I.base.frzs,I.base.tbls⟩,⟨m,hn.sameBut hs (Rw (cne x c hc)),λj y v' e1 e2 e3=>?_⟩,λy c' e=>?_,I.free,I.freeC,λp hp=>?_,tracked ⟨oc,hoc,I.freeC x c hc⟩ hs,by simpa using I.len⟩ ⟨c,hs,.inr hc⟩
  ·exact(hs.2 b (O9 (OI (OF e) (I.ok.cab x c hfn hc)))).trans (I.base.keep b o e n hb hx)
  ·obtain⟨sl,e1⟩:=I.base.slot b o e n hb hx;exact⟨sl,(hs.2 b (O9 (OI (OF e) (I.ok.cab x c hfn hc)))).trans e1⟩
  ·obtain⟨o',e1⟩:=I.base.there b o e hx;exact⟨o',(hs.2 b (O9 (OI (OF e) (I.ok.cab x c hfn hc)))).trans e1⟩
  ·by_cases hj:j=i
   ·subst hj;rw[hi] at e1;cases e1;rw[Q2 hiσ] at e2
    cases e2
    exact⟨u,r,.inr ⟨.inl hk,c,hc,hc'⟩⟩
   ·rw[PQ (Rw hj)] at e2;obtain⟨u',r',q⟩:=hl j y v' e1 e2 e3;refine⟨u',r',?_⟩;rcases q with q | ⟨k,c',e,z'⟩
    ·exact .inl q
    ·refine .inr ⟨k,c',e,z'.sameBut hs ?_⟩;rintro rfl;exact hj (lV hN e1 (I.ok.inj _ _ _ e hc▸hi))
  ·by_cases hcc:c'=c
   ·subst hcc;exact⟨_,hc'⟩
   ·obtain⟨w2,z2⟩:=I.cell y c' e;exact⟨w2,z2.sameBut hs hcc⟩
  ·obtain⟨e,n,ne,nf,d⟩:=I.pin p hp;refine⟨(hs.2 p.1 ?_).trans e,n,ne,nf,d⟩;intro q;rw[q,hoc] at e;have q':oc=p.2:=Pp e;exact d w' (by rw[←q'];exact hocd)
theorem eV{M:Model}{A:O5}{E:Value->Om->Prop}{i:Nat}{x:OV}{v:V}{u:Value}{Q:Unit->Om->Prop}(I:Inv X pins σ H s)(hN:X.N.Nodup)(hi:X.N[i]?=some x)(hx:wU X.env.scope x)(r:aZ v u)
  (h:∀s',Inv X pins (σ.set i (some v)) H s'->Q () s') (hf:X.fn x=true∨X.env.scope.names.lookup x=some .local:=by first|exact .inl Z|exact .inr Z|assumption):OJ M A (Xy X.env x u) Q E s:=
 vx I hN hi hx r (λs' I' _=>h s' I') hf
theorem Inv.call'(I:Inv X pins σ H s)(ho:s'.os=s.os)(u:Un (mR X.stack) ch H H' s.heap s'.heap)(hok:iz X.prog X.w H' s'.heap)(hg:SY s'.gens)
  (hch:∀b∈ch,(b∈X.ex∨X.s₀.heap.get? b=none)/\b≠X.env.locals/\(∀x c,X.env.cells.lookup x=some c->c≠b)/\∀p∈X.pn++pins,p.1≠b):Inv X pins σ H' s':=by
 obtain⟨h',g',d',t',o'⟩:=s';have e:o'=s.os:=ho;subst e;exact I.call (g':=g') (t':=t') (d':=d') u hok hg hch
end
abbrev XK:=Value->Option Addr->Hp->Prop
abbrev St:=List (Option V)
abbrev VK:=V->Hp->Prop
abbrev TE:=St->Hp->VK->Prop
abbrev TT:=St->Hp->(Bool->Hp->Prop)->Prop
abbrev TA:=St->Hp->(List V->Hp->Prop)->Prop
structure io where
 nx:St->Hp->Prop
 rt:VK
 bk:St->Hp->Prop:=λ_ _=>False
 ct:St->Hp->Prop:=λ_ _=>False
abbrev TS:=io->St->Hp->Prop
def EP(X:Cx)(pins:List (Addr×P0))(σ:St)(Q:VK)(u:Value)(s':Om):Prop:=∃v H',Inv X pins σ H' s'/\aZ v u/\Q v H'
def TP(X:Cx)(pins:List (Addr×P0))(σ:St)(Q:Bool->Hp->Prop)(b:Bool)(s':Om):Prop:=∃H',Inv X pins σ H' s'/\Q b H'
def AP(X:Cx)(pins:List (Addr×P0))(σ:St)(Q:List V->Hp->Prop)(us:List Value)(s':Om):Prop:=∃vs H',Inv X pins σ H' s'/\bc vs us/\Q vs H'
def SP(X:Cx)(pins:List (Addr×P0))(D:io)(f:Flow)(s':Om):Prop:=
 match f with
 | .next=>∃σ' H',Inv X pins σ' H' s'/\D.nx σ' H'
 | .brk=>∃σ' H',Inv X pins σ' H' s'/\D.bk σ' H'
 | .cont=>∃σ' H',Inv X pins σ' H' s'/\D.ct σ' H'
 | .ret u=>∃v σ' H',Inv X pins σ' H' s'/\aZ v u/\D.rt v H'
def PE(X:Cx)(e:O3)(t:TE):Prop:=
 ∀(pins:List (Addr×P0)) (s:Om) (σ:St) (H:Hp) (Q:VK),Inv X pins σ H s->t σ H Q->OJ (OM X.prog X.w) X.A (eval e X.env) (EP X pins σ Q) X.xe s
def PT(X:Cx)(e:O3)(t:TT):Prop:=
 ∀(pins:List (Addr×P0)) (s:Om) (σ:St) (H:Hp) (Q:Bool->Hp->Prop),Inv X pins σ H s->t σ H Q->OJ (OM X.prog X.w) X.A (isTrue e X.env (eval e X.env)) (TP X pins σ Q) X.xe s
def PW(X:Cx)(e:O3)(t:TT):Prop:=
 ∀(whole:Sem Value) (pins:List (Addr×P0)) (s:Om) (σ:St) (H:Hp) (Q:Bool->Hp->Prop),Inv X pins σ H s->t σ H Q->OJ (OM X.prog X.w) X.A (isTrue e X.env whole) (TP X pins σ Q) X.xe s
theorem PW.pt(h:PW X e t):PT X e t:=h _
def PA(X:Cx)(es:List O3)(t:TA):Prop:=
 ∀(pos:R1) (pins:List (Addr×P0)) (s:Om) (σ:St) (H:Hp) (Q:List V->Hp->Prop),Inv X pins σ H s->t σ H Q->OJ (OM X.prog X.w) X.A (spliced (QZ pos (Oz es X.env))) (AP X pins σ Q) X.xe s
def PS(X:Cx)(st:Stmt)(t:TS):Prop:=
 ∀(pins:List (Addr×P0)) (s:Om) (σ:St) (H:Hp) (D:io),Inv X pins σ H s->t D σ H->OJ (OM X.prog X.w) X.A (exec st X.env) (SP X pins D) X.xe s
def pX(X:Cx)(st:List Stmt)(t:TS):Prop:=
 ∀(pins:List (Addr×P0)) (s:Om) (σ:St) (H:Hp) (D:io),Inv X pins σ H s->t D σ H->OJ (OM X.prog X.w) X.A (execs st X.env) (SP X pins D) X.xe s
theorem bK{Q Q':α->Om->Prop}{E:Value->Om->Prop}(h:OJ M A t Q E s)(hQ:∀a s,Q a s->Q' a s):OJ M A t Q' E s:=Qh h hQ λ_ _ x=>x
end L2
namespace L2
open PySem PySem.Spec PyProof.Rows
section
variable {X:Cx}
def EH(i:Nat):TE:=λσ H Q=>∃v,σ[i]?=some (some v)/\Q v H
def tC(v:V):TE:=λ_ H Q=>Q v H
theorem FW{i:Nat}{x:OV}{pos:R1}(hN:X.N[i]?=some x)(hv:JG X.env.scope x)(hd:(x==("__debug__" : OV))=false:=by decide)(hcd:(x==("__classdict__" : OV))=false:=by decide):PE X (.Name x pos) (EH i):=by
 intro pins s σ H Q I h;obtain⟨v,e,h⟩:=h;obtain⟨m,hn,hl⟩:=I.loc;obtain⟨u,r,l⟩:=hl i x v hN e hv;have fin:EP X pins σ Q u s:=⟨v,H,I,r,h⟩;rcases l with⟨hk,hm⟩ | ⟨hk,c,hc,hcell⟩
 ·exact W7 (U9 I.ok.kind hk hn hm fin) hd
 ·rcases hk with hk|hk
  ·exact W7 (Vs I.ok.kind hk hc hcell fin) hd
  ·exact W7 (wpAny_loadName_free I.ok.kind hk hc hcell fin hcd) hd
theorem F5{i j pos}:PE X (.Constant (.int i) j pos) (tC (.int i)):=λ_ _ _ H _ I h=>wpAny_Constant_int ⟨.int i,H,I.tok _,⟨_,Z⟩,h⟩
theorem Ja{b j pos}:PE X (.Constant (.bool b) j pos) (tC (.bl b)):=λ_ _ _ H _ I h=>Constant_bool ⟨.bl b,H,I,Z,h⟩
theorem F3{j pos}:PE X (.Constant .none j pos) (tC .non):=λ_ _ _ H _ I h=>Constant_none ⟨.non,H,I,Z,h⟩
theorem FY{x j pos}:PE X (.Constant (.str x) j pos) (tC (.str x)):=λ_ _ _ H _ I h=>Calls.Constant_str ⟨.str x,H,I.tok _,⟨_,Z⟩,h⟩
def Gl(X:Cx)(x:OV):Prop:=X.env.kindOf x=some .globalImplicit
theorem jb{E:Value->Om->Prop}{pins:List (Addr×P0)}{s:Om}{σ:St}{H:Hp}{x:OV}{u:Value}{pos:R1}{Q:Value->Om->Prop}(I:Inv X pins σ H s)(hg:Gl X x)(hm:X.mg x=some u)(h:Q u s)
  (hd:(x==("__debug__" : OV))=false:=by decide):OJ (OM X.prog X.w) X.A (eval (.Name x pos) X.env) Q E s:=
 Calls.Name_function_global I.ok.kind hg (Calls.loadGlobal_global (by rw[I.ok.glob];exact I.mod.glob.keeps I.bk) hm h) hd
theorem gO{E:Value->Om->Prop}{pins:List (Addr×P0)}{s:Om}{σ:St}{H:Hp}{x:OV}{u:Value}{pos:R1}{Q:Value->Om->Prop}(I:Inv X pins σ H s)(hg:Gl X x)(hm:X.mg x=none)(hv:QM x=some u)(h:Q u s)
  (hn:x ≠ "__name__" := by decide) (hd:(x==("__debug__" : OV))=false:=by decide):OJ (OM X.prog X.w) X.A (eval (.Name x pos) X.env) Q E s:=by
 obtain⟨mb,h1,h2⟩:=I.mod.blt;exact Calls.Name_function_global I.ok.kind hg (Calls.loadGlobal_builtin (by rw[I.ok.glob];exact I.mod.glob.keeps I.bk) hm (by rw[I.ok.blt];exact h1.keeps I.bk) ((h2 x hn).trans hv) h) hd
theorem CJ{x:OV}{v:V}{u:Value}{pos:R1}(hg:Gl X x)(hm:X.mg x=some u)(r:aZ v u)(hd:(x==("__debug__" : OV))=false:=by decide):PE X (.Name x pos) (tC v):=
 λ_ _ _ H _ I h=>jb I hg hm ⟨v,H,I,r,h⟩ hd
theorem CM{x:OV}{v:V}{u:Value}{pos:R1}(hg:Gl X x)(hm:X.mg x=none)(hv:QM x=some u)(r:aZ v u)(hn:x ≠ "__name__" := by decide)(hd:(x==("__debug__" : OV))=false:=by decide):PE X (.Name x pos) (tC v):=
 λ_ _ _ H _ I h=>gO I hg hm hv ⟨v,H,I,r,h⟩ hn hd
def J0(ta tb:TE)(k:Int->Int->Hp->Prop):St->Hp->Prop:=λσ H=>ta σ H λx H1=>tb σ H1 λy H2=>∃i j,x=.int i/\y=.int j/\k i j H2
def MH(ta tb:TE):TE:=λσ H Q=>J0 ta tb (λi j H2=>Q (.int (i+j)) H2) σ H
def Mv(ta tb:TE):TE:=λσ H Q=>J0 ta tb (λi j H2=>Q (.int (i-j)) H2) σ H
def MA(ta tb:TE):TE:=λσ H Q=>J0 ta tb (λi j H2=>(-(2^64)<i/\i<2^64)/\Q (.int (i*j)) H2) σ H
variable {a b:O3}{ta tb:TE}{pos:R1}
def PC(X:Cx)(op:W8)(a b:O3)(t:TE):Prop:=
 ∀(pins:List (Addr×P0)) (s:Om) (σ:St) (H:Hp) (Q:VK),Inv X pins σ H s->t σ H Q→
  OJ (OM X.prog X.w) X.A (eval a X.env) (λv s₁=>OJ (OM X.prog X.w) X.A (eval b X.env) (λu s₂=>OJ (OM X.prog X.w) X.A (Pz op v u) (EP X pins σ Q) X.xe s₂) X.xe s₁) X.xe s
def vw(p:Int->Int->Bool)(ta tb:TE):TE:=λσ H Q=>J0 ta tb (λi j H2=>Q (.bl (p i j)) H2) σ H
abbrev NH:TE->TE->TE:=vw λi j=>decide (i<j)
abbrev NI:TE->TE->TE:=vw λi j=>decide (i≤j)
abbrev NJ:TE->TE->TE:=vw λi j=>decide (j<i)
abbrev NK:TE->TE->TE:=vw λi j=>decide (j≤i)
abbrev MC:TE->TE->TE:=vw λi j=>decide (i=j)
abbrev Mz:TE->TE->TE:=vw λi j=>!decide (i=j)
def MB(ta:TE):TE:=λσ H Q=>ta σ H λx H1=>Q (.bl (decide (x=.non))) H1
def Lx(ta:TE):TE:=λσ H Q=>ta σ H λx H1=>Q (.bl (!decide (x=.non))) H1
def tB(t:TE):TT:=λσ H Q=>t σ H λx H1=>∃c,x=.bl c/\Q c H1
theorem FI{e:O3}{t:TE}(h:PE X e t)(he:∀whole,isTrue e X.env whole=(do let v ←whole;UD e.pos;holding [v] (truthy v)):=by intro _;rfl):PT X e (tB t):=by
 intro pins s σ H Q I hw;refine isTrue_plain (bK (h pins s σ H _ I hw) λv s1 ⟨x,H1,I1,r1,q1⟩=>?_) (he _);obtain⟨d,rfl,q⟩:=q1
 cases r1
 exact Qp ⟨H1,I1,q⟩
variable {tA tB':TT}{cQ:List O3}
def Iw(t u:TT):TT:=λσ H Q=>t σ H λc H1=>if c=true then u σ H1 Q else Q false H1
def Lw(t u:TT):TT:=λσ H Q=>t σ H λc H1=>if c=true then Q true H1 else u σ H1 Q
def Io(t:TT):TT:=λσ H Q=>t σ H λc H1=>Q (!c) H1
theorem Cl(ha:PT X a tA):PW X (.BoolOp .And [a] pos) tA:=by
 intro wh pins s σ H Q I h;refine isTrue_and (bK (ha pins s σ H Q I h) λc s1 e=>?_)
 cases c with
 |true=>exact isTrue_and_nil e
 |false=>exact e
theorem FF(ha:PT X a tA):PW X (.BoolOp .Or [a] pos) tA:=by
 intro wh pins s σ H Q I h;refine isTrue_or (bK (ha pins s σ H Q I h) λc s1 e=>?_)
 cases c with
 |false=>exact isTrue_or_nil e
 |true=>exact e
theorem FG(ha:PT X a tA)(hb:PW X (.BoolOp .And (b::cQ) pos) tB'):PW X (.BoolOp .And (a::b::cQ) pos) (Iw tA tB'):=by
 intro wh pins s σ H Q I h;refine isTrue_and (bK (ha pins s σ H _ I h) λc s1 ⟨H1,I1,q1⟩=>?_)
 cases c with
 |true=>exact hb wh pins s1 σ H1 Q I1 q1
 |false=>exact⟨H1,I1,q1⟩
theorem IT(ha:PT X a tA)(hb:PW X (.BoolOp .Or (b::cQ) pos) tB'):PW X (.BoolOp .Or (a::b::cQ) pos) (Lw tA tB'):=by
 intro wh pins s σ H Q I h;refine isTrue_or (bK (ha pins s σ H _ I h) λc s1 ⟨H1,I1,q1⟩=>?_)
 cases c with
 |true=>exact⟨H1,I1,q1⟩
 |false=>exact hb wh pins s1 σ H1 Q I1 q1
theorem FJ(ha:PT X a tA):PT X (.UnaryOp .Not a pos) (Io tA):=by
 intro pins s σ H Q I h;exact isTrue_not (ha pins s σ H (λc H1=>Q (!c) H1) I h)
def DU(ta tb:TE):TE:=λσ H Q=>ta σ H λx H1=>∃c,x=.bl c/\if c=true then tb σ H1 Q else Q (.bl false) H1
def Mx(ta tb:TE):TE:=λσ H Q=>ta σ H λx H1=>∃c,x=.bl c/\if c=true then Q (.bl true) H1 else tb σ H1 Q
def DO(ta:TE):TE:=λσ H Q=>ta σ H λx H1=>∃c,x=.bl c/\Q (.bl (!c)) H1
theorem FZ{op}(h:PE X a t):PE X (.BoolOp op [a] pos) t:=λpins s σ H Q I hw=>BoolOp_one (h pins s σ H Q I hw)
theorem F8(ha:PE X a ta)(hb:PE X (.BoolOp .And (b::cQ) pos) tb):PE X (.BoolOp .And (a::b::cQ) pos) (DU ta tb):=by
 intro pins s σ H Q I h;refine BoolOp_and (bK (ha pins s σ H _ I h) λv s1 ⟨x,H1,I1,r1,q1⟩=>?_);obtain⟨c,rfl,q1⟩:=q1
 cases r1
 refine Qp ?_
 cases c with
 |true=>exact hb pins s1 σ H1 Q I1 q1
 |false=>exact⟨.bl false,H1,I1,Z,q1⟩
theorem F1(ha:PE X a ta):PE X (.UnaryOp .Not a pos) (DO ta):=by
 intro pins s σ H Q I h;refine UnaryOp_ (bK (ha pins s σ H _ I h) λv s1 ⟨x,H1,I1,r1,q1⟩=>?_);obtain⟨c,rfl,q1⟩:=q1
 cases r1
 exact not_of (Qp ⟨.bl (!c),H1,I1,Z,q1⟩)
def Lz(t:TT)(ta tb:TE):TE:=λσ H Q=>t σ H λc H1=>if c=true then ta σ H1 Q else tb σ H1 Q
theorem zT(hc:PT X c tA)(ha:PE X a ta)(hb:PE X b tb):PE X (.IfExp c a b pos) (Lz tA ta tb):=by
 intro pins s σ H Q I h;refine wpAny_IfExp (bK (hc pins s σ H _ I h) λd s1 ⟨H1,I1,q1⟩=>?_)
 cases d with
 |true=>exact ha pins s1 σ H1 Q I1 q1
 |false=>exact hb pins s1 σ H1 Q I1 q1
end
end L2
namespace L2
open PySem PySem.Spec PyProof.Rows
def ba(K:Of)(H:Hp)(a:Addr)(xs:List V):Prop:=
 Rd H a (.lst xs)∨
  ∃(o:P0) (its:Array Value) (n:Nat),K.lookup a=some o/\o.cls=.type "list"/\o.dict=none/\o.data=.seq its n/\its.size≤sizeLine/\bc xs its.toList
def bu(K:Of)(H:Hp)(a:Addr)(xs:List V):Prop:=
 Rd H a (.tup xs)∨
  ∃(o:P0) (its:Array Value) (n:Nat),K.lookup a=some o/\o.cls=.type "tuple"/\o.data=.seq its n/\its.size≤sizeLine/\bc xs its.toList
def K5:Value->Option V
 | .none=>some .non
 | .bool b=>some (.bl b)
 | .int i _=>some (.int i)
 | .str x _=>some (.str x)
 | .bytes b _=>some (.byt b)
 | .float b _=>some (.flt b)
 | .ref a=>some (.ref a)
 | .type n=>some (.ty n)
 |_=>none
theorem aZ.abs(r:aZ x u):K5 u=some x:=by
 cases x with
 |non=>cases r;rfl
 |bl _=>cases r;rfl
 |int _=>obtain⟨t,rfl⟩:=r;rfl
 |str _=>obtain⟨t,rfl⟩:=r;rfl
 |byt _=>obtain⟨t,rfl⟩:=r;rfl
 |flt _=>obtain⟨t,rfl⟩:=r;rfl
 |ref _=>cases r;rfl
 |ty _=>cases r;rfl
theorem aZ.inj(r:aZ x u)(q:aZ y u):x=y:=Pp (r.abs.symm.trans q.abs)
theorem bc.inj:∀{xs ys:List V} {us:List Value},bc xs us->bc ys us->xs=ys
 |_,_,_,.nil,.nil=>rfl
 |_,_,_,.cons r t,.cons r' t'=>by rw[r.inj r',bc.inj t t']
section
variable {X:Cx}{pins:List (Addr×P0)}{σ:St}{H:Hp}{s:Om}{a:Addr}{xs ys:List V}
theorem ba.of{K:Of}(h:H a=some (.lst xs)):ba K H a xs:=.inl (.inl h)
theorem bu.of{K:Of}(h:H a=some (.tup xs)):bu K H a xs:=.inl (.inl h)
theorem Inv.list(I:Inv X pins σ H s)(h:ba X.K H a xs):∃its:List Value,bc xs its/\PlainL s.heap a its.toArray/\xs.length≤sizeLine:=by
 rcases h with h | ⟨o,its,n,hk,hc,hd,hs,hz,r⟩
 ·obtain⟨z,its,n,r,e⟩:=h.ok I.hok;exact⟨its,r,⟨_,n,e,Z,Z,Z⟩,z⟩
 ·refine⟨its.toList,r,⟨o,n,I.kIn a o hk,hc,hd,by simpa using hs⟩,?_⟩;have e:=r.length;simp only[Qv] at e;omega
theorem Inv.tuple(I:Inv X pins σ H s)(h:bu X.K H a xs):∃its:List Value,bc xs its/\W4 s.heap a its.toArray/\xs.length≤sizeLine:=by
 rcases h with h | ⟨o,its,n,hk,hc,hs,hz,r⟩
 ·obtain⟨z,its,r,p⟩:=h.ok I.hok;exact⟨its,r,p,z⟩
 ·refine⟨its.toList,r,⟨o,I.kIn a o hk,hc,n,by simpa using hs⟩,?_⟩;have e:=r.length;simp only[Qv] at e;omega
theorem Inv.list_inj(I:Inv X pins σ H s)(h:ba X.K H a xs)(h':ba X.K H a ys):xs=ys:=by
 obtain⟨its,r,⟨o,n,e,_,_,d⟩,_⟩:=I.list h;obtain⟨its',r',⟨o',n',e',_,_,d'⟩,_⟩:=I.list h';rw[e] at e';cases e';rw[d] at d';injection d' with d1 _;have:its=its':=by simpa using congrArg Array.toList d1
 subst this;exact r.inj r'
theorem Inv.tuple_inj(I:Inv X pins σ H s)(h:bu X.K H a xs)(h':bu X.K H a ys):xs=ys:=by
 obtain⟨its,r,⟨o,e,_,n,d⟩,_⟩:=I.tuple h;obtain⟨its',r',⟨o',e',_,n',d'⟩,_⟩:=I.tuple h';rw[e] at e';cases e';rw[d] at d';injection d' with d1 _;have:its=its':=by simpa using congrArg Array.toList d1
 subst this;exact r.inj r'
end
abbrev Cx.wish(X:Cx)(E:Value->Om->Prop):Cx:={ X with xe:=E}
abbrev Cx.nox(X:Cx):Cx:=X.wish λ_ _=>False
theorem Cx.Ok.wish{X:Cx}(ok:X.Ok)(E:Value->Om->Prop):(X.wish E).Ok:=
 ⟨ok.mod,ok.kind,ok.glob,ok.blt,ok.above,ok.inj,ok.has,ok.cab,ok.hd,ok.frames,ok.stk,ok.exf,ok.bs,ok.bsz,ok.noex,ok.exfs,ok.funs,ok.frf⟩
theorem Cx.Ok.unwish{X:Cx}(ok:(X.wish E).Ok):X.Ok:=
 ⟨ok.mod,ok.kind,ok.glob,ok.blt,ok.above,ok.inj,ok.has,ok.cab,ok.hd,ok.frames,ok.stk,ok.exf,ok.bs,ok.bsz,ok.noex,ok.exfs,ok.funs,ok.frf⟩
section
variable {X:Cx}{pins:List (Addr×P0)}{σ:St}{H:Hp}{s:Om}{E:Value->Om->Prop}
theorem Inv.wish(I:Inv X pins σ H s)(E:Value->Om->Prop):Inv (X.wish E) pins σ H s:=⟨I.ok.wish E,I.os,I.bare,I.base,I.loc,I.cell,I.free,I.freeC,I.pin,I.hok,I.len⟩
theorem Inv.unwish(I:Inv (X.wish E) pins σ H s):Inv X pins σ H s:=⟨I.ok.unwish,I.os,I.bare,I.base,I.loc,I.cell,I.free,I.freeC,I.pin,I.hok,I.len⟩
theorem SP.unwish(h:SP (X.wish E) pins D f s'):SP X pins D f s':=by
 cases f with
 |next=>obtain⟨σ',H',I,q⟩:=h;exact⟨σ',H',I.unwish,q⟩
 |brk=>obtain⟨σ',H',I,q⟩:=h;exact⟨σ',H',I.unwish,q⟩
 |cont=>obtain⟨σ',H',I,q⟩:=h;exact⟨σ',H',I.unwish,q⟩
 |ret u=>obtain⟨v,σ',H',I,r,q⟩:=h;exact⟨v,σ',H',I.unwish,r,q⟩
theorem pX.nox{st:List Stmt}(h:pX X.nox st t):pX X st t:=λpins s σ H D I hw=>
 Qh (h pins s σ H D (I.wish _) hw) (λ_ _ q=>q.unwish) λ_ _ z=>P6 z
end
section
variable {X:Cx}{st:Stmt}{cQ:List Stmt}{t u:TS}{e:O3}{te:TE}{pos:R1}
def DP:TS:=λD σ H=>D.nx σ H
def EI(t u:TS):TS:=λD σ H=>t { D with nx:=u D} σ H
theorem Cq:pX X [] DP:=λ_ _ σ H _ I h=>Su ⟨σ,H,I,h⟩
theorem zw(h1:PS X st t)(h2:pX X cQ u):pX X (st::cQ) (EI t u):=by
 intro pins s σ H D I h;refine Wy (bK (h1 pins s σ H { D with nx:=u D} I h) λf s1 q=>?_)
 cases f with
 |next=>
  obtain⟨σ',H',I',q⟩:=q;exact h2 pins s1 σ' H' D I' q
 |ret v=>exact q
 |brk=>exact q
 |cont=>exact q
theorem Cp(h1:PS X st t):pX X [st] t:=by
 intro pins s σ H D I h;refine Wy (bK (h1 pins s σ H D I h) λf s1 q=>?_)
 cases f with
 |next=>exact Su q
 |ret v=>exact q
 |brk=>exact q
 |cont=>exact q
def KF:TS:=λD σ H=>D.bk σ H
def DS:TS:=λD σ H=>D.ct σ H
theorem qH:PS X (.Continue pos) DS:=λ_ _ σ H _ I h=>wpAny_Continue ⟨σ,H,I,h⟩
theorem Inv.quiet{pins:List (Addr×P0)}{σ:St}{H:Hp}{s:Om}(I:Inv X pins σ H s):interactive X.env=false:=by simp[interactive,I.ok.kind]
def DR(te:TE):TS:=λD σ H=>te σ H λ_ H1=>D.nx σ H1
theorem Cu(he:PE X e te)(hs:QV e none pos.line X.env=Qm false:=by rfl):PS X (.Expr e pos) (DR te):=by
 intro pins s σ H D I h;exact wpAny_Expr_any (bK (he pins s σ H _ I h) λv s1 ⟨x,H1,I1,r1,q1⟩=>⟨σ,H1,I1,q1⟩) I.quiet hs
def Il(te:TE):TS:=λD σ H=>te σ H D.rt
theorem FL(he:PE X e te):PS X (.Return (some e) pos) (Il te):=by
 intro pins s σ H D I h;exact wpAny_Return_some (bK (he pins s σ H _ I h) λv s1 ⟨x,H1,I1,r1,q1⟩=>⟨x,σ,H1,I1,r1,q1⟩)
def Lv:TS:=λD _ H=>D.rt .non H
def Iq(c:TT)(t u:TS):TS:=λD σ H=>c σ H λb H1=>if b=true then t D σ H1 else u D σ H1
theorem IU(hc:PT X c tc)(ha:pX X a t)(hb:pX X b u):PS X (.If c a b pos) (Iq tc t u):=by
 intro pins s σ H D I h;refine wpAny_If (bK (hc pins s σ H _ I h) λd s1 ⟨H1,I1,q1⟩=>?_)
 cases d with
 |true=>exact ha pins s1 σ H1 D I1 q1
 |false=>exact hb pins s1 σ H1 D I1 q1
def xy:TS:=λ_ _ _=>False
theorem zH:PS X st xy:=λ_ _ _ _ _ _ h=>h.elim
end
abbrev TG:=V->St->Hp->(St->Hp->Prop)->Prop
abbrev wS:=List V->St->Hp->(St->Hp->Prop)->Prop
def PG(X:Cx)(target:O3)(t:TG):Prop:=
 ∀(pins:List (Addr×P0)) (s:Om) (σ:St) (H:Hp) (v:V) (u:Value) (Q:St->Hp->Prop),Inv X pins σ H s->aZ v u->t v σ H Q→
  OJ (OM X.prog X.w) X.A (SR target X.env u) (λ_ s'=>∃σ' H',Inv X pins σ' H' s'/\Q σ' H') X.xe s
def HV(X:Cx)(ts:List O3)(t:wS):Prop:=
 ∀(pins:List (Addr×P0)) (s:Om) (σ:St) (H:Hp) (vs:List V) (us:List Value) (Q:St->Hp->Prop),Inv X pins σ H s->bc vs us->t vs σ H Q→
  OJ (OM X.prog X.w) X.A (VA ((Qq ts X.env).map (·.2)) us) (λ_ s'=>∃σ' H',Inv X pins σ' H' s'/\Q σ' H') X.xe s
abbrev Bk:=V->V->V->Hp->(Hp->Prop)->Prop
def Ho(X:Cx)(t:Bk):Prop:=
 ∀(pins:List (Addr×P0)) (s:Om) (σ:St) (H:Hp) (o i v:V) (ov iv u:Value) (Q:Hp->Prop),Inv X pins σ H s->aZ o ov->aZ i iv->aZ v u->t o i v H Q→
  OJ (OM X.prog X.w) X.A (XE ov iv u) (λ_ s'=>∃H',Inv X pins σ H' s'/\Q H') X.xe s
abbrev HS:=V->V->Hp->VK->Prop
def K9(X:Cx)(op:W9)(t:HS):Prop:=
 ∀(pins:List (Addr×P0)) (s:Om) (σ:St) (H:Hp) (x y:V) (v u:Value) (Q:VK),Inv X pins σ H s->aZ x v->aZ y u->t x y H Q→
  OJ (OM X.prog X.w) X.A (Xz op v u) (EP X pins σ Q) X.xe s
section
variable {X:Cx}{pos:R1}
def jd(i:Nat):TG:=λv σ H Q=>Q (σ.set i (some v)) H
theorem CG{i:Nat}{x:OV}(hN:X.N.Nodup)(hi:X.N[i]?=some x)(hx:wU X.env.scope x)(hf:X.fn x=true∨X.env.scope.names.lookup x=some .local:=by first|exact .inl Z|exact .inr Z|assumption):PG X (.Name x pos) (jd i):=by
 intro pins s σ H v u Q I r h;exact TW (eV I hN hi hx r (λs' I'=>⟨_,H,I',h⟩) hf)
def Jz:wS:=λvs σ H Q=>vs=[]/\Q σ H
def Eo(t:TG)(u:wS):wS:=λvs σ H Q=>∃v r,vs=v::r/\t v σ H λσ' H'=>u r σ' H' Q
theorem CD:HV X [] Jz:=by
 intro pins s σ H vs us Q I r h;obtain⟨e,h⟩:=h;subst e
 cases r
 exact VZ ⟨σ,H,I,h⟩
theorem zN{e:O3}{es:List O3}{t:TG}{u:wS}(h1:PG X e t)(h2:HV X es u)
  (hs:(Qq (e::es) X.env).map (·.2)=SR e X.env::(Qq es X.env).map (·.2):=by rfl):HV X (e::es) (Eo t u):=by
 intro pins s σ H vs us Q I r h;obtain⟨v,vr,e1,h⟩:=h;subst e1
 cases r with
 |cons r rr=>
  rw[hs];refine Tv (bK (h1 pins s σ H _ _ _ I r h) λ_ s1 ⟨σ1,H1,I1,q1⟩=>?_);exact h2 pins s1 σ1 H1 _ _ Q I1 rr q1
def De(K:Of)(n:Nat)(t:wS):TG:=λv σ H Q=>∃a xs,v=.ref a/\bu K H a xs/\xs.length=n/\t xs σ H Q
theorem zO{es:List O3}{k:Nat}{t:wS}{n:Nat}(hc:X.calm=true)(h:HV X es t)
  (hn:(Qq es X.env).length=n:=by rfl) (hst:(Qq es X.env).findIdx? (·.1)=none:=by rfl):PG X (.Tuple es k pos) (De X.K n t):=by
 intro pins s σ H v u Q I r hw;obtain⟨a,xs,e1,hq,hl,hw⟩:=hw;subst e1
 cases r
 obtain⟨its,rv,ht,hz⟩:=I.tuple hq;refine assign_Tuple_tuple (I.ok.hd hc) ht (by simp[hn,←hl,rv.length]) hst λh' hx=>?_
 have I1:Inv X pins σ H { s with heap:=h'}:=I.kept (t':=s.toks) λb o e=>hx b o (O9 (OF e)) e
 exact h pins _ σ H xs _ Q I1 (by simpa using rv) hw
def Jy(to ti:TE)(t:Bk):TG:=λv σ H Q=>to σ H λo H1=>ti σ H1 λi H2=>t o i v H2 λH3=>Q σ H3
theorem FV{o i:O3}{to ti:TE}{t:Bk}(ho:PE X o to)(hi:PE X i ti)(hs:Ho X t)
  (ha:∀v,SR (.Subscript o i pos) X.env v=(do
   let ov ←holding [v] (eval o X.env);let iv ←holding [v,ov] (eval i X.env)
   UD pos
   holding [v,ov,iv] (XE ov iv v)
   release [v,ov,iv] []):=by intro _;rfl):PG X (.Subscript o i pos) (Jy to ti t):=by
 intro pins s σ H v u Q I r h;rw[ha];refine Oj (wpAny_holding (bK (ho pins s σ H _ I h) λov s1 ⟨x,H1,I1,r1,q1⟩=>?_));refine Oj (wpAny_holding (bK (hi pins s1 σ H1 _ I1 q1) λiv s2 ⟨y,H2,I2,r2,q2⟩=>?_));refine Oj (RY (Oj (wpAny_holding (bK (hs pins s2 σ H2 x y v ov iv u _ I2 r1 r2 r q2) λ_ s3 ⟨H3,I3,q3⟩=>?_))));exact wpAny_release ⟨σ,H3,I3,q3⟩
def ou(te:TE)(g:TG):TS:=λD σ H=>te σ H λx H1=>g x σ H1 D.nx
theorem FR{tg e:O3}{te:TE}{g:TG}(he:PE X e te)(hg:PG X tg g)(hs:Ub [tg] e pos.line X.env=Qm false:=by rfl)(hw:Uc [tg] e X.env=Qm none:=by rfl)
  (h1:(Qq [tg] X.env).map (·.2)=[SR tg X.env]:=by rfl):PS X (.Assign [tg] e pos) (ou te g):=by
 intro pins s σ H D I h;refine wpAny_Assign_stores (bK (he pins s σ H _ I h) λv s1 ⟨x,H1,I1,r1,q1⟩=>?_) hs hw;rw[h1];exact bK (hg pins s1 σ H1 x v _ I1 r1 q1) λ_ s2 q=>q
theorem FK{i:Nat}{x:OV}{e:O3}{te:TE}{pos':R1}(hN:X.N.Nodup)(hi:X.N[i]?=some x)(hx:wU X.env.scope x)(he:PE X e te)(hs:QV e (some (.Name x pos')) pos.line X.env=Qm false:=by rfl)(hf:X.fn x=true∨X.env.scope.names.lookup x=some .local:=by first|exact .inl Z|exact .inr Z|assumption) :
  PS X (.Assign [.Name x pos'] e pos) (ou te (jd i)):=by
 intro pins s σ H D I h;refine wpAny_Assign_Name (bK (he pins s σ H _ I h) λv s1 ⟨y,H1,I1,r1,q1⟩=>?_) hs;exact eV I1 hN hi hx r1 (λs2 I2=>⟨_,H1,I2,q1⟩) hf
def Im(i j:Nat)(ta:TA):TS:=λD σ H=>ta σ H λvs H1=>∃v w,vs=[v,w]/\D.nx ((σ.set i (some v)).set j (some w)) H1
theorem FN{i j:Nat}{x y:OV}{a b:O3}{ta:TA}{px py pt:R1}{kt k2 pt2}(hc:X.calm=true)(hN:X.N.Nodup)(hi:X.N[i]?=some x)(hj:X.N[j]?=some y)(hij:i≠j)
  (hx:X.env.scope.names.lookup x=some .local) (hy:X.env.scope.names.lookup y=some .local) (ha:PA X [a,b] ta)
  (hw:Uc [.Tuple [.Name x px,.Name y py] kt pt] (.Tuple [a,b] k2 pt2) X.env=Qm (some [x,y]))
  (hs:Ub [.Tuple [.Name x px,.Name y py] kt pt] (.Tuple [a,b] k2 pt2) pos.line X.env=Qm false:=by rfl) :
  PS X (.Assign [.Tuple [.Name x px,.Name y py] kt pt] (.Tuple [a,b] k2 pt2) pos) (Im i j ta):=by
 intro pins s σ H D I h;rw[exec_Assign_arm];refine Oj (RY ?_);rw[hs];refine Oj (OC ?_);rw[if_neg (by decide)];refine Oj (Tuple_ (bK (ha _ pins s σ H _ I h) λus s1 ⟨vs,H1,I1,r1,q1⟩=>?_));obtain⟨v,w,e1,q1⟩:=q1;subst e1;obtain⟨u1,u2,rfl,rv,rw'⟩:∃u1 u2,us=[u1,u2]/\aZ v u1/\aZ w u2:=by
  cases r1 with
  |cons p q=>
   cases q with
   |cons p' q'=>
    cases q'
    exact⟨_,_,Z,p,p'⟩
 refine PD ?_ gC;have I2:Inv X pins σ H1 { s1 with heap:=s1.heap.push { cls:=.type "tuple",data:=.seq [u1,u2].toArray} }:=I1.kept (t':=s1.toks) λb o e=>On _ e
 rw[hw];refine Oj (OC ?_);show OJ (OM X.prog X.w) X.A (do rule "assign.swapped-stores";let items ←unpackItems (.ref s1.heap.objs.size) 2 none;VA [λv=>V0 X.env y v,λv=>V0 X.env x v] items.reverse;Qm Wz) _ _ _;refine Oj (Xa (Oj (unpackItems_tuple (items:=#[u1,u2]) (I.ok.hd hc) (WA s1.heap _) λh' hx'=>?_)));have I3:=I2.kept (h':=h') (t':=s1.toks) λb o e=>hx' b o (O9 (OF e)) e
 show OJ _ _ (VA [λv=>V0 X.env y v,λv=>V0 X.env x v] [u2,u1] >>= λ_=>Qm Wz) _ _ _;refine Oj (Tv (wpAny_bindName (eV I3 hN hj (.inl hy) rw' (λs2 I4=>?_) (.inr hy))));refine Tv (wpAny_bindName (eV I4 hN hi (.inl hx) rv (λs3 I5=>VZ (OC ?_)) (.inr hx)));rw[List.set_comm _ _ (Rw hij)] at I5;exact⟨_,H1,I5,q1⟩
def Iv(i:Nat)(te:TE)(ti:HS):TS:=λD σ H=>∃x,σ[i]?=some (some x)/\te σ H λy H1=>ti x y H1 λz H2=>D.nx (σ.set i (some z)) H2
theorem FQ{i:Nat}{x:OV}{e:O3}{te:TE}{op:W9}{ti:HS}{pos':R1}(hN:X.N.Nodup)(hi:X.N[i]?=some x)(hx:wU X.env.scope x)(he:PE X e te)(ho:K9 X op ti)(hf:X.fn x=true∨X.env.scope.names.lookup x=some .local:=by first|exact .inl Z|exact .inr Z|assumption) :
  PS X (.AugAssign (.Name x pos') op e pos) (Iv i te ti):=by
 intro pins s σ H D I h;obtain⟨v,e1,h⟩:=h;obtain⟨m,hn,hl⟩:=I.loc;have vis:JG X.env.scope x:=by rcases hx with k|k;exact .inl k;exact .inr (.inl k)
 obtain⟨u,r,l⟩:=hl i x v hi e1 vis;refine wpAny_AugAssign_Name ?_;have go:OJ (OM X.prog X.w) X.A (eval e X.env) (λw s₂=>OJ (OM X.prog X.w) X.A (Xz op u w) (λr s₃=>OJ (OM X.prog X.w) X.A (Xy X.env x r) (λ_=>SP X pins D .next) X.xe s₃) X.xe s₂) X.xe s:=by
  refine bK (he pins s σ H _ I h) λw s1 ⟨y,H1,I1,r1,q1⟩=>?_
  refine bK (ho pins s1 σ H1 v y u w _ I1 r r1 q1) λz s2 ⟨zv,H2,I2,r2,q2⟩=>?_
  exact eV I2 hN hi hx r2 (λs3 I3=>⟨_,H2,I3,q2⟩) hf
 rcases l with⟨hk,hm⟩ | ⟨hk,c,hc,hcell⟩
 ·exact U9 I.ok.kind hk hn hm go
 ·rcases hk with hk|hk
  ·exact Vs I.ok.kind hk hc hcell go
  ·rcases hx with k|k
   ·have:X.env.scope.names.lookup x=some .free:=hk;rw[k] at this;cases this
   ·have:X.env.scope.names.lookup x=some .free:=hk;rw[k] at this;cases this
def LF(to ti te:TE)(tget:V->V->Hp->VK->Prop)(tip:HS)(tset:Bk):TS:=λD σ H=>to σ H λo H1=>ti σ H1 λi H2=>tget o i H2 λx H3=>te σ H3 λy H4=>tip x y H4 λz H5=>tset o i z H5 λH6=>D.nx σ H6
def Np(X:Cx)(t:V->V->Hp->VK->Prop):Prop:=
 ∀(pins:List (Addr×P0)) (s:Om) (σ:St) (H:Hp) (o i:V) (ov iv:Value) (Q:VK),Inv X pins σ H s->aZ o ov->aZ i iv->t o i H Q→
  OJ (OM X.prog X.w) X.A (Tk ov iv) (EP X pins σ Q) X.xe s
def MZ(f:Int->Int->Int):HS:=λx y H Q=>∃i j,x=.int i/\y=.int j/\Q (.int (f i j)) H
theorem GZ:K9 X .Sub (MZ λi j=>i-j):=by
 intro pins s σ H x y v u Q I r1 r2 h;obtain⟨i,j,e1,e2,q⟩:=h;subst e1;subst e2;obtain⟨t,rfl⟩:=r1;obtain⟨t',rfl⟩:=r2;exact isub_int ⟨.int _,H,I.tok _,⟨_,Z⟩,q⟩
end
section
variable {X:Cx}{pos:R1}
def xq(c:TT)(tb:TS):TS:=λD σ H=>∃W:Nat->St->Hp->Prop,(∃m,W m σ H)/\∀m σ H,W m σ H→
 c σ H λb H1=>if b=true then ∃N:St->Hp->Prop,(∀σ' H',N σ' H'->∃m',m'<m/\W m' σ' H')/\tb { D with nx:=N,ct:=N,bk:=D.nx} σ H1 else D.nx σ H1
theorem zy(hp:Ps (OM X.prog X.w) X.A X.env X.xe)(hc:PT X c tc)(hb:pX X body tb):PS X (.While c body [] pos) (xq tc tb):=by
 intro pins s σ H D I h;obtain⟨W,⟨m0,w0⟩,turn⟩:=h;refine wpAny_While (codeAny_whileLoop (λn s'=>∃σ' H',Inv X pins σ' H' s'/\W n σ' H') ?_ m0 ⟨σ,H,I,w0⟩);rintro n s1 ⟨σ1,H1,I1,w1⟩;refine Rm hp (bK (hc pins s1 σ1 H1 _ I1 (turn n σ1 H1 w1)) λb s2 ⟨H2,I2,q2⟩=>?_)
 cases b with
 |true=>
  obtain⟨N,hN,q2⟩:=q2;rw[if_pos Z];refine Rm hp (bK (hb pins s2 σ1 H2 _ I2 q2) λf s3 q3=>?_)
  cases f with
  |next=>
   obtain⟨σ3,H3,I3,n3⟩:=q3;obtain⟨m',hm,w3⟩:=hN σ3 H3 n3;exact⟨m',hm,σ3,H3,I3,w3⟩
  |cont=>
   obtain⟨σ3,H3,I3,n3⟩:=q3;obtain⟨m',hm,w3⟩:=hN σ3 H3 n3;exact⟨m',hm,σ3,H3,I3,w3⟩
  |brk=>exact q3
  |ret v=>exact q3
 |false=>
  rw[if_neg OK];exact Su ⟨σ1,H2,I2,q2⟩
end
structure It where
 go:Nat->Hp->Prop
 yld:Nat->Hp->V->Hp->Prop
 stop:Nat->Hp->Prop
def gA(X:Cx)(pins:List (Addr×P0))(H:Hp)(b:Addr):Prop:=
 H b=none/\b≠X.env.locals/\b∉X.fs/\(b∈X.ex∨X.s₀.heap.get? b=none)/\(∀x c,X.env.cells.lookup x=some c->c≠b)/\∀p∈X.pn++pins,p.1≠b
theorem Inv.fpOk{X:Cx}{pins:List (Addr×P0)}{σ:St}{H H':Hp}{s:Om}{b:Addr}(I:Inv X pins σ H s)(hb:s.heap.objs.size≤b)(hn:H' b=none):gA X pins H' b:=by
 refine⟨hn,Rn (OI I.lt hb),I.nofs hb,.inr (P2 (OS I.sz hb)),λx c e z=>?_,λp hp z=>?_⟩
 ·obtain⟨v,q⟩:=I.cell x c e;exact absurd (OI q.lt (by rw[z];exact hb)) (Pm _)
 ·exact absurd (OI (OF (I.pin p hp).1) (by rw[z];exact hb)) (Pm _)
structure rn(P:O0)(w:Pk)(K:Of)(tg:O3)(J:It)(fp:List Addr)(it:Addr)(tn:Nat->Oy->Prop):Prop where
 mem:it∈fp
 obj:∀i h,tn i h->∀b∈fp,∃o,h.get? b=some o/\∀v,o.data≠.cell v
 keep:∀i h h',tn i h->(∀b∈fp,∀o,h.get? b=some o->h'.get? b=some o)->tn i h'
 item:∀(X:Cx),X.prog=P->X.w=w->X.K=K->X.calm=true->∀(i:Nat) (pins:List (Addr×P0)) (s:Om) (σ:St) (H:Hp) (E:Value->Om->Prop),Inv X pins σ H s->(∀b∈fp,gA X pins H b)->tn i s.heap->J.go i H→
  OJ (OM P w) X.A (XF (.ref it)) (λr s1=>∃u,r=some u∧
   OJ (OM P w) X.A (Tb tg (.ref it) u) (λ_ s2=>∃x H',Inv X pins σ H' s2/\aZ x u/\J.yld i H x H'/\tn (i+1) s2.heap/\∀b∈fp,H' b=none) E s1) E s
 done:∀(X:Cx),X.prog=P->X.w=w->X.K=K->X.calm=true->∀(i:Nat) (pins:List (Addr×P0)) (s:Om) (σ:St) (H:Hp) (E:Value->Om->Prop),Inv X pins σ H s->(∀b∈fp,gA X pins H b)->tn i s.heap->J.stop i H→
  OJ (OM P w) X.A (XF (.ref it)) (λr s1=>r=none/\Inv X pins σ H s1) E s
 self:∀(A:O5) (i:Nat) (s:Om) (Q:Value->Om->Prop) (E:Value->Om->Prop),tn i s.heap->Q (.ref it) s->OJ (OM P w) A (XG (.ref it)) Q E s
abbrev TI:=St->Hp->(It->Hp->Prop)->Prop
def Mf(X:Cx)(pins:List (Addr×P0))(σ:St)(tg:O3)(R:It->Hp->Prop)(itv:Value)(s2:Om):Prop:=
 ∃(it:Addr) (fp:List Addr) (tn:Nat->Oy->Prop) (J:It) (H':Hp),itv=.ref it/\Inv X pins σ H' s2/\rn X.prog X.w X.K tg J fp it tn/\tn 0 s2.heap/\(∀b∈fp,gA X pins H' b)/\R J H'
def PI(X:Cx)(tg iter:O3)(wi:TI):Prop:=
 ∀(pins:List (Addr×P0)) (s:Om) (σ:St) (H:Hp) (R:It->Hp->Prop),Inv X pins σ H s->wi σ H R→
  OJ (OM X.prog X.w) X.A (eval iter X.env) (λv s1=>OJ (OM X.prog X.w) X.A (XG v) (Mf X pins σ tg R) X.xe s1) X.xe s
theorem uR(ho:s.heap.get? it=some o)(hc:o.cls=.type n)(hd:o.data=.fields vs)
  (hn:["enumerate","zip","dict_itemiterator","dict_reverseitemiterator","odict_iterator","itertools.zip_longest","itertools.pairwise"].contains n=false) (hQ:Q () s):OJ M A (Tb tg (.ref it) u) Q E s:=by
 unfold Tb
 cases tg<;>first
  |exact OC hQ
  | (cases u<;>first
    |exact OC hQ
    | (refine Oj (wpAny_load ho ?_)
       rw[hc,hd];show OJ M A (if(["enumerate","zip","dict_itemiterator","dict_reverseitemiterator","odict_iterator","itertools.zip_longest","itertools.pairwise"].contains n&&vs[0]?==some (rawInt _))=true then _ else _) Q E s;rw[if_neg (by intro h;rw[hn,Ra] at h;cases h)];exact OC hQ))
def Bz(K:Of)(a:Addr):It:=
 ⟨λi H=>∃xs x,ba K H a xs/\xs[i]?=some x,λi H x H'=>H'=H/\∀xs,ba K H a xs->xs[i]?=some x,λi H=>∃xs,ba K H a xs/\xs.length≤i⟩
def By(K:Of)(a:Addr):It:=
 ⟨λi H=>∃xs x,bu K H a xs/\xs[i]?=some x,λi H x H'=>H'=H/\∀xs,bu K H a xs->xs[i]?=some x,λi H=>∃xs,bu K H a xs/\xs.length≤i⟩
def Ez(lo:Int)(n:Nat):It:=⟨λi _=>i<n,λi H x H'=>H'=H/\x=.int (lo+i),λi _=>n≤i⟩
theorem mZ{P:O0}{w:Pk}{K:Of}{tg:O3}(a it:Addr):rn P w K tg (Bz K a) [it] it (λi h=>h.IsListIter it a i) where
 mem:=by simp
 obj:=λi h st b hb=>by
  have e:b=it:=by simpa using hb
  subst e;obtain⟨o,e,c,d⟩:=st;exact⟨o,e,λv z=>by rw[d] at z;cases z⟩
 keep:=λi h h' st k=>st.at λo e=>k it (by simp) o e
 item:=by
  intro X hP hw hK hc i pins s σ H E I hf st hg;subst hP hw hK;obtain⟨xs,x,hq,hx⟩:=hg;obtain⟨its,rv,p,hz⟩:=I.list hq;obtain⟨u,hu,ru⟩:=rv.get hx;obtain⟨f0,f1,f2,f3,f4,f5⟩:=hf it (by simp);refine wpAny_pyNext_list_item st p.isList (x:=u) (by simpa using hu) λh' st' sb=>?_
  have I1:Inv X pins σ H { s with heap:=h'}:=I.turned (t':=s.toks) (λb o hb e=>(sb.2 b hb).trans e) f0 f1 f3 f4 f5;obtain⟨o,e,c,d⟩:=id st';exact⟨u,Z,uR (s:={ s with heap:=h'}) e c d (by decide) ⟨x,H,I1,ru,⟨rfl,λys hy=>by rw[I.list_inj hy hq];exact hx⟩,st',λb hb=>(hf b hb).1⟩⟩
 done:=by
  intro X hP hw hK hc i pins s σ H E I hf st hg;subst hP hw hK;obtain⟨xs,hq,hx⟩:=hg;obtain⟨its,rv,p,hz⟩:=I.list hq;obtain⟨f0,f1,f2,f3,f4,f5⟩:=hf it (by simp);have hl:=rv.length;exact wpAny_pyNext_list_end (I.ok.hd hc) st p.isList (by simp;omega) λh' eb=>⟨Z,I.turned (t':=s.toks) (λb o hb e=>eb b o hb e) f0 f1 f3 f4 f5⟩
 self:=λ_ _ _ _ _ st h=>wpAny_pyIter_listiter st h
theorem kP{P:O0}{w:Pk}{K:Of}{tg:O3}(a it:Addr):rn P w K tg (By K a) [it] it (λi h=>h.IsTupleIter it a i) where
 mem:=by simp
 obj:=λi h st b hb=>by
  have e:b=it:=by simpa using hb
  subst e;obtain⟨o,e,c,d⟩:=st;exact⟨o,e,λv z=>by rw[d] at z;cases z⟩
 keep:=λi h h' st k=>st.at λo e=>k it (by simp) o e
 item:=by
  intro X hP hw hK hc i pins s σ H E I hf st hg;subst hP hw hK;obtain⟨xs,x,hq,hx⟩:=hg;obtain⟨its,rv,p,hz⟩:=I.tuple hq;obtain⟨u,hu,ru⟩:=rv.get hx;obtain⟨f0,f1,f2,f3,f4,f5⟩:=hf it (by simp);refine wpAny_pyNext_tuple_item st (show s.heap.IsTuple a its.toArray from p) (x:=u) (by simpa using hu) λh' st' sb=>?_
  have I1:Inv X pins σ H { s with heap:=h'}:=I.turned (t':=s.toks) (λb o hb e=>(sb.2 b hb).trans e) f0 f1 f3 f4 f5;obtain⟨o,e,c,d⟩:=id st';exact⟨u,Z,uR (s:={ s with heap:=h'}) e c d (by decide) ⟨x,H,I1,ru,⟨rfl,λys hy=>by rw[I.tuple_inj hy hq];exact hx⟩,st',λb hb=>(hf b hb).1⟩⟩
 done:=by
  intro X hP hw hK hc i pins s σ H E I hf st hg;subst hP hw hK;obtain⟨xs,hq,hx⟩:=hg;obtain⟨its,rv,p,hz⟩:=I.tuple hq;obtain⟨f0,f1,f2,f3,f4,f5⟩:=hf it (by simp);have hl:=rv.length;exact wpAny_pyNext_tuple_end (I.ok.hd hc) st (show s.heap.IsTuple a its.toArray from p) (by simp;omega) λh' eb=>⟨Z,I.turned (t':=s.toks) (λb o hb e=>eb b o hb e) f0 f1 f3 f4 f5⟩
 self:=λ_ _ _ _ _ st h=>wpAny_pyIter_tupleiter st h
theorem rK{P:O0}{w:Pk}{K:Of}{tg:O3}(it:Addr)(lo:Int)(n:Nat):rn P w K tg (Ez lo n) [it] it (λi h=>Va h it (lo+(i:Nat)*1) ((n:Int)-(i:Nat)) 1) where
 mem:=by simp
 obj:=λi h st b hb=>by
  have e:b=it:=by simpa using hb
  subst e;exact⟨_,st,λv z=>by
   have z':TX _=Vm v:=z
   cases z'⟩
 keep:=λi h h' st k=>k it (by simp) _ st
 item:=by
  intro X hP hw hK hc i pins s σ H E I hf st hg;subst hP hw hK;obtain⟨f0,f1,f2,f3,f4,f5⟩:=hf it (by simp);have W:=Walks.range (prog:=X.prog) (w:=X.w) (I.ok.hd hc) it lo 1 n;refine W.item i s _ _ hg st λv h' tk hv st' kk=>?_
  obtain⟨t,rfl⟩:=hv;have I1:Inv X pins σ H { s with heap:=h',toks:=tk}:=I.turned (λb o hb e=>kk b o (by simpa using hb) e) f0 f1 f3 f4 f5;refine⟨_,rfl,uR (s:={ s with heap:=h',toks:=tk}) (n := "range_iterator") st' rfl rfl (by decide) ⟨.int (lo+i),H,I1,⟨t,?_⟩,⟨rfl,rfl⟩,st',λb hb=>(hf b hb).1⟩⟩;rw[Int.mul_one]
 done:=by
  intro X hP hw hK hc i pins s σ H E I hf st hg;subst hP hw hK;obtain⟨f0,f1,f2,f3,f4,f5⟩:=hf it (by simp);exact UE (I.ok.hd hc) st (by have:n≤i:=hg;omega) λh' eb=>⟨Z,I.turned (t':=s.toks) (λb o hb e=>eb b o hb e) f0 f1 f3 f4 f5⟩
 self:=λ_ _ _ _ _ st h=>UF st h
end L2
namespace L2
open PySem PySem.Spec PyProof.Rows
section
variable {X:Cx}{tg:O3}
def AB(K:Of)(tl:TE):TI:=λσ H R=>tl σ H λx H1=>∃a,x=.ref a/\(∃xs,ba K H1 a xs)/\R (Bz K a) H1
def Js(K:Of)(tl:TE):TI:=λσ H R=>tl σ H λx H1=>∃a,x=.ref a/\(∃xs,bu K H1 a xs)/\R (By K a) H1
theorem CB(hl:PE X l tl):PI X tg l (AB X.K tl):=by
 intro pins s σ H R I h;refine bK (hl pins s σ H _ I h) λv s1 ⟨x,H1,I1,r1,q1⟩=>?_
 obtain⟨a,e,⟨xs,hq⟩,q⟩:=q1;subst e
 cases r1
 obtain⟨its,rv,p,hz⟩:=I1.list hq;refine TY p.isList ?_;refine⟨s1.heap.objs.size,[s1.heap.objs.size],_,_,H1,Z,I1.kept (t':=s1.toks) λb o e=>On _ e,mZ a _,⟨_,OO _ Z,Z,Z⟩,λb hb=>?_,q⟩;have e:b=s1.heap.objs.size:=by simpa using hb
 subst e;exact I1.fpOk (Oi _) (I1.hok.fresh (Oi _))
theorem FT(hl:PE X l tl):PI X tg l (Js X.K tl):=by
 intro pins s σ H R I h;refine bK (hl pins s σ H _ I h) λv s1 ⟨x,H1,I1,r1,q1⟩=>?_
 obtain⟨a,e,⟨xs,hq⟩,q⟩:=q1;subst e
 cases r1
 obtain⟨its,rv,p,hz⟩:=I1.tuple hq;refine RM (show s1.heap.IsTuple a its.toArray from p) ?_;refine⟨s1.heap.objs.size,[s1.heap.objs.size],_,_,H1,Z,I1.kept (t':=s1.toks) λb o e=>On _ e,kP a _,⟨_,OO _ Z,Z,Z⟩,λb hb=>?_,q⟩;have e:b=s1.heap.objs.size:=by simpa using hb
 subst e;exact I1.fpOk (Oi _) (I1.hok.fresh (Oi _))
theorem zd{pins:List (Addr×P0)}{σ:St}{H:Hp}{s:Om}{R:It->Hp->Prop}{E:Value->Om->Prop}{lo hi:Int}{t u v:XN}{tk:Nat}(I:Inv X pins σ H s)(h1:-(2^62)≤lo)(h2:lo<2^62)(h3:-(2^62)≤hi)(h4:hi<2^62)
  (q:R (Ez lo (hi-lo).toNat) H):OJ (OM X.prog X.w) X.A (XG (.ref s.heap.objs.size)) (Mf X pins σ tg R) E { s with heap:=s.heap.push { cls:=.type "range",data:=.fields #[.int lo t,.int hi u,.int 1 v]},toks:=tk}:=by
 refine VM (Vn.new ..) (XA h1 h2 h3 h4) ?_;have I1:Inv X pins σ H { s with heap:=s.heap.push { cls:=.type "range",data:=.fields #[.int lo t,.int hi u,.int 1 v]},toks:=tk}:=I.kept λb o e=>On _ e
 refine⟨(s.heap.push { cls:=.type "range",data:=.fields #[.int lo t,.int hi u,.int 1 v]}).objs.size,[(s.heap.push { cls:=.type "range",data:=.fields #[.int lo t,.int hi u,.int 1 v]}).objs.size],_,_,H,Z,
  I1.kept (t':=tk) λb o e=>On _ e,rK _ lo (hi-lo).toNat,?_,λb hb=>?_,q⟩
 ·have e1:lo+((0:Nat):Int)*1=lo:=by simp
  have e2:(((hi-lo).toNat:Nat):Int)-((0:Nat):Int)=PN lo hi 1:=by rw[rangeSize_one];split<;>omega
  show Va _ _ (lo+((0:Nat):Int)*1) ((((hi-lo).toNat:Nat):Int)-((0:Nat):Int)) 1;rw[e1,e2];exact OO _ Z
 ·have e:b=(s.heap.push { cls:=.type "range",data:=.fields #[.int lo t,.int hi u,.int 1 v]}).objs.size:=by simpa using hb
  subst e;exact I1.fpOk (Oi _) (I1.hok.fresh (Oi _))
def El(ta:TA):TI:=λσ H R=>ta σ H λvs H1=>∃j:Int,vs=[.int j]/\-(2^62)≤j/\j<2^62/\R (Ez 0 j.toNat) H1
def L1(ta:TA):TI:=λσ H R=>ta σ H λvs H1=>∃i j:Int,vs=[.int i,.int j]/\(-(2^62)≤i/\i<2^62/\-(2^62)≤j/\j<2^62)/\R (Ez i (j-i).toNat) H1
theorem vU{a:O3}{ta:TA}{p pos:R1}(hg:Gl X "range")(hm:X.mg "range"=none)(ha:PA X [a] ta)(hs:Oz [a] X.env=[(false,eval a X.env)]:=by rfl):PI X tg (.Call (.Name "range" p) [a] [] pos) (El ta):=by
 intro pins s σ H R I h;refine Call_ (gO I hg hm Xc (PY (bK (ha pos pins s σ H _ I h) λus s1 ⟨vs,H1,I1,r1,q1⟩=>?_) hs Z));obtain⟨j,e,q1,q2,q⟩:=q1;subst e
 cases r1 with
 |cons r rr=>
  cases rr
  obtain⟨t,rfl⟩:=r;exact call_range_1 (zd I1 (by omega) (by omega) q1 q2 (by simpa using q))
def Ir(wi:TI)(g:TG)(tb:TS):TS:=λD σ H=>wi σ H λJ H1=>∃W:Nat->Nat->St->Hp->Prop,(∃m,W 0 m σ H1)/\∀i m σ H,W i m σ H→
 (J.stop i H/\D.nx σ H)∨(J.go i H/\∃N:St->Hp->Prop,(∀σ' H',N σ' H'->∃m',m'<m/\W (i+1) m' σ' H')/\∀x H',J.yld i H x H'->g x σ H' λσ2 H2=>tb { D with nx:=N,ct:=N,bk:=D.nx} σ2 H2)
def jD(fp:List Addr)(h:Oy):List (Addr×P0):=fp.filterMap λb=>(h.get? b).map λo=>(b,o)
theorem eN(hb:b∈fp)(e:h.get? b=some o):(b,o)∈jD fp h:=VN.mpr ⟨b,hb,by rw[e];rfl⟩
theorem vW(hp:p∈jD fp h):p.1∈fp/\h.get? p.1=some p.2:=by
 obtain⟨b,hb,e⟩:=VN.mp hp
 cases q:h.get? b with
 |none=>rw[q] at e;cases e
 |some o=>
  rw[q] at e;have e':(b,o)=p:=Pp e;subst e';exact⟨hb,q⟩
theorem Inv.pinned{pins:List (Addr×P0)}{σ:St}{H:Hp}{s:Om}{fp:List Addr}(I:Inv X pins σ H s)(hf:∀b∈fp,gA X pins H b)(ho:∀b∈fp,∃o,s.heap.get? b=some o/\∀v,o.data≠.cell v):Inv X (pins++jD fp s.heap) σ H s:=
 I.pins_of λp hp=>(OU.mp hp).elim (λz=>I.pin p (OE _ z)) λz=>by
  obtain⟨hb,e⟩:=vW z;obtain⟨f0,f1,f2,_⟩:=hf p.1 hb;obtain⟨o,e',d⟩:=ho p.1 hb;rw[e] at e';cases e';exact⟨e,f0,f1,f2,d⟩
theorem Inv.unpinned{pins pl:List (Addr×P0)}{σ:St}{H:Hp}{s:Om}(I:Inv X (pins++pl) σ H s):Inv X pins σ H s:=I.pins_of λp hp=>I.pin p (OE _ (O6 _ hp))
theorem FO{iter:O3}{body:List Stmt}{wi:TI}{g:TG}{tb:TS}{pos:R1}(hp:Ps (OM X.prog X.w) X.A X.env X.xe)(hc:X.calm=true)(hi:PI X tg iter wi)(hg:PG X tg g)(hb:pX X body tb)
  (hs:∀x,P7 iter X.env x=Qm x:=by intro _;rfl):PS X (.For tg iter body [] pos) (Ir wi g tb):=by
 intro pins s σ H D I h;refine wpAny_For (bK (hi pins s σ H _ I h) λv s1 h1=>bK h1 λitv s2 h2=>?_) hs;obtain⟨it,fp,tn,J,H2,e,I2,T,st2,f2,W,⟨m0,w0⟩,turn⟩:=h2;subst e;have stat:∀{H':Hp},(∀b∈fp,H' b=none)->∀b∈fp,gA X pins H' b:=λhn b hb=>⟨hn b hb,(f2 b hb).2⟩
 refine codeAny_forLoop_any (λn s'=>∃i σ' H',Inv X pins σ' H' s'/\tn i s'.heap/\(∀b∈fp,H' b=none)/\W i n σ' H') ?_ m0 ⟨0,σ,H2,I2,st2,λb hb=>(f2 b hb).1,w0⟩;rintro n s3 ⟨i,σ3,H3,I3,st3,fr3,w3⟩;rcases turn i n σ3 H3 w3 with⟨stop,qn⟩ | ⟨go,N,hN,step⟩
 ·refine Rm hp (bK (T.done X Z Z Z hc i pins s3 σ3 H3 X.xe I3 (stat fr3) st3 stop) λr s4 ⟨hr,I4⟩=>?_);subst hr;exact Su ⟨σ3,H3,I4,qn⟩
 ·refine Rm hp (bK (T.item X Z Z Z hc i pins s3 σ3 H3 X.xe I3 (stat fr3) st3 go) λr s4 ⟨u,hr,h4⟩=>?_);subst hr;refine Rm hp (bK h4 λ_ s5 ⟨x,H5,I5,r5,y5,st5,fr5⟩=>?_);have I5':=I5.pinned (stat fr5) (T.obj _ _ st5);refine Rm hp (bK (hg _ s5 σ3 H5 x u _ I5' r5 (step x H5 y5)) λ_ s6 ⟨σ6,H6,I6,q6⟩=>?_);refine Rm hp (bK (hb _ s6 σ6 H6 _ I6 q6) λf s7 q7=>?_);have again:∀{σ7:St} {H7:Hp},Inv X (pins++jD fp s5.heap) σ7 H7 s7->N σ7 H7->∃m,m<n/\∃i σ' H',Inv X pins σ' H' s7/\tn i s7.heap/\(∀b∈fp,H' b=none)/\W i m σ' H':=λ{σ7 H7} I7 n7=>by
   obtain⟨m',hm,w7⟩:=hN σ7 H7 n7;refine⟨m',hm,i+1,σ7,H7,I7.unpinned,T.keep _ _ _ st5 λb hb o e=>(I7.pin (b,o) (OE _ (OE _ (eN hb e)))).1,λb hb=>?_,w7⟩;obtain⟨o,e,d⟩:=T.obj _ _ st5 b hb;exact(I7.pin (b,o) (OE _ (OE _ (eN hb e)))).2.1
  cases f with
  |next=>obtain⟨σ7,H7,I7,n7⟩:=q7;exact again I7 n7
  |cont=>obtain⟨σ7,H7,I7,n7⟩:=q7;exact again I7 n7
  |brk=>obtain⟨σ7,H7,I7,q7⟩:=q7;exact⟨σ7,H7,I7.unpinned,q7⟩
  |ret v=>obtain⟨x7,σ7,H7,I7,r7,q7⟩:=q7;exact⟨x7,σ7,H7,I7.unpinned,r7,q7⟩
end
theorem mh{K:Of}{a:Addr}{xs:List V}{g:TG}{tb:TS}{D:io}{σ:St}{H:Hp}(Pv:Nat->St->Hp->Prop)(h0:Pv 0 σ H)(hl:∀i σ H,i≤xs.length->Pv i σ H->ba K H a xs)
  (hs:∀i x σ H,xs[i]?=some x->Pv i σ H->g x σ H λσ2 H2=>tb { D with nx:=Pv (i+1),ct:=Pv (i+1),bk:=D.nx} σ2 H2) (hd:∀σ H,Pv xs.length σ H->D.nx σ H) :
  ∃W:Nat->Nat->St->Hp->Prop,(∃m,W 0 m σ H)/\∀i m σ H,W i m σ H→
   ((Bz K a).stop i H/\D.nx σ H)∨((Bz K a).go i H/\∃N:St->Hp->Prop,(∀σ' H',N σ' H'->∃m',m'<m/\W (i+1) m' σ' H')/\∀x H',(Bz K a).yld i H x H'->g x σ H' λσ2 H2=>tb { D with nx:=N,ct:=N,bk:=D.nx} σ2 H2):=by
 refine⟨λi m σ H=>m=xs.length-i/\i≤xs.length/\Pv i σ H,⟨xs.length,by simp,ON _,h0⟩,?_⟩;rintro i m σ H ⟨rfl,hi,p⟩;have q:=hl i σ H hi p;by_cases hlt:i<xs.length
 ·refine .inr ⟨⟨xs,xs[i],q,by simp[hlt]⟩,Pv (i+1),λσ' H' p'=>⟨xs.length-(i+1),by omega,Z,hlt,p'⟩,λx H' y=>?_⟩;obtain⟨e,y⟩:=y;subst e;exact hs i x σ _ (y xs q) p
 ·have e:i=xs.length:=by omega
  subst e;exact .inl ⟨⟨xs,q,Oi _⟩,hd σ H p⟩
theorem hX{K:Of}{a:Addr}{xs:List V}{g:TG}{tb:TS}{D:io}{σ:St}{H:Hp}(Pv:Nat->St->Hp->Prop)(h0:Pv 0 σ H)(hl:∀i σ H,i≤xs.length->Pv i σ H->bu K H a xs)
  (hs:∀i x σ H,xs[i]?=some x->Pv i σ H->g x σ H λσ2 H2=>tb { D with nx:=Pv (i+1),ct:=Pv (i+1),bk:=D.nx} σ2 H2) (hd:∀σ H,Pv xs.length σ H->D.nx σ H) :
  ∃W:Nat->Nat->St->Hp->Prop,(∃m,W 0 m σ H)/\∀i m σ H,W i m σ H→
   ((By K a).stop i H/\D.nx σ H)∨((By K a).go i H/\∃N:St->Hp->Prop,(∀σ' H',N σ' H'->∃m',m'<m/\W (i+1) m' σ' H')/\∀x H',(By K a).yld i H x H'->g x σ H' λσ2 H2=>tb { D with nx:=N,ct:=N,bk:=D.nx} σ2 H2):=by
 refine⟨λi m σ H=>m=xs.length-i/\i≤xs.length/\Pv i σ H,⟨xs.length,by simp,ON _,h0⟩,?_⟩;rintro i m σ H ⟨rfl,hi,p⟩;have q:=hl i σ H hi p;by_cases hlt:i<xs.length
 ·refine .inr ⟨⟨xs,xs[i],q,by simp[hlt]⟩,Pv (i+1),λσ' H' p'=>⟨xs.length-(i+1),by omega,Z,hlt,p'⟩,λx H' y=>?_⟩;obtain⟨e,y⟩:=y;subst e;exact hs i x σ _ (y xs q) p
 ·have e:i=xs.length:=by omega
  subst e;exact .inl ⟨⟨xs,q,Oi _⟩,hd σ H p⟩
theorem dI{lo:Int}{n:Nat}{g:TG}{tb:TS}{D:io}{σ:St}{H:Hp}(Pv:Nat->St->Hp->Prop)(h0:Pv 0 σ H)
  (hs:∀i σ H,i<n->Pv i σ H->g (.int (lo+i)) σ H λσ2 H2=>tb { D with nx:=Pv (i+1),ct:=Pv (i+1),bk:=D.nx} σ2 H2) (hd:∀σ H,Pv n σ H->D.nx σ H) :
  ∃W:Nat->Nat->St->Hp->Prop,(∃m,W 0 m σ H)/\∀i m σ H,W i m σ H→
   ((Ez lo n).stop i H/\D.nx σ H)∨((Ez lo n).go i H/\∃N:St->Hp->Prop,(∀σ' H',N σ' H'->∃m',m'<m/\W (i+1) m' σ' H')/\∀x H',(Ez lo n).yld i H x H'->g x σ H' λσ2 H2=>tb { D with nx:=N,ct:=N,bk:=D.nx} σ2 H2):=by
 refine⟨λi m σ H=>m=n-i/\i≤n/\Pv i σ H,⟨n,by simp,ON _,h0⟩,?_⟩;rintro i m σ H ⟨rfl,hi,p⟩;by_cases hlt:i<n
 ·refine .inr ⟨hlt,Pv (i+1),λσ' H' p'=>⟨n-(i+1),by omega,Z,hlt,p'⟩,λx H' y=>?_⟩;obtain⟨e,y⟩:=y;subst e y;exact hs i σ _ hlt p
 ·have e:i=n:=by omega
  subst e;exact .inl ⟨Oi _,hd σ H p⟩
end L2
namespace L2
open PySem PySem.Spec PyProof.Rows
abbrev R2:=V->V->Hp->VK->Prop
def gh(X:Cx)(f:Value->Value->Sem Value)(r:R2):Prop:=
 ∀(pins:List (Addr×P0)) (s:Om) (σ:St) (H:Hp) (x y:V) (v u:Value) (Q:VK),Inv X pins σ H s->aZ x v->aZ y u->r x y H Q→
  OJ (OM X.prog X.w) X.A (f v u) (EP X pins σ Q) X.xe s
def Ki(X:Cx)(f:Value->Sem Value)(r:V->Hp->VK->Prop):Prop:=
 ∀(pins:List (Addr×P0)) (s:Om) (σ:St) (H:Hp) (x:V) (v:Value) (Q:VK),Inv X pins σ H s->aZ x v->r x H Q→
  OJ (OM X.prog X.w) X.A (f v) (EP X pins σ Q) X.xe s
def df(X:Cx)(f:Value)(r:List V->Hp->VK->Prop):Prop:=
 ∀(pins:List (Addr×P0)) (s:Om) (σ:St) (H:Hp) (xs:List V) (us:List Value) (Q:VK),Inv X pins σ H s->bc xs us->r xs H Q→
  OJ (OM X.prog X.w) X.A (call f us) (EP X pins σ Q) X.xe s
def Nh(X:Cx)(r:V->Hp->(Bool->Hp->Prop)->Prop):Prop:=
 ∀(pins:List (Addr×P0)) (s:Om) (σ:St) (H:Hp) (x:V) (v:Value) (Q:Bool->Hp->Prop),Inv X pins σ H s->aZ x v->r x H Q→
  OJ (OM X.prog X.w) X.A (truthy v) (TP X pins σ Q) X.xe s
def BJ(r:R2)(ta tb:TE):TE:=λσ H Q=>ta σ H λx H1=>tb σ H1 λy H2=>r x y H2 Q
def Lp(r:V->Hp->VK->Prop)(ta:TE):TE:=λσ H Q=>ta σ H λx H1=>r x H1 Q
def rI(C:Int->Int->Prop)(g:Int->Int->V):R2:=λx y H Q=>∃i j,x=.int i/\y=.int j/\C i j/\Q (g i j) H
def Ed(g:Int->Int->V):R2:=λx y H Q=>∃i j,x=.int i/\y=.int j/\Q (g i j) H
def rU(g:Int->V):V->Hp->VK->Prop:=λx H Q=>∃i,x=.int i/\Q (g i) H
section
variable {X:Cx}{a b c:O3}{ta tb tc:TE}{pos:R1}
theorem Hh(ha:PE X a ta)(hb:PE X b tb){pins:List (Addr×P0)}{s:Om}{σ:St}{H:Hp}{R:V->V->Hp->Prop}(I:Inv X pins σ H s)
  (h:ta σ H λx H1=>tb σ H1 λy H2=>R x y H2) {Q:Value->Om->Prop} {f:Value->Value->Sem Value}
  (hf:∀v u s2 x y H2,Inv X pins σ H2 s2->aZ x v->aZ y u->R x y H2->OJ (OM X.prog X.w) X.A (f v u) Q X.xe s2) :
  OJ (OM X.prog X.w) X.A (eval a X.env) (λv s₁=>OJ (OM X.prog X.w) X.A (eval b X.env) (λu s₂=>OJ (OM X.prog X.w) X.A (f v u) Q X.xe s₂) X.xe s₁) X.xe s:=by
 refine bK (ha pins s σ H _ I h) λv s1 ⟨x,H1,I1,r1,q1⟩=>?_
 refine bK (hb pins s1 σ H1 _ I1 q1) λu s2 ⟨y,H2,I2,r2,q2⟩=>?_
 exact hf v u s2 x y H2 I2 r1 r2 q2
theorem IY(ho:gh X (RE op) r)(ha:PE X a ta)(hb:PE X b tb):PE X (.BinOp a op b pos) (BJ r ta tb):=by
 intro pins s σ H Q I h;exact wpAny_BinOp (Hh ha hb I h λv u s2 x y H2 I2 rx ry q=>ho pins s2 σ H2 x y v u Q I2 rx ry q)
theorem IX(ho:Ki X (unaryOp op) r)(ha:PE X a ta):PE X (.UnaryOp op a pos) (Lp r ta):=by
 intro pins s σ H Q I h;exact UnaryOp_ (bK (ha pins s σ H _ I h) λv s1 ⟨x,H1,I1,r1,q1⟩=>ho pins s1 σ H1 x v Q I1 r1 q1)
theorem HN{f:Value->Value->Sem Value}{C:Int->Int->Prop}{g:Int->Int->Int}
  (rule:∀(i j:Int) (t u:XN) (s:Om) (Q:Value->Om->Prop) (E:Value->Om->Prop),C i j->Q (.int (g i j) s.toks) { s with toks:=s.toks+1}->OJ (OM X.prog X.w) X.A (f (.int i t) (.int j u)) Q E s) :
  gh X f (rI C λi j=>.int (g i j)):=by
 intro pins s σ H x y v u Q I rx ry h;obtain⟨i,j,rfl,rfl,hc,q⟩:=h;obtain⟨t,rfl⟩:=rx;obtain⟨t',rfl⟩:=ry;exact rule i j t t' s _ _ hc ⟨.int (g i j),H,I.tok _,⟨_,Z⟩,q⟩
theorem Jd{f:Value->Value->Sem Value}{g:Int->Int->Int}
  (rule:∀(i j:Int) (t u:XN) (s:Om) (Q:Value->Om->Prop) (E:Value->Om->Prop),Q (.int (g i j) s.toks) { s with toks:=s.toks+1}->OJ (OM X.prog X.w) X.A (f (.int i t) (.int j u)) Q E s) :
  gh X f (Ed λi j=>.int (g i j)):=by
 intro pins s σ H x y v u Q I rx ry h;obtain⟨i,j,rfl,rfl,q⟩:=h;obtain⟨t,rfl⟩:=rx;obtain⟨t',rfl⟩:=ry;exact rule i j t t' s _ _ ⟨.int (g i j),H,I.tok _,⟨_,Z⟩,q⟩
theorem CQ{f:Value->Value->Sem Value}{g:Int->Int->Bool}
  (rule:∀(i j:Int) (t u:XN) (s:Om) (Q:Value->Om->Prop) (E:Value->Om->Prop),Q (.bool (g i j)) s->OJ (OM X.prog X.w) X.A (f (.int i t) (.int j u)) Q E s) :
  gh X f (Ed λi j=>.bl (g i j)):=by
 intro pins s σ H x y v u Q I rx ry h;obtain⟨i,j,rfl,rfl,q⟩:=h;obtain⟨t,rfl⟩:=rx;obtain⟨t',rfl⟩:=ry;exact rule i j t t' s _ _ ⟨.bl (g i j),H,I,Z,q⟩
def Lk(i j:Int):Prop:=0<j/\j<1073741824
def Ml(i j:Int):Prop:=j≠0/\j.natAbs<1073741824
def Lj(i j:Int):Prop:=0≤j/\j≤1000000/\i.natAbs<2^64
def Hv(i j:Int):Prop:=(-(2^64)<i/\i<2^64)∨(-(2^64)<j/\j<2^64)
theorem Hv.ok(h:Hv i j):IntMulOk i j:=by
 rcases h with⟨h1,h2⟩ | ⟨h1,h2⟩
 ·exact .of_left (intBits_le_64 h1 h2)
 ·exact .of_right (intBits_le_64 h1 h2)
theorem dE:gh X (RE .Add) (Ed λi j=>.int (i+j)):=Jd λ_ _ _ _ _ _ _ q=>add_int q
theorem jE:gh X (RE .Sub) (Ed λi j=>.int (i-j)):=Jd λ_ _ _ _ _ _ _ q=>sub_int q
theorem gs:gh X (RE .Mult) (rI Hv λi j=>.int (i*j)):=HN λ_ _ _ _ _ _ _ hc q=>mul_int q hc.ok
theorem uH:gh X (RE .FloorDiv) (rI Lk λi j=>.int (i/j)):=HN λi j _ _ _ _ _ hc q=>by
 have h1:(0:Int)<j:=hc.1;have h2:j<1073741824:=hc.2;exact floordiv_int (by omega) (by rw[Tw i (by omega)];exact q) (.inl (UG (by omega)))
theorem gK:gh X (RE .Mod) (rI (λ_ j=>0<j) λi j=>.int (i%j)):=HN λi j _ _ _ _ _ hc q=>by
 have h1:(0:Int)<j:=hc;exact mod_int' (by omega) (by rw[Int.fmod_eq_emod_of_nonneg i (by omega)];exact q)
theorem Aa:gh X (RE .Pow) (rI Lj λi j=>.int (i^j.toNat)):=HN λ_ _ _ _ _ _ _ hc q=>pow_int_small hc.1 hc.2.1 hc.2.2 q
theorem Mr{f:Value->Sem Value}{g:Int->Int}
  (rule:∀(i:Int) (t:XN) (s:Om) (Q:Value->Om->Prop) (E:Value->Om->Prop),Q (.int (g i) s.toks) { s with toks:=s.toks+1}->OJ (OM X.prog X.w) X.A (f (.int i t)) Q E s) :
  Ki X f (rU λi=>.int (g i)):=by
 intro pins s σ H x v Q I rx h;obtain⟨i,rfl,q⟩:=h;obtain⟨t,rfl⟩:=rx;exact rule i t s _ _ ⟨.int (g i),H,I.tok _,⟨_,Z⟩,q⟩
theorem gj:Ki X (unaryOp .USub) (rU λi=>.int (-i)):=Mr λ_ _ _ _ _ q=>neg_int q
end
def IC:V->V->Bool
 | .non,.non=>true | .non,.int _=>true | .int _,.non=>true | .non,.bl _=>true | .bl _,.non=>true | .non,.str _=>true | .str _,.non=>true
 | .int _,.int _=>true | .bl _,.bl _=>true | .str _,.str _=>true | .byt _,.byt _=>true
 | .int _,.str _=>true | .str _,.int _=>true | .bl _,.str _=>true | .str _,.bl _=>true
 |_,_=>false
def MV:R2:=λx y H Q=>IC x y=true/\Q (.bl (decide (x=y))) H
def MQ:R2:=λx y H Q=>IC x y=true/\Q (.bl (!decide (x=y))) H
theorem uU:decide (V.int i=V.int j)=(i==j):=by
 rw[Qd];simp
theorem A7:decide (V.bl i=V.bl j)=(i==j):=by
 rw[Qd];simp
theorem uT:decide (V.str i=V.str j)=(i==j):=by
 rw[Qd];simp
theorem uV:decide (V.byt i=V.byt j)=(i.toList==j.toList):=by
 rw[Qd]
 cases i
 cases j
 simp
section
variable {X:Cx}{a b c:O3}{ta tb tc:TE}{pos:R1}
theorem bB{pins:List (Addr×P0)}{σ:St}{H:Hp}{s:Om}{Q:VK}{k k':Bool}(I:Inv X pins σ H s)(q:Q (.bl k) H)(e:k=k'):EP X pins σ Q (.bool k') s:=by
 subst e;exact⟨.bl k,H,I,Z,q⟩
theorem f7:gh X (Pz .Eq) MV:=by
 intro pins s σ H x y v u Q I rx ry h;obtain⟨hs,q⟩:=h
 cases x with
 |non=>
  cases rx
  cases y with
  |non=>cases ry;exact PySem.EqNone.eq_none_none (bB I q (by simp))
  |bl j=>cases ry;exact PySem.EqNone.eq_none_bool (bB I q (by simp))
  |int j=>obtain⟨t',rfl⟩:=ry;exact PySem.EqNone.eq_none_int (bB I q (by simp))
  |str j=>obtain⟨t',rfl⟩:=ry;exact PySem.EqNone.eq_none_str (bB I q (by simp))
  |_=>exact absurd (show false=true from hs) OK
 |bl i=>
  cases rx
  cases y with
  |non=>cases ry;exact PySem.EqNone.eq_bool_none (bB I q (by simp))
  |bl j=>cases ry;exact eq_bool (bB I q A7)
  |str j=>obtain⟨t',rfl⟩:=ry;exact PySem.EqMixed.eq_bool_str (bB I q (by simp))
  |_=>exact absurd (show false=true from hs) OK
 |int i=>
  obtain⟨t,rfl⟩:=rx
  cases y with
  |non=>cases ry;exact PySem.EqNone.eq_int_none (bB I q (by simp))
  |int j=>obtain⟨t',rfl⟩:=ry;exact eq_int (bB I q uU)
  |str j=>obtain⟨t',rfl⟩:=ry;exact PySem.EqMixed.eq_int_str (bB I q (by simp))
  |_=>exact absurd (show false=true from hs) OK
 |str i=>
  obtain⟨t,rfl⟩:=rx
  cases y with
  |non=>cases ry;exact PySem.EqNone.eq_str_none (bB I q (by simp))
  |bl j=>cases ry;exact PySem.EqMixed.eq_str_bool (bB I q (by simp))
  |int j=>obtain⟨t',rfl⟩:=ry;exact PySem.EqMixed.eq_str_int (bB I q (by simp))
  |str j=>obtain⟨t',rfl⟩:=ry;exact eq_str (bB I q uT)
  |_=>exact absurd (show false=true from hs) OK
 |byt i=>
  obtain⟨t,rfl⟩:=rx
  cases y with
  |byt j=>obtain⟨t',rfl⟩:=ry;exact PySem.W.eq_bytes (bB I q uV)
  |_=>exact absurd (show false=true from hs) OK
 |_=>cases y<;>exact absurd (show false=true from hs) OK
theorem qJ:gh X (Pz .NotEq) MQ:=by
 intro pins s σ H x y v u Q I rx ry h;obtain⟨hs,q⟩:=h
 cases x with
 |non=>
  cases rx
  cases y with
  |non=>cases ry;exact PySem.EqNone.ne_none_none (bB I q (by simp))
  |bl j=>cases ry;exact PySem.EqNone.ne_none_bool (bB I q (by simp))
  |int j=>obtain⟨t',rfl⟩:=ry;exact PySem.EqNone.ne_none_int (bB I q (by simp))
  |str j=>obtain⟨t',rfl⟩:=ry;exact PySem.EqNone.ne_none_str (bB I q (by simp))
  |_=>exact absurd (show false=true from hs) OK
 |bl i=>
  cases rx
  cases y with
  |non=>cases ry;exact PySem.EqNone.ne_bool_none (bB I q (by simp))
  |bl j=>cases ry;exact ne_bool (bB I q (congrArg not A7))
  |str j=>obtain⟨t',rfl⟩:=ry;exact PySem.EqMixed.ne_bool_str (bB I q (by simp))
  |_=>exact absurd (show false=true from hs) OK
 |int i=>
  obtain⟨t,rfl⟩:=rx
  cases y with
  |non=>cases ry;exact PySem.EqNone.ne_int_none (bB I q (by simp))
  |int j=>obtain⟨t',rfl⟩:=ry;exact ne_int (bB I q (congrArg not uU))
  |str j=>obtain⟨t',rfl⟩:=ry;exact PySem.EqMixed.ne_int_str (bB I q (by simp))
  |_=>exact absurd (show false=true from hs) OK
 |str i=>
  obtain⟨t,rfl⟩:=rx
  cases y with
  |non=>cases ry;exact PySem.EqNone.ne_str_none (bB I q (by simp))
  |bl j=>cases ry;exact PySem.EqMixed.ne_str_bool (bB I q (by simp))
  |int j=>obtain⟨t',rfl⟩:=ry;exact PySem.EqMixed.ne_str_int (bB I q (by simp))
  |str j=>obtain⟨t',rfl⟩:=ry;exact ne_str (bB I q (congrArg not uT))
  |_=>exact absurd (show false=true from hs) OK
 |byt i=>
  obtain⟨t,rfl⟩:=rx
  cases y with
  |byt j=>obtain⟨t',rfl⟩:=ry;exact PySem.W.ne_bytes (bB I q (congrArg not uV))
  |_=>exact absurd (show false=true from hs) OK
 |_=>cases y<;>exact absurd (show false=true from hs) OK
theorem lP:gh X (Pz .Lt) (Ed λi j=>.bl (decide (i<j))):=CQ λ_ _ _ _ _ _ _ q=>lt_int q
theorem jR:gh X (Pz .LtE) (Ed λi j=>.bl (decide (i≤j))):=CQ λ_ _ _ _ _ _ _ q=>le_int q
theorem ix:gh X (Pz .Gt) (Ed λi j=>.bl (decide (j<i))):=CQ λ_ _ _ _ _ _ _ q=>gt_int q
theorem Ab:gh X (Pz .GtE) (Ed λi j=>.bl (decide (j≤i))):=CQ λ_ _ _ _ _ _ _ q=>ge_int q
theorem Ga:gh X (Pz .Is) (λx y H Q=>y=.non/\Q (.bl (decide (x=.non))) H):=by
 intro pins s σ H x y v u Q I rx ry h;obtain⟨rfl,q⟩:=h
 cases ry
 refine is_none_gen (bB I q ?_)
 cases x<;>first
  | (cases rx;rfl)
  | (obtain⟨t,rfl⟩:=rx;rfl)
theorem CP:gh X (Pz .IsNot) (λx y H Q=>y=.non/\Q (.bl (!decide (x=.non))) H):=by
 intro pins s σ H x y v u Q I rx ry h;obtain⟨rfl,q⟩:=h
 cases ry
 refine isnot_none_gen (bB I q ?_)
 cases x<;>first
  | (cases rx;rfl)
  | (obtain⟨t,rfl⟩:=rx;rfl)
def LY:HO->Bool
 | .lst _=>true
 | .ins _ _ _=>true
 |_=>false
theorem aQ(b:O3){op:W8}(h:op≠.In:=by decide)(h2:op≠.NotIn:=by decide):Sl op b=false:=by
 have e1:(op==W8.In)=false:=by cases op<;>first|rfl|exact absurd Z h
 have e2:(op==W8.NotIn)=false:=by cases op<;>first|rfl|exact absurd Z h2
 cases b<;>simp[Sl,e1,e2]
theorem CK(ho:gh X (Pz op) r)(ha:PE X a ta)(hb:PE X b tb)(hm:Sl op b=false):PE X (.Compare a [op] [b] pos) (BJ r ta tb):=by
 intro pins s σ H Q I h;exact wpAny_Compare1 (Hh ha hb I h λv u s2 x y H2 I2 rx ry q=>ho pins s2 σ H2 x y v u Q I2 rx ry q) hm
def ud(t:TE):TT:=λσ H Q=>t σ H λx H'=>∃k,x=.bl k/\Q k H'
theorem Co(ho:gh X (Pz op) r)(ha:PE X a ta)(hb:PE X b tb)(hm:Sl op b=false):PT X (.Compare a [op] [b] pos) (ud (BJ r ta tb)):=by
 intro pins s σ H Q I h;refine wpAny_isTrue_Compare1 (bK (ha pins s σ H _ I h) λv s1 ⟨x,H1,I1,r1,q1⟩=>bK (hb pins s1 σ H1 _ I1 q1) λu s2 ⟨y,H2,I2,r2,q2⟩=>
  bK (ho pins s2 σ H2 x y v u _ I2 r1 r2 q2) λc s3 ⟨z,H3,I3,r3,k,e,q3⟩=>?_) hm
 subst e
 cases r3
 exact Qp ⟨H3,I3,q3⟩
def ot(r r':R2)(ta tb tc:TE):TE:=λσ H Q=>ta σ H λx H1=>tb σ H1 λy H2=>r x y H2 λz H3=>∃k,z=.bl k∧
 (if k=true then tc σ H3 λw' H4=>r' y w' H4 Q else Q (.bl false) H3)
theorem zW{op op':W8}{r r':R2}(ho:gh X (Pz op) r)(ho':gh X (Pz op') r')(ha:PE X a ta)(hb:PE X b tb)(hc:PE X c tc)
  (hm:WB [op,op'] [b,c]=false:=by with_unfolding_all rfl):PE X (.Compare a [op,op'] [b,c] pos) (ot r r' ta tb tc):=by
 intro pins s σ H Q I h;refine Compare_chain (bK (ha pins s σ H _ I h) λv s1 ⟨x,H1,I1,r1,q1⟩=>chain_link (bK (hb pins s1 σ H1 _ I1 q1) λu s2 ⟨y,H2,I2,r2,q2⟩=>
  bK (ho pins s2 σ H2 x y v u _ I2 r1 r2 q2) λd s3 ⟨z,H3,I3,r3,k,e,q3⟩=>?_)) hm
 subst e
 cases r3
 refine Qp ?_
 cases k with
 |false=>exact ite_ff ⟨.bl false,H3,I3,Z,q3⟩
 |true=>exact ite_tt (chain_last (bK (hc pins s3 σ H3 _ I3 q3) λw' s4 ⟨z',H4,I4,r4,q4⟩=>ho' pins s4 σ H4 y z' u w' Q I4 r2 r4 q4))
theorem zu{op op':W8}{r r':R2}(ho:gh X (Pz op) r)(ho':gh X (Pz op') r')(ha:PE X a ta)(hb:PE X b tb)(hc:PE X c tc)
  (hm:WB [op,op'] [b,c]=false:=by with_unfolding_all rfl):PT X (.Compare a [op,op'] [b,c] pos) (ud (ot r r' ta tb tc)):=by
 intro pins s σ H Q I h;refine isTrue_chain (bK (ha pins s σ H _ I h) λv s1 ⟨x,H1,I1,r1,q1⟩=>test_link (bK (hb pins s1 σ H1 _ I1 q1) λu s2 ⟨y,H2,I2,r2,q2⟩=>
  bK (ho pins s2 σ H2 x y v u _ I2 r1 r2 q2) λd s3 ⟨z,H3,I3,r3,k,e,q3⟩=>?_)) hm
 subst e
 cases r3
 refine Qp ?_
 cases k with
 |false=>
  obtain⟨k',e',q'⟩:=q3
  cases e'
  exact ite_ff ⟨H3,I3,q'⟩
 |true=>
  refine ite_tt (test_last (bK (hc pins s3 σ H3 _ I3 q3) λw' s4 ⟨z',H4,I4,r4,q4⟩=>bK (ho' pins s4 σ H4 y z' u w' _ I4 r2 r4 q4) λd' s5 ⟨z2,H5,I5,r5,k2,e2,q5⟩=>?_));subst e2
  cases r5
  exact Qp ⟨H5,I5,q5⟩
def Ng(K:Of)(x:V)(H:Hp)(k:Bool):Prop:=
 match x with
 | .non=>k=false
 | .bl b=>k=b
 | .int i=>k=(i != 0)
 | .str y=>y.length≤sizeLine/\k=((y.length:Int) != 0)
 | .byt y=>y.size≤sizeLine/\k=((y.size:Int) != 0)
 | .ref p=>(∃xs,ba K H p xs/\k=!xs.isEmpty)∨(∃xs,bu K H p xs/\k=!xs.isEmpty)∨∃kvs,H p=some (.dK kvs)/\k=!kvs.isEmpty
 |_=>False
theorem pq:(sizeLine:Nat)<2^63:=by rw[Sz];decide
def JM(b:O3):Prop:=∀o i,Vb b false o i=XH [o,i] (Tk o i)
theorem gE(r:bc [x] us):∃u,us=[u]/\aZ x u:=by
 cases r with
 |cons r1 r2=>cases r2;exact⟨_,Z,r1⟩
theorem qd(r:bc [x,y] us):∃u w',us=[u,w']/\aZ x u/\aZ y w':=by
 cases r with
 |cons r1 r2=>
  cases r2 with
  |cons r3 r4=>cases r4;exact⟨_,_,Z,r1,r3⟩
theorem mH:df X (.builtin "abs") (λxs H Q=>∃i,xs=[.int i]/\Q (.int (if i<0 then -i else i)) H):=by
 intro pins s σ H xs us Q I r h;obtain⟨i,rfl,q⟩:=h;obtain⟨u,rfl,t,rfl⟩:=gE r;exact call_abs_int λu tk=>⟨.int (if i<0 then -i else i),H,I.tok _,⟨_,Z⟩,q⟩
theorem nW(hc:X.calm=true):df X (.builtin "min") (λxs H Q=>∃i j,xs=[.int i,.int j]/\Q (.int (if j<i then j else i)) H):=by
 intro pins s σ H xs us Q I r h;obtain⟨i,j,rfl,q⟩:=h;obtain⟨u,w',rfl,⟨t,rfl⟩,⟨t',rfl⟩⟩:=qd r;refine min_two_ints (I.ok.hd hc) λh' tk k=>⟨_,H,I.kept k,?_,q⟩
 by_cases hj:j<i
 ·rw[if_pos hj,if_pos hj];exact⟨_,Z⟩
 ·rw[if_neg hj,if_neg hj];exact⟨_,Z⟩
def Nr(K:Of)(x:V)(H:Hp)(n:Nat):Prop:=
 match x with
 | .str y=>y.length≤sizeLine/\n=y.length
 | .byt y=>y.size≤sizeLine/\n=y.size
 | .ref p=>(∃xs,ba K H p xs/\n=xs.length)∨∃xs,bu K H p xs/\n=xs.length
 |_=>False
end
end L2
namespace L2
open PySem PySem.Spec PyProof.Rows
structure tT(h:Oy)(x dx C:Addr)(mA:OV->Option Value):Prop where
 obj:h.get? x=some (QY C dx)
 ns:h.Ns1 dx mA
 ne:dx≠x
theorem vZ{h:Oy}(n:h.Ns1 dx mA):∃od,h.get? dx=some od/\∀name,Tx name od=some (mA name):=by
 obtain⟨o,es,ep,ho,hd,hk,_,hm⟩:=n;refine⟨o,ho,λname=>?_⟩;have e:=hm name;unfold nsFind findBy at e;rw[←Array.find?_toList] at e;unfold Tx;rw[hd];dsimp only
 split
 ·rename_i y q;rw[q] at e;exact congrArg some e
 ·rename_i q;rw[q] at e;have a:es.toList.any (·.refKey)=false:=by
   rw[TZ];intro y hy;obtain⟨z,t,hkey⟩:=hk y (Vc.mp hy);simp[Vo.refKey,hkey]
  have a':¬es.toList.any (·.refKey)=true:=by rw[a];exact OK
  rw[if_neg a'];exact congrArg some e
theorem tT.look(I:tT h x dx C mA):∃od,Qr h x (QY C dx) C (some od)/\∀name,Tx name od=some (mA name):=
 let ⟨od,ho,hl⟩:=vZ I.ns
 ⟨od,⟨I.obj,Z,Z,ho⟩,hl⟩
section
variable {prog:O0}{w:Pk}{A:O5}{E:Value->Om->Prop}{s:Om}{K:Of}{x dx C f:Addr}{mA:OV->Option Value}{name:OV}{v:Value}
theorem Dd(X:K.In s.heap)(I:tT s.heap x dx C mA)(hg:SS K C name=true)(hh:R6 K C=true)
  (ha:O2 K (.ref C) name=some none) (hv:mA name=some v) (hv':Ui v=true) (h:Q v { s with toks:=s.toks+1}):
  OJ (OM prog w) A (getAttr (.ref x) name expr) Q E s:=by
 obtain⟨od,J,hl⟩:=I.look;exact PySem.W.get_value X J (Ti hg).1 (PySem.W.findObj_own hh ha Z (by rw[hl,hv])) hv' h
theorem AJ(X:K.In s.heap)(I:tT s.heap x dx C mA)(hg:SS K C name=true)
  (hf:O2 K (.ref C) name=some (some (.ref f))) (ht:Tl K (.ref f)=true) (hv:mA name=none) (h:Q (.ref f,[.ref x]) s):
  OJ (OM prog w) A (Uj (.ref x) name pl) Q E s:=by
 obtain⟨od,J,hl⟩:=I.look;exact PySem.W.method_fn X J (Ti hg).1 (Ti hg).2 hf (beq_iff_eq.mp ht) (by show(Tx name od).map (·.isSome)=some false;rw[hl,hv];rfl) h
theorem Ca(X:K.In s.heap)(I:tT s.heap x dx C mA)
  (hs:O2 K (.ref C) "__setattr__"=some (some (.builtin "object.__setattr__"))) (hp:V1 K C=true) (ht:U1 K C name=some none) (hh:R6 K C=true)
  (hw:Tj mA ns) (hsz:ns.length≤sizeLine)
  (h:∀h',tT h' x dx C (λy=>if y=name then some v else mA y)->RL dx s.heap h'->Q () { s with heap:=h',toks:=s.toks+2}):
  OJ (OM prog w) A (XI (.ref x) name v) Q E s:=by
 obtain⟨od,J,hl⟩:=I.look;refine T0 X J hs (PySem.W.osa_open (s:={ s with toks:=s.toks+1}) (r:=none) X J hp ht λb=>?_);obtain⟨cd,hc,hd'⟩:=Uk hh;have hx:s.heap.get? x=some ⟨.ref C,some dx,.plain,#[]⟩:=I.obj;refine Oj (OC (Oj (Oj (Tz hx (Oj (RN (s:={ s with toks:=s.toks+1}) (Sj X hc) ?_))))));rw[hd'];refine OC (a:=some dx) (Oj (OC (Oj ?_)));refine V2 (s:={ s with toks:=s.toks+1}) I.ns λh' hn2 hs2=>?_
 obtain⟨oD,esD,epD,hoD,hdD,hcD⟩:=hn2.count (Tj.cons name v hw);refine Oj (Ul hoD (by rw[hdD];exact Um (OS hcD (by rw[Ph];omega))) ?_);exact OC (h _ ⟨(hs2.2 _ (Rw I.ne)).trans I.obj,hn2,I.ne⟩ hs2)
theorem Ar(X:K.In s.heap)(hm:WV K C=true)
  (hi:O2 K (.ref C) "__init__"=some (some (.ref f))) (hf:SD K (.ref f)=some (.type "function"))
  (h:Ro (OM prog w) (A.under (.builtin "type.__call__" ⟨.ref C:: vs,kw⟩)) (.call (.ref f) ⟨.ref (s.heap.objs.size+1):: vs,kw⟩) (PySem.W.InitBack (s.heap.objs.size+1) R)
   { s with heap:=(s.heap.push P8).push (QY C s.heap.objs.size)}):
  Ro (OM prog w) A (.call (.ref C) ⟨vs,kw⟩) R s:=by
 obtain⟨hh,g,d,t,os⟩:=s;exact PySem.W.make_core (PySem.W.makes_of X hm) (Rp X hi) (λself=>WW X self hf) (.inl Z) h
end
def gz(f:OV)(v:V):List (OV×V)->List (OV×V)
 | []=>[(f,v)]
 | (g,x)::r=>if g=f then(g,v)::r else(g,x)::gz f v r
theorem jS(f g:OV)(v:V):∀fs:List (OV×V),(gz f v fs).lookup g=if g=f then some v else fs.lookup g
 | []=>by
  show SC g [(f,v)]=_;by_cases h:g=f
  ·have hb:(g==f)=true:=beq_iff_eq.mpr h;simp only[SC,hb,if_pos h]
  ·have hb:(g==f)=false:=beq_eq_false_iff_ne.mpr h;simp only[SC,hb,if_neg h]
 | (k,x)::r=>by
  have ih:=jS f g v r;rw[show gz f v ((k,x)::r)=(if k=f then(k,v)::r else(k,x)::gz f v r) from Z];by_cases hk:k=f
  ·rw[if_pos hk];by_cases h:g=k
   ·have hb:(g==k)=true:=beq_iff_eq.mpr h;simp only[SC,hb,if_pos (h.trans hk)]
   ·have hb:(g==k)=false:=beq_eq_false_iff_ne.mpr h;simp only[SC,hb,if_neg (λe:g=f=>h (e.trans hk.symm))]
  ·rw[if_neg hk];by_cases h:g=k
   ·have hb:(g==k)=true:=beq_iff_eq.mpr h;simp only[SC,hb,if_neg (λe:g=f=>hk (h.symm.trans e))]
   ·have hb:(g==k)=false:=beq_eq_false_iff_ne.mpr h;simp only[SC,hb];exact ih
theorem jI(f:OV)(v:V):∀fs:List (OV×V),f∈(gz f v fs).map (·.1)/\∀g,g∈fs.map (·.1)->g∈(gz f v fs).map (·.1)
 | []=>⟨by simp[gz],λg h=>by simp at h⟩
 | (k,x)::r=>by
  obtain⟨i1,i2⟩:=jI f v r;rw[show gz f v ((k,x)::r)=(if k=f then(k,v)::r else(k,x)::gz f v r) from Z];by_cases hk:k=f
  ·rw[if_pos hk];subst hk;exact⟨by simp,λg h=>by simpa using h⟩
  ·rw[if_neg hk];refine⟨?_,λg h=>?_⟩
   ·rw[O1];exact Ot _ i1
   ·rw[O1] at h ⊢;rcases Ov.mp h with e|e
    ·exact Ov.mpr (.inl e)
    ·exact Ot _ (i2 g e)
theorem jU(f:OV)(v:V):∀fs:List (OV×V),(gz f v fs).length≤fs.length+1
 | []=>by simp[gz]
 | (k,x)::r=>by
  have ih:=jU f v r;rw[show gz f v ((k,x)::r)=(if k=f then(k,v)::r else(k,x)::gz f v r) from Z];by_cases hk:k=f
  ·rw[if_pos hk,Ph,Ph];omega
  ·rw[if_neg hk,Ph,Ph];omega
theorem fM.some_of(r:fM (some v) o):∃u,o=some u/\aZ v u:=by
 cases o with
 |none=>exact(show False from r).elim
 |some u=>exact⟨u,Z,r⟩
theorem fM.none_of(r:fM none o):o=none:=by
 cases o with
 |none=>rfl
 |some u=>exact(show False from r).elim
theorem wt(r:aZ v u):Ui u=true:=by
 cases v with
 |non=>cases(show u=Qo from r);rfl
 |bl b=>cases(show u=SQ b from r);rfl
 |int i=>obtain⟨t,e⟩:=(show ∃t,u=Rj i t from r);cases e;rfl
 |str x=>obtain⟨t,e⟩:=(show ∃t,u=Tr x t from r);cases e;rfl
 |byt b=>obtain⟨t,e⟩:=(show ∃t,u=Value.bytes b t from r);cases e;rfl
 |flt b=>obtain⟨t,e⟩:=(show ∃t,u=WN b t from r);cases e;rfl
 |ref a=>cases(show u=OP a from r);rfl
 |ty n=>cases(show u=Rt n from r);rfl
section
variable {P:O0}{w:Pk}{H H':Hp}{h h':Oy}{a C dx:Addr}{fs fs':List (OV×V)}
theorem kD(hok:iz P w H h)(e:H a=some (.ins C dx fs)):∃mA,tT h a dx C mA/\(∀f,fM (fs.lookup f) (mA f))/\Tj mA (fs.map (·.1))/\fs.length≤1000/\H dx=some (.own a):=by
 obtain⟨d,z,ne,ob,mA,n,r,q⟩:=(show ObjOk P w H h a (.ins C dx fs) from hok a _ e);exact⟨mA,⟨ob,n,ne⟩,r,q,z,d⟩
end
structure tX(K:Of)(C:Addr):Prop where
 pg:SS K C OV.empty=true
 hd:R6 K C=true
 po:V1 K C=true
 sa:O2 K (.ref C) "__setattr__"=some (some (.builtin "object.__setattr__"))
theorem tX.get{K:Of}{C:Addr}(c:tX K C)(f:OV):SS K C f=true:=c.pg
def cO(K:Of)(C:Addr)(f:OV):Prop:=O2 K (.ref C) f=some none
theorem cO.taker{K:Of}{C:Addr}{f:OV}(n:cO K C f):U1 K C f=some none:=by
 unfold U1;rw[show O2 K (.ref C) f=some none from n];rfl
structure Ny(K:Of)(C:Addr)(f:OV)(v:V)(u:Value):Prop where
 at_:O2 K (.ref C) f=some (some u)
 rel:aZ v u
 get:T1 K u "__get__"=some none
 cp:PySem.W.copiedNames.contains f=false
structure kj(K:Of)(C:Addr)(m:OV)(f:Addr):Prop where
 at_:O2 K (.ref C) m=some (some (.ref f))
 fn:Tl K (.ref f)=true
 kp:Qa K (.ref f)=true
section
variable {X:Cx}{pins:List (Addr×P0)}{σ:St}{H:Hp}{s:Om}{a C dx:Addr}{fs:List (OV×V)}{f:OV}{v:V}{A:O5}{E:Value->Om->Prop}
theorem me(I:Inv X pins σ H s)(e:H a=some (.ins C dx fs))(c:tX X.K C)(n:cO X.K C f)(l:fs.lookup f=some v)
  (h:∀u s',Inv X pins σ H s'->aZ v u->Q u s'):OJ (OM X.prog X.w) A (getAttr (.ref a) f b) Q E s:=by
 obtain⟨mA,O,r,_,_,_⟩:=kD I.hok e;obtain⟨u,hu,ru⟩:=fM.some_of (v:=v) (o:=mA f) (by rw[←l];exact r f);exact Dd I.kIn O (c.get f) c.hd n hu (wt ru) (h u _ (I.tok _) ru)
theorem ma(I:Inv X pins σ H s)(e:H a=some (.ins C dx fs))(c:tX X.K C)(k:kj X.K C m g)(l:fs.lookup m=none)
  (h:Q (.ref g,[.ref a]) s):OJ (OM X.prog X.w) A (Uj (.ref a) m pl) Q E s:=by
 obtain⟨mA,O,r,_,_,_⟩:=kD I.hok e;have hn:mA m=none:=fM.none_of (by rw[←l];exact r m);exact AJ I.kIn O (c.get m) k.at_ k.fn hn h
theorem lj(I:Inv X pins σ H s)(e:H a=some (.ins C dx fs))(c:tX X.K C)(n:cO X.K C f)(hl:fs.length<1000)(ry:aZ y u)
  (h:∀s',Inv X pins σ (upd H a (.ins C dx (gz f y fs))) s'->Q () s'):OJ (OM X.prog X.w) A (XI (.ref a) f u) Q E s:=by
 obtain⟨mA,O,r,wi,_,ho⟩:=kD I.hok e;have hz:(fs.map (·.1)).length≤sizeLine:=by rw[Ol,Sz];omega
 refine Ca I.kIn O c.sa c.po n.taker c.hd wi hz λh' O' sb=>h _ ?_
 have hd:∃o,h'.get? dx=some o:=let ⟨o,_,_,e',_⟩:=O'.ns;⟨o,e'⟩;refine I.write (x:=a) (e:=dx) (by rw[e];exact Rb) (.inr ho) (λb q hb z=>(sb.2 b hb).trans z) hd ?_;refine⟨by rw[ay O.ne];exact ho,?_,O.ne,O'.obj,_,O'.ns,λg=>?_,λg hg=>?_⟩
 ·have:=jU f y fs;omega
 ·show fM ((gz f y fs).lookup g) (if g=f then some u else mA g);rw[jS];by_cases q:g=f
  ·rw[if_pos q,if_pos q];exact ry
  ·rw[if_neg q,if_neg q];exact r g
 ·by_cases q:g=f
  ·rw[q];exact(jI f y fs).1
  ·refine(jI f y fs).2 g (wi g λz=>hg ?_);show(if g=f then some u else mA g)=none;rw[if_neg q];exact z
theorem Inv.made(I:Inv X pins σ H s):Inv X pins σ (upd (upd H s.heap.objs.size (.own (s.heap.objs.size+1))) (s.heap.objs.size+1) (.ins C s.heap.objs.size []))
  { s with heap:=(s.heap.push P8).push (QY C s.heap.objs.size)}:=by
 have e1:(s.heap.push P8).get? s.heap.objs.size=some P8:=OO s.heap Z;have e2:((s.heap.push P8).push (QY C s.heap.objs.size)).get? (s.heap.objs.size+1)=some (QY C s.heap.objs.size):=by
  have:=OO (s.heap.push P8) (o:=QY C s.heap.objs.size) Z
  rwa [QQ] at this
 have e3:(s.heap.push P8).Ns s.heap.objs.size (λ_=>none):=⟨P8,#[],_,e1,Z,(λe he=>absurd he (by simp)),λ_=>Z⟩;have I1:=I.laid (a:=s.heap.objs.size) (o:=.own (s.heap.objs.size+1)) (h':=s.heap.push P8) (t':=s.toks) (λb u q=>On _ q) (Oi _) ⟨_,e1⟩;refine I1.laid (a:=s.heap.objs.size+1) (o:=.ins C s.heap.objs.size []) (t':=s.toks) (λb u q=>On _ q) (RO (QQ _ _)) ?_;have ne:s.heap.objs.size≠s.heap.objs.size+1:=O9 (Uo _);refine⟨by rw[ay ne,ag],ON _,ne,e2,λ_=>none,(V3 e3).at λo q=>On _ q,λ_=>Rb,λy hy=>absurd Z hy⟩
theorem Dv(hb:Q6 e f env (eval e env)=eval e env)
  (h:OJ (OM prog w) A (eval e env) (λo s₁=>OJ (OM prog w) A (getAttr o f true) Q E s₁) E s):OJ (OM prog w) A (eval (.Attribute e f pos) env) Q E s:=
 Attribute_any_ h (by rw[arm_eval_Attribute,hb])
end
def Iu(K:Of)(ta:TE)(f:OV):TE:=λσ H Q=>ta σ H λx H1=>∃a C dx fs v,x=.ref a/\H1 a=some (.ins C dx fs)/\tX K C/\cO K C f/\fs.lookup f=some v/\Q v H1
def MF(K:Of)(ta:TE)(f:OV):TE:=λσ H Q=>ta σ H λx H1=>∃a C dx fs v u,x=.ref a/\H1 a=some (.ins C dx fs)/\tX K C/\Ny K C f v u/\fs.lookup f=none/\Q v H1
def IH(K:Of)(ta tv:TE)(f:OV):TS:=λD σ H=>tv σ H λy H1=>ta σ H1 λx H2=>∃a C dx fs,x=.ref a/\H2 a=some (.ins C dx fs)/\tX K C/\cO K C f/\fs.length<1000∧
 D.nx σ (upd H2 a (.ins C dx (gz f y fs)))
def Ht(X:Cx)(op:W9)(rd:V->V->Hp->VK->Prop):Prop:=
 ∀(pins:List (Addr×P0)) (s:Om) (σ:St) (H:Hp) (x y:V) (u v:Value) (Q:VK),Inv X pins σ H s->aZ x u->aZ y v->rd x y H Q->OJ (OM X.prog X.w) X.A (Xz op u v) (EP X pins σ Q) X.xe s
def uu(K:Of)(ta tv:TE)(rd:V->V->Hp->VK->Prop)(f:OV):TS:=λD σ H=>ta σ H λx H1=>∃a C dx fs v,x=.ref a/\H1 a=some (.ins C dx fs)/\tX K C/\cO K C f/\fs.lookup f=some v∧
 tv σ H1 λy H2=>rd v y H2 λz H3=>∃dx' fs',H3 a=some (.ins C dx' fs')/\fs'.length<1000/\D.nx σ (upd H3 a (.ins C dx' (gz f z fs')))
section
variable {X:Cx}{o e value:O3}{f:OV}{pos pos' tpos:R1}{ta tv:TE}
theorem F7(he:PE X e ta)(hb:Q6 e f X.env (eval e X.env)=eval e X.env):PE X (.Attribute e f pos) (Iu X.K ta f):=by
 intro pins s σ H Q I h;refine Dv hb (bK (he pins s σ H _ I h) λu s1 ⟨x,H1,I1,rx,a,C,dx,fs,v,ex,ea,c,n,l,q⟩=>?_);subst ex;obtain rfl:u=OP a:=rx;exact me I1 ea c n l λu' s2 I2 ru=>⟨v,H1,I2,ru,q⟩
theorem FP(ha:PE X o ta)(hv:PE X value tv)(hs:QV value (some (.Attribute o f pos')) pos.line X.env=Qm false):PS X (.Assign [.Attribute o f pos'] value pos) (IH X.K ta tv f):=by
 intro pins s σ H D I h;refine SL (bK (hv pins s σ H _ I h) λu s1 ⟨y,H1,I1,ry,q⟩=>bK (ha pins s1 σ H1 _ I1 q) λov s2 ⟨x,H2,I2,rx,a,C,dx,fs,ex,ea,c,n,l,q2⟩=>?_) hs;subst ex;obtain rfl:ov=OP a:=rx;exact lj I2 ea c n l ry λs3 I3=>⟨σ,_,I3,q2⟩
theorem vR(ha:PE X o ta)(hv:PE X value tv)(hop:Ht X op rd):PS X (.AugAssign (.Attribute o f tpos) op value pos) (uu X.K ta tv rd f):=by
 intro pins s σ H D I h;refine wpAny_AugAssign_AttributeAny (bK (ha pins s σ H _ I h) λov s1 ⟨x,H1,I1,rx,a,C,dx,fs,v,ex,ea,c,n,l,q⟩=>?_);subst ex;obtain rfl:ov=OP a:=rx;refine me I1 ea c n l λu s2 I2 ru=>bK (hv pins s2 σ H1 _ I2 q) λw3 s3 ⟨y,H2,I3,ry,q3⟩=>bK (hop pins s3 σ H2 v y u w3 _ I3 ru ry q3) λw4 s4 ⟨z,H3,I4,rz,dx',fs',ea',l',q4⟩=>?_
 exact lj I4 ea' c n l' rz λs5 I5=>⟨σ,_,I5,q4⟩
def KQ:V->V->Hp->VK->Prop:=λx y H Q=>∃i j,x=.int i/\y=.int j/\Q (.int (i+j)) H
def MM:V->V->Hp->VK->Prop:=λx y H Q=>∃i j,x=.int i/\y=.int j/\Q (.int (i-j)) H
theorem G1:Ht X .Add KQ:=by
 rintro pins s σ H x y u v Q I rx ry ⟨i,j,rfl,rfl,q⟩;obtain⟨t,rfl⟩:=(show ∃t,u=Rj i t from rx);obtain⟨t',rfl⟩:=(show ∃t',v=Rj j t' from ry);exact PyProof.Rows.iadd_int ⟨.int (i+j),H,I.tok _,⟨_,Z⟩,q⟩
end
section
variable {X:Cx}{pins:List (Addr×P0)}{σ:St}{H:Hp}{s:Om}{A:O5}{E:Value->Om->Prop}{Q:Value->Om->Prop}{c:Value}{b:Bool}
inductive jO(K:Of)(H:Hp):V->Value->Prop where
 |non:jO K H .non (.type "NoneType")
 |bl (x:Bool):jO K H (.bl x) (.type "bool")
 |int (i:Int):jO K H (.int i) (.type "int")
 |str (x:OV):jO K H (.str x) (.type "str")
 |flt (x:UInt64):jO K H (.flt x) (.type "float")
 |lst {a:Addr} {xs:List V} (e:H a=some (.lst xs)):jO K H (.ref a) (.type "list")
 |frz {a:Addr} {o:P0} {xs:List V} (e:H a=some (.frz o (.lst xs))):jO K H (.ref a) (.type "list")
 |tup {a:Addr} {xs:List V} (e:H a=some (.tup xs)):jO K H (.ref a) (.type "tuple")
 |dK {a:Addr} {kvs:List (dg×V)} (e:H a=some (.dK kvs)):jO K H (.ref a) (.type "dict")
 |dT {a:Addr} {kvs:List (List dg×V)} (e:H a=some (.dT kvs)):jO K H (.ref a) (.type "dict")
 |ins {a C dx:Addr} {fs:List (OV×V)} (e:H a=some (.ins C dx fs)) (cl:tX K C) (ha:O2 K (.ref C) "__class__"=some (some (.builtin "object.__class__")))
   (hn:T1 K (.builtin "object.__class__") "__get__"=some (some (.builtin "getset_descriptor.__get__"))) (htk:WX K (.builtin "object.__class__")=some true)
   (hm:SZ K C (.type "object")=some true):jO K H (.ref a) (.ref C)
theorem we(I:Inv X pins σ H s)(rx:aZ x u)(ty:jO X.K H x t)(e:P3 X.K t c=some b)(h:∀tk,Q (.bool b) { s with toks:=tk}):
  OJ (OM X.prog X.w) A (call (.builtin "isinstance") [u,c]) Q E s:=by
 cases ty with
 |non=>cases(show u=Qo from rx);exact Pu PySem.W.kitx_none I.kIn Rb e (λz=>nomatch z) h
 |bl y=>cases(show u=SQ y from rx);exact Pu PySem.W.kitx_bool I.kIn Rb e (λz=>nomatch z) h
 |int i=>obtain⟨t,q⟩:=(show ∃t,u=Rj i t from rx);cases q;exact Pu PySem.W.kitx_int I.kIn Rb e (λz=>nomatch z) h
 |str y=>obtain⟨t,q⟩:=(show ∃t,u=Tr y t from rx);cases q;exact Pu PySem.W.kitx_str I.kIn Rb e (λz=>nomatch z) h
 |flt y=>obtain⟨t,q⟩:=(show ∃t,u=WN y t from rx);cases q;exact Pu PySem.W.kitx_float I.kIn Rb e (λz=>nomatch z) h
 | @lst a xs ea=>
  cases(show u=OP a from rx)
  obtain⟨_,_,n,_,h1⟩:=(show ObjOk X.prog X.w H s.heap a (.lst xs) from I.hok a _ ea);exact Pu T3 I.kIn ⟨_,h1,Z⟩ e (λz=>nomatch z) h
 | @frz a ob xs ea=>
  cases(show u=OP a from rx)
  obtain⟨_,_,_,n,_,h1⟩:=(show ObjOk X.prog X.w H s.heap a (.frz ob (.lst xs)) from I.hok a _ ea);exact Pu T3 I.kIn ⟨_,h1,Z⟩ e (λz=>nomatch z) h
 | @tup a xs ea=>
  cases(show u=OP a from rx)
  obtain⟨_,_,_,p⟩:=(show ObjOk X.prog X.w H s.heap a (.tup xs) from I.hok a _ ea);obtain⟨o,h1,h2,_⟩:=p;exact Pu VO I.kIn ⟨o,h1,h2⟩ e (λz=>nomatch z) h
 | @dK a kvs ea=>
  cases(show u=OP a from rx)
  obtain⟨_,_,vs,_,p⟩:=(show ObjOk X.prog X.w H s.heap a (.dK kvs) from I.hok a _ ea);obtain⟨o,es,ep,h1,h2,_⟩:=p;exact Pu V4 I.kIn ⟨o,h1,h2.1⟩ e (λz=>nomatch z) h
 | @dT a kvs ea=>
  cases(show u=OP a from rx)
  obtain⟨_,_,xs,_,o,es,ep,h1,h2,_⟩:=(show ObjOk X.prog X.w H s.heap a (.dT kvs) from I.hok a _ ea);exact Pu V4 I.kIn ⟨o,h1,h2.1⟩ e (λz=>nomatch z) h
 | @ins a C dx fs ea cl ha hn htk hm=>
  cases(show u=OP a from rx)
  obtain⟨mA,O,_⟩:=kD I.hok ea;obtain⟨od,J,_⟩:=O.look;exact Pu (PySem.W.kitx_own (cl.get _) cl.hd ha hn htk hm) I.kIn J e (λz=>nomatch z) h
end
end L2
namespace L2
open PySem PySem.Spec PyProof.Rows
structure cT(k:Nat)(A:O5):Prop where
 hd:A.handled=none
 dp:A.depth+3*k+5<recursionLimit
 un:A.units+16*k+200<cLine
 gd:A.guards=some []
theorem cT.mono(r:cT k A)(h:j≤k):cT j A:=⟨r.hd,by have:=r.dp;omega,by have:=r.un;omega,r.gd⟩
theorem cT.deeper(r:cT (k+1) A)(env:W6):cT k (A.deeper env):=
 ⟨r.hd,by have:=r.dp;show A.depth+1+3*k+5<_;omega,by have:=r.un;show A.units+3+16*k+200<_;omega,r.gd⟩
theorem sT{A:O5}:(A.under (.builtin "type.__call__" ⟨.ref C:: us,kw⟩)).depth=A.depth+1:=by
 first|rfl|simp[UH,V5.weight,V5.isCreation,V5.isGuard,V5.isCaller,V5.frames,V6,guardIds]
theorem sS{A:O5}:(A.under (.builtin "type.__call__" ⟨.ref C:: us,kw⟩)).units=A.units+1:=by
 first|rfl|simp[UH,V5.cUnits,V5.frames,V6]
theorem qN{A:O5}:(A.under (.builtin "type.__call__" ⟨.ref C:: us,kw⟩)).guards=A.guards:=by
 first|rfl|simp[UH,V5.guards,V5.isGuard,guardIds,pushGuards]
theorem cT.make(r:cT (k+1) A)(C:Addr)(us:List Value)(kw:List (OV×Value)):cT k (A.under (.builtin "type.__call__" ⟨.ref C:: us,kw⟩)):=
 ⟨r.hd,by have:=r.dp;rw[sT];omega,by have:=r.un;rw[sS];omega,by rw[qN];exact r.gd⟩
theorem cT.depth(r:cT k A):A.depth<recursionLimit:=by have:=r.dp;omega
theorem cT.units(r:cT k A):A.units+64<cLine:=by have:=r.un;omega
def vv:TA:=λ_ H Q=>Q [] H
def DT(ta:TE)(tr:TA):TA:=λσ H Q=>ta σ H λx H1=>tr σ H1 λxs H2=>Q (x::xs) H2
section
variable {X:Cx}{e:O3}{es:List O3}{te:TE}{t:TA}{pos:R1}
theorem F9:PA X [] vv:=λ_ _ _ _ H Q I h=>Calls.spliced_nil ⟨[],H,I,.nil,h⟩
theorem CN(ha:PE X e te)(hr:PA X es t)(hs:Oz (e::es) X.env=(false,eval e X.env)::Oz es X.env:=by rfl):PA X (e::es) (DT te t):=by
 intro pos pins s σ H Q I h;rw[hs];show OJ _ _ (spliced ((false,eval e X.env)::QZ pos (Oz es X.env))) _ _ s;refine Calls.spliced_cons (bK (ha pins s σ H _ I h) λu s1 ⟨x,H1,I1,r1,q1⟩=>?_);exact bK (hr pos pins s1 σ H1 _ I1 q1) λus s2 ⟨xs,H2,I2,r2,q2⟩=>⟨x::xs,H2,I2,.cons r1 r2,q2⟩
def Ik(t:TA):TE:=λσ H Q=>t σ H λxs H1=>xs.length≤sizeLine/\∀p,H1 p=none->Q (.ref p) (upd H1 p (.tup xs))
def Ip(t:TA):TE:=λσ H Q=>t σ H λxs H1=>xs.length≤sizeLine/\∀p,H1 p=none->Q (.ref p) (upd H1 p (.lst xs))
theorem FX{x1}(h:PA X es t):PE X (.Tuple es x1 pos) (Ik t):=by
 intro pins s σ H Q I hq;refine wpAny_Tuple_spliced (bK (h pos pins s σ H _ I hq) λus s1 ⟨xs,H1,I1,r,z,q⟩=>⟨by rw[←r.length];exact z,?_⟩);have hf:H1 s1.heap.objs.size=none:=I1.hok.fresh (Oi _);refine⟨.ref s1.heap.objs.size,upd H1 s1.heap.objs.size (.tup xs),I1.laid (t':=s1.toks) (λb u e=>On _ e) (Oi _) ?_,Z,q _ hf⟩;exact⟨z,us,r,⟨_,OO _ Z,Z,_,Z⟩⟩
theorem F4(h:PA X es t):PE X (.List es pos) (Ip t):=by
 intro pins s σ H Q I hq;refine wpAny_List_spliced (bK (h pos pins s σ H _ I hq) λus s1 ⟨xs,H1,I1,r,z,q⟩=>⟨by rw[←r.length];exact z,?_⟩);have hf:H1 s1.heap.objs.size=none:=I1.hok.fresh (Oi _);refine⟨.ref s1.heap.objs.size,upd H1 s1.heap.objs.size (.lst xs),I1.laid (t':=s1.toks) (λb u e=>On _ e) (Oi _) ?_,Z,q _ hf⟩;exact⟨z,us,0,r,OO _ Z⟩
end
abbrev Sp:=List V->Hp->VK->XK->Prop
abbrev rH:=List W6->Hp->Om->XK->Value->Om->Prop
structure rq(P:O0)(w:Pk)(K:Of)(mg:OV->Option Value)(base:Oy)(A:O5)(outer:List W6)(s:Om)(H:Hp):Prop where
 frames:A.frames=some outer
 mod:Mod K mg base
 bs:∀b o,base.get? b=some o->s.heap.get? b=some o/\H b=none
 bsz:base.objs.size≤s.heap.objs.size
 funs:s.heap.FunFrames base outer
 frf:∀b∈mR outer,H b=none
 hok:iz P w H s.heap
 bare:SY s.gens
def CE(outer:List W6)(P:O0)(w:Pk)(H:Hp)(s:Om)(Q:VK)(u:Value)(s':Om):Prop:=
 ∃v H',s'.os=s.os/\SY s'.gens/\Un (mR outer) [] H H' s.heap s'.heap/\iz P w H' s'.heap/\aZ v u/\Q v H'
def CR(CX:rH)(outer:List W6)(P:O0)(w:Pk)(H:Hp)(s:Om)(Q:VK)(E:XK)(r:WC)(s':Om):Prop:=
 match r with
 | .ok (.ret u)=>CE outer P w H s Q u s'
 | .ok _=>False
 | .error e=>CX outer H s E e s'
structure bv(P:O0)(w:Pk)(K:Of)(mg:OV->Option Value)(base:Oy)(CX:rH)(k:Nat)(f:Addr)(fd:Oo)(ps:List OV)(sp:Sp):Prop where
 len:∀vs H Q E,sp vs H Q E->vs.length=ps.length
 run:∀(A:O5) (outer:List W6) (s:Om) (H:Hp) (args:Args) (us:List Value) (vs:List V) (Q:VK) (E:XK),cT k A->rq P w K mg base A outer s H->UI s fd args (ps.zip us)->bc vs us->sp vs H Q E→
  Ro (OM P w) A (.call (.ref f) args) (CR CX outer P w H s Q E) s
theorem rq.make{P:O0}{w:Pk}{K:Of}{mg:OV->Option Value}{base:Oy}{A:O5}{outer:List W6}{s:Om}{H:Hp}(e:rq P w K mg base A outer s H)(C:Addr)(us:List Value)(kw:List (OV×Value)) :
  rq P w K mg base (A.under (.builtin "type.__call__" ⟨.ref C::us,kw⟩)) outer s H:=⟨by first|exact e.frames | (simpa [UH,V5.envs,V6,pushEnvs] using e.frames),e.mod,e.bs,e.bsz,e.funs,e.frf,e.hok,e.bare⟩
section
variable {X:Cx}{pins:List (Addr×P0)}{σ:St}{H:Hp}{s s':Om}
theorem Inv.env0(I:Inv X pins σ H s):rq X.prog X.w X.K X.mg X.base X.A X.stack s H:=
 ⟨I.ok.frames,I.ok.mod,I.bs,OS I.ok.bsz I.sz,I.stack,I.stkFree,I.hok,I.bare⟩
theorem Inv.after(I:Inv X pins σ H s)(h:CE X.stack X.prog X.w H s Q u s'):EP X pins σ Q u s':=by
 obtain⟨v,H',os,bare,un,hok,r,q⟩:=h;obtain⟨hh,g,d,t,os'⟩:=s';obtain rfl:os'=s.os:=os;exact⟨v,H',I.call (h':=hh) (g':=g) (d':=d) (t':=t) (ch:=[]) un hok bare (λb z=>absurd z (by simp)),r,q⟩
end
def xD(sp:Sp)(dvs:List V)(E:XK)(t:TA):TE:=λσ H Q=>t σ H λvs H1=>sp (vs++dvs) H1 Q E
def uf(C:Addr)(m:OV)(sp:Sp)(dvs:List V)(E:XK)(ta:TE)(t:TA):TE:=λσ H Q=>ta σ H λx H1=>∃a dx fs,x=.ref a/\H1 a=some (.ins C dx fs)/\fs.lookup m=none∧
 t σ H1 λvs H2=>sp (x::(vs++dvs)) H2 Q E
def DQ(C:Addr)(sp:Sp)(dvs:List V)(E:XK)(t:TA):TE:=λσ H Q=>t σ H λvs H1=>∀x dx,H1 x=none->H1 dx=none->dx≠x→
 sp (.ref x::(vs++dvs)) (upd (upd H1 dx (.own x)) x (.ins C dx [])) (λv H2=>v=.non/\Q (.ref x) H2) E
def aM(K:Of)(fd:Oo)(ps:List OV)(ds:List Value):Prop:=
 ∀(s:Om) (us:List Value),K.In s.heap->(us++ds).length=ps.length->UI s fd ⟨us,[]⟩ (ps.zip (us++ds))
theorem aM.all{K:Of}{fd:Oo}{ps:List OV}(h:∀us:List Value,us.length=ps.length->V7 fd ⟨us,[]⟩=Qm (ps.zip us)):aM K fd ps []:=λs us _ hl=>by
 rw[Qe] at hl ⊢;exact .of_eq (h us hl)
def eQ(CX:rH)(X:Cx)(E:XK):Prop:=∀(pins:List (Addr×P0)) (σ:St) (H:Hp) (s:Om) (e:Value) (s':Om),Inv X pins σ H s->CX X.stack H s E e s'->X.xe e s'
section
variable {X:Cx}{CX:rH}{k:Nat}{f C:Addr}{fd:Oo}{ps:List OV}{sp:Sp}{dvs:List V}{ds:List Value}{E:XK}{x m:OV}{p pos apos:R1}{e o:O3}{es:List O3}{ta:TE}{t:TA}
theorem sr{pins:List (Addr×P0)}{σ:St}{H:Hp}{s:Om}{Q:VK}{us:List Value}{vs:List V}(F:bv X.prog X.w X.K X.mg X.base CX k f fd ps sp)(hr:cT k X.A)(hb:aM X.K fd ps ds)(hd:bc dvs ds)(hx:eQ CX X E)
  (I:Inv X pins σ H s) (r:bc vs us) (h:sp (vs++dvs) H Q E):OJ (OM X.prog X.w) X.A (call (.ref f) us) (EP X pins σ Q) X.xe s:=by
 have r2:bc (vs++dvs) (us++ds):=r.append hd;have hl:(us++ds).length=ps.length:=by rw[←r2.length];exact F.len _ _ _ _ h
 refine TB (SE (F.run X.A X.stack s H ⟨us,[]⟩ (us++ds) (vs++dvs) Q E hr I.env0 (hb s us I.kIn hl) r2 h) λr s' hq=>?_)
 cases r with
 |error e=>exact hx pins σ H s e s' I hq
 |ok fl=>
  cases fl with
  |ret u=>exact I.after hq
  |next=>exact P6 hq
  |brk=>exact P6 hq
  |cont=>exact P6 hq
theorem CL(F:bv X.prog X.w X.K X.mg X.base CX k f fd ps sp)(hr:cT k X.A)(hg:Gl X x)(hm:X.mg x=some (.ref f))(hk:Qa X.K (.ref f)=true)(hb:aM X.K fd ps ds)(hd:bc dvs ds)(hx:eQ CX X E)
  (ha:PA X (e::es) t) (hdb:(x==("__debug__" : OV))=false:=by decide) (he:Oz (e::es) X.env=(false,eval e X.env)::Oz es X.env:=by rfl) (hpl:(QZ pos (Oz es X.env)).any (·.1)=false:=by rfl) :
  PE X (.Call (.Name x p) (e::es) [] pos) (xD sp dvs E t):=by
 intro pins s σ H Q I h;refine RP (jb I hg hm ?_ hdb);refine TC (h₀:=X.base) I.ok.mod.kin hk (bK (ha pos pins s σ H _ I h) λus s1 ⟨vs,H1,I1,r,q⟩=>⟨I1.kIn,?_⟩) he hpl;exact sr F hr hb hd hx I1 r q
theorem CI{pl:Sem Bool}(he:PE X o ta)(c:tX X.K C)(hm:kj X.K C m f)(F:bv X.prog X.w X.K X.mg X.base CX k f fd ps sp)(hr:cT k X.A)(hb:aM X.K fd ps ds)(hd:bc dvs ds)(hx:eQ CX X E)(ha:PA X (e::es) t)
  (hst:Oz (e::es) X.env=(false,eval e X.env)::Oz es X.env:=by rfl) (hpl:(QZ pos (Oz es X.env)).any (·.1)=false:=by rfl)
  (ht:eval (.Call (.Attribute o m apos) (e::es) [] pos) X.env=(do
   let ov ←eval o X.env
   UD apos.atName
   let (f,first) ←holding [ov] (Uj ov m pl)
   V8 pos f first (QZ pos (Oz (e::es) X.env)) (S1 pos (RH [] X.env))):=by rfl) :
  PE X (.Call (.Attribute o m apos) (e::es) [] pos) (uf C m sp dvs E ta t):=by
 intro pins s σ H Q I h;refine U6 (pl:=pl) (bK (he pins s σ H _ I h) λu s1 ⟨x,H1,I1,rx,a,dx,fs,ex,ea,l,q⟩=>?_) ht;subst ex;obtain rfl:u=OP a:=rx;refine ma I1 ea c hm l ?_;refine TC (first:=[.ref a]) (h₀:=X.base) I.ok.mod.kin hm.kp (bK (ha pos pins s1 σ H1 _ I1 q) λus s2 ⟨vs,H2,I2,r,q2⟩=>⟨I2.kIn,?_⟩) hst hpl;exact sr (us:=.ref a::us) (vs:=.ref a::vs) F hr hb hd hx I2 (.cons Z r) q2
theorem zQ{pl:Sem Bool}(he:PE X o ta)(c:tX X.K C)(hm:kj X.K C m f)(F:bv X.prog X.w X.K X.mg X.base CX k f fd ps sp)(hr:cT k X.A)(hb:aM X.K fd ps ds)(hd:bc dvs ds)(hx:eQ CX X E)
  (ht:eval (.Call (.Attribute o m apos) [] [] pos) X.env=(do
   let ov ←eval o X.env
   UD apos.atName
   let (f,first) ←holding [ov] (Uj ov m pl)
   V8 pos f first (QZ pos (Oz [] X.env)) (S1 pos (RH [] X.env))):=by rfl) :
  PE X (.Call (.Attribute o m apos) [] [] pos) (uf C m sp dvs E ta vv):=by
 intro pins s σ H Q I h;refine U6 (pl:=pl) (bK (he pins s σ H _ I h) λu s1 ⟨x,H1,I1,rx,a,dx,fs,ex,ea,l,q⟩=>?_) ht;subst ex;obtain rfl:u=OP a:=rx;refine ma I1 ea c hm l ?_;exact Vt (first:=[.ref a]) I1.kIn hm.kp (sr (us:=[.ref a]) (vs:=[.ref a]) F hr hb hd hx I1 (.cons Z .nil) q)
structure Mk(K:Of)(C f:Addr):Prop where
 makes:WV K C=true
 init:O2 K (.ref C) "__init__"=some (some (.ref f))
 fn:Tl K (.ref f)=true
 kp:Qa K (.ref C)=true
theorem za{pins:List (Addr×P0)}{σ:St}{H:Hp}{s:Om}{Q:VK}{us:List Value}{vs:List V}(M:Mk X.K C f)(F:bv X.prog X.w X.K X.mg X.base CX k f fd ps sp)(hr:cT (k+1) X.A)(hb:aM X.K fd ps ds)(hd:bc dvs ds)
  (hx:eQ CX X E) (I:Inv X pins σ H s) (r:bc vs us)
  (h:∀x dx,H x=none->H dx=none->dx≠x->sp (.ref x::(vs++dvs)) (upd (upd H dx (.own x)) x (.ins C dx [])) (λv H2=>v=.non/\Q (.ref x) H2) E) :
  OJ (OM X.prog X.w) X.A (call (.ref C) us) (EP X pins σ Q) X.xe s:=by
 have hq:=h (s.heap.objs.size+1) s.heap.objs.size (I.hok.fresh (Qw _)) (I.hok.fresh (Oi _)) (O9 (Uo _));have I2:=Inv.made (C:=C) I;have r2:bc (V.ref (s.heap.objs.size+1)::(vs++dvs)) (OP (s.heap.objs.size+1)::(us++ds)):=.cons Z (r.append hd);have hl:(OP (s.heap.objs.size+1)::us++ds).length=ps.length:=by
  have e:=r2.length;rw[F.len _ _ _ _ hq] at e;exact e.symm
 refine TB (Ar (f:=f) I.kIn M.makes M.init (beq_iff_eq.mp M.fn) (SE (F.run _ X.stack _ _ ⟨OP (s.heap.objs.size+1)::us,[]⟩ (OP (s.heap.objs.size+1)::(us++ds)) _ _ E (hr.make C us []) (I2.env0.make C us []) (hb _ (OP (s.heap.objs.size+1)::us) I2.kIn hl) r2 hq) λr s' hq'=>?_))
 cases r with
 |error e=>exact hx pins σ _ _ e s' I2 hq'
 |ok fl=>
  cases fl with
  |ret u=>
   obtain⟨v,H',I3,rv,ev,q3⟩:=I2.after hq';subst ev;exact⟨rv,⟨V.ref (s.heap.objs.size+1),H',I3,Z,q3⟩⟩
  |next=>exact P6 hq'
  |brk=>exact P6 hq'
  |cont=>exact P6 hq'
theorem zR(M:Mk X.K C f)(F:bv X.prog X.w X.K X.mg X.base CX k f fd ps sp)(hr:cT (k+1) X.A)(hg:Gl X x)(hm:X.mg x=some (.ref C))(hb:aM X.K fd ps ds)(hd:bc dvs ds)(hx:eQ CX X E)
  (hdb:(x==("__debug__" : OV))=false:=by decide):PE X (.Call (.Name x p) [] [] pos) (DQ C sp dvs E vv):=by
 intro pins s σ H Q I h;refine RP (jb I hg hm ?_ hdb);exact Vt I.kIn M.kp (za (us:=[]) M F hr hb hd hx I .nil h)
end
def PK(X:Cx)(kws:List Tn)(t:TA):Prop:=
 ∀(pos:R1) (pins:List (Addr×P0)) (s:Om) (σ:St) (H:Hp) (Q:List V->Hp->Prop),Inv X pins σ H s->t σ H Q->OJ (OM X.prog X.w) X.A (evalAll ((S1 pos (RH kws X.env)).map (·.2))) (AP X pins σ Q) X.xe s
section
variable {X:Cx}{CX:rH}{k:Nat}{f C:Addr}{fd:Oo}{ps ks:List OV}{sp:Sp}{E:XK}{x m:OV}{p pos apos kpos:R1}{e o:O3}{es:List O3}{kws:List Tn}{te ta:TE}{t tk:TA}{nm:Option OV}
structure Lc(K:Of)(fd:Oo)(ps ks:List OV)(g:List Value->List Value->List Value)(gV:List V->List V->List V):Prop where
 to:∀(s:Om) (us ws:List Value),K.In s.heap->(g us ws).length=ps.length->UI s fd ⟨us,ks.zip ws⟩ (ps.zip (g us ws))
 rel:∀{vs:List V} {us:List Value} {zs:List V} {ws:List Value},bc vs us->bc zs ws->bc (gV vs zs) (g us ws)
def KD(sp:Sp)(gV:List V->List V->List V)(E:XK)(t tk:TA):TE:=λσ H Q=>t σ H λvs H1=>tk σ H1 λzs H2=>sp (gV vs zs) H2 Q E
variable {g:List Value->List Value->List Value}{gV:List V->List V->List V}
end
structure aF(N P:List OV)(sc:Sf):Prop where
 kind:sc.kind=.function
 co:sc.isCoroutine=false
 gen:sc.isGenerator=false
 nd:N.Nodup
 pre:N.take P.length=P
 par:∀x∈P,sc.names.lookup x=some .local∨sc.names.lookup x=some .cell
 nofree:∀y∈sc.names,y.2≠.free
theorem nY{kindOf:OV->Option Sm}{x:OV}:∀{binds:List (OV×Value)} {m:OV->Option Value},(∀v,(x,v)∉binds)->Xd kindOf binds m x=m x
 | [],_,_=>rfl
 | (n,v)::r,m,h=>by
  unfold Xd;rw[nY λw hw=>h w (Ot _ hw)]
  split
  ·have:x≠n:=by rintro rfl;exact h v Oq
   simp[this]
  ·rfl
theorem n5{kindOf:OV->Option Sm}{x:OV}:∀{binds:List (OV×Value)} {m:OV->Option Value},(∀v,(x,v)∉binds)->Xe kindOf binds m x=m x
 | [],_,_=>rfl
 | (n,v)::r,m,h=>by
  unfold Xe;rw[n5 λw hw=>h w (Ot _ hw)]
  split
  ·rfl
  ·have:x≠n:=by rintro rfl;exact h v Oq
   simp[this]
theorem nZ{kindOf:OV->Option Sm}{x:OV}{v:Value}:∀{P:List OV} {vs:List Value} {i:Nat} {m:OV->Option Value},P.Nodup->P[i]?=some x->vs[i]?=some v->kindOf x=some .local→
  Xd kindOf (P.zip vs) m x=some v
 | [],_,_,_,_,h,_,_=>by simp at h
 |_::_,[],_,_,_,_,h,_=>by simp at h
 |p::P,w::vs,0,m,nd,h1,h2,hk=>by
  simp at h1 h2;subst h1;subst h2;show Xd kindOf ((p,w)::P.zip vs) m p=_;unfold Xd;rw[nY λv hv=>(Pw.mp nd).1 (U2 hv).1,if_pos hk];simp
 |p::P,w::vs,i+1,m,nd,h1,h2,hk=>by
  show Xd kindOf ((p,w)::P.zip vs) m x=_;unfold Xd;exact nZ (i:=i) (Pw.mp nd).2 (by simpa using h1) (by simpa using h2) hk
theorem n6{kindOf:OV->Option Sm}{x:OV}{v:Value}:∀{P:List OV} {vs:List Value} {i:Nat} {m:OV->Option Value},P.Nodup->P[i]?=some x->vs[i]?=some v->kindOf x≠some .local→
  Xe kindOf (P.zip vs) m x=some v
 | [],_,_,_,_,h,_,_=>by simp at h
 |_::_,[],_,_,_,_,h,_=>by simp at h
 |p::P,w::vs,0,m,nd,h1,h2,hk=>by
  simp at h1 h2;subst h1;subst h2;show Xe kindOf ((p,w)::P.zip vs) m p=_;unfold Xe;rw[n5 λv hv=>(Pw.mp nd).1 (U2 hv).1,if_neg hk];simp
 |p::P,w::vs,i+1,m,nd,h1,h2,hk=>by
  show Xe kindOf ((p,w)::P.zip vs) m x=_;unfold Xe;exact n6 (i:=i) (Pw.mp nd).2 (by simpa using h1) (by simpa using h2) hk
def iW(N:List OV)(vs:List V):St:=vs.map some++Ou (N.length-vs.length) none
def bC(CX:rH)(P:O0)(w:Pk)(K:Of)(mg:OV->Option Value)(base:Oy)(N:List OV)(qual:OV)(scope:Sf)(f:Addr)(cd:Value)(A:O5)(outer:List W6)(s:Om)(H:Hp)(E:XK):Cx where
 prog:=P
 w:=w
 K:=K
 mg:=mg
 base:=base
 A:=A.deeper (UJ qual scope s.heap.objs.size f cd)
 N:=N
 s₀:=s
 H₀:=H
 env:=UJ qual scope s.heap.objs.size f cd
 outer:=outer
 stack:=UJ qual scope s.heap.objs.size f cd::outer
 ex:=[]
 calm:=true
 fn:=λ_=>true
 pn:=[]
 xe:=λe s'=>OJ (OM P w) (A.deeper (UJ qual scope s.heap.objs.size f cd)) (leaving (UJ qual scope s.heap.objs.size f cd) e) (λ_ s''=>CX outer H s E e s'') (λe' s''=>CX outer H s E e' s'') s'
theorem qX{sc:Sf}(h:sc.names.lookup x=some .cell):∃c,(Ts n sc.names []).lookup x=some c:=by
 have q:=UK sc.names n [] (.inl h);exact Qb.mp q
theorem wg{CX:rH}{P:O0}{w:Pk}{K:Of}{mg:OV->Option Value}{base:Oy}{N ps:List OV}{qual:OV}{scope:Sf}{f:Addr}{cd:Value}{A:O5}{outer:List W6}{s s1:Om}{H:Hp}{E:XK}{us:List Value}{vs:List V}
  (S:aF N ps scope) (hd:A.handled=none) (e0:rq P w K mg base A outer s H) (hl:vs.length=ps.length) (r:bc vs us)
  (x:InCallC s s.heap.objs.size (Xd (UJ qual scope s.heap.objs.size f cd).kindOf (ps.zip us) λ_=>none) (Ts (s.heap.objs.size+1) scope.names []) (Xe (UJ qual scope s.heap.objs.size f cd).kindOf (ps.zip us) λ_=>none) s1) :
  Inv (bC CX P w K mg base N qual scope f cd A outer s H E) [] (iW N vs) H s1:=by
 have hpl:ps.length≤N.length:=by have:=congrArg List.length S.pre;rw[PX] at this;omega
 obtain⟨h1,tk,rfl,hk⟩:=x.done;have noA:∀b:Addr,b∉(bC CX P w K mg base N qual scope f cd A outer s H E).ex:=λb z=>absurd (show b∈([]:List Addr) from z) (by simp)
 refine⟨⟨e0.mod,S.kind,Z,Z,Oi _,λy z c h1 h2=>?_,λy hy=>?_,λy c _ h=>?_,λ_=>hd,O5.frames_deeper e0.frames,.inr ⟨Z,Z⟩,λb z=>absurd z (noA b),e0.bs,e0.bsz,λb _ _=>noA b,λb z=>absurd z (noA b),e0.funs,e0.frf⟩,
  rfl,e0.bare,Un.kept hk,⟨_,x.toInCall.ns,λi y v h1 h2 h3=>?_⟩,λy c h=>⟨_,x.cell y c h⟩,e0.hok.fresh (Oi _),λy c h=>?_,λp hp=>absurd (show p∈([]:List (Addr×P0)) from hp) (by simp),e0.hok.kept hk,?_⟩
 ·exact name_of_addr x.apart (Ry h1) (Ry h2)
 ·have hy:scope.names.lookup y=some .cell∨scope.names.lookup y=some .free:=hy;rcases hy with hy|hy
  ·exact qX hy
  ·exact absurd Z (S.nofree _ (Ry hy))
 ·exact RK (x.above y c (Ry h))
 ·have hi:i<vs.length:=by
   unfold iW at h2;by_cases hi:i<vs.length
   ·exact hi
   ·rw[Qs (by simpa using hi)] at h2;rw[RF] at h2
    split at h2<;>cases h2
  have ha:vs[i]?=some v:=by
   unfold iW at h2;rw[QB (by simpa using hi),OB] at h2
   cases e:vs[i]? with
   |none=>rw[e] at h2;cases h2
   |some a=>rw[e] at h2;cases h2;rfl
  obtain⟨u,hu,rv⟩:=r.get ha;have hp:ps[i]?=some y:=by
   rw[←S.pre,List.getElem?_take_of_lt (by omega)];exact h1
  have ndP:ps.Nodup:=by rw[←S.pre];exact S.nd.sublist (List.take_sublist _ _)
  refine⟨u,rv,?_⟩;rcases S.par y (Os hp) with k|k
  ·exact .inl ⟨k,nZ ndP hp hu k⟩
  ·obtain⟨c,e⟩:=qX (n:=s.heap.objs.size+1) k;refine .inr ⟨.inl k,c,e,?_⟩;have q:=x.cell y c e;rw[n6 ndP hp hu (by show scope.names.lookup y≠_;rw[k];decide)] at q;exact q
 ·exact e0.hok.fresh (RK (x.above y c (Ry h)))
 ·unfold iW;show _=N.length;rw[OQ,Ol,R3];omega
theorem Ep{CX:rH}{P:O0}{w:Pk}{K:Of}{mg:OV->Option Value}{base:Oy}{k:Nat}{f:Addr}{name qual:OV}{params:Arguments}{body:List Stmt}{scope:Sf}{dV kV doc pm cdv ct oc:Value}{an od:Option Addr}
  {osl:Array (Option Value)} {N ps:List OV} {sp:Sp} (lk:K.lookup f=some ⟨oc,od,.func (Qf name qual params body scope dV kV doc pm an cdv ct),osl⟩) (hcd:SF K cdv qual=true) (S:aF N ps scope)
  (len:∀vs H Q E,sp vs H Q E->vs.length=ps.length)
  (hbody:∀(A:O5) (outer:List W6) (s:Om) (H:Hp) (vs:List V) (Q:VK) (E:XK),cT k (A.deeper (UJ qual scope s.heap.objs.size f cdv))->sp vs H Q E→
   ∃t,pX (bC CX P w K mg base N qual scope f cdv A outer s H E) body t/\t { nx:=λ_ H'=>Q .non H',rt:=Q} (iW N vs) H) :
  bv P w K mg base CX (k+1) f (Qf name qual params body scope dV kV doc pm an cdv ct) ps sp:=by
 refine⟨len,λA outer s H args us vs Q E hr e0 hb r hsp=>?_⟩;have hl:=len _ _ _ _ hsp;have KX:K.In s.heap:=e0.mod.kin.keeps λb o e=>(e0.bs b o e).1
 have lim:s.heap.NoLimit:=e0.mod.nolimit.keeps λb o e=>(e0.bs b o e).1
 have hkind:∀y∈ps.zip us,scope.names.lookup y.1=some .local∨(scope.names.lookup y.1=some .cell/\((Ts (s.heap.objs.size+1) scope.names []).lookup y.1).isSome=true):=λ⟨n,v⟩ hy=>by
  rcases S.par n (U2 hy).1 with q|q
  ·exact .inl q
  ·exact .inr ⟨q,UK _ _ _ (.inl q)⟩
 refine codeAny_call_function hr.depth (KX _ _ lk) Z S.co S.gen Z (PySem.W.codeRec_of KX hcd) (hb _ _ _ _ ?_);refine wpAny_newFunctionEnv_cells S.kind hkind λenv he s1 x=>?_
 subst he;refine⟨lim.keeps x.toInCall.keep,codeAny_func ?_⟩;obtain⟨t,ht,hq⟩:=hbody A outer s H vs Q E (hr.deeper _) hsp;have I:Inv (bC CX P w K mg base N qual scope f cdv A outer s H E) [] (iW N vs) H s1:=wg S hr.hd e0 hl r x;refine Qh (ht [] s1 (iW N vs) H _ I hq) (λfl s' hs=>?_) λe s' hs=>hs
 have fin:∀{σ':St} {H':Hp} {v:V} {u:Value},Inv (bC CX P w K mg base N qual scope f cdv A outer s H E) [] σ' H' s'->aZ v u->Q v H'->CE outer P w H s Q u s':=
  λ{σ' H' v u} J rv q=>⟨v,H',J.os,J.bare,J.base,J.hok,rv,q⟩
 cases fl with
 |ret u=>
  obtain⟨v,σ',H',J,rv,q⟩:=hs;exact fin J rv q
 |next=>
  obtain⟨σ',H',J,q⟩:=hs;exact fin (v:=V.non) (u:=Qo) J Z q
 |brk=>
  obtain⟨_,_,_,q⟩:=hs;exact P6 q
 |cont=>
  obtain⟨_,_,_,q⟩:=hs;exact P6 q
end L2
namespace L2
open PySem PySem.Spec PyProof.Rows
section
variable {X:Cx}{x:OV}{p pos:R1}{e:O3}{es:List O3}{t:TA}{id T:String}{r:List V->Hp->VK->Prop}
def JZ(r:List V->Hp->VK->Prop)(t:TA):TE:=λσ H Q=>t σ H λvs H1=>r vs H1 Q
theorem zX(hc:df X (.builtin id) r)(hg:Gl X x)(hm:X.mg x=none)(hv:QM x=some (.builtin id))(ha:PA X (e::es) t)(hn:x ≠ "__name__" := by decide)(hdb:(x==("__debug__" : OV))=false:=by decide)
  (he:Oz (e::es) X.env=(false,eval e X.env)::Oz es X.env:=by rfl) (hpl:(QZ pos (Oz es X.env)).any (·.1)=false:=by rfl):PE X (.Call (.Name x p) (e::es) [] pos) (JZ r t):=by
 intro pins s σ H Q I h;refine RP (gO I hg hm hv ?_ hn hdb);exact PyProof.Rows.callWith_builtin1 (bK (ha pos pins s σ H _ I h) λus s1 ⟨vs,H1,I1,r1,q1⟩=>hc pins s1 σ H1 vs us Q I1 r1 q1) he hpl
theorem vV(hc:df X (.type T) r)(hg:Gl X x)(hm:X.mg x=none)(hv:QM x=some (.type T))(ha:PA X (e::es) t)(hn:x ≠ "__name__" := by decide)(hdb:(x==("__debug__" : OV))=false:=by decide)
  (he:Oz (e::es) X.env=(false,eval e X.env)::Oz es X.env:=by rfl) (hpl:(QZ pos (Oz es X.env)).any (·.1)=false:=by rfl):PE X (.Call (.Name x p) (e::es) [] pos) (JZ r t):=by
 intro pins s σ H Q I h;refine RP (gO I hg hm hv ?_ hn hdb);exact PY (bK (ha pos pins s σ H _ I h) λus s1 ⟨vs,H1,I1,r1,q1⟩=>hc pins s1 σ H1 vs us Q I1 r1 q1) he hpl
end
end L2
namespace HT
open PySem PyProof.Rows
def lexLt:List Int->List Int->Bool
 | [],[]=>false
 | [],_::_=>true
 |_::_,[]=>false
 |x::xs,y::ys=>if x=y then lexLt xs ys else decide (x<y)
section
open PySem.SeqAt
open PySem.MeetsSeq PySem.MeetsSeq2 PySem.MeetsSeq3
end
section
variable {prog:O0}{w:Pk}{A:O5}{E:Value->Om->Prop}{s:Om}
def sIx(n d:Nat):Option Int->Nat
 |none=>d
 |some v=>if v<0 then(v+(n:Int)).toNat else min v.toNat n
theorem sIx_nat(n d k:Nat):sIx n d (some (k:Int))=min k n:=by
 show(if(k:Int)<0 then((k:Int)+(n:Int)).toNat else min (k:Int).toNat n)=min k n;rw[if_neg (by omega),QX]
theorem Ft(n d:Nat)(hd:d≤n)(o:Option Int):sIx n d o≤n:=by
 cases o with
 |none=>exact hd
 |some v=>
  show(if v<0 then(v+(n:Int)).toNat else min v.toNat n)≤n;by_cases hv:v<0
  ·rw[if_pos hv];omega
  ·rw[if_neg hv];exact Nat.min_le_right _ _
theorem uW(v:Int)(n d:Nat):(if v<0 then WO (v+(n:Int)) 0 else min v (n:Int))=((sIx n d (some v):Nat):Int):=by
 show(if v<0 then WO (v+(n:Int)) 0 else min v (n:Int))=(((if v<0 then(v+(n:Int)).toNat else min v.toNat n):Nat):Int);by_cases hv:v<0
 ·simp only[if_pos hv];omega
 ·simp only[if_neg hv];omega
theorem tK(lo hi:Option Int)(n:Nat):Sg lo hi 1 (n:Int)=(((sIx n 0 lo:Nat):Int),((sIx n n hi:Nat):Int)):=by
 have h1:¬((1:Int)<0):=by omega
 unfold Sg;simp only[h1,if_false];refine Vd ?_ ?_
 ·cases lo with
  |none=>rfl
  |some v=>exact uW v n 0
 ·cases hi with
  |none=>rfl
  |some v=>exact uW v n n
theorem sI(i j:Nat):Rg (i:Int) (j:Int) 1=j-i:=by
 unfold Rg;have h1:(1:Int)>0:=by omega
 simp only[h1,if_true,UL]
 split<;>omega
theorem lh(p:UM v o)(h:Q o s):OJ (OM prog w) A (Pa.Slice.slicePartIndex v) Q E s:=by
 cases p with
 |none=>exact slicePart_none h
 |int i t=>exact slicePart_int h
theorem f6{sl:Addr}{vl vu:Value}{lo hi:Option Int}{n:Nat}{Q:Int×Int×Nat->Om->Prop}(hs:s.heap.IsSliceOf sl vl vu .none)(pl:UM vl lo)(pu:UM vu hi)
  (h:Q (((sIx n 0 lo:Nat):Int),1,sIx n n hi-sIx n 0 lo) s):OJ (OM prog w) A (TD (.ref sl) (Qm (n:Int))) Q E s:=by
 obtain⟨os,hos,hcs,hds⟩:=id hs;unfold TD Pa.Slice.sliceFields;refine Oj (Oj (Qx hos hds (x:=vl) Z (Oj (Qx hos hds (x:=vu) Z (Oj (Qx hos hds (x:=.none) Z (OC ?_)))))));refine Oj (slicePart_none ?_);show OJ _ _ (if((1:Int)==0)=true then _ else _) _ _ s;rw[if_neg (by decide)];refine Oj (lh pl (Oj (lh pu (Oj (OC ?_)))));show OJ _ _ (match Sg lo hi 1 (n:Int) with | (lo,hi)=>Qm (lo,(1:Int),Rg lo hi 1)) _ _ s;rw[tK lo hi n];show OJ _ _ (Qm (((sIx n 0 lo:Nat):Int),(1:Int),Rg ((sIx n 0 lo:Nat):Int) ((sIx n n hi:Nat):Int) 1)) _ _ s;rw[sI];exact OC h
theorem zK(xs:Array Value)(i k:Nat):((Og k).filterMap λ(m:Nat)=>xs[((i:Int)+(m:Int)*1).toNat]?).toArray=((xs.toList.drop i).take k).toArray:=by
 have e:(λ(m:Nat)=>xs[((i:Int)+(m:Int)*1).toNat]?)=λm=>xs[i+m]?:=by
  funext m
  have:((i:Int)+(m:Int)*1).toNat=i+m:=by omega
  rw[this]
 rw[e];have:=pick_run xs i k;rw[List.filterMap_map] at this;have e2:((λx=>xs[x]?)∘λx=>i+x)=λm=>xs[i+m]?:=Z
 rw[e2] at this;rw[this]
theorem getItem_tuple_cut{t sl:Addr}{items:Array Value}{vl vu:Value}{lo hi:Option Int}{Q:Value->Om->Prop}(ht:W4 s.heap t items)(hs:s.heap.IsSliceOf sl vl vu .none)(pl:UM vl lo)(pu:UM vu hi)
  (hw:¬(sIx items.size 0 lo=0/\sIx items.size items.size hi=items.size))
  (h:Q (.ref s.heap.objs.size) { s with heap:=s.heap.push { cls:=.type "tuple",data:=.seq ((items.toList.drop (sIx items.size 0 lo)).take (sIx items.size items.size hi-sIx items.size 0 lo)).toArray} })
  (hsz:items.size≤sizeLine):OJ (OM prog w) A (Tk (.ref t) (.ref sl)) Q E s:=by
 have htake:sizeOk (.seq ((items.toList.drop (sIx items.size 0 lo)).take (sIx items.size items.size hi-sIx items.size 0 lo)).toArray):=by
  show((items.toList.drop (sIx items.size 0 lo)).take (sIx items.size items.size hi-sIx items.size 0 lo)).toArray.size≤sizeLine;rw[OY,PX,RG,Qv];omega
 have hj:sIx items.size items.size hi≤items.size:=Ft _ _ (Oi _) hi;obtain⟨os,hos,hcs,hds⟩:=id hs;have hTs:s.TypeIs (.ref sl) "slice" := ⟨os,hos,hcs⟩;unfold Tk
 try with_reducible refine wpAny_holding ?_
 first|refine Oj (OC ?_)|skip
 refine Oj (V9 ht.typeIs (by decide) ?_);refine Oj (Qi (name:=Pb "__getitem__") ht.typeIs PH (Q9 PH ht.typeIs Vu ?_ (VP _ _)))
 show OJ _ _ (TF (.ref t) >>= _) _ _ s;refine Oj (tupleItemsOf_ ht ?_);refine Oj (UN hTs ?_);rw[if_pos (by decide)];refine Oj (f6 hs pl pu ?_);have hno:¬((((sIx items.size 0 lo:Nat):Int)==0&&(1:Int)==1&&(sIx items.size items.size hi-sIx items.size 0 lo)==items.size)=true):=by
  intro q;rw[OA,OA] at q;have q1:((sIx items.size 0 lo:Nat):Int)=0:=Tt q.1.1;have q2:sIx items.size items.size hi-sIx items.size 0 lo=items.size:=Tt q.2;exact hw ⟨by omega,by omega⟩
 show OJ _ _ (if(((sIx items.size 0 lo:Nat):Int)==0&&(1:Int)==1&&(sIx items.size items.size hi-sIx items.size 0 lo)==items.size)=true then _ else _) _ _ s;rw[if_neg hno,zK]
 first
  |exact Oj (m:=Qc _) (PD (OC ⟨_,rfl,OC h⟩) htake)
  |exact Oj (m:=Qc _) (PD (Oj (OC (OC ⟨_,rfl,OC h⟩))) htake)
  |exact Oj (Oj (m:=Qc _) (PD (OC (OC ⟨_,rfl,OC h⟩)) htake))
  |exact Oj (Oj (m:=Qc _) (PD (OC ⟨_,rfl,OC h⟩) htake))
end
end HT
namespace L2
open PySem PySem.Spec PyProof.Rows
abbrev TO:=St->Hp->(Option Int->Hp->Prop)->Prop
def PO(X:Cx)(e:Option O3)(t:TO):Prop:=
 ∀(pins:List (Addr×P0)) (s:Om) (σ:St) (H:Hp) (Q:Option Int->Hp->Prop),Inv X pins σ H s->t σ H Q→
  OJ (OM X.prog X.w) X.A (evalPart e X.env) (λu s'=>∃o H',Inv X pins σ H' s'/\UM u o/\Q o H') X.xe s
def JW:TO:=λ_ H Q=>Q none H
def DN(t:TE):TO:=λσ H Q=>t σ H λx H1=>∃i,x=.int i/\Q (some i) H1
section
variable {X:Cx}{e:O3}{te:TE}{lo hi:Option O3}{tl th:TO}{pos p2:R1}
theorem Cy(h:PE X e te):PO X (some e) (DN te):=by
 intro pins s σ H Q I hw;rw[evalPart_some];refine bK (h pins s σ H _ I hw) λu s1 ⟨x,H1,I1,r1,q1⟩=>?_
 obtain⟨i,rfl,q⟩:=q1;obtain⟨t,rfl⟩:=r1;exact⟨some i,H1,I1,.int i t,q⟩
def Bl(X:Cx)(r:V->Option Int->Option Int->Hp->VK->Prop):Prop:=
 ∀(pins:List (Addr×P0)) (s:Om) (σ:St) (H:Hp) (x:V) (v vl vu:Value) (lo hi:Option Int) (sl:Addr) (Q:VK),Inv X pins σ H s->aZ x v->s.heap.IsSliceOf sl vl vu .none->UM vl lo->UM vu hi->r x lo hi H Q→
  ∃T id,typeLookup (.type T) "__getitem__"=Qm (some (.builtin id))/\s.TypeIs v T/\OJ (OM X.prog X.w) X.A (Tk v (.ref sl)) (EP X pins σ Q) X.xe s
theorem Bl.or(h:Bl X r)(h':Bl X r'):Bl X (λx lo hi H Q=>r x lo hi H Q∨r' x lo hi H Q):=by
 intro pins s σ H x v vl vu lo hi sl Q I rx hs pl pu q;rcases q with q|q
 ·exact h pins s σ H x v vl vu lo hi sl Q I rx hs pl pu q
 ·exact h' pins s σ H x v vl vu lo hi sl Q I rx hs pl pu q
def Lr(r:V->Option Int->Option Int->Hp->VK->Prop)(te:TE)(tl th:TO):TE:=λσ H Q=>te σ H λx H1=>tl σ H1 λl H2=>th σ H2 λu H3=>r x l u H3 Q
theorem zP(hr:Bl X r)(he:PE X e te)(hl:PO X lo tl)(hu:PO X hi th):PE X (.Subscript e (.Slice lo hi none p2) pos) (Lr r te tl th):=by
 intro pins s σ H Q I h;refine Subscript_ (bK (he pins s σ H _ I h) λv s1 ⟨x,H1,I1,r1,q1⟩=>?_);refine wpAny_Slice (bK (hl pins s1 σ H1 _ I1 q1) λvl s2 ⟨l,H2,I2,pl,q2⟩=>bK (hu pins s2 σ H2 _ I2 q2) λvu s3 ⟨u,H3,I3,pu,q3⟩=>?_);rw[evalPart_none];refine OC ?_;have I4:Inv X pins σ H3 { s3 with heap:=s3.heap.push { cls:=.type "slice",data:=.fields #[vl,vu,.none]} }:=I3.kept (t':=s3.toks) λb ob q=>On _ q
 obtain⟨T,id,hT,ht,hg⟩:=hr pins { s3 with heap:=s3.heap.push { cls:=.type "slice",data:=.fields #[vl,vu,.none]} } σ H3 x v vl vu l u s3.heap.objs.size Q I4 r1 (Oy.IsSliceOf.new ..) pl pu q3;show OJ (OM X.prog X.w) X.A (subscriptTail e (.Slice lo hi none p2) v (.ref s3.heap.objs.size)) (EP X pins σ Q) X.xe { s3 with heap:=s3.heap.push { cls:=.type "slice",data:=.fields #[vl,vu,.none]} };exact tail_any (ops:=[.ref s3.heap.objs.size,v]) ht hT hg (by with_unfolding_all rfl)
def mT(xs:List V)(lo hi:Option Int):List V:=(xs.drop (HT.sIx xs.length 0 lo)).take (HT.sIx xs.length xs.length hi-HT.sIx xs.length 0 lo)
theorem qV(xs:List V)(lo hi:Option Int):(mT xs lo hi).length≤xs.length:=by
 unfold mT;rw[PX,RG];omega
def IJ(K:Of):V->Option Int->Option Int->Hp->VK->Prop:=λx lo hi H Q=>∃a xs,x=.ref a/\bu K H a xs∧
 ¬(HT.sIx xs.length 0 lo=0/\HT.sIx xs.length xs.length hi=xs.length)/\∀p,H p=none->Q (.ref p) (upd H p (.tup (mT xs lo hi)))
theorem ER:Bl X (IJ X.K):=by
 intro pins s σ H x v vl vu lo hi sl Q I rx hs pl pu h;obtain⟨a,xs,rfl,hx,hw,q⟩:=h
 cases rx
 obtain⟨its,r,ht,hz⟩:=I.tuple hx;have hlen:its.toArray.size=xs.length:=by rw[OY];exact r.length.symm
 refine⟨"tuple",_,PH.lookup,ht.typeIs,?_⟩;refine HT.getItem_tuple_cut ht hs pl pu (by rw[hlen];exact hw) ?_ (by rw[hlen];exact hz);rw[hlen];refine⟨.ref s.heap.objs.size,_,I.laid (t':=s.toks) (o:=.tup (mT xs lo hi)) (λb ob q=>On _ q) (Oi _) ?_,Z,q _ (I.hok.fresh (Oi _))⟩;exact⟨OS (qV xs lo hi) hz,_,(r.drop (HT.sIx xs.length 0 lo)).take (HT.sIx xs.length xs.length hi-HT.sIx xs.length 0 lo),WA _ _⟩
def MR(K:Of):R2:=λx y H Q=>∃a b ns ms,x=.ref a/\y=.ref b/\bu K H a (ns.map V.int)/\bu K H b (ms.map V.int)/\Q (.bl (HT.lexLt ns ms)) H
def LU(K:Of):R2:=λx y H Q=>∃a b xs ys,x=.ref a/\y=.ref b/\bu K H a xs/\bu K H b ys/\xs≠[]/\xs.length+ys.length≤sizeLine∧
 (ys=[]->Q (.ref a) H)/\(ys≠[]->∀p,H p=none->Q (.ref p) (upd H p (.tup (xs++ys))))
end
end L2
namespace L2
open PySem PySem.Spec PyProof.Rows
def Az(n:Nat)(i:Int):Option Nat:=if 0≤i then(if i<n then some i.toNat else none) else if -(n:Int)≤i then some (i+n).toNat else none
def rD{α:Type}(xs:List α)(i:Int):Option α:=(Az xs.length i).bind λj=>xs[j]?
theorem uN(h:Az n i=some j):XB i n=some j/\j<n/\-(n:Int)≤i/\i<n:=by
 unfold Az at h;by_cases h0:0≤i
 ·rw[if_pos h0] at h;by_cases h1:i<n
  ·rw[if_pos h1] at h;have e:i.toNat=j:=Pp h;exact⟨by rw[WP h0 h1,e],by omega,by omega,h1⟩
  ·rw[if_neg h1] at h;cases h
 ·rw[if_neg h0] at h;by_cases h1:-(n:Int)≤i
  ·rw[if_pos h1] at h;have e:(i+n).toNat=j:=Pp h;exact⟨by rw[Wa (by omega) h1,e],by omega,h1,by omega⟩
  ·rw[if_neg h1] at h;cases h
theorem u6{xs:List α}(h:rD xs i=some v):∃j,XB i xs.length=some j/\xs[j]?=some v/\j<xs.length/\-(xs.length:Int)≤i/\i<xs.length:=by
 unfold rD at h
 cases e:Az xs.length i with
 |none=>rw[e] at h;cases h
 |some j=>
  rw[e] at h;obtain⟨h1,h2,h3,h4⟩:=uN e;exact⟨j,h1,h,h2,h3,h4⟩
theorem bF{α:Type}{xs:List α}{j:Nat}{v:α}(h:xs[j]?=some v):rD xs (j:Int)=some v:=by
 have hj:j<xs.length:=(OH.mp h).1;have e:Az xs.length (j:Int)=some j:=by
  unfold Az;rw[if_pos (by omega),if_pos (by omega)];simp
 unfold rD;rw[e];exact h
theorem re(xs:List α)(v:α):rD (xs++[v]) (-1)=some v:=by
 have hl:(xs++[v]).length=xs.length+1:=by simp
 have e:Az (xs++[v]).length (-1)=some xs.length:=by
  unfold Az;rw[hl,if_neg (by decide),if_pos (by omega)]
  congr 1
  omega
 unfold rD;rw[e];show(xs++[v])[xs.length]?=some v;simp
def pT(b:O3):Prop:=∀o i,Vb b false o i=XH [o,i] (Tk o i)
def Hr(X:Cx)(r:R2):Prop:=
 ∀(value slice:O3) (pins:List (Addr×P0)) (s:Om) (σ:St) (H:Hp) (x y:V) (v u:Value) (Q:VK),Inv X pins σ H s->aZ x v->aZ y u->r x y H Q→
  Vb slice false v u=XH [v,u] (Tk v u)->OJ (OM X.prog X.w) X.A (subscriptTail value slice v u) (EP X pins σ Q) X.xe s
def Mg(X:Cx)(id:String)(r:V->List V->Hp->VK->Prop):Prop:=
 ∀(pins:List (Addr×P0)) (s:Om) (σ:St) (H:Hp) (x:V) (xs:List V) (v:Value) (us:List Value) (Q:VK),Inv X pins σ H s->aZ x v->bc xs us->r x xs H Q→
  OJ (OM X.prog X.w) X.A (call (.builtin id) (v::us)) (EP X pins σ Q) X.xe s
section
variable {X:Cx}{a b:O3}{ta tb:TE}{pos:R1}
theorem IZ(hr:Hr X r)(ha:PE X a ta)(hb:PE X b tb)(hs:pT b):PE X (.Subscript a b pos) (BJ r ta tb):=by
 intro pins s σ H Q I h;exact Subscript_ (Hh ha hb I h λv u s2 x y H2 I2 rx ry q=>hr a b pins s2 σ H2 x y v u Q I2 rx ry q (hs _ _))
def Fy(K:Of):R2:=λx y H Q=>∃p xs i v,x=.ref p/\y=.int i/\ba K H p xs/\rD xs i=some v/\Q v H
def Fx(K:Of):R2:=λx y H Q=>∃p xs i v,x=.ref p/\y=.int i/\bu K H p xs/\rD xs i=some v/\Q v H
def KK:R2:=λx y H Q=>∃z i c,x=.str z/\y=.int i/\z.length≤sizeLine/\rD z.cps.toList i=some c/\Q (.str ⟨#[c]⟩) H
theorem cF:Hr X (Fy X.K):=by
 intro value slice pins s σ H x y v u Q I rx ry h hs;obtain⟨p,xs,i,z,rfl,rfl,hq,he,q⟩:=h
 cases rx
 obtain⟨t,rfl⟩:=ry;obtain⟨its,r,pl,hz⟩:=I.list hq;obtain⟨j,h1,h2,h3,h4,h5⟩:=u6 he;obtain⟨w,ew,rw'⟩:=r.get h2;have hl:=r.length;have hn:=pq;have fin:EP X pins σ Q w s:=⟨z,H,I,rw',q⟩;by_cases h0:0≤i
 ·have hj:i.toNat=j:=by
   rw[WP h0 h5] at h1;exact Pp h1
  exact item_listR pl.isList h0 (by omega) (by rw[hj];simpa using ew) fin hs
 ·have hj:(i+(its.toArray.size:Int)).toNat=j:=by
   rw[Wa (by omega) h4] at h1;rw[OY,←hl];exact Pp h1
  exact UO (x:=w) pl.isList.typeIs slot_list_getitem.lookup
   (wpAny_getItem_list_neg (Q:=λr s'=>r=w/\EP X pins σ Q r s') pl.isList (by omega) (by rw[OY]<;>omega) (by omega) (by rw[hj];simpa using ew) ⟨Z,fin⟩) hs
theorem aJ:Hr X (Fx X.K):=by
 intro value slice pins s σ H x y v u Q I rx ry h hs;obtain⟨p,xs,i,z,rfl,rfl,hq,he,q⟩:=h
 cases rx
 obtain⟨t,rfl⟩:=ry;obtain⟨its,r,pl,hz⟩:=I.tuple hq;obtain⟨j,h1,h2,h3,h4,h5⟩:=u6 he;obtain⟨w,ew,rw'⟩:=r.get h2;have hl:=r.length;have hn:=pq;have fin:EP X pins σ Q w s:=⟨z,H,I,rw',q⟩;exact UO (x:=w) pl.typeIs slot_tuple_getitem.lookup
  (getItem_tuple (j:=j) (Q:=λr s'=>r=w/\EP X pins σ Q r s') pl (by omega) (by omega) (by rw[OY,←hl];exact h1) (by simpa using ew) ⟨Z,fin⟩) hs
def NN(K:Of):R2:=λx y H Q=>Fy K x y H Q∨Fx K x y H Q∨KK x y H Q
theorem sR(its:List Value)(n j:Nat)(u:Value):UP (·.setIfInBounds j u) { cls:=.type "list",data:=.seq its.toArray n}={ cls:=.type "list",data:=.seq (its.set j u).toArray n}:=by
 simp[UP]
theorem Inv.lst{pins:List (Addr×P0)}{σ:St}{H:Hp}{s:Om}{p:Addr}{xs:List V}(I:Inv X pins σ H s)(h:H p=some (.lst xs)) :
  ∃(its:List Value) (n:Nat),bc xs its/\s.heap.get? p=some { cls:=.type "list",data:=.seq its.toArray n}/\xs.length≤sizeLine:=by
 obtain⟨z,its,n,r,e⟩:=I.hok p _ h;exact⟨its,n,r,e,z⟩
theorem Inv.lstUpd{pins:List (Addr×P0)}{σ:St}{H:Hp}{s:Om}{p:Addr}{xs ys:List V}{its its':List Value}{n n':Nat}{f:P0->P0}(I:Inv X pins σ H s)(h:H p=some (.lst xs))
  (ho:s.heap.get? p=some { cls:=.type "list",data:=.seq its.toArray n}) (hf:f { cls:=.type "list",data:=.seq its.toArray n}={ cls:=.type "list",data:=.seq its'.toArray n'}) (r:bc ys its') (hz:ys.length≤sizeLine) (t:Nat) :
  Inv X pins σ (upd H p (.lst ys)) { s with heap:=s.heap.update p f,toks:=t}:=by
 have e:(s.heap.update p f).get? p=some { cls:=.type "list",data:=.seq its'.toArray n'}:=by
  rw[QD f ho (by rw[hf]<;>rfl),hf]
 refine I.write (x:=p) (e:=p) (by rw[h];trivial) (.inl Z) (λb u hb q=>(Pg _ _ (Rw hb)).trans q) ⟨_,e⟩ ?_;exact⟨hz,its',n',r,e⟩
def IK:V->V->V->Hp->(Hp->Prop)->Prop:=λo i v H Q=>∃p xs k j,o=.ref p/\i=.int k/\H p=some (.lst xs)/\Az xs.length k=some j/\Q (upd H p (.lst (xs.set j v)))
theorem iZ:Ho X IK:=by
 intro pins s σ H o i v ov iv u Q I ro ri rv h;obtain⟨p,xs,k,j,rfl,rfl,hp,hj,q⟩:=h
 cases ro
 obtain⟨t,rfl⟩:=ri;obtain⟨its,n,r,ho,hz⟩:=I.lst hp;obtain⟨h1,h2,h3,h4⟩:=uN hj;have hl:=r.length;have hn:=pq;have I':Inv X pins σ (upd H p (.lst (xs.set j v))) { s with heap:=s.heap.update p (UP (·.setIfInBounds j u))}:=
  I.lstUpd hp ho (sR its n j u) (r.set rv j) (by rw[Qy];exact hz) s.toks
 by_cases h0:0≤k
 ·have hk:k.toNat=j:=by
   rw[WP h0 h4] at h1;exact Pp h1
  exact PySem.W.ki_setAt ho h0 (by omega) (by rw[OY,←hl];exact h4) (by rw[hk];exact⟨_,I',q⟩)
 ·have hk:(k+(its.toArray.size:Int)).toNat=j:=by
   rw[Wa (by omega) h3] at h1;rw[OY,←hl];exact Pp h1
  exact PySem.W.ki_setBack ho (by omega) (by rw[OY,←hl];exact h3) (by omega) (by rw[hk];exact⟨_,I',q⟩)
def MN(K:Of):V->Option Int->Option Int->Hp->VK->Prop:=λx lo hi H Q=>∃a xs,x=.ref a/\ba K H a xs/\∀p,H p=none->Q (.ref p) (upd H p (.lst (mT xs lo hi)))
def jg:V->Bool
 | .non=>true
 | .bl _=>true
 | .int _=>true
 | .str _=>true
 |_=>false
def Er:V->V->Bool
 | .non,.non=>true
 | .bl a,.bl b=>a==b
 | .bl a,.int b=>(if a then 1 else 0)==b
 | .int a,.bl b=>a==(if b then 1 else 0)
 | .int a,.int b=>a==b
 | .str a,.str b=>a==b
 |_,_=>false
theorem G8(ry:aZ y u)(rx:aZ x v)(fy:jg y=true)(fx:jg x=true):PU A s u v (Er y x):=by
 cases y with
 |non=>
  cases ry
  cases x with
  |non=>cases rx;exact PU.same _
  |bl b=>cases rx;exact PU.none_bool b
  |int b=>obtain⟨t,rfl⟩:=rx;exact PU.none_int b t
  |str b=>obtain⟨t,rfl⟩:=rx;exact PU.none_str b t
  |_=>exact absurd (show false=true from fx) OK
 |bl a=>
  cases ry
  cases x with
  |non=>cases rx;exact PU.bool_none a
  |bl b=>cases rx;exact PU.bool_bool a b
  |int b=>obtain⟨t,rfl⟩:=rx;exact PU.bool_int a b t
  |str b=>obtain⟨t,rfl⟩:=rx;exact PU.bool_str a b t
  |_=>exact absurd (show false=true from fx) OK
 |int a=>
  obtain⟨t',rfl⟩:=ry
  cases x with
  |non=>cases rx;exact PU.int_none a t'
  |bl b=>cases rx;exact PU.int_bool a t' b
  |int b=>obtain⟨t,rfl⟩:=rx;exact PU.int_int a t' b t
  |str b=>obtain⟨t,rfl⟩:=rx;exact VJ a t' b t
  |_=>exact absurd (show false=true from fx) OK
 |str a=>
  obtain⟨t',rfl⟩:=ry
  cases x with
  |non=>cases rx;exact PU.str_none a t'
  |bl b=>cases rx;exact PU.str_bool a t' b
  |int b=>obtain⟨t,rfl⟩:=rx;exact VL a t' b t
  |str b=>obtain⟨t,rfl⟩:=rx;exact PU.str_str a t' b t
  |_=>exact absurd (show false=true from fx) OK
 |_=>exact absurd (show false=true from fy) OK
def Dg(x:V)(u:Value):Bool:=match u with
 | .none=>Er .non x
 | .bool b=>Er (.bl b) x
 | .int i _=>Er (.int i) x
 | .str z _=>Er (.str z) x
 |_=>false
theorem AW(r:aZ y u)(f:jg y=true):Dg x u=Er y x:=by
 cases y with
 |non=>cases r;rfl
 |bl b=>cases r;rfl
 |int i=>obtain⟨t,rfl⟩:=r;rfl
 |str z=>obtain⟨t,rfl⟩:=r;rfl
 |_=>exact absurd (show false=true from f) OK
theorem pS{x:V}:∀{xs:List V} {us:List Value},bc xs us->xs.all jg=true->us.any (Dg x)=xs.any λy=>Er y x
 |_,_,.nil,_=>rfl
 |y::xs,u::us,.cons r t,f=>by
  rw[Xs,OA] at f;rw[Q7,Q7,AW r f.1,pS t f.2]
theorem lX{A:O5}{s:Om}{x:V}{v:Value}(rx:aZ x v)(fx:jg x=true):∀{xs:List V} {us:List Value},bc xs us->xs.all jg=true->∀u∈us,PU A s u v (Dg x u)
 |_,_,.nil,_=>λu hu=>by cases hu
 |y::xs,u::us,.cons r t,f=>λu' hu=>by
  rw[Xs,OA] at f;rcases Ov.mp hu with rfl|hu
  ·rw[AW r f.1];exact G8 r rx f.1 fx
  ·exact lX rx fx t f.2 u' hu
def G2(x:V)(xs:List V):Bool:=xs.any λy=>Er y x
def LR(K:Of)(neg:Bool):R2:=λx y H Q=>∃p xs,y=.ref p/\(ba K H p xs∨bu K H p xs)/\jg x=true/\xs.all jg=true/\Q (.bl (if neg then !G2 x xs else G2 x xs)) H
theorem o4:gh X (Pz .NotIn) (LR X.K true):=by
 intro pins s σ H x y v u Q I rx ry h;obtain⟨p,xs,rfl,hq,fx,fs,q⟩:=h
 cases ry
 rcases hq with hq|hq
 ·obtain⟨its,r,pl,hz⟩:=I.list hq;refine SeqAt.notIn_listAt (Dg x) pl.isList (λw hw=>lX rx fx r fs w (by simpa using hw)) ⟨.bl _,H,I,Z,?_⟩;rw[show its.toArray.any (Dg x)=its.any (Dg x) by simp,pS r fs];exact q
 ·obtain⟨its,r,pl,hz⟩:=I.tuple hq;refine SeqAt.notIn_tupleAt (Dg x) pl (λw hw=>lX rx fx r fs w (by simpa using hw)) ⟨.bl _,H,I,Z,?_⟩;rw[show its.toArray.any (Dg x)=its.any (Dg x) by simp,pS r fs];exact q
theorem aS:df X (.builtin "len") (λxs H Q=>∃p ys,xs=[.ref p]/\(ba X.K H p ys∨bu X.K H p ys)/\Q (.int ys.length) H):=by
 intro pins s σ H xs us Q I r h;obtain⟨p,ys,rfl,hq,q⟩:=h;obtain⟨u,rfl,rx⟩:=gE r
 cases rx
 have hn:=pq;rcases hq with hq|hq
 ·obtain⟨its,r',pl,hz⟩:=I.list hq;have hlen:=r'.length;exact Calls.call_len_list pl.isList (by simp only[OY]<;>omega) ⟨.int ys.length,H,I.tok _,⟨s.toks+1,by rw[OY,hlen]⟩,q⟩
 ·obtain⟨its,r',pl,hz⟩:=I.tuple hq;have hlen:=r'.length;exact len_tuple pl (by simp only[OY]<;>omega) ⟨.int ys.length,H,I.tok _,⟨s.toks+1,by rw[OY,hlen]⟩,q⟩
theorem bx:df X (.type "tuple") (λxs H Q=>∃p ys,xs=[.ref p]/\((ba X.K H p ys/\∀l,H l=none->Q (.ref l) (upd H l (.tup ys)))∨(bu X.K H p ys/\Q (.ref p) H))):=by
 intro pins s σ H xs us Q I r h;obtain⟨p,ys,rfl,h⟩:=h;obtain⟨u,rfl,rx⟩:=gE r
 cases rx
 rcases h with⟨hq,q⟩ | ⟨hq,q⟩
 ·obtain⟨its,r',pl,hz⟩:=I.list hq;have hlen:=r'.length;refine call_tuple_list pl.isList (λh' kp=>?_) (by simp only[OY]<;>omega);have I1:Inv X pins σ H { s with heap:=h'}:=I.kept (t':=s.toks) kp;have I2:Inv X pins σ (upd H h'.objs.size (.tup ys)) { s with heap:=h'.push { cls:=.type "tuple",data:=.seq its.toArray} }:=
   I1.laid (t':=s.toks) (λb o e=>On _ e) (Oi _) (show ObjOk X.prog X.w _ _ _ (.tup ys) from⟨hz,its,r',WA _ _⟩)
  exact⟨.ref h'.objs.size,_,I2,Z,q _ (I1.hok.fresh (Oi _))⟩
 ·obtain⟨its,r',pl,hz⟩:=I.tuple hq;exact call_tuple_same pl ⟨.ref p,H,I,Z,q⟩
def Kw(K:Of)(T:String)(x:V)(H:Hp):Prop:=match x with
 | .str _=>T = "str"
 | .int _=>T = "int"
 | .ref p=>(T = "list"/\∃xs,ba K H p xs)∨(T = "tuple"/\∃o,K.lookup p=some o/\o.cls=.type "tuple"/\o.dict=none)∨
   (T = "dict"/\((∃kvs,H p=some (.dK kvs))∨∃kvs,H p=some (.dT kvs)))∨(T = "set"/\∃S n,H p=some (.set S n))
 |_=>False
theorem ED{pins:List (Addr×P0)}{σ:St}{H:Hp}{s:Om}{T:String}{x:V}{v:Value}(I:Inv X pins σ H s)(r:aZ x v)(ty:Kw X.K T x H) :
  s.TypeIs v T/\∀a,v=.ref a->∃ob,s.heap.get? a=some ob/\ob.dict=none:=by
 cases x with
 |str z=>
  obtain⟨t,rfl⟩:=r
  cases(show T = "str" from ty)
  exact⟨typeIs_str s z t,λ_ e=>nomatch e⟩
 |int i=>
  obtain⟨t,rfl⟩:=r
  cases(show T = "int" from ty)
  exact⟨Xf s i t,λ_ e=>nomatch e⟩
 |ref p=>
  cases r
  rcases ty with⟨rfl,xs,hq⟩ | ⟨rfl,o,hk,hc,hd⟩ | ⟨rfl,hk⟩ | ⟨rfl,S,n,hk⟩
  ·obtain⟨its,_,pl,_⟩:=I.list hq;refine⟨pl.isList.typeIs,λa e=>?_⟩
   cases e
   obtain⟨o,n,e,c,hd,_⟩:=pl;exact⟨o,e,hd⟩
  ·refine⟨⟨o,I.kIn p o hk,hc⟩,λa e=>?_⟩
   cases e
   exact⟨o,I.kIn _ o hk,hd⟩
  ·have z:∃o,s.heap.get? p=some o/\o.ExactDict:=by
    rcases hk with⟨kvs,hk⟩ | ⟨kvs,hk⟩
    ·obtain⟨_,_,_,_,o,_,_,e,ex,_⟩:=I.hok p _ hk;exact⟨o,e,ex⟩
    ·obtain⟨_,_,_,_,o,_,_,e,ex,_⟩:=I.hok p _ hk;exact⟨o,e,ex⟩
   obtain⟨o,e,ex⟩:=z;refine⟨⟨o,e,ex.1⟩,λa e2=>?_⟩
   cases e2
   exact⟨o,e,ex.2.1⟩
  ·obtain⟨o,_,_,_,e,ex,_⟩:=I.hok p _ hk;refine⟨⟨o,e,ex.1⟩,λa e2=>?_⟩
   cases e2
   exact⟨o,e,ex.2.1⟩
 |_=>exact P6 ty
def MG(K:Of)(T:String)(r:V->List V->Hp->VK->Prop)(to:TE):TE:=λσ H Q=>to σ H λx H1=>Kw K T x H1/\r x [] H1 Q
def LE(K:Of)(T:String)(r:V->List V->Hp->VK->Prop)(to:TE)(t:TA):TE:=λσ H Q=>to σ H λx H1=>Kw K T x H1/\t σ H1 λxs H2=>r x xs H2 Q
variable {o e:O3}{es:List O3}{to:TE}{t:TA}{name:OV}{apos cpos:R1}{T id:String}{r:V->List V->Hp->VK->Prop}
theorem I0(pa:PlainAttrs T)(slot:Slot T name id)(hty:typeOf (.builtin id)=Qm (.type "method_descriptor"))(hm:Mg X id r)(ho:PE X o to)(ha:PA X (e::es) t)
  (hbase:Q6 o name X.env (eval o X.env)=eval o X.env:=by rfl)
  (hfew:((QZ cpos (Oz (e::es) X.env)).all (λx=>!x.1)&&(S1 cpos (RH [] X.env)).all (λx=>x.1.isSome)
  &&decide ((e::es).length+([]:List Tn).length+(if([]:List Tn).isEmpty then 0 else 1)<30))=true:=by rfl)
  (hline:(apos.endLine==cpos.line)=true:=by rfl) (hs:Oz (e::es) X.env=(false,eval e X.env)::Oz es X.env:=by rfl) (hplain:(QZ cpos (Oz es X.env)).any (·.1)=false:=by rfl) :
  PE X (.Call (.Attribute o name apos) (e::es) [] cpos) (LE X.K T r to t):=by
 intro pins s σ H Q I h;refine wpAny_Call_method_late hbase hfew hline Z (bK (ho pins s σ H _ I h) λv s1 ⟨x,H1,I1,r1,ty,q1⟩=>?_);obtain⟨h1,h2⟩:=ED I1 r1 ty;refine⟨T,id,pa,slot,hty,h1,h2,?_⟩;have hA:=ha cpos pins s1 σ H1 _ I1 q1;rw[hs] at hA ⊢;refine Calls.callWith_builtin (by show(false||(QZ cpos (Oz es X.env)).any (·.1))=false;rw[hplain]<;>rfl) (Calls.evalArgs_plain ?_);exact bK hA λus s2 ⟨vs,H2,I2,r2,q2⟩=>hm pins s2 σ H2 x vs v us Q I2 r1 r2 q2
end
end L2
namespace L2
open PySem PySem.Spec PyProof.Rows
def Mh(X:Cx)(id:String)(r:V->List V->Hp->VK->Prop):Prop:=
 ∀(pins:List (Addr×P0)) (s:Om) (σ:St) (H:Hp) (x:V) (xs:List V) (v:Value) (us:List Value) (Q:VK),Inv X pins σ H s->aZ x v->bc xs us->r x xs H Q→
  OJ (OM X.prog X.w) X.A (call (.builtin id) (v::us)) (EP X pins σ Q) X.xe s
theorem bc.one:∀{x:V} {us:List Value},bc [x] us->∃u,us=[u]/\aZ x u
 |_,_,.cons r .nil=>⟨_,Z,r⟩
theorem bc.eraseIdx:∀{xs:List V} {us:List Value} (i:Nat),bc xs us->bc (xs.eraseIdx i) (us.eraseIdx i)
 |_,_,_,.nil=>.nil
 |_,_,0,.cons _ t=>t
 |_,_,i+1,.cons r t=>.cons r (bc.eraseIdx i t)
section
variable {X:Cx}{pins:List (Addr×P0)}{σ:St}{H:Hp}{s:Om}{l b:Addr}{xs ys zs:List V}
theorem Inv.lset{its its':List Value}(I:Inv X pins σ H s)(hH:H l=some (.lst xs))
  (e:s.heap.get? l=some { cls:=.type "list",data:=.seq its.toArray n}) (hf:f its.toArray=its'.toArray) (hv:bc ys its') (hz:ys.length≤sizeLine):
  Inv X pins σ (upd H l (.lst ys)) { s with heap:=s.heap.update l (UP f),toks:=t'}:=by
 have q:=PySem.IsL.update e f;rw[hf] at q;refine I.write (x:=l) (e:=l) (by rw[hH];exact trivial) (.inl Z) (λb' u hb hu=>(Pg s.heap (UP f) (Rw hb)).trans hu) ⟨_,q⟩ ?_;exact⟨hz,its',_,hv,q⟩
theorem Inv.lnew(I:Inv X pins σ H s)(hv:bc ys its)(hz:ys.length≤sizeLine):
  Inv X pins σ (upd H s.heap.objs.size (.lst ys)) { s with heap:=s.heap.push { cls:=.type "list",data:=.seq its.toArray},toks:=t'}:=
 I.laid (λ_ _ q=>On _ q) (Oi _) ⟨hz,its,0,hv,OO _ Z⟩
theorem Inv.fresh(I:Inv X pins σ H s):H s.heap.objs.size=none:=I.hok.fresh (Oi _)
theorem Inv.lstM(I:Inv X pins σ H s)(hH:H l=some (.lst xs)):xs.length≤sizeLine/\∃(its:List Value) (n:Nat),bc xs its/\xs.length=its.length/\s.heap.get? l=some { cls:=.type "list",data:=.seq its.toArray n}:=by
 obtain⟨z,its,n,r,e⟩:=I.hok l _ hH;exact⟨z,its,n,r,r.length,e⟩
end
section
variable {X:Cx}
def Ci:V->List V->Hp->VK->Prop:=λx vs H Q=>∃l xs y,x=.ref l/\vs=[y]/\H l=some (.lst xs)/\xs.length<sizeLine/\Q .non (upd H l (.lst (xs++[y])))
theorem bV:Mh X "list.append" Ci:=by
 intro pins s σ H x vs v us Q I rx rv h;obtain⟨l,xs,y,rfl,rfl,hH,hz,q⟩:=h
 cases rx
 obtain⟨u,rfl,ru⟩:=rv.one;obtain⟨z,its,n,r,hl,e⟩:=I.lstM hH;refine VQ F.slot_list_append ⟨_,e,Z⟩ F.entry_list_append (F.args_list_append_2 _ _) (PySem.list_append l its.toArray n u (by rw[OY];omega)) ⟨e,?_⟩;refine⟨.non,_,I.lset (its':=its++[u]) hH e (by simp) (r.append (.cons ru .nil)) ?_,Z,q⟩;rw[OQ,R4];omega
def Kc:V->List V->Hp->VK->Prop:=λx vs H Q=>∃l b xs zs,x=.ref l/\vs=[.ref b]/\H l=some (.lst xs)/\H b=some (.lst zs)/\xs.length+zs.length≤sizeLine/\Q .non (upd H l (.lst (xs++zs)))
def MP:V->List V->Hp->VK->Prop:=λx vs H Q=>∃l xs y,x=.ref l/\vs=[]/\H l=some (.lst xs)/\xs[xs.length-1]?=some y/\Q y (upd H l (.lst xs.dropLast))
def KI:V->List V->Hp->VK->Prop:=λx vs H Q=>∃l xs i k y,x=.ref l/\vs=[.int i]/\H l=some (.lst xs)/\-(2^63)≤i/\i<2^63/\XB i xs.length=some k/\xs[k]?=some y/\Q y (upd H l (.lst (xs.eraseIdx k)))
def IL:V->List V->Hp->VK->Prop:=λx vs H Q=>∃l xs,x=.ref l/\vs=[]/\H l=some (.lst xs)/\Q .non (upd H l (.lst xs.reverse))
def KO:V->List V->Hp->VK->Prop:=λx vs H Q=>∃l xs,x=.ref l/\vs=[]/\H l=some (.lst xs)/\Q .non (upd H l (.lst []))
def KP:R2:=λx y H Q=>∃l b xs zs,x=.ref l/\y=.ref b/\H l=some (.lst xs)/\H b=some (.lst zs)/\xs.length+zs.length≤sizeLine/\∀p,H p=none->Q (.ref p) (upd H p (.lst (xs++zs)))
theorem o5:gh X (RE .Add) KP:=by
 intro pins s σ H x y v u Q I rx ry h;obtain⟨l,b,xs,zs,rfl,rfl,hH,hB,hz,q⟩:=h
 cases rx
 cases ry
 obtain⟨z,its,n,r,hl,e⟩:=I.lstM hH;obtain⟨z2,its2,n2,r2,hl2,e2⟩:=I.lstM hB;refine PySem.P.add_list e e2 ?_ (by rw[OY,OY];omega);have ea:its.toArray++its2.toArray=(its++its2).toArray:=by simp
 rw[ea];exact⟨.ref _,_,I.lnew (t':=s.toks) (r.append r2) (by rw[OQ];omega),Z,q _ I.fresh⟩
def MO:R2:=λx y H Q=>∃l k xs,x=.ref l/\y=.int k/\H l=some (.lst xs)/\-(2^63)≤k/\k<2^63/\xs.length*k.toNat≤sizeLine∧
 ∀p,H p=none->Q (.ref p) (upd H p (.lst (Ou k.toNat xs).flatten))
end
section
variable {prog:O0}{w:Pk}{A:O5}{E:Value->Om->Prop}{s:Om}
end
section
variable {X:Cx}
end
end L2
namespace Att
open PySem PySem.W PySem.Calls PyProof.Rows
theorem kg:∀(ns:List Int) (vs:List Value),WellAll P h vs (ns.map WData.int)->Vp vs ns:=by
 intro ns
 induction ns with
 |nil=>
  intro vs w;rw[List.map_nil] at w
  cases w
  exact .nil
 |cons n ns ih=>
  intro vs w;rw[O1] at w
  cases w with
  |cons a b=>
   cases a
   exact .cons _ _ (ih _ b)
theorem vH{l:OpenLaw}(hn:l.most=some n){h:Oy} 
  (hpre:l.row.toRowW.claim.pre args=true) (hwl:WellAll P h vals args):
  ∃a vs ns,vals=[OP a]/\args=[WData.list (ns.map WData.int)]/\h.get? a=some { cls:=.type "list",data:=.seq vs.toArray}/\Vp vs ns/\ns.length≤n:=by
 have hsh:WShape.hasAll [] args [.list .int]=true:=(pre_splitW hpre).1;have hc:l.pre.holds [] { args:=args}=true:=(pre_splitW hpre).2;obtain⟨d,r,rfl,h1,h2⟩:=hasAllW_cons hsh;obtain rfl:=hasAllW_nil h2;obtain⟨xs,rfl,h3⟩:=hasW_list h1;obtain⟨ns,rfl⟩:=items_int h3;have hlen:ns.length≤n:=by
  unfold OpenLaw.pre at hc;have h4:(WTm.not (.lt (.lit (.int (n:Int))) (.len (.arg 0)))).holds [] { args:=[.list (ns.map .int)]}=true:=by
   have h4:=(holds_andW hc).1;rw[hn] at h4;exact h4
  have h5:=condW_of h4 (w_not (w_lt w_lit (w_len_list (w_arg Z))));rw[Ol] at h5;refine Nat.le_of_not_lt λq=>?_
  have q':(n:Int)<((ns.length:Nat):Int):=by omega
  first
   | (rw[decide_eq_true q'] at h5;exact absurd h5 (by decide))
   | (simp at h5;omega)
 cases hwl with
 |cons w1 w2=>
  cases w2
  cases w1 with
  |list ho hall=>exact⟨_,_,ns,Z,Z,ho,kg ns _ hall,hlen⟩
theorem vS(l:OpenLaw)(args:List WData):l.row.toRowW.claim.post args (.bool true) args=true:=
 postW_of (r:=l.row.toRowW) (X:=(true==true))
  (show WShape.has [] (.bool true) .bool=true by first|rfl|decide|simp[WShape.has,WShape.arms,WShape.armsAll])
  (show(WTm.eq .res (.lit (.bool true))).value [] { args:=args,res:=some (.bool true),after:=args}=some (.bool (true==true)) from w_eq_bool (w_res Z) w_lit) Z
theorem attach_call{l:OpenLaw}{d:DefRec}
  (hn:l.most=some n) (hdf:d.params.defaults=[])
  (call:∀(w:Pk) (s₀ s₁:Om) (mg mb:OV->Option Value) (fa:Addr) (o:P0) (pm cd doc:Value) (a:Addr) (vs:List Value) (ns:List Int),
   Ground q loose [] XP w s₀ mg mb s₁.heap->YP w s₁.heap→
   s₁.heap.get? fa=some o->o.data=.func (docDef d.name d.params d.body d.scope pm cd doc)->s₁.heap.CodeRec cd d.name->mg d.name=some (.ref fa)→
   s₁.heap.get? a=some { cls:=.type "list",data:=.seq vs.toArray}->Vp vs ns->ns.length≤n->s₁.gens=#[]→
   Ro (OM l.prog w) Vq (.call (.ref fa) ⟨[.ref a],[]⟩) (λr s'=>r=.ok (.ret (.bool true))/\OldK s₁.heap s'.heap/\s'.os=s₁.os/\SY s'.gens) s₁):
  WalkO q loose XP YP l.row.toRowW d [] (λf vs=>Xg f vs):=by
 intro w s₀ s₁ mg mb G Y fa o pm cd doc dV kV ho hd hcd hD hmg hg args vals as hpre hlay hrd hwl hlo;obtain rfl:dV=.none:=Dflts.none hD hdf;obtain rfl:kV=.none:=Dflts.noKw hD;obtain⟨a,vs,ns,rfl,rfl,hobj,hints,hlen⟩:=vH hn hpre hwl;refine enter_call (SE (call w s₀ s₁ mg mb fa o pm cd doc a vs ns G Y ho (fd_plain hd) hcd hmg hobj hints hlen hg) λr s' hq=>?_);obtain⟨rfl,h2,h3,h4⟩:=hq;exact⟨.inl ⟨.bool true,.bool true,[],Z,λ_=>Z,.bool true,vS l _,λ_=>⟨RZ.nil,λ_ hm=>(nomatch hm)⟩⟩,h2,h3,h4⟩
section
variable {prog:O0}{w:Pk}{A:O5}{E:Value->Om->Prop}{s:Om}{K:Frag}
def KU(h:Oy):Oy:={ h with objs:=#[]}
def KW(h:Oy)(L d:Addr):List (Addr×P0):=(Og h.objs.size).filterMap λa=>if a=L∨a=d then none else(h.get? a).map λo=>(a,o)
end
end Att
namespace L2
open PySem PySem.Spec PyProof.Rows
theorem mY:∀{vs:List Value} {ns:List Int},Vp vs ns->bc (ns.map V.int) vs
 |_,_,.nil=>.nil
 |_,_,.cons n t h=>.cons ⟨t,Z⟩ (mY h)
def Hq(H:Hp):Prop:=∀b,H b=none∨∃o xs,H b=some (.frz o (.lst xs))
theorem Aw{K:Of}{s₁:Om}{vs:List Value}{ns:List Int}
  (KX:K.In s₁.heap) (hns:s₁.heap.Ns OR mg) (hb:s₁.heap.Ns W5 mb) (hbb:∀x:OV,x ≠ "__name__"->mb x=QM x) (hlim:s₁.heap.NoLimit) (hg:s₁.gens=#[])
  (ha:s₁.heap.get? a=some { cls:=.type "list",data:=.seq vs.toArray}) (hi:Vp vs ns) (hl:ns.length≤sizeLine) (hr:cT k Vq)
  (F:∀base:Oy,K.In base->base.Ns OR mg->bv P w K mg base CX k fa fd [x] sp) (hbind:∀(s:Om) (u:Value),UI s fd ⟨[u],[]⟩ [(x,u)])
  (hsp:∀H:Hp,Hq H->ba K H a (ns.map V.int)->sp [.ref a] H (λv _=>v=.bl true) λ_ _ _=>False)
  (hCX:∀H e s',CX [] H s₁ (λ_ _ _=>False) e s'->False):
  Ro (OM P w) Vq (.call (.ref fa) ⟨[.ref a],[]⟩) (λr s'=>r=.ok (.ret (.bool true))/\OldK s₁.heap s'.heap/\s'.os=s₁.os/\SY s'.gens) s₁:=by
 have rv:=mY hi;have lenV:=hi.length;have core:∀H:Hp,Hq H->ba K H a (ns.map V.int)->iz P w H s₁.heap->(∀b,H b≠none->b=a)->(H a≠none->K.lookup a=none)→
   Ro (OM P w) Vq (.call (.ref fa) ⟨[.ref a],[]⟩) (λr s'=>r=.ok (.ret (.bool true))/\OldK s₁.heap s'.heap/\s'.os=s₁.os/\SY s'.gens) s₁:=by
  intro H hO hS hok hA hK;have base_of:∀{b:Addr} {o:P0},s₁.heap.get? b=some o->H b=none->(pI s₁.heap H).get? b=some o:=λe n=>AG e n
  have noA:∀{b:Addr} {o:P0} {es:Array Vo} {ep:Nat},s₁.heap.get? b=some o->o.data=.dict es ep->H b=none:=λ{b o es ep} e d=>by
   cases q:H b with
   |none=>rfl
   |some u=>
    have e':b=a:=hA b (by rw[q];simp);subst e';rw[ha] at e;cases e;have d':Xb.seq vs.toArray _=Xb.dict es ep:=d
    cases d'
  have nsK:∀{b:Addr} {m:OV->Option Value},s₁.heap.Ns b m->(pI s₁.heap H).Ns b m:=λ{b m} ⟨o,es,ep,e,d,r⟩=>⟨o,es,ep,base_of e (noA e d),d,r⟩
  have hKb:K.In (pI s₁.heap H):=λb o e=>base_of (KX b o e) (by
   cases q:H b with
   |none=>rfl
   |some u=>
    have e':b=a:=hA b (by rw[q];simp);subst e';rw[hK (by rw[q];simp)] at e;cases e)
  have hM:Mod K mg (pI s₁.heap H):=⟨hKb,nsK hns,⟨mb,nsK hb,hbb⟩,let ⟨mc,h1,h2⟩:=hlim;⟨mc,nsK h1,h2⟩⟩;have e0:rq P w K mg (pI s₁.heap H) Vq [] s₁ H:=⟨Z,hM,λb o e=>CS e,RO (wm _ _),trivial,λb hb=>absurd (show b∈([]:List Addr) from hb) (by simp),hok,.of_eq hg⟩;refine SE ((F _ hKb (nsK hns)).run Vq [] s₁ H ⟨[.ref a],[]⟩ [.ref a] [.ref a] _ _ hr e0 (hbind s₁ (.ref a)) (.cons Z .nil) (hsp H hO hS)) λr s' h=>?_
  cases r with
  |error e=>exact(hCX H e s' h).elim
  |ok fl=>
   cases fl with
   |next=>exact P6 h
   |brk=>exact P6 h
   |cont=>exact P6 h
   |ret u=>
    obtain⟨v,H',os,bare,un,hok',r',q⟩:=h;have q':v=.bl true:=q;subst q';obtain rfl:u=SQ true:=r';refine⟨Z,OldK.of_keep λb o e=>?_,os,bare⟩
    cases q:H b with
    |none=>exact un.keep b o e q (by intro z;exact absurd (show b∈([]:List Addr) from z) (by simp)) (by simp)
    |some u=>
     rcases hO b with z | ⟨ob,xs,z⟩
     ·rw[q] at z;cases z
     ·have z2:=un.frzs b ob _ z;obtain⟨e1,_⟩:=hok b _ z;obtain⟨e2,_⟩:=hok' b _ z2;rw[e] at e1;cases e1;exact e2
 cases hk:K.lookup a with
 |some o=>
  have e:=KX a o hk;rw[ha] at e
  cases e
  refine core (λ_=>none) (λ_=>.inl Z) (.inr ⟨_,vs.toArray,_,hk,Z,Z,Z,by rw[OY,lenV];exact hl,by simpa using rv⟩) (λb u z=>by have z':(none:Option HO)=some u:=z;cases z') (λb z=>absurd Z z) λz=>absurd Z z
 |none=>
  refine core (λb=>if b=a then some (.frz { cls:=.type "list",data:=.seq vs.toArray} (.lst (ns.map V.int))) else none) (λb=>?_) (.inl (.inr ⟨{ cls:=.type "list",data:=.seq vs.toArray},if_pos Z⟩)) (λb u z=>?_) (λb z=>?_) λ_=>hk
  ·by_cases hb:b=a
   ·exact .inr ⟨_,_,if_pos hb⟩
   ·exact .inl (if_neg hb)
  ·by_cases hb:b=a
   ·have z':=(if_pos hb).symm.trans z
    cases z'
    subst hb;exact⟨ha,by rw[Ol];exact hl,vs,_,rv,ha⟩
   ·have z':=(if_neg hb).symm.trans z
    cases z'
  ·by_cases hb:b=a
   ·exact hb
   ·exact absurd (if_neg hb) z
end L2
namespace L2
open PySem PySem.Spec PyProof.Rows
abbrev Od{K:Of}{h:Oy}(_:K.In h):Of:=K
theorem walk_of{l:WY}{loose:List OV}{XP:(OV->Option Value)->Oy->Prop}{YP:Pk->Oy->Prop}{d:DefRec}{K:Params->Of}{CX:Pk->rH}{sp:Pk->Sp} 
  (hn:l.most=some n) (hn2:n≤sizeLine) (hdf:d.params.defaults=[]) (hr:cT k Vq)
  (hY:∀(w:Pk) (h:Oy),YP w h->(K w.params).In h)
  (F:∀(w:Pk) (mg:OV->Option Value) (fa:Addr) (h:Oy),(K w.params).In h->h.Ns OR mg->mg d.name=some (.ref fa)→
   ∃fd:Oo,(∀(s:Om) (u:Value),UI s fd ⟨[u],[]⟩ [(x,u)])∧
    ∀base:Oy,(K w.params).In base->base.Ns OR mg->bv l.prog w (K w.params) mg base (CX w) k fa fd [x] (sp w))
  (hsp:∀(w:Pk) (H:Hp) (a:Addr) (ns:List Int),ns.length≤n->Hq H->ba (K w.params) H a (ns.map V.int)->sp w [.ref a] H (λv _=>v=.bl true) λ_ _ _=>False)
  (hCX:∀(w:Pk) (H:Hp) (s:Om) (e:Value) (s':Om),CX w [] H s (λ_ _ _=>False) e s'->False):
  Xu q loose XP YP l.row.toRowW d [] (λf vs=>Xg f vs):=by
 refine Att.attach_call hn hdf λw s₀ s₁ mg mb fa o pm cd doc a vs ns G Y ho hd hcd hmg hobj hints hlen hg=>?_
 have KX:=hY w _ Y;obtain⟨fd,hb,hF⟩:=F w mg fa _ KX G.T.g hmg;exact Aw KX G.T.g G.T.b G.T.builtins G.T.nolimit hg hobj hints (OS hlen hn2) hr hF hb (λH hO hS=>hsp w H a ns hlen hO hS) λH e s'=>hCX w H s₁ e s'
end L2
namespace L2
open PySem PySem.Spec PyProof.Rows
def fw(s:Stmt)(j:Nat):Stmt:=match s with
 | .ClassDef _ _ _ body _ _ _ _ _ _ _=>body.getD j (.Pass ⟨0,0,0,0⟩)
 |_=>.Pass ⟨0,0,0,0⟩
def dh(s:Stmt):Arguments:=match s with
 | .FunctionDef _ a _ _ _ _ _ _ _ _=>a
 |_=>{ posonlyargs:=[],args:=[],vararg:=none,kwonlyargs:=[],kw_defaults:=[],kwarg:=none,defaults:=[]}
def cM(s:Stmt):List Stmt:=match s with
 | .FunctionDef _ _ b _ _ _ _ _ _ _=>b
 |_=>[]
def az(s:Stmt):Sf:=match s with
 | .FunctionDef _ _ _ _ _ _ sc _ _ _=>sc
 |_=>{ kind:=.function,names:=[],isGenerator:=false,isCoroutine:=false}
abbrev dF:rH:=λ_ _ _ _ _ _=>False
abbrev E0:XK:=λ_ _ _=>False
theorem cW:eQ dF X E0:=λ_ _ _ _ _ _ _ h=>h.elim
structure Fun(K:Of)(x qual:OV)(st:Stmt)(f:Addr)(fd:Oo):Prop where
 ex:∃(oc:Value) (od:Option Addr) (kV doc pm:Value) (an:Option Addr) (cdv ct:Value) (osl:Array (Option Value)),
  fd=Qf x qual (dh st) (cM st) (az st) .none kV doc pm an cdv ct/\K.lookup f=some ⟨oc,od,.func fd,osl⟩/\SF K cdv qual=true
 kp:Qa K (.ref f)=true
section
variable {P:O0}{w:Pk}{K:Of}{mg:OV->Option Value}{base:Oy}
theorem Fun.ok{x qual:OV}{st:Stmt}{f:Addr}{fd:Oo}{N ps:List OV}{k:Nat}{sp:Sp}(F:Fun K x qual st f fd)(S:aF N ps (az st))(len:∀vs H Q E,sp vs H Q E->vs.length=ps.length)
  (hbody:∀(cdv:Value) (A:O5) (outer:List W6) (s:Om) (H:Hp) (vs:List V) (Q:VK) (E:XK),cT k (A.deeper (UJ qual (az st) s.heap.objs.size f cdv))->sp vs H Q E→
   ∃t,pX (bC dF P w K mg base N qual (az st) f cdv A outer s H E).nox (cM st) t/\t { nx:=λ_ H'=>Q .non H',rt:=Q} (iW N vs) H):bv P w K mg base dF (k+1) f fd ps sp:=by
 obtain⟨oc,od,kV,doc,pm,an,cdv,ct,osl,rfl,lk,hcd⟩:=F.ex;refine Ep lk hcd S len λA outer s H vs Q E hr hsp=>?_
 obtain⟨t,h,q⟩:=hbody cdv A outer s H vs Q E hr hsp;exact⟨t,h.nox,q⟩
theorem Fun.binds{x qual:OV}{st:Stmt}{f:Addr}{fd:Oo}{ps:List OV}(F:Fun K x qual st f fd)
  (h:∀(kV doc pm:Value) (an:Option Addr) (cdv ct:Value) (us:List Value),us.length=ps.length->V7 (Qf x qual (dh st) (cM st) (az st) .none kV doc pm an cdv ct) ⟨us,[]⟩=Qm (ps.zip us)):aM K fd ps []:=by
 obtain⟨oc,od,kV,doc,pm,an,cdv,ct,osl,rfl,lk,hcd⟩:=F.ex;exact .all (h kV doc pm an cdv ct)
theorem pK{x qual:OV}{st:Stmt}{f:Addr}{oc:Value}{od an:Option Addr}{osl:Array (Option Value)}{kV doc pm cdv ct:Value}(l:K.lookup f=some ⟨oc,od,.func (Qf x qual (dh st) (cM st) (az st) .none kV doc pm an cdv ct),osl⟩)
  (c:SF K cdv qual=true) (k:Qa K (.ref f)=true):Fun K x qual st f (Qf x qual (dh st) (cM st) (az st) .none kV doc pm an cdv ct):=⟨⟨oc,od,kV,doc,pm,an,cdv,ct,osl,Z,l,c⟩,k⟩
end
theorem Em(hr:cT k A):A.units+1<cLine:=Pq (Nat.add_le_add_left (by decide:1≤64) _) hr.units
theorem bn(h:n≤1000):n<sizeLine:=Pq h (by decide)
section
variable {X:Cx}
theorem pv(i:Nat){x:OV}{pos:R1}(hN:X.N[i]?=some x:=by rfl)(hv:JG X.env.scope x:=by first|exact Pd Z|exact O7 (Pd Z)|exact O7 (O7 Z))(hd:(x==("__debug__" : OV))=false:=by decide)
  (hcd:(x==("__classdict__" : OV))=false:=by decide):PE X (.Name x pos) (EH i):=FW hN hv hd hcd
end
theorem cV{A B:Prop}(h:B):if false=true then A else B:=by
 rw[if_neg OK];exact h
theorem cR{A B:Prop}(h:A):if true=true then A else B:=by
 rw[if_pos Z];exact h
theorem GX{c A B:Prop}[Decidable c](h1:c->A)(h2:¬c->B):if c then A else B:=by
 by_cases h:c
 ·rw[if_pos h];exact h1 h
 ·rw[if_neg h];exact h2 h
theorem qP{c A B:Prop}[Decidable c](hc:c)(h:B):if(!decide c)=true then A else B:=by
 rw[decide_eq_true hc];exact cV h
def aD(H H':Hp):Prop:=∀b o,H b=some o->H' b=some o
theorem aD.refl(H:Hp):aD H H:=λ_ _ h=>h
theorem aD.trans(a:aD H H1)(b:aD H1 H2):aD H H2:=λc o h=>b c o (a c o h)
theorem aD.seq{K:Of}{H H':Hp}{a:Addr}{xs:List V}(e:aD H H')(h:ba K H a xs):ba K H' a xs:=by
 rcases h with(h | ⟨o,h⟩)|h
 ·exact .inl (.inl (e _ _ h))
 ·exact .inl (.inr ⟨o,e _ _ h⟩)
 ·exact .inr h
end L2
set_option maxHeartbeats 4000000
namespace B
open PySem L2 PyProof.Rows
theorem Ej{c A B:Prop}[Decidable c](hc:¬c)(h:A):if(!decide c)=true then A else B:=by
 have e:(!decide c)=true:=by rw[decide_eq_false hc];rfl
 rw[if_pos e];exact h
theorem cI{c A B:Prop}[Decidable c](hc:c)(h:A):if decide c=true then A else B:=by
 rw[if_pos (decide_eq_true hc)];exact h
theorem cv{c A B:Prop}[Decidable c](hc:¬c)(h:B):if decide c=true then A else B:=by
 have e:¬decide c=true:=by rw[decide_eq_false hc];intro z;cases z
 rw[if_neg e];exact h
theorem jW{b:Bool}{A B:Prop}(hb:b=true)(h:A):if b=true then A else B:=by rw[if_pos hb];exact h
theorem jc{b:Bool}{A B:Prop}(hb:b=false)(h:B):if b=true then A else B:=by
 rw[if_neg (by rw[hb];intro z;cases z)];exact h
def jV(A B:String):Option Bool:=if(Rt A==Rt B)=true then some true else if PySem.W.kitMeta B=true then(fastBuiltinMro A).map (·.contains (.type B)) else none
theorem sV{K:Of}{A B:String}{b:Bool}(h:jV A B=some b):P3 K (.type A) (.type B)=some b:=h
inductive Ty(H:Hp):V->String->Prop where
 |non:Ty H .non "NoneType"
 |bl (b:Bool):Ty H (.bl b) "bool"
 |int (i:Int):Ty H (.int i) "int"
 |str (x:OV):Ty H (.str x) "str"
 |lst {a:Addr} {xs:List V} (e:H a=some (.lst xs)):Ty H (.ref a) "list"
 |tup {a:Addr} {xs:List V} (e:H a=some (.tup xs)):Ty H (.ref a) "tuple"
theorem Ty.of(K:Of)(h:Ty H v n):jO K H v (.type n):=by
 cases h with
 |non=>exact .non
 |bl b=>exact .bl b
 |int i=>exact .int i
 |str x=>exact .str x
 |lst e=>exact .lst e
 |tup e=>exact .tup e
def KL:List V->Hp->VK->Prop:=λxs H Q=>∃x n m b,xs=[x,.ty n]/\Ty H x m/\jV m n=some b/\Q (.bl b) H
theorem jm:df X (.builtin "isinstance") KL:=by
 intro pins s σ H xs us Q I r h;obtain⟨x,n,m,b,rfl,ty,e,q⟩:=h;obtain⟨u,u2,rfl,rx,ry⟩:=qd r;obtain rfl:u2=Rt n:=ry;exact we I rx (ty.of X.K) (sV e) λtk=>⟨.bl b,H,I.tok tk,Z,q⟩
def Ku:V->Bool
 | .int _=>true
 |_=>false
def Mt(n:String):Bool:=n == "tuple"
structure dP(t:Addr)(H H':Hp):Prop where
 keep:∀b o,b≠t->H b=some o->H' b=some o
 tp:∃xs,H t=some (.lst xs)
 tp':∃xs,H' t=some (.lst xs)
theorem dP.trans(a:dP t H H1)(b:dP t H1 H2):dP t H H2:=⟨λc o n e=>b.keep c o n (a.keep c o n e),a.tp,b.tp'⟩
theorem dP.up(h:H t=some (.lst xs)):dP t H (upd H t (.lst ys)):=⟨λc o n e=>by rw[ay n];exact e,⟨_,h⟩,⟨_,ag⟩⟩
theorem ao(h:H p=none)(o:HO):aD H (upd H p o):=λb u q=>by rw[ay (aR q h)];exact q
theorem dP.same(s:aD H H')(h:∃xs,H t=some (.lst xs)):dP t H H':=⟨λc o _ e=>s c o e,h,let ⟨xs,e⟩:=h;⟨xs,s _ _ e⟩⟩
theorem dP.refl(h:∃xs,H t=some (.lst xs)):dP t H H:=⟨λ_ _ _ e=>e,h,h⟩
def Th(H:Hp)(v:V):Prop:=∃n,Ty H v n/\∀a xs,v=.ref a->H a=some (.tup xs)->∀x∈xs,∃m,Ty H x m
theorem KR{xs:List V}(h0:0≤r)(h1:r<(xs.length:Int)):∃v,rD xs r=some v/\v∈xs:=by
 have hk:r.toNat<xs.length:=by omega
 have ek:r=((r.toNat:Nat):Int):=by omega
 have q:rD xs ((r.toNat:Nat):Int)=some xs[r.toNat]:=bF (Oh hk);rw[←ek] at q;exact⟨_,q,OW hk⟩
theorem Ee{ns:List Int}(h0:0≤r)(h1:r<(ns.length:Int)):∃z:Int,rD (ns.map V.int) r=some (.int z):=by
 obtain⟨v,h,hv⟩:=KR (xs:=ns.map V.int) h0 (by rw[Ol];exact h1);obtain⟨z,_,rfl⟩:=OD.mp hv;exact⟨z,h⟩
structure Hl(H:Hp)(t s:Addr):Prop where
 ex:∃(ns:List Int) (p q r:Int),H t=some (.lst [.ref s,.int p,.int q,.int r])/\H s=some (.lst (ns.map V.int))/\s≠t/\ns.length≤63/\0≤p/\0≤q/\0≤r
def J1(K:Of):Sp:=λvs H Q _=>∃(a:Addr) (ns:List Int),vs=[.ref a]/\ba K H a (ns.map V.int)/\∀(t s:Addr) (H':Hp),aD H H'->H t=none->H s=none->Hl H' t s->Q (.ref t) H'
def J3:Sp:=λvs H Q _=>∃(t s:Addr) (m:Int),vs=[.ref t,.int m]/\Hl H t s/\0<m/\m<1073741824/\∀(r:Int) (xs:List V),0≤r->r<m->Hl (upd H t (.lst xs)) t s->Q (.int r) (upd H t (.lst xs))
def J2(K:Of):Sp:=λvs H Q _=>∃(a:Addr) (ns:List Int),vs=[.ref a]/\ba K H a (ns.map V.int)/\ns.length≤63/\∀H',Q (.bl true) H'
theorem qR(ha:0≤a)(hb:0<b):OG b (a%b)=OG a b:=by
 obtain⟨n,rfl⟩:=PP ha;obtain⟨m,rfl⟩:=PP (Qg hb);rw[←Int.natCast_emod];show Nat.gcd m (n%m)=Nat.gcd n m;rw[Nat.gcd_comm m,←Nat.gcd_rec,Nat.gcd_comm]
theorem tM(i:Int):(if i<0 then -i else i)=(i.natAbs:Int):=by split<;>omega
end B
namespace B
open PySem PySem.Spec L2 PyProof.Rows
mutual
inductive bh(K:Of)(H:Hp):V->PyData->Prop where
 |non:bh K H .non .none
 |bl (b:Bool):bh K H (.bl b) (.bool b)
 |int (i:Int):bh K H (.int i) (.int i)
 |str (x:OV):bh K H (.str x) (.str x)
 |lst {a:Addr} {xs:List V} {ds:List PyData} (e:ba K H a xs) (h:be K H xs ds):bh K H (.ref a) (.list ds)
 |tup {a:Addr} {xs:List V} {ds:List PyData} (e:bu K H a xs) (h:be K H xs ds):bh K H (.ref a) (.tuple ds)
inductive be(K:Of)(H:Hp):List V->List PyData->Prop where
 |nil:be K H [] []
 |cons {x:V} {d:PyData} {xs:List V} {ds:List PyData} (h:bh K H x d) (t:be K H xs ds):be K H (x::xs) (d::ds)
end
mutual
theorem bh.reads{X:Cx}{pins:List (Addr×P0)}{σ:L2.St}{H:Hp}{s:Om}(I:Inv X pins σ H s):∀{v:V} {d:PyData} {u:Value},bh X.K H v d->aZ v u->∃as,Reads s.heap u d as
 |_,_,u,.non,r=>by cases(show u=Qo from r);exact⟨_,.none⟩
 |_,_,u,.bl b,r=>by cases(show u=SQ b from r);exact⟨_,.bool b⟩
 |_,_,u,.int i,r=>by obtain⟨t,q⟩:=(show ∃t,u=Rj i t from r);cases q;exact⟨_,.int i t⟩
 |_,_,u,.str x,r=>by obtain⟨t,q⟩:=(show ∃t,u=Tr x t from r);cases q;exact⟨_,.str x t⟩
 |_,_,u,.lst (a:=a) e h,r=>by
  cases(show u=OP a from r)
  obtain⟨its,rv,⟨o,n,ho,hc,_,hd⟩,_⟩:=I.list e;obtain⟨as,q⟩:=be.reads I h rv;exact⟨_,.list ho hc hd (by simpa using q)⟩
 |_,_,u,.tup (a:=a) e h,r=>by
  cases(show u=OP a from r)
  obtain⟨its,rv,⟨o,ho,hc,n,hd⟩,_⟩:=I.tuple e;obtain⟨as,q⟩:=be.reads I h rv;exact⟨_,.tuple ho hc hd (by simpa using q)⟩
theorem be.reads{X:Cx}{pins:List (Addr×P0)}{σ:L2.St}{H:Hp}{s:Om}(I:Inv X pins σ H s):∀{vs:List V} {ds:List PyData} {us:List Value},be X.K H vs ds->bc vs us->∃as,ReadsAll s.heap us ds as
 |_,_,_,.nil,.nil=>⟨_,.nil⟩
 |_,_,_,.cons h t,.cons r q=>
  let ⟨_,a⟩:=bh.reads I h r;let ⟨_,b⟩:=be.reads I t q
  ⟨_,.cons a b⟩
end
structure Bm(d:PyData):Prop where
 sh:d.showable=true
 nd:d.hasDict=false
 sz:d.shown.length≤sizeLine
 dp:d.depth≤16
def IM(K:Of):List V->Hp->VK->Prop:=λxs H Q=>∃v d,xs=[v]/\bh K H v d/\Bm d/\Q (.str d.shown) H
theorem nU(hr:cT k X.A):df X (.builtin "repr") (IM X.K):=by
 intro pins s σ H xs us Q I r h;obtain⟨v,d,rfl,dp,sh,q⟩:=h;obtain⟨u,rfl,ru⟩:=gE r
 cases dp with
 |non=>cases(show u=Qo from ru);exact PySem.P.repr_of_none ⟨.str "None",H,I.tok _,⟨_,Z⟩,q⟩
 |bl b=>cases(show u=SQ b from ru);exact PySem.P.repr_of_bool ⟨.str _,H,I.tok _,⟨_,Z⟩,q⟩
 |int i=>
  obtain⟨t,e⟩:=(show ∃t,u=Rj i t from ru)
  cases e
  exact PySem.P.repr_of_int (of_decide_eq_true sh.sh) ⟨.str _,H,I.tok _,⟨_,Z⟩,q⟩
 |str x=>
  obtain⟨t,e⟩:=(show ∃t,u=Tr x t from ru)
  cases e
  exact PySem.P.repr_of_str ⟨.str _,H,I.tok _,⟨_,Z⟩,q⟩ sh.sz
 | @lst a ys ds e h=>
  cases(show u=OP a from ru)
  obtain⟨as,rd⟩:=bh.reads I (.lst e h) (show aZ (.ref a) (.ref a) from Z);exact repr_of_reads' rd sh.sh (λz=>by rw[sh.nd] at z;cases z) hr.gd (by have:=hr.units;have:=sh.dp;omega) (λ_ _ z=>z) (λh' u tk hk=>⟨.str _,H,I.kept hk,⟨_,Z⟩,q⟩) sh.sz
 | @tup a ys ds e h=>
  cases(show u=OP a from ru)
  obtain⟨as,rd⟩:=bh.reads I (.tup e h) (show aZ (.ref a) (.ref a) from Z);exact repr_of_reads' rd sh.sh (λz=>by rw[sh.nd] at z;cases z) hr.gd (by have:=hr.units;have:=sh.dp;omega) (λ_ _ z=>z) (λh' u tk hk=>⟨.str _,H,I.kept hk,⟨_,Z⟩,q⟩) sh.sz
end B
namespace B
open PySem PySem.Spec L2 PyProof.Rows
def jM(X:Cx)(N':List OV)(scope:Sf)(cl:List (OV×Addr))(C:Addr)(fp:List Addr)(pins:List (Addr×P0))(s:Om)(H:Hp):Cx:=
 { X with N:=N',s₀:=s,H₀:=H,env:=SG scope cl C X.env,outer:=X.stack,stack:=X.stack,ex:=fp,fn:=λ_=>false,pn:=X.pn++pins,xe:=λ_ _=>False}
def cu(X:Cx)(scope:Sf)(cl:List (OV×Addr)):List OV->List (Option Nat)->Prop
 | [],[]=>True
 |_::N,none::r=>cu X scope cl N r
 |x::N,some j::r=>X.N[j]?=some x/\X.env.kindOf x=some .cell/\(SG scope cl 0 X.env).kindOf x=some .cell/\cl.lookup x=X.env.cells.lookup x/\cu X scope cl N r
 |_,_=>False
def cc(src:List (Option Nat))(σ:L2.St):L2.St:=src.map λo=>o.bind λj=>(σ[j]?).getD none
theorem cu.len{X:Cx}{scope:Sf}{cl:List (OV×Addr)}:∀{N:List OV} {src:List (Option Nat)},cu X scope cl N src->N.length=src.length
 | [],[],_=>rfl
 |_::_,none::_,h=>congrArg (·+1) (cu.len (X:=X) (scope:=scope) (cl:=cl) h)
 |_::_,some _::_,h=>congrArg (·+1) (cu.len (X:=X) (scope:=scope) (cl:=cl) h.2.2.2.2)
theorem cu.at{X:Cx}{scope:Sf}{cl:List (OV×Addr)}{σ:L2.St}:∀{N:List OV} {src:List (Option Nat)} {i:Nat} {x:OV} {v:V},cu X scope cl N src->N[i]?=some x->(cc src σ)[i]?=some (some v)→
  ∃j:Nat,X.N[j]?=some x/\σ[j]?=some (some v)/\X.env.kindOf x=some .cell/\(SG scope cl 0 X.env).kindOf x=some .cell/\cl.lookup x=X.env.cells.lookup x
 |y::N,none::r,0,x,v,h,e,q=>by cases q
 |y::N,none::r,i+1,x,v,h,e,q=>cu.at (N:=N) (src:=r) (i:=i) h e q
 |y::N,some j::r,0,x,v,h,e,q=>by
  cases e
  refine⟨j,h.1,?_,h.2.1,h.2.2.1,h.2.2.2.1⟩;have q':some ((σ[j]?).getD none)=some (some v):=q;injection q' with q'
  cases z:σ[j]? with
  |none=>rw[z] at q';cases q'
  |some o=>rw[z] at q';exact congrArg some q'
 |y::N,some j::r,i+1,x,v,h,e,q=>cu.at (N:=N) (src:=r) (i:=i) h.2.2.2.2 e q
def fC(X:Cx)(scope:Sf)(cl:List (OV×Addr)):Prop:=
 (∀x,((SG scope cl 0 X.env).kindOf x=some .cell∨(SG scope cl 0 X.env).kindOf x=some .free)->∃c,cl.lookup x=some c)/\∀x c,cl.lookup x=some c->X.env.cells.lookup x=some c
def ic(X:Cx):List (OV×Addr)->Prop
 | []=>True
 |y::r=>X.env.cells.lookup y.1=some y.2/\ic X r
theorem ic.mem{X:Cx}:∀{cl:List (OV×Addr)},ic X cl->∀y∈cl,X.env.cells.lookup y.1=some y.2
 | [],_,y,h=>by cases h
 |z::r,k,y,h=>by
  rcases Ov.mp h with e|h
  ·rw[e];exact k.1
  ·exact ic.mem k.2 y h
theorem mem_of_lookup{α:Type}{x:OV}{v:α}:∀{l:List (OV×α)},l.lookup x=some v->(x,v)∈l
 | [],h=>by cases h
 | (y,w)::r,h=>by
  rw[Sc] at h
  cases e:x==y with
  |true=>
   rw[e] at h;have e':x=y:=Tt e
   cases h
   rw[e'];exact Oq
  |false=>
   rw[e] at h;exact Ot _ (mem_of_lookup h)
theorem bH(h1:((Wb scope X.env).names.all λy=>!(y.2==.cell||y.2==.free)||(cl.lookup y.1).isSome)=true)(h2:ic X cl):fC X scope cl:=by
 refine⟨λx h=>?_,λx c e=>h2.mem _ (mem_of_lookup e)⟩;have h3:=Qj.mp h1;have key:∀k:Sm,(k=.cell∨k=.free)->(Wb scope X.env).names.lookup x=some k->∃c,cl.lookup x=some c:=λk hk e=>by
  have q:=h3 _ (mem_of_lookup e);have z:(k==VB||k==Xv)=true:=by rcases hk with rfl|rfl<;>rfl
  simp only[z,VC,Ud] at q;exact Qb.mp q
 rcases h with h|h
 ·exact key _ (.inl Z) h
 ·exact key _ (.inr Z) h
def gX(σ σ':L2.St):Prop:=σ'.length=σ.length/\∀(i:Nat) (v:V),σ[i]?=some (some v)->σ'[i]?=some (some v)
theorem gX.set(h:σ[i]?=some none):gX σ (σ.set i (some v)):=by
 refine⟨Qy,λj u e=>?_⟩;have ne:i≠j:=λz=>by subst z;rw[h] at e;cases e
 rw[PQ ne];exact e
theorem gX.set'(e:gX σ τ)(h:σ[i]?=some none):gX σ (τ.set i (some v)):=by
 refine⟨by rw[Qy];exact e.1,λj u q=>?_⟩;have ne:i≠j:=λz=>by subst z;rw[h] at q;cases q
 rw[PQ ne];exact e.2 j u q
section
variable {X:Cx}{N':List OV}{scope:Sf}{cl:List (OV×Addr)}{src:List (Option Nat)}{pins:List (Addr×P0)}{σ:L2.St}{H:Hp}{s:Om}{fp:List Addr}
theorem Cx.comp_ok{C:Addr}(I:Inv X pins σ H s)(hC:s.heap.objs.size≤C)(hk:scope.kind=.function)(hf:∀b∈fp,gA X pins H b)(hfs:∀b∈fp,b<s.heap.objs.size)(hc:fC X scope cl) :
  (jM X N' scope cl C fp pins s H).Ok where
 mod:=I.ok.mod
 kind:=hk
 glob:=I.ok.glob
 blt:=I.ok.blt
 above:=hC
 inj:=λx y c e1 e2=>I.ok.inj x y c (hc.2 x c e1) (hc.2 y c e2)
 has:=λx h=>hc.1 x h
 cab:=λx c z=>nomatch z
 hd:=I.ok.hd
 frames:=I.ok.frames
 stk:=.inl Z
 exf:=λb hb=>⟨λz=>by have:=hfs b hb;rw[show b=C from z] at this;exact absurd (OI this hC) (Pm _),λx c e=>(hf b hb).2.2.2.2.1 x c (hc.2 x c e)⟩
 bs:=I.bs
 bsz:=OS I.ok.bsz I.sz
 noex:=λb o e hb=>by
  rcases(hf b hb).2.2.2.1 with z|z
  ·exact I.ok.noex b o e z
  ·rw[(I.ok.bs b o e).1] at z;cases z
 exfs:=λb hb z=>by
  rcases Ov.mp (I.stkSub b z) with q|q
  ·exact(hf b hb).2.1 q
  ·exact(hf b hb).2.2.1 q
 funs:=I.stack
 frf:=I.stkFree
theorem Inv.comp{C:Addr}{h₁:Oy}{m:OV->Option Value}{tk:Nat}(I:Inv X pins σ H s)(hC:C=s.heap.objs.size)(hns:h₁.Ns C m)(keep:∀b o,s.heap.get? b=some o->h₁.get? b=some o)
  (hk:scope.kind=.function) (hf:∀b∈fp,gA X pins H b) (hfs:∀b∈fp,b<s.heap.objs.size) (hc:fC X scope cl) (hfree:cu X scope cl N' src) :
  Inv (jM X N' scope cl C fp pins s H) [] (cc src σ) H { s with heap:=h₁,toks:=tk} where
 ok:=Cx.comp_ok I (RO hC.symm) hk hf hfs hc
 os:=Z
 bare:=I.bare
 base:=Un.kept keep
 loc:=⟨m,hns,λi x v e1 e2 _=>by
  obtain⟨j,hj,hσ,kc,kc',hl⟩:=hfree.at e1 e2;obtain⟨m0,hn0,hl0⟩:=I.loc;obtain⟨u,r,l⟩:=hl0 j x v hj hσ (O7 (Pd kc));rcases l with⟨k,_⟩ | ⟨k,c,e,o,ho,hd⟩
  ·rw[kc] at k;cases k
  ·exact⟨u,r,.inr ⟨.inl kc',c,hl.trans e,o,keep c o ho,hd⟩⟩⟩
 cell:=λx c e=>let ⟨v,o,ho,hd⟩:=I.cell x c (hc.2 x c e);⟨v,o,keep _ _ ho,hd⟩
 free:=I.hok.fresh (RO hC.symm)
 freeC:=λx c e=>I.freeC x c (hc.2 x c e)
 pin:=λp hp=>by
  have hp':p∈X.pn++pins:=by
   have z:p∈(X.pn++pins)++[]:=hp;rw[Qe] at z;exact z
  obtain⟨e,n,ne,nf,d⟩:=I.pin p hp';refine⟨keep _ _ e,n,λz=>?_,λz=>?_,d⟩
  ·have:=OF e;rw[show p.1=C from z,hC] at this;exact Pm _ this
  ·rcases Ov.mp (I.stkSub _ z) with q|q
   ·exact ne q
   ·exact nf q
 hok:=I.hok.kept keep
 len:=by show(cc src σ).length=N'.length;unfold cc;rw[Ol,hfree.len]
end
def Ew(X:Cx)(ifs:List O3)(t:TT):Prop:=
 ∀(pins:List (Addr×P0)) (s:Om) (σ:L2.St) (H:Hp) (Q:Bool->Hp->Prop),Inv X pins σ H s->t σ H Q→
  OJ (OM X.prog X.w) X.A (forIn ifs true λc r=>if r=true then do let ok ←isTrue c X.env (eval c X.env);Qm (Tc ok) else Qm (Tc r)) (TP X pins σ Q) X.xe s
def Ij:TT:=λ_ H Q=>Q true H
theorem Cn:Ew X [] Ij:=λ_ _ _ H _ I h=>wpAny_tests_nil ⟨H,I,h⟩
theorem Cm(h:PT X c t):Ew X [c] t:=λpins s σ H Q I q=>wpAny_tests_one (h pins s σ H Q I q)
section
variable {prog:O0}{w:Pk}{A:O5}{R:WC->Om->Prop}{s:Om}
theorem nS(I:Nat->Om->Prop)
  (turn:∀n s,I n s->OJ (OM prog w) A (XF it) (λr s₁=>match r with
   |none=>R (.ok .next) s₁
   |some v=>OJ (OM prog w) A (Tb target it v) (λ_ s₁'=>OJ (OM prog w) A (SR target env v) (λ_ s₂=>
     OJ (OM prog w) A (forIn ifs true λc r=>if r=true then do let ok ←isTrue c env (eval c env);Qm (Tc ok) else Qm (Tc r)) (λok s₃=>
      if ok=true then OJ (OM prog w) A (eval elt env) (λx s₄=>
       OJ (OM prog w) A (call (.builtin "list.append") [acc,x]) (λ_ s₅=>∃m,m<n/\I m s₅) (λ_ _=>False) s₄) (λ_ _=>False) s₃
      else ∃m,m<n/\I m s₃) (λ_ _=>False) s₂) (λ_ _=>False) s₁') (λ_ _=>False) s₁) (λ_ _=>False) s)
  (n:Nat) (h:I n s):Ro (OM prog w) A (.compLoop (.ListComp elt [⟨target,iter,ifs,0⟩] scope pos) 0 it acc env) R s:=by
 refine codeAny_loop Z I (λn s hI=>?_) n h;show OJ _ A ((compTurn (.ListComp elt [⟨target,iter,ifs,0⟩] scope pos) 0 it acc env).onRaise (λx=>do Tu x env;theTreesLotGoes x)) _ _ s;refine wpAny_noted ?_;rw[compTurn_list];refine Oj (RY (Oj (Qh (turn n s hI) (λr s₁ h₁=>?_) λ_ _ h'=>h'.elim)))
 cases r with
 |none=>exact OC h₁
 |some v=>
  refine Oj (Qh h₁ (λ_ s₁' h₁'=>?_) λ_ _ h'=>h'.elim);refine Oj (Qh h₁' (λ_ s₂ h₂=>Oj (Qh h₂ (λok s₃ h₃=>?_) λ_ _ h'=>h'.elim)) λ_ _ h'=>h'.elim)
  cases ok with
  |false=>exact OC ⟨Z,h₃⟩
  |true=>
   exact Oj (Oj (Qh h₃ (λx s₄ h₄=>Oj (Qh h₄ (λ_ s₅ h₅=>OC (OC ⟨Z,h₅⟩)) λ_ _ h'=>h'.elim)) λ_ _ h'=>h'.elim))
end
structure wT(X:Cx)(pins:List (Addr×P0))(H:Hp)(C:Addr):Prop where
 no:H C=none
 lo:C≠X.env.locals
 fs:C∉X.fs
 old:X.s₀.heap.get? C=none
 ce:∀x c,X.env.cells.lookup x=some c->c≠C
 pn:∀p∈X.pn++pins,p.1≠C
theorem wT.turned{X:Cx}{pins:List (Addr×P0)}{σ:L2.St}{H:Hp}{C:Addr}{s:Om}(o:wT X pins H C)(I:Inv X pins σ H s){h':Oy}(sb:RL C s.heap h'):Inv X pins σ H { s with heap:=h'}:=
 I.turned (it:=C) (t':=s.toks) (λb u hb e=>sb.extBut b u hb e) o.no o.lo (.inr o.old) o.ce o.pn
def iU(wi:TI)(src:List (Option Nat))(g:TG)(tt:TT)(te:TE):TE:=λσ H Q=>wi σ H λJ H1=>∀D,H1 D=none->∃W:Nat->Nat->List V->Hp->Prop,
 (∃m,W 0 m [] (upd H1 D (.lst [])))/\∀i m ys H,W i m ys H->(J.stop i H/\Q (.ref D) H)∨(J.go i H/\∀x H',J.yld i H x H'->g x (cc src σ) H' λσ2 H2=>gX (cc src σ) σ2/\tt σ2 H2 λok H3=>
  if ok=true then te σ2 H3 λy H4=>H4 D=some (.lst ys)/\ys.length<sizeLine/\∃m',m'<m/\W (i+1) m' (ys++[y]) (upd H4 D (.lst (ys++[y]))) else ∃m',m'<m/\W (i+1) m' ys H3)
section
variable {X:Cx}{N':List OV}{scope:Sf}{cl:List (OV×Addr)}{src:List (Option Nat)}{tg iter elt:O3}{ifs:List O3}{wi:TI}{g:TG}{tt:TT}{te:TE}{pos:R1}
theorem qW(hc:X.calm=true)(hi:PI X tg iter wi)(hg:∀C fp pins s H,PG (jM X N' scope cl C fp pins s H) tg g)(ht:∀C fp pins s H,Ew (jM X N' scope cl C fp pins s H) ifs tt)
  (he:∀C fp pins s H,PE (jM X N' scope cl C fp pins s H) elt te) (hfree:cu X scope cl N' src) (hcell:∀x∈scope.names,x.2≠.cell) (hkind:scope.kind=.function) (hcl:fC X scope cl)
  {RR:Value->Addr->WC->Om->Prop} {pins:List (Addr×P0)} {s:Om} {σ:L2.St} {H:Hp} {Q:VK} (I:Inv X pins σ H s) (h:iU wi src g tt te σ H Q)
  (hRR:∀D C H' s',Q (.ref D) H'->(∃m,s'.heap.Ns C m)->Inv X pins σ H' s'->wT X pins H' C->RR (.ref D) C (.ok .next) s') :
  OJ (OM X.prog X.w) X.A (eval iter X.env) (λx s₁=>OJ (OM X.prog X.w) X.A (XG x) (λitv s₂=>OJ (OM X.prog X.w) X.A (W3 []) (λacc s₃=>
   OJ (OM X.prog X.w) X.A (TH scope X.env.globals cl [] X.env.qual none .none (some X.env)) (λcenv s₄=>
    Ro (OM X.prog X.w) X.A (.compStart (.ListComp elt [⟨tg,iter,ifs,0⟩] scope pos) 0 itv acc { cenv with scope:=Wb scope X.env}) (RR acc cenv.locals) s₄) X.xe s₃) X.xe s₂) X.xe s₁) X.xe s:=by
 refine bK (hi pins s σ H _ I h) λv s1 h1=>bK h1 λitv s2 h2=>?_
 obtain⟨it,fp,tn,J,H2,e,I2,T,st2,f2,h2⟩:=h2;subst e;refine PD ?_ (by show 0≤sizeLine;exact ON _);have hD:H2 s2.heap.objs.size=none:=I2.fresh;have I3:Inv X pins σ (upd H2 s2.heap.objs.size (.lst [])) { s2 with heap:=s2.heap.push { cls:=.type "list",data:=.seq ([]:List Value).toArray} }:=I2.lnew (t':=s2.toks) (its:=[]) .nil (ON _);obtain⟨W,⟨m0,w0⟩,turn⟩:=h2 s2.heap.objs.size hD;generalize hDe:s2.heap.objs.size=D at I3 turn w0 hD ⊢;have st3:tn 0 (s2.heap.push { cls:=.type "list",data:=.seq ([]:List Value).toArray}):=T.keep _ _ _ st2 λb _ o e=>On _ e
 have f3:∀b∈fp,gA X pins (upd H2 D (.lst [])) b/\b<(s2.heap.push { cls:=.type "list",data:=.seq ([]:List Value).toArray}).objs.size:=λb hb=>by
  obtain⟨o,e,_⟩:=T.obj _ _ st2 b hb;have l:=OF e;rw[hDe] at l;refine⟨⟨?_,(f2 b hb).2⟩,by rw[QQ,hDe];exact T4 l⟩;rw[ay (O9 l)];exact(f2 b hb).1
 generalize (s2.heap.push { cls:=.type "list",data:=.seq ([]:List Value).toArray})=h3 at I3 st3 f3 ⊢;refine wpAny_newFunctionEnv hcell (by intro y hy;simp at hy) (λh₄ hns₄ hsb₄=>?_) hkind;have keep:∀b o,h3.get? b=some o->h₄.get? b=some o:=λb o e=>hsb₄.extBut b o (O9 (OF e)) (On _ e)
 have I4:=Inv.comp (C:=h3.objs.size) (fp:=fp) (tk:=s2.toks+([]:List (OV×Value)).length) I3 Z hns₄ keep hkind (λb hb=>(f3 b hb).1) (λb hb=>(f3 b hb).2) hcl hfree;have st4:tn 0 h₄:=T.keep _ _ _ st3 λb _ o e=>keep b o e
 have fpn:∀b∈fp,(upd H2 D (.lst [])) b=none:=λb hb=>(f3 b hb).1.1
 have hn3:∀b∈fp,b≠h3.objs.size:=λb hb=>O9 (f3 b hb).2
 have stat:∀{H':Hp},(∀b∈fp,H' b=none)->∀b∈fp,gA (jM X N' scope cl h3.objs.size fp pins { s2 with heap:=h3} (upd H2 D (.lst []))) [] H' b:=λhn b hb=>
  ⟨hn b hb,hn3 b hb,I4.ok.exfs b hb,.inl hb,λx c e=>(f3 b hb).1.2.2.2.2.1 x c (hcl.2 x c e),λp hp=>(f3 b hb).1.2.2.2.2.2 p (by
   have z:p∈(X.pn++pins)++[]:=hp;rw[Qe] at z;exact z)⟩
 have back:∀{H':Hp} {s':Om},Inv (jM X N' scope cl h3.objs.size fp pins { s2 with heap:=h3} (upd H2 D (.lst []))) [] (cc src σ) H' s'->(∃m,s'.heap.Ns h3.objs.size m)/\Inv X pins σ H' s'/\wT X pins H' h3.objs.size:=λ{H' s'} I'=>by
  have Ib:Inv X pins σ H' s':=I3.call' I'.os I'.base I'.hok I'.bare λb hb=>⟨(f3 b hb).1.2.2.2.1,(f3 b hb).1.2.1,(f3 b hb).1.2.2.2.2.1,(f3 b hb).1.2.2.2.2.2⟩
  refine⟨let ⟨m,hm,_⟩:=I'.loc;⟨m,hm⟩,Ib,⟨I'.free,λz=>?_,I3.nofs (Oi _),P2 I3.sz,λx c e z=>?_,λp hp z=>?_⟩⟩
  ·have:=I3.lt;rw[←z] at this;exact Pm _ this
  ·obtain⟨v,o,ho,_⟩:=I3.cell x c e;have:=OF ho;rw[z] at this;exact Pm _ this
  ·obtain⟨e,_⟩:=I3.pin p hp;have:=OF e;rw[z] at this;exact Pm _ this
 have loop:Ro (OM X.prog X.w) X.A (.compLoop (.ListComp elt [⟨tg,iter,ifs,0⟩] scope pos) 0 (.ref it) (.ref D) (SG scope cl h3.objs.size X.env)) (RR (.ref D) h3.objs.size) { s2 with heap:=h₄,toks:=s2.toks+([]:List (OV×Value)).length}:=by
  refine nS (λn s'=>∃i ys H',Inv (jM X N' scope cl h3.objs.size fp pins { s2 with heap:=h3} (upd H2 D (.lst []))) [] (cc src σ) H' s'/\tn i s'.heap/\(∀b∈fp,H' b=none)/\W i n ys H') ?_ m0 ⟨0,[],_,I4,st4,fpn,w0⟩;rintro n s5 ⟨i,ys,H5,I5,st5,fr5,w5⟩;rcases turn i n ys H5 w5 with⟨stop,qn⟩ | ⟨go,step⟩
  ·refine bK (T.done (jM X N' scope cl h3.objs.size fp pins { s2 with heap:=h3} (upd H2 D (.lst []))) rfl rfl rfl hc i [] s5 _ H5 _ I5 (stat fr5) st5 stop) λr s6 ⟨hr,I6⟩=>?_
   subst hr;obtain⟨b1,b2,b3⟩:=back I6;exact hRR D _ H5 s6 qn b1 b2 b3
  ·refine bK (T.item (jM X N' scope cl h3.objs.size fp pins { s2 with heap:=h3} (upd H2 D (.lst []))) rfl rfl rfl hc i [] s5 _ H5 _ I5 (stat fr5) st5 go) λr s6 ⟨u,hr,h6⟩=>?_
   subst hr;refine bK h6 λ_ s7 ⟨x,H7,I7,r7,y7,st7,fr7⟩=>?_
   have I7':=I7.pinned (stat fr7) (T.obj _ _ st7);refine bK (hg _ _ _ _ _ _ s7 _ H7 x u _ I7' r7 (step x H7 y7)) λ_ s8 ⟨σ8,H8,I8,ex8,q8⟩=>?_
   refine bK (ht _ _ _ _ _ _ s8 σ8 H8 _ I8 q8) λok s9 ⟨H9,I9,q9⟩=>?_
   have again:∀{ys':List V} {Ha:Hp} {sa:Om},Inv (jM X N' scope cl h3.objs.size fp pins { s2 with heap:=h3} (upd H2 D (.lst []))) ([]++jD fp s7.heap) σ8 Ha sa->(∃m',m'<n/\W (i+1) m' ys' Ha)→
     ∃m,m<n/\∃i ys H',Inv (jM X N' scope cl h3.objs.size fp pins { s2 with heap:=h3} (upd H2 D (.lst []))) [] (cc src σ) H' sa/\tn i sa.heap/\(∀b∈fp,H' b=none)/\W i m ys H':=λ{ys' Ha sa} Ia ⟨m',hm,wa⟩=>by
    refine⟨m',hm,i+1,ys',Ha,(Ia.unpinned).weak ex8.1.symm ex8.2,T.keep _ _ _ st7 λb hb o e=>(Ia.pin (b,o) (OE _ (OE _ (eN hb e)))).1,λb hb=>?_,wa⟩;obtain⟨o,e,_⟩:=T.obj _ _ st7 b hb;exact(Ia.pin (b,o) (OE _ (OE _ (eN hb e)))).2.1
   cases ok with
   |false=>exact again I9 q9
   |true=>
    refine bK (he _ _ _ _ _ _ s9 σ8 H9 _ I9 q9) λy s10 ⟨yv,H10,I10,r10,q10,hz,wn⟩=>?_
    refine bK (bV _ s10 σ8 H10 (.ref D) [yv] (.ref D) [y] (λ_ Hz=>∃m',m'<n/\W (i+1) m' (ys++[yv]) Hz) I10 Z (.cons r10 .nil) ⟨D,ys,yv,Z,Z,q10,hz,wn⟩) λ_ s11 ⟨_,H11,I11,_,q11⟩=>?_
    exact again I11 q11
 exact UQ loop (T.self _ 0 _ _ _ st4 loop)
theorem zS(hc:X.calm=true)(hi:PI X tg iter wi)(hg:∀C fp pins s H,PG (jM X N' scope cl C fp pins s H) tg g)(ht:∀C fp pins s H,Ew (jM X N' scope cl C fp pins s H) ifs tt)
  (he:∀C fp pins s H,PE (jM X N' scope cl C fp pins s H) elt te) (hfree:cu X scope cl N' src) (hclos:SU scope X.env=Qm cl) (hcell:∀x∈scope.names,x.2≠.cell) (hkind:scope.kind=.function)
  (hnames:∀x∈scope.names,x.2=.local->scope.names.lookup x.1=some .local) (hcl:fC X scope cl) (hs:∀x,P7 iter X.env x=Qm x:=by intro _;rfl) :
  PE X (.ListComp elt [⟨tg,iter,ifs,0⟩] scope pos) (iU wi src g tt te):=by
 intro pins s σ H Q I h;rw[eval_ListComp];refine Sn (use:=none) Z hs hclos hkind hnames (qW hc hi hg ht he hfree hcell hkind hcl (RR:=λacc C=>compPost (OM X.prog X.w) X.A X.xe none (EP X pins σ Q) acc C) I h λD C H' s' q hm hI hb=>?_);obtain⟨m,hm⟩:=hm;exact⟨m,hm,λh' sb=>⟨.ref D,H',hb.turned hI sb,Z,q⟩⟩
theorem Cr{i:Nat}{x:OV}{pos' pos2:R1}(hN:X.N.Nodup)(hi':X.N[i]?=some x)(hx:wU X.env.scope x)(hc:X.calm=true)(hi:PI X tg iter wi)(hg:∀C fp pins s H,PG (jM X N' scope cl C fp pins s H) tg g)(ht:∀C fp pins s H,Ew (jM X N' scope cl C fp pins s H) ifs tt)
  (he:∀C fp pins s H,PE (jM X N' scope cl C fp pins s H) elt te) (hfree:cu X scope cl N' src) (hclos:SU scope X.env=Qm cl) (hcell:∀x∈scope.names,x.2≠.cell) (hkind:scope.kind=.function)
  (hnames:∀x∈scope.names,x.2=.local->scope.names.lookup x.1=some .local) (hcl:fC X scope cl) (hs:∀x,P7 iter X.env x=Qm x:=by intro _;rfl)
  (hsw:QV (.ListComp elt [⟨tg,iter,ifs,0⟩] scope pos) (some (.Name x pos')) pos2.line X.env=Qm true:=by rfl) (hf:X.fn x=true∨X.env.scope.names.lookup x=some .local:=by first|exact .inl Z|exact .inr Z|assumption) :
  PS X (.Assign [.Name x pos'] (.ListComp elt [⟨tg,iter,ifs,0⟩] scope pos) pos2) (ou (iU wi src g tt te) (jd i)):=by
 intro pins s σ H D I h;rw[U7 _ _ _ _ hsw];refine Oj (RY ?_);show OJ _ _ ((comprehension (.ListComp elt [⟨tg,iter,ifs,0⟩] scope pos) scope X.env _ (W3 []) false (eval iter X.env) (some (SR (.Name x pos') X.env)) >>= λ_=>Qm ()) >>= λ_=>Qm Wz) _ _ s;refine Oj (Oj (Qh (Sn (use:=some (SR (.Name x pos') X.env)) (Q:=λ_ s''=>SP X pins D .next s'') Z hs hclos hkind hnames (qW hc hi hg ht he hfree hcell hkind hcl (RR:=λacc C=>compPost (OM X.prog X.w) X.A X.xe (some (SR (.Name x pos') X.env)) (λ_ s''=>SP X pins D .next s'') acc C) I h λE C H' s' q hm hI hb=>?_)) (λ_ s'' h''=>OC (OC h'')) λ_ _ e=>e));obtain⟨m,o,es,ep,ho,hd,r1,r2⟩:=hm;have I':Inv X (pins++[(C,o)]) σ H' s':=hI.pins_of λp hp=>by
  rcases OU.mp hp with h|h
  ·exact hI.pin p (OE _ h)
  ·rw[Ox] at h;rw[h];exact⟨ho,hb.no,hb.lo,hb.fs,λv z=>by rw[hd] at z;cases z⟩
 refine TW (eV I' hN hi' hx (show aZ (.ref E) (.ref E) from Z) (λs'' I''=>?_) hf);have hC:=(I''.pin (C,o) (OE _ (OE _ Oq))).1;have I3:Inv X pins (σ.set i (some (.ref E))) H' s'':=I''.pins_of λp hp=>I''.pin p (OE _ (O6 _ hp))
 exact⟨m,⟨o,es,ep,hC,hd,r1,r2⟩,λh' sb=>⟨_,H',hb.turned I3 sb,q⟩⟩
end
def IP(K:Of):R2:=λx y H Q=>∃d d',bh K H x d/\bh K H y d'/\d.canLay0=true/\d'.canLay0=true/\d.depth≤32/\Q (.bl (!PyData.eqv d d')) H
theorem iL(hr:cT k X.A):gh X (Pz .NotEq) (IP X.K):=by
 intro pins s σ H x y v u Q I rx ry h;obtain⟨d,d',hd,hd',c,c',dp,q⟩:=h;obtain⟨as,ra⟩:=bh.reads I hd rx;obtain⟨bs,rb⟩:=bh.reads I hd' ry;exact SeqAt.compareNe_reads ra rb c c' (by have:=hr.units;omega) ⟨.bl _,H,I,Z,q⟩
noncomputable def L4 (h:Oy) (x:Value) (d:PyData) (y:Value):Bool:=
 open Classical in if y=x then true else if z:∃d',d'.canLay0=true/\d'.depth≤32/\∃as,Reads h y d' as then Pn z.choose d else false
def Ey(K:Of)(H:Hp)(xs:List V):Prop:=∀x∈xs,∃d,bh K H x d/\d.canLay0=true/\d.depth≤32
def J6(K:Of):R2:=λx y H Q=>∃a p xs,x=.ref a/\y=.ref p/\ba K H p xs/\V.ref a∈xs/\Ey K H xs/\Q (.bl false) H
def Ka(K:Of):V->List V->Hp->VK->Prop:=λx vs H Q=>∃p xs a d,x=.ref p/\vs=[.ref a]/\ba K H p xs/\V.ref a∈xs/\Ey K H xs/\bh K H (.ref a) d/\d.canLay0=true/\d.depth≤32∧
 ∀(j:Nat) (v':V),xs[j]?=some v'->(v'=.ref a∨∀d',bh K H v' d'->d'.canLay0=true->Pn d' d=true)->Q (.int j) H
end B
namespace B
abbrev R:=Int×Int
def dZ(a b:Int):R:=(a/(OG a b:Int),b/(OG a b:Int))
structure Wf(n:Nat)(r:R):Prop where
 pos:0<r.2
 top:r.1.natAbs<2^n
 bot:r.2.natAbs<2^n
 cop:OG r.1 r.2=1
theorem Wf.mono(h:Wf n r)(l:n≤m):Wf m r:=⟨h.pos,OI h.top (P4 (by decide) l),OI h.bot (P4 (by decide) l),h.cop⟩
theorem bQ(hb:0<b):0<(OG a b:Int):=by
 have h:OG a b≠0:=λz=>by
  have:=(Int.gcd_eq_zero_iff.mp z).2;omega
 omega
theorem fU(a:Int)(hg:0<g):(a/g).natAbs≤a.natAbs:=by
 have h1:=Int.ediv_mul_le a (show g≠0 by omega);have h2:=Int.lt_ediv_add_one_mul_self a hg;rcases Int.le_total 0 a with h|h
 ·have h3:=RS h (show 0≤g by omega);have h4:a/g≤a/g*g:=by
   have:a/g*1≤a/g*g:=RI (by omega) h3;omega
  omega
 ·have h3:a/g≤0:=by
   have:=Int.ediv_le_ediv hg h;rw[Int.zero_ediv] at this;exact this
  have h5:a≤a/g:=by
   have:a/1≤a/g:=by
    have q:(a/g+1)*g≤(a/g+1)*1∨0<a/g+1:=by
     rcases Int.le_total (a/g+1) 0 with z|z
     ·left;have:=RI (a:=1) (b:=g) (c:=-(a/g+1)) (by omega) (by omega);have e1:-(a/g+1)*1=-((a/g+1)*1):=WQ _ _;have e2:-(a/g+1)*g=-((a/g+1)*g):=WQ _ _;omega
     ·rcases Int.lt_or_eq_of_le z with z|z
      ·right;exact z
      ·left;rw[←z];simp
    rw[UL];rcases q with q|q
    ·omega
    ·omega
   rw[UL] at this;exact this
  omega
theorem GN(hb:0<b)(h1:a.natAbs<2^n)(h2:b.natAbs<2^n):Wf n (dZ a b):=
 ⟨Sa hb (Qg (bQ hb)) (Rq a b),Pq (fU _ (bQ hb)) h1,Pq (fU _ (bQ hb)) h2,Si (by have:=bQ (a:=a) hb;omega)⟩
def cn(r q:R):R:=dZ (r.1*q.2+q.1*r.2) (r.2*q.2)
def fQ(r q:R):R:=dZ (r.1*q.1) (r.2*q.2)
def dW(r q:R):Bool:=decide (r.1*q.2<q.1*r.2)
end B
namespace B
open PySem L2 PyProof.Rows
def Ll(i j:Int):Prop:=i.natAbs<2^4000/\j.natAbs<2^4000
def Li(_ j:Int):Prop:=0<j/\j.natAbs<2^4000
theorem uY(h:i.natAbs<2^4000):Vv i≤2^20:=by
 unfold Vv
 split
 ·exact ON _
 ·rename_i z;have hz:i.natAbs≠0:=λq=>z (by
   have:i=0:=by omega
   rw[this];rfl)
  have:=(Ve hz).mpr h;have e:(2:Nat)^20=1048576:=by decide
  omega
section
variable {X:Cx}
theorem fq:gh X (RE .Mult) (rI Ll λi j=>.int (i*j)):=HN λ_ _ _ _ _ _ _ hc q=>mul_int q (IntMulOk.of_bits (uY hc.1) (uY hc.2))
theorem dD:gh X (RE .FloorDiv) (rI Li λi j=>.int (i/j)):=HN λi j _ _ _ _ _ hc q=>by
 have h1:(0:Int)<j:=hc.1;have h2:j.natAbs<2^4000:=hc.2;refine floordiv_int (by omega) (by rw[Tw i (by omega)];exact q) (.inl (PyProof.noPylong_of_log2 ?_));exact Wc ((Ve (show j.natAbs≠0 by omega)).mpr h2) (by decide)
end
def aV(K:Of)(H H':Hp):Prop:=∀p xs,bu K H p xs->bu K H' p xs
theorem aV.trans{K:Of}{H H1 H2:Hp}(a:aV K H H1)(b:aV K H1 H2):aV K H H2:=λp xs h=>b p xs (a p xs h)
theorem aV.same{K:Of}{H H':Hp}(s:aD H H'):aV K H H':=λp xs h=>by
 rcases h with(h | ⟨o,h⟩)|h
 ·exact .inl (.inl (s _ _ h))
 ·exact .inl (.inr ⟨o,s _ _ h⟩)
 ·exact .inr h
theorem aV.new{K:Of}{H:Hp}{p:Addr}(h:H p=none)(o:HO):aV K H (upd H p o):=aV.same (ao h o)
theorem aV.step{K:Of}{t:Addr}{H H':Hp}(S:dP t H H'):aV K H H':=λp xs h=>by
 obtain⟨ys,ht⟩:=S.tp;rcases h with(h | ⟨o,h⟩)|h
 ·exact .inl (.inl (S.keep _ _ (λz=>by subst z;rw[h] at ht;cases ht) h))
 ·exact .inl (.inr ⟨o,S.keep _ _ (λz=>by subst z;rw[h] at ht;cases ht) h⟩)
 ·exact .inr h
theorem aV.up{K:Of}{H:Hp}{l:Addr}{xs:List V}(h:H l=some (.lst xs))(ys:List V):aV K H (upd H l (.lst ys)):=aV.step (dP.up h)
def RV(K:Of)(H:Hp)(v:V)(r:R):Prop:=∃p,v=.ref p/\bu K H p [.int r.1,.int r.2]
theorem RV.mono{K:Of}{H H':Hp}{v:V}{r:R}(h:RV K H v r)(t:aV K H H'):RV K H' v r:=let ⟨p,e,q⟩:=h;⟨p,e,t _ _ q⟩
theorem RV.of{K:Of}{H:Hp}{p:Addr}{a b:Int}(h:H p=some (.tup [.int a,.int b])):RV K H (.ref p) (a,b):=⟨p,Z,bu.of h⟩
def Kl(K:Of)(H:Hp)(xs:List V)(rs:List R):Prop:=xs.length=rs.length/\∀(i:Nat) (x:V) (r:R),xs[i]?=some x->rs[i]?=some r->RV K H x r
theorem Kl.at{K:Of}{H:Hp}{xs:List V}{rs:List R}{i:Nat}{x:V}(h:Kl K H xs rs)(e:xs[i]?=some x):∃r,rs[i]?=some r/\RV K H x r:=by
 have hi:=(OH.mp e).1;have hj:i<rs.length:=by rw[←h.1];exact hi
 exact⟨rs[i],Oh hj,h.2 i x _ e (Oh hj)⟩
def IW(r:R):Nat->R
 |0=>(1,1)
 |k+1=>fQ (IW r k) r
def oA(rs:List R):R:=rs.foldl cn (0,1)
def dR(r:R):PyData:=.tuple [.int r.1,.int r.2]
theorem RV.deep{K:Of}{H:Hp}{v:V}{r:R}(h:RV K H v r):bh K H v (dR r):=by
 obtain⟨p,rfl,q⟩:=h;exact .tup q (.cons (.int _) (.cons (.int _) .nil))
theorem A8(r:R):(dR r).canLay0=true:=Z
theorem jj(r:R):(dR r).depth≤32:=by show WO 0 (WO 0 0)+1≤32;decide
theorem GQ{i:Int}(h:i.natAbs<2^n)(hn:n≤1900):i.natAbs.log2<1920:=by
 by_cases z:i.natAbs=0
 ·rw[z];decide
 ·have:=(Ve z).mpr (OI h (P4 (by decide) hn));omega
theorem GS(h:i.natAbs<2^n)(hn:n≤1900):(Xh i).shown.length≤1921:=by
 have q:=int_text_length_le (a:=i) (k:=1920) (by decide) (GQ h hn);have e:(Xh i).shown.length=(toString i).length:=by
  show(Pb (toString i)).length=_;exact PySem.ofString_length _
 omega
theorem AU(h:Pn (dR r) (dR q)=true):r=q:=by
 have z:(r.1==q.1&&(r.2==q.2&&true))=true:=h;simp only[S0,OA,beq_iff_eq] at z;exact Vd z.1 z.2
theorem mz(r:R):Pn (dR r) (dR r)=true:=by
 show(r.1==r.1&&(r.2==r.2&&true))=true;simp
end B
namespace B
open PySem L2 PyProof.Rows
def dL(rs:List R):PyData:=.list (rs.map dR)
def Jt(K:Of)(tl:TE):TI:=λσ H R=>tl σ H λx H1=>(∃a,x=.ref a/\(∃xs,ba K H1 a xs)/\R (Bz K a) H1)∨(∃a,x=.ref a/\(∃xs,bu K H1 a xs)/\R (By K a) H1)
theorem FU(hl:PE X l tl):PI X tg l (Jt X.K tl):=by
 intro pins s σ H R I h;refine bK (hl pins s σ H _ I h) λv s1 ⟨x,H1,I1,r1,q1⟩=>?_
 rcases q1 with⟨a,e,⟨xs,hq⟩,q⟩ | ⟨a,e,⟨xs,hq⟩,q⟩
 ·subst e;cases r1;obtain⟨its,rv,p,hz⟩:=I1.list hq;refine TY p.isList ?_;refine⟨s1.heap.objs.size,[s1.heap.objs.size],_,_,H1,Z,I1.kept (t':=s1.toks) λb o e=>On _ e,mZ a _,⟨_,OO _ Z,Z,Z⟩,λb hb=>?_,q⟩;have e:b=s1.heap.objs.size:=by simpa using hb
  subst e;exact I1.fpOk (Oi _) (I1.hok.fresh (Oi _))
 ·subst e;cases r1;obtain⟨its,rv,p,hz⟩:=I1.tuple hq;refine RM (show s1.heap.IsTuple a its.toArray from p) ?_;refine⟨s1.heap.objs.size,[s1.heap.objs.size],_,_,H1,Z,I1.kept (t':=s1.toks) λb o e=>On _ e,kP a _,⟨_,OO _ Z,Z,Z⟩,λb hb=>?_,q⟩;have e:b=s1.heap.objs.size:=by simpa using hb
  subst e;exact I1.fpOk (Oi _) (I1.hok.fresh (Oi _))
end B
namespace B
structure iP(r:R):Prop where
 pos:0<r.2
 cop:OG r.1 r.2=1
theorem hU(hb:0<b):iP (dZ a b):=
 ⟨Sa hb (Qg (bQ hb)) (Rq a b),Si (by have:=bQ (a:=a) hb;omega)⟩
theorem eW(hb:0<b)(hy:0<y)(g:OG x y=1)(e:x*b=a*y):dZ a b=(x,y):=by
 have h1:OG (a*y) (b*y)=OG a b*y.natAbs:=Wd a y b;have h2:OG (x*b) (y*b)=OG x y*b.natAbs:=Wd x b y;rw[e,Rr y b,h1,g,Nat.one_mul] at h2;have h3:(OG a b:Int)*y=b:=by
  have z:((OG a b*y.natAbs:Nat):Int)=(b.natAbs:Int):=congrArg _ h2;rw[Td,Vf (by omega),Vf (by omega)] at z;exact z
 have gp:=bQ (a:=a) hb;have h4:a=x*(OG a b:Int):=by
  have z:x*(OG a b:Int)*y=a*y:=by rw[VD,h3];exact e
  exact(Sb (by omega) z).symm
 unfold dZ;generalize (OG a b:Int)=G at h3 h4 gp;subst h4;subst h3;rw[Int.mul_ediv_cancel _ (by omega),OT _ (by omega)]
theorem gS(h:OG a b=1)(d:c∣a):OG c b=1:=
 VR.mpr λz h1 h2=>VR.mp h z (So h1 d) h2
theorem hZ(h:OG a b=1)(d:c∣b):OG a c=1:=by
 rw[Q3];exact gS (by rw[Q3];exact h) d
theorem kH(h:OG a b=1)(k:OG a c=1):OG a (b*c)=1:=by
 rw[Int.gcd_mul_right_right_of_gcd_eq_one h];exact k
theorem jk(h:OG a c=1)(k:OG b c=1):OG (a*b) c=1:=by
 rw[Q3];exact kH (by rw[Q3];exact h) (by rw[Q3];exact k)
theorem fD(hb:0<b):∃g x y:Int,(OG a b:Int)=g/\0<g/\a=g*x/\b=g*y/\OG x y=1:=by
 have gp:=bQ (a:=a) hb;obtain⟨x,hx⟩:=WD a b;obtain⟨y,hy⟩:=Rq a b;refine⟨_,x,y,Z,gp,hx,hy,?_⟩;have z:=Si (i:=a) (j:=b) (by omega);have e1:a/(OG a b:Int)=x:=by
  conv=>lhs;lhs;rw[hx]
  exact OT _ (by omega)
 have e2:b/(OG a b:Int)=y:=by
  conv=>lhs;lhs;rw[hy]
  exact OT _ (by omega)
 rw[e1,e2] at z;exact z
theorem iK{g y b:Int}(hb:0<b)(hg:0<g)(e:b=g*y):0<y:=by
 rcases Int.lt_or_le 0 y with h|h
 ·exact h
 ·have:=RI h (Qg hg);rw[Int.mul_zero] at this;omega
def qI(r q:R):R:=
 let d:Int:=(OG r.2 q.2:Nat);let t:=r.1*(q.2/d)+q.1*(r.2/d);let e:Int:=(OG t d:Nat)
 (t/e,r.2/d*(q.2/e))
theorem zJ(hr:iP r)(hq:iP q):qI r q=cn r q:=by
 obtain⟨d,u,v,e0,dp,e1,e2,cuv⟩:=fD (a:=r.2) hq.pos;have up:=iK hr.pos dp e1;have vp:=iK hq.pos dp e2;obtain⟨e,x,w,f0,ep,f1,f2,cxw⟩:=fD (a:=r.1*v+q.1*u) dp;have wp:=iK dp ep f2;have du:r.2/d=u:=by rw[e1];exact OT _ (by omega)
 have dv:q.2/d=v:=by rw[e2];exact OT _ (by omega)
 have te:(r.1*v+q.1*u)/e=x:=by rw[f1];exact OT _ (by omega)
 have qe:q.2/e=w*v:=by rw[e2,f2,VD];exact OT _ (by omega)
 have c1:OG r.1 u=1:=hZ hr.cop ⟨d,by rw[e1,Rr]⟩;have c2:OG q.1 v=1:=hZ hq.cop ⟨d,by rw[e2,Rr]⟩;have xd:x∣(r.1*v+q.1*u):=⟨e,by rw[f1,Rr]⟩;have t1:OG (r.1*v+q.1*u) u=1:=by
  rw[Q3,To,Q3];exact jk c1 (by rw[Q3];exact cuv)
 have t2:OG (r.1*v+q.1*u) v=1:=by
  rw[Int.add_comm,Q3,To,Q3];exact jk c2 cuv
 have cx:OG x (u*(w*v))=1:=kH (gS t1 xd) (kH cxw (gS t2 xd));have z:qI r q=(x,u*(w*v)):=by
  unfold qI;simp only[e0,du,dv,f0,te,qe]
 rw[z];unfold cn;refine(eW (Ql hr.pos hq.pos) (Ql up (Ql wp vp)) cx ?_).symm;have k:r.1*q.2+q.1*r.2=d*(e*x):=by
  rw[e1,e2,←f1,Int.mul_add];rw[SH r.1 d v,SH q.1 d u]
 rw[k,e1,e2];have k2:d*u*(d*v)=d*u*(e*w*v):=by rw[←f2]
 rw[k2]
 ac_rfl
def kQ(r q:R):R:=
 let l:Int:=(OG r.1 q.2:Nat);let m:Int:=(OG q.1 r.2:Nat)
 (r.1/l*(q.1/m),r.2/m*(q.2/l))
theorem vt(hr:iP r)(hq:iP q):kQ r q=fQ r q:=by
 obtain⟨l,a,b,e0,lp,e1,e2,cab⟩:=fD (a:=r.1) hq.pos;obtain⟨m,c,d,f0,mp,f1,f2,ccd⟩:=fD (a:=q.1) hr.pos;have bp:=iK hq.pos lp e2;have dp:=iK hr.pos mp f2;have z:kQ r q=(a*c,d*b):=by
  unfold kQ;simp only[e0,f0];rw[show r.1/l=a by rw[e1];exact OT _ (by omega),show q.2/l=b by rw[e2];exact OT _ (by omega),
   show q.1/m=c by rw[f1];exact OT _ (by omega),show r.2/m=d by rw[f2];exact OT _ (by omega)]
 have cad:OG a d=1:=gS (hZ hr.cop ⟨m,by rw[f2,Rr]⟩) ⟨l,by rw[e1,Rr]⟩;have ccb:OG c b=1:=gS (hZ hq.cop ⟨l,by rw[e2,Rr]⟩) ⟨m,by rw[f1,Rr]⟩;rw[z];unfold fQ;refine(eW (Ql hr.pos hq.pos) (Ql dp bp) (kH (jk cad ccd) (jk cab ccb)) ?_).symm;rw[e1,e2,f1,f2]
 ac_rfl
theorem zI(hr:iP r)(hq:iP q):iP (cn r q):=hU (Ql hr.pos hq.pos)
end B
namespace B
open PySem L2 PyProof.Rows
def Mj(_ j:Int):Prop:=j≠0/\j.natAbs<2^4000
def MW(a b:Int):R:=if b<0 then dZ (-a) (-b) else dZ a b
def bG(r q:R):R:=dZ (r.1*q.2-q.1*r.2) (r.2*q.2)
def Jc(r q:R):R:=MW (r.1*q.2) (r.2*q.1)
structure Mc(d:PyData):Prop where
 sh:d.showable=true
 nd:d.hasDict=false
 sz:d.shown.length≤5000
 dp:d.depth≤8
end B
namespace B
theorem nL(hb:0<b):(dZ a b).1*b=a*(dZ a b).2:=by
 obtain⟨g,x,y,_,gp,e1,e2,c⟩:=fD (a:=a) hb;have yp:=iK hb gp e2;have e:x*b=a*y:=by rw[e1,e2];ac_rfl
 rw[eW hb yp c e];exact e
theorem qM(r q:R):cn r (-q.1,q.2)=bG r q:=by
 unfold cn bG;rw[WQ,←Int.sub_eq_add_neg]
end B
namespace B
open PySem PySem.Spec L2 PyProof.Rows
section
variable {prog:O0}{w:Pk}{A:O5}{E:Value->Om->Prop}{h:Oy}{g:Array GenState}{d:Drawn}{t:Nat}{os:OsState}{K:Of}
variable {nm q:OV}{C N:Addr}{bs bm bmB:List Value}{hdct:Bool}{sn:List OV}{sub:List Value}{ab:Bool}{col:Option Bool}{dd:Option Addr}{k0 k1 k2 k3 k5:Option Value}{bN newId initId:String}
theorem pN(F:ExcBaseFacts bN newId initId bmB)(T:We h bmB bm){cQ:List Value}(X:K.In h)
  (hC:h.get? C=some (Q8 nm q C N bs bm hdct sn sub ab col dd k0 k1 k2 k3 k5 newId)) (hi:O2 K (.ref C) "__init__"=some (some (.ref fI))) (hf:SD K (.ref fI)=some (.type "function"))
  (hq:∀h' e,Xi h h' e (.ref C) cQ->OJ (OM prog w) A (call (.ref fI) (.ref e:: cQ)) (λr s'=>r=.none/\Q (.done (.ret (.ref e))) s') E ⟨h',g,d,t,os⟩) (hz:cQ.length≤sizeLine):
  OJ (OM prog w) A (Pa.«type.__call__» ⟨.ref C:: cQ,[]⟩) Q E ⟨h,g,d,t,os⟩:=by
 repeat(first
  |with_reducible refine wpAny_loadPart_at hC ?_
  |with_reducible refine wpAny_madeBy_exc hC ?_
  |wp_step)
 refine codeAny_call_builtin_code (VS _ F.quiet)
  (wpAny_check_new_subT F T hC ?_)
 refine codeAny_exc_new_subT F T hC ?_ hz;show OJ _ _ _ _ _ _;have up:∀b o,h.get? b=some o->((h.push { cls:=.type "tuple",data:=.seq cQ.toArray}).push
   { cls:=.ref C,data:=.fields #[.ref h.objs.size,.none,.none,.none,.bool false,.none]}).get? b=some o:=λb o e=>
  On _ (On _ e)
 have hC₁:=up _ _ hC;have X₁:=X.keeps up;have hx:((h.push { cls:=.type "tuple",data:=.seq cQ.toArray}).push
   { cls:=.ref C,data:=.fields #[.ref h.objs.size,.none,.none,.none,.bool false,.none]}).get? (h.objs.size+1)=
   some { cls:=.ref C,data:=.fields #[.ref h.objs.size,.none,.none,.none,.bool false,.none]}:=by heap_get
 have hcC:(OP C::bm).contains (.ref C)=true:=by simp
 unfold Xj
 repeat(first
  |with_reducible refine wpAny_loadPart_at hx ?_
  | (with_reducible refine wpAny_isSubtype_exc hC₁ ?_
     rw[hcC])
  |wp_step)
 show OJ _ _ (typeLookup (.ref C) _) _ _ _;refine(Rp X₁ hi) _ _ _ _ (λ_ _ e=>e) ?_;refine wpAny_holding (Oj ?_);refine(WW X₁ _ hf) _ _ _ _ (λ_ _ e=>e) ?_;refine Oj (Qh (hq _ (h.objs.size+1)
  ⟨up,P2 (Qw _),h.objs.size,hx,P2 (Oi _),?_⟩) (λr s' hr=>?_) λ_ _ y=>y)
 ·exact On _ (Oy.get?_push_at Z Z)
 ·obtain⟨rfl,hQ⟩:=hr
  wp_walk
  exact hQ
theorem AQ(F:ExcBaseFacts bN newId initId bmB)(T:We h bmB bm){cQ:List Value}(X:K.In h)
  (hC:h.get? C=some (Q8 nm q C N bs bm hdct sn sub ab col dd k0 k1 k2 k3 k5 newId)) (hi:O2 K (.ref C) "__init__"=some (some (.ref fI))) (hf:SD K (.ref fI)=some (.type "function"))
  (hq:∀h' e,Xi h h' e (.ref C) cQ->OJ (OM prog w) (A.under (.builtin "type.__call__" ⟨.ref C:: cQ,[]⟩)) (call (.ref fI) (.ref e:: cQ)) (λr s'=>r=.none/\Q (.ref e) s') E ⟨h',g,d,t,os⟩) (hz:cQ.length≤sizeLine):
  OJ (OM prog w) A (call (.ref C) cQ) Q E ⟨h,g,d,t,os⟩:=by
 have f1:=tc_lookup;have f2:=tc_bind (.ref C);have hT:(⟨h,g,d,t,os⟩:Om).TypeIs (.ref C) "type" := ⟨_,hC,Z⟩;refine TB (codeAny_of_tree ?_);show OJ _ _ (callAny (.ref C) _) _ _ _
 repeat(any_goals(first
  |assumption
  |with_reducible refine wpAny_loadPart_at hC ?_
  |wp_step))
 refine⟨Z,?_⟩;refine codeAny_call_builtin_at (VS _ (by decide +kernel)) entry_typeCall
  (wpAny_check_type_call_sub hC (pN F T X hC hi hf (λh' e hm=>?_) hz))
 exact hq h' e hm
end
def j4:List Value:=[.type "ValueError",.type "Exception",.type "BaseException",.type "object"]
structure jq(K:Of)(C:Addr)(bm:List Value):Prop where
 ob:∃nm q N bs hdct sn sub ab col dd k0 k1 k2 k3 k5,K.lookup C=some (Q8 nm q C N bs bm hdct sn sub ab col dd k0 k1 k2 k3 k5 "ValueError.__new__")
 tl:∀h:Oy,K.In h->We h j4 bm
 hd:R6 K C=true
 sa:O2 K (.ref C) "__setattr__"=some (some (.builtin "object.__setattr__"))
theorem Da(T:We h j4 tl)(self:Value):refuseLoop self "__setattr__" tl=Qm ():=by
 induction T with
 |base=>exact PySem.F.store_ValueError.passes self
 |own _ _ _ _ ih=>rw[refuseLoop_ref];exact ih
theorem mF{K:Of}{C:Addr}{bm:List Value}(c:jq K C bm):∃cd,Xw K C=some cd/\cd.mro=.ref C::bm:=by
 obtain⟨nm,q,N,bs,hdct,sn,sub,ab,col,dd,k0,k1,k2,k3,k5,lk⟩:=c.ob;unfold Xw;rw[lk];exact⟨_,Z,Z⟩
section
variable {prog:O0}{w:Pk}{A:O5}{s:Om}{K:Of}{x C:Addr}{R:WC->Om->Prop}
theorem np(X:K.In s.heap)(I:Qr s.heap x ox C od)(c:jq K C bm)(n:cO K C name)
  (h:∀b,OJ (OM prog w) A.in1 (Pa.ObjectAttr.storeInOwnDict (.ref x) (.ref C) (.str name tk) name v b) (λfin s'=>match fin with
   | .done f=>R (.ok f) s'
   | .again c'=>c'.quiet=true/\Ro (OM prog w) A c' R s') (λe s'=>R (.error e) s') s):
  Ro (OM prog w) A (.call (.builtin "object.__setattr__") ⟨[.ref x,.str name tk,v],[]⟩) R s:=by
 have sf:=PySem.F.store_object;obtain⟨cd,hc,hm⟩:=mF c;have T:=c.tl _ X;have hob:(OP C::bm).contains (.type "object")=true:=by
  rw[QH,T.hasType (X := "object") (b:=true) (by decide +kernel),Sd]
 have isO:QN (OM prog w) s.heap (Xj (.ref x) (.type "object")) true:=by
  refine I.type.andThen (Vw X ?_);unfold SZ;rw[hc];show(if cd.mro.isEmpty=true then none else some (cd.mro.contains (.type "object")))=some true;rw[hm,hob];rfl
 have ms:QN (OM prog w) s.heap (mroOf (.ref C)) (.ref C::bm):=by
  rw[←hm];exact(Sj X hc).andThen .now
 refine Vg sf.slot.plain sf.entry (VT (i := "object.__setattr__") (owner := "object") (n := "__setattr__") sf.kind sf.split isO (sf.args _ _ _) ?_);rw[PySem.W.osa_eq,refuse_eq];refine Oj (Oj (I.type.here (Oj (ms.here ?_))));rw[refuseLoop_ref,Da T];refine OC (Oj (I.type.here (Oj ((Rp X n).here (Oj ?_)))));exact RN (r:=none) .now (h _)
end
def JU(a C:Addr)(dx:Option Addr):Oy->Prop:=λh=>∃t:Addr,h.get? a=some { cls:=.ref C,dict:=dx,data:=.fields #[.ref t,.none,.none,.none,.bool false,.none]}
def jh(a C:Addr)(dx:Option Addr):HO:=.ext (JU a C dx)
theorem AR(e:JU a C dx h):ObjOk P w H h a (jh a C dx):=
 ⟨e,let ⟨_,q⟩:=e;⟨_,q⟩,λ_ _ ⟨t,q⟩ k=>⟨t,k _ q⟩⟩
def A6(H:Hp)(a:Addr):Hp:=λb=>if b=a then none else H b
theorem ji:A6 H a a=none:=by unfold A6;rw[if_pos Z]
theorem gR(h:b≠a):A6 H a b=H b:=by unfold A6;rw[if_neg h]
section
variable {X:Cx}{pins:List (Addr×P0)}{σ:L2.St}{H:Hp}{s:Om}{a C:Addr}{dx:Option Addr}
theorem Inv.forget(I:L2.Inv X pins σ H s)(e:H a=some (.ext φ))(new:X.s₀.heap.get? a=none):L2.Inv X pins σ (A6 H a) s:=by
 have none_of:∀b,H b=none->A6 H a b=none:=λb h=>by
  by_cases z:b=a
  ·rw[z];exact ji
  ·rw[gR z];exact h
 refine⟨I.ok,I.os,I.bare,⟨I.base.keep,I.base.slot,λb o q n hx=>none_of b (I.base.free b o q n hx),I.base.there,λb xs q=>?_,λb o u q=>?_,λb ps q=>?_⟩,I.loc,I.cell,none_of _ I.free,λx c q=>none_of _ (I.freeC x c q),λp hp=>?_,λb o q=>?_,I.len⟩
 ·have z:=I.base.tups b xs q;rw[gR (λk=>by rw[k,e] at z;cases z)];exact z
 ·have z:=I.base.frzs b o u q;rw[gR (λk=>by rw[k,e] at z;cases z)];exact z
 ·obtain⟨m,z⟩:=I.base.tbls b ps q;exact⟨m,by rw[gR (λk=>by rw[k,e] at z;cases z)];exact z⟩
 ·obtain⟨p1,p2,p3⟩:=I.pin p hp;exact⟨p1,none_of _ p2,p3⟩
 ·have nb:b≠a:=λz=>by rw[z,ji] at q;cases q
  rw[gR nb] at q;refine(I.hok b o q).stay (λc u _ z=>z) (λc z=>?_) (λc xs z=>?_)
  ·rw[gR (λk=>by rw[k,e] at z;cases z)];exact z
  ·rw[gR (λk=>by rw[k,e] at z;cases z)];exact z
end
theorem ObjOk.get(x:L2.ObjOk P w H h a o):∃u,h.get? a=some u:=by
 cases o with
 |lst xs=>obtain⟨_,_,_,_,e⟩:=x;exact⟨_,e⟩
 |tup xs=>obtain⟨_,_,_,o,e,_⟩:=x;exact⟨_,e⟩
 |dK kvs=>obtain⟨_,_,_,_,o,_,_,e,_⟩:=x;exact⟨_,e⟩
 |dT kvs=>obtain⟨_,_,_,_,o,_,_,e,_⟩:=x;exact⟨_,e⟩
 |set S n=>obtain⟨o,_,_,_,e,_⟩:=x;exact⟨_,e⟩
 |ins C dx fs=>obtain⟨_,_,_,e,_⟩:=x;exact⟨_,e⟩
 |own y=>exact x
 |xd fs=>obtain⟨_,⟨_,_,_,e,_⟩,_⟩:=x;exact⟨_,e⟩
 |rng lo hi=>obtain⟨_,_,_,e⟩:=x;exact⟨_,e⟩
 |frz ob u=>obtain⟨e,_⟩:=x;exact⟨_,e⟩
 |tbl ps=>exact⟨_,show h.get? a=some _ from x⟩
 |met f y=>exact⟨_,show h.get? a=some _ from x⟩
 |ext φ=>exact x.2.1
def Ma(h:Oy)(H:Hp)(x C T:Addr)(a0:Value):Prop:=
 ∃oe vs oT ts,h.get? x=some oe/\oe.cls=.ref C/\vs[0]?=some a0/\oe.data=.fields vs/\vs[1]?=some (.ref T)/\H T=none/\T≠x/\h.get? T=some oT/\oT.data=.fields ts/\ts[3]?=some .none
def Oe(P:O0)(w:Pk):rH:=λouter H s E e s'=>∃(x C T:Addr) (a0:Value) (H':Hp),e=.ref x/\s'.os=s.os/\SY s'.gens/\Un (mR outer) [] H H' s.heap s'.heap/\iz P w H' s'.heap/\s.heap.get? x=none/\s.heap.get? T=none/\H' x=none∧
 Ma s'.heap H' x C T a0/\E (.ref C) none H'
structure fc(X:Cx)(pins:List (Addr×P0))(a:Addr):Prop where
 st:X.s₀.heap.get? a=none
 lo:a≠X.env.locals
 ce:∀x c,X.env.cells.lookup x=some c->c≠a
 pi:∀p∈X.pn++pins,p.1≠a
 fr:a∉mR X.stack
section
variable {X:Cx}{pins:List (Addr×P0)}{σ:L2.St}{H H':Hp}{s:Om}{a:Addr}
theorem Inv.newAt(I:L2.Inv X pins σ H s)(hex:X.ex=[])(h:s.heap.get? a=none):fc X pins a where
 st:=by
  cases e:X.s₀.heap.get? a with
  |none=>rfl
  |some o=>
   obtain⟨o',q⟩:=I.base.there a o e (by rw[hex];simp);rw[h] at q;cases q
 lo:=λz=>by
  obtain⟨m,⟨o,_,_,q,_⟩,_⟩:=I.loc;rw[←z,h] at q;cases q
 ce:=λx c e z=>by
  obtain⟨v,o,q,_⟩:=I.cell x c e;rw[z,h] at q;cases q
 pi:=λp hp z=>by
  obtain⟨q,_⟩:=I.pin p hp;rw[z,h] at q;cases q
 fr:=λz=>by
  obtain⟨_,o,q,_⟩:=I.stack.mem z;rw[h] at q;cases q
end
section
variable {X:Cx}{pins:List (Addr×P0)}{σ:L2.St}{H:Hp}{s:Om}{a:Addr}{o:HO}
theorem Inv.adopt(I:L2.Inv X pins σ H s)(na:fc X pins a)(ha:H a=none)(hex:X.ex=[])(new:L2.ObjOk X.prog X.w (upd H a o) s.heap a o):L2.Inv X pins σ (upd H a o) s:=by
 have keep:∀b u,H b=some u->upd H a o b=some u:=λb u q=>by rw[ay (aR q ha)];exact q
 have nn:∀b,b≠a->H b=none->upd H a o b=none:=λb nb q=>by rw[ay nb];exact q
 refine⟨I.ok,I.os,I.bare,⟨I.base.keep,I.base.slot,λb u q n hx=>nn b (λz=>by rw[z,na.st] at q;cases q) (I.base.free b u q n hx),I.base.there,λb xs q=>keep _ _ (I.base.tups b xs q),λb u v q=>keep _ _ (I.base.frzs b u v q),λb ps q=>?_⟩,I.loc,I.cell,nn _ na.lo.symm I.free,λx c q=>nn _ (na.ce x c q) (I.freeC x c q),λp hp=>?_,λb u q=>?_,I.len⟩
 ·obtain⟨m,z⟩:=I.base.tbls b ps q;exact⟨m,keep _ _ z⟩
 ·obtain⟨p1,p2,p3⟩:=I.pin p hp;exact⟨p1,nn _ (na.pi p hp) p2,p3⟩
 ·by_cases z:b=a
  ·subst z;rw[ag] at q;cases q;exact new
  ·rw[ay z] at q;exact(I.hok b u q).stay (λc v _ w=>w) (λc w=>keep _ _ w) (λc xs w=>keep _ _ w)
theorem Inv.none_of(I:L2.Inv X pins σ H s)(h:s.heap.get? a=none):H a=none:=by
 cases q:H a with
 |none=>rfl
 |some o=>obtain⟨u,z⟩:=ObjOk.get (I.hok a o q);rw[h] at z;cases z
end
structure XC(K:Of)(C f:Addr)(bm:List Value):Prop where
 ob:∃nm q N bs hdct sn sub ab col dd k0 k1 k2 k3 k5,K.lookup C=some (Q8 nm q C N bs bm hdct sn sub ab col dd k0 k1 k2 k3 k5 "ValueError.__new__")
 tl:∀h:Oy,K.In h->We h j4 bm
 init:O2 K (.ref C) "__init__"=some (some (.ref f))
 fn:SD K (.ref f)=some (.type "function")
 kp:Qa K (.ref C)=true
 cl:jq K C bm
section
variable {X:Cx}{k:Nat}{f C:Addr}{fd:Oo}{ps:List OV}{sp:Sp}{bm:List Value}
theorem Cc{pins:List (Addr×P0)}{σ:L2.St}{H:Hp}{s:Om}{Q:Addr->Hp->Prop}{us:List Value}{vs:List V}{E':Value->Om->Prop}(M:XC X.K C f bm)(hex:X.ex=[])(F:bv X.prog X.w X.K X.mg X.base dF k f fd ps sp)(hr:cT (k+1) X.A)(hb:aM X.K fd ps [])
  (I:L2.Inv X pins σ H s) (r:bc vs us) (hz:us.length≤sizeLine) (h:∀a,H a=none->sp (.ref a::vs) (upd H a (jh a C none)) (λv H2=>v=.non/\Q a H2) E0) :
  OJ (OM X.prog X.w) X.A (call (.ref C) us) (λv s'=>∃a H',v=.ref a/\fc X pins a/\L2.Inv X pins σ H' s'/\Q a H') E' s:=by
 obtain⟨nm,q,N,bs,hdct,sn,sub,ab,col,dd,k0,k1,k2,k3,k5,lk⟩:=M.ob;obtain⟨hp,g,d,t,os⟩:=s;refine AQ PySem.F.excBase_ValueError (M.tl hp I.kIn) I.kIn (I.kIn _ _ lk) M.init M.fn (λh' e hm=>?_) hz;have na:=B.Inv.newAt I hex hm.new;have he:=B.Inv.none_of I hm.new;obtain⟨tt,ho,_⟩:=hm.there;have I1:L2.Inv X pins σ H ⟨h',g,d,t,os⟩:=I.kept (t':=t) hm.keeps;have I2:L2.Inv X pins σ (upd H e (jh e C none)) ⟨h',g,d,t,os⟩:=B.Inv.adopt I1 na he hex (AR ⟨tt,ho⟩);have hq:=h e he;have r2:bc (V.ref e::vs) (OP e::us):=.cons Z r;have hl:(OP e::us).length=ps.length:=by
  have z:=r2.length;rw[F.len _ _ _ _ hq] at z;exact z.symm
 have hbd:=hb ⟨h',g,d,t,os⟩ (OP e::us) I2.kIn (by rw[Qe];exact hl);rw[Qe] at hbd;refine TB (SE (F.run _ X.stack _ _ ⟨OP e::us,[]⟩ (OP e::us) _ _ E0 (hr.make C us []) (I2.env0.make C us []) hbd r2 hq) λr s' hq'=>?_)
 cases r with
 |error e=>exact P6 hq'
 |ok fl=>
  cases fl with
  |ret u=>
   obtain⟨v,H',I3,rv,ev,q3⟩:=I2.after hq';subst ev;exact⟨rv,e,H',Z,na,I3,q3⟩
  |next=>exact P6 hq'
  |brk=>exact P6 hq'
  |cont=>exact P6 hq'
def Mb(X:Cx)(E:XK):Prop:=∀(pins:List (Addr×P0)) (σ:L2.St) (H:Hp) (s:Om) (a C:Addr) (oe:P0) (vs:Array Value) (a0:Value),L2.Inv X pins σ H s->H a=none->fc X pins a->s.heap.get? a=some oe->oe.data=.fields vs→
 vs[0]?=some a0->vs[1]?=some .none->oe.cls=.ref C->E (.ref C) none H->X.xe (.ref a) s
theorem vK 
  (hbase:bm.contains (.type "BaseException")=true) (hh:A.handled=none)
  (h:OJ M A x (λv s₁=>∃e t dx,v=.ref e/\s₁.heap.get? C=some (Q8 nm q C N bs bm hdct sn sub ab col dd k0 k1 k2 k3 k5 newId)∧
   s₁.heap.get? e=some { cls:=.ref C,dict:=dx,data:=.fields #[.ref t,.none,.none,.none,.bool false,.none]}/\E (.ref e) s₁) E s):
  OJ M A (raiseStmt env (some x) none) Q E s:=by
 have hcB:(OP C::bm).contains (.type "BaseException")=true:=by rw[QH,hbase,Sd]
 unfold raiseStmt;refine Oj (Qh h (λv s₁ h₁=>?_) λ_ _ y=>y);obtain⟨e,t,dx,rfl,hC,he,hE⟩:=h₁;obtain⟨hp,g,d,tk,os⟩:=s₁
 repeat(first
  |with_reducible refine wpAny_loadPart_at he ?_
  |with_reducible refine wpAny_loadPart_at hC ?_
  | (with_reducible refine wpAny_isSubtype_exc hC ?_
     rw[hcB])
  |wp_step)
 exact wpAny_raiseNew_none hh hE
def Kz(C:Addr)(sp:Sp)(E:XK)(t:TA):TS:=λ_ σ H=>t σ H λvs H1=>vs.length≤sizeLine/\∀a,H1 a=none->sp (.ref a::vs) (upd H1 a (jh a C none)) (λv H2=>v=.non/\(∃dx,H2 a=some (jh a C dx))/\E (.ref C) none (A6 H2 a)) E0
end
section
variable {X:Cx}{pins:List (Addr×P0)}{σ:L2.St}{H:Hp}{s:Om}{a C T:Addr}{a0:Value}
end
def En(N:List OV):L2.St:=Ou N.length none
theorem AE{X:Cx}{pins:List (Addr×P0)}{σ:L2.St}{H:Hp}{s:Om}(I:L2.Inv X pins σ H s):L2.Inv X pins (En X.N) H s:=
 I.weak (by rw[I.len];exact R3) λi v q=>by
  unfold En at q;rw[RF] at q
  split at q<;>cases q
def Nv(X:Cx)(pins:List (Addr×P0))(R:Addr->Hp->Prop):Value->Om->Prop:=λe s=>∃(x C T:Addr) (a0:Value) (H:Hp),e=.ref x/\L2.Inv X pins (En X.N) H s/\H x=none/\fc X pins x/\fc X pins T/\Ma s.heap H x C T a0/\R C H
def LZ(X:Cx)(pins:List (Addr×P0))(R:Addr->Hp->Prop):Cx:={ X with pn:=X.pn++pins,xe:=Nv X pins R}
def nO(X:Cx)(e:Addr):Cx:={ X with A:=X.A.mark (some (.ref e)),calm:=false,xe:=λ_ _=>False}
section
variable {X:Cx}{pins pins':List (Addr×P0)}{σ:L2.St}{H:Hp}{s:Om}{R:Addr->Hp->Prop}{e:Addr}
theorem DL(I:L2.Inv X pins σ H s):L2.Inv (nO X e) pins σ H s:=
 ⟨⟨I.ok.mod,I.ok.kind,I.ok.glob,I.ok.blt,I.ok.above,I.ok.inj,I.ok.has,I.ok.cab,(λz=>nomatch z),I.ok.frames,I.ok.stk,I.ok.exf,I.ok.bs,I.ok.bsz,I.ok.noex,I.ok.exfs,I.ok.funs,I.ok.frf⟩,I.os,I.bare,I.base,I.loc,I.cell,I.free,I.freeC,I.pin,I.hok,I.len⟩
theorem uI(ok:X.Ok)(I:L2.Inv (nO X e) pins σ H s):L2.Inv X pins σ H s:=
 ⟨ok,I.os,I.bare,I.base,I.loc,I.cell,I.free,I.freeC,I.pin,I.hok,I.len⟩
end
def Mu(N:List OV)(R:Addr->Hp->Prop)(Ok:Addr->Prop)(tb:TS)(th:TS):TS:=λD σ H=>tb D σ H/\∀C H',R C H'->Ok C/\th D (En N) H'
section
variable {X:Cx}{R:Addr->Hp->Prop}{body:List Stmt}{b₀:Stmt}{suite:List Stmt}{x:OV}{p hpos pos:R1}{u:Value}{tb th:TS}
end
section
variable {X:Cx}{o value:O3}{f:OV}{ta tv:TE}{pos' pos:R1}
def LJ(K:Of)(ta tv:TE)(f:OV):TS:=λD σ H=>tv σ H λ_ H1=>ta σ H1 λx H2=>∃a C bm,x=.ref a/\H2 a=some (jh a C none)/\jq K C bm/\cO K C f/\∀d,D.nx σ (upd H2 a (jh a C (some d)))
end
def Nx(R:Addr->Hp->Prop):XK:=λv _ H=>∃C,v=.ref C/\R C H
theorem rJ(a:Addr):(OP a::j4).contains (.type "BaseException")=true:=by rw[QH,(by decide +kernel:j4.contains (.type "BaseException")=true),Sd]
def kU(es:Array Vo):Bool:=es.toList.all λe=>match e.key with
 | .str _ _=>true
 |_=>false
theorem rR(h:kU es=true):StrKeys es:=λe he=>by
 have z:=Qj.mp h e (Vc.mpr he)
 revert z
 cases e.key<;>intro z<;>first|exact⟨_,_,Z⟩ | (cases z)
theorem DJ{K:Of}{bs bsB:List Value}{sn snB:List OV}{sub subB:List Value} 
  
  (lc:K.lookup C=some (Q8 nm q C N bs (.ref B0:: [.type "ValueError",.type "Exception",.type "BaseException",.type "object"]) hdct sn sub ab col dd k0 k1 k2 k3 k5 "ValueError.__new__"))
  (lb:K.lookup B0=some (Q8 nmB qB B0 NB bsB [.type "ValueError",.type "Exception",.type "BaseException",.type "object"] hdctB snB subB abB colB ddB j0 j1 j2 j3 j5 "ValueError.__new__"))
  (ln:K.lookup NB=some ⟨oc,od,.dict es n,sl⟩) (hs:kU es=true) (hn:(nsFind es "__init__").isNone=true)
  (fi:O2 K (.ref C) "__init__"=some (some (.ref f))) (ti:SD K (.ref f)=some (.type "function")) (kc:Qa K (.ref C)=true) (hh:R6 K C=true) (sa:O2 K (.ref C) "__setattr__"=some (some (.builtin "object.__setattr__"))):XC K C f (.ref B0:: j4):=
 have ob:∃nm q N bs hdct sn sub ab col dd k0 k1 k2 k3 k5,K.lookup C=some (Q8 nm q C N bs (.ref B0::j4) hdct sn sub ab col dd k0 k1 k2 k3 k5 "ValueError.__new__"):=⟨_,_,_,_,_,_,_,_,_,_,_,_,_,_,_,lc⟩;have tl:∀h:Oy,K.In h->We h j4 (.ref B0::j4):=λh X=>.own (X _ _ lb) ⟨_,es,n,X _ _ ln,Z,rR hs,λ_=>Z⟩ (Option.isNone_iff_eq_none.mp hn) .base
 ⟨ob,tl,fi,ti,kc,ob,tl,hh,sa⟩
structure rp(K:Of)(C:Addr):Prop where
 ga:O2 K (.ref C) "__getattribute__"=some (some (.builtin "BaseException.__getattribute__"))
 gn:O2 K (.ref C) "__getattr__"=some none
 cl:O2 K (.ref C) "__class__"=some (some (.builtin "object.__class__"))
 cg:T1 K (.builtin "object.__class__") "__get__"=some (some (.builtin "getset_descriptor.__get__"))
 ct:WX K (.builtin "object.__class__")=some true
section
variable {prog:O0}{w:Pk}{A:O5}{E:Value->Om->Prop}{s:Om}{K:Of}{x C:Addr}{ox:P0}{odo:Option P0}{bm:List Value}{name:OV}{tk:XN}{R:WC->Om->Prop}
theorem AS{fill ex:Bool}(X:K.In s.heap)(I:Qr s.heap x ox C odo)(g:rp K C)
  (h:Ro (OM prog w) A (.call (.builtin "BaseException.__getattribute__") ⟨[.ref x,.str name tk],[]⟩) (λr s'=>∃v,r=.ok (.ret v)/\Ui v=true/\Q v s') s):
  OJ (OM prog w) A (getAttrBy (.ref x) (.str name tk) fill ex) Q E s:=by
 have FB:=Tp;unfold getAttrBy;refine wpAny_holding (Oj (I.type.here (Oj ((Rp X g.ga).here ?_))));have e2:(VE "BaseException.__getattribute__"==VE "object.__getattribute__")=false:=by decide +kernel
 dsimp only;rw[e2,PV,if_neg OK];unfold getAttrByItsOwn hookBefore;rw[if_pos (show onTheHeap (OP C)=true from Z)];refine Oj ((Rp X g.gn).here (Oj (Ue (wpAny_holding ?_))));unfold callGetattribute;rw[if_neg (by cases ex<;>decide)];unfold boundAndCalled;rw[FB.ga.bind (.ref x)];refine Oj (OC (TB (SE h λr s' hq=>?_)));obtain⟨v,rfl,hh,q⟩:=hq;exact PySem.W.handed_on hh q
theorem MY{X:K.In s.heap}(I:Qr s.heap x ox C odo)(c:jq K C bm)(T:String)(hT:j4.contains (.type T)=true):QN (OM prog w) s.heap (Xj (.ref x) (.type T)) true:=by
 obtain⟨cd,hc,hm⟩:=mF c;have hob:(OP C::bm).contains (.type T)=true:=by
  rw[QH,(c.tl _ X).hasType (X:=T) (b:=true) hT,Sd]
 refine I.type.andThen (Vw X ?_);unfold SZ;rw[hc];show(if cd.mro.isEmpty=true then none else some (cd.mro.contains (.type T)))=some true;rw[hm,hob];rfl
theorem AT(X:K.In s.heap)(I:Qr s.heap x ox C odo)(c:jq K C bm)
  (h:OJ (OM prog w) A.in1 (Pa.«object.__getattribute__» ⟨[.ref x,.str name tk],[]⟩) (λfin s'=>match fin with
   | .done f=>R (.ok f) s'
   | .again c'=>c'.quiet=true/\Ro (OM prog w) A c' R s') (λe s'=>R (.error e) s') s) :
  Ro (OM prog w) A (.call (.builtin "BaseException.__getattribute__") ⟨[.ref x,.str name tk],[]⟩) R s:=by
 have FB:=Tp;exact Vg FB.ga.plain PySem.F.entry_bexc_ga (VT (i := "BaseException.__getattribute__") (owner := "BaseException") (n := "__getattribute__") (by decide +kernel) (by decide +kernel) (MY (X:=X) I c "BaseException" (by decide +kernel)) (PySem.F.args_bexc_ga _ _) h)
theorem ww(X:K.In s.heap)(I:Qr s.heap x ox C (some od))(c:jq K C bm)(g:rp K C)(h:R (.ok (.ret (.ref C))) s):
  Ro (OM prog w) A (.call (.builtin "BaseException.__getattribute__") ⟨[.ref x,.str "__class__" tk],[]⟩) R s:=by
 refine AT X I c ?_;unfold Pa.«object.__getattribute__»;obtain⟨cd,hc,hm⟩:=mF c;have hf:=PySem.W.findObj_data (K:=K) (C:=C) (od:=od) (name := "__class__") (by rw[hc];rfl) g.cl g.cg g.ct;have L:=PySem.W.looks_find (M:=OM prog w) X I hf;have mo:SZ K C (.type "object")=some true:=by
  unfold SZ;rw[hc];show(if cd.mro.isEmpty=true then none else some (cd.mro.contains (.type "object")))=some true;rw[hm,QH,(c.tl _ X).hasType (X := "object") (b:=true) (by decide +kernel),Sd];rfl
 refine Oj (OC (Oj (OC (Oj (I.type.here (Oj (L.here ?_)))))));show OJ _ _ (holding [VE "object.__class__"] (call (.builtin "getset_descriptor.__get__") [.builtin "object.__class__",.ref x,.ref C]) >>= ret) _ _ _;exact Oj (wpAny_holding (TB (PySem.W.class_get X I mo (OC h))))
end
section
variable {K:Of}{x C:Addr}{ox od:P0}{bm:List Value}
theorem l5(c:jq K C bm)(g:rp K C):PySem.W.KitX K (.ref x) (.ref C) (λh=>Qr h x ox C (some od)) where
 ty:=λ_ _ _ I=>I.type
 it:=λ_ _ X _=>by
  obtain⟨nm,q,N,bs,hdct,sn,sub,ab,col,dd,k0,k1,k2,k3,k5,lk⟩:=c.ob;intro A' Q' E' s' k q;unfold isType loadHead;exact Oj (Tz (k _ _ (X _ _ lk)) (OC q))
 ne:=λh tp dd its n sl X htp=>by
  obtain⟨nm,q,N,bs,hdct,sn,sub,ab,col,dd',k0,k1,k2,k3,k5,lk⟩:=c.ob;refine Bool.eq_false_iff.mpr λz=>?_
  have e:C=tp:=OP.inj (beq_iff_eq.mp z);subst e;have z2:=congrArg P0.cls (Pp ((X _ _ lk).symm.trans htp));exact absurd (show Rt "type"=Rt "tuple" from z2) (by decide +kernel)
 ca:=λ{prog w A E Q s} X I k=>by
  unfold getAttr? getAttrBy?;refine Oj (wpAny_mkText (Oj (Ue ?_)));exact AS (s:={ s with toks:=s.toks+1}) X I g (ww (s:={ s with toks:=s.toks+1}) X I c g ⟨_,rfl,rfl,OC k⟩)
end
structure gW(S ch:List Addr)(h h':Oy):Prop where
 same:∀b o,b∉S->b∉ch->h.get? b=some o->h'.get? b=some o
 slot:∀b o,b∉ch->h.get? b=some o->∃sl,h'.get? b=some { o with slots:=sl}
theorem gW.trans(a:gW S c1 h h1)(b:gW S c2 h1 h2):gW S (c1++c2) h h2 where
 same:=λx o n1 n2 q=>b.same x o n1 (λz=>n2 (OE _ z)) (a.same x o n1 (λz=>n2 (O6 _ z)) q)
 slot:=λx o n2 q=>by
  obtain⟨sl,z⟩:=a.slot x o (λz=>n2 (O6 _ z)) q;obtain⟨sl',z'⟩:=b.slot x _ (λz=>n2 (OE _ z)) z;exact⟨sl',z'⟩
theorem gW.upd:gW S [T] h (h.update T f) where
 same:=λb o _ n q=>by rw[Pg _ _ (λz=>n (by rw[z];exact Ox.mpr Z))];exact q
 slot:=λb o n q=>⟨o.slots,by rw[Pg _ _ (λz=>n (by rw[z];exact Ox.mpr Z))];exact q⟩
def ik(h:Oy)(x C T:Addr)(dx:Option Addr)(fl:Value):Prop:=
 ∃oe vs oT ts,h.get? x=some oe/\oe.cls=.ref C/\oe.dict=dx/\oe.data=.fields vs/\vs[1]?=some (.ref T)/\T≠x/\h.get? T=some oT/\oT.data=.fields ts/\ts[3]?=some fl
section
variable {M:Model}{A:O5}{E:Value->Om->Prop}{s:Om}{base:Oy}{env:W6}{outer:List W6}{L e C T:Addr}{oe:P0}{vs:Array Value}{dx:Option Addr}{fl:Value}
theorem wC(f:Array Value->Array Value)(o:P0):(VF f o).dict=o.dict:=by
 unfold VF;split<;>rfl
theorem AX(hfr:A.frames=some (env:: outer))(hl:s.heap.FunFrames base (env:: outer))(hf:env.frame=some L)
  (he:s.heap.get? e=some oe) (hd:oe.data=.fields vs) (hsz:1<vs.size) (hc:oe.cls=.ref C) (hx:oe.dict=dx)
  (h:∀h' T,gW (mR (env:: outer)) [e] s.heap h'->s.heap.get? T=none->ik h' e C T dx (rawInt L)->Q () { s with heap:=h'}):
  OJ M A (do let a ←frameOf env;let pl ←entryPlaceOf L hadNext;let b ←EntryCells.newEntry head a .none (rawInt L) .none pl;setField (.ref e) 1 b) Q E s:=by
 have hene:e∉mR (env::outer):=λhm=>by
  obtain⟨_,o,ho,hnf⟩:=hl.mem hm;rw[he] at ho;cases ho;exact hnf vs hd
 refine Oj (wpAny_frameOf_fun hfr hl hf λh1 s1=>Oj (wpAny_entryPlaceOf λpl hpl=>?_));unfold EntryCells.newEntry newFields;refine Oj (PD ?_ (hpl.sizeOk5 _ _ _ _ _));have he1:h1.get? e=some oe:=(s1.2.1 e hene).trans he;generalize hob:({ cls:=.type "traceback",dict:=none,data:=.fields ([head,.ref L,.none,rawInt L,.none]++(if pl.isEmpty then Ou 6 Qo else pl)).toArray}:P0)=ob;have he2:=On (h:=h1) ob he1;refine SI he2 hd hsz (h _ h1.objs.size ⟨λb o n1 n2 q=>?_,λb o n2 q=>?_⟩ ?_ ?_)
 ·rw[Pg _ _ (λz=>n2 (by rw[z];exact Ox.mpr Z))];exact On _ ((s1.2.1 b n1).trans q)
 ·obtain⟨sl,z⟩:=s1.2.2 b o q;refine⟨sl,?_⟩;rw[Pg _ _ (λz=>n2 (by rw[z];exact Ox.mpr Z))];exact On _ z
 ·exact P2 (RO s1.1.symm)
 ·have nT:h1.objs.size≠e:=Rn (OF he1);have d3:=RQ hd (·.setIfInBounds 1 (OP h1.objs.size));refine⟨_,_,ob,_,QD _ he2 (R5 d3),(Wg _ _).trans hc,(wC _ _).trans hx,d3,by simp[hsz],nT,?_,by rw[←hob],?_⟩
  ·rw[Pg _ _ (Rw nT)];exact OO h1 (by rw[←hob];rfl)
  ·first | (simp;done) | (rcases hpl with rfl | ⟨_,_,_,_,_,_,_,rfl⟩<;>simp)
theorem pM(t:ik s.heap e C T dx fl)(h:∀h',gW [] [T] s.heap h'->ik h' e C T dx .none->Q () { s with heap:=h'}):OJ M A (Vr (.ref e) none) Q E s:=by
 obtain⟨oe,vs,oT,ts,q1,q2,q3,q4,q5,q6,q7,q8,q9⟩:=t;have z3:3<ts.size:=(Rc.mp q9).1;unfold Vr;refine Oj (Qx q1 q4 q5 ?_);rw[if_pos (by simp)];refine SI q7 q8 z3 (h _ gW.upd ?_);have d3:=RQ q8 (·.setIfInBounds 3 ((none:Option Addr).elim Qo λf=>rawInt f));exact⟨oe,vs,_,_,(Pg _ _ q6).trans q1,q2,q3,q4,q5,q6,QD _ q7 (R5 d3),d3,by simp[z3]⟩
theorem Jm(hfr:A.frames=some (env:: outer))(hl:s.heap.FunFrames base (env:: outer))(hf:env.frame=some L)(he:s.heap.get? e=some oe)(hd:oe.data=.fields vs)(h1:vs[1]?=some .none)(hc:oe.cls=.ref C)(hx:oe.dict=dx)
  (h:∀h' T,gW (mR (env:: outer)) [e] s.heap h'->s.heap.get? T=none->ik h' e C T dx (rawInt L)->Q () { s with heap:=h'}):OJ M A (Tu (.ref e) env) Q E s:=by
 unfold Tu;simp only[hf];refine Oj (Qx he hd h1 ?_);rw[if_neg (by decide)];exact AX hfr hl hf he hd (Rc.mp h1).1 hc hx h
theorem Jl(hfr:A.frames=some (env:: outer))(hl:s.heap.FunFrames base (env:: outer))(hf:env.frame=some L)(t:ik s.heap e C T dx .none)
  (h:∀h' T',gW (mR (env:: outer)) [T,e] s.heap h'->s.heap.get? T'=none->ik h' e C T' dx (rawInt L)->Q () { s with heap:=h'}):OJ M A (Tu (.ref e) env) Q E s:=by
 obtain⟨oe,vs,oT,ts,q1,q2,q3,q4,q5,q6,q7,q8,q9⟩:=t;unfold Tu;simp only[hf];refine Oj (Qx q1 q4 q5 ?_);rw[if_pos (by simp)];refine Oj (Qx q7 q8 q9 ?_);rw[if_neg (by simp[rawInt])];refine Oj (SI q7 q8 (Rc.mp q9).1 ?_);have k1:gW (mR (env::outer)) [T] s.heap (s.heap.update T (VF (·.setIfInBounds 3 Qo))):=gW.upd;have nf:∀b o,s.heap.get? b=some o->(∀us,o.data≠.fields us)->b∉[T]:=λb o hb hn z=>by
  rw[Ox.mp z,q7] at hb;cases hb;exact hn ts q8
 refine AX (base:=base) hfr (hl.of_keeps λb o hb hn=>?_) hf ((Pg _ _ q6).trans q1) q4 (Rc.mp q5).1 q2 q3 λh' T' k nT t'=>h h' T' (k1.trans k) ?_ t'
 ·obtain⟨sl,z⟩:=k1.slot b o (nf b o hb hn) hb;exact⟨_,z,Z⟩
 ·cases q:s.heap.get? T' with
  |none=>rfl
  |some o=>
   exfalso;by_cases z:T'=T
   ·have d3:=RQ q8 (·.setIfInBounds 3 Qo);rw[z,QD _ q7 (R5 d3)] at nT;cases nT
   ·rw[Pg _ _ (Rw z)] at nT;rw[q] at nT;cases nT
end
def JV(d:Addr)(fs:List (OV×V)):Oy->Prop:=λh=>∃mA,h.Ns1 d mA/\∀f,fM (fs.lookup f) (mA f)
def dO(d:Addr)(fs:List (OV×V)):HO:=.ext (JV d fs)
theorem Ev(e:JV d fs h):ObjOk P w H h d (dO d fs):=
 ⟨e,let ⟨_,⟨_,_,_,q,_⟩,_⟩:=e;⟨_,q⟩,λ_ _ ⟨mA,n,r⟩ k=>⟨mA,n.at k,r⟩⟩
theorem vJ(r:fM a b)(h:b≠none):a≠none:=λz=>by
 subst z
 cases b with
 |none=>exact h Z
 |some _=>exact r.elim
theorem nI{fs:List (OV×V)}{mA:OV->Option Value}(r:∀g,fM (fs.lookup g) (mA g))(q:aZ y u):∀g,fM (((f,y):: fs).lookup g) (if g=f then some u else mA g):=λg=>by
 by_cases z:g=f
 ·subst z;rw[if_pos Z,List.lookup_cons_self];exact q
 ·rw[if_neg z,Sc,beq_eq_false_iff_ne.mpr z];exact r g
theorem mV{fs:List (OV×V)}(r:∀g,fM (fs.lookup g) (mA g)):Tj mA (fs.map (·.1)):=λg hg=>by
 have z:=vJ (r g) hg
 cases q:fs.lookup g with
 |none=>exact absurd q z
 |some v=>
  obtain⟨l1,l2,e,_⟩:=List.lookup_eq_some_iff.mp q;rw[e];simp
section
variable {X:Cx}{pins:List (Addr×P0)}{σ:L2.St}{H:Hp}{s:Om}{a C:Addr}
theorem setX1(hex:X.ex=[])(I:L2.Inv X pins σ H s)(e:H a=some (jh a C none))(c:jq X.K C bm)(n:cO X.K C f)(ry:aZ y u)
  (h:∀d s',H d=none->d≠a->L2.Inv X pins σ (upd (upd H a (jh a C (some d))) d (dO d [(f,y)])) s'->Q () s'):OJ (OM X.prog X.w) A (XI (.ref a) f u) Q E s:=by
 obtain⟨t,hx⟩:=(show ObjOk X.prog X.w H s.heap a (jh a C none) from I.hok a _ e).1;have J:Qr s.heap a _ C none:=⟨hx,Z,Z,trivial⟩;refine T0 I.kIn J c.sa (np (s:={ s with toks:=s.toks+1}) I.kIn J c n λb=>?_);obtain⟨cd,hc,hd'⟩:=Uk c.hd;refine Oj (OC (Oj (Oj (Tz hx (Oj (RN (s:={ s with toks:=s.toks+1}) (Sj I.kIn hc) ?_))))));rw[hd'];show OJ _ _ (alloc { cls:=.type "dict",data:=.dict #[]} >>= λd=>update a (λo=>{ o with dict:=some d}) >>= λ_=>dictMade (.ref C) a d) _ _ _;have la:a<s.heap.objs.size:=OF hx;have nad:s.heap.objs.size≠a:=Rn la;have g1:=On (h:=s.heap) { cls:=.type "dict",data:=.dict #[]} hx;refine Oj (wpAny_alloc (Oj (wpAny_update g1 ?_)));have g2:=QD (λo=>{ o with dict:=some s.heap.objs.size}) g1 rfl;have e1:((s.heap.push { cls:=.type "dict",data:=.dict #[]}).update a λo=>{ o with dict:=some s.heap.objs.size}).get? s.heap.objs.size=some { cls:=.type "dict",data:=.dict #[]}:=by
  rw[Pg _ _ nad.symm];exact OO s.heap Z
 have e3:((s.heap.push { cls:=.type "dict",data:=.dict #[]}).update a λo=>{ o with dict:=some s.heap.objs.size}).Ns s.heap.objs.size (λ_=>none):=
  ⟨_,#[],_,e1,Z,(λe he=>absurd he (by simp)),λ_=>Z⟩
 have keep:∀b o,b≠a->s.heap.get? b=some o->((s.heap.push { cls:=.type "dict",data:=.dict #[]}).update a λo=>{ o with dict:=some s.heap.objs.size}).get? b=some o:=λb o nb q=>by
  rw[Pg _ _ (Rw nb)];exact On _ q
 refine OC (a:=some s.heap.objs.size) (Oj (OC (Oj ?_)));refine V2 (V3 e3) λh' hn2 hs2=>?_
 have rel:∀g,fM ([(f,y)].lookup g) (if g=f then some u else none):=nI (fs:=[]) (mA:=λ_=>none) (λ_=>trivial) ry;obtain⟨oD,esD,epD,hoD,hdD,hcD⟩:=hn2.count (mV rel);refine Oj (Ul hoD (by rw[hdD];exact Um (OS hcD (Nat.le_add_left _ _))) ?_);have hno:s.heap.get? s.heap.objs.size=none:=P2 (Oi _);have hH:H s.heap.objs.size=none:=B.Inv.none_of I hno;refine OC (h s.heap.objs.size _ hH nad ?_);have ga:h'.get? a=some { cls:=.ref C,dict:=some s.heap.objs.size,data:=.fields #[.ref t,.none,.none,.none,.bool false,.none]}:=(hs2.2 a nad.symm).trans g2;have I2:L2.Inv X pins σ (upd H a (jh a C (some s.heap.objs.size))) { s with heap:=h',toks:=s.toks+1+1}:=I.write (x:=a) (e:=a) (o:=jh a C (some s.heap.objs.size)) (h':=h') (by rw[e];trivial) (.inl rfl) (λb o nb q=>by
  have nb2:b≠s.heap.objs.size:=O9 (OF q);exact(hs2.2 b nb2).trans (keep b o nb q)) ⟨_,ga⟩ (AR ⟨t,ga⟩)
 exact B.Inv.adopt I2 (B.Inv.newAt I hex hno) (by rw[ay nad];exact hH) hex (Ev ⟨_,hn2,rel⟩)
theorem setX2(I:L2.Inv X pins σ H s)(e:H a=some (jh a C (some d)))(ed:H d=some (dO d fs))(hl:fs.length≤100)(c:jq X.K C bm)(n:cO X.K C f)(ry:aZ y u)
  (h:∀s',L2.Inv X pins σ (upd H d (dO d ((f,y):: fs))) s'->Q () s'):OJ (OM X.prog X.w) A (XI (.ref a) f u) Q E s:=by
 obtain⟨t,hx⟩:=(show ObjOk X.prog X.w H s.heap a (jh a C (some d)) from I.hok a _ e).1;obtain⟨mA,hn,rel0⟩:=(show ObjOk X.prog X.w H s.heap d (dO d fs) from I.hok d _ ed).1;obtain⟨od,_,_,hod,_⟩:=id hn;have J:Qr s.heap a _ C (some od):=⟨hx,Z,Z,hod⟩;refine T0 I.kIn J c.sa (np (s:={ s with toks:=s.toks+1}) I.kIn J c n λb=>?_);obtain⟨cd,hc,hd'⟩:=Uk c.hd;refine Oj (OC (Oj (Oj (Tz hx (Oj (RN (s:={ s with toks:=s.toks+1}) (Sj I.kIn hc) ?_))))));rw[hd'];refine OC (a:=some d) (Oj (OC (Oj ?_)));refine V2 (s:={ s with toks:=s.toks+1}) hn λh' hn2 hs2=>?_
 have rel:=nI (f:=f) rel0 ry;obtain⟨oD,esD,epD,hoD,hdD,hcD⟩:=hn2.count (mV rel);have hz:esD.size≤101:=by rw[Ol,Ph] at hcD;omega
 refine Oj (Ul hoD (by rw[hdD];exact Um (OS hz (by decide))) ?_);refine OC (h _ ?_);exact I.write (x:=d) (e:=d) (o:=dO d ((f,y)::fs)) (h':=h') (by rw[ed];trivial) (.inl Z) (λb o nb q=>(hs2.2 b nb).trans q) ⟨_,hoD⟩ (Ev ⟨_,hn2,rel⟩)
end
section
variable {X:Cx}{o value:O3}{f:OV}{ta tv:TE}{pos' pos:R1}
def DY(K:Of)(ta tv:TE)(f:OV):TS:=λD σ H=>tv σ H λy H1=>ta σ H1 λx H2=>∃a C bm,x=.ref a/\jq K C bm/\cO K C f∧
 ((H2 a=some (jh a C none)/\∀d,H2 d=none->d≠a->D.nx σ (upd (upd H2 a (jh a C (some d))) d (dO d [(f,y)])))∨
  ∃d fs,H2 a=some (jh a C (some d))/\H2 d=some (dO d fs)/\fs.length≤100/\D.nx σ (upd H2 d (dO d ((f,y)::fs))))
theorem Cs(hex:X.ex=[])(ha:PE X o ta)(hv:PE X value tv)(hs:QV value (some (.Attribute o f pos')) pos.line X.env=Qm false):PS X (.Assign [.Attribute o f pos'] value pos) (DY X.K ta tv f):=by
 intro pins s σ H D I h;refine SL (bK (hv pins s σ H _ I h) λu s1 ⟨y,H1,I1,ry,q⟩=>bK (ha pins s1 σ H1 _ I1 q) λov s2 ⟨x,H2,I2,rx,a,C,bm,ex,c,n,q2⟩=>?_) hs;subst ex;obtain rfl:ov=OP a:=rx;rcases q2 with⟨ea,k⟩ | ⟨d,fs,ea,ed,hl,k⟩
 ·exact B.setX1 hex I2 ea c n ry λd s' hd nd I'=>⟨σ,_,I',k d hd nd⟩
 ·exact B.setX2 I2 ea ed hl c n ry λs' I'=>⟨σ,_,I',k⟩
end
theorem gW.any(k:gW [] ch h h'):gW S ch h h':=⟨λb o _ n q=>k.same b o (λz=>by cases z) n q,k.slot⟩
section
variable {X:Cx}{pins:List (Addr×P0)}{σ:L2.St}{H:Hp}{s:Om}{a C T:Addr}{dx:Option Addr}{fl:Value}
theorem Inv.leftK(I:L2.Inv X pins σ H s)(hch:∀b∈ch,H b=none/\fc X pins b)(k:gW (mR X.stack) ch s.heap h'):L2.Inv X pins σ H { s with heap:=h',toks:=tk}:=by
 have EE:∀b o,H b=some o->b∉mR X.stack/\b∉ch:=λb o q=>
  ⟨(λz=>by rw[I.stkFree b z] at q;cases q),(λz=>by rw[(hch b z).1] at q;cases q)⟩
 refine I.call' (s':={ s with heap:=h',toks:=tk}) (ch:=ch) rfl ⟨λb o q _ n1 n2=>k.same b o n1 n2 q,λb o q _ n1 n2=>k.slot b o n2 q,λb o _ n _=>n,λb o q n2=>?_,λb xs q=>q,λb o u q=>q,λb ps q=>⟨#[],by rw[Array.append_empty];exact q⟩⟩ (λb o q=>?_) I.bare
  (λb hb=>⟨.inr (hch b hb).2.st,(hch b hb).2.lo,(hch b hb).2.ce,(hch b hb).2.pi⟩)
 ·obtain⟨sl,z⟩:=k.slot b o n2 q;exact⟨_,z⟩
 ·refine(I.hok b o q).stay (λc u hc z=>?_) (λc z=>z) (λc xs z=>z);rcases hc with rfl|hc
  ·obtain⟨n1,n2⟩:=EE _ _ q;exact k.same _ _ n1 n2 z
  ·obtain⟨n1,n2⟩:=EE _ _ hc;exact k.same _ _ n1 n2 z
theorem GH{A:O5}{E':Value->Om->Prop}{Q:Om->Prop}{oe:P0}(hA:A.frames=X.A.frames)(I:L2.Inv X pins σ H s)(hex:X.ex=[])(hst:X.stack=X.env:: X.outer)(hfr:X.env.frame=some X.env.locals)
  (ha:H a=none) (na:fc X pins a) (hx:s.heap.get? a=some oe) (hd:oe.data=.fields vs) (h1:vs[1]?=some .none) (hc:oe.cls=.ref C) (hdx:oe.dict=dx)
  (h:∀(s':Om) (T:Addr),L2.Inv X pins σ H s'->fc X pins T->H T=none->ik s'.heap a C T dx .none->Q s'):
  OJ (OM X.prog X.w) A (Tu (.ref a) X.env) (λ_ s2=>OJ (OM X.prog X.w) A (Vr (.ref a) none) (λ_ s3=>Q s3) E' s2) E' s:=by
 have hfrm:A.frames=some (X.env::X.outer):=by rw[hA,I.ok.frames,hst]
 refine Jm (base:=X.base) hfrm (by rw[←hst];exact I.stack) hfr hx hd h1 hc hdx λh1 T k1 nT t1=>?_
 refine pM (s:={ s with heap:=h1}) t1 λh2 k2 t2=>?_
 have nt:=B.Inv.newAt I hex nT;have hT:=B.Inv.none_of I nT;rw[←hst] at k1;refine h { s with heap:=h2} T (B.Inv.leftK (tk:=s.toks) I (λb hb=>?_) (k1.trans k2.any)) nt hT t2;simp only[WE,U3,Ov,OX,or_false] at hb;rcases hb with rfl|rfl
 ·exact⟨ha,na⟩
 ·exact⟨hT,nt⟩
theorem GG{A:O5}{E':Value->Om->Prop}{Q:Om->Prop}(hA:A.frames=X.A.frames)(I:L2.Inv X pins σ H s)(hex:X.ex=[])(hst:X.stack=X.env::X.outer)(hfr:X.env.frame=some X.env.locals)
  (ha:H a=none) (na:fc X pins a) (hT:H T=none) (nT:fc X pins T) (t:ik s.heap a C T dx .none)
  (h:∀(s':Om) (T':Addr),L2.Inv X pins σ H s'->fc X pins T'->H T'=none->ik s'.heap a C T' dx .none->Q s') :
  OJ (OM X.prog X.w) A (Tu (.ref a) X.env) (λ_ s2=>OJ (OM X.prog X.w) A (Vr (.ref a) none) (λ_ s3=>Q s3) E' s2) E' s:=by
 have hfrm:A.frames=some (X.env::X.outer):=by rw[hA,I.ok.frames,hst]
 refine Jl (base:=X.base) hfrm (by rw[←hst];exact I.stack) hfr t λh1 T' k1 nT' t1=>?_
 refine pM (s:={ s with heap:=h1}) t1 λh2 k2 t2=>?_
 have nt:=B.Inv.newAt I hex nT';have hT':=B.Inv.none_of I nT';rw[←hst] at k1;refine h { s with heap:=h2} T' (B.Inv.leftK (tk:=s.toks) I (λb hb=>?_) (k1.trans k2.any)) nt hT' t2;simp only[WE,U3,Ov,OX,or_false] at hb;rcases hb with rfl|rfl|rfl
 ·exact⟨hT,nT⟩
 ·exact⟨ha,na⟩
 ·exact⟨hT',nt⟩
theorem G5{E':Value->Om->Prop}{Q:Om->Prop}(I:L2.Inv X pins σ H s)(hT:H T=none)(nT:fc X pins T)(t:ik s.heap a C T dx .none)
  (h:∀(s':Om),L2.Inv X pins σ H s'->ik s'.heap a C T dx .none->Q s'):OJ (OM X.prog X.w) A (Vr (.ref a) none) (λ_ s3=>Q s3) E' s:=by
 refine pM t λh2 k2 t2=>h _ (B.Inv.leftK (tk:=s.toks) I (λb hb=>?_) k2.any) t2
 rw[Ox.mp hb];exact⟨hT,nT⟩
end
def Hu(P:O0)(w:Pk):rH:=λouter H s E e s'=>∃(x C T:Addr) (dx:Option Addr) (H':Hp),e=.ref x/\s'.os=s.os/\SY s'.gens/\Un (mR outer) [] H H' s.heap s'.heap/\iz P w H' s'.heap/\s.heap.get? x=none/\s.heap.get? T=none/\H' x=none/\H' T=none∧
 ik s'.heap x C T dx .none/\E (.ref C) dx H'
section
variable {P:O0}{w:Pk}{K:Of}{mg:OV->Option Value}{base:Oy}{N:List OV}{qual:OV}{scope:Sf}{f:Addr}{cd:Value}{A:O5}{outer:List W6}{s:Om}{H:Hp}{E:XK}
def tQ(X:Cx)(E:XK):Prop:=∀(pins:List (Addr×P0)) (σ:L2.St) (H:Hp) (s:Om) (a C:Addr) (dx:Option Addr) (oe:P0) (vs:Array Value),L2.Inv X pins σ H s->H a=none->fc X pins a->s.heap.get? a=some oe->oe.data=.fields vs→
 vs[1]?=some .none->oe.cls=.ref C->oe.dict=dx->E (.ref C) dx H->X.xe (.ref a) s
theorem rO:tQ (bC (Hu P w) P w K mg base N qual scope f cd A outer s H E) E:=by
 intro pins σ H1 s1 a C dx oe vs I ha na hx hd h1 hc hdx hE;show OJ (OM P w) _ (leaving _ _) _ _ s1;unfold leaving;refine Oj (GH Z I Z Z Z ha na hx hd h1 hc hdx λs3 T' I3 nT' hT' tr'=>?_);exact⟨a,C,T',dx,H1,Z,I3.os,I3.bare,I3.base,I3.hok,na.st,nT'.st,ha,hT',tr',hE⟩
theorem Fun.okD{x:OV}{st:Stmt}{fd:Oo}{ps:List OV}{k:Nat}{sp:Sp}(F:Fun K x qual st f fd)(S:aF N ps (az st))(len:∀vs H Q E,sp vs H Q E->vs.length=ps.length)
  (hbody:∀(cdv:Value) (A:O5) (outer:List W6) (s:Om) (H:Hp) (vs:List V) (Q:VK) (E:XK),cT k (A.deeper (UJ qual (az st) s.heap.objs.size f cdv))->sp vs H Q E→
   ∃t,pX (bC (Hu P w) P w K mg base N qual (az st) f cdv A outer s H E) (cM st) t/\t { nx:=λ_ H'=>Q .non H',rt:=Q} (iW N vs) H):bv P w K mg base (Hu P w) (k+1) f fd ps sp:=by
 obtain⟨oc,od,kV,doc,pm,an,cdv,ct,osl,rfl,lk,hcd⟩:=F.ex;exact Ep lk hcd S len λA outer s H vs Q E hr hsp=>hbody cdv A outer s H vs Q E hr hsp
end
section
variable {X:Cx}{k:Nat}{f C:Addr}{fd:Oo}{ps:List OV}{sp:Sp}{bm:List Value}
def ue(C:Addr)(sp:Sp)(E:XK)(t:TA):TS:=λ_ σ H=>t σ H λvs H1=>vs.length≤sizeLine/\∀a,H1 a=none->sp (.ref a::vs) (upd H1 a (jh a C none)) (λv H2=>v=.non/\∃dx,H2 a=some (jh a C dx)/\E (.ref C) dx (A6 H2 a)) E0
theorem vQ{x:OV}{p cpos pos:R1}{e:O3}{es:List O3}{t:TA}{E:XK}(M:XC X.K C f bm)(hbase:bm.contains (.type "BaseException")=true)(hex:X.ex=[])(tk:tQ X E)(F:bv X.prog X.w X.K X.mg X.base dF k f fd ps sp)(hr:cT (k+1) X.A)(hb:aM X.K fd ps [])
  (hg:Gl X x) (hm:X.mg x=some (.ref C)) (ha:PA X (e::es) t) (hdb:(x==("__debug__" : OV))=false:=by decide) (he:Oz (e::es) X.env=(false,eval e X.env)::Oz es X.env:=by rfl) (hpl:(QZ cpos (Oz es X.env)).any (·.1)=false:=by rfl) :
  PS X (.Raise (some (.Call (.Name x p) (e::es) [] cpos)) none pos) (ue C sp E t):=by
 intro pins s σ H D I h;obtain⟨nm,q,N,bs,hdct,sn,sub,ab,col,dd,k0,k1,k2,k3,k5,lk⟩:=M.ob;rw[arm_exec_Raise];refine Oj (RY (vK (C:=C) (bm:=bm) (nm:=nm) (q:=q) (N:=N) (bs:=bs) (hdct:=hdct) (sn:=sn) (sub:=sub) (ab:=ab) (col:=col) (dd:=dd) (k0:=k0) (k1:=k1) (k2:=k2) (k3:=k3) (k5:=k5) (newId := "ValueError.__new__") hbase hr.hd ?_));refine Oj (Qh (Q:=λv s'=>∃a H',v=.ref a/\fc X pins a/\L2.Inv X pins σ H' s'/\∃dx,H' a=some (jh a C dx)/\E (.ref C) dx (A6 H' a)) ?_ (λv s1 h1=>Oj (RY (OC ?_))) λ_ _ y=>y)
 ·refine RP (jb I hg hm ?_ hdb);refine TC (h₀:=X.base) I.ok.mod.kin M.kp (bK (ha cpos pins s σ H _ I h) λus s1 ⟨vs,H1,I1,r,hz,q⟩=>⟨I1.kIn,?_⟩) he hpl;exact Cc M hex F hr hb I1 (us:=[]++us) r (by rw[U3,←r.length];exact hz) q
 ·obtain⟨a,H',rfl,na,I1,dx,hx,hE⟩:=h1;obtain⟨tt,ho⟩:=(show L2.ObjOk X.prog X.w H' s1.heap a (jh a C dx) from I1.hok a _ hx).1;exact⟨a,tt,dx,Z,I1.kIn _ _ lk,ho,tk pins σ (A6 H' a) s1 a C dx _ _ (B.Inv.forget I1 hx na.st) ji na ho Z Z Z Z hE⟩
end
abbrev RX:=Addr->Option Addr->Hp->Prop
def Lf(X:Cx)(pins:List (Addr×P0))(R:RX):Value->Om->Prop:=λe s=>∃(x C T:Addr) (dx:Option Addr) (H:Hp),e=.ref x/\L2.Inv X pins (En X.N) H s/\H x=none/\fc X pins x/\H T=none/\fc X pins T/\ik s.heap x C T dx .none/\R C dx H
def iN(X:Cx)(pins:List (Addr×P0))(R:RX):Cx:={ X with pn:=X.pn++pins,xe:=Lf X pins R}
section
variable {X:Cx}{pins pins':List (Addr×P0)}{σ:L2.St}{H:Hp}{s:Om}{R:RX}{e:Addr}
theorem EG(I:L2.Inv X pins σ H s):L2.Inv (iN X pins R) [] σ H s:=
 ⟨⟨I.ok.mod,I.ok.kind,I.ok.glob,I.ok.blt,I.ok.above,I.ok.inj,I.ok.has,I.ok.cab,I.ok.hd,I.ok.frames,I.ok.stk,I.ok.exf,I.ok.bs,I.ok.bsz,I.ok.noex,I.ok.exfs,I.ok.funs,I.ok.frf⟩,I.os,I.bare,I.base,I.loc,I.cell,I.free,I.freeC,
  λp hp=>I.pin p (by rw[Qe] at hp;exact hp),I.hok,I.len⟩
theorem ofTryD(I:L2.Inv (iN X pins R) pins' σ H s):L2.Inv X pins σ H s:=
 ⟨⟨I.ok.mod,I.ok.kind,I.ok.glob,I.ok.blt,I.ok.above,I.ok.inj,I.ok.has,I.ok.cab,I.ok.hd,I.ok.frames,I.ok.stk,I.ok.exf,I.ok.bs,I.ok.bsz,I.ok.noex,I.ok.exfs,I.ok.funs,I.ok.frf⟩,I.os,I.bare,I.base,I.loc,I.cell,I.free,I.freeC,
  λp hp=>I.pin p (O6 _ hp),I.hok,I.len⟩
def Lh(R:RX):XK:=λv dx H=>∃C,v=.ref C/\R C dx H
theorem zY(hex:X.ex=[]):eQ (Hu X.prog X.w) (iN X pins R) (Lh R):=by
 intro pins' σ H1 s1 e s2 I hx;obtain⟨x,C,T,dx,H2,rfl,ho,hb,un,hok,nx,nT,hx2,hT2,tr,C',e',hr⟩:=hx
 cases e'
 have na:=B.Inv.newAt I hex nx;have nt:=B.Inv.newAt I hex nT;have I2:L2.Inv (iN X pins R) pins' σ H2 s2:=I.call' ho un hok hb (λb hb=>by cases hb);exact⟨x,C,T,dx,H2,Z,AE (ofTryD I2),hx2,⟨na.st,na.lo,na.ce,λp hp=>na.pi p (O6 _ hp),na.fr⟩,hT2,⟨nt.st,nt.lo,nt.ce,λp hp=>nt.pi p (O6 _ hp),nt.fr⟩,tr,hr⟩
theorem SP.ofTryD(h:SP (iN X pins R) [] D f s):SP X pins D f s:=by
 cases f with
 |next=>obtain⟨σ',H',I,q⟩:=h;exact⟨σ',H',B.ofTryD I,q⟩
 |brk=>obtain⟨σ',H',I,q⟩:=h;exact⟨σ',H',B.ofTryD I,q⟩
 |cont=>obtain⟨σ',H',I,q⟩:=h;exact⟨σ',H',B.ofTryD I,q⟩
 |ret u=>obtain⟨v,σ',H',I,r,q⟩:=h;exact⟨v,σ',H',B.ofTryD I,r,q⟩
end
theorem hJ{X:Cx}{σ:L2.St}(I:L2.Inv X pins σ H s)(hN:X.N.Nodup)(hi:X.N[i]?=some x)(hk:X.env.scope.names.lookup x=some .local)
  (h:∀s',L2.Inv X pins (σ.set i none) H s'->Q () s'):OJ M A (do V0 X.env x .none;unbindBehindTheSuite X.env x pos) Q E s:=by
 obtain⟨m,hn,hl⟩:=id I.loc;have hiσ:i<σ.length:=by rw[I.len];exact(OH.mp hi).1
 have lt:∀b o,X.s₀.heap.get? b=some o->b≠X.env.locals:=λb o e=>O9 (OI (OF e) I.ok.above)
 refine wpAny_nameGoes_keeps hk hn (by rw[I.ok.kind];rfl) λh' v hn' hs=>h _ ?_
 refine⟨I.ok,I.os,I.bare,⟨λb o e n hb hx=>(hs.2 b (lt b o e)).trans (I.base.keep b o e n hb hx),λb o e n hb hx=>?_,I.base.free,λb o e hx=>?_,I.base.tups,I.base.frzs,I.base.tbls⟩,⟨_,hn',λj y v' e1 e2 e3=>?_⟩,λy c e=>?_,I.free,I.freeC,λp hp=>?_,λb ob e=>?_,by simpa using I.len⟩
 ·obtain⟨sl,e1⟩:=I.base.slot b o e n hb hx;exact⟨sl,(hs.2 b (lt b o e)).trans e1⟩
 ·obtain⟨o',e1⟩:=I.base.there b o e hx;exact⟨o',(hs.2 b (lt b o e)).trans e1⟩
 ·have hj:j≠i:=λz=>by subst z;rw[Q2 hiσ] at e2;cases e2
  rw[PQ (Rw hj)] at e2;obtain⟨u',r',q⟩:=hl j y v' e1 e2 e3;refine⟨u',r',?_⟩;rcases q with⟨k,e⟩ | ⟨k,c,e,z⟩
  ·refine .inl ⟨k,?_⟩;have ny:y≠x:=λe=>hj (lV hN e1 (e▸hi))
   show(if y=x then v else m y)=some u';rw[if_neg ny];exact e
  ·exact .inr ⟨k,c,e,z.sameBut hs (I.cne y c e)⟩
 ·obtain⟨w',z⟩:=I.cell y c e;exact⟨w',z.sameBut hs (I.cne y c e)⟩
 ·obtain⟨e,n,ne,nf,d⟩:=I.pin p hp;exact⟨(hs.2 p.1 ne).trans e,n,ne,nf,d⟩
 ·refine(I.hok b ob e).stay (λc w' hc q=>(hs.2 c ?_).trans q) (λ_ q=>q) λ_ _ q=>q
  rintro rfl;rcases hc with rfl|hc
  ·rw[I.free] at e;cases e
  ·rw[I.free] at hc;cases hc
def Lg(a C d:Addr):Oy->Prop:=λh=>∃oe,h.get? a=some oe/\oe.cls=.ref C/\oe.dict=some d/\Xk oe=true
def rC(a C d:Addr):HO:=.ext (Lg a C d)
theorem G6(e:Lg a C d h):ObjOk P w H h a (rC a C d):=
 ⟨e,let ⟨_,q,_⟩:=e;⟨_,q⟩,λ_ _ ⟨o,q,r⟩ k=>⟨o,k _ q,r⟩⟩
theorem ik.er(t:ik h x C T (some d) fl):Lg x C d h:=by
 obtain⟨oe,vs,oT,ts,q1,q2,q3,q4,_⟩:=t;exact⟨oe,q1,q2,q3,by unfold Xk;rw[q4]⟩
def Jw(i:Nat)(D:io):io:={ nx:=λσ H=>D.nx (σ.set i none) H,rt:=D.rt,bk:=λσ H=>D.bk (σ.set i none) H,ct:=λσ H=>D.ct (σ.set i none) H}
def Lq(N:List OV)(R:RX)(Ok:Addr->Prop)(tb th:TS):TS:=λD σ H=>tb D σ H/\∀C dx H',R C dx H'->Ok C/\th D (En N) H'
def xx(N:List OV)(i:Nat)(R:RX)(Ok:Addr->Prop)(tb th:TS):TS:=λD σ H=>tb D σ H/\∀C dx H',R C dx H'->Ok C/\∃d,dx=some d/\∀a,H' a=none->th (Jw i D) ((En N).set i (some (.ref a))) (upd H' a (rC a C d))
section
variable {X:Cx}{R:RX}{body:List Stmt}{b₀:Stmt}{suite:List Stmt}{x:OV}{p hpos pos:R1}{u:Value}{tb th:TS}
theorem EC(t:ik h a C T dx fl):QN M h (typeOf (.ref a)) (.ref C):=by
 obtain⟨oe,_,_,_,q1,q2,_⟩:=t;rw[←q2];exact(QN.ld q1).andThen .now
theorem zF{i:Nat}{n:OV}(hex:X.ex=[])(hst:X.stack=X.env::X.outer)(hfr:X.env.frame=some X.env.locals)(hg:Gl X x)(hm:X.mg x=some u)(hN:X.N.Nodup)(hi:X.N[i]?=some n)(hn:X.env.scope.names.lookup n=some .local)
  (hb:∀pins,pX (iN X pins R) body tb) (hs:∀e,pX (nO X e) (b₀::suite) th) (hd:(x==("__debug__" : OV))=false:=by decide) :
  PS X (.Try body [.ExceptHandler (some (.Name x p)) (some n) (b₀::suite) hpos] [] [] pos) (xx X.N i R (λC=>TJ X.K (.ref C) u=some true) tb th):=by
 intro pins s σ H D I ⟨h1,h2⟩;refine wpAny_Try_except (Qh (hb pins [] s σ H D (EG I) h1) (λf s1 q=>?_) λe s1 q=>?_)
 ·have q':=SP.ofTryD q
  cases f with
  |next=>exact Su q'
  |brk=>exact q'
  |cont=>exact q'
  |ret u=>exact q'
 ·obtain⟨a,C,T,dx,H1,rfl,I1,ha,na,hT,nT,tr,hR⟩:=q;obtain⟨hk,d,rfl,hth⟩:=h2 C dx H1 hR;refine GG Z I1 hex hst hfr ha na hT nT tr λs2 T2 I2 nT2 hT2 tr2=>?_
  refine wpAny_handleBy_cons (codeAny_handlers_test ?_) (by intro z;cases z);refine jb (X:=nO X a) (DL I2) hg hm ?_ hd;refine RN (s:=s2) (PySem.W.exm_one (M:=OM X.prog X.w) I2.kIn (EC tr2) hk) ?_;refine codeAny_handlers_suite_as ?_;refine G5 I2 hT2 nT2 tr2 λs3 I3 tr3=>?_
  have I4:L2.Inv X pins (En X.N) (upd H1 a (rC a C d)) s3:=B.Inv.adopt I3 na ha hex (G6 tr3.er);refine eV (X:=nO X a) (DL I4) hN hi (.inl hn) (v:=.ref a) (u:=.ref a) Z (λs5 I5=>?_) (.inr hn);refine Qh (hs a pins s5 _ _ (Jw i D) I5 (hth a ha)) (λf s6 q6=>?_) λ_ _ z=>z.elim
  cases f with
  |next=>obtain⟨σ',H',J,q⟩:=q6;exact hJ (uI I.ok J) hN hi hn λs' J'=>⟨_,_,J',q⟩
  |brk=>obtain⟨σ',H',J,q⟩:=q6;exact hJ (uI I.ok J) hN hi hn λs' J'=>⟨_,_,J',q⟩
  |cont=>obtain⟨σ',H',J,q⟩:=q6;exact hJ (uI I.ok J) hN hi hn λs' J'=>⟨_,_,J',q⟩
  |ret u=>obtain⟨v,σ',H',J,r,q⟩:=q6;exact hJ (uI I.ok J) hN hi hn λs' J'=>⟨v,_,_,J',r,q⟩
end
def IR(K:Of):List V->Hp->VK->Prop:=λxs H Q=>∃(a C d:Addr) (fs:List (OV×V)) (bm:List Value) (c:V) (b:Bool),xs=[.ref a,c]/\H a=some (rC a C d)/\H d=some (dO d fs)/\jq K C bm/\rp K C∧
 ((∃n,c=.ty n/\P3 K (.ref C) (.type n)=some b)∨(∃D,c=.ref D/\P3 K (.ref C) (.ref D)=some b)∨
  ∃(p:Addr) (cs:List Addr),c=.ref p/\H p=some (.tup (cs.map V.ref))/\TK K (.ref C) (cs.map OP)=some b)/\Q (.bl b) H
theorem mX:∀{cs:List Addr} {us:List Value},bc (cs.map V.ref) us->us=cs.map OP
 | [],_,.nil=>rfl
 |c::cs,_,.cons r q=>by
  rw[O1,mX q,(show _=OP c from r)]
theorem Bd:df X (.builtin "isinstance") (IR X.K):=by
 intro pins s σ H xs us Q I r h;obtain⟨a,C,d,fs,bm,c,b,rfl,ea,ed,cl,gx,k,q⟩:=h;obtain⟨u,u2,rfl,rx,ry⟩:=qd r;obtain rfl:u=OP a:=rx;obtain⟨oe,h1,h2,h3,h4⟩:=(show ObjOk X.prog X.w H s.heap a (rC a C d) from I.hok a _ ea).1;obtain⟨mA,⟨od,es,ep,h5,_⟩,_⟩:=(show ObjOk X.prog X.w H s.heap d (dO d fs) from I.hok d _ ed).1;have J:Qr s.heap a oe C (some od):=⟨h1,h2,h4,by rw[h3];exact h5⟩;rcases k with⟨n,rfl,e⟩ | ⟨D,rfl,e⟩ | ⟨p,cs,rfl,hp,e⟩
 ·obtain rfl:u2=Rt n:=ry;exact Pu (l5 cl gx) I.kIn J e (λz=>nomatch z) λtk=>⟨.bl b,H,I.tok tk,Z,q⟩
 ·obtain rfl:u2=OP D:=ry;exact Pu (l5 cl gx) I.kIn J e (λz=>nomatch z) λtk=>⟨.bl b,H,I.tok tk,Z,q⟩
 ·obtain rfl:u2=OP p:=ry;obtain⟨_,its,rv,o,ho,hc,n,hd⟩:=(show ObjOk X.prog X.w H s.heap p (.tup (cs.map V.ref)) from I.hok p _ hp);rw[mX rv] at hd;obtain⟨oc,odd,oda,osl⟩:=o;dsimp only at hc hd;subst hc;subst hd;exact PySem.W.kia_tup (l5 cl gx) I.kIn J ho e (λz=>nomatch z) λtk=>⟨.bl b,H,I.tok tk,Z,q⟩
theorem mB(h:H a=none)(n:d≠a):A6 (upd (upd (upd H a o) a u) d q) a=upd H d q:=by
 funext b
 by_cases z:b=a
 ·subst z;rw[ji,ay n.symm,h]
 ·rw[gR z];by_cases y:b=d
  ·subst y;rw[ag,ag]
  ·rw[ay y,ay y,ay z,ay z]
theorem jo{X:Cx}{K:Of}(h:X.K=K):df X (.builtin "isinstance") (IR K):=by
 subst h;exact Bd
def EA(H:Hp)(a C d:Addr):Prop:=H a=some (rC a C d)∨H a=some (jh a C (some d))
section
variable {X:Cx}{pins:List (Addr×P0)}{σ:L2.St}{H:Hp}{s:Om}{a C d:Addr}{fs:List (OV×V)}
end
def LA(K:Of)(ta:TE)(f:OV):TE:=λσ H Q=>ta σ H λx H1=>∃a C d fs bm v,x=.ref a/\EA H1 a C d/\H1 d=some (dO d fs)/\jq K C bm/\rp K C/\cO K C f/\fs.lookup f=some v/\Q v H1
def MT(K:Of):List V->Hp->VK->Prop:=λxs H Q=>∃(a C d:Addr) (fs:List (OV×V)) (bm:List Value) (c:V) (b:Bool),xs=[.ref a,c]/\EA H a C d/\H d=some (dO d fs)/\jq K C bm/\rp K C∧
 ((∃n,c=.ty n/\P3 K (.ref C) (.type n)=some b)∨(∃D,c=.ref D/\P3 K (.ref C) (.ref D)=some b)∨
  ∃(p:Addr) (cs:List Addr),c=.ref p/\H p=some (.tup (cs.map V.ref))/\TK K (.ref C) (cs.map OP)=some b)/\Q (.bl b) H
def KA(C:Addr)(sp:Sp)(t:TA):TE:=λσ H Q=>t σ H λvs H1=>vs.length≤sizeLine/\∀a,H1 a=none->sp (.ref a::vs) (upd H1 a (jh a C none)) (λv H2=>v=.non/\Q (.ref a) H2) E0
theorem oo{X:Cx}{pins:List (Addr×P0)}{σ:L2.St}{H:Hp}{s:Om}{h':Oy}{t':Nat}{fp:List Addr}(I:Inv X pins σ H s)
  (k:∀b o,b∉fp->s.heap.get? b=some o->h'.get? b=some o) (hf:∀b∈fp,gA X pins H b):Inv X pins σ H { s with heap:=h',toks:=t'}:=by
 have off:∀b u,H b=some u->b∉fp:=λb u e z=>by rw[(hf b z).1] at e;cases e
 refine I.step (g':=s.gens) (d':=s.drawn) (ch:=fp) (λb hb=>?_) (λb o _ _ hc e _=>k b o hc e) (λb o _ _ hc e _=>⟨o.slots,k b o hc e⟩) (λ_ _ _ _ n=>n)
  (λb o hc e=>⟨o,k b o hc e⟩) (λ_ _ e=>e) (λ_ _ _ e=>e) (λb ps e=>⟨#[],by rw[e];simp⟩) (λm hm=>?_) (λb u e=>?_) I.bare
 ·obtain⟨_,f1,_,f3,f4,f5⟩:=hf b hb;exact⟨f3,f1,f4,f5⟩
 ·obtain⟨o,es,ep,ho,r⟩:=hm;exact⟨o,es,ep,k _ o (λz=>(hf _ z).2.1 Z) ho,r⟩
 ·refine(I.hok b u e).stay (λc v hc q=>k c v ?_ q) (λ_ q=>q) λ_ _ q=>q
  rcases hc with z|z
  ·rw[z];exact off b u e
  ·exact off c _ z
section
variable {prog:O0}{w:Pk}{A:O5}{E:Value->Om->Prop}{s:Om}
theorem CT(a:s.heap.IsTupleIter j t k)(b:s.heap.IsTuple t ys)(c:ys[k]?=some v)
  (g:∀h',h'.IsTupleIter j t (k+1)->RL j s.heap h'->G v { s with heap:=h'}):OJ (OM prog w) A (Rh (.ref j)) G E s:=by
 obtain⟨o,e1,e2,e3⟩:=id a;obtain⟨q,f1,_,n,f2⟩:=b;unfold Rh;refine Oj (Qi (name:=Pb "__next__") a.typeIs F.slot_tuple_iterator_next (Q9 F.slot_tuple_iterator_next a.typeIs F.entry_tuple_iterator_next ?_ (F.args_tuple_iterator_next_1 _)))
 show OJ (OM prog w) _ (XM (.ref j) 0 >>= _) _ _ s;refine Oj (Qx e1 e3 (x:=.ref t) Z ?_);show OJ (OM prog w) _ (if(OP t==Qo)=true then _ else _) _ _ s;rw[if_neg (λz=>WF z:¬((OP t==Qo)=true))];show OJ (OM prog w) _ (XM (.ref j) 1 >>= _) _ _ s;refine Oj (Qx e1 e3 (x:=.int k 0) Z ?_);show OJ (OM prog w) _ (seqItems? (.ref t) >>= _) _ _ s;refine Oj (wpAny_seqItems f1 f2 ?_);simp only[c,QX];refine Oj (SI e1 e3 (by simp) (OC ⟨v,Z,OC (g _ ?_ (Vx ..))⟩));refine⟨_,QD _ e1 (R5 (RQ e3 _)),(Wg ..).trans e2,?_⟩;rw[RQ e3];simp[rawInt]
theorem Ao(hh:A.handled=none)(a:s.heap.IsTupleIter j t k)(b:s.heap.IsTuple t ys)(c:ys[k]?=none)
  (g:∀h' e,Oy.ExtBut j s.heap h'->(∃o,h'.get? e=some o/\o.cls=.type "StopIteration")->E (.ref e) { s with heap:=h'}):OJ (OM prog w) A (Rh (.ref j)) G E s:=by
 obtain⟨o,e1,e2,e3⟩:=id a;obtain⟨q,f1,_,n,f2⟩:=b;unfold Rh;refine Oj (Qi (name:=Pb "__next__") a.typeIs F.slot_tuple_iterator_next (Q9 F.slot_tuple_iterator_next a.typeIs F.entry_tuple_iterator_next ?_ (F.args_tuple_iterator_next_1 _)))
 show OJ (OM prog w) _ (XM (.ref j) 0 >>= _) _ _ s;refine Oj (Qx e1 e3 (x:=.ref t) Z ?_);show OJ (OM prog w) _ (if(OP t==Qo)=true then _ else _) _ _ s;rw[if_neg (λz=>WF z:¬((OP t==Qo)=true))];show OJ (OM prog w) _ (XM (.ref j) 1 >>= _) _ _ s;refine Oj (Qx e1 e3 (x:=.int k 0) Z ?_);show OJ (OM prog w) _ (seqItems? (.ref t) >>= _) _ _ s;refine Oj (wpAny_seqItems f1 f2 ?_);simp only[c,QX];refine Oj (Xa (Oj (SI e1 e3 (by simp) ?_)));show OJ (OM prog w) _ (newExc (.type "StopIteration") [] >>= _) _ _ _;refine Oj ?_;simp only[newTuple,newExc];refine Oj (PD ?_ (by size_fits));refine Oj (m:=firstArgMember _ _) (wpAny_of_eq (a:=Qo) (by first|rfl | (simp only[firstArgMember]<;>rfl)) ?_);refine PD ?_ (by size_fits);simp only[raiseNew];refine Oj (wpAny_handled ?_)
 first|rw[hh]|rw[show A.in1.handled=none from hh]
 refine Oj (OC (wpAny_throw (g _ _ (((Vx ..).extBut.push _).push _) ⟨_,OO _ Z,Z⟩)))
structure Nw(z TI TO i1 i2:Addr):Prop where
 a1:TI≠z
 a2:TO≠z
 a3:i1≠z
 a4:i2≠z
 a5:TI≠TO
 a6:TI≠i1
 a7:TI≠i2
 a8:TO≠i1
 a9:TO≠i2
 b1:i1≠i2
end
theorem om{X:Cx}{pins:List (Addr×P0)}{σ:L2.St}{H:Hp}{s:Om}{h':Oy}{t':Nat}{fp:List Addr}{p:Addr}{v:HO}(I:Inv X pins σ H s)
  (k:∀b o,b∉fp->s.heap.get? b=some o->h'.get? b=some o) (hf:∀b∈fp,gA X pins H b) (hp:s.heap.objs.size≤p) (new:ObjOk X.prog X.w (upd H p v) h' p v) :
  Inv X pins σ (upd H p v) { s with heap:=h',toks:=t'}:=by
 have off:∀b u,H b=some u->b∉fp:=λb u e z=>by rw[(hf b z).1] at e;cases e
 have hn:H p=none:=I.hok.fresh hp;have old:∀b u,H b=some u->upd H p v b=some u:=λb u e=>by rw[ay (aR e hn)];exact e
 refine I.step (g':=s.gens) (d':=s.drawn) (ch:=fp) (λb hb=>?_) (λb o _ _ hc e _=>k b o hc e) (λb o _ _ hc e _=>⟨o.slots,k b o hc e⟩) (λb o _ e n=>?_)
  (λb o hc e=>⟨o,k b o hc e⟩) (λb xs e=>old b _ e) (λb o u e=>old b _ e) (λb ps e=>⟨#[],by rw[old b _ e];simp⟩) (λm hm=>?_) (λb u e=>?_) I.bare
 ·obtain⟨_,f1,_,f3,f4,f5⟩:=hf b hb;exact⟨f3,f1,f4,f5⟩
 ·rw[ay (O9 (OI (OF e) hp))];exact n
 ·obtain⟨o,es,ep,ho,r⟩:=hm;exact⟨o,es,ep,k _ o (λz=>(hf _ z).2.1 Z) ho,r⟩
 ·by_cases hb:b=p
  ·subst hb;rw[ag] at e;cases e;exact new
  ·rw[ay hb] at e;refine(I.hok b u e).stay (λc v hc q=>k c v ?_ q) (λc q=>old c _ q) λc xs q=>old c _ q
   rcases hc with z|z
   ·rw[z];exact off b u e
   ·exact off c _ z
theorem ui{X:Cx}{pins:List (Addr×P0)}{σ:L2.St}{H:Hp}{s:Om}{a b:Addr}{xs:List V}(I:Inv X pins σ H s)(h:bu X.K H a xs)(f:gA X pins H b):a≠b:=λz=>by
 subst z;rcases h with(h | ⟨o,h⟩) | ⟨o,its,n,hk,_⟩
 ·rw[f.1] at h;cases h
 ·rw[f.1] at h;cases h
 ·have e:=I.ok.mod.kin a o hk;rcases f.2.2.2.1 with z|z
  ·exact I.ok.noex a o e z
  ·rw[(I.ok.bs a o e).1] at z;cases z
def Nt(K:Of)(a b:Addr):It:=
 ⟨λi H=>∃xs ys x y,bu K H a xs/\bu K H b ys/\xs[i]?=some x/\ys[i]?=some y,
  λi H v H'=>∃p x y,H p=none/\v=.ref p/\H'=upd H p (.tup [x,y])/\(∀xs,bu K H a xs->xs[i]?=some x)/\∀ys,bu K H b ys->ys[i]?=some y,
  λi H=>∃xs ys,bu K H a xs/\bu K H b ys/\(xs.length≤i∨ys.length≤i)⟩
def NV(z TI TO i1 i2 a b:Addr)(i:Nat)(h:Oy):Prop:=IsZip h z TI TO .none/\Xl h TI (.ref i1) (.ref i2)/\(∃u v,Xl h TO u v)/\h.IsTupleIter i1 a i/\h.IsTupleIter i2 b i
theorem iC{h h':Oy}(x:h.IsTupleIter i a n)(k:∀o,h.get? i=some o->h'.get? i=some o):h'.IsTupleIter i a n:=let ⟨o,e,r⟩:=x;⟨o,k o e,r⟩
theorem xj{h h':Oy}(x:h.IsTuple a ys)(k:∀o,h.get? a=some o->h'.get? a=some o):h'.IsTuple a ys:=let ⟨o,e,r⟩:=x;⟨o,k o e,r⟩
abbrev zA(h:Oy)(a:Addr):Oy:=h.push { cls:=.type "tuple_iterator",data:=.fields #[.ref a,.int 0 0]}
abbrev zB(h:Oy)(a b:Addr):Oy:=zA (zA h a) b
abbrev zC(h:Oy)(a b:Addr):Oy:=(zB h a b).push { cls:=.type "tuple",data:=.seq #[.ref h.objs.size,.ref (zA h a).objs.size]}
abbrev zD(h:Oy)(a b:Addr):Oy:=(zC h a b).push { cls:=.type "tuple",data:=.seq #[.none,.none]}
abbrev zE(h:Oy)(a b:Addr):Oy:=(zD h a b).push { cls:=.type "zip",data:=.fields #[.none,.bool false,.bool false,.ref (zB h a b).objs.size,.ref (zC h a b).objs.size]}
def M0(K:Of)(ta:TA):TI:=λσ H R=>ta σ H λvs H1=>∃a b,vs=[.ref a,.ref b]/\(∃xs,bu K H1 a xs)/\(∃ys,bu K H1 b ys)/\R (Nt K a b) H1
theorem wB(hh:A.handled=none)(it a:Addr)(ne:a≠it)(items:Array Value):
  Draws prog w A it [it,a] items.size (λi v=>items[i]?=some v) (λi h=>h.IsTupleIter it a i/\h.IsTuple a items) where
 live:=λ_ _ st=>let ⟨o,ho,_⟩:=st.1;⟨o,ho⟩
 frame:=λ_ _ _ st hk=>⟨iC st.1 λo e=>hk it (by simp) o e,xj st.2 λo e=>hk a (by simp) o e⟩
 item:=λi s Q E hi st hQ=>by
  have hx:items[i]?=some (items[i]'hi):=Array.getElem?_eq_getElem hi;exact CT st.1 st.2 hx λh' i' sb=>hQ _ h' s.toks hx ⟨i',xj st.2 λo e=>sb.extBut _ _ ne e⟩ sb
 done:=λs Q E st hE=>Ao hh st.1 st.2 (by simp) hE
theorem wA(a:Addr)(xs:Array Value):Meets (Pa.«enumerate.__new__» ⟨[.type "enumerate",.ref a],[]⟩) (λ_ R s=>s.heap.IsTuple a xs∧
   R (.ok (.ret (.ref (zA s.heap a).objs.size))) { s with heap:=(zA s.heap a).push { cls:=.type "enumerate",data:=.fields #[.none,.bool false,.ref s.heap.objs.size,rawInt 0,.none,.none]} }):=
 .of_wp λprog w A R s h=>by
  obtain⟨hp,g,d,tk,os⟩:=s;obtain⟨hl,h⟩:=h;obtain⟨⟨c,dct,dt,sl⟩,ho,hc,n,hd⟩:=id hl
  replace hc:c=.type "tuple" := hc
  replace hd:dt=.seq xs n:=hd
  subst hc hd;have hsub:=sub_enumerate;have L:Oy.IsTuple (Om.heap ⟨hp,g,d,tk,os⟩) a xs:=hl
  wp_walk using Ru ho
  refine wpAny_stack_any λst=>OC ?_
  split
  ·rename_i c _ _ _ _ _
   cases(c==Rt "enumerate")
   ·wp_walk using Ru ho,RM L
    exact⟨_,Z,h⟩
   ·wp_walk using Ru ho,RM L
    exact⟨_,Z,h⟩
  ·wp_walk using Ru ho,RM L
   exact⟨_,Z,h⟩
theorem tE(hL:s.heap.IsTuple a items)
  (h:∀h',IsEnum h' (s.heap.objs.size+1) s.heap.objs.size 0 .none->h'.IsTupleIter s.heap.objs.size a 0->h'.objs.size=s.heap.objs.size+2→ (∀b o,s.heap.get? b=some o->h'.get? b=some o)->Q (.ref (s.heap.objs.size+1)) { s with heap:=h'}):
  OJ (OM prog w) A (call (.type "enumerate") [.ref a]) Q E s:=by
 refine callType_new F.called_enumerate (by decide) (F.typeCall_enumerate_1 _) (F.newCall_enumerate_1 _) (λobj=>F.args_object_init_2 obj _) F.entry_enumerate_new
  (wA a items) ⟨hL,?_⟩
 have hz:(zA s.heap a).objs.size=s.heap.objs.size+1:=QQ ..;show _/\_;rw[hz];have he:IsEnum ((zA s.heap a).push { cls:=.type "enumerate",data:=.fields #[.none,.bool false,.ref s.heap.objs.size,rawInt 0,.none,.none]}) (s.heap.objs.size+1) s.heap.objs.size 0 .none:=by
  have:=OO (zA s.heap a) (o:={ cls:=.type "enumerate",data:=.fields #[.none,.bool false,.ref s.heap.objs.size,rawInt 0,.none,.none]}) Z;rw[hz] at this;exact this
 refine⟨⟨_,he,Z⟩,h _ he ⟨_,On _ (OO _ Z),Z,Z⟩ (by rw[QQ,hz]) λb o x=>On _ (On _ x)⟩
theorem uj{X:Cx}{pins:List (Addr×P0)}{σ:L2.St}{H:Hp}{s:Om}{a b:Addr}{xs:List V}(I:Inv X pins σ H s)(h:ba X.K H a xs)(f:gA X pins H b):a≠b:=λz=>by
 subst z;rcases h with(h | ⟨o,h⟩) | ⟨o,its,n,hk,_⟩
 ·rw[f.1] at h;cases h
 ·rw[f.1] at h;cases h
 ·have e:=I.ok.mod.kin a o hk;rcases f.2.2.2.1 with z|z
  ·exact I.ok.noex a o e z
  ·rw[(I.ok.bs a o e).1] at z;cases z
theorem lY{h h':Oy}(x:h.IsListIter i a n)(k:∀o,h.get? i=some o->h'.get? i=some o):h'.IsListIter i a n:=x.at k
def wW(K:Of)(a:Addr):It:=
 ⟨λi H=>∃xs x,bu K H a xs/\xs[i]?=some x,
  λi H v H'=>∃p x,H p=none/\v=.ref p/\H'=upd H p (.tup [.int i,x])/\∀xs,bu K H a xs->xs[i]?=some x,
  λi H=>∃xs,bu K H a xs/\xs.length≤i⟩
theorem xh{P:O0}{w:Pk}{K:Of}{elts:List O3}{x1}{pos:R1}{e it a:Addr}(hei:e≠it) :
  rn P w K (.Tuple elts x1 pos) (wW K a) [e,it] e (λi h=>(∃old,IsEnum h e it (i:Nat) old)/\h.IsTupleIter it a i) where
 mem:=by simp
 obj:=λi h st c hc=>by
  obtain⟨⟨old,h1⟩,⟨o2,h2,c2,d2⟩⟩:=st;simp only[Ov,OX,or_false] at hc;rcases hc with rfl|rfl
  ·exact⟨_,h1,λv q=>by cases(show TX _=Vm v from q)⟩
  ·exact⟨o2,h2,λv q=>by rw[d2] at q;cases q⟩
 keep:=λi h h' st k=>by
  obtain⟨⟨old,h1⟩,h2⟩:=st;exact⟨⟨old,k e (by simp) _ h1⟩,iC h2 λo q=>k it (by simp) o q⟩
 item:=by
  intro X hP hw hK hc i pins s σ H E I hf st hg;subst hP hw hK;obtain⟨xs,x,q1,hx⟩:=hg;obtain⟨its,rv,p1,z1⟩:=I.tuple q1;obtain⟨u,hu,ru⟩:=rv.get hx;have off:∀c∈[e,it],a≠c:=λc hc=>ui I q1 (hf c hc)
  obtain⟨⟨old,h1⟩,h2⟩:=st;have hh:X.A.in1.handled=none:=I.ok.hd hc;have na:a≠it:=off it (by simp);have ne:e∉[it,a]:=λq=>by
   simp only[Ov,OX,or_false] at q;rcases q with q|q
   ·exact hei q
   ·exact off e (by simp) q.symm
  have hi:i<its.toArray.size:=by have:=(OH.mp hu).1;simpa using this
  have el:e<s.heap.objs.size:=OF h1;have il:it<s.heap.objs.size:=by obtain⟨o2,q2,_⟩:=h2;exact OF q2
  refine Up (wB hh it a na its.toArray) h1 ⟨h2,p1⟩ hi hei ne λv h' tk hv eo st' tup hz hk=>⟨_,Z,TL eo λh'' e2 sb=>?_⟩
  have ev:v=u:=by
   have:its.toArray[i]?=some u:=by simpa using hu
   rw[this] at hv;exact(Pp hv).symm
  subst ev;have nt:s.heap.objs.size≠e:=Rn el;have ni:s.heap.objs.size≠it:=Rn il;have P:ObjOk X.prog X.w (upd H s.heap.objs.size (.tup [.int i,x])) h'' s.heap.objs.size (.tup [.int i,x]):=
   ⟨by show 2≤sizeLine;decide,[.int i tk,v],.cons ⟨_,Z⟩ (.cons ru .nil),⟨_,sb.extBut _ _ nt tup,Z,_,Z⟩⟩
  have I2:Inv X pins σ (upd H s.heap.objs.size (.tup [.int i,x])) { s with heap:=h'',toks:=tk+1}:=om I (λc o' n q=>by
   have n1:c≠e:=λr=>n (by simp[r])
   have n2:c≠it:=λr=>n (by simp[r])
   exact sb.extBut _ _ n1 (hk c o' n1 n2 q)) hf (Oi _) P
  refine⟨.ref s.heap.objs.size,_,I2,Z,⟨_,x,I.fresh,Z,Z,λys hy=>by rw[I.tuple_inj hy q1];exact hx⟩,⟨⟨_,by simpa using e2⟩,iC st'.1 λo q=>sb.extBut _ _ hei.symm q⟩,λc hc=>?_⟩;have lt:c<s.heap.objs.size:=by
   simp only[Ov,OX,or_false] at hc;rcases hc with rfl|rfl
   ·exact el
   ·exact il
  rw[ay (O9 lt)];exact(hf c hc).1
 done:=by
  intro X hP hw hK hc i pins s σ H E I hf st hg;subst hP hw hK;obtain⟨xs,q1,hx⟩:=hg;obtain⟨its,rv,p1,z1⟩:=I.tuple q1;have off:∀c∈[e,it],a≠c:=λc hc=>ui I q1 (hf c hc)
  obtain⟨⟨old,h1⟩,h2⟩:=st;have hh:X.A.in1.handled=none:=I.ok.hd hc;have hl:=rv.length;have nn:its.toArray[i]?=none:=by rw[TM];simp;omega
  have hT:s.TypeIs (.ref e) "enumerate" := ⟨_,h1,Z⟩;unfold XF;refine Oj (Ue (Qi (name:=Pb "__next__") hT F.slot_enumerate_next (Q9 F.slot_enumerate_next hT F.entry_enumerate_next ?_ (F.args_enumerate_next_1 _))))
  show OJ _ _ (XM (.ref e) 2 >>= _) _ _ _;refine Oj (Qx h1 Z (x:=.ref it) Z ?_);refine Oj (Ao hh h2 p1 nn λh' x he' hx'=>?_);obtain⟨o,ho,hcl⟩:=hx';refine Oj (WG (T := "StopIteration") (b:=true) ⟨o,ho,hcl⟩ isSubtype_stop ?_);refine OC ⟨Z,?_⟩;exact oo (t':=s.toks) I (λc o' n q=>he' c o' (λr=>n (by simp[r])) q) hf
 self:=λA i s Q E st h=>by
  obtain⟨⟨old,h1⟩,_⟩:=st;exact SJ h1 h
def Ju(K:Of)(ta:TA):TI:=λσ H R=>ta σ H λvs H1=>∃a,vs=[.ref a]/\(∃xs,bu K H1 a xs)/\R (wW K a) H1
theorem CC{X:Cx}{elts:List O3}{x1}{tp p pos:R1}{a:O3}{ta:TA}(hg:Gl X "enumerate")(hm:X.mg "enumerate"=none)(ha:PA X [a] ta)(hs:Oz [a] X.env=[(false,eval a X.env)]:=by rfl) :
  PI X (.Tuple elts x1 tp) (.Call (.Name "enumerate" p) [a] [] pos) (Ju X.K ta):=by
 intro pins s σ H R I h;refine Call_ (gO I hg hm (show QM "enumerate"=some (.type "enumerate") by kernel_rfl) (PY (bK (ha pos pins s σ H _ I h) λus s1 ⟨vs,H1,I1,r1,q1⟩=>?_) hs Z));obtain⟨a,e,⟨xs,hx⟩,q⟩:=q1;subst e;obtain⟨u,rfl,ru⟩:=r1.one
 cases ru
 obtain⟨its,_,p1,_⟩:=I1.tuple hx;refine tE p1 λh' he hi sz kk=>SJ he ?_
 have I2:Inv X pins σ H1 { s1 with heap:=h'}:=I1.kept (t':=s1.toks) kk;refine⟨_,[s1.heap.objs.size+1,s1.heap.objs.size],_,_,H1,rfl,I2,xh (a:=a) (WH _),⟨⟨_,he⟩,hi⟩,λc hc=>?_,q⟩;have le:s1.heap.objs.size≤c:=by
  simp only[Ov,OX,or_false] at hc;rcases hc with h|h
  ·rw[h];exact Qw _
  ·rw[h];exact Oi _
 exact I1.fpOk le (I1.hok.fresh le)
theorem AL{K:Of}{a:Addr}{xs:List V}{g:TG}{tb:TS}{D:io}{σ:L2.St}{H:Hp}(Pv:Nat->L2.St->Hp->Prop)(h0:Pv 0 σ H)
  (hl:∀i σ H,i≤xs.length->Pv i σ H->bu K H a xs)
  (hs:∀i x p σ H,xs[i]?=some x->Pv i σ H->H p=none->g (.ref p) σ (upd H p (.tup [.int i,x])) λσ2 H2=>tb { D with nx:=Pv (i+1),ct:=Pv (i+1),bk:=D.nx} σ2 H2) (hd:∀σ H,Pv xs.length σ H->D.nx σ H) :
  ∃W:Nat->Nat->L2.St->Hp->Prop,(∃m,W 0 m σ H)/\∀i m σ H,W i m σ H→
   ((wW K a).stop i H/\D.nx σ H)∨((wW K a).go i H/\∃N:L2.St->Hp->Prop,(∀σ' H',N σ' H'->∃m',m'<m/\W (i+1) m' σ' H')/\∀x H',(wW K a).yld i H x H'->g x σ H' λσ2 H2=>tb { D with nx:=N,ct:=N,bk:=D.nx} σ2 H2):=by
 refine⟨λi m σ H=>m=xs.length-i/\i≤xs.length/\Pv i σ H,⟨_,Z,ON _,h0⟩,?_⟩;rintro i m σ H ⟨rfl,hi,p⟩;have q:=hl i σ H hi p;by_cases hlt:i<xs.length
 ·refine .inr ⟨⟨xs,_,q,Oh hlt⟩,Pv (i+1),λσ' H' p'=>⟨xs.length-(i+1),by omega,Z,hlt,p'⟩,λx H' y=>?_⟩;obtain⟨pp,v,hp,rfl,rfl,hv⟩:=y;exact hs i v pp σ _ (hv xs q) p hp
 ·have e:i=xs.length:=by omega
  subst e;exact .inl ⟨⟨xs,q,Oi _⟩,hd σ H p⟩
def wX(K:Of)(a:Addr):It:=
 ⟨λi H=>∃xs x,ba K H a xs/\xs[i]?=some x,
  λi H v H'=>∃p x,H p=none/\v=.ref p/\H'=upd H p (.tup [.int i,x])/\∀xs,ba K H a xs->xs[i]?=some x,
  λi H=>∃xs,ba K H a xs/\xs.length≤i⟩
theorem xi{P:O0}{w:Pk}{K:Of}{elts:List O3}{x1}{pos:R1}{e it a:Addr}(hei:e≠it) :
  rn P w K (.Tuple elts x1 pos) (wX K a) [e,it] e (λi h=>(∃old,IsEnum h e it (i:Nat) old)/\h.IsListIter it a i) where
 mem:=by simp
 obj:=λi h st c hc=>by
  obtain⟨⟨old,h1⟩,⟨o2,h2,c2,d2⟩⟩:=st;simp only[Ov,OX,or_false] at hc;rcases hc with rfl|rfl
  ·exact⟨_,h1,λv q=>by cases(show TX _=Vm v from q)⟩
  ·exact⟨o2,h2,λv q=>by rw[d2] at q;cases q⟩
 keep:=λi h h' st k=>by
  obtain⟨⟨old,h1⟩,h2⟩:=st;exact⟨⟨old,k e (by simp) _ h1⟩,lY h2 λo q=>k it (by simp) o q⟩
 item:=by
  intro X hP hw hK hc i pins s σ H E I hf st hg;subst hP hw hK;obtain⟨xs,x,q1,hx⟩:=hg;obtain⟨its,rv,p1,z1⟩:=I.list q1;obtain⟨u,hu,ru⟩:=rv.get hx;have off:∀c∈[e,it],a≠c:=λc hc=>uj I q1 (hf c hc)
  obtain⟨⟨old,h1⟩,h2⟩:=st;have hh:X.A.in1.handled=none:=I.ok.hd hc;have na:a≠it:=off it (by simp);have ne:e∉[it,a]:=λq=>by
   simp only[Ov,OX,or_false] at q;rcases q with q|q
   ·exact hei q
   ·exact off e (by simp) q.symm
  have hi:i<its.toArray.size:=by have:=(OH.mp hu).1;simpa using this
  have el:e<s.heap.objs.size:=OF h1;have il:it<s.heap.objs.size:=by obtain⟨o2,q2,_⟩:=h2;exact OF q2
  refine Up (Draws.list hh it a na its.toArray) h1 ⟨h2,p1.isList⟩ hi hei ne λv h' tk hv eo st' tup hz hk=>⟨_,Z,TL eo λh'' e2 sb=>?_⟩
  have ev:v=u:=by
   have:its.toArray[i]?=some u:=by simpa using hu
   rw[this] at hv;exact(Pp hv).symm
  subst ev;have nt:s.heap.objs.size≠e:=Rn el;have ni:s.heap.objs.size≠it:=Rn il;have P:ObjOk X.prog X.w (upd H s.heap.objs.size (.tup [.int i,x])) h'' s.heap.objs.size (.tup [.int i,x]):=
   ⟨by show 2≤sizeLine;decide,[.int i tk,v],.cons ⟨_,Z⟩ (.cons ru .nil),⟨_,sb.extBut _ _ nt tup,Z,_,Z⟩⟩
  have I2:Inv X pins σ (upd H s.heap.objs.size (.tup [.int i,x])) { s with heap:=h'',toks:=tk+1}:=om I (λc o' n q=>by
   have n1:c≠e:=λr=>n (by simp[r])
   have n2:c≠it:=λr=>n (by simp[r])
   exact sb.extBut _ _ n1 (hk c o' n1 n2 q)) hf (Oi _) P
  refine⟨.ref s.heap.objs.size,_,I2,Z,⟨_,x,I.fresh,Z,Z,λys hy=>by rw[I.list_inj hy q1];exact hx⟩,⟨⟨_,by simpa using e2⟩,lY st'.1 λo q=>sb.extBut _ _ hei.symm q⟩,λc hc=>?_⟩;have lt:c<s.heap.objs.size:=by
   simp only[Ov,OX,or_false] at hc;rcases hc with rfl|rfl
   ·exact el
   ·exact il
  rw[ay (O9 lt)];exact(hf c hc).1
 done:=by
  intro X hP hw hK hc i pins s σ H E I hf st hg;subst hP hw hK;obtain⟨xs,q1,hx⟩:=hg;obtain⟨its,rv,p1,z1⟩:=I.list q1;have off:∀c∈[e,it],a≠c:=λc hc=>uj I q1 (hf c hc)
  obtain⟨⟨old,h1⟩,h2⟩:=st;have hh:X.A.in1.handled=none:=I.ok.hd hc;have hl:=rv.length;have nn:its.toArray[i]?=none:=by rw[TM];simp;omega
  have hT:s.TypeIs (.ref e) "enumerate" := ⟨_,h1,Z⟩;unfold XF;refine Oj (Ue (Qi (name:=Pb "__next__") hT F.slot_enumerate_next (Q9 F.slot_enumerate_next hT F.entry_enumerate_next ?_ (F.args_enumerate_next_1 _))))
  show OJ _ _ (XM (.ref e) 2 >>= _) _ _ _;refine Oj (Qx h1 Z (x:=.ref it) Z ?_);refine Oj (wpAny_nextOf_list_end hh h2 p1.isList nn λh' x he' hx'=>?_);obtain⟨o,ho,hcl⟩:=hx';refine Oj (WG (T := "StopIteration") (b:=true) ⟨o,ho,hcl⟩ isSubtype_stop ?_);refine OC ⟨Z,?_⟩;exact oo (t':=s.toks) I (λc o' n q=>he' c o' (λr=>n (by simp[r])) q) hf
 self:=λA i s Q E st h=>by
  obtain⟨⟨old,h1⟩,_⟩:=st;exact SJ h1 h
def Jv(K:Of)(ta:TA):TI:=λσ H R=>ta σ H λvs H1=>∃a,vs=[.ref a]/\(∃xs,ba K H1 a xs)/\R (wX K a) H1
theorem zM{X:Cx}{elts:List O3}{x1}{tp p pos:R1}{a:O3}{ta:TA}(hg:Gl X "enumerate")(hm:X.mg "enumerate"=none)(ha:PA X [a] ta)(hs:Oz [a] X.env=[(false,eval a X.env)]:=by rfl) :
  PI X (.Tuple elts x1 tp) (.Call (.Name "enumerate" p) [a] [] pos) (Jv X.K ta):=by
 intro pins s σ H R I h;refine Call_ (gO I hg hm (show QM "enumerate"=some (.type "enumerate") by kernel_rfl) (PY (bK (ha pos pins s σ H _ I h) λus s1 ⟨vs,H1,I1,r1,q1⟩=>?_) hs Z));obtain⟨a,e,⟨xs,hx⟩,q⟩:=q1;subst e;obtain⟨u,rfl,ru⟩:=r1.one
 cases ru
 obtain⟨its,_,p1,_⟩:=I1.list hx;refine call_enumerate_list p1.isList λh' he hi sz kk=>SJ he ?_
 have I2:Inv X pins σ H1 { s1 with heap:=h'}:=I1.kept (t':=s1.toks) kk;refine⟨_,[s1.heap.objs.size+1,s1.heap.objs.size],_,_,H1,rfl,I2,xi (a:=a) (WH _),⟨⟨_,he⟩,hi⟩,λc hc=>?_,q⟩;have le:s1.heap.objs.size≤c:=by
  simp only[Ov,OX,or_false] at hc;rcases hc with h|h
  ·rw[h];exact Qw _
  ·rw[h];exact Oi _
 exact I1.fpOk le (I1.hok.fresh le)
theorem wu{K:Of}{a:Addr}{xs:List V}{g:TG}{tb:TS}{D:io}{σ:L2.St}{H:Hp}(Pv:Nat->L2.St->Hp->Prop)(h0:Pv 0 σ H)
  (hl:∀i σ H,i≤xs.length->Pv i σ H->ba K H a xs)
  (hs:∀i x p σ H,xs[i]?=some x->Pv i σ H->H p=none->g (.ref p) σ (upd H p (.tup [.int i,x])) λσ2 H2=>tb { D with nx:=Pv (i+1),ct:=Pv (i+1),bk:=D.nx} σ2 H2) (hd:∀σ H,Pv xs.length σ H->D.nx σ H) :
  ∃W:Nat->Nat->L2.St->Hp->Prop,(∃m,W 0 m σ H)/\∀i m σ H,W i m σ H→
   ((wX K a).stop i H/\D.nx σ H)∨((wX K a).go i H/\∃N:L2.St->Hp->Prop,(∀σ' H',N σ' H'->∃m',m'<m/\W (i+1) m' σ' H')/\∀x H',(wX K a).yld i H x H'->g x σ H' λσ2 H2=>tb { D with nx:=N,ct:=N,bk:=D.nx} σ2 H2):=by
 refine⟨λi m σ H=>m=xs.length-i/\i≤xs.length/\Pv i σ H,⟨_,Z,ON _,h0⟩,?_⟩;rintro i m σ H ⟨rfl,hi,p⟩;have q:=hl i σ H hi p;by_cases hlt:i<xs.length
 ·refine .inr ⟨⟨xs,_,q,Oh hlt⟩,Pv (i+1),λσ' H' p'=>⟨xs.length-(i+1),by omega,Z,hlt,p'⟩,λx H' y=>?_⟩;obtain⟨pp,v,hp,rfl,rfl,hv⟩:=y;exact hs i v pp σ _ (hv xs q) p hp
 ·have e:i=xs.length:=by omega
  subst e;exact .inl ⟨⟨xs,q,Oi _⟩,hd σ H p⟩
section
variable {prog:O0}{w:Pk}{A:O5}{E:Value->Om->Prop}
end
def Na(K:Of)(n:Nat)(t:wS):TG:=λv σ H Q=>∃a xs,v=.ref a/\ba K H a xs/\xs.length=n/\t xs σ H Q
section
variable {prog:O0}{w:Pk}{A:O5}{E:Value->Om->Prop}{s:Om}
open HT in
theorem qk{t sl:Addr}{items:Array Value}{vl vu:Value}{lo hi:Option Int}{Q:Value->Om->Prop}(ht:W4 s.heap t items)(hs:s.heap.IsSliceOf sl vl vu .none)(pl:UM vl lo)(pu:UM vu hi)
  (h1:sIx items.size 0 lo=0) (h2:sIx items.size items.size hi=items.size) (h:Q (.ref t) s):OJ (OM prog w) A (Tk (.ref t) (.ref sl)) Q E s:=by
 obtain⟨os,hos,hcs,hds⟩:=id hs;have hTs:s.TypeIs (.ref sl) "slice" := ⟨os,hos,hcs⟩;unfold Tk
 try with_reducible refine wpAny_holding ?_
 first|refine Oj (OC ?_)|skip
 refine Oj (V9 ht.typeIs (by decide) ?_);refine Oj (Qi (name:=Pb "__getitem__") ht.typeIs PH (Q9 PH ht.typeIs Vu ?_ (VP _ _)))
 show OJ _ _ (TF (.ref t) >>= _) _ _ s;refine Oj (tupleItemsOf_ ht ?_);refine Oj (UN hTs ?_);rw[if_pos (by decide)];refine Oj (f6 hs pl pu ?_);have hyes:((((sIx items.size 0 lo:Nat):Int)==0&&(1:Int)==1&&(sIx items.size items.size hi-sIx items.size 0 lo)==items.size)=true):=by
  rw[h1,h2];simp
 show OJ _ _ (if(((sIx items.size 0 lo:Nat):Int)==0&&(1:Int)==1&&(sIx items.size items.size hi-sIx items.size 0 lo)==items.size)=true then _ else _) _ _ s;rw[if_pos hyes];refine Oj ?_;unfold Pa.Tuple.tupleIsExact;refine Oj (UN ht.typeIs ?_);refine OC ?_;rw[if_pos (by decide)];exact Oj (Xa (OC ⟨_,Z,OC h⟩))
end
def II(K:Of):V->Option Int->Option Int->Hp->VK->Prop:=λx lo hi H Q=>∃a xs,x=.ref a/\bu K H a xs/\HT.sIx xs.length 0 lo=0/\HT.sIx xs.length xs.length hi=xs.length/\Q (.ref a) H
theorem BW:Bl X (II X.K):=by
 intro pins s σ H x v vl vu lo hi sl Q I rx hs pl pu h;obtain⟨a,xs,rfl,hx,h1,h2,q⟩:=h
 cases rx
 obtain⟨its,r,ht,hz⟩:=I.tuple hx;have hlen:its.toArray.size=xs.length:=by rw[OY];exact r.length.symm
 refine⟨"tuple",_,PH.lookup,ht.typeIs,?_⟩;exact qk ht hs pl pu (by rw[hlen];exact h1) (by rw[hlen];exact h2) ⟨.ref a,H,I,Z,q⟩
theorem BY:Bl X (λx lo hi H Q=>II X.K x lo hi H Q∨IJ X.K x lo hi H Q):=Bl.or BW ER
end B
namespace B
theorem GO(hb:0<b)(hd:0<d)(e:a*d=c*b):dZ a b=dZ c d:=by
 have hr:=hU (a:=c) hd;have hc:=nL (a:=c) hd;generalize dZ c d=m at hr hc ⊢;refine eW hb hr.pos hr.cop ?_;refine Sb (show d≠0 by omega) ?_;have e1:m.1*b*d=m.1*d*b:=by ac_rfl
 have e2:a*m.2*d=a*d*m.2:=by ac_rfl
 rw[e1,hc,e2,e]
 ac_rfl
structure Bq(D N:Nat)(r:R):Prop where
 pos:0<r.2
 cop:OG r.1 r.2=1
 dvd:r.2∣(D:Int)
 le:r.1.natAbs≤N*r.2.natAbs
theorem Bq.red(h:Bq D N r):iP r:=⟨h.pos,h.cop⟩
theorem uX{D N:Nat}{a b:Int}(hb:0<b)(hd:b∣(D:Int))(hl:a.natAbs≤N*b.natAbs):Bq D N (dZ a b):=by
 obtain⟨g,x,y,e0,gp,e1,e2,c⟩:=fD (a:=a) hb;have yp:=iK hb gp e2;have e:dZ a b=(x,y):=by
  unfold dZ;rw[e0,show a/g=x by rw[e1];exact OT _ (by omega),show b/g=y by rw[e2];exact OT _ (by omega)]
 rw[e];refine⟨yp,c,So ⟨g,by rw[e2,Rr]⟩ hd,?_⟩;rw[e1,e2,Re,Re] at hl;have gn:0<g.natAbs:=by omega
 refine Nat.le_of_mul_le_mul_left (c:=g.natAbs) ?_ gn;show g.natAbs*x.natAbs≤g.natAbs*(N*y.natAbs);rw[Nat.mul_left_comm];exact hl
theorem Bq.mono(h:Bq D N r)(hd:D∣D')(hn:N≤N'):Bq D' N' r:=
 ⟨h.pos,h.cop,So h.dvd (Int.ofNat_dvd.mpr hd),OS h.le (QR _ hn)⟩
theorem Bq.plus(hD:0<D)(h:Bq D N r)(k:Bq D M q):Bq D (N+M) (cn r q):=by
 obtain⟨y,ey⟩:=h.dvd;obtain⟨v,ev⟩:=k.dvd;have dp:(0:Int)<(D:Int):=by omega
 have e:cn r q=dZ (r.1*y+q.1*v) (D:Int):=by
  unfold cn;refine GO (Ql h.pos k.pos) dp ?_;rw[Vh,Vh];have a1:r.1*q.2*(D:Int)=r.1*y*(r.2*q.2):=by rw[ey];ac_rfl
  have a2:q.1*r.2*(D:Int)=q.1*v*(r.2*q.2):=by rw[ev];ac_rfl
  rw[a1,a2]
 rw[e];refine uX dp (Wh _) ?_;have b1:(r.1*y).natAbs≤N*D:=by
  have:(D:Int).natAbs=r.2.natAbs*y.natAbs:=by rw[ey,Re]
  rw[Re];have z:=QR y.natAbs h.le;rw[VG,←this] at z
  simpa using z
 have b2:(q.1*v).natAbs≤M*D:=by
  have:(D:Int).natAbs=q.2.natAbs*v.natAbs:=by rw[ev,Re]
  rw[Re];have z:=QR v.natAbs k.le;rw[VG,←this] at z
  simpa using z
 have b3:=Int.natAbs_add_le (r.1*y) (q.1*v);have b4:(D:Int).natAbs=D:=Sv D;rw[b4,WR];omega
theorem Bq.neg(h:Bq D N r):Bq D N (-r.1,r.2):=⟨h.pos,by show OG (-r.1) r.2=1;rw[Int.neg_gcd];exact h.cop,h.dvd,by show(-r.1).natAbs≤_;rw[Xm];exact h.le⟩
theorem Bq.minus(hD:0<D)(h:Bq D N r)(k:Bq D M q):Bq D (N+M) (bG r q):=by
 rw[←qM];exact h.plus hD k.neg
theorem Bq.times(h:Bq D N r)(k:Bq E M q):Bq (D*E) (N*M) (fQ r q):=by
 refine uX (Ql h.pos k.pos) ?_ ?_
 ·rw[Td];exact Int.mul_dvd_mul h.dvd k.dvd
 ·rw[Re,Re];have z:=Nat.mul_le_mul h.le k.le
  calc r.1.natAbs*q.1.natAbs≤N*r.2.natAbs*(M*q.2.natAbs):=z
   _=N*M*(r.2.natAbs*q.2.natAbs):=by ac_rfl
theorem Bq.bot(hD:0<D)(h:Bq D N r):r.2.natAbs≤D:=by
 have:=SN.mpr h.dvd;rw[Sv] at this;exact VH hD this
theorem Bq.wf(h:Bq D N r)(hD:0<D)(h1:D<2^n)(h2:N*D<2^n):Wf n r:=
 ⟨h.pos,Pq (OS h.le (Rz _ (h.bot hD))) h2,Pq (h.bot hD) h1,h.cop⟩
theorem At:dW r q=true↔r.1*q.2<q.1*r.2:=by unfold dW;exact decide_eq_true_iff
theorem qO:dW r q=false↔q.1*r.2≤r.1*q.2:=by unfold dW;rw[decide_eq_false_iff_not,Int.not_lt]
theorem sP(ha:0≤a):0≤(dZ a b).1:=RS ha (by omega)
theorem Cz(hr:iP r)(hq:iP q)(h1:0≤r.1)(h2:0≤q.1):0≤(cn r q).1:=
 sP (Int.add_nonneg (Vi h1 (Qg hq.pos)) (Vi h2 (Qg hr.pos)))
end B
namespace B
open PySem PySem.Spec L2 PyProof.Rows
inductive Rl where
 |pow (k:Int)
 |tab (rows:List (R×R))
def su:R×R:=((0,1),(0,1))
def EQ(lo hi:R×R):R:=Jc (bG hi.2 lo.2) (bG hi.1 lo.1)
def J4(rows:List (R×R))(k:Nat):R:=EQ (rows.getD k su) (rows.getD (k+1) su)
def Jb(rows:List (R×R))(s:R):Nat:=rows.countP λr=>dW r.1 s
def IS(rows:List (R×R))(s:R):Nat:=rows.countP λr=>!dW s r.1
def Jq(rows:List (R×R))(s:R):R:=if Jb rows s=0 then(0,1) else J4 rows (Jb rows s-1)
def Fu(rows:List (R×R))(s:R):Option R:=if IS rows s<rows.length then some (J4 rows (IS rows s-1)) else none
def IV(k:Int)(s:R):R:=fQ (k,1) (IW s (k-1).toNat)
def J5:Rl->R->R×Option R
 | .pow k,s=>(IV k s,some (IV k s))
 | .tab rows,s=>(Jq rows s,Fu rows s)
def Nu(rows:List (R×R)):Prop:=rows.Pairwise λa b=>dW a.1 b.1=true
def Nz(rows:List (R×R)):Prop:=∀r∈rows,0<r.1.2
abbrev D0:Nat:=5822723907000000000
abbrev N0:Nat:=1000000007
abbrev N1:Nat:=17179869184
abbrev NR:Nat:=11000000077
abbrev N2:Nat:=1180591620717411303424
structure Hn(rows:List (R×R)):Prop where
 n2:2≤rows.length
 n12:rows.length≤12
 inc:Nu rows
 zero:∃y,rows[0]?=some ((0,1),y)
 sp:∀r∈rows,Bq D0 NR r.1
 pw:∀r∈rows,Bq (D0*D0) N2 r.2
def Nm:Rl->Prop
 | .pow k=>2≤k/\k≤4
 | .tab rows=>Hn rows
structure Nk(s:R):Prop where
 bq:Bq (D0*2) N1 s
 nn:0≤s.1
def Mn:Rl->R->Prop
 | .pow _,_=>True
 | .tab rows,s=>∃r,rows[rows.length-1]?=some r/\dW r.1 s=false
def NQ(rows:List (R×R))(s:R)(i:Nat):R:=if 0<Jb rows s/\Jb rows s-1<i then J4 rows (Jb rows s-1) else(0,1)
def NO(rows:List (R×R))(s:R)(i:Nat):Option R:=if 0<IS rows s/\IS rows s-1<i then some (J4 rows (IS rows s-1)) else none
def LV(k:Int)(s:R)(j:Nat):R:=dZ (k*s.1^j) (s.2^j)
def L6(l:R)(r:Option R)(g:R):Bool:=!dW g l&&(match r with|none=>true|some x=>!dW x g)
end B
namespace B
def val(r:R):Rat:=(r.1:Rat)/(r.2:Rat)
theorem cX{b:Int}(h:0<b):(b:Rat)≠0:=λz=>by
 have:b=0:=U4.mp (by rw[z];rfl);omega
theorem EB{r:R}{a b:Int}(hr:0<r.2)(hb:(b:Rat)≠0)(h:r.1*b=a*r.2):val r=(a:Rat)/(b:Rat):=by
 have h2:(r.1:Rat)*(b:Rat)=(a:Rat)*(r.2:Rat):=by rw[←Pi,←Pi,h]
 have h1:=cX hr;unfold val;generalize (r.1:Rat)=x at *;generalize (r.2:Rat)=y at *;generalize (a:Rat)=u at *;generalize (b:Rat)=v at *;grind
theorem kM(hb:0<b):val (dZ a b)=(a:Rat)/(b:Rat):=EB (hU hb).pos (cX hb) (nL hb)
theorem iR(hr:0<r.2)(hq:0<q.2):val (cn r q)=val r+val q:=by
 unfold cn;rw[kM (Ql hr hq)];have h1:=cX hr;have h2:=cX hq;unfold val;rw[U5,Pi,Pi,Pi];generalize (r.1:Rat)=x at *;generalize (r.2:Rat)=y at *;generalize (q.1:Rat)=u at *;generalize (q.2:Rat)=v at *;grind
theorem eG(hr:0<r.2)(hq:0<q.2):val (bG r q)=val r-val q:=by
 unfold bG;rw[kM (Ql hr hq)];have h1:=cX hr;have h2:=cX hq;unfold val;rw[Rat.intCast_sub,Pi,Pi,Pi];generalize (r.1:Rat)=x at *;generalize (r.2:Rat)=y at *;generalize (q.1:Rat)=u at *;generalize (q.2:Rat)=v at *;grind
theorem vm(hr:0<r.2)(hq:0<q.2):val (fQ r q)=val r*val q:=by
 unfold fQ;rw[kM (Ql hr hq)];have h1:=cX hr;have h2:=cX hq;unfold val;rw[Pi,Pi];generalize (r.1:Rat)=x at *;generalize (r.2:Rat)=y at *;generalize (q.1:Rat)=u at *;generalize (q.2:Rat)=v at *;grind
theorem gZ(hr:iP r)(hq:iP q)(h:val r=val q):r=q:=by
 have h1:=cX hr.pos;have h2:=cX hq.pos;have e:r.1*q.2=q.1*r.2:=by
  refine U4.mp ?_;rw[Pi,Pi];unfold val at h;generalize (r.1:Rat)=x at *;generalize (r.2:Rat)=y at *;generalize (q.1:Rat)=u at *;generalize (q.2:Rat)=v at *;grind
 have e1:dZ r.1 r.2=(r.1,r.2):=eW hr.pos hr.pos hr.cop Z;have e2:dZ r.1 r.2=(q.1,q.2):=eW hr.pos hq.pos hq.cop e.symm;exact e1.symm.trans e2
theorem fE(hr:0<r.2):val r=0↔r.1=0:=by
 have h1:=cX hr;unfold val;constructor
 ·intro h;refine U4.mp ?_;show(r.1:Rat)=((0:Int):Rat);rw[show((0:Int):Rat)=0 from Z];generalize (r.1:Rat)=x at *;generalize (r.2:Rat)=y at *;grind
 ·intro h;rw[h];show((0:Int):Rat)/_=0;rw[show((0:Int):Rat)=0 from Z];generalize (r.2:Rat)=y at *;grind
end B
namespace B
def NM(rows:List (R×R))(i:Nat):Rat:=(val (rows.getD (i+1) su).2-val (rows.getD i su).2)/(val (rows.getD (i+1) su).1-val (rows.getD i su).1)
section
variable {s p:Nat->Rat}{n:Nat}
def sl(s p:Nat->Rat)(i:Nat):Rat:=(p (i+1)-p i)/(s (i+1)-s i)
end
end B
namespace B
open PySem PySem.Spec L2 PyProof.Rows
structure QE(X:Cx)(e:O3)(t:TE):Prop where
 p:PE X e t
structure QT(X:Cx)(e:O3)(t:TT):Prop where
 p:PT X e t
structure QW(X:Cx)(e:O3)(t:TT):Prop where
 p:PW X e t
structure QA(X:Cx)(es:List O3)(t:TA):Prop where
 p:PA X es t
structure QS(X:Cx)(st:Stmt)(t:TS):Prop where
 p:PS X st t
structure dk(X:Cx)(st:List Stmt)(t:TS):Prop where
 p:pX X st t
structure QI(X:Cx)(tg iter:O3)(wi:TI):Prop where
 p:PI X tg iter wi
structure QG(X:Cx)(target:O3)(t:TG):Prop where
 p:PG X target t
structure JL(X:Cx)(ts:List O3)(t:wS):Prop where
 p:HV X ts t
theorem dk.ok(h:dk X b t)(r:t D σ H):∃t:TS,pX X b t/\t D σ H:=⟨t,h.p,r⟩
structure QO(X:Cx)(o:Option O3)(t:L2.TO):Prop where
 p:PO X o t
section
set_option autoImplicit true
set_option relaxedAutoImplicit true
theorem qv(i:Nat){x:OV}{pos:R1}(hN:X.N[i]?=some x:=by rfl)(hv:JG X.env.scope x:=by first|exact Pd Z|exact O7 (Pd Z)|exact O7 (O7 Z))(hd:(x==("__debug__" : OV))=false:=by decide)(hcd:(x==("__classdict__" : OV))=false:=by decide):QE X (.Name x pos) (EH i):=⟨pv i hN hv hd hcd⟩
theorem aj{i j pos}:QE X (.Constant (.int i) j pos) (tC (.int i)):=⟨F5 ⟩
theorem cG{b j pos}:QE X (.Constant (.bool b) j pos) (tC (.bl b)):=⟨Ja ⟩
theorem lK{j pos}:QE X (.Constant .none j pos) (tC .non):=⟨F3 ⟩
theorem jC{x j pos}:QE X (.Constant (.str x) j pos) (tC (.str x)):=⟨FY ⟩
theorem cD{x:OV}{v:V}{u:Value}{pos:R1}(hg:Gl X x)(hm:X.mg x=some u)(r:aZ v u)(hd:(x==("__debug__" : OV))=false:=by decide):QE X (.Name x pos) (tC v):=⟨CJ hg hm r hd⟩
theorem eT{x:OV}{v:V}{u:Value}{pos:R1}(hg:Gl X x)(hm:X.mg x=none)(hv:QM x=some u)(r:aZ v u)(hn:x ≠ "__name__" := by decide)(hd:(x==("__debug__" : OV))=false:=by decide):QE X (.Name x pos) (tC v):=⟨CM hg hm hv r hn hd⟩
theorem i7(ho:Ki X (unaryOp op) r)(ha:QE X a ta):QE X (.UnaryOp op a pos) (Lp r ta):=⟨IX ho ha.p⟩
theorem zo(ha:QE X a ta):QE X (.UnaryOp .Not a pos) (DO ta):=⟨F1 ha.p⟩
theorem aP(ho:gh X (RE op) r)(ha:QE X a ta)(hb:QE X b tb):QE X (.BinOp a op b pos) (BJ r ta tb):=⟨IY ho ha.p hb.p⟩
theorem fS{op}(h:QE X a t):QE X (.BoolOp op [a] pos) t:=⟨FZ h.p⟩
theorem eK{cQ:List O3}(ha:QE X a ta)(hb:QE X (.BoolOp .And (b::cQ) pos) tb):QE X (.BoolOp .And (a::b::cQ) pos) (DU ta tb):=⟨F8 ha.p hb.p⟩
theorem cE(ho:gh X (Pz op) r)(ha:QE X a ta)(hb:QE X b tb)(hm:Sl op b=false):QE X (.Compare a [op] [b] pos) (BJ r ta tb):=⟨CK ho ha.p hb.p hm⟩
theorem qG{op op':W8}{r r':R2}(ho:gh X (Pz op) r)(ho':gh X (Pz op') r')(ha:QE X a ta)(hb:QE X b tb)(hc:QE X c tc)(hm:WB [op,op'] [b,c]=false:=by with_unfolding_all rfl):QE X (.Compare a [op,op'] [b,c] pos) (ot r r' ta tb tc):=⟨zW ho ho' ha.p hb.p hc.p hm⟩
theorem lM(hc:QT X c tA)(ha:QE X a ta)(hb:QE X b tb):QE X (.IfExp c a b pos) (Lz tA ta tb):=⟨zT hc.p ha.p hb.p⟩
theorem bJ(h:QA X es t):QE X (.List es pos) (Ip t):=⟨F4 h.p⟩
theorem aY{x1}(h:QA X es t):QE X (.Tuple es x1 pos) (Ik t):=⟨FX h.p⟩
theorem zn{lo hi:Option O3}{r:V->Option Int->Option Int->Hp->VK->Prop}(hr:Bl X r)(he:QE X e te)(hl:QO X lo tl)(hu:QO X hi th):QE X (.Subscript e (.Slice lo hi none p2) pos) (Lr r te tl th):=⟨zP hr he.p hl.p hu.p⟩
theorem uz(h:QE X e te):QO X (some e) (DN te):=⟨Cy h.p⟩
theorem b7(hr:Hr X r)(ha:QE X a ta)(hb:QE X b tb)(hs:pT b):QE X (.Subscript a b pos) (BJ r ta tb):=⟨IZ hr ha.p hb.p hs⟩
theorem uB(F:bv X.prog X.w X.K X.mg X.base CX k f fd ps sp)(hr:cT k X.A)(hg:Gl X x)(hm:X.mg x=some (.ref f))(hk:Qa X.K (.ref f)=true)(hb:aM X.K fd ps ds)(hd:bc dvs ds)(hx:eQ CX X E)(ha:QA X (e::es) t)(hdb:(x==("__debug__" : OV))=false:=by decide)(he:Oz (e::es) X.env=(false,eval e X.env)::Oz es X.env:=by rfl)(hpl:(QZ pos (Oz es X.env)).any (·.1)=false:=by rfl):QE X (.Call (.Name x p) (e::es) [] pos) (xD sp dvs E t):=⟨CL F hr hg hm hk hb hd hx ha.p hdb he hpl⟩
theorem aI{id:String}(hc:df X (.builtin id) r)(hg:Gl X x)(hm:X.mg x=none)(hv:QM x=some (.builtin id))(ha:QA X (e::es) t)(hn:x ≠ "__name__" := by decide)(hdb:(x==("__debug__" : OV))=false:=by decide)(he:Oz (e::es) X.env=(false,eval e X.env)::Oz es X.env:=by rfl)(hpl:(QZ pos (Oz es X.env)).any (·.1)=false:=by rfl):QE X (.Call (.Name x p) (e::es) [] pos) (JZ r t):=⟨zX hc hg hm hv ha.p hn hdb he hpl⟩
theorem bL(hc:df X (.type T) r)(hg:Gl X x)(hm:X.mg x=none)(hv:QM x=some (.type T))(ha:QA X (e::es) t)(hn:x ≠ "__name__" := by decide)(hdb:(x==("__debug__" : OV))=false:=by decide)(he:Oz (e::es) X.env=(false,eval e X.env)::Oz es X.env:=by rfl)(hpl:(QZ pos (Oz es X.env)).any (·.1)=false:=by rfl):QE X (.Call (.Name x p) (e::es) [] pos) (JZ r t):=⟨vV hc hg hm hv ha.p hn hdb he hpl⟩
theorem gv{id:String}(pa:PlainAttrs T)(slot:Slot T name id)(hty:typeOf (.builtin id)=Qm (.type "method_descriptor"))(hm:Mg X id r)(ho:QE X o to)(ha:QA X (e::es) t)(hbase:Q6 o name X.env (eval o X.env)=eval o X.env:=by rfl) (hfew:((QZ cpos (Oz (e::es) X.env)).all (λx=>!x.1)&&(S1 cpos (RH [] X.env)).all (λx=>x.1.isSome)
  &&decide ((e::es).length+([]:List Tn).length+(if([]:List Tn).isEmpty then 0 else 1)<30))=true:=by rfl) (hline:(apos.endLine==cpos.line)=true:=by rfl) (hs:Oz (e::es) X.env=(false,eval e X.env)::Oz es X.env:=by rfl) (hplain:(QZ cpos (Oz es X.env)).any (·.1)=false:=by rfl):QE X (.Call (.Attribute o name apos) (e::es) [] cpos) (LE X.K T r to t):=⟨I0 pa slot hty hm ho.p ha.p hbase hfew hline hs hplain⟩
theorem ai   : QA X [] vv:=⟨F9 ⟩
theorem ae(ha:QE X e te)(hr:QA X es t)(hs:Oz (e::es) X.env=(false,eval e X.env)::Oz es X.env:=by rfl):QA X (e::es) (DT te t):=⟨CN ha.p hr.p hs⟩
theorem aT(ho:gh X (Pz op) r)(ha:QE X a ta)(hb:QE X b tb)(hm:Sl op b=false):QT X (.Compare a [op] [b] pos) (ud (BJ r ta tb)):=⟨Co ho ha.p hb.p hm⟩
theorem zf{op op':W8}{r r':R2}(ho:gh X (Pz op) r)(ho':gh X (Pz op') r')(ha:QE X a ta)(hb:QE X b tb)(hc:QE X c tc)(hm:WB [op,op'] [b,c]=false:=by with_unfolding_all rfl):QT X (.Compare a [op,op'] [b,c] pos) (ud (ot r r' ta tb tc)):=⟨zu ho ho' ha.p hb.p hc.p hm⟩
theorem bM{e:O3}{t:TE}(h:QE X e t)(he:∀whole,isTrue e X.env whole=(do let v ←whole;UD e.pos;holding [v] (truthy v)):=by intro _;rfl):QT X e (tB t):=⟨FI h.p he⟩
theorem cJ(ha:QT X a tA):QT X (.UnaryOp .Not a pos) (Io tA):=⟨FJ ha.p⟩
theorem lH{cQ:List O3}(ha:QT X a tA)(hb:QW X (.BoolOp .And (b::cQ) pos) tB'):QW X (.BoolOp .And (a::b::cQ) pos) (Iw tA tB'):=⟨FG ha.p hb.p⟩
theorem ux(ha:QT X a tA):QW X (.BoolOp .And [a] pos) tA:=⟨Cl ha.p⟩
theorem gu{cQ:List O3}(ha:QT X a tA)(hb:QW X (.BoolOp .Or (b::cQ) pos) tB'):QW X (.BoolOp .Or (a::b::cQ) pos) (Lw tA tB'):=⟨IT ha.p hb.p⟩
theorem gI(ha:QT X a tA):QW X (.BoolOp .Or [a] pos) tA:=⟨FF ha.p⟩
theorem iu(h:QW X e t):QT X e t:=⟨PW.pt h.p⟩
theorem Fz{i:Nat}{x:OV}{e:O3}{te:TE}{pos':R1}(hN:X.N.Nodup)(hi:X.N[i]?=some x)(hx:wU X.env.scope x)(he:QE X e te)(hs:QV e (some (.Name x pos')) pos.line X.env=Qm false:=by rfl)(hf:X.fn x=true∨X.env.scope.names.lookup x=some .local:=by first|exact .inl Z|exact .inr Z|assumption):QS X (.Assign [.Name x pos'] e pos) (ou te (jd i)):=⟨FK hN hi hx he.p hs hf⟩
theorem zj{i j:Nat}{x y:OV}{a b:O3}{ta:TA}{px py pt:R1}{kt k2 pt2}(hc:X.calm=true)(hN:X.N.Nodup)(hi:X.N[i]?=some x)(hj:X.N[j]?=some y)(hij:i≠j)(hx:X.env.scope.names.lookup x=some .local)(hy:X.env.scope.names.lookup y=some .local)(ha:QA X [a,b] ta)(hw:Uc [.Tuple [.Name x px,.Name y py] kt pt] (.Tuple [a,b] k2 pt2) X.env=Qm (some [x,y]))(hs:Ub [.Tuple [.Name x px,.Name y py] kt pt] (.Tuple [a,b] k2 pt2) pos.line X.env=Qm false:=by rfl):QS X (.Assign [.Tuple [.Name x px,.Name y py] kt pt] (.Tuple [a,b] k2 pt2) pos) (Im i j ta):=⟨FN hc hN hi hj hij hx hy ha.p hw hs⟩
theorem oV{tg e:O3}{te:TE}{g:TG}(he:QE X e te)(hg:QG X tg g)(hs:Ub [tg] e pos.line X.env=Qm false:=by rfl)(hw:Uc [tg] e X.env=Qm none:=by rfl)(h1:(Qq [tg] X.env).map (·.2)=[SR tg X.env]:=by rfl):QS X (.Assign [tg] e pos) (ou te g):=⟨FR he.p hg.p hs hw h1⟩
theorem FC{i:Nat}{x:OV}{e:O3}{te:TE}{op:W9}{ti:HS}{pos':R1}(hN:X.N.Nodup)(hi:X.N[i]?=some x)(hx:wU X.env.scope x)(he:QE X e te)(ho:K9 X op ti)(hf:X.fn x=true∨X.env.scope.names.lookup x=some .local:=by first|exact .inl Z|exact .inr Z|assumption):QS X (.AugAssign (.Name x pos') op e pos) (Iv i te ti):=⟨FQ hN hi hx he.p ho hf⟩
theorem bZ(hc:QT X c tc)(ha:dk X a t)(hb:dk X b u):QS X (.If c a b pos) (Iq tc t u):=⟨IU hc.p ha.p hb.p⟩
theorem gJ(hp:Ps (OM X.prog X.w) X.A X.env X.xe)(hc:QT X c tc)(hb:dk X body tb):QS X (.While c body [] pos) (xq tc tb):=⟨zy hp hc.p hb.p⟩
theorem cK{iter:O3}{body:List Stmt}{wi:TI}{g:TG}{tb:TS}{pos:R1}(hp:Ps (OM X.prog X.w) X.A X.env X.xe)(hc:X.calm=true)(hi:QI X tg iter wi)(hg:QG X tg g)(hb:dk X body tb)(hs:∀x,P7 iter X.env x=Qm x:=by intro _;rfl):QS X (.For tg iter body [] pos) (Ir wi g tb):=⟨FO hp hc hi.p hg.p hb.p hs⟩
theorem aG(he:QE X e te):QS X (.Return (some e) pos) (Il te):=⟨FL he.p⟩
theorem cL(he:QE X e te)(hs:QV e none pos.line X.env=Qm false:=by rfl):QS X (.Expr e pos) (DR te):=⟨Cu he.p hs⟩
theorem qF   : QS X (.Continue pos) DS:=⟨qH ⟩
theorem i5{st:Stmt}  : QS X st xy:=⟨zH ⟩
theorem bt   : dk X [] DP:=⟨Cq ⟩
theorem au{st:Stmt}(h1:QS X st t):dk X [st] t:=⟨Cp h1.p⟩
theorem zg{st:Stmt}{cQ:List Stmt}(h1:QS X st t)(h2:dk X cQ u):dk X (st::cQ) (EI t u):=⟨zw h1.p h2.p⟩
theorem dG{a:O3}{ta:TA}{p pos:R1}(hg:Gl X "range")(hm:X.mg "range"=none)(ha:QA X [a] ta)(hs:Oz [a] X.env=[(false,eval a X.env)]:=by rfl):QI X tg (.Call (.Name "range" p) [a] [] pos) (El ta):=⟨vU hg hm ha.p hs⟩
theorem fm(hl:QE X l tl):QI X tg l (AB X.K tl):=⟨CB hl.p⟩
theorem fg(hl:QE X l tl):QI X tg l (Js X.K tl):=⟨FT hl.p⟩
theorem aN{i:Nat}{x:OV}(hN:X.N.Nodup)(hi:X.N[i]?=some x)(hx:wU X.env.scope x)(hf:X.fn x=true∨X.env.scope.names.lookup x=some .local:=by first|exact .inl Z|exact .inr Z|assumption):QG X (.Name x pos) (jd i):=⟨CG hN hi hx hf⟩
theorem sy{es:List O3}{k:Nat}{t:wS}{n:Nat}(hc:X.calm=true)(h:JL X es t)(hn:(Qq es X.env).length=n:=by rfl)(hst:(Qq es X.env).findIdx? (·.1)=none:=by rfl):QG X (.Tuple es k pos) (De X.K n t):=⟨zO hc h.p hn hst⟩
theorem oW{o i:O3}{to ti:TE}{t:Bk}(ho:QE X o to)(hi:QE X i ti)(hs:Ho X t) (ha:∀v,SR (.Subscript o i pos) X.env v=(do
   let ov ←holding [v] (eval o X.env);let iv ←holding [v,ov] (eval i X.env)
   UD pos
   holding [v,ov,iv] (XE ov iv v)
   release [v,ov,iv] []):=by intro _;rfl):QG X (.Subscript o i pos) (Jy to ti t):=⟨FV ho.p hi.p hs ha⟩
theorem fO   : JL X [] Jz:=⟨CD ⟩
theorem bP{e:O3}{es:List O3}{t:TG}{u:wS}(h1:QG X e t)(h2:JL X es u)(hs:(Qq (e::es) X.env).map (·.2)=SR e X.env::(Qq es X.env).map (·.2):=by rfl):JL X (e::es) (Eo t u):=⟨zN h1.p h2.p hs⟩
end
structure HU(X:Cx)(ifs:List O3)(t:TT):Prop where
 p:Ew X ifs t
section
set_option autoImplicit true
set_option relaxedAutoImplicit true
theorem eS:HU X [] Ij:=⟨Cn ⟩
theorem eR(h:QT X c t):HU X [c] t:=⟨Cm h.p⟩
theorem cm(hc:X.calm=true)(hi:QI X tg iter wi)(hg:∀C fp pins s H,QG (jM X N' scope cl C fp pins s H) tg g)(ht:∀C fp pins s H,HU (jM X N' scope cl C fp pins s H) ifs tt)(he:∀C fp pins s H,QE (jM X N' scope cl C fp pins s H) elt te)(hfree:cu X scope cl N' src)(hclos:SU scope X.env=Qm cl)(hcell:∀x∈scope.names,x.2≠.cell)(hkind:scope.kind=.function)(hnames:∀x∈scope.names,x.2=.local->scope.names.lookup x.1=some .local)(hcl:fC X scope cl)(hs:∀x,P7 iter X.env x=Qm x:=by intro _;rfl):QE X (.ListComp elt [⟨tg,iter,ifs,0⟩] scope pos) (iU wi src g tt te):=⟨zS hc hi.p (λz0 z1 z2 z3 z4=>(hg z0 z1 z2 z3 z4).p) (λz0 z1 z2 z3 z4=>(ht z0 z1 z2 z3 z4).p) (λz0 z1 z2 z3 z4=>(he z0 z1 z2 z3 z4).p) hfree hclos hcell hkind hnames hcl hs⟩
theorem i4{i:Nat}{x:OV}{pos' pos2:R1}(hN:X.N.Nodup)(hi':X.N[i]?=some x)(hx:wU X.env.scope x)(hc:X.calm=true)(hi:QI X tg iter wi)(hg:∀C fp pins s H,QG (jM X N' scope cl C fp pins s H) tg g)(ht:∀C fp pins s H,HU (jM X N' scope cl C fp pins s H) ifs tt)(he:∀C fp pins s H,QE (jM X N' scope cl C fp pins s H) elt te)(hfree:cu X scope cl N' src)(hclos:SU scope X.env=Qm cl)(hcell:∀x∈scope.names,x.2≠.cell)(hkind:scope.kind=.function)(hnames:∀x∈scope.names,x.2=.local->scope.names.lookup x.1=some .local)(hcl:fC X scope cl)(hs:∀x,P7 iter X.env x=Qm x:=by intro _;rfl)(hsw:QV (.ListComp elt [⟨tg,iter,ifs,0⟩] scope pos) (some (.Name x pos')) pos2.line X.env=Qm true:=by rfl)(hf:X.fn x=true∨X.env.scope.names.lookup x=some .local:=by first|exact .inl Z|exact .inr Z|assumption):QS X (.Assign [.Name x pos'] (.ListComp elt [⟨tg,iter,ifs,0⟩] scope pos) pos2) (ou (iU wi src g tt te) (jd i)):=⟨Cr hN hi' hx hc hi.p (λz0 z1 z2 z3 z4=>(hg z0 z1 z2 z3 z4).p) (λz0 z1 z2 z3 z4=>(ht z0 z1 z2 z3 z4).p) (λz0 z1 z2 z3 z4=>(he z0 z1 z2 z3 z4).p) hfree hclos hcell hkind hnames hcl hs hsw hf⟩
end
section
variable {X:Cx}{K:Of}
theorem CF{es:List O3}{k:Nat}{t:wS}{n:Nat}{pos:R1}(hK:X.K=K)(hc:X.calm=true)(h:HV X es t)
  (hn:(Qq es X.env).length=n:=by rfl) (hst:(Qq es X.env).findIdx? (·.1)=none:=by rfl):PG X (.Tuple es k pos) (De K n t):=hK▸zO hc h hn hst
theorem ci(hK:X.K=K):Hr X (Fx K):=hK▸aJ
theorem dA(hK:X.K=K):Hr X (Fy K):=hK▸cF
def KJ(K:Of):List V->Hp->VK->Prop:=λxs H Q=>∃p ys,xs=[.ref p]/\(ba K H p ys∨bu K H p ys)/\Q (.int ys.length) H
theorem wN(hK:X.K=K):df X (.builtin "len") (KJ K):=hK▸aS
end
theorem bw:Oz (.BinOp a op b pos:: es) env=(false,eval (.BinOp a op b pos) env):: Oz es env:=Z
end B
namespace B
open PySem
section
variable {es:List O3}{env:W6}
theorem bb{a b c}:Oz (.Tuple a b c::es) env=(false,eval (.Tuple a b c) env)::Oz es env:=Z
theorem qm{a b}:Oz (.List a b::es) env=(false,eval (.List a b) env)::Oz es env:=Z
theorem aL{a b c}:Oz (.Subscript a b c::es) env=(false,eval (.Subscript a b c) env)::Oz es env:=Z
theorem aH{a b c d}:Oz (.Call a b c d::es) env=(false,eval (.Call a b c d) env)::Oz es env:=Z
theorem af{a b}:Oz (.Name a b::es) env=(false,eval (.Name a b) env)::Oz es env:=Z
theorem ax{a b c}:Oz (.Constant a b c::es) env=(false,eval (.Constant a b c) env)::Oz es env:=Z
theorem iX{a b c}:Oz (.UnaryOp a b c::es) env=(false,eval (.UnaryOp a b c) env)::Oz es env:=Z
theorem dS{a b c}:Oz (.Attribute a b c::es) env=(false,eval (.Attribute a b c) env)::Oz es env:=Z
theorem fN{a b c d}:Oz (.ListComp a b c d::es) env=(false,eval (.ListComp a b c d) env)::Oz es env:=Z
theorem BL{a b c d}:Oz (.IfExp a b c d::es) env=(false,eval (.IfExp a b c d) env)::Oz es env:=Z
end
end B
namespace B
open PySem L2 PyProof.Rows
inductive di{α:Type}(P:V->α->Prop):List V->List α->Prop where
 |nil:di P [] []
 |cons {x:V} {d:α} {xs:List V} {ds:List α} (h:P x d) (t:di P xs ds):di P (x::xs) (d::ds)
theorem di.len{α:Type}{P:V->α->Prop}:∀{xs:List V} {ds:List α},di P xs ds->xs.length=ds.length
 |_,_,.nil=>rfl
 |_,_,.cons _ t=>congrArg (·+1) t.len
theorem di.mono{α:Type}{P P':V->α->Prop}(m:∀v d,P v d->P' v d):∀{xs:List V} {ds:List α},di P xs ds->di P' xs ds
 |_,_,.nil=>.nil
 |_,_,.cons h t=>.cons (m _ _ h) (t.mono m)
theorem di.snoc{α:Type}{P:V->α->Prop}{x:V}{d:α}(k:P x d):∀{xs:List V} {ds:List α},di P xs ds->di P (xs++[x]) (ds++[d])
 |_,_,.nil=>.cons k .nil
 |_,_,.cons h t=>.cons h (t.snoc k)
theorem di.at{α:Type}{P:V->α->Prop}:∀{xs:List V} {ds:List α},di P xs ds->∀{i:Nat} {x:V},xs[i]?=some x->∃d,ds[i]?=some d/\P x d
 |_,_,.cons h _,0,x,e=>by
  rw[Ur] at e
  cases e
  exact⟨_,Z,h⟩
 |_,_,.cons _ t,i+1,x,e=>t.at (i:=i) (by rw[Us] at e;exact e)
 |_,_,.nil,_,_,e=>by cases e
theorem di.deep{α:Type}{K:Of}{H:Hp}{P:V->α->Prop}{f:α->PyData}(m:∀v d,P v d->bh K H v (f d)):∀{xs:List V} {ds:List α},di P xs ds->be K H xs (ds.map f)
 |_,_,.nil=>.nil
 |_,_,.cons h t=>.cons (m _ _ h) (t.deep m)
end B
namespace B
open PySem PySem.Spec L2 PyProof.Rows
theorem di.last{ds:List α}(h:di P xs ds)(hn:ds.length=n+1):∃x d,rD xs (-1)=some x/\ds[n]?=some d/\P x d/\xs[n]?=some x:=by
 have hl:=h.len;have hx:xs[n]?=some (xs[n]'(by omega)):=Oh _;obtain⟨d,hd,p⟩:=h.at hx;refine⟨_,d,?_,hd,p,hx⟩;have e:xs=xs.take n++[xs[n]'(by omega)]:=by
  have:=List.take_append_drop n xs;rw[TR (by omega)] at this;rw[List.drop_eq_nil_of_le (by omega)] at this;exact this.symm
 have:=re (xs.take n) (xs[n]'(by omega));rw[←e] at this;exact this
section
set_option autoImplicit true
set_option relaxedAutoImplicit true
theorem FE(hl:QE X l tl):QI X tg l (Jt X.K tl):=⟨FU hl.p⟩
theorem i6{K:Of}{es:List O3}{k:Nat}{t:wS}{n:Nat}{pos:R1}(hK:X.K=K)(hc:X.calm=true)(h:JL X es t)(hn:(Qq es X.env).length=n:=by rfl)(hst:(Qq es X.env).findIdx? (·.1)=none:=by rfl):QG X (.Tuple es k pos) (De K n t):=⟨CF hK hc h.p hn hst⟩
end
def KM(K:Of):R2:=λx y H Q=>∃d d',bh K H x d/\bh K H y d'/\d.canLay0=true/\d'.canLay0=true/\d.depth≤32/\Q (.bl (Pn d d')) H
theorem lQ(hr:cT k X.A):gh X (Pz .Eq) (KM X.K):=by
 intro pins s σ H x y v u Q I rx ry h;obtain⟨d,d',hd,hd',c,c',dp,q⟩:=h;obtain⟨as,ra⟩:=bh.reads I hd rx;obtain⟨bs,rb⟩:=bh.reads I hd' ry;exact SeqAt.compareEq_reads ra rb c c' (by have:=hr.units;omega) ⟨.bl _,H,I,Z,q⟩
theorem kF:Pn (dR r) (dR q)=decide (r=q):=by
 by_cases h:r=q
 ·rw[decide_eq_true h,h];exact mz q
 ·rw[decide_eq_false h]
  cases c:Pn (dR r) (dR q) with
  |false=>rfl
  |true=>exact absurd (AU c) h
def IQ(K:Of):List V->Hp->VK->Prop:=λxs H Q=>∃a ys n b,xs=[.ref a,.ty n]/\bu K H a ys/\jV "tuple" n=some b/\Q (.bl b) H
theorem wO:df X (.builtin "isinstance") (IQ X.K):=by
 intro pins s σ H xs us Q I r h;obtain⟨a,ys,n,b,rfl,hS,e,q⟩:=h;obtain⟨u,u2,rfl,rx,ry⟩:=qd r;obtain rfl:u2=Rt n:=ry
 cases(show u=OP a from rx)
 obtain⟨its,_,⟨o,h1,h2,_⟩,_⟩:=I.tuple hS;exact Pu VO I.kIn ⟨o,h1,h2⟩ (sV e) (λz=>nomatch z) λtk=>⟨.bl b,H,I.tok tk,Z,q⟩
section
set_option autoImplicit true
set_option relaxedAutoImplicit true
theorem uy(hex:X.ex=[])(ha:QE X o ta)(hv:QE X value tv)(hs:QV value (some (.Attribute o f pos')) pos.line X.env=Qm false):QS X (.Assign [.Attribute o f pos'] value pos) (DY X.K ta tv f):=⟨Cs hex ha.p hv.p hs⟩
theorem jB{x:OV}{p cpos pos:R1}{e:O3}{es:List O3}{t:TA}{E:XK}(M:XC X.K C f bm)(hbase:bm.contains (.type "BaseException")=true)(hex:X.ex=[])(tk:tQ X E)(F:bv X.prog X.w X.K X.mg X.base dF k f fd ps sp)(hr:cT (k+1) X.A)(hb:aM X.K fd ps [])(hg:Gl X x)(hm:X.mg x=some (.ref C))(ha:QA X (e::es) t)(hdb:(x==("__debug__" : OV))=false:=by decide)(he:Oz (e::es) X.env=(false,eval e X.env)::Oz es X.env:=by rfl)(hpl:(QZ cpos (Oz es X.env)).any (·.1)=false:=by rfl):QS X (.Raise (some (.Call (.Name x p) (e::es) [] cpos)) none pos) (ue C sp E t):=⟨vQ M hbase hex tk F hr hb hg hm ha.p hdb he hpl⟩
theorem zh{R:RX}{suite:List Stmt}{i:Nat}{n:OV}(hex:X.ex=[])(hst:X.stack=X.env::X.outer)(hfr:X.env.frame=some X.env.locals)(hg:Gl X x)(hm:X.mg x=some u)(hN:X.N.Nodup)(hi:X.N[i]?=some n)(hn:X.env.scope.names.lookup n=some .local)(hb:∀pins,dk (iN X pins R) body tb)(hs:∀e,dk (nO X e) (b₀::suite) th)(hd:(x==("__debug__" : OV))=false:=by decide):QS X (.Try body [.ExceptHandler (some (.Name x p)) (some n) (b₀::suite) hpos] [] [] pos) (xx X.N i R (λC=>TJ X.K (.ref C) u=some true) tb th):=⟨zF hex hst hfr hg hm hN hi hn (λz0=>(hb z0).p) (λz0=>(hs z0).p) hd⟩
end
end B
namespace L2
open PySem PySem.Spec PyProof.Rows
section
variable {κ:Type} [DecidableEq κ]
def ju(kvs:List (κ×V))(k:κ):Option V:=(kvs.find? λkv=>decide (kv.1=k)).map (·.2)
def gm(kvs:List (κ×V))(k:κ)(v:V):List (κ×V):=
 if(kvs.any λkv=>decide (kv.1=k))=true then kvs.map (λkv=>if kv.1=k then(kv.1,v) else kv) else kvs++[(k,v)]
def L5(kvs:List (κ×V))(k:κ):List (κ×V):=kvs.filter λkv=>decide (kv.1≠k)
theorem iS{p:κ×V}{r:List (κ×V)}{k:κ}(e:p.1=k):ju (p::r) k=some p.2:=by simp[ju,RT,e]
theorem iT{p:κ×V}{r:List (κ×V)}{k:κ}(e:¬p.1=k):ju (p::r) k=ju r k:=by simp[ju,RT,e]
theorem qg(k:κ):∀kvs:List (κ×V),(kvs.any λkv=>decide (kv.1=k))=(ju kvs k).isSome
 | []=>rfl
 |p::r=>by
  rw[Q7];by_cases e:p.1=k
  ·simp only[iS e,decide_eq_true e,Bool.true_or,Sw]
  ·rw[iT e,decide_eq_false e,Ud];exact qg k r
theorem jT(kvs:List (κ×V))(k:κ)(v:V):(gm kvs k v).length≤kvs.length+1:=by
 unfold gm
 split
 ·rw[Ol];omega
 ·rw[OQ,Ph,WZ];omega
theorem fM.isSome_eq(r:fM o u):o.isSome=u.isSome:=by
 cases o with
 |none=>cases u with
  |none=>rfl
  |some _=>exact(show False from r).elim
 |some _=>cases u with
  |none=>exact(show False from r).elim
  |some _=>rfl
theorem fM.getD(r:fM o u)(rd:aZ d d'):aZ (o.getD d) (u.getD d'):=by
 cases o with
 |none=>cases u with
  |none=>exact rd
  |some _=>exact(show False from r).elim
 |some _=>cases u with
  |none=>exact(show False from r).elim
  |some _=>exact r
theorem KV.val{kvs:List (κ×V)}{vs:List (κ×Value)}(r:KV kvs vs)(k:κ):fM (ju kvs k) (Wi vs k):=by
 unfold KV at r
 induction r with
 |nil=>exact Rb
 | @cons p q ps qs h t ih=>
  obtain⟨h1,h2⟩:=h;by_cases e:p.1=k
  ·have e':q.1=k:=h1.symm.trans e;have b:Wi (q::qs) k=some q.2:=by simp[Wi,RT,e']
   rw[iS e,b];exact h2
  ·have e':¬q.1=k:=λz=>e (h1.trans z)
   have b:Wi (q::qs) k=Wi qs k:=by simp[Wi,RT,e']
   rw[iT e,b];exact ih
theorem KV.any{kvs:List (κ×V)}{vs:List (κ×Value)}(r:KV kvs vs)(k:κ):(kvs.any λkv=>decide (kv.1=k))=vs.any λkv=>decide (kv.1=k):=by
 unfold KV at r
 induction r with
 |nil=>rfl
 |cons h t ih=>rw[Q7,Q7,ih,h.1]
theorem KV.repl{kvs:List (κ×V)}{vs:List (κ×Value)}(r:KV kvs vs)(k:κ){y:V}{u:Value}(ry:aZ y u) :
  KV (kvs.map λkv=>if kv.1=k then(kv.1,y) else kv) (vs.map λkv=>if kv.1=k then(kv.1,u) else kv):=by
 unfold KV at r ⊢
 induction r with
 |nil=>exact .nil
 | @cons p q ps qs h t ih=>
  rw[O1,O1];refine .cons ?_ ih;obtain⟨h1,h2⟩:=h;by_cases e:p.1=k
  ·rw[if_pos e,if_pos (h1.symm.trans e)];exact⟨h1,ry⟩
  ·rw[if_neg e,if_neg (λz=>e (h1.trans z))];exact⟨h1,h2⟩
theorem KV.put{kvs:List (κ×V)}{vs:List (κ×Value)}(r:KV kvs vs)(k:κ){y:V}{u:Value}(ry:aZ y u):KV (gm kvs k y) (stored vs k u):=by
 unfold gm stored;rw[r.any k];by_cases e:(vs.any λkv=>decide (kv.1=k))=true
 ·rw[if_pos e,if_pos e];exact r.repl k ry
 ·rw[if_neg e,if_neg e];exact Paired.snoc r ⟨Z,ry⟩
theorem KV.length{kvs:List (κ×V)}{vs:List (κ×Value)}(r:KV kvs vs):kvs.length=vs.length:=Paired.length r
end
theorem Ax(r:aZ (kV k) u):(bS P w).is k u=true:=by
 cases k with
 |inl i=>obtain⟨t,e⟩:=(show ∃t,u=Rj i t from r);subst e;exact qL P w i t
 |inr x=>obtain⟨t,e⟩:=(show ∃t,u=Tr x t from r);subst e;exact qK P w x t
theorem nN{P:O0}{w:Pk}:∀{ks:List dg} {us:List Value},bc (ks.map kV) us->ItemsAre (bS P w) ks us
 | [],_,r=>by rw[List.map_nil] at r;cases r;exact .nil
 |k::ks,_,r=>by
  rw[O1] at r
  cases r with
  |cons h t=>exact .cons (Ax h) (nN t)
abbrev KT(H:Hp):List (List dg×V)->List (List dg×Addr×Value)->Prop:=Paired λp q=>p.1=q.1/\H q.2.1=some (.tup (p.1.map kV))/\aZ p.2 q.2.2
theorem KT.val(r:KT H kvs xs)(k:List dg):fM (ju kvs k) ((Xn xs k).map (·.2)):=by
 induction r with
 |nil=>exact Rb
 | @cons p q ps qs h t ih=>
  obtain⟨h1,_,h2⟩:=h;by_cases e:p.1=k
  ·have e':q.1=k:=h1.symm.trans e;have b:Xn (q::qs) k=some q.2:=by simp[Xn,RT,e']
   rw[iS e,b];exact h2
  ·have e':¬q.1=k:=λz=>e (h1.trans z)
   have b:Xn (q::qs) k=Xn qs k:=by simp[Xn,RT,e']
   rw[iT e,b];exact ih
theorem KT.repl(r:KT H kvs xs)(k:List dg)(ry:aZ y u):
  KT H (kvs.map λkv=>if kv.1=k then(kv.1,y) else kv) (xs.map (putAt k u)):=by
 induction r with
 |nil=>exact .nil
 | @cons p q ps qs h t ih=>
  rw[O1,O1];refine .cons ?_ ih;obtain⟨h1,h2,h3⟩:=h;unfold putAt;by_cases e:p.1=k
  ·rw[if_pos e,if_pos (h1.symm.trans e)];exact⟨h1,h2,ry⟩
  ·rw[if_neg e,if_neg (λz=>e (h1.trans z))];exact⟨h1,h2,h3⟩
theorem KT.put(r:KT H kvs xs)(k:List dg)(hb:H b=some (.tup (k.map kV)))(ry:aZ y u):
  KT H (gm kvs k y) (storedH xs k b u):=by
 have e:(kvs.any λkv=>decide (kv.1=k))=(Xn xs k).isSome:=by
  rw[qg,(r.val k).isSome_eq,Option.isSome_map]
 unfold gm storedH;rw[e];by_cases q:(Xn xs k).isSome=true
 ·rw[if_pos q,if_pos q];exact r.repl k ry
 ·rw[if_neg q,if_neg q];exact Paired.snoc r ⟨Z,hb,ry⟩
theorem KT.keeps(r:KT H kvs xs)(ht:∀b ys,H b=some (.tup ys)->H' b=some (.tup ys)):KT H' kvs xs:=
 Paired.mapP r λ_ _ z=>⟨z.1,ht _ _ z.2.1,z.2.2⟩
section
variable {P:O0}{w:Pk}{H:Hp}{h:Oy}{a:Addr}
theorem Ea(ok:iz P w H h)(e:Rd H a u):ObjOk P w H h a u:=e.ok ok
theorem A3(ok:iz P w H h)(e:Rd H a (.dK kvs)):kvs.length≤sizeLine/\(a==RJ)=false/\∃vs,KV kvs vs/\h.DictOf (bS P w) a vs:=
 show ObjOk P w H h a (.dK kvs) from Ea ok e
theorem Eu(ok:iz P w H h)(e:H a=some (.dK kvs)):kvs.length≤sizeLine/\(a==RJ)=false/\∃vs,KV kvs vs/\h.DictOf (bS P w) a vs:=A3 ok (.inl e)
theorem sW(ok:iz P w H h)(e:H a=some (.tup (ks.map kV))):(Ug (bS P w)).is h ks a:=by
 obtain⟨_,its,r,o,h1,h2,n,h3⟩:=(show ObjOk P w H h a (.tup (ks.map kV)) from ok a _ e);exact⟨o,its.toArray,n,h1,h2,h3,by simpa using nN r⟩
theorem A0(ok:iz P w H h)(e:Rd H a (.dT kvs)):kvs.length≤sizeLine/\(a==RJ)=false∧
  ∃xs,KT H kvs xs/\h.DictOfH (Ug (bS P w)) a xs:=by
 obtain⟨z,y,xs,r,o,es,ep,h1,h2,h3,h4,h5⟩:=(show ObjOk P w H h a (.dT kvs) from Ea ok e);refine⟨z,y,xs,r,o,es,ep,h1,h2,h3,h4,λx hx=>?_,h5⟩;have all:∀{l:List (List dg×V)} {m:List (List dg×Addr×Value)},KT H l m->∀x∈m,(Ug (bS P w)).is h x.1 x.2.1:=by
  intro l m q
  induction q with
  |nil=>intro x hx;exact nomatch hx
  | @cons p q ps qs hq t ih=>
   intro x hx;rcases Ov.mp hx with e|hx
   ·subst e;exact sW ok (by rw[←hq.1];exact hq.2.1)
   ·exact ih x hx
 exact all r x hx
theorem JB(ok:iz P w H h)(e:H a=some (.dT kvs)):kvs.length≤sizeLine/\(a==RJ)=false∧
  ∃xs,KT H kvs xs/\h.DictOfH (Ug (bS P w)) a xs:=A0 ok (.inl e)
end
def mI(H:Hp)(a:Addr)(y:V)(r:Option V):Prop:=
 (∃kvs k,Rd H a (.dK kvs)/\y=kV k/\r=ju kvs k)∨∃kvs k b,Rd H a (.dT kvs)/\y=.ref b/\H b=some (.tup (k.map kV))/\r=ju kvs k
def tW(H:Hp)(a:Addr)(y v:V)(H':Hp):Prop:=
 (∃kvs k,H a=some (.dK kvs)/\y=kV k/\kvs.length<sizeLine/\H'=upd H a (.dK (gm kvs k v)))∨
 ∃kvs k b,H a=some (.dT kvs)/\y=.ref b/\H b=some (.tup (k.map kV))/\kvs.length<sizeLine/\H'=upd H a (.dT (gm kvs k v))
theorem mI.k{H:Hp}{a:Addr}{kvs:List (dg×V)}{k:dg}(e:H a=some (.dK kvs)):mI H a (kV k) (ju kvs k):=.inl ⟨kvs,k,.inl e,Z,Z⟩
theorem tW.k{H:Hp}{a:Addr}{kvs:List (dg×V)}{k:dg}{v:V}(e:H a=some (.dK kvs))(hl:kvs.length<sizeLine):tW H a (kV k) v (upd H a (.dK (gm kvs k v))):=.inl ⟨kvs,k,e,Z,hl,Z⟩
section
variable {X:Cx}{pins:List (Addr×P0)}{σ:St}{H:Hp}{s:Om}{a:Addr}{y v:V}{u r:Value}{o:Option V}{A:O5}{E:Value->Om->Prop}
theorem Inv.big(I:Inv X pins σ H s):RJ<s.heap.objs.size:=by
 have h:OR<s.heap.objs.size:=(I.mod.glob.keeps I.bk).lt;exact Wc (by decide) h
theorem pO(I:Inv X pins σ H s)(mu:JN (H a))(hs:RL a s.heap h')(he:∃q,h'.get? a=some q)(new:ObjOk X.prog X.w (upd H a ob) h' a ob):
  Inv X pins σ (upd H a ob) { s with heap:=h',toks:=t'}:=
 I.write (x:=a) (e:=a) mu (.inl Z) (λb q hb z=>(hs.2 b hb).trans z) he new
theorem Hb(z:kvs.length≤sizeLine)(hd:(a==RJ)=false)(rel:KV kvs vs)(dd:h'.DictOf (bS P w) a vs):
  ObjOk P w H' h' a (.dK kvs):=⟨z,hd,vs,rel,dd⟩
theorem wE(hu:A.units+1<cLine)(I:Inv X pins σ H s)(g:tW H a y v H')(ry:aZ y u)(rv:aZ v r)(h:∀s',Inv X pins σ H' s'->Q () s'):
  OJ (OM X.prog X.w) A (XE (.ref a) u r) Q E s:=by
 rcases g with⟨kvs,k,e,ey,l,eH⟩ | ⟨kvs,k,b,e,ey,eb,l,eH⟩
 ·subst ey eH;obtain⟨z,hd,vs,rel,dd⟩:=Eu I.hok e;have hz:vs.length≤sizeLine:=by rw[←rel.length];exact z
  have hl:(gm kvs k v).length≤sizeLine:=by have:=jT kvs k v;omega
  refine wpAny_setItem_pairs (hsz:=hz) (Ax ry) dd λh' dd' hs=>h _ ?_
  have he:∃q,h'.get? a=some q:=let ⟨q,_,_,hq,_⟩:=dd';⟨q,hq⟩;exact pO I (by rw[e];exact Rb) hs he (Hb hl hd (rel.put k rv) dd')
 ·subst ey eH
  cases(show u=OP b from ry)
  obtain⟨z,hd,xs,rel,dd⟩:=JB I.hok e;have hz:xs.length≤sizeLine:=by rw[←Paired.length rel];exact z
  have hl:(gm kvs k v).length≤sizeLine:=by have:=jT kvs k v;omega
  refine wpAny_setItem_heap (hsz:=hz) (VU hu) (sW I.hok eb) dd λh' dd' hs=>h _ ?_
  obtain⟨q,es,ep,hq,h2,h3,h4,_,h5⟩:=dd';refine pO I (by rw[e];exact Rb) hs ⟨q,hq⟩ ⟨hl,hd,_,(rel.put k eb rv).keeps λc ys ec=>?_,q,es,ep,hq,h2,h3,h4,h5⟩;rw[ay (Jn ec e (λz=>nomatch z))];exact ec
end
section
variable {X:Cx}{pins:List (Addr×P0)}{σ:St}{H:Hp}{s:Om}{a:Addr}{kvs:List (dg×V)}{k:dg}{u:Value}{A:O5}{E:Value->Om->Prop}
end
def Nq(i:O3):Prop:=∀ov iv,Vb i false ov iv=XH [ov,iv] (Tk ov iv)
def LD(td ty:TE):TE:=λσ H Q=>td σ H λx H1=>ty σ H1 λy H2=>∃a v,x=.ref a/\mI H2 a y (some v)/\Q v H2
def MD(ty td:TE):TE:=λσ H Q=>ty σ H λy H1=>td σ H1 λx H2=>∃a o,x=.ref a/\mI H2 a y o/\Q (.bl o.isSome) H2
def JX(ty td:TE):TE:=λσ H Q=>ty σ H λy H1=>td σ H1 λx H2=>∃a o,x=.ref a/\mI H2 a y o/\Q (.bl (!o.isSome)) H2
def DZ(td ty tv:TE):TS:=λD σ H=>tv σ H λv H1=>td σ H1 λx H2=>ty σ H2 λy H3=>∃a H4,x=.ref a/\tW H3 a y v H4/\D.nx σ H4
def LK(td ty tv:TE)(rd:V->V->Hp->VK->Prop):TS:=λD σ H=>td σ H λx H1=>ty σ H1 λy H2=>∃a v,x=.ref a/\mI H2 a y (some v)∧
 tv σ H2 λy2 H3=>rd v y2 H3 λz H4=>∃H5,tW H4 a y z H5/\D.nx σ H5
section
variable {X:Cx}{o i e value:O3}{pos pos' tpos:R1}{td ty tv:TE}
theorem Cv(hu:X.A.units+1<cLine)(ho:PE X o td)(hi:PE X i ty)(hv:PE X value tv)(hs:QV value (some (.Subscript o i pos')) pos.line X.env=Qm false) :
  PS X (.Assign [.Subscript o i pos'] value pos) (DZ td ty tv):=by
 intro pins s σ H D I h;refine wpAny_Assign_Subscript (bK (hv pins s σ H _ I h) λr s1 ⟨v,H1,I1,rv,q1⟩=>bK (ho pins s1 σ H1 _ I1 q1) λu s2 ⟨x,H2,I2,rx,q2⟩=>bK (hi pins s2 σ H2 _ I2 q2) λiv s3 ⟨y,H3,I3,ry,a,H4,ex,g,q3⟩=>?_) hs;subst ex;obtain rfl:u=OP a:=rx;exact wE hu I3 g ry rv λs4 I4=>⟨σ,H4,I4,q3⟩
end
theorem A4(h:Oy)(hb:RJ<h.objs.size):ObjOk P w H (h.push { cls:=.type "dict",data:=.dict #[]}) h.objs.size (.dK []):=
 ⟨ON _,beq_eq_false_iff_ne.mpr (Rw (O9 hb)),[],.nil,Oy.DictOf.new h⟩
def xz:TE:=λ_ H Q=>∀p,H p=none->Q (.ref p) (upd H p (.dK []))
section
variable {X:Cx}{pos:R1}
theorem zU:PE X (.Dict [] [] pos) xz:=λpins s σ H Q I h=>
 wpAny_Dict_empty ⟨.ref s.heap.objs.size,_,I.laid (a:=s.heap.objs.size) (o:=.dK []) (t':=s.toks) (λ_ _ q=>On _ q) (Oi _) (A4 s.heap I.big),Z,h _ (I.hok.fresh (Oi _))⟩
end
def rP:List (TE×TE)->St->Hp->(List (V×V)->Hp->Prop)->Prop
 | [],_,H,Q=>Q [] H
 | (tk,tv)::r,σ,H,Q=>tk σ H λx H1=>tv σ H1 λy H2=>rP r σ H2 λps H3=>Q ((x,y)::ps) H3
abbrev VV:List (V×V)->List (Value×Value)->Prop:=Paired λp q=>aZ p.1 q.1/\aZ p.2 q.2
def Ob(X:Cx)(pos:R1)(keys:List (Option O3))(values:List O3)(trs:List (TE×TE)):Prop:=
 ∀(pins:List (Addr×P0)) (s:Om) (σ:St) (H:Hp) (Q:List (V×V)->Hp->Prop),Inv X pins σ H s->rP trs σ H Q→
  OJ (OM X.prog X.w) X.A (evalPairs (pairTrees keys values X.env pos)) (λvs s'=>∃ps H',Inv X pins σ H' s'/\VV ps vs/\Q ps H') X.xe s
def GP(kvs more:List (dg×V)):List (dg×V):=more.foldl (λacc kv=>gm acc kv.1 kv.2) kvs
def LC(trs:List (TE×TE)):TE:=λσ H Q=>∀p,H p=none->rP trs σ (upd H p (.dK [])) λps H2=>H2 p=some (.dK [])/\∃kvs:List (dg×V),ps=kvs.map (λkv=>(kV kv.1,kv.2))/\kvs.length≤15/\Q (.ref p) (upd H2 p (.dK (GP [] kvs)))
structure M1(X:Cx)(o:O3)(m:OV)(apos:R1)(e:O3)(cpos:R1):Prop where
 base:Q6 o m X.env (eval o X.env)=eval o X.env
 few:((QZ cpos (Oz [e] X.env)).all (λx=>!x.1)&&(S1 cpos (RH [] X.env)).all (λx=>x.1.isSome)
 &&decide (([e]:List O3).length+([]:List Tn).length+(if([]:List Tn).isEmpty then 0 else 1)<30))=true
 line:(apos.endLine==cpos.line)=true
 trees:QZ cpos (Oz [e] X.env)=[(false,eval e X.env)]
structure M2(X:Cx)(o:O3)(m:OV)(apos:R1)(e f:O3)(cpos:R1):Prop where
 base:Q6 o m X.env (eval o X.env)=eval o X.env
 few:((QZ cpos (Oz [e,f] X.env)).all (λx=>!x.1)&&(S1 cpos (RH [] X.env)).all (λx=>x.1.isSome)
 &&decide (([e,f]:List O3).length+([]:List Tn).length+(if([]:List Tn).isEmpty then 0 else 1)<30))=true
 line:(apos.endLine==cpos.line)=true
 trees:QZ cpos (Oz [e,f] X.env)=[(false,eval e X.env),(false,eval f X.env)]
def Ld(H:Hp)(a:Addr):Prop:=(∃kvs,Rd H a (.dK kvs))∨∃kvs,Rd H a (.dT kvs)
theorem AA{X:Cx}{pins:List (Addr×P0)}{σ:St}{H:Hp}{s:Om}{a:Addr}(I:Inv X pins σ H s)(d:Ld H a) :
  s.TypeIs (.ref a) "dict"/\(∀b,OP a=.ref b->∃ob,s.heap.get? b=some ob/\ob.dict=none)/\(a==RJ)=false:=by
 rcases d with⟨kvs,e⟩ | ⟨kvs,e⟩
 ·obtain⟨_,hd,vs,_,dd⟩:=A3 I.hok e;refine⟨dd.typeIs,λb q=>?_,hd⟩
  cases q
  obtain⟨ob,_,_,h1,h2,_⟩:=dd;exact⟨ob,h1,h2.2.1⟩
 ·obtain⟨_,hd,xs,_,dd⟩:=A0 I.hok e;refine⟨dd.typeIs,λb q=>?_,hd⟩
  cases q
  obtain⟨ob,_,_,h1,h2,_⟩:=dd;exact⟨ob,h1,h2.2.1⟩
section
variable {X:Cx}{pins:List (Addr×P0)}{σ:St}{H:Hp}{s:Om}{a:Addr}{y d:V}{u r:Value}{o:Option V}{A:O5}{E:Value->Om->Prop}
theorem Hd(hu:A.units+1<cLine)(I:Inv X pins σ H s)(g:mI H a y o)(ry:aZ y u)(rd:aZ d r)(h:∀w' s',Inv X pins σ H s'->aZ (o.getD d) w'->Q w' s'):
  OJ (OM X.prog X.w) A (call (.builtin "dict.get") [.ref a,u,r]) Q E s:=by
 rcases g with⟨kvs,k,e,ey,l⟩ | ⟨kvs,k,b,e,ey,eb,l⟩
 ·subst ey;obtain⟨z,hd,vs,rel,dd⟩:=A3 I.hok e;refine call_meetsIn SO dd.typeIs UR (Ut _ _ _) (meets_dict_get_default (bS X.prog X.w) a (Ax ry) hd r) ⟨_,dd.mapOf,h _ _ (I.tok _) ?_⟩;rw[l];exact(rel.val k).getD rd
 ·subst ey
  cases(show u=OP b from ry)
  obtain⟨z,hd,xs,rel,dd⟩:=A0 I.hok e;refine call_meetsIn SO dd.typeIs UR (Ut _ _ _) (meetsH_dict_get_default (Ug (bS X.prog X.w)) a b hd r) ⟨VU hu,k,xs,sW I.hok eb,dd,h _ _ (I.tok _) ?_⟩;rw[l];exact(rel.val k).getD rd
end
def KC(td ty:TE):TE:=λσ H Q=>td σ H λx H1=>∃a,x=.ref a/\Ld H1 a/\ty σ H1 λy H2=>∃o,mI H2 a y o/\Q (o.getD .non) H2
def xB(td ty tx:TE):TE:=λσ H Q=>td σ H λx H1=>∃a,x=.ref a/\Ld H1 a/\ty σ H1 λy H2=>tx σ H2 λz H3=>∃o,mI H3 a y o/\Q (o.getD z) H3
section
variable {X:Cx}{o e f:O3}{apos cpos:R1}{td ty tx:TE}
theorem zV(hu:X.A.units+1<cLine)(ho:PE X o td)(he:PE X e ty)(hf:PE X f tx)(m:M2 X o "get" apos e f cpos):PE X (.Call (.Attribute o "get" apos) [e,f] [] cpos) (xB td ty tx):=by
 intro pins s σ H Q I h;refine Wj m.base m.few m.line Uu SO PySem.F.type_dict_get (bK (ho pins s σ H _ I h) λu s1 ⟨x,H1,I1,rx,a,ex,d,q1⟩=>?_);subst ex;obtain rfl:u=OP a:=rx;obtain⟨t1,t2,_⟩:=AA I1 d;refine⟨t1,t2,?_⟩;rw[m.trees];refine Calls.callWith_builtin Z (Calls.evalArgs_plain (Calls.spliced_cons (bK (he pins s1 σ H1 _ I1 q1) λiv s2 ⟨y,H2,I2,ry,q2⟩=>
  Calls.spliced_cons (bK (hf pins s2 σ H2 _ I2 q2) λfv s3 ⟨z,H3,I3,rz,ov,g,q3⟩=>Calls.spliced_nil ?_))))
 exact Hd hu I3 g ry rz λw' s4 I4 rw'=>⟨_,H3,I4,rw',q3⟩
end
end L2
namespace B
open PySem PySem.Spec L2 PyProof.Rows
theorem ia{α β:Type}{K:Of}{H:Hp}{D a:Addr}{xs:List V}{ds:List α}{P:Hp->V->β->Prop}{f:α->β}{src:List (Option Nat)}{σ:L2.St}{g:TG}{tt:TT}{te:TE}{Q:Hp->Prop}
  (mono:∀H H' v d,aV K H H'->P H v d->P H' v d) (hD:H D=none) (hS:bu K H a xs) (hl:xs.length=ds.length) (hn:ds.length≤1000)
  (turn:∀(i:Nat) (x:V) (d:α) (H':Hp),xs[i]?=some x->ds[i]?=some d->aD H H'->∀(R:VK) (E:Hp->Prop),(∀v H'',aD H' H''->P H'' v (f d)->R v H'')→
   g x (cc src σ) H' λσ2 H2=>gX (cc src σ) σ2/\tt σ2 H2 λok H3=>if ok=true then te σ2 H3 R else E H3)
  (fin:∀H' ys,aD H H'->H' D=some (.lst ys)->di (P H') ys (ds.map f)->Q H') :
  ∃W:Nat->Nat->List V->Hp->Prop,(∃m,W 0 m [] (upd H D (.lst [])))/\∀i m ys H,W i m ys H->((By K a).stop i H/\Q H)∨((By K a).go i H/\∀x H',(By K a).yld i H x H'→
   g x (cc src σ) H' λσ2 H2=>gX (cc src σ) σ2/\tt σ2 H2 λok H3=>
    if ok=true then te σ2 H3 λy H4=>H4 D=some (.lst ys)/\ys.length<sizeLine/\∃m',m'<m/\W (i+1) m' (ys++[y]) (upd H4 D (.lst (ys++[y]))) else ∃m',m'<m/\W (i+1) m' ys H3):=by
 refine⟨λi m ys H'=>i≤ds.length/\m=ds.length-i/\H' D=some (.lst ys)/\aD H H'/\di (P H') ys ((ds.take i).map f),⟨_,ON _,Z,ag,ao hD _,.nil⟩,?_⟩;rintro i m ys H1 ⟨hi,rfl,d1,s1,al1⟩;have hS1:bu K H1 a xs:=aV.same s1 _ _ hS;by_cases hix:i<ds.length
 ·have hx0:xs[i]?=some (xs[i]'(by omega)):=Oh _;refine .inr ⟨⟨xs,_,hS1,hx0⟩,?_⟩;rintro x H2 ⟨rfl,hy⟩;have hx:=hy xs hS1;obtain⟨d,hd⟩:∃d,ds[i]?=some d:=⟨_,Oh hix⟩;refine turn i x d _ hx hd s1 _ _ λv H3 s3 p3=>?_
  have d3:H3 D=some (.lst ys):=s3 _ _ d1;have tm:aV K H2 (upd H3 D (.lst (ys++[v]))):=(aV.same s3).trans (aV.up d3 _);refine⟨d3,bn (by rw[al1.len,Ol,PX];omega),ds.length-(i+1),by omega,hix,Z,ag,λb o q=>?_,?_⟩
  ·rw[ay (aR q hD)];exact s3 _ _ (s1 _ _ q)
  ·rw[Px,hd,PJ];exact(al1.mono λv d p=>mono _ _ _ _ tm p).snoc (mono _ _ _ _ (aV.up d3 _) p3)
 ·have e:i=ds.length:=by omega
  subst e;rw[Pt] at al1;exact .inl ⟨⟨xs,hS1,by omega⟩,fin H1 ys s1 d1 al1⟩
def kO:PyData->String
 | .none => "NoneType"
 | .bool _ => "bool"
 | .int _ => "int"
 | .str _ => "str"
 | .list _ => "list"
 | .tuple _ => "tuple"
 | .dict _ => "dict"
def Ec(K:Of):List V->Hp->VK->Prop:=λxs H Q=>∃v d n b,xs=[v,.ty n]/\bh K H v d/\jV (kO d) n=some b/\Q (.bl b) H
theorem dM:df X (.builtin "isinstance") (Ec X.K):=by
 intro pins s σ H xs us Q I r h;obtain⟨v,d,n,b,rfl,hD,e,q⟩:=h
 cases hD with
 |non=>exact jm pins s σ H _ us Q I r ⟨_,n,_,b,Z,.non,e,q⟩
 |bl c=>exact jm pins s σ H _ us Q I r ⟨_,n,_,b,Z,.bl c,e,q⟩
 |int i=>exact jm pins s σ H _ us Q I r ⟨_,n,_,b,Z,.int i,e,q⟩
 |str x=>exact jm pins s σ H _ us Q I r ⟨_,n,_,b,Z,.str x,e,q⟩
 | @tup a ys ds hS hA=>exact wO pins s σ H _ us Q I r ⟨a,ys,n,b,Z,hS,e,q⟩
 | @lst a ys ds hS hA=>
  obtain⟨u,u2,rfl,rx,ry⟩:=qd r;obtain rfl:u2=Rt n:=ry
  cases(show u=OP a from rx)
  obtain⟨its,_,⟨o,k,h1,h2,_⟩,_⟩:=I.list hS;exact Pu T3 I.kIn ⟨o,h1,h2⟩ (sV e) (λz=>nomatch z) λtk=>⟨.bl b,H,I.tok tk,Z,q⟩
def bR:PyData->Bool
 | .int _=>true
 |_=>false
def oq(n:Nat):PyData->Bool
 | .tuple xs=>decide (xs.length=n)
 |_=>false
def gl:PyData->Bool
 | .tuple [.int a,.int b]=>decide (1≤b)&&decide (OG a b=1)
 |_=>false
def LX:PyData->Bool
 | .tuple [x,y]=>gl x&&gl y
 |_=>false
theorem kB{K:Of}{H:Hp}{v:V}{d:PyData}(h:bh K H v d):∃b c,jV (kO d) "int"=some b/\jV (kO d) "bool"=some c/\bR d=(b&&!c):=by
 cases h with
 |non=>exact⟨false,false,by simp only[kO];decide +kernel,by simp only[kO];decide +kernel,Z⟩
 |bl b=>exact⟨true,true,by simp only[kO];decide +kernel,by simp only[kO];decide +kernel,Z⟩
 |int i=>exact⟨true,false,by simp only[kO];decide +kernel,by simp only[kO];decide +kernel,Z⟩
 |str x=>exact⟨false,false,by simp only[kO];decide +kernel,by simp only[kO];decide +kernel,Z⟩
 |lst e t=>exact⟨false,false,by simp only[kO];decide +kernel,by simp only[kO];decide +kernel,Z⟩
 |tup e t=>exact⟨false,false,by simp only[kO];decide +kernel,by simp only[kO];decide +kernel,Z⟩
theorem uO{K:Of}{H:Hp}{v:V}{d:PyData}(h:bh K H v d):(jV (kO d) "tuple"=some true/\∃a xs ds,v=.ref a/\d=.tuple ds/\bu K H a xs/\be K H xs ds)∨(jV (kO d) "tuple"=some false/\∀ds,d≠.tuple ds):=by
 cases h with
 |non=>exact .inr ⟨by simp only[kO];decide +kernel,λ_ z=>nomatch z⟩
 |bl b=>exact .inr ⟨by simp only[kO];decide +kernel,λ_ z=>nomatch z⟩
 |int i=>exact .inr ⟨by simp only[kO];decide +kernel,λ_ z=>nomatch z⟩
 |str x=>exact .inr ⟨by simp only[kO];decide +kernel,λ_ z=>nomatch z⟩
 |lst e t=>exact .inr ⟨by simp only[kO];decide +kernel,λ_ z=>nomatch z⟩
 |tup e t=>exact .inl ⟨by simp only[kO];decide +kernel,_,_,_,Z,Z,e,t⟩
theorem BI(h:∀ds,d≠.tuple ds):oq n d=false:=by
 cases d<;>first|rfl|exact absurd Z (h _)
theorem be.len{K:Of}{H:Hp}:∀{xs:List V} {ds:List PyData},be K H xs ds->xs.length=ds.length
 |_,_,.nil=>rfl
 |_,_,.cons _ t=>congrArg Nat.succ t.len
theorem bh.two{K:Of}{H:Hp}{v:V}{d:PyData}(h:bh K H v d)(c:oq 2 d=true):∃a x y dx dy,v=.ref a/\d=.tuple [dx,dy]/\bu K H a [x,y]/\bh K H x dx/\bh K H y dy:=by
 cases h with
 | @tup a xs ds e t=>
  have l:ds.length=2:=of_decide_eq_true c
  cases t with
  |nil=>cases l
  |cons hx t=>cases t with
   |nil=>cases l
   |cons hy t=>cases t with
    |nil=>exact⟨a,_,_,_,_,Z,Z,e,hx,hy⟩
    |cons hz t=>simp at l
 |_=>cases c
theorem Ch(h:oq 2 d=false):gl d=false:=by
 cases c:gl d with
 |false=>rfl
 |true=>
  unfold gl at c
  split at c
  ·cases h
  ·cases c
structure Sh(k n:Nat)(d:PyData):Prop where
 sh:d.showable=true
 nd:d.hasDict=false
 dp:d.depth≤k
 sz:d.shown.length≤n
theorem Sh.mono(h:Sh k n d)(hk:k≤k')(hn:n≤n'):Sh k' n' d:=⟨h.sh,h.nd,OS h.dp hk,OS h.sz hn⟩
theorem Sh.all{k n:Nat}:∀{ds:List PyData},(∀d∈ds,Sh k n d)->VW ds=true/\Wl ds=false/\Te ds≤k/\((RU ds).map (·.length)).sum≤n*ds.length/\(RU ds).length=ds.length
 | [],_=>⟨Z,Z,ON _,ON _,Z⟩
 |d::ds,h=>by
  obtain⟨a,b,c,e,f⟩:=Sh.all (ds:=ds) λx hx=>h x (Ot _ hx)
  have z:=h d Oq;refine⟨?_,?_,?_,?_,?_⟩
  ·show(d.showable&&VW ds)=true;rw[z.sh,a];rfl
  ·show(d.hasDict||Wl ds)=false;rw[z.nd,b];rfl
  ·show WO d.depth (Te ds)≤k;exact Nat.max_le.mpr ⟨z.dp,c⟩
  ·show d.shown.length+((RU ds).map (·.length)).sum≤n*(ds.length+1);have:=z.sz;rw[US];omega
  ·show(RU ds).length+1=ds.length+1;rw[f]
theorem Sh.tup(h:∀d∈ds,Sh k n d)(hm:ds.length≤m)(hN:(n+3)*m+8≤N):Sh (k+1) N (.tuple ds):=by
 obtain⟨a,b,c,e,f⟩:=Sh.all h;refine⟨a,b,Se c,?_⟩;show(tupleText (RU ds)).length≤N;have q:=tupleText_len_le (RU ds);have l:n*ds.length+3*ds.length≤(n+3)*m:=by
  rw[←WR];exact Rz _ hm
 omega
theorem Sh.shows(h:Sh k n d)(hk:k≤16)(hn:n≤16777216):Bm d:=⟨h.sh,h.nd,OS h.sz (OS hn (by decide)),OS h.dp hk⟩
mutual
theorem bh.same{K:Of}{H H':Hp}(s:aD H H'):∀{v:V} {d:PyData},bh K H v d->bh K H' v d
 |_,_,.non=>.non
 |_,_,.bl b=>.bl b
 |_,_,.int i=>.int i
 |_,_,.str x=>.str x
 |_,_,.lst e t=>.lst (s.seq e) (be.same s t)
 |_,_,.tup e t=>.tup (aV.same s _ _ e) (be.same s t)
theorem be.same{K:Of}{H H':Hp}(s:aD H H'):∀{vs:List V} {ds:List PyData},be K H vs ds->be K H' vs ds
 |_,_,.nil=>.nil
 |_,_,.cons h t=>.cons (bh.same s h) (be.same s t)
end
end B
namespace B
open PySem PySem.Spec L2 PyProof.Rows
def LT(K:Of):R2:=λx y H Q=>∃a b xs ys,x=.ref a/\y=.ref b/\bu K H a xs/\bu K H b ys/\xs.length+ys.length≤sizeLine/\∀p H',aD H H'->bu K H' p (xs++ys)->Q (.ref p) H'
def KH(K:Of):V->Option Int->Option Int->Hp->VK->Prop:=λx lo hi H Q=>∃a xs,x=.ref a/\bu K H a xs/\∀p H',aD H H'->bu K H' p (mT xs lo hi)->Q (.ref p) H'
theorem BX:Bl X (KH X.K):=by
 intro pins s σ H x v vl vu lo hi sl Q I rx hs pl pu h;obtain⟨a,xs,rfl,hx,q⟩:=h;refine BY pins s σ H _ v vl vu lo hi sl Q I rx hs pl pu ?_;by_cases c:HT.sIx xs.length 0 lo=0/\HT.sIx xs.length xs.length hi=xs.length
 ·refine .inl ⟨a,xs,Z,hx,c.1,c.2,q a H (aD.refl H) ?_⟩;have e:mT xs lo hi=xs:=by
   unfold mT;rw[c.1,c.2,List.drop_zero,Nat.sub_zero,Pt]
  rw[e];exact hx
 ·exact .inr ⟨a,xs,Z,hx,c,λp hp=>q p _ (ao hp _) (bu.of ag)⟩
def Ni(K:Of)(s:Addr):Prop:=∃ns:List Int,ns.length≤63/\∀H:Hp,ba K H s (ns.map V.int)
structure ve(K:Of)(H:Hp)(t s:Addr):Prop where
 ex:∃(ns:List Int) (p q:Int),H t=some (.lst [.ref s,.int p,.int q])/\((Rd H s (.lst (ns.map V.int))/\s≠t)∨∀H',ba K H' s (ns.map V.int))/\ns.length≤63/\0≤p/\0≤q
def Ix(K:Of):Sp:=λvs H Q _=>∃(a:Addr) (ns:List Int),vs=[.ref a]/\ba K H a (ns.map V.int)/\ns.length≤63/\∀(t:Addr) (H':Hp),aD H H'->H t=none->ve K H' t a->Q (.ref t) H'
def Iy(K:Of):Sp:=λvs H Q _=>∃(t s:Addr) (m:Int),vs=[.ref t,.int m]/\ve K H t s/\0<m/\m<1073741824/\∀(r:Int) (xs:List V),0≤r->r<m->ve K (upd H t (.lst xs)) t s->Q (.int r) (upd H t (.lst xs))
section
set_option autoImplicit true
set_option relaxedAutoImplicit true
theorem ky{X:Cx}{elts:List O3}{x1}{tp p pos:R1}{a:O3}{ta:TA}(hg:Gl X "enumerate")(hm:X.mg "enumerate"=none)(ha:QA X [a] ta)(hs:Oz [a] X.env=[(false,eval a X.env)]:=by rfl):QI X (.Tuple elts x1 tp) (.Call (.Name "enumerate" p) [a] [] pos) (Ju X.K ta):=⟨CC hg hm ha.p hs⟩
theorem lJ{X:Cx}{elts:List O3}{x1}{tp p pos:R1}{a:O3}{ta:TA}(hg:Gl X "enumerate")(hm:X.mg "enumerate"=none)(ha:QA X [a] ta)(hs:Oz [a] X.env=[(false,eval a X.env)]:=by rfl):QI X (.Tuple elts x1 tp) (.Call (.Name "enumerate" p) [a] [] pos) (Jv X.K ta):=⟨zM hg hm ha.p hs⟩
end
theorem kC:∀{ns:List Int} {us:List Value},bc (ns.map V.int) us->Vp us ns
 | [],_,.nil=>.nil
 |n::ns,_,.cons r t=>by
  obtain⟨tk,rfl⟩:=(show ∃t,_=Rj n t from r);exact .cons _ _ (kC t)
theorem wL(hc:X.calm=true):df X (.builtin "sum") (λxs H Q=>∃(p:Addr) (ns:List Int),xs=[.ref p]/\ba X.K H p (ns.map V.int)/\Q (.int ns.sum) H):=by
 intro pins s σ H xs us Q I r h;obtain⟨p,ns,rfl,hq,q⟩:=h;obtain⟨u,rfl,rx⟩:=gE r
 cases rx
 obtain⟨its,rv,pl,hz⟩:=I.list hq;have hi:=kC rv;obtain⟨zs,ez⟩:=hi.allInts.items;have hl:=pl.isList;rw[ez] at hl;have en:numsOf its=ns:=hi.numsOf;rw[show its=its.toArray.toList from Z,ez,VI] at en;refine sum_intListG (I.ok.hd hc) hl λh' tk t' hk=>?_
 rw[preSum_eq,UT (by simp),en];exact⟨.int ns.sum,H,I.kept (t':=tk) hk,⟨_,Z⟩,q⟩
section
variable {prog:O0}{w:Pk}{A:O5}{E:Value->Om->Prop}{s:Om}
theorem mU{a b c:Int}{n:Nat}(hh:A.handled=none)(hr:Vn s.heap r a b c t u v)(hsmall:RA a b c=true)
  (hn:PN a b c=n) (hlen:n≤2^24)
  (hQ:∀h' tk acc,(∀b o,s.heap.get? b=some o->h'.get? b=some o)->XJ (λi v=>∃t,v=.int (a+i*c) t) acc n->Q acc.toList { s with heap:=h',toks:=tk}):
  OJ (OM prog w) A (collect (.ref r)) Q E s:=by
 unfold collect;refine Oj (wpAny_runValue (codeAny_builtin F.entry_proto_collect ?_));rw[Vj F.plain_proto_collect _];show OJ _ A.in1 (W3 [] >>= λl=>again (.builtin "list.__iadd__" ⟨[l,.ref r],[]⟩)) _ _ s;refine Oj (PD ?_);refine OC ⟨plainId_quiet F.plain_list_iadd _,codeAny_builtin F.entry_list_iadd ?_⟩;rw[Vj F.plain_list_iadd _];show OJ _ A.in1 (Pa.List.listExtendWith (.ref s.heap.objs.size) (.ref r) (.ref s.heap.objs.size)) _ _ { s with heap:=s.heap.push { cls:=.type "list",data:=.seq ([]:List Value).toArray} };refine wpAny_extend_range (R:=wants (λv s'=>OJ (OM prog w) A (match v with | .ref a=>(do match (←load a).data with | .seq xs _=>Qm xs.toList|_=>unsupported "internal:collect")|_=>unsupported "internal:collect") Q E s') E) (s:={ s with heap:=s.heap.push { cls:=.type "list",data:=.seq ([]:List Value).toArray} }) hh (On _ hr) hsmall hn hlen s.heap.objs.size _ _ (OO _ rfl) λh' tk acc' c' hk hS hI=>?_
 show OJ _ A (load s.heap.objs.size >>= _) _ _ _;refine Oj (wpAny_load hS ?_);exact OC (hQ h' tk acc' (λb o e=>hk b o (O9 (OF e)) (On _ e)) hI)
theorem ja{a b c:Int}{n:Nat}(hsmall:RA a b c=true)(hn:PN a b c=n)(hlen:n≤2^24):
  Meets (Pa.«tuple.__new__» ⟨[.type "tuple",.ref r],[]⟩)
   (λA R s=>A.handled=none/\Vn s.heap r a b c t u v/\∀(h':Oy) (tk:Nat) (acc:Array Value),(∀b o,s.heap.get? b=some o->h'.get? b=some o)->XJ (λi v=>∃t,v=.int (a+i*c) t) acc n→
    R (.ok (.ret (.ref h'.objs.size))) { s with heap:=h'.push { cls:=.type "tuple",data:=.seq acc},toks:=tk}):=
 .of_wp λprog w A R s h=>by
  obtain⟨hh,hr,h⟩:=h;have hsub:=sub_tuple_self;have hinit:=init_tuple_lookup;have hmh:=madeHere_tuple;have hT:s.TypeIs (.ref r) "range" := ⟨_,hr,Z⟩;have hh1:A.in1.handled=none:=hh
  wp_walk using UN hT,mU hh1 hr hsmall hn hlen
  intro h' tk acc hk hacc;show OJ _ _ (Qc acc.toList.toArray >>= λv=>ret v) _ _ _;unfold Qc;refine Oj (PD ?_ (show acc.toList.toArray.size≤sizeLine by simp only[Array.toArray_toList];rw[hacc.1,Sz];exact hlen));refine OC ⟨_,Z,?_⟩;have e:acc.toList.toArray=acc:=by simp
  rw[e];exact h h' tk acc hk hacc
theorem jN{a b c:Int}{n:Nat}(hh:A.handled=none)(hr:Vn s.heap r a b c t u v)(hsmall:RA a b c=true)
  (hn:PN a b c=n) (hlen:n≤2^24)
  (hQ:∀(h':Oy) (tk:Nat) (acc:Array Value),(∀b o,s.heap.get? b=some o->h'.get? b=some o)->XJ (λi v=>∃t,v=.int (a+i*c) t) acc n->Q (.ref h'.objs.size) { s with heap:=h'.push { cls:=.type "tuple",data:=.seq acc},toks:=tk}):
  OJ (OM prog w) A (call (.type "tuple") [.ref r]) Q E s:=by
 refine callType_new F.called_tuple (by decide) (F.typeCall_tuple_1 _) (F.newCall_tuple_1 _) (λobj=>F.args_object_init_2 obj _) F.entry_tuple_new
  (ja hsmall hn hlen) ⟨hh,hr,λh' tk acc hk hacc=>⟨⟨_,OO _ Z,Z⟩,hQ h' tk acc hk hacc⟩⟩
end
def upTo(n:Nat):List Int:=(Og n).map λi:Nat=>(i:Int)
theorem kK(h:XJ (λi v=>∃t,v=.int ((0:Int)+i*1) t) acc n):bc ((upTo n).map V.int) acc.toList:=by
 obtain⟨hl,ha⟩:=h;have key:∀m,m≤n->bc ((upTo m).map V.int) (acc.toList.take m):=by
  intro m
  induction m with
  |zero=>intro _;rw[Xo];exact .nil
  |succ m ih=>
   intro hm;have hlt:m<acc.size:=by omega
   have e1:acc.toList.take (m+1)=acc.toList.take m++[acc[m]]:=by
    rw[Px];simp[hlt]
   have e2:(upTo (m+1)).map V.int=(upTo m).map V.int++[V.int m]:=by
    unfold upTo;rw[PL];simp
   rw[e1,e2];refine(ih (by omega)).append (.cons ?_ .nil);obtain⟨t,e⟩:=ha m acc[m] (by simp[hlt]);exact⟨t,by rw[e];simp⟩
 have:=key n (Oi _)
 rwa [UT (by simp[hl])] at this
def DM(ta:TA):TE:=λσ H Q=>ta σ H λvs H1=>∃j:Int,vs=[.int j]/\∀p,H1 p=none->Q (.ref p) (upd H1 p (.rng 0 j))
theorem CH{X:Cx}{a:O3}{ta:TA}{p pos:R1}(hg:Gl X "range")(hm:X.mg "range"=none)(ha:PA X [a] ta)(hs:Oz [a] X.env=[(false,eval a X.env)]:=by rfl) :
  PE X (.Call (.Name "range" p) [a] [] pos) (DM ta):=by
 intro pins s σ H Q I h;refine Call_ (gO I hg hm Xc (PY (bK (ha pos pins s σ H _ I h) λus s1 ⟨vs,H1,I1,r1,q1⟩=>?_) hs Z));obtain⟨j,e,q⟩:=q1;subst e;obtain⟨u,rfl,t,rfl⟩:=gE r1;refine call_range_1 ?_;exact⟨.ref s1.heap.objs.size,_,I1.laid (o:=.rng 0 j) (λb o e=>On _ e) (Oi _) ⟨_,t,_,OO _ Z⟩,Z,q _ (I1.hok.fresh (Oi _))⟩
theorem um(n:Nat):PN 0 n 1=n:=by rw[rangeSize_one];split<;>omega
theorem qZ(hc:X.calm=true):df X (.type "tuple") (λxs H Q=>∃p,∃n:Nat,xs=[.ref p]/\H p=some (.rng 0 n)/\n≤1000/\∀l,H l=none->Q (.ref l) (upd H l (.tup ((upTo n).map V.int)))):=by
 intro pins s σ H xs us Q I r h;obtain⟨p,n,rfl,hp,hn,q⟩:=h;obtain⟨u,rfl,rx⟩:=gE r
 cases rx
 obtain⟨t,u,w,e⟩:=(show ObjOk X.prog X.w H s.heap p (.rng 0 n) from I.hok p _ hp);refine jN (I.ok.hd hc) (show Vn s.heap p 0 n 1 t u w from e) (XA (by omega) (by omega) (by omega) (by omega)) (um n) (by omega) λh' tk acc hk hi=>?_
 have rv:=kK hi;have I1:Inv X pins σ H { s with heap:=h',toks:=tk}:=I.kept (t':=tk) hk;have hl:(upTo n).length=n:=by unfold upTo;simp
 have I2:Inv X pins σ (upd H h'.objs.size (.tup ((upTo n).map V.int))) { s with heap:=h'.push { cls:=.type "tuple",data:=.seq acc},toks:=tk}:=
  I1.laid (t':=tk) (λb o e=>On _ e) (Oi _) (show ObjOk X.prog X.w _ _ _ (.tup ((upTo n).map V.int)) from⟨by rw[Ol,hl,Sz];omega,acc.toList,rv,by have:=WA h' acc;simpa using this⟩)
 exact⟨.ref h'.objs.size,_,I2,Z,q _ (I1.hok.fresh (Oi _))⟩
def JR(hi:Int)(n:Nat):It:=⟨λi _=>i<n,λi H x H'=>H'=H/\x=.int (hi-i),λi _=>n≤i⟩
theorem vo{P:O0}{w:Pk}{K:Of}{tg:O3}(it:Addr)(lo:Int)(n:Nat):rn P w K tg (JR lo n) [it] it (λi h=>Va h it (lo+(i:Nat)*(-1)) ((n:Int)-(i:Nat)) (-1)) where
 mem:=by simp
 obj:=λi h st b hb=>by
  have e:b=it:=by simpa using hb
  subst e;exact⟨_,st,λv z=>by
   have z':TX _=Vm v:=z
   cases z'⟩
 keep:=λi h h' st k=>k it (by simp) _ st
 item:=by
  intro X hP hw hK hc i pins s σ H E I hf st hg;subst hP hw hK;obtain⟨f0,f1,f2,f3,f4,f5⟩:=hf it (by simp);have W:=Walks.range (prog:=X.prog) (w:=X.w) (I.ok.hd hc) it lo (-1) n;refine W.item i s _ _ hg st λv h' tk hv st' kk=>?_
  obtain⟨t,rfl⟩:=hv;have I1:Inv X pins σ H { s with heap:=h',toks:=tk}:=I.turned (λb o hb e=>kk b o (by simpa using hb) e) f0 f1 f3 f4 f5;refine⟨_,rfl,uR (s:={ s with heap:=h',toks:=tk}) (n := "range_iterator") st' rfl rfl (by decide) ⟨.int (lo-i),H,I1,⟨t,?_⟩,⟨rfl,rfl⟩,st',λb hb=>(hf b hb).1⟩⟩;rw[show lo+(i:Int)*(-1)=lo-i by omega]
 done:=by
  intro X hP hw hK hc i pins s σ H E I hf st hg;subst hP hw hK;obtain⟨f0,f1,f2,f3,f4,f5⟩:=hf it (by simp);exact UE (I.ok.hd hc) st (by have:n≤i:=hg;omega) λh' eb=>⟨Z,I.turned (t':=s.toks) (λb o hb e=>eb b o hb e) f0 f1 f3 f4 f5⟩
 self:=λ_ _ _ _ _ st h=>UF st h
theorem nv(a b:Int):PN a b (-1)=((a-b).toNat:Nat):=by
 unfold PN;rw[if_neg (by decide)]
 split
 ·rw[show(-(-1):Int)=1 by decide,UL];omega
 ·omega
theorem rV(ha:-1000≤a)(ha':a≤1000)(hb:-1000≤b)(hb':b≤1000):RA a b (-1)=true:=by
 unfold RA;rw[nv];simp only[Pa.Range.rangeFitsLong,OA,W0,decide_eq_true_eq,beq_iff_eq,show ¬(-1:Int)>0 by decide,if_false];omega
def Ek(ta:TA):TI:=λσ H R=>ta σ H λvs H1=>∃i j:Int,vs=[.int i,.int j,.int (-1)]/\(-1000≤i/\i≤1000/\-1000≤j/\j≤1000)/\R (JR i (i-j).toNat) H1
theorem vT{X:Cx}{tg:O3}{a b c:O3}{ta:TA}{p pos:R1}(hg:Gl X "range")(hm:X.mg "range"=none)(ha:PA X [a,b,c] ta)(hs:Oz [a,b,c] X.env=[(false,eval a X.env),(false,eval b X.env),(false,eval c X.env)]:=by rfl)(hs2:Oz [b,c] X.env=[(false,eval b X.env),(false,eval c X.env)]:=by rfl) :
  PI X tg (.Call (.Name "range" p) [a,b,c] [] pos) (Ek ta):=by
 intro pins s σ H R I h;refine Call_ (gO I hg hm Xc (PY (bK (ha pos pins s σ H _ I h) λus s1 ⟨vs,H1,I1,r1,q1⟩=>?_) (by rw[hs,hs2]) (by rw[hs2];rfl)));obtain⟨i,j,e,⟨q1,q2,q3,q4⟩,q⟩:=q1;subst e
 cases r1 with
 |cons r rr=>
  cases rr with
  |cons r' rr=>
   cases rr with
   |cons r'' rr=>
    cases rr
    obtain⟨t,rfl⟩:=r;obtain⟨t',rfl⟩:=r';obtain⟨t'',rfl⟩:=r'';refine call_range_3 (by decide) ?_ (.inl (UG (by decide)));refine VM (Vn.new ..) (rV q1 q2 q3 q4) ?_;have I2:Inv X pins σ H1 { s1 with heap:=s1.heap.push { cls:=.type "range",data:=.fields #[.int i t,.int j t',.int (-1) t'']},toks:=s1.toks}:=I1.kept λb o e=>On _ e
    refine⟨(s1.heap.push { cls:=.type "range",data:=.fields #[.int i t,.int j t',.int (-1) t'']}).objs.size,[(s1.heap.push { cls:=.type "range",data:=.fields #[.int i t,.int j t',.int (-1) t'']}).objs.size],_,_,H1,Z,
     I2.kept (t':=s1.toks) λb o e=>On _ e,vo _ i (i-j).toNat,?_,λb hb=>?_,q⟩
    ·have e1:i+((0:Nat):Int)*(-1)=i:=by simp
     have e2:(((i-j).toNat:Nat):Int)-((0:Nat):Int)=PN i j (-1):=by rw[nv];omega
     show Va _ _ (i+((0:Nat):Int)*(-1)) ((((i-j).toNat:Nat):Int)-((0:Nat):Int)) (-1);rw[e1,e2];exact OO _ Z
    ·have e:b=(s1.heap.push { cls:=.type "range",data:=.fields #[.int i t,.int j t',.int (-1) t'']}).objs.size:=by simpa using hb
     subst e;exact I2.fpOk (Oi _) (I2.hok.fresh (Oi _))
theorem AM{hi:Int}{n:Nat}{g:TG}{tb:TS}{D:io}{σ:L2.St}{H:Hp}(Pv:Nat->L2.St->Hp->Prop)(h0:Pv 0 σ H)
  (hs:∀i σ H,i<n->Pv i σ H->g (.int (hi-i)) σ H λσ2 H2=>tb { D with nx:=Pv (i+1),ct:=Pv (i+1),bk:=D.nx} σ2 H2) (hd:∀σ H,Pv n σ H->D.nx σ H) :
  ∃W:Nat->Nat->L2.St->Hp->Prop,(∃m,W 0 m σ H)/\∀i m σ H,W i m σ H→
   ((JR hi n).stop i H/\D.nx σ H)∨((JR hi n).go i H/\∃N:L2.St->Hp->Prop,(∀σ' H',N σ' H'->∃m',m'<m/\W (i+1) m' σ' H')/\∀x H',(JR hi n).yld i H x H'->g x σ H' λσ2 H2=>tb { D with nx:=N,ct:=N,bk:=D.nx} σ2 H2):=by
 refine⟨λi m σ H=>m=n-i/\i≤n/\Pv i σ H,⟨_,Z,ON _,h0⟩,?_⟩;rintro i m σ H ⟨rfl,hi',p⟩;by_cases hlt:i<n
 ·refine .inr ⟨hlt,Pv (i+1),λσ' H' p'=>⟨n-(i+1),by omega,Z,hlt,p'⟩,λx H' y=>?_⟩;obtain⟨rfl,rfl⟩:=y;exact hs i σ _ hlt p
 ·have e:i=n:=by omega
  subst e;exact .inl ⟨Oi _,hd σ H p⟩
section
set_option autoImplicit true
set_option relaxedAutoImplicit true
theorem uA{X:Cx}{a:O3}{ta:TA}{p pos:R1}(hg:Gl X "range")(hm:X.mg "range"=none)(ha:QA X [a] ta)(hs:Oz [a] X.env=[(false,eval a X.env)]:=by rfl):QE X (.Call (.Name "range" p) [a] [] pos) (DM ta):=⟨CH hg hm ha.p hs⟩
theorem vN{X:Cx}{tg:O3}{a b c:O3}{ta:TA}{p pos:R1}(hg:Gl X "range")(hm:X.mg "range"=none)(ha:QA X [a,b,c] ta)(hs:Oz [a,b,c] X.env=[(false,eval a X.env),(false,eval b X.env),(false,eval c X.env)]:=by rfl)(hs2:Oz [b,c] X.env=[(false,eval b X.env),(false,eval c X.env)]:=by rfl):QI X tg (.Call (.Name "range" p) [a,b,c] [] pos) (Ek ta):=⟨vT hg hm ha.p hs hs2⟩
end
structure JF(J:It)(H:Hp)(n:Nat)(P:Nat->V->Hp->Prop):Prop where
 go:∀i H',i<n->aD H H'->J.go i H'
 stop:∀H',aD H H'->J.stop n H'
 yld:∀i H' x H'',i<n->aD H H'->J.yld i H' x H''->aD H' H''/\P i x H''
theorem gY{K:Of}{H:Hp}{a:Addr}{xs:List V}(h:ba K H a xs):JF (Bz K a) H xs.length (λi x _=>xs[i]?=some x) where
 go:=λi H' hi s=>⟨xs,_,s.seq h,Oh hi⟩
 stop:=λH' s=>⟨xs,s.seq h,Oi _⟩
 yld:=λi H' x H'' hi s y=>by obtain⟨rfl,hy⟩:=y;exact⟨aD.refl _,hy xs (s.seq h)⟩
theorem og{K:Of}{H:Hp}{a:Addr}{xs:List V}(h:bu K H a xs):JF (By K a) H xs.length (λi x _=>xs[i]?=some x) where
 go:=λi H' hi s=>⟨xs,_,aV.same s _ _ h,Oh hi⟩
 stop:=λH' s=>⟨xs,aV.same s _ _ h,Oi _⟩
 yld:=λi H' x H'' hi s y=>by obtain⟨rfl,hy⟩:=y;exact⟨aD.refl _,hy xs (aV.same s _ _ h)⟩
theorem oh{K:Of}{H:Hp}{a:Addr}{xs:List V}(h:bu K H a xs):JF (wW K a) H xs.length (λi v H'=>∃p x,v=.ref p/\xs[i]?=some x/\H' p=some (.tup [.int i,x])) where
 go:=λi H' hi s=>⟨xs,_,aV.same s _ _ h,Oh hi⟩
 stop:=λH' s=>⟨xs,aV.same s _ _ h,Oi _⟩
 yld:=λi H' x H'' hi s y=>by obtain⟨p,v,hp,rfl,rfl,hy⟩:=y;exact⟨ao hp _,p,v,Z,hy xs (aV.same s _ _ h),ag⟩
theorem tZ{K:Of}{H:Hp}{a:Addr}{xs:List V}(h:ba K H a xs):JF (wX K a) H xs.length (λi v H'=>∃p x,v=.ref p/\xs[i]?=some x/\H' p=some (.tup [.int i,x])) where
 go:=λi H' hi s=>⟨xs,_,s.seq h,Oh hi⟩
 stop:=λH' s=>⟨xs,s.seq h,Oi _⟩
 yld:=λi H' x H'' hi s y=>by obtain⟨p,v,hp,rfl,rfl,hy⟩:=y;exact⟨ao hp _,p,v,Z,hy xs (s.seq h),ag⟩
theorem da{J:It}{H:Hp}{D:Addr}{n:Nat}{P:Nat->V->Hp->Prop}(w:JF J H n P)(c:Nat->Bool)(f:Nat->V){src:List (Option Nat)}{σ:L2.St}{g:TG}{tt:TT}{te:TE}{Q:Hp->Prop}(hD:H D=none)(hn:n≤1000)
  (turn:∀(i:Nat) (x:V) (H':Hp),i<n->aD H H'->P i x H'->∀(R:VK) (E:Hp->Prop),(c i=true->∀H'',aD H' H''->R (f i) H'')->(c i=false->∀H'',aD H' H''->E H'')→
   g x (cc src σ) H' λσ2 H2=>gX (cc src σ) σ2/\tt σ2 H2 λok H3=>if ok=true then te σ2 H3 R else E H3)
  (fin:∀H',aD H H'->H' D=some (.lst (((Og n).filter c).map f))->Q H') :
  ∃W:Nat->Nat->List V->Hp->Prop,(∃m,W 0 m [] (upd H D (.lst [])))/\∀i m ys H,W i m ys H->(J.stop i H/\Q H)∨(J.go i H/\∀x H',J.yld i H x H'→
   g x (cc src σ) H' λσ2 H2=>gX (cc src σ) σ2/\tt σ2 H2 λok H3=>
    if ok=true then te σ2 H3 λy H4=>H4 D=some (.lst ys)/\ys.length<sizeLine/\∃m',m'<m/\W (i+1) m' (ys++[y]) (upd H4 D (.lst (ys++[y]))) else ∃m',m'<m/\W (i+1) m' ys H3):=by
 refine⟨λi m ys H'=>i≤n/\m=n-i/\ys=((Og i).filter c).map f/\aD H H'/\H' D=some (.lst ys),⟨_,ON _,Z,Z,ao hD _,ag⟩,?_⟩;rintro i m ys H1 ⟨hi,rfl,rfl,s1,d1⟩;by_cases hix:i<n
 ·refine .inr ⟨w.go i H1 hix s1,λx H2 y=>?_⟩;obtain⟨s2,p⟩:=w.yld i H1 x H2 hix s1 y;have d2:=s2 _ _ d1;have len:(((Og i).filter c).map f).length≤i:=by
   rw[Ol];exact OS (Py _ _) (by rw[PF];exact Oi _)
  refine turn i x H2 hix (s1.trans s2) p _ _ (λhc H3 s3=>?_) λhc H3 s3=>?_
  ·have d3:=s3 _ _ d2;refine⟨d3,bn (by omega),n-(i+1),by omega,hix,Z,?_,λb o q=>?_,ag⟩
   ·rw[PL,VX,PJ];simp[hc]
   ·rw[ay (aR q hD)];exact s3 _ _ (s2 _ _ (s1 _ _ q))
  ·refine⟨n-(i+1),by omega,hix,Z,?_,(s1.trans s2).trans s3,s3 _ _ d2⟩;rw[PL,VX,PJ];simp[hc]
 ·have e:i=n:=by omega
  subst e;exact .inl ⟨w.stop H1 s1,fin H1 s1 d1⟩
theorem fb{α β:Type}(d:α)(p:α->Bool)(f:α->β):∀l:List α,((Og l.length).filter λi=>p (l.getD i d)).map (λi=>f (l.getD i d))=(l.filter p).map f
 | []=>rfl
 |x::l=>by
  have ih:=fb d p f l;rw[Ph,UU,WI,WI];have e:(((Og l.length).map Nat.succ).filter λi=>p ((x::l).getD i d)).map (λi=>f ((x::l).getD i d))=(l.filter p).map f:=by
   rw[List.filter_map,Q4];exact ih
  show(if p x=true then _ else _:List Nat).map _=_
  cases hp:p x with
  |true=>
   simp only[if_true,O1];rw[e];rfl
  |false=>
   simp only[Sx,if_false];exact e
theorem dY{α β:Type}(d:α)(f:α->β)(l:List α):((Og l.length).filter λ_=>true).map (λi=>f (l.getD i d))=l.map f:=by
 have:=fb d (λ_=>true) f l;rw[this,Q0.mpr (by intros;rfl)]
theorem aB{α:Type}{l:List α}{i:Nat}{x:α}(d:α)(h:l[i]?=some x):l.getD i d=x:=by rw[Op,h];rfl
section
variable {prog:O0}{w:Pk}{A:O5}{E:Value->Om->Prop}{s:Om}
theorem qE(hl:s.heap.get? l=some { cls:=.type "list",dict:=none,data:=.seq items k,slots:=#[]})
  (hlo:-(2^63:Int)≤x) (hhi:x<2^63) (hsz:items.size*x.toNat≤2^24)
  (h:Q (.ref s.heap.objs.size) { s with heap:=s.heap.push { cls:=.type "list",data:=.seq (UV (λx1 x2=>x1++x2) #[] (Ou (if items.isEmpty=true then 0 else x.toNat) items))} }):
  OJ (OM prog w) A (RE .Mult (.ref l) (.int x u)) Q E s:=
 wpAny_binaryOp_repeat_ref (T := "list") (U := "int") (by decide) ⟨_,hl,Z⟩ (λs'=>Xf s' x u) noFill_list_mul F.fills_int_mul F.slot_int_rmul repeat_list F.slot_int_index.lookup
  (VQ F.slot_int_rmul (Xf s x u) F.entry_int_rmul (F.args_int_rmul_2 _ _) (int___rmul___int_list x u l items k)
   ⟨hl,Z,⟨_,hl,Z⟩,VQ F.slot_list_mul ⟨_,hl,Z⟩ F.entry_list_mul (F.args_list_mul_2 _ _)
    (AutoListH.list___mul___list_int_3 l items k x u (by simp[Pa.List.listFitsIndex];omega) (by omega) (by simp[Pa.List.listTooLong,sizeLine];omega))
    ⟨hl,h⟩⟩)
end
theorem qT(u:Value):∀(n:Nat) (acc:Array Value),(UV (λx1 x2=>x1++x2) acc (Ou n #[u])).toList=acc.toList++Ou n u
 |0,acc=>by simp
 |n+1,acc=>by
  rw[Q1,PB,qT u n,Q1];simp
theorem qc{v:V}{u:Value}(r:aZ v u):∀n:Nat,bc (Ou n v) (Ou n u)
 |0=>.nil
 |n+1=>.cons r (qc r n)
theorem uF:gh X (RE .Mult) (λx y H Q=>∃(p:Addr) (v:V) (n:Nat),x=.ref p/\y=.int n/\H p=some (.lst [v])/\n≤1000/\∀l,H l=none->Q (.ref l) (upd H l (.lst (Ou n v)))):=by
 intro pins s σ H x y xv yv Q I rx ry h;obtain⟨p,v,n,rfl,rfl,hp,hn,q⟩:=h
 cases(show xv=OP p from rx)
 obtain⟨t,rfl⟩:=(show ∃t,yv=Rj n t from ry);obtain⟨_,its,c,rv,e⟩:=(show ObjOk X.prog X.w H s.heap p (.lst [v]) from I.hok p _ hp)
 cases rv with
 | @cons _ u _ _ r0 rr=>
 cases rr
 refine qE e (by omega) (by omega) (by simp;omega) ?_;have el:(UV (λx1 x2=>x1++x2) #[] (Ou (if([u]:List Value).toArray.isEmpty=true then 0 else(n:Int).toNat) [u].toArray))=(Ou n u).toArray:=by
  apply Array.ext';have:=qT u n #[]
  simpa using this
 rw[el];have I2:Inv X pins σ (upd H s.heap.objs.size (.lst (Ou n v))) { s with heap:=s.heap.push { cls:=.type "list",data:=.seq (Ou n u).toArray} }:=
  I.laid (t':=s.toks) (λb o e=>On _ e) (Oi _) (show ObjOk X.prog X.w _ _ _ (.lst (Ou n v)) from⟨by rw[R3,Sz];omega,Ou n u,_,qc r0 n,OO _ Z⟩)
 exact⟨.ref s.heap.objs.size,_,I2,Z,q _ (I.hok.fresh (Oi _))⟩
theorem tD(hc:X.calm=true):df X (.type "list") (λxs H Q=>∃p,∃n:Nat,xs=[.ref p]/\H p=some (.rng 0 n)/\n≤1000/\∀l,H l=none->Q (.ref l) (upd H l (.lst ((upTo n).map V.int)))):=by
 intro pins s σ H xs us Q I r h;obtain⟨p,n,rfl,hp,hn,q⟩:=h;obtain⟨u,rfl,rx⟩:=gE r
 cases rx
 obtain⟨t,u,w,e⟩:=(show ObjOk X.prog X.w H s.heap p (.rng 0 n) from I.hok p _ hp);refine call_list_range (I.ok.hd hc) (show Vn s.heap p 0 n 1 t u w from e) (XA (by omega) (by omega) (by omega) (by omega)) (um n) (by omega) λh' tk acc c' hk hS hi=>?_
 have rv:=kK hi;have hl:(upTo n).length=n:=by unfold upTo;simp
 have I2:Inv X pins σ (upd H s.heap.objs.size (.lst ((upTo n).map V.int))) { s with heap:=h',toks:=tk}:=
  I.laid (t':=tk) hk (Oi _) (show ObjOk X.prog X.w _ _ _ (.lst ((upTo n).map V.int)) from⟨by rw[Ol,hl,Sz];omega,acc.toList,c',rv,by simpa using hS⟩)
 exact⟨.ref s.heap.objs.size,_,I2,Z,q _ (I.hok.fresh (Oi _))⟩
theorem mQ{X:Cx}{K:Of}(hK:X.K=K):gh X (Pz .NotIn) (LR K true):=hK▸o4
theorem Dc(t:Nat)(ls:List Nat):G2 (.int t) (ls.map λn:Nat=>V.int n)=ls.contains t:=by
 unfold G2;rw[Wm]
 induction ls with
 |nil=>rfl
 |cons a r ih=>
  rw[Q7,QH,ih]
  congr 1
  show decide (((a:Nat):Int)=(t:Nat))=(t==a);by_cases h:t=a
  ·subst h;simp
  ·rw[beq_eq_false_iff_ne.mpr h];exact decide_eq_false (by omega)
theorem AN(ls:List Nat):(ls.map λn:Nat=>V.int n).all jg=true:=by
 rw[List.all_map,Qj];intro x _;rfl
def DG(ds:List PyData):Prop:=∀e∈ds,e.canLay0=true/\e.depth≤32
def MU(K:Of):R2:=λx y H Q=>∃p xs ds d,y=.ref p/\ba K H p xs/\be K H xs ds/\DG ds/\bh K H x d/\d.canLay0=true/\Pn d d=true/\Q (.bl (ds.any λe=>Pn e d)) H
def J8(K:Of):R2:=λx y H Q=>∃p xs ds d,y=.ref p/\ba K H p xs/\be K H xs ds/\DG ds/\bh K H x d/\d.canLay0=true/\Pn d d=true/\Q (.bl (!ds.any λe=>Pn e d)) H
def LQ(K:Of):R2:=λx y H Q=>∃p xs ds d,y=.ref p/\bu K H p xs/\be K H xs ds/\DG ds/\bh K H x d/\d.canLay0=true/\Pn d d=true/\Q (.bl (ds.any λe=>Pn e d)) H
def Kb(K:Of):V->List V->Hp->VK->Prop:=λx vs H Q=>∃p xs ds w d,x=.ref p/\vs=[w]/\ba K H p xs/\be K H xs ds/\DG ds/\bh K H w d/\d.canLay0=true/\Pn d d=true/\(∃e∈ds,Pn e d=true)∧
 ∀(j:Nat) (e:PyData),ds[j]?=some e->Pn e d=true->(∀m f,m<j->ds[m]?=some f->Pn f d=false)->Q (.int j) H
def J9:V->List V->Hp->VK->Prop:=λx vs H Q=>∃(l:Addr) (xs:List V) (j:Nat) (y:V),x=.ref l/\vs=[.int j,y]/\H l=some (.lst xs)/\j≤xs.length/\xs.length<sizeLine/\Q .non (upd H l (.lst (xs.take j++y::xs.drop j)))
mutual
def G3:PyData->Bool
 | .int i=>decide (i.natAbs<2^230)
 | .tuple ds=>jJ ds
 | .list ds=>jJ ds
 | .dict _=>false
 |_=>true
def jJ:List PyData->Bool
 | []=>true
 |d::ds=>G3 d&&jJ ds
end
theorem l9:∀{ds:List PyData},jJ ds=true->∀d∈ds,G3 d=true
 |d::ds,h,e,he=>by
  have h':(G3 d&&jJ ds)=true:=h;rw[OA] at h';rcases Ov.mp he with rfl|he
  ·exact h'.1
  ·exact l9 h'.2 e he
theorem nM:∀{ds:List PyData},(∀d∈ds,d.canLay0=true)->Wo ds=true
 | [],_=>rfl
 |d::ds,h=>by
  show(d.canLay0&&Wo ds)=true;rw[h d Oq,nM λe he=>h e (Ot _ he)];rfl
structure Gd(k n:Nat)(d:PyData):Prop where
 sh:Sh k n d
 lay:d.canLay0=true
 bd:G3 d=true
def JC:PyData->R
 | .tuple [.int a,.int b]=>(a,b)
 |_=>(0,1)
def K3:PyData->R×R
 | .tuple [x,y]=>(JC x,JC y)
 |_=>su
end B
namespace B
open PySem PySem.Spec L2 PyProof.Rows
theorem wM(hc:X.calm=true):df X (.builtin "max") (λxs H Q=>∃(p:Addr) (ns:List Int),xs=[.ref p]/\ba X.K H p (ns.map V.int)/\0<ns.length/\∀M,M∈ns->(∀a∈ns,a≤M)->Q (.int M) H):=by
 intro pins s σ H xs us Q I r h;obtain⟨p,ns,rfl,hq,hne,q⟩:=h;obtain⟨u,rfl,rx⟩:=gE r
 cases rx
 obtain⟨its,rv,pl,hz⟩:=I.list hq;have hi:=kC rv;obtain⟨zs,ez⟩:=hi.allInts.items;have hl:=pl.isList;rw[ez] at hl;have en:numsOf its=ns:=hi.numsOf;rw[show its=its.toArray.toList from Z,ez,VI] at en;have hlen:zs.size=ns.length:=by rw[←en,Ol,Qv]
 refine max_intList (I.ok.hd hc) hl (by omega) λv h' tk hv hk=>?_
 obtain⟨t,rfl⟩:=intItems_at hv;obtain⟨h1,h2⟩:=argBest_gt (numAt zs) (zs.size-1);refine⟨.int _,H,I.kept (t':=tk) hk,⟨_,Z⟩,q _ ?_ λa ha=>?_⟩
 ·rw[Xp,en];exact getD_mem (by omega)
 ·rw[←en] at ha;obtain⟨j,hj,rfl⟩:=mem_getD ha;rw[Ol,Qv] at hj;rw[←Xp];exact h2 j (by omega)
theorem nV(hc:X.calm=true):df X (.builtin "min") (λxs H Q=>∃(p:Addr) (ns:List Int),xs=[.ref p]/\ba X.K H p (ns.map V.int)/\0<ns.length/\∀M,M∈ns->(∀a∈ns,M≤a)->Q (.int M) H):=by
 intro pins s σ H xs us Q I r h;obtain⟨p,ns,rfl,hq,hne,q⟩:=h;obtain⟨u,rfl,rx⟩:=gE r
 cases rx
 obtain⟨its,rv,pl,hz⟩:=I.list hq;have hi:=kC rv;obtain⟨zs,ez⟩:=hi.allInts.items;have hl:=pl.isList;rw[ez] at hl;have en:numsOf its=ns:=hi.numsOf;rw[show its=its.toArray.toList from Z,ez,VI] at en;have hlen:zs.size=ns.length:=by rw[←en,Ol,Qv]
 refine min_intList (I.ok.hd hc) hl (by omega) λv h' tk hv hk=>?_
 obtain⟨t,rfl⟩:=intItems_at hv;obtain⟨h1,h2⟩:=argBest_lt (numAt zs) (zs.size-1);refine⟨.int _,H,I.kept (t':=tk) hk,⟨_,Z⟩,q _ ?_ λa ha=>?_⟩
 ·rw[Xp,en];exact getD_mem (by omega)
 ·rw[←en] at ha;obtain⟨j,hj,rfl⟩:=mem_getD ha;rw[Ol,Qv] at hj;rw[←Xp];exact h2 j (by omega)
theorem Bb{J:It}{H:Hp}{D:Addr}{n:Nat}(Pv:Nat->List V->Hp->Prop){src:List (Option Nat)}{σ:L2.St}{g:TG}{tt:TT}{te:TE}{Q:Hp->Prop}(h0:Pv 0 [] (upd H D (.lst [])))
  (go:∀i ys H',i<n->Pv i ys H'->J.go i H') (stop:∀ys H',Pv n ys H'->J.stop n H'/\Q H')
  (turn:∀i ys H' x H'',i<n->Pv i ys H'->J.yld i H' x H''->∀(R:VK) (E:Hp->Prop),(∀y H4,H4 D=some (.lst ys)->ys.length<sizeLine->Pv (i+1) (ys++[y]) (upd H4 D (.lst (ys++[y])))->R y H4)->(∀H3,Pv (i+1) ys H3->E H3)→
   g x (cc src σ) H'' λσ2 H2=>gX (cc src σ) σ2/\tt σ2 H2 λok H3=>if ok=true then te σ2 H3 R else E H3) :
  ∃W:Nat->Nat->List V->Hp->Prop,(∃m,W 0 m [] (upd H D (.lst [])))/\∀i m ys H,W i m ys H->(J.stop i H/\Q H)∨(J.go i H/\∀x H',J.yld i H x H'→
   g x (cc src σ) H' λσ2 H2=>gX (cc src σ) σ2/\tt σ2 H2 λok H3=>
    if ok=true then te σ2 H3 λy H4=>H4 D=some (.lst ys)/\ys.length<sizeLine/\∃m',m'<m/\W (i+1) m' (ys++[y]) (upd H4 D (.lst (ys++[y]))) else ∃m',m'<m/\W (i+1) m' ys H3):=by
 refine⟨λi m ys H'=>i≤n/\m=n-i/\Pv i ys H',⟨_,ON _,Z,h0⟩,?_⟩;rintro i m ys H1 ⟨hi,rfl,p⟩;by_cases hix:i<n
 ·refine .inr ⟨go i ys H1 hix p,λx H2 y=>?_⟩;refine turn i ys H1 x H2 hix p y _ _ (λy H4 a b c=>⟨a,b,n-(i+1),by omega,hix,Z,c⟩) λH3 c=>⟨n-(i+1),by omega,hix,Z,c⟩
 ·have e:i=n:=by omega
  subst e;exact .inl (stop ys H1 p)
def ME(t:TS):TS:=λD σ H=>∃M:L2.St->Hp->Prop,t { D with nx:=M} σ H/\∀σ' H',M σ' H'->D.nx σ' H'
end B
namespace B
abbrev Ln:=Nat×Nat
inductive iy(es:List Ln):Nat->Nat->Prop where
 |one {a b:Nat} (h:(a,b)∈es):iy es a b
 |step {a b c:Nat} (h:(a,b)∈es) (t:iy es b c):iy es a c
theorem iy.trans(x:iy es a b)(y:iy es b c):iy es a c:=by
 induction x with
 |one h=>exact .step h y
 |step h _ ih=>exact .step h (ih y)
def tU(n:Nat)(es:List Ln):Prop:=∀e∈es,e.1<n/\e.2<n
def Ko(n:Nat)(es:List Ln)(L:Nat->Nat->Bool):Prop:=∀i j,i<n->j<n->(L i j=true↔iy es j i)
def Nc(L:Nat->Nat->Bool)(a b:Nat):Nat->Nat->Bool:=λi j=>L i j||((decide (i=b)||L i b)&&(decide (j=a)||L a j))
theorem Dt(n:Nat):Ko n [] (λ_ _=>false):=λi j _ _=>by
 constructor
 ·intro h;cases h
 ·intro h
  cases h with
  |one m=>cases m
  |step m _=>cases m
structure Rx(n:Nat)(es:List Ln)(v:Nat->Int)(ps:Nat->Nat)(r k:Nat)(F:Nat->Int):Prop where
 bas:∀i,i<n->v i≤F i
 att:∀i,i<n->∃j,j<n/\(j=i∨iy es j i)/\F i=v j
 don:∀i,i<n->ps i<r->∀j,j<n->(j=i∨iy es j i)->v j≤F i
 cur:∀m a b,m<k->es[m]?=some (a,b)->ps b≤r->∀j,j<n->(j=a∨iy es j a)->v j≤F b
def MJ(F:Nat->Int)(a b:Nat):Nat->Int:=λi=>if i=b then WO (F b) (F a) else F i
structure HR(n:Nat)(es:List Ln)(v:Nat->Int)(F:Nat->Int):Prop where
 up:∀i j,i<n->j<n->(j=i∨iy es j i)->v j≤F i
 att:∀i,i<n->∃j,j<n/\(j=i∨iy es j i)/\F i=v j
def BK(es:List Ln):List Ln:=es.map λe=>(e.2,e.1)
theorem uh:(a,b)∈BK es↔(b,a)∈es:=by
 unfold BK;rw[OD];constructor
 ·rintro⟨⟨x,y⟩,m,e⟩
  cases e
  exact m
 ·exact λm=>⟨_,m,Z⟩
theorem ug:iy (BK es) a b↔iy es b a:=by
 have f:∀{fs:List Ln} {a b:Nat},iy fs a b->iy (BK fs) b a:=λ{fs a b} h=>by
  induction h with
  |one m=>exact .one (uh.mpr m)
  |step m _ ih=>exact ih.trans (.one (uh.mpr m))
 have ss:BK (BK es)=es:=by unfold BK;rw[Q4];exact List.map_id' _
 exact⟨λh=>by have:=f h;rw[ss] at this;exact this,f⟩
end B
namespace B
open PySem PySem.Spec L2 PyProof.Rows
def JY(r r' r'':R2)(ta tb tc td:TE):TE:=λσ H Q=>ta σ H λx H1=>tb σ H1 λy H2=>r x y H2 λz H3=>∃k,z=.bl k∧
 (if k=true then tc σ H3 λw' H4=>r' y w' H4 λz' H5=>∃k',z'=.bl k'/\(if k'=true then td σ H5 λu' H6=>r'' w' u' H6 Q else Q (.bl false) H5) else Q (.bl false) H3)
section
variable {prog:O0}{w:Pk}{A:O5}{E:Value->Om->Prop}{s:Om}
end
def Mw(K:Of)(te:TE):TE:=λσ H Q=>te σ H λx H1=>∃a xs,x=.ref a/\bu K H1 a xs/\∀p,H1 p=none->Q (.ref p) (upd H1 p (.tup xs.reverse))
end B
namespace B
theorem qY{b:Int}(h:0<b):(0:Rat)<(b:Rat):=by
 have:=P5.mpr h;exact this
theorem kN(hr:0<r.2)(hq:0<q.2):dW r q=true↔val r<val q:=by
 rw[At,←P5,Pi,Pi];have h1:=qY hr;have h2:=qY hq;have e1:(r.1:Rat)=val r*(r.2:Rat):=by
  have:=cX hr;unfold val;generalize (r.1:Rat)=x at *;generalize (r.2:Rat)=y at *;grind
 have e2:(q.1:Rat)=val q*(q.2:Rat):=by
  have:=cX hq;unfold val;generalize (q.1:Rat)=x at *;generalize (q.2:Rat)=y at *;grind
 rw[e1,e2];generalize val r=x at *;generalize val q=y at *;generalize (r.2:Rat)=u at *;generalize (q.2:Rat)=v at *;have c:0<u*v:=Rat.mul_pos h1 h2;constructor
 ·intro h;have h':x*(u*v)<y*(u*v):=by grind
  by_cases w:x<y
  ·exact w
  ·have z:y≤x:=Rat.not_lt.mp w;have:=QJ z (QP c);grind
 ·intro h;have:=R7 h c;grind
theorem km(hr:0<r.2)(hq:0<q.2):dW r q=false↔val q≤val r:=by
 have a:=kN hr hq
 cases c:dW r q with
 |true=>
  have:=a.mp c;constructor
  ·intro z;cases z
  ·intro z;grind
 |false=>
  constructor
  ·intro _;by_cases w:val r<val q
   ·rw[a.mpr w] at c;cases c
   ·exact Rat.not_lt.mp w
  ·intro _;rfl
end B
namespace B
open PySem PySem.Spec L2 PyProof.Rows
def Oa(zs:List R):Prop:=zs.Pairwise λa b=>dW a b=true
end B
namespace L2
open PySem PySem.Spec PyProof.Rows
structure JK(k:Nat)(A:O5):Prop where
 dp:A.depth+3*k+5<recursionLimit
 un:A.units+16*k+200<cLine
 gd:A.guards=some []
structure Mi(P:O0)(w:Pk)(K:Of)(mg:OV->Option Value)(base:Oy)(CX:rH)(k:Nat)(f:Addr)(fd:Oo)(ps:List OV)(sp:Sp):Prop where
 len:∀vs H Q E,sp vs H Q E->vs.length=ps.length
 run:∀(A:O5) (outer:List W6) (s:Om) (H:Hp) (args:Args) (us:List Value) (vs:List V) (Q:VK) (E:XK),JK k A->rq P w K mg base A outer s H->UI s fd args (ps.zip us)->bc vs us->sp vs H Q E→
  Ro (OM P w) A (.call (.ref f) args) (CR CX outer P w H s Q E) s
def NT(CX:rH)(P:O0)(w:Pk)(K:Of)(mg:OV->Option Value)(base:Oy)(N:List OV)(qual:OV)(scope:Sf)(f:Addr)(cd:Value)(A:O5)(outer:List W6)(s:Om)(H:Hp)(E:XK):Cx:={ bC CX P w K mg base N qual scope f cd A outer s H E with calm:=false}
section
variable {X:Cx}{CX:rH}{k:Nat}{f C:Addr}{fd:Oo}{ps:List OV}{sp:Sp}{dvs:List V}{ds:List Value}{E:XK}{x m:OV}{p pos apos:R1}{e o:O3}{es:List O3}{ta:TE}{t:TA}
end
section
variable {P:O0}{w:Pk}{K:Of}{mg:OV->Option Value}{base:Oy}
end
end L2
namespace B
open PySem PySem.Spec L2 PyProof.Rows
section
set_option autoImplicit true
set_option relaxedAutoImplicit true
end
def JQ(d:Addr)(ob:P0)(kvs:List (dg×V)):It:=
 ⟨λi H=>H d=some (.frz ob (.dK kvs))/\i<kvs.length,
  λi H x H'=>∃p k v,H p=none/\x=.ref p/\kvs[i]?=some (k,v)/\H'=upd H p (.tup [kV k,v]),
  λi H=>H d=some (.frz ob (.dK kvs))/\kvs.length≤i⟩
theorem KV.get:∀{kvs:List (dg×V)} {vs:List (dg×Value)},KV kvs vs->∀{i:Nat} {k:dg} {v:V},kvs[i]?=some (k,v)->∃u,vs[i]?=some (k,u)/\aZ v u
 |_,_,.nil,i,k,v,h=>by simp at h
 | (a,b)::r,(c,d)::t,.cons h z,0,k,v,e=>by
  have e':(a,b)=(k,v):=by simpa using e
  cases e'
  obtain⟨h1,h2⟩:=h;have h1':a=c:=h1;subst h1';exact⟨d,Z,h2⟩
 |_::r,_::t,.cons h z,i+1,k,v,e=>by
  obtain⟨u,q,w⟩:=KV.get z (i:=i) (by simpa using e);exact⟨u,by simpa using q,w⟩
theorem Jr(h:l7 k u=true):aZ (kV k) u:=by
 rcases bU h with⟨i,t,rfl,rfl⟩ | ⟨x,t,rfl,rfl⟩
 ·exact⟨t,Z⟩
 ·exact⟨t,Z⟩
theorem G9:entryFor table "dict_itemiterator.__iter__"=some Pa.«dict_keyiterator.__iter__»:=
 entryFor_alias (by kernel_rfl) (by first|rfl|decide +kernel | (unfold String.splitOn;simp +decide [String.splitOnAux])) (by decide +kernel) (by kernel_rfl) (id' := "dict_keyiterator.__iter__")
theorem rL{P:O0}{w:Pk}{K:Of}{elts:List O3}{x1}{pos:R1}{it d:Addr}{ob:P0}{kvs:List (dg×V)}{es:Array Vo}{ep:Nat}(hob:ob.data=.dict es ep) :
  rn P w K (.Tuple elts x1 pos) (JQ d ob kvs) [it] it (λi h=>∃ok ov,IsItemIter h it d i kvs.length ep ok ov) where
 mem:=by simp
 obj:=λi h st c hc=>by
  obtain⟨ok,ov,e⟩:=st;rw[Ox] at hc;subst hc;exact⟨_,e,λv q=>by cases(show TX _=Vm v from q)⟩
 keep:=λi h h' ⟨ok,ov,e⟩ k=>⟨ok,ov,k it (by simp) _ e⟩
 item:=by
  intro X hP hw hK hc i pins s σ H E I hf st hg;subst hP hw hK;obtain⟨hd,hi⟩:=hg;obtain⟨ok,ov,e⟩:=st;obtain⟨q0,z,hds,vs,rel,o,es',ep',d1,d2,d3,d4⟩:=(show ObjOk X.prog X.w H s.heap d (.frz ob (.dK kvs)) from I.hok d _ hd);have eo:o=ob:=Pp (d1.symm.trans q0);subst eo;rw[hob] at d3
  cases d3
  have dat:s.heap.DictAt (bS X.prog X.w) d vs ep:=⟨o,es,d1,d2,hob,d4⟩;obtain⟨k,v,hkv'⟩:∃k v,kvs[i]?=some (k,v):=⟨(kvs[i]'hi).1,(kvs[i]'hi).2,Oh hi⟩;obtain⟨u,hu,ru⟩:=KV.get rel hkv';have ndi:it≠d:=λq=>by rw[q] at hf;have:=(hf d (by simp)).1;rw[hd] at this;cases this
  have itl:it<s.heap.objs.size:=OF e;rw[rel.length] at e;refine wpAny_pyNext_items_item e dat hu λkey h1 hkey eo tup hz hk=>⟨_,Z,wpAny_letOwnedTupleGo_items eo λh2 e2 sb=>?_⟩
  have nt:s.heap.objs.size≠it:=Rn itl;have P:ObjOk X.prog X.w (upd H s.heap.objs.size (.tup [kV k,v])) h2 s.heap.objs.size (.tup [kV k,v]):=
   ⟨by show 2≤sizeLine;decide,[key,u],.cons (Jr hkey) (.cons ru .nil),⟨_,sb.extBut _ _ nt tup,Z,_,Z⟩⟩
  have I2:Inv X pins σ (upd H s.heap.objs.size (.tup [kV k,v])) { s with heap:=h2,toks:=s.toks}:=om I (λc o' n q=>by
   have n':c≠it:=λr=>n (by simp[r])
   exact sb.extBut _ _ n' (hk c o' n' q)) hf (Oi _) P
  refine⟨.ref s.heap.objs.size,_,I2,Z,⟨_,k,v,I.fresh,Z,hkv',Z⟩,⟨key,u,by rw[rel.length];exact e2⟩,λc hc=>?_⟩;have hc':c=it:=by simpa using hc
  rw[hc',ay (Rw nt)];exact(hf it (by simp)).1
 done:=by
  intro X hP hw hK hc i pins s σ H E I hf st hg;subst hP hw hK;obtain⟨hd,hi⟩:=hg;obtain⟨ok,ov,e⟩:=st;obtain⟨q0,z,hds,vs,rel,o,es',ep',d1,d2,d3,d4⟩:=(show ObjOk X.prog X.w H s.heap d (.frz ob (.dK kvs)) from I.hok d _ hd);have eo:o=ob:=Pp (d1.symm.trans q0);subst eo;rw[hob] at d3
  cases d3
  have dat:s.heap.DictAt (bS X.prog X.w) d vs ep:=⟨o,es,d1,d2,hob,d4⟩;have hh:X.A.in1.handled=none:=I.ok.hd hc;rw[rel.length] at e hi;refine wpAny_pyNext_items_end hh e dat (QF hi) λh1 ex=>⟨Z,?_⟩
  exact oo (t':=s.toks) I (λc o' n q=>ex c o' (λr=>n (by simp[r])) q) hf
 self:=λA i s Q E st h=>by
  obtain⟨ok,ov,e⟩:=st;have hT:s.TypeIs (.ref it) "dict_itemiterator" := ⟨_,e,Z⟩;refine wpAny_pyIter_slot hT Sq (Q9 Sq hT G9 ?_ (PySem.F.args_dict_itemiterator_iter_1 _));show OJ _ _ (ret (.ref it)) _ _ s;exact OC ⟨_,Z,"dict_itemiterator",_,hT,PySem.F.slot_dict_itemiterator_next.lookup,h⟩
def AC(td:TE):TI:=λσ H R=>td σ H λx H1=>∃d kvs,x=.ref d/\H1 d=some (.dK kvs)/\∀ob,R (JQ d ob kvs) (upd H1 d (.frz ob (.dK kvs)))
theorem zL{X:Cx}{elts:List O3}{x1}{tp apos pos:R1}{o:O3}{td:TE}(ho:PE X o td)(hb:Q6 o "items" X.env (eval o X.env)=eval o X.env:=by rfl)(hl:(apos.endLine==pos.line)=true:=by rfl) :
  PI X (.Tuple elts x1 tp) (.Call (.Attribute o "items" apos) [] [] pos) (AC td):=by
 intro pins s σ H R I h;refine Wj (T := "dict") (id := "dict.items") hb Z hl Uu Uv PySem.F.type_dict_items (bK (ho pins s σ H _ I h) λu s1 ⟨x,H1,I1,rx,d,kvs,ex,e,q⟩=>?_);subst ex;obtain rfl:u=OP d:=rx;obtain⟨z,hds,vs,rel,dd⟩:=Eu I1.hok e;obtain⟨t1,t2,_⟩:=AA I1 (.inl ⟨kvs,.inl e⟩);refine⟨t1,t2,?_⟩;show OJ _ _ (V8 pos (.builtin "dict.items") [.ref d] [] []) _ _ _;refine method_meetsIn Uv PySem.F.entry_dict_items Z (PySem.evalArgs_none ⟨Z,t1,PySem.F.args_dict_items_1 _,_,meets_dict_items (bS X.prog X.w) d hds,⟨vs,dd⟩,?_⟩);obtain⟨o',es,ep,d1,d2,d3,d4⟩:=id dd;have dat:s1.heap.DictAt (bS X.prog X.w) d vs ep:=⟨o',es,d1,d2,d3,d4⟩;refine wpAny_pyIter_items (d:=d) (kvs:=vs) (ep:=ep) ⟨_,OO _ Z,Z,Z⟩ (dat.push _) ?_;have sz:(s1.heap.push { cls:=.type "dict_items",data:=.fields #[.ref d]}).objs.size=s1.heap.objs.size+1:=QQ ..;have I2:=I1.kept (t':=s1.toks) (h':=(s1.heap.push { cls:=.type "dict_items",data:=.fields #[.ref d]}).push { cls:=.type "dict_itemiterator",data:=.fields #[.none,.bool false,.ref d,.int 0 0,.int vs.length 0,.int ep 0,.none,.none]}) λb o q=>On _ (On _ q)
 have hit:=OO (s1.heap.push { cls:=.type "dict_items",data:=.fields #[.ref d]}) (o:={ cls:=.type "dict_itemiterator",data:=.fields #[.none,.bool false,.ref d,.int 0 0,.int vs.length 0,.int ep 0,.none,.none]}) Z;have dl:d<s1.heap.objs.size:=OF d1;have k2:∀b o,s1.heap.get? b=some o->((s1.heap.push { cls:=.type "dict_items",data:=.fields #[.ref d]}).push { cls:=.type "dict_itemiterator",data:=.fields #[.none,.bool false,.ref d,.int 0 0,.int vs.length 0,.int ep 0,.none,.none]}).get? b=some o:=λb o q=>On _ (On _ q)
 generalize (s1.heap.push { cls:=.type "dict_items",data:=.fields #[.ref d]}).push { cls:=.type "dict_itemiterator",data:=.fields #[.none,.bool false,.ref d,.int 0 0,.int vs.length 0,.int ep 0,.none,.none]}=hE at I2 hit k2 ⊢;rw[sz] at hit ⊢;have I3:=pO (h':=hE) (t':=s1.toks) (ob:=.frz o' (.dK kvs)) I2 (by rw[e];exact Rb) ⟨Z,λ_ _=>Z⟩ ⟨_,k2 _ _ d1⟩ ⟨k2 _ _ d1,z,hds,vs,rel,o',es,ep,k2 _ _ d1,d2,d3,d4⟩;have nd:s1.heap.objs.size+1≠d:=Rn (T4 dl);refine⟨_,[s1.heap.objs.size+1],_,_,_,Z,I3,rL d3,⟨.none,.none,by rw[rel.length];exact hit⟩,λc hc=>?_,q o'⟩;have hc':c=s1.heap.objs.size+1:=by simpa using hc
 subst hc';exact I1.fpOk (Qw _) (by rw[ay nd];exact I1.hok.fresh (Qw _))
theorem nP{d:Addr}{ob:P0}{kvs:List (dg×V)}{g:TG}{tb:TS}{D:io}{σ:L2.St}{H:Hp}(Pv:Nat->L2.St->Hp->Prop)(h0:Pv 0 σ H)
  (hl:∀i σ H,Pv i σ H->H d=some (.frz ob (.dK kvs)))
  (hs:∀i k v p σ H,kvs[i]?=some (k,v)->Pv i σ H->H p=none->g (.ref p) σ (upd H p (.tup [kV k,v])) λσ2 H2=>tb { D with nx:=Pv (i+1),ct:=Pv (i+1),bk:=D.nx} σ2 H2) (hd:∀σ H,Pv kvs.length σ H->D.nx σ H) :
  ∃W:Nat->Nat->L2.St->Hp->Prop,(∃m,W 0 m σ H)/\∀i m σ H,W i m σ H→
   ((JQ d ob kvs).stop i H/\D.nx σ H)∨((JQ d ob kvs).go i H/\∃N:L2.St->Hp->Prop,(∀σ' H',N σ' H'->∃m',m'<m/\W (i+1) m' σ' H')/\∀x H',(JQ d ob kvs).yld i H x H'->g x σ H' λσ2 H2=>tb { D with nx:=N,ct:=N,bk:=D.nx} σ2 H2):=by
 refine⟨λi m σ H=>m=kvs.length-i/\i≤kvs.length/\Pv i σ H,⟨_,Z,ON _,h0⟩,?_⟩;rintro i m σ H ⟨rfl,hi,p⟩;have q:=hl i σ H p;by_cases hlt:i<kvs.length
 ·refine .inr ⟨⟨q,hlt⟩,Pv (i+1),λσ' H' p'=>⟨kvs.length-(i+1),by omega,Z,hlt,p'⟩,λx H' y=>?_⟩;obtain⟨pp,k,v,hp,rfl,hkv,rfl⟩:=y;exact hs i k v pp σ _ hkv p hp
 ·have e:i=kvs.length:=by omega
  subst e;exact .inl ⟨⟨q,Oi _⟩,hd σ H p⟩
def mS(ps:List (Int×Int)):List (dg×V):=ps.map λp=>(Qn p.1,V.int p.2)
def rN:List (Int×Int)->Int->Int
 | [],_=>0
 | (c,u)::r,b=>if c=b then u else rN r b
def fX:List (Int×Int)->Int->Int->List (Int×Int)
 | [],b,t=>[(b,0+t)]
 | (c,u)::r,b,t=>if c=b then(c,u+t)::r else(c,u)::fX r b t
theorem zt{p:dg×V}(e:p.1=k)(n:∀q∈r,q.1≠k):gm (p:: r) k v=(k,v):: r:=by
 unfold gm;rw[if_pos (by simp[e]),O1,if_pos e,e]
 congr 1
 exact(Vy (g:=id) (λq hq=>by rw[if_neg (n q hq)];rfl)).trans (List.map_id r)
theorem vP{p:dg×V}(e:¬p.1=k):gm (p:: r) k v=p:: gm r k v:=by
 unfold gm;rw[Q7,decide_eq_false e,Ud]
 split
 ·rw[O1,if_neg e]
 ·rfl
theorem pJ:∀(ps:List (Int×Int)) (b:Int),(ju (mS ps) (Qn b)).getD (V.int 0)=V.int (rN ps b)
 | [],b=>rfl
 | (c,u)::r,b=>by
  show(ju ((Qn c,V.int u)::mS r) (Qn b)).getD (V.int 0)=V.int (if c=b then u else rN r b);by_cases e:c=b
  ·rw[if_pos e,iS (by rw[e])];rfl
  ·rw[if_neg e,iT (λz=>e (by injection z)),pJ r b]
theorem oX:∀(ps:List (Int×Int)) (b t:Int),(ps.map (·.1)).Nodup->gm (mS ps) (Qn b) (V.int (rN ps b+t))=mS (fX ps b t)
 | [],b,t,_=>rfl
 | (c,u)::r,b,t,nd=>by
  have nd':=Pw.mp nd;show gm ((Qn c,V.int u)::mS r) (Qn b) (V.int ((if c=b then u else rN r b)+t))=mS (if c=b then(c,u+t)::r else(c,u)::fX r b t);by_cases e:c=b
  ·rw[if_pos e,if_pos e,zt (by rw[e]) (λq hq z=>?_)]
   ·show _=(Qn c,V.int (u+t))::mS r;rw[e]
   ·obtain⟨p,hp,rfl⟩:=OD.mp hq;have z':p.1=b:=by injection z
    exact nd'.1 (OD.mpr ⟨p,hp,z'.trans e.symm⟩)
  ·rw[if_neg e,if_neg e,vP (λz=>e (by injection z)),oX r b t nd'.2];rfl
def iD:List (Int×Int)->Rat
 | []=>0
 |p::r=>(p.2:Rat)/(p.1:Rat)+iD r
theorem DD{a b c:Rat}:(a+b)/c=a/c+b/c:=by rw[WS,WS,WS,Rat.add_mul]
theorem kT:∀(ps:List (Int×Int)) (b t:Int),iD (fX ps b t)=iD ps+(t:Rat)/(b:Rat)
 | [],b,t=>by
  show((0+t:Int):Rat)/(b:Rat)+0=0+(t:Rat)/(b:Rat);rw[UW];grind
 | (c,u)::r,b,t=>by
  show iD (if c=b then(c,u+t)::r else(c,u)::fX r b t)=(u:Rat)/(c:Rat)+iD r+(t:Rat)/(b:Rat);by_cases e:c=b
  ·rw[if_pos e];show((u+t:Int):Rat)/(c:Rat)+iD r=_;rw[U5,DD,e];grind
  ·rw[if_neg e];show(u:Rat)/(c:Rat)+iD (fX r b t)=_;rw[kT r b t];grind
theorem jv:∀(ps:List (Int×Int)) (p:Int×Int),iD (ps++[p])=iD ps+(p.2:Rat)/(p.1:Rat)
 | [],p=>by show(p.2:Rat)/(p.1:Rat)+0=0+_;grind
 |q::r,p=>by
  show(q.2:Rat)/(q.1:Rat)+iD (r++[p])=(q.2:Rat)/(q.1:Rat)+iD r+_;rw[jv r p];grind
structure ki(n i:Nat)(ps:List (Int×Int)):Prop where
 nd:(ps.map (·.1)).Nodup
 len:ps.length≤i
 bot:∀p∈ps,0<p.1/\p.1.natAbs<2^n
 top:∀p∈ps,p.2.natAbs≤i*2^n
theorem jp:∀(ps:List (Int×Int)) (b t:Int) (c:Int),c∈(fX ps b t).map (·.1)↔c∈ps.map (·.1)∨c=b
 | [],b,t,c=>by simp[fX]
 | (d,u)::r,b,t,c=>by
  show c∈(if d=b then(d,u+t)::r else(d,u)::fX r b t).map (·.1)↔_;by_cases e:d=b
  ·rw[if_pos e];constructor
   ·intro h;exact .inl h
   ·rintro (h|h)
    ·exact h
    ·exact Ov.mpr (.inl (h.trans e.symm))
  ·rw[if_neg e,O1,O1,Ov,Ov,jp r b t c];exact or_assoc.symm
theorem Bh:∀(ps:List (Int×Int)) (b t:Int),(ps.map (·.1)).Nodup->((fX ps b t).map (·.1)).Nodup
 | [],b,t,_=>by simp[fX]
 | (d,u)::r,b,t,nd=>by
  have nd':=Pw.mp nd;show((if d=b then(d,u+t)::r else(d,u)::fX r b t).map (·.1)).Nodup;by_cases e:d=b
  ·rw[if_pos e];exact nd
  ·rw[if_neg e,O1,Pw];refine⟨λz=>?_,Bh r b t nd'.2⟩;rcases(jp r b t d).mp z with h|h
   ·exact nd'.1 h
   ·exact e h
theorem u9:∀(ps:List (Int×Int)) (b t:Int),(fX ps b t).length≤ps.length+1
 | [],b,t=>Oi 1
 | (d,u)::r,b,t=>by
  show(if d=b then(d,u+t)::r else(d,u)::fX r b t).length≤_
  split
  ·exact Qw _
  ·exact Se (u9 r b t)
theorem u8:∀(ps:List (Int×Int)) (b t:Int) (M N:Nat),(∀p∈ps,p.2.natAbs≤M)->t.natAbs≤N->∀p∈fX ps b t,p.2.natAbs≤M+N
 | [],b,t,M,N,_,ht,p,hp=>by
  have e:p=(b,0+t):=by simpa [fX] using hp
  rw[e];show(0+t).natAbs≤M+N;omega
 | (d,u)::r,b,t,M,N,h,ht,p,hp=>by
  have hu:u.natAbs≤M:=h (d,u) Oq;have hr:∀q∈r,q.2.natAbs≤M:=λq hq=>h q (Ot _ hq)
  have hp':p∈(if d=b then(d,u+t)::r else(d,u)::fX r b t):=hp
  split at hp'
  ·rcases Ov.mp hp' with e|e
   ·rw[e];show(u+t).natAbs≤M+N;omega
   ·have:=hr p e;omega
  ·rcases Ov.mp hp' with e|e
   ·rw[e];show u.natAbs≤M+N;omega
   ·exact u8 r b t M N hr ht p e
theorem ki.add(h:ki n i ps)(w:Wf n r):ki n (i+1) (fX ps r.2 r.1) where
 nd:=Bh ps r.2 r.1 h.nd
 len:=OS (u9 ps r.2 r.1) (Se h.len)
 bot:=λp hp=>by
  rcases(jp ps r.2 r.1 p.1).mp (OD.mpr ⟨p,hp,Z⟩) with z|z
  ·obtain⟨q,hq,e⟩:=OD.mp z;rw[←e];exact h.bot q hq
  ·rw[z];exact⟨w.pos,w.bot⟩
 top:=λp hp=>by
  have:=u8 ps r.2 r.1 (i*2^n) (2^n) h.top (RK w.top) p hp;rw[WR,Nat.one_mul];exact this
theorem ki.nil(n:Nat):ki n 0 []:=⟨SK,Oi _,(λ_ h=>nomatch h),(λ_ h=>nomatch h)⟩
theorem ki.wf(h:ki n i ps)(hi:i≤255)(hp:p∈ps):Wf (n+8) (dZ p.2 p.1):=by
 refine GN (h.bot p hp).1 ?_ (OI (h.bot p hp).2 (P4 (by decide) (by omega)));have a:=h.top p hp;have b:i*2^n≤255*2^n:=QR _ hi;have c:0<2^n:=WT (by decide);rw[WU];omega
def iA:List R->Rat
 | []=>0
 |r::t=>val r+iA t
theorem jt:∀(rs:List R) (r:R),iA (rs++[r])=iA rs+val r
 | [],r=>by show val r+0=0+val r;grind
 |q::t,r=>by show val q+iA (t++[r])=val q+iA t+val r;rw[jt t r];grind
theorem qf:∀(rs:List R) (acc:R),iP acc->(∀r∈rs,iP r)->iP (rs.foldl cn acc)/\val (rs.foldl cn acc)=val acc+iA rs
 | [],acc,ha,_=>⟨ha,by show val acc=val acc+0;grind⟩
 |r::t,acc,ha,h=>by
  have hr:=h r Oq;obtain⟨a,b⟩:=qf t (cn acc r) (zI ha hr) λq hq=>h q (Ot _ hq)
  refine⟨a,?_⟩;rw[PB,b,iR ha.pos hr.pos];show val acc+val r+iA t=val acc+(val r+iA t);grind
theorem gi:val (0,1)=0:=by decide +kernel
theorem sw:iP (0,1):=⟨by decide,by decide⟩
theorem ol(h:∀r∈rs,iP r):iP (oA rs)/\val (oA rs)=iA rs:=by
 obtain⟨a,b⟩:=qf rs (0,1) sw h;refine⟨a,b.trans ?_⟩;rw[gi];grind
theorem xG(h:∀r∈rs,iP r)(hx:iP x)(e:val x=iA rs):x=oA rs:=
 gZ hx (ol h).1 (e.trans (ol h).2.symm)
theorem Wf.red(h:Wf n r):iP r:=⟨h.pos,h.cop⟩
section
set_option autoImplicit true
set_option relaxedAutoImplicit true
theorem zq   : QE X (.Dict [] [] pos) xz:=⟨zU ⟩
theorem zr(hu:X.A.units+1<cLine)(ho:QE X o td)(he:QE X e ty)(hf:QE X f tx)(m:M2 X o "get" apos e f cpos):QE X (.Call (.Attribute o "get" apos) [e,f] [] cpos) (xB td ty tx):=⟨zV hu ho.p he.p hf.p m⟩
theorem Cj(hu:X.A.units+1<cLine)(ho:QE X o td)(hi:QE X i ty)(hv:QE X value tv)(hs:QV value (some (.Subscript o i pos')) pos.line X.env=Qm false):QS X (.Assign [.Subscript o i pos'] value pos) (DZ td ty tv):=⟨Cv hu ho.p hi.p hv.p hs⟩
theorem zm{X:Cx}{elts:List O3}{x1}{tp apos pos:R1}{o:O3}{td:TE}(ho:QE X o td)(hb:Q6 o "items" X.env (eval o X.env)=eval o X.env:=by rfl)(hl:(apos.endLine==pos.line)=true:=by rfl):QI X (.Tuple elts x1 tp) (.Call (.Attribute o "items" apos) [] [] pos) (AC td):=⟨zL ho.p hb hl⟩
end
end B
namespace B
abbrev Pl:=Nat×Nat
def bO(p:Pl):Int:=(p.2:Int)-p.1+1
def tY(p q:Pl):Prop:=p.1<q.1∨(p.1=q.1/\q.2≤p.2)
structure pU(S:Pl->Prop)(L:Pl->Int)(p:Pl):Prop where
 inn:S p
 all:∀q,S q->L q*bO p<L p*bO q∨(L q*bO p=L p*bO q/\tY p q)
def im(n:Nat)(p:Pl):Prop:=p.1≤p.2/\p.2<n
theorem im.pos(h:im n p):0<bO p:=by unfold bO;have:=h.1;omega
theorem pU.scale(ha:0<a)(hb:0<b)(e:∀q,M q*a=L q*b)(h:pU S L p):pU S M p:=by
 refine⟨h.inn,λq hq=>?_⟩;have k1:(M q*bO p)*a=(L q*bO p)*b:=by rw[QK,e,QK]
 have k2:(M p*bO q)*a=(L p*bO q)*b:=by rw[QK,e,QK]
 rcases h.all q hq with z | ⟨z,o⟩
 ·refine .inl (TN (a:=a) ?_ (Qg ha));rw[k1,k2];exact Tq z hb
 ·refine .inr ⟨Sb (Int.ne_of_gt ha) ?_,o⟩;rw[k1,k2,z]
theorem Dk{l p q lr lp lq:Int}(hr:0<lr)(hp:0<lp)(hq:0<lq)(h1:l*lp≤p*lr)(h2:p*lq<q*lp):l*lq<q*lr:=by
 refine TN (a:=lp) ?_ (Qg hp);have a1:l*lq*lp=l*lp*lq:=QK _ _ _;have a2:q*lr*lp=q*lp*lr:=QK _ _ _;have b1:l*lp*lq≤p*lr*lq:=SV h1 (Qg hq);have b2:p*lr*lq=p*lq*lr:=QK _ _ _;have b3:p*lq*lr<q*lp*lr:=Tq h2 hr;omega
theorem pU.more(h:pU S L p)(st:∀r,S' r->im n r)(e:∀r,S' r↔S r∨r=q)(gt:L p*bO q<L q*bO p):pU S' L q:=by
 have iq:S' q:=(e q).mpr (.inr Z);have ip:S' p:=(e p).mpr (.inl h.inn);refine⟨iq,λr hr=>?_⟩;rcases(e r).mp hr with z|z
 ·refine .inl (Dk (st r hr).pos (st p ip).pos (st q iq).pos ?_ gt);rcases h.all r z with z | ⟨z,_⟩
  ·exact Qg z
  ·exact Int.le_of_eq z
 ·subst z;exact .inr ⟨Z,.inr ⟨Z,Oi _⟩⟩
theorem pU.stay(h:pU S L p)(e:∀r,S' r↔S r∨r=q)(le:L q*bO p≤L p*bO q)(o:tY p q∨L q*bO p≠L p*bO q):pU S' L p:=by
 refine⟨(e p).mpr (.inl h.inn),λr hr=>?_⟩;rcases(e r).mp hr with z|z
 ·exact h.all r z
 ·subst z;by_cases c:L r*bO p=L p*bO r
  ·rcases o with o|o
   ·exact .inr ⟨c,o⟩
   ·exact absurd c o
  ·exact .inl (by omega)
theorem pU.congr(h:pU S L p)(e:∀r,S' r↔S r):pU S' L p:=⟨(e p).mpr h.inn,λq hq=>h.all q ((e q).mp hq)⟩
def gg(n b e:Nat)(p:Pl):Prop:=im n p/\(p.1<b∨(p.1=b/\e≤p.2))
def Me(n b e:Nat)(p:Pl):Prop:=im n p/\(p.1<b∨(p.1=b/\p.2<e))
theorem rW(h1:b≤e)(h2:e<n)(r:Pl):gg n b e r↔gg n b (e+1) r∨r=(b,e):=by
 obtain⟨x,y⟩:=r;unfold gg im;rw[Prod.mk.injEq];show(x≤y/\y<n)/\_↔((x≤y/\y<n)/\_)∨_;simp only;omega
theorem rX(r:Pl):gg n (b+1) n r↔gg n b b r:=by
 obtain⟨x,y⟩:=r;unfold gg im;simp only;omega
theorem vG(r:Pl):im n r↔gg n n n r:=by
 obtain⟨x,y⟩:=r;unfold gg im;simp only;omega
abbrev Wn:=Option (Nat×Nat)
def gw(b e:Nat):Wn->Bool
 |none=>false
 |some (x,y)=>decide (b≤x)&&decide (y≤e)
def cr(ws:List Wn)(p:Pl):List Nat:=(Og ws.length).filter λi=>gw p.1 p.2 (ws.getD i none)
def dj(ws:List Wn)(A:Nat->Int)(p:Pl):Int:=((cr ws p).map A).sum
theorem iE{A:Nat->Int}(h:∀i,0≤A i):∀l:List Nat,0≤(l.map A).sum
 | []=>T5 _
 |x::l=>by
  rw[O1,Sr];have:=h x;have:=iE h l;omega
theorem nh{A C:Nat->Int}{a b:Int}:∀l:List Nat,(∀i∈l,C i*a=A i*b)->(l.map C).sum*a=(l.map A).sum*b
 | [],_=>by simp
 |x::l,h=>by
  rw[O1,Sr,O1,Sr,Vh,Vh,h x Oq,nh l λi hi=>h i (Ot _ hi)]
end B
namespace B
open PySem PySem.Spec L2 PyProof.Rows
def o6(ns:List Int):List Int:=ns.foldl step_dedup []
def LO(K:Of):List V->Hp->VK->Prop:=λxs H Q=>∃p ns,xs=[.ref p]/\ba K H p (ns.map V.int)/\ns.length≤1000/\∀l,H l=none->Q (.ref l) (upd H l (.set (λk=>(o6 ns).any (·==k)) (o6 ns).length))
def LP:List V->Hp->VK->Prop:=λxs H Q=>∃p S n,xs=[.ref p]/\H p=some (.set S n)/\Q (.int n) H
def K8(xs:Array Nat):Prop:=∀i j (_:i<j) (hj:j<xs.size),xs[i]'(by omega)<xs[j]
def K7(t:SetTable):Prop:=t.plain=true->t.dummies=#[]/\K8 t.place
section
variable {prog:O0}{w:Pk}{A:O5}{E:Value->Om->Prop}{s:Om}
def Kv:Value->Int
 | .int n _=>n
 |_=>0
def Hs(w:Pk)(h:Oy)(a:Addr)(ks:List Int):Prop:=∃o es ep t,h.get? a=some o/\o.ExactSet/\o.data=.set es ep t/\(∀e∈es.toList,∃n u,e=(hashInt n,Rj n u))∧
 (es.toList.map λe=>Kv e.2).Perm ks/\t.fits es.size=true/\K7 t/\t.led=!w.params.followText "set-order"
end
section
variable {prog:O0}{w:Pk}{A:O5}{E:Value->Om->Prop}{s:Om}
def HP(w:Pk):P0:={ cls:=.type "set",dict:=none,data:=.set #[] 0 (.fresh 0 0 (!w.params.followText "set-order"))}
variable {R:WC->Om->Prop}{I:Addr}{fp wr:List Addr}{G:Array GenState->Array GenState->Prop}{n:Nat}{P:Nat->Value->Prop}{St:Nat->Om->Prop}
end
section
variable {prog:O0}{w:Pk}{A:O5}{E:Value->Om->Prop}{s:Om}
end
namespace FS
end FS
section
variable {prog:O0}{w:Pk}{A:O5}{E:Value->Om->Prop}{s:Om}
def MI(first:Value)(i:Nat)(a:Addr)(n ep:Nat):P0:={ cls:=.type "set_iterator",data:=.fields #[first,.int i 0,.ref a,.int n 0,.int ep 0]}
end
end B
namespace B
open PySem PySem.Spec L2 PyProof.Rows
section
variable {prog:O0}{w:Pk}{A:O5}{E:Value->Om->Prop}{s:Om}
end
section
variable {prog:O0}{w:Pk}{A:O5}{E:Value->Om->Prop}{s:Om}
def K6(prog:O0)(w:Pk)(a:Addr)(ks:List Int)(s:Om)(It:Addr)(s1:Om):Prop:=
 ∃(fp:List Addr) (items:Array Value) (St:Nat->Om->Prop),(∀A':O5,A'.handled=none->WalksS prog w A' It fp [It] (λa b=>b=a) items.size (λi v=>items[i]?=some v) St)/\St 0 s1/\It∈fp/\(∀b∈fp,b<s1.heap.objs.size/\(b=a∨s.heap.objs.size≤b))∧
  s.heap.objs.size≤It/\∃ms,Vp items.toList ms/\ms.Perm ks
def LI(t:SetTable):Nat->Nat
 |0=>0
 |k+1=>t.place.getD k 0+1
end
def LS(K:Of):V->List V->Hp->VK->Prop:=λx vs H Q=>∃l b xs zs,x=.ref l/\vs=[.ref b]/\H l=some (.lst xs)/\bu K H b zs/\xs.length+zs.length≤1000/\Q .non (upd H l (.lst (xs++zs)))
def LM(K:Of):List V->Hp->VK->Prop:=λxs H Q=>∃p ns,xs=[.ref p]/\(ba K H p (ns.map V.int)∨bu K H p (ns.map V.int))/\ns.length<64/\∀(l:Addr) (ms:List Int),ms.Perm ns->ms.Pairwise (·≤·)->H l=none->Q (.ref l) (upd H l (.lst (ms.map V.int)))
section
variable {prog:O0}{w:Pk}{A:O5}{E:Value->Om->Prop}{s:Om}
end
def IB(w:Pk)(a:Addr)(ks:List Int):HO:=.ext λh=>Hs w h a ks
def LN(w:Pk)(K:Of):List V->Hp->VK->Prop:=λxs H Q=>∃p ns,xs=[.ref p]/\(ba K H p (ns.map V.int)∨bu K H p (ns.map V.int))/\ns.length≤1000/\∀l,H l=none->Q (.ref l) (upd H l (IB w l (o6 ns)))
def KG(w:Pk):List V->Hp->VK->Prop:=λxs H Q=>∃p ks,xs=[.ref p]/\H p=some (IB w p ks)/\ks.length<64/\∀(l:Addr) (ms:List Int),ms.Perm ks->ms.Pairwise (·≤·)->H l=none->Q (.ref l) (upd H l (.lst (ms.map V.int)))
def Lu(ta:TA):TE:=λσ H Q=>ta σ H λvs H1=>∃i j:Int,vs=[.int i,.int j]/\∀p,H1 p=none->Q (.ref p) (upd H1 p (.rng i j))
def J7:R2:=λx y H Q=>∃(i:Int) (p:Addr) (lo hi:Int),x=.int i/\y=.ref p/\H p=some (.rng lo hi)/\Q (.bl (!(decide (lo≤i)&&decide (i<hi)))) H
section
set_option autoImplicit true
set_option relaxedAutoImplicit true
end
def JA(lo n:Nat):List Nat:=(Og n).map λi=>lo+i
def MS:List V->Hp->VK->Prop:=λxs H Q=>∃p,∃lo n:Nat,xs=[.ref p]/\H p=some (.rng (lo:Int) ((lo+n:Nat):Int))/\lo+n≤1000/\∀l,H l=none->Q (.ref l) (upd H l (.lst ((JA lo n).map λi:Nat=>V.int i)))
theorem wI{α β:Type}{K:Of}{H:Hp}{D a:Addr}{xs:List V}{ds:List α}{P:Hp->V->β->Prop}{f:α->β}{src:List (Option Nat)}{σ:L2.St}{g:TG}{tt:TT}{te:TE}{Q:Hp->Prop}
  (mono:∀H H' v d,aV K H H'->P H v d->P H' v d) (hD:H D=none) (hS:ba K H a xs) (hl:xs.length=ds.length) (hn:ds.length≤1000)
  (turn:∀(i:Nat) (x:V) (d:α) (H':Hp),xs[i]?=some x->ds[i]?=some d->aD H H'->∀(R:VK) (E:Hp->Prop),(∀v H'',aD H' H''->P H'' v (f d)->R v H'')→
   g x (cc src σ) H' λσ2 H2=>gX (cc src σ) σ2/\tt σ2 H2 λok H3=>if ok=true then te σ2 H3 R else E H3)
  (fin:∀H' ys,aD H H'->H' D=some (.lst ys)->di (P H') ys (ds.map f)->Q H') :
  ∃W:Nat->Nat->List V->Hp->Prop,(∃m,W 0 m [] (upd H D (.lst [])))/\∀i m ys H,W i m ys H->((Bz K a).stop i H/\Q H)∨((Bz K a).go i H/\∀x H',(Bz K a).yld i H x H'→
   g x (cc src σ) H' λσ2 H2=>gX (cc src σ) σ2/\tt σ2 H2 λok H3=>
    if ok=true then te σ2 H3 λy H4=>H4 D=some (.lst ys)/\ys.length<sizeLine/\∃m',m'<m/\W (i+1) m' (ys++[y]) (upd H4 D (.lst (ys++[y]))) else ∃m',m'<m/\W (i+1) m' ys H3):=by
 refine⟨λi m ys H'=>i≤ds.length/\m=ds.length-i/\H' D=some (.lst ys)/\aD H H'/\di (P H') ys ((ds.take i).map f),⟨_,ON _,Z,ag,ao hD _,.nil⟩,?_⟩;rintro i m ys H1 ⟨hi,rfl,d1,s1,al1⟩;have hS1:ba K H1 a xs:=s1.seq hS;by_cases hix:i<ds.length
 ·have hx0:xs[i]?=some (xs[i]'(by omega)):=Oh _;refine .inr ⟨⟨xs,_,hS1,hx0⟩,?_⟩;rintro x H2 ⟨rfl,hy⟩;have hx:=hy xs hS1;obtain⟨d,hd⟩:∃d,ds[i]?=some d:=⟨_,Oh hix⟩;refine turn i x d _ hx hd s1 _ _ λv H3 s3 p3=>?_
  have d3:H3 D=some (.lst ys):=s3 _ _ d1;have tm:aV K H2 (upd H3 D (.lst (ys++[v]))):=(aV.same s3).trans (aV.up d3 _);refine⟨d3,bn (by rw[al1.len,Ol,PX];omega),ds.length-(i+1),by omega,hix,Z,ag,λb o q=>?_,?_⟩
  ·rw[ay (aR q hD)];exact s3 _ _ (s1 _ _ q)
  ·rw[Px,hd,PJ];exact(al1.mono λv d p=>mono _ _ _ _ tm p).snoc (mono _ _ _ _ (aV.up d3 _) p3)
 ·have e:i=ds.length:=by omega
  subst e;rw[Pt] at al1;exact .inl ⟨⟨xs,hS1,by omega⟩,fin H1 ys s1 d1 al1⟩
theorem nX:∀{bs:List Bool} {us:List Value},bc (bs.map V.bl) us->∀{i:Nat} {v:Value},us[i]?=some v->v=.bool (bs.getD i false)
 | [],_,.nil,i,v,e=>by cases e
 |b::bs,_,.cons r t,0,v,e=>by
  rw[Ur] at e
  cases e
  exact(show _=SQ b from r)
 |b::bs,_,.cons r t,i+1,v,e=>by
  rw[Us] at e;exact nX t e
theorem n8:∀(bs:List Bool),(Og bs.length).any (λi=>bs.getD i false)=bs.any id
 | []=>rfl
 |b::bs=>by
  rw[Ph,UU,Q7,Wm,Q7];have:=n8 bs;show(b||(Og bs.length).any (λi=>bs.getD i false))=(id b||bs.any id);rw[this];rfl
theorem wP(hc:X.calm=true):df X (.builtin "any") (λxs H Q=>∃(p:Addr) (bs:List Bool),xs=[.ref p]/\ba X.K H p (bs.map V.bl)/\Q (.bl (bs.any id)) H):=by
 intro pins s σ H xs us Q I r h;obtain⟨p,bs,rfl,hq,q⟩:=h;obtain⟨u,rfl,rx⟩:=gE r
 cases rx
 obtain⟨its,rv,pl,hz⟩:=I.list hq;have ne:p≠s.heap.objs.size:=by
  obtain⟨o,ho,_⟩:=pl.isList;exact O9 (OF ho)
 have hlen:its.toArray.size=bs.length:=by rw[OY,←rv.length,Ol]
 refine call_any_walk (TY pl.isList ?_);refine⟨_,_,_,_,_,_,λi=>bs.getD i false,Z,Walks.list (A:=X.A.in1) (I.ok.hd hc) _ p ne its.toArray,⟨⟨_,OO _ Z,Z,Z⟩,pl.isList.push _⟩,λi v s' Q' E' hv hQ=>?_,λh' tk hk=>?_⟩
 ·have e:=nX rv (i:=i) (v:=v) (by simpa using hv);subst e;exact Qp hQ
 ·rw[hlen,n8];refine⟨.bl _,H,I.kept (t':=tk) λb o e=>hk b o (λz=>?_) (On _ e),Z,q⟩;rw[Ox.mp z] at e;exact absurd (OF e) (Pm _)
def LG(te:TE)(i:Nat):TS:=λD σ H=>te σ H λx H1=>∃σ',σ.set i (some x)=σ'/\D.nx σ' H1
section
variable {prog:O0}{w:Pk}{A:O5}{E:Value->Om->Prop}{s:Om}
end
section
variable {X:Cx}{pins:List (Addr×P0)}{σ:L2.St}{H:Hp}{A:O5}{E:Value->Om->Prop}{a kS:Addr}{vs:List Value}{kz:List Int}{f:Value}{e1:Nat}
def Kn(X:Cx)(σ:L2.St)(H:Hp)(A:O5)(f:Value)(vs:List Value)(kz:List Int):Prop:=
 ∀(i:Nat) (v:Value) (k:Int),vs[i]?=some v->kz[i]?=some k->∀(pins:List (Addr×P0)) (s:Om),Inv X pins σ H s→
  OJ (OM X.prog X.w) A (call f [v]) (λu s2=>(∃t,u=.int k t)/\Inv X pins σ H s2) (λ_ _=>False) s
end
def Fw(sp:Sp)(key:Nat->Int):List V->Hp->VK->Prop:=λxs H Q=>∃(p:Addr) (n:Nat),xs=[.ref p]/\H p=some (.rng 0 n)/\n<64/\(∀i<n,∀(Qk:VK),Qk (.int (key i)) H->sp [.int (i:Nat)] H Qk λ_ _ _=>False)∧
 ∀(l:Addr) (ms:List Nat),ms.Perm (Og n)->ms.Pairwise (λa b=>key a≤key b)->H l=none->Q (.ref l) (upd H l (.lst (ms.map λi:Nat=>V.int i)))
def Ky(sp:Sp)(key:Nat->Int)(t:TA):TE:=λσ H Q=>t σ H λvs H1=>Fw sp key vs H1 Q
def IN:V->List V->Hp->VK->Prop:=λx vs H Q=>∃(l:Addr) (ns:List Nat) (j k:Nat),x=.ref l/\vs=[.int (k:Int)]/\H l=some (.lst (ns.map λi:Nat=>V.int i))/\ns[j]?=some k/\(∀m,m<j->ns[m]?≠some k)/\Q .non (upd H l (.lst ((ns.eraseIdx j).map λi:Nat=>V.int i)))
def KZ(k:Int):Value->Bool
 | .int i _=>i==k
 |_=>false
theorem C6:Mh X "list.remove" IN:=by
 intro pins s σ H x vs v us Q I rx rv h;obtain⟨l,ns,j,k,rfl,rfl,hH,hj,hno,q⟩:=h
 cases rx
 obtain⟨u,rfl,ru⟩:=rv.one;obtain⟨t,rfl⟩:=ru;obtain⟨z,its,n,r,hl,e⟩:=I.lstM hH;rw[Ol] at z hl;have at_:∀(m:Nat) (w:Value),its[m]?=some w->∃i t',ns[m]?=some i/\w=.int (i:Int) t':=λm w hw=>by
  have hm:m<its.length:=(OH.mp hw).1;obtain⟨i,hi⟩:∃i,ns[m]?=some i:=⟨_,Oh (by omega)⟩;obtain⟨w',hw',t',e'⟩:=r.get (show(ns.map λi:Nat=>V.int i)[m]?=some (V.int i) by rw[OB,hi];rfl);rw[hw] at hw'
  cases hw'
  exact⟨i,t',hi,e'⟩
 have jl:j<ns.length:=(OH.mp hj).1;have mem:∀y,y∈its.toArray->WJ y (.int (k:Int) t) (KZ k y):=λy hy=>by
  obtain⟨m,hm⟩:=Vk (by simpa using hy);obtain⟨i,t',_,rfl⟩:=at_ m y hm;exact WJ.int _ _ _ _
 have val:∀m (hm:m<its.toArray.size) (i:Nat),ns[m]?=some i->KZ k its.toArray[m]=((i:Int)==(k:Int)):=λm hm i hi=>by
  have e1:its[m]?=some (its.toArray[m]):=by simp only[List.getElem_toArray];exact Oh (by simpa using hm)
  obtain⟨i',t',h1,h2⟩:=at_ m _ e1;rw[hi] at h1
  cases h1
  rw[h2];rfl
 refine VQ F.slot_list_remove ⟨_,e,Z⟩ F.entry_list_remove (F.args_list_remove_2 _ _)
  (MeetsSeq.list_remove l its.toArray n _ (KZ k) mem j (by simpa [←hl] using jl) (by rw[val j _ k hj];simp) (λm hm lt=>?_) (by rw[OY];omega)) ⟨e,?_⟩
 ·obtain⟨i,hi⟩:∃i,ns[m]?=some i:=⟨_,Oh (by omega)⟩;rw[val m hm i hi];refine beq_eq_false_iff_ne.mpr λz=>hno m lt ?_
  rw[hi];exact congrArg some (by omega)
 refine⟨.non,_,I.lset (its':=its.eraseIdx j) hH e ?_ ?_ ?_,Z,q⟩
 ·show its.toArray.eraseIdxIfInBounds j=(its.eraseIdx j).toArray;rw[List.eraseIdxIfInBounds_toArray]
 ·have:=r.eraseIdx j;have e2:∀(l:List Nat) (j:Nat),(l.map λi:Nat=>V.int i).eraseIdx j=(l.eraseIdx j).map λi:Nat=>V.int i:=by
   intro l
   induction l with
   |nil=>intro j;rfl
   |cons a l ih=>
    intro j
    cases j with
    |zero=>rfl
    |succ j=>simp only[O1,Uw,ih]
  rw[e2] at this;exact this
 ·rw[Ol];have:=List.length_eraseIdx_le ns j;omega
def pW(X:Cx)(N':List OV)(scope:Sf)(y:OV)(cl:List (OV×Addr))(C:Addr)(fp:List Addr)(pins:List (Addr×P0))(s:Om)(H:Hp):Cx:=
 { X with N:=N',s₀:=s,H₀:=H,env:=SG scope ((y,C+1)::cl) C X.env,outer:=X.stack,stack:=X.stack,ex:=fp,fn:=λz=>z==y,pn:=X.pn++pins,xe:=λ_ _=>False}
structure jQ(X:Cx)(scope:Sf)(y:OV)(cl:List (OV×Addr)):Prop where
 has:∀x,((SG scope cl 0 X.env).kindOf x=some .cell∨(SG scope cl 0 X.env).kindOf x=some .free)->x=y∨∃c,cl.lookup x=some c
 up:∀x c,cl.lookup x=some c->X.env.cells.lookup x=some c
 no:cl.lookup y=none
theorem wK(h1:((Wb scope X.env).names.all λz=>!(z.2==.cell||z.2==.free)||(z.1==y)||(cl.lookup z.1).isSome)=true)(h2:ic X cl)(h3:cl.lookup y=none):jQ X scope y cl:=by
 refine⟨λx h=>?_,λx c e=>h2.mem _ (mem_of_lookup e),h3⟩;have h4:=Qj.mp h1;have key:∀k:Sm,(k=.cell∨k=.free)->(Wb scope X.env).names.lookup x=some k->x=y∨∃c,cl.lookup x=some c:=λk hk e=>by
  have q:=h4 _ (mem_of_lookup e);have z:(k==VB||k==Xv)=true:=by rcases hk with rfl|rfl<;>rfl
  simp only[z,VC,Ud,W0] at q;rcases q with q|q
  ·exact .inl (Tt q)
  ·exact .inr (Qb.mp q)
 rcases h with h|h
 ·exact key _ (.inl Z) h
 ·exact key _ (.inr Z) h
theorem eY{cl:List (OV×Addr)}(h:((y,a):: cl).lookup x=some c):(x=y/\c=a)∨(x≠y/\cl.lookup x=some c):=by
 rw[Sc] at h
 cases e:x==y with
 |true=>
  rw[e] at h;injection h with h;exact .inl ⟨Tt e,h.symm⟩
 |false=>
  rw[e] at h;refine .inr ⟨λz=>?_,h⟩;rw[z,beq_self_eq_true] at e
  cases e
theorem uL{cl:List (OV×Addr)}(n:cl.lookup y=none)(h:cl.lookup x=some c):((y,a):: cl).lookup x=some c:=by
 have ne:(x==y)=false:=by
  cases e:x==y with
  |true=>rw[Tt e,n] at h;cases h
  |false=>rfl
 rw[Sc,ne];exact h
section
variable {M:Model}{A:O5}{E:Value->Om->Prop}{s:Om}
theorem CZ(hs:∀n:Nat,Ts n scope.names cl=(y,n):: cl)(hp:∀h:Oy,WK h scope.names=h.push { cls:=.type "cell",data:=.cell none})
  (hQ:Q { scope,locals:=s.heap.objs.size,globals,cells:=(y,s.heap.objs.size+1):: cl,qual,func:=none,code:=outer.code,frame:=outer.frame,builtins:=outer.builtins} { s with heap:=(s.heap.push { cls:=.type "dict",data:=.dict #[]}).push { cls:=.type "cell",data:=.cell none} }):
  OJ M A (TH scope globals cl [] qual none .none (some outer)) Q E s:=by
 simp only[TH,Sw,if_true];refine Oj (wpAny_alloc (Oj (wpAny_layCells _ (λname kind cells=>by cases hkc:kind==VB<;>simp[hkc]) _ _ _ _ ?_)));rw[hs,hp];refine Oj (OC (OC ?_));rw[show({ s with heap:=s.heap.push { cls:=.type "dict",data:=.dict #[]} }:Om).heap.objs.size=s.heap.objs.size+1 from QQ ..];exact hQ
end
section
variable {X:Cx}{N':List OV}{scope:Sf}{y:OV}{cl:List (OV×Addr)}{src:List (Option Nat)}{pins:List (Addr×P0)}{σ:L2.St}{H:Hp}{s:Om}{fp:List Addr}
theorem Cx.compD_ok{C:Addr}(I:Inv X pins σ H s)(hC:s.heap.objs.size≤C)(hk:scope.kind=.function)(hf:∀b∈fp,gA X pins H b)(hfs:∀b∈fp,b<s.heap.objs.size)(hc:jQ X scope y cl) :
  (pW X N' scope y cl C fp pins s H).Ok where
 mod:=I.ok.mod
 kind:=hk
 glob:=I.ok.glob
 blt:=I.ok.blt
 above:=hC
 inj:=λa b c e1 e2=>by
  have old:∀z,cl.lookup z=some (C+1)->False:=λz e=>by
   obtain⟨v,o,ho,_⟩:=I.cell z _ (hc.up z _ e);have q:=OF ho;exact Pm _ (OI (Pq (Qw C) q) hC)
  rcases eY e1 with⟨h1,h2⟩ | ⟨_,h2⟩
  ·rcases eY e2 with⟨h3,_⟩ | ⟨_,h4⟩
   ·rw[h1,h3]
   ·rw[h2] at h4;exact(old b h4).elim
  ·rcases eY e2 with⟨_,h4⟩ | ⟨_,h4⟩
   ·rw[h4] at h2;exact(old a h2).elim
   ·exact I.ok.inj a b c (hc.up a c h2) (hc.up b c h4)
 has:=λx h=>by
  rcases hc.has x h with z | ⟨c,z⟩
  ·exact⟨C+1,by show((y,C+1)::cl).lookup x=_;rw[z,Sc,beq_self_eq_true]⟩
  ·exact⟨c,uL hc.no z⟩
 cab:=λx c z e=>by
  have zx:x=y:=Tt z;rcases eY e with⟨_,h2⟩ | ⟨h1,_⟩
  ·rw[h2];exact OS hC (Qw C)
  ·exact absurd zx h1
 hd:=I.ok.hd
 frames:=I.ok.frames
 stk:=.inl Z
 exf:=λb hb=>⟨λz=>by have:=hfs b hb;rw[show b=C from z] at this;exact absurd (OI this hC) (Pm _),λx c e=>by
  rcases eY e with⟨_,h2⟩ | ⟨_,h2⟩
  ·have q:=hfs b hb;intro z;rw[show b=C+1 from z.symm.trans h2] at q;exact Pm _ (OI (Pq (Qw C) q) hC)
  ·exact(hf b hb).2.2.2.2.1 x c (hc.up x c h2)⟩
 bs:=I.bs
 bsz:=OS I.ok.bsz I.sz
 noex:=λb o e hb=>by
  rcases(hf b hb).2.2.2.1 with z|z
  ·exact I.ok.noex b o e z
  ·rw[(I.ok.bs b o e).1] at z;cases z
 exfs:=λb hb z=>by
  rcases Ov.mp (I.stkSub b z) with q|q
  ·exact(hf b hb).2.1 q
  ·exact(hf b hb).2.2.1 q
 funs:=I.stack
 frf:=I.stkFree
theorem Inv.compD{C:Addr}{h₁:Oy}{m:OV->Option Value}{tk:Nat}(I:Inv X pins σ H s)(hC:C=s.heap.objs.size)(hns:h₁.Ns C m)(hcl1:h₁.IsCell (C+1) none)(keep:∀b o,s.heap.get? b=some o->h₁.get? b=some o)
  (hk:scope.kind=.function) (hf:∀b∈fp,gA X pins H b) (hfs:∀b∈fp,b<s.heap.objs.size) (hc:jQ X scope y cl) (hfree:cu X scope cl N' src) :
  Inv (pW X N' scope y cl C fp pins s H) [] (cc src σ) H { s with heap:=h₁,toks:=tk} where
 ok:=Cx.compD_ok I (RO hC.symm) hk hf hfs hc
 os:=Z
 bare:=I.bare
 base:=Un.kept keep
 loc:=⟨m,hns,λi x v e1 e2 _=>by
  obtain⟨j,hj,hσ,kc,kc',hl⟩:=hfree.at e1 e2;obtain⟨m0,hn0,hl0⟩:=I.loc;obtain⟨u,r,l⟩:=hl0 j x v hj hσ (O7 (Pd kc));rcases l with⟨k,_⟩ | ⟨k,c,e,o,ho,hd⟩
  ·rw[kc] at k;cases k
  ·exact⟨u,r,.inr ⟨.inl kc',c,uL hc.no (hl.trans e),o,keep c o ho,hd⟩⟩⟩
 cell:=λx c e=>by
  rcases eY e with⟨_,h2⟩ | ⟨_,h2⟩
  ·rw[h2];exact⟨none,hcl1⟩
  ·obtain⟨v,o,ho,hd⟩:=I.cell x c (hc.up x c h2);exact⟨v,o,keep _ _ ho,hd⟩
 free:=I.hok.fresh (RO hC.symm)
 freeC:=λx c e=>by
  rcases eY e with⟨_,h2⟩ | ⟨_,h2⟩
  ·rw[h2];exact I.hok.fresh (by rw[hC];exact Qw _)
  ·exact I.freeC x c (hc.up x c h2)
 pin:=λp hp=>by
  have hp':p∈X.pn++pins:=by
   have z:p∈(X.pn++pins)++[]:=hp;rw[Qe] at z;exact z
  obtain⟨e,n,ne,nf,d⟩:=I.pin p hp';refine⟨keep _ _ e,n,λz=>?_,λz=>?_,d⟩
  ·have:=OF e;rw[show p.1=C from z,hC] at this;exact Pm _ this
  ·rcases Ov.mp (I.stkSub _ z) with q|q
   ·exact ne q
   ·exact nf q
 hok:=I.hok.kept keep
 len:=by show(cc src σ).length=N'.length;unfold cc;rw[Ol,hfree.len]
end
section
variable {X:Cx}{N':List OV}{scope:Sf}{y:OV}{cl:List (OV×Addr)}{src:List (Option Nat)}{tg iter elt:O3}{ifs:List O3}{wi:TI}{g:TG}{tt:TT}{te:TE}{pos:R1}
theorem wH(hc:X.calm=true)(hi:PI X tg iter wi)(hg:∀C fp pins s H,PG (pW X N' scope y cl C fp pins s H) tg g)(ht:∀C fp pins s H,Ew (pW X N' scope y cl C fp pins s H) ifs tt)
  (he:∀C fp pins s H,PE (pW X N' scope y cl C fp pins s H) elt te) (hfree:cu X scope cl N' src) (hcf:∀n:Nat,Ts n scope.names cl=(y,n)::cl) (hcp:∀h:Oy,WK h scope.names=h.push { cls:=.type "cell",data:=.cell none}) (hkind:scope.kind=.function) (hcl:jQ X scope y cl)
  {RR:Value->Addr->WC->Om->Prop} {pins:List (Addr×P0)} {s:Om} {σ:L2.St} {H:Hp} {Q:VK} (I:Inv X pins σ H s) (h:iU wi src g tt te σ H Q)
  (hRR:∀D C H' s',Q (.ref D) H'->(∃m,s'.heap.Ns C m)->Inv X pins σ H' s'->wT X pins H' C->RR (.ref D) C (.ok .next) s') :
  OJ (OM X.prog X.w) X.A (eval iter X.env) (λx s₁=>OJ (OM X.prog X.w) X.A (XG x) (λitv s₂=>OJ (OM X.prog X.w) X.A (W3 []) (λacc s₃=>
   OJ (OM X.prog X.w) X.A (TH scope X.env.globals cl [] X.env.qual none .none (some X.env)) (λcenv s₄=>
    Ro (OM X.prog X.w) X.A (.compStart (.ListComp elt [⟨tg,iter,ifs,0⟩] scope pos) 0 itv acc { cenv with scope:=Wb scope X.env}) (RR acc cenv.locals) s₄) X.xe s₃) X.xe s₂) X.xe s₁) X.xe s:=by
 refine bK (hi pins s σ H _ I h) λv s1 h1=>bK h1 λitv s2 h2=>?_
 obtain⟨it,fp,tn,J,H2,e,I2,T,st2,f2,h2⟩:=h2;subst e;refine PD ?_ (by show 0≤sizeLine;exact ON _);have hD:H2 s2.heap.objs.size=none:=I2.fresh;have I3:Inv X pins σ (upd H2 s2.heap.objs.size (.lst [])) { s2 with heap:=s2.heap.push { cls:=.type "list",data:=.seq ([]:List Value).toArray} }:=I2.lnew (t':=s2.toks) (its:=[]) .nil (ON _);obtain⟨W,⟨m0,w0⟩,turn⟩:=h2 s2.heap.objs.size hD;generalize hDe:s2.heap.objs.size=D at I3 turn w0 hD ⊢;have st3:tn 0 (s2.heap.push { cls:=.type "list",data:=.seq ([]:List Value).toArray}):=T.keep _ _ _ st2 λb _ o e=>On _ e
 have f3:∀b∈fp,gA X pins (upd H2 D (.lst [])) b/\b<(s2.heap.push { cls:=.type "list",data:=.seq ([]:List Value).toArray}).objs.size:=λb hb=>by
  obtain⟨o,e,_⟩:=T.obj _ _ st2 b hb;have l:=OF e;rw[hDe] at l;refine⟨⟨?_,(f2 b hb).2⟩,by rw[QQ,hDe];exact T4 l⟩;rw[ay (O9 l)];exact(f2 b hb).1
 generalize (s2.heap.push { cls:=.type "list",data:=.seq ([]:List Value).toArray})=h3 at I3 st3 f3 ⊢;refine CZ hcf hcp ?_;have sz:(h3.push { cls:=.type "dict",data:=.dict #[]}).objs.size=h3.objs.size+1:=QQ ..;have hns₄:=(Oy.Ns.new h3 (.type "dict")).keeps λb o e=>On { cls:=.type "cell",data:=.cell none} e
 have hce₄:((h3.push { cls:=.type "dict",data:=.dict #[]}).push { cls:=.type "cell",data:=.cell none}).IsCell (h3.objs.size+1) none:=⟨_,by rw[←sz];exact OO _ Z,Z⟩;have keep:∀b o,h3.get? b=some o->((h3.push { cls:=.type "dict",data:=.dict #[]}).push { cls:=.type "cell",data:=.cell none}).get? b=some o:=λb o e=>On _ (On _ e)
 generalize (h3.push { cls:=.type "dict",data:=.dict #[]}).push { cls:=.type "cell",data:=.cell none}=h₄ at hns₄ hce₄ keep ⊢;have I4:=Inv.compD (C:=h3.objs.size) (fp:=fp) (tk:=s2.toks) I3 Z hns₄ hce₄ keep hkind (λb hb=>(f3 b hb).1) (λb hb=>(f3 b hb).2) hcl hfree;have st4:tn 0 h₄:=T.keep _ _ _ st3 λb _ o e=>keep b o e
 have fpn:∀b∈fp,(upd H2 D (.lst [])) b=none:=λb hb=>(f3 b hb).1.1
 have hn3:∀b∈fp,b≠h3.objs.size:=λb hb=>O9 (f3 b hb).2
 have stat:∀{H':Hp},(∀b∈fp,H' b=none)->∀b∈fp,gA (pW X N' scope y cl h3.objs.size fp pins { s2 with heap:=h3} (upd H2 D (.lst []))) [] H' b:=λhn b hb=>
  ⟨hn b hb,hn3 b hb,I4.ok.exfs b hb,.inl hb,λx c e=>(by
   rcases eY e with⟨_,h2⟩ | ⟨_,h2⟩
   ·intro z;have q:=(f3 b hb).2;rw[show b=h3.objs.size+1 from z.symm.trans h2] at q;exact Pm _ (Pq (Qw _) q)
   ·exact(f3 b hb).1.2.2.2.2.1 x c (hcl.up x c h2)),λp hp=>(f3 b hb).1.2.2.2.2.2 p (by
   have z:p∈(X.pn++pins)++[]:=hp;rw[Qe] at z;exact z)⟩
 have back:∀{H':Hp} {s':Om},Inv (pW X N' scope y cl h3.objs.size fp pins { s2 with heap:=h3} (upd H2 D (.lst []))) [] (cc src σ) H' s'->(∃m,s'.heap.Ns h3.objs.size m)/\Inv X pins σ H' s'/\wT X pins H' h3.objs.size:=λ{H' s'} I'=>by
  have Ib:Inv X pins σ H' s':=I3.call' I'.os I'.base I'.hok I'.bare λb hb=>⟨(f3 b hb).1.2.2.2.1,(f3 b hb).1.2.1,(f3 b hb).1.2.2.2.2.1,(f3 b hb).1.2.2.2.2.2⟩
  refine⟨let ⟨m,hm,_⟩:=I'.loc;⟨m,hm⟩,Ib,⟨I'.free,λz=>?_,I3.nofs (Oi _),P2 I3.sz,λx c e z=>?_,λp hp z=>?_⟩⟩
  ·have:=I3.lt;rw[←z] at this;exact Pm _ this
  ·obtain⟨v,o,ho,_⟩:=I3.cell x c e;have:=OF ho;rw[z] at this;exact Pm _ this
  ·obtain⟨e,_⟩:=I3.pin p hp;have:=OF e;rw[z] at this;exact Pm _ this
 have loop:Ro (OM X.prog X.w) X.A (.compLoop (.ListComp elt [⟨tg,iter,ifs,0⟩] scope pos) 0 (.ref it) (.ref D) (SG scope ((y,h3.objs.size+1)::cl) h3.objs.size X.env)) (RR (.ref D) h3.objs.size) { s2 with heap:=h₄,toks:=s2.toks}:=by
  refine nS (λn s'=>∃i ys H',Inv (pW X N' scope y cl h3.objs.size fp pins { s2 with heap:=h3} (upd H2 D (.lst []))) [] (cc src σ) H' s'/\tn i s'.heap/\(∀b∈fp,H' b=none)/\W i n ys H') ?_ m0 ⟨0,[],_,I4,st4,fpn,w0⟩;rintro n s5 ⟨i,ys,H5,I5,st5,fr5,w5⟩;rcases turn i n ys H5 w5 with⟨stop,qn⟩ | ⟨go,step⟩
  ·refine bK (T.done (pW X N' scope y cl h3.objs.size fp pins { s2 with heap:=h3} (upd H2 D (.lst []))) rfl rfl rfl hc i [] s5 _ H5 _ I5 (stat fr5) st5 stop) λr s6 ⟨hr,I6⟩=>?_
   subst hr;obtain⟨b1,b2,b3⟩:=back I6;exact hRR D _ H5 s6 qn b1 b2 b3
  ·refine bK (T.item (pW X N' scope y cl h3.objs.size fp pins { s2 with heap:=h3} (upd H2 D (.lst []))) rfl rfl rfl hc i [] s5 _ H5 _ I5 (stat fr5) st5 go) λr s6 ⟨u,hr,h6⟩=>?_
   subst hr;refine bK h6 λ_ s7 ⟨x,H7,I7,r7,y7,st7,fr7⟩=>?_
   have I7':=I7.pinned (stat fr7) (T.obj _ _ st7);refine bK (hg _ _ _ _ _ _ s7 _ H7 x u _ I7' r7 (step x H7 y7)) λ_ s8 ⟨σ8,H8,I8,ex8,q8⟩=>?_
   refine bK (ht _ _ _ _ _ _ s8 σ8 H8 _ I8 q8) λok s9 ⟨H9,I9,q9⟩=>?_
   have again:∀{ys':List V} {Ha:Hp} {sa:Om},Inv (pW X N' scope y cl h3.objs.size fp pins { s2 with heap:=h3} (upd H2 D (.lst []))) ([]++jD fp s7.heap) σ8 Ha sa->(∃m',m'<n/\W (i+1) m' ys' Ha)→
     ∃m,m<n/\∃i ys H',Inv (pW X N' scope y cl h3.objs.size fp pins { s2 with heap:=h3} (upd H2 D (.lst []))) [] (cc src σ) H' sa/\tn i sa.heap/\(∀b∈fp,H' b=none)/\W i m ys H':=λ{ys' Ha sa} Ia ⟨m',hm,wa⟩=>by
    refine⟨m',hm,i+1,ys',Ha,(Ia.unpinned).weak ex8.1.symm ex8.2,T.keep _ _ _ st7 λb hb o e=>(Ia.pin (b,o) (OE _ (OE _ (eN hb e)))).1,λb hb=>?_,wa⟩;obtain⟨o,e,_⟩:=T.obj _ _ st7 b hb;exact(Ia.pin (b,o) (OE _ (OE _ (eN hb e)))).2.1
   cases ok with
   |false=>exact again I9 q9
   |true=>
    refine bK (he _ _ _ _ _ _ s9 σ8 H9 _ I9 q9) λy s10 ⟨yv,H10,I10,r10,q10,hz,wn⟩=>?_
    refine bK (bV _ s10 σ8 H10 (.ref D) [yv] (.ref D) [y] (λ_ Hz=>∃m',m'<n/\W (i+1) m' (ys++[yv]) Hz) I10 Z (.cons r10 .nil) ⟨D,ys,yv,Z,Z,q10,hz,wn⟩) λ_ s11 ⟨_,H11,I11,_,q11⟩=>?_
    exact again I11 q11
 exact UQ loop (T.self _ 0 _ _ _ st4 loop)
theorem zG{i:Nat}{x:OV}{pos' pos2:R1}(hN:X.N.Nodup)(hi':X.N[i]?=some x)(hx:wU X.env.scope x)(hc:X.calm=true)(hi:PI X tg iter wi)(hg:∀C fp pins s H,PG (pW X N' scope y cl C fp pins s H) tg g)(ht:∀C fp pins s H,Ew (pW X N' scope y cl C fp pins s H) ifs tt)
  (he:∀C fp pins s H,PE (pW X N' scope y cl C fp pins s H) elt te) (hfree:cu X scope cl N' src) (hclos:SU scope X.env=Qm cl) (hcf:∀n:Nat,Ts n scope.names cl=(y,n)::cl) (hcp:∀h:Oy,WK h scope.names=h.push { cls:=.type "cell",data:=.cell none}) (hkind:scope.kind=.function)
  (hnames:∀x∈scope.names,x.2=.local->scope.names.lookup x.1=some .local) (hcl:jQ X scope y cl) (hs:∀x,P7 iter X.env x=Qm x:=by intro _;rfl)
  (hsw:QV (.ListComp elt [⟨tg,iter,ifs,0⟩] scope pos) (some (.Name x pos')) pos2.line X.env=Qm true:=by rfl) (hf:X.fn x=true∨X.env.scope.names.lookup x=some .local:=by first|exact .inl Z|exact .inr Z|assumption) :
  PS X (.Assign [.Name x pos'] (.ListComp elt [⟨tg,iter,ifs,0⟩] scope pos) pos2) (ou (iU wi src g tt te) (jd i)):=by
 intro pins s σ H D I h;rw[U7 _ _ _ _ hsw];refine Oj (RY ?_);show OJ _ _ ((comprehension (.ListComp elt [⟨tg,iter,ifs,0⟩] scope pos) scope X.env _ (W3 []) false (eval iter X.env) (some (SR (.Name x pos') X.env)) >>= λ_=>Qm ()) >>= λ_=>Qm Wz) _ _ s;refine Oj (Oj (Qh (Sn (use:=some (SR (.Name x pos') X.env)) (Q:=λ_ s''=>SP X pins D .next s'') Z hs hclos hkind hnames (wH hc hi hg ht he hfree hcf hcp hkind hcl (RR:=λacc C=>compPost (OM X.prog X.w) X.A X.xe (some (SR (.Name x pos') X.env)) (λ_ s''=>SP X pins D .next s'') acc C) I h λE C H' s' q hm hI hb=>?_)) (λ_ s'' h''=>OC (OC h'')) λ_ _ e=>e));obtain⟨m,o,es,ep,ho,hd,r1,r2⟩:=hm;have I':Inv X (pins++[(C,o)]) σ H' s':=hI.pins_of λp hp=>by
  rcases OU.mp hp with h|h
  ·exact hI.pin p (OE _ h)
  ·rw[Ox] at h;rw[h];exact⟨ho,hb.no,hb.lo,hb.fs,λv z=>by rw[hd] at z;cases z⟩
 refine TW (eV I' hN hi' hx (show aZ (.ref E) (.ref E) from Z) (λs'' I''=>?_) hf);have hC:=(I''.pin (C,o) (OE _ (OE _ Oq))).1;have I3:Inv X pins (σ.set i (some (.ref E))) H' s'':=I''.pins_of λp hp=>I''.pin p (OE _ (O6 _ hp))
 exact⟨m,⟨o,es,ep,hC,hd,r1,r2⟩,λh' sb=>⟨_,H',hb.turned I3 sb,q⟩⟩
end
section
variable {X:Cx}{N':List OV}{scope:Sf}{y:OV}{cl:List (OV×Addr)}{src:List (Option Nat)}{tg iter elt:O3}{ifs:List O3}{wi:TI}{g:TG}{tt:TT}{te:TE}{pos:R1}
theorem zi{i:Nat}{x:OV}{pos' pos2:R1}(hN:X.N.Nodup)(hi':X.N[i]?=some x)(hx:wU X.env.scope x)(hc:X.calm=true)(hi:QI X tg iter wi)(hg:∀C fp pins s H,QG (pW X N' scope y cl C fp pins s H) tg g)(ht:∀C fp pins s H,HU (pW X N' scope y cl C fp pins s H) ifs tt)(he:∀C fp pins s H,QE (pW X N' scope y cl C fp pins s H) elt te)(hfree:cu X scope cl N' src)(hclos:SU scope X.env=Qm cl)(hcf:∀n:Nat,Ts n scope.names cl=(y,n)::cl)(hcp:∀h:Oy,WK h scope.names=h.push { cls:=.type "cell",data:=.cell none})(hkind:scope.kind=.function)(hnames:∀x∈scope.names,x.2=.local->scope.names.lookup x.1=some .local)(hcl:jQ X scope y cl)(hs:∀x,P7 iter X.env x=Qm x:=by intro _;rfl)(hsw:QV (.ListComp elt [⟨tg,iter,ifs,0⟩] scope pos) (some (.Name x pos')) pos2.line X.env=Qm true:=by rfl)(hf:X.fn x=true∨X.env.scope.names.lookup x=some .local:=by first|exact .inl Z|exact .inr Z|assumption):QS X (.Assign [.Name x pos'] (.ListComp elt [⟨tg,iter,ifs,0⟩] scope pos) pos2) (ou (iU wi src g tt te) (jd i)):=⟨zG hN hi' hx hc hi.p (λz0 z1 z2 z3 z4=>(hg z0 z1 z2 z3 z4).p) (λz0 z1 z2 z3 z4=>(ht z0 z1 z2 z3 z4).p) (λz0 z1 z2 z3 z4=>(he z0 z1 z2 z3 z4).p) hfree hclos hcf hcp hkind hnames hcl hs hsw hf⟩
theorem vO(hclos:SU scope X.env=Qm cl)(hc:X.calm=true)(hi:QI X tg iter wi)(hg:∀C fp pins s H,QG (jM X N' scope cl C fp pins s H) tg g)(ht:∀C fp pins s H,HU (jM X N' scope cl C fp pins s H) ifs tt)(he:∀C fp pins s H,QE (jM X N' scope cl C fp pins s H) elt te)(hfree:cu X scope cl N' src)(hcell:∀x∈scope.names,x.2≠.cell)(hkind:scope.kind=.function)(hnames:∀x∈scope.names,x.2=.local->scope.names.lookup x.1=some .local)(hcl:fC X scope cl)(hs:∀x,P7 iter X.env x=Qm x:=by intro _;rfl):QE X (.ListComp elt [⟨tg,iter,ifs,0⟩] scope pos) (iU wi src g tt te):=cm hc hi hg ht he hfree hclos hcell hkind hnames hcl hs
theorem zk{K:Of}{l tg:O3}{tl:TE}(hK:X.K=K)(hl:QE X l tl):QI X tg l (AB K tl):=by subst hK;exact fm hl
theorem uG{K:Of}{k:Nat}(hK:X.K=K)(hr:cT k X.A):gh X (Pz .NotEq) (IP K):=hK▸iL hr
theorem tG{X:Cx}{K:Of}(hK:X.K=K)(hc:X.calm=true):df X (.builtin "any") (λxs H Q=>∃p bs,xs=[V.ref p]/\ba K H p (List.map V.bl bs)/\Q (V.bl (bs.any id)) H):=by subst hK;exact wP hc
end
structure d0(K:Of)(n:OV)(st:Stmt)(f:Addr)(d:Oo):Prop where
 p:PySem.W.nsIn K OR n=some (some (.ref f))
 F:Fun K n n st f d
section
variable {K:Of}{n:OV}{st:Stmt}{f:Addr}{d:Oo}
theorem isF{oc:Value}{od an:Option Addr}{sl:Array (Option Value)}{kV dc pm cd ct:Value}(p:PySem.W.nsIn K OR n=some (some (.ref f)))
  (l:K.lookup f=some ⟨oc,od,.func (Qf n n (dh st) (cM st) (az st) .none kV dc pm an cd ct),sl⟩) (c:SF K cd n=true) (k:Qa K (.ref f)=true) :
  d0 K n st f (Qf n n (dh st) (cM st) (az st) .none kV dc pm an cd ct):=⟨p,pK l c k⟩
abbrev BA(n:OV)(st:Stmt)(us:List Value)(ps:List OV):Prop:=∀(kV dc pm:Value) (an:Option Addr) (cd ct:Value),V7 (Qf n n (dh st) (cM st) (az st) .none kV dc pm an cd ct) ⟨us,[]⟩=Qm (ps.zip us)
theorem d0.b1{x:OV}(I:d0 K n st f d)(h:∀u,BA n st [u] [x]:=by exact λ_ _ _ _ _ _ _=>Z):aM K d [x] []:=I.F.binds λa b c e g i us hl=>match us,hl with | [u],_=>h u a b c e g i
theorem d0.b2{x y:OV}(I:d0 K n st f d)(h:∀u v,BA n st [u,v] [x,y]:=by exact λ_ _ _ _ _ _ _ _=>Z):aM K d [x,y] []:=I.F.binds λa b c e g i us hl=>match us,hl with | [u,v],_=>h u v a b c e g i
theorem d0.b3{x y z:OV}(I:d0 K n st f d)(h:∀u v w,BA n st [u,v,w] [x,y,z]:=by exact λ_ _ _ _ _ _ _ _ _=>Z):aM K d [x,y,z] []:=I.F.binds λa b c e g i us hl=>match us,hl with | [u,v,w],_=>h u v w a b c e g i
theorem d0.b4{x y z t:OV}(I:d0 K n st f d)(h:∀u v w r,BA n st [u,v,w,r] [x,y,z,t]:=by exact λ_ _ _ _ _ _ _ _ _ _=>Z):aM K d [x,y,z,t] []:=I.F.binds λa b c e g i us hl=>match us,hl with | [u,v,w,r],_=>h u v w r a b c e g i
theorem d0.b5{x y z t s:OV}(I:d0 K n st f d)(h:∀u v w r q,BA n st [u,v,w,r,q] [x,y,z,t,s]:=by exact λ_ _ _ _ _ _ _ _ _ _ _=>Z):aM K d [x,y,z,t,s] []:=I.F.binds λa b c e g i us hl=>match us,hl with | [u,v,w,r,q],_=>h u v w r q a b c e g i
end
theorem ah{X:Cx}{st:Stmt}{cQ:List Stmt}{t u:TS}(h1:QS X st t)(h2:dk X cQ u):dk X (st::cQ) (let Uq:=u;EI t Uq):=zg h1 h2
def JO(K:Of)(a b:Addr):It:=
 ⟨λi H=>∃xs ys x y,ba K H a xs/\bu K H b ys/\xs[i]?=some x/\ys[i]?=some y,
  λi H v H'=>∃p x y,H p=none/\v=.ref p/\H'=upd H p (.tup [x,y])/\(∀xs,ba K H a xs->xs[i]?=some x)/\∀ys,bu K H b ys->ys[i]?=some y,
  λi H=>∃xs ys,ba K H a xs/\bu K H b ys/\(xs.length≤i∨ys.length≤i)⟩
def L8(z TI TO i1 i2 a b:Addr)(i:Nat)(h:Oy):Prop:=IsZip h z TI TO .none/\Xl h TI (.ref i1) (.ref i2)/\(∃u v,Xl h TO u v)/\h.IsListIter i1 a i/\h.IsTupleIter i2 b i
abbrev Ih(h:Oy)(a:Addr):Oy:=h.push { cls:=.type "list_iterator",data:=.fields #[.ref a,.int 0 0]}
abbrev Ie(h:Oy)(a b:Addr):Oy:=(Ih h a).push { cls:=.type "tuple_iterator",data:=.fields #[.ref b,.int 0 0]}
abbrev HZ(h:Oy)(a b:Addr):Oy:=(Ie h a b).push { cls:=.type "tuple",data:=.seq #[.ref h.objs.size,.ref (Ih h a).objs.size]}
abbrev Ks(h:Oy)(a b:Addr):Oy:=(HZ h a b).push { cls:=.type "tuple",data:=.seq #[.none,.none]}
abbrev Mp(h:Oy)(a b:Addr):Oy:=(Ks h a b).push { cls:=.type "zip",data:=.fields #[.none,.bool false,.bool false,.ref (Ie h a b).objs.size,.ref (HZ h a b).objs.size]}
def K0(K:Of)(ta:TA):TI:=λσ H R=>ta σ H λvs H1=>∃a b,vs=[.ref a,.ref b]/\(∃xs,ba K H1 a xs)/\(∃ys,bu K H1 b ys)/\R (JO K a b) H1
def JP(K:Of)(a b:Addr):It:=
 ⟨λi H=>∃xs ys x y,ba K H a xs/\ba K H b ys/\xs[i]?=some x/\ys[i]?=some y,
  λi H v H'=>∃p x y,H p=none/\v=.ref p/\H'=upd H p (.tup [x,y])/\(∀xs,ba K H a xs->xs[i]?=some x)/\∀ys,ba K H b ys->ys[i]?=some y,
  λi H=>∃xs ys,ba K H a xs/\ba K H b ys/\(xs.length≤i∨ys.length≤i)⟩
def L9(z TI TO i1 i2 a b:Addr)(i:Nat)(h:Oy):Prop:=IsZip h z TI TO .none/\Xl h TI (.ref i1) (.ref i2)/\(∃u v,Xl h TO u v)/\h.IsListIter i1 a i/\h.IsListIter i2 b i
abbrev Ii(h:Oy)(a:Addr):Oy:=h.push { cls:=.type "list_iterator",data:=.fields #[.ref a,.int 0 0]}
abbrev Ig(h:Oy)(a b:Addr):Oy:=(Ii h a).push { cls:=.type "list_iterator",data:=.fields #[.ref b,.int 0 0]}
abbrev Ic(h:Oy)(a b:Addr):Oy:=(Ig h a b).push { cls:=.type "tuple",data:=.seq #[.ref h.objs.size,.ref (Ii h a).objs.size]}
abbrev Kt(h:Oy)(a b:Addr):Oy:=(Ic h a b).push { cls:=.type "tuple",data:=.seq #[.none,.none]}
abbrev Mq(h:Oy)(a b:Addr):Oy:=(Kt h a b).push { cls:=.type "zip",data:=.fields #[.none,.bool false,.bool false,.ref (Ig h a b).objs.size,.ref (Ic h a b).objs.size]}
def K1(K:Of)(ta:TA):TI:=λσ H R=>ta σ H λvs H1=>∃a b,vs=[.ref a,.ref b]/\(∃xs,ba K H1 a xs)/\(∃ys,ba K H1 b ys)/\R (JP K a b) H1
section
variable {prog:O0}{w:Pk}{A:O5}{E:Value->Om->Prop}
end
section
variable {prog:O0}{w:Pk}{A:O5}{E:Value->Om->Prop}{s:Om}
end
structure JJ(K:Of)(H:Hp)(ys:List V)(kvs:List (List dg×V)):Prop where
 len:ys.length=kvs.length
 row:∀(i:Nat) (kv:List dg×V),kvs[i]?=some kv->∃r b,ys[i]?=some (.ref r)/\bu K H r [.ref b,kv.2]/\H b=some (.tup (kv.1.map kV))
 nd:(kvs.map (·.1)).Nodup
def KN(K:Of):List V->Hp->VK->Prop:=λvs H Q=>∃(p:Addr) (ob:P0) (ys:List V) (kvs:List (List dg×V)),vs=[.ref p]/\H p=some (.frz ob (.tup ys))/\ob.dict=none/\JJ K H ys kvs/\∀l,H l=none->Q (.ref l) (upd H l (.dT kvs))
def LL(K:Of):List V->Hp->VK->Prop:=λvs H Q=>∃(p:Addr) (ys:List V),vs=[.ref p]/\ba K H p ys/\∀(l:Addr) (ob:P0),H l=none->ob.dict=none->Q (.ref l) (upd H l (.frz ob (.tup ys)))
section
variable {X:Cx}{K:Of}
end
section
set_option autoImplicit true
set_option relaxedAutoImplicit true
theorem db(he:QE X e ta)(hb:Q6 e f X.env (eval e X.env)=eval e X.env):QE X (.Attribute e f pos) (Iu X.K ta f):=⟨F7 he.p hb⟩
theorem oU(ha:QE X o ta)(hv:QE X value tv)(hs:QV value (some (.Attribute o f pos')) pos.line X.env=Qm false):QS X (.Assign [.Attribute o f pos'] value pos) (IH X.K ta tv f):=⟨FP ha.p hv.p hs⟩
theorem vM(ha:QE X o ta)(hv:QE X value tv)(hop:Ht X op rd):QS X (.AugAssign (.Attribute o f tpos) op value pos) (uu X.K ta tv rd f):=⟨vR ha.p hv.p hop⟩
theorem Ck{pl:Sem Bool}(he:QE X o ta)(c:tX X.K C)(hm:kj X.K C m f)(F:bv X.prog X.w X.K X.mg X.base CX k f fd ps sp)(hr:cT k X.A)(hb:aM X.K fd ps ds)(hd:bc dvs ds)(hx:eQ CX X E)(ha:QA X (e::es) t)(hst:Oz (e::es) X.env=(false,eval e X.env)::Oz es X.env:=by rfl)(hpl:(QZ pos (Oz es X.env)).any (·.1)=false:=by rfl) (ht:eval (.Call (.Attribute o m apos) (e::es) [] pos) X.env=(do
   let ov ←eval o X.env
   UD apos.atName
   let (f,first) ←holding [ov] (Uj ov m pl)
   V8 pos f first (QZ pos (Oz (e::es) X.env)) (S1 pos (RH [] X.env))):=by rfl):QE X (.Call (.Attribute o m apos) (e::es) [] pos) (uf C m sp dvs E ta t):=⟨CI he.p c hm F hr hb hd hx ha.p hst hpl ht⟩
theorem bj{pl:Sem Bool}(he:QE X o ta)(c:tX X.K C)(hm:kj X.K C m f)(F:bv X.prog X.w X.K X.mg X.base CX k f fd ps sp)(hr:cT k X.A)(hb:aM X.K fd ps ds)(hd:bc dvs ds)(hx:eQ CX X E) (ht:eval (.Call (.Attribute o m apos) [] [] pos) X.env=(do
   let ov ←eval o X.env
   UD apos.atName
   let (f,first) ←holding [ov] (Uj ov m pl)
   V8 pos f first (QZ pos (Oz [] X.env)) (S1 pos (RH [] X.env))):=by rfl):QE X (.Call (.Attribute o m apos) [] [] pos) (uf C m sp dvs E ta vv):=⟨zQ he.p c hm F hr hb hd hx ht⟩
theorem lL(M:Mk X.K C f)(F:bv X.prog X.w X.K X.mg X.base CX k f fd ps sp)(hr:cT (k+1) X.A)(hg:Gl X x)(hm:X.mg x=some (.ref C))(hb:aM X.K fd ps ds)(hd:bc dvs ds)(hx:eQ CX X E)(hdb:(x==("__debug__" : OV))=false:=by decide):QE X (.Call (.Name x p) [] [] pos) (DQ C sp dvs E vv):=⟨zR M F hr hg hm hb hd hx hdb⟩
end
structure vf(K:Of)(C:Addr)(n q:OV)(st:Stmt)(f:Addr)(d:Oo):Prop where
 p:O2 K (.ref C) n=some (some (.ref f))
 fn:Tl K (.ref f)=true
 F:Fun K n q st f d
section
variable {K:Of}{C:Addr}{n q:OV}{st:Stmt}{f:Addr}{d:Oo}
theorem isM{oc:Value}{od an:Option Addr}{sl:Array (Option Value)}{kV dc pm cd ct:Value}(p:O2 K (.ref C) n=some (some (.ref f)))(fn:Tl K (.ref f)=true)
  (l:K.lookup f=some ⟨oc,od,.func (Qf n q (dh st) (cM st) (az st) .none kV dc pm an cd ct),sl⟩) (c:SF K cd q=true) (k:Qa K (.ref f)=true) :
  vf K C n q st f (Qf n q (dh st) (cM st) (az st) .none kV dc pm an cd ct):=⟨p,fn,pK l c k⟩
theorem vf.meth(I:vf K C n q st f d):kj K C n f:=⟨I.p,I.fn,I.F.kp⟩
abbrev BM(n q:OV)(st:Stmt)(us:List Value)(ps:List OV):Prop:=∀(kV dc pm:Value) (an:Option Addr) (cd ct:Value),V7 (Qf n q (dh st) (cM st) (az st) .none kV dc pm an cd ct) ⟨us,[]⟩=Qm (ps.zip us)
theorem vf.b1{x:OV}(I:vf K C n q st f d)(h:∀u,BM n q st [u] [x]:=by exact λ_ _ _ _ _ _ _=>Z):aM K d [x] []:=I.F.binds λa b c e g i us hl=>match us,hl with | [u],_=>h u a b c e g i
theorem vf.b3{x y z:OV}(I:vf K C n q st f d)(h:∀u v w,BM n q st [u,v,w] [x,y,z]:=by exact λ_ _ _ _ _ _ _ _ _=>Z):aM K d [x,y,z] []:=I.F.binds λa b c e g i us hl=>match us,hl with | [u,v,w],_=>h u v w a b c e g i
end
def EF:XK:=λ_ _ _=>False
theorem nK:eQ (Hu P w) X EF:=by
 intro pins σ H1 s1 e s2 I hx;obtain⟨x,C,T,dx,H2,rfl,ho,hb,un,hok,nx,nT,hx2,hT2,tr,hE⟩:=hx;exact hE.elim
theorem nQ(us:List Value):∀(n:Nat) (acc:Array Value),(UV (λx1 x2=>x1++x2) acc (Ou n us.toArray)).toList=acc.toList++(Ou n us).flatten
 |0,acc=>by simp
 |n+1,acc=>by
  rw[Q1,PB,nQ us n,Q1];simp
theorem mW{vs:List V}{us:List Value}(r:bc vs us):∀n:Nat,bc (Ou n vs).flatten (Ou n us).flatten
 |0=>.nil
 |n+1=>by
  rw[Q1,Q1,Wp,Wp];exact r.append (mW r n)
theorem uE:gh X (RE .Mult) (λx y H Q=>∃(p:Addr) (xs:List V) (n:Nat),x=.ref p/\y=.int n/\H p=some (.lst xs)/\xs≠[]/\xs.length*n≤1000/\∀l,H l=none->Q (.ref l) (upd H l (.lst (Ou n xs).flatten))):=by
 intro pins s σ H x y xv yv Q I rx ry h;obtain⟨p,xs,n,rfl,rfl,hp,ne,hn,q⟩:=h
 cases(show xv=OP p from rx)
 obtain⟨t,rfl⟩:=(show ∃t,yv=Rj n t from ry);obtain⟨_,its,c,rv,e⟩:=(show ObjOk X.prog X.w H s.heap p (.lst xs) from I.hok p _ hp);have l1:=rv.length;have lp:0<xs.length:=Vz.mpr ne;have n1:n≤1000:=OS (Nat.le_mul_of_pos_left n lp) hn;refine qE e (by omega) (by omega) (by rw[OY,←l1,QX];omega) ?_;have el:(UV (λx1 x2=>x1++x2) #[] (Ou (if its.toArray.isEmpty=true then 0 else(n:Int).toNat) its.toArray))=((Ou n its).flatten).toArray:=by
  apply Array.ext';have ie:its.toArray.isEmpty=false:=by
   cases its with
   |nil=>rw[WZ] at l1;omega
   |cons a b=>rfl
  rw[ie,if_neg OK,QX,nQ its n #[]];simp
 rw[el];have ln:((Ou n xs).flatten).length≤1000:=by
  rw[List.length_flatten,List.map_replicate,List.sum_replicate_nat];rw[Nat.mul_comm];exact hn
 have I2:Inv X pins σ (upd H s.heap.objs.size (.lst (Ou n xs).flatten)) { s with heap:=s.heap.push { cls:=.type "list",data:=.seq ((Ou n its).flatten).toArray} }:=
  I.laid (t':=s.toks) (λb o e=>On _ e) (Oi _) (show ObjOk X.prog X.w _ _ _ (.lst (Ou n xs).flatten) from⟨by rw[Sz];omega,(Ou n its).flatten,_,mW rv n,OO _ Z⟩)
 exact⟨.ref s.heap.objs.size,_,I2,Z,q _ (I.hok.fresh (Oi _))⟩
end B
local macro_rules
 | `(tactic| nofun)=>`(tactic| (extract_lets +lift;try dsimp -zeta -zetaDelta only[L2.Cx.nox,L2.Cx.wish,L2.bC]))
namespace My
open PySem L2 B PyProof.Rows
theorem cC{X:Cx}{pos:R1}(i:Nat){x:OV}{e:O3}{te:TE}{pos':R1}(hN:X.N.Nodup)(he:QE X e te)(hi:X.N[i]?=some x:=by rfl)(hx:wU X.env.scope x:=by first|exact Pd Z|exact O7 Z)(hs:QV e (some (.Name x pos')) pos.line X.env=Qm false:=by rfl)(hf:X.fn x=true∨X.env.scope.names.lookup x=some .local:=by first|exact .inl Z|exact .inr Z|assumption):QS X (.Assign [.Name x pos'] e pos) (ou te (jd i)):=Fz hN hi hx he hs hf
theorem eJ{N P:List OV}{sc:Sf}(a:sc.kind=.function:=by rfl)(b:sc.isCoroutine=false:=by rfl)(c:sc.isGenerator=false:=by rfl)(d:N.Nodup:=by decide +kernel)(e:N.take P.length=P:=by rfl)(f:∀x∈P,sc.names.lookup x=some .local∨sc.names.lookup x=some .cell:=by decide +kernel)(g:∀y∈sc.names,y.2≠.free:=by decide +kernel):aF N P sc:=⟨a,b,c,d,e,f,g⟩
theorem cH{X:Cx}{k j:Nat}{f:Addr}{fd:Oo}{ps:List OV}{sp:Sp}{x:OV}{p pos:R1}{e:O3}{es:List O3}{t:TA}(F:bv X.prog X.w X.K X.mg X.base dF k f fd ps sp)(hr:cT j X.A)(hm:X.mg x=some (.ref f))(hk:Qa X.K (.ref f)=true)(hb:aM X.K fd ps [])(ha:QA X (e::es) t)(hl:k≤j:=by decide)(hg:Gl X x:=by rfl)(hdb:(x==("__debug__" : OV))=false:=by decide)(he:Oz (e::es) X.env=(false,eval e X.env)::Oz es X.env:=by rfl)(hpl:(QZ pos (Oz es X.env)).any (·.1)=false:=by rfl):QE X (.Call (.Name x p) (e::es) [] pos) (xD sp [] E0 t):=uB F (hr.mono hl) hg hm hk hb .nil cW ha hdb he hpl
theorem cP{X:Cx}{a b:O3}{ta tb:TE}{pos:R1}{r:R2}(hr:Hr X r)(ha:QE X a ta)(hb:QE X b tb)(hs:pT b:=by exact λ_ _=>Z):QE X (.Subscript a b pos) (BJ r ta tb):=b7 hr ha hb hs
theorem L7{K:Of}{x qual:OV}{st:Stmt}{f:Addr}{fd:Oo}{ps:List OV}(F:Fun K x qual st f fd) (h:∀(kV doc pm:Value) (an:Option Addr) (cdv ct:Value) (us:List Value),us.length=ps.length->V7 (Qf x qual (dh st) (cM st) (az st) .none kV doc pm an cdv ct) ⟨us,[]⟩=Qm (ps.zip us):=by
 intro _ _ _ _ _ _ us hl
 match us,hl with
 | [],h2=>first|rfl | (simp at h2)
 | [_],h2=>first|rfl | (simp at h2)
 | [_,_],h2=>first|rfl | (simp at h2)
 | [_,_,_],h2=>first|rfl | (simp at h2)
 | [_,_,_,_],h2=>first|rfl | (simp at h2)
 |_::_::_::_::_::_,h2=>simp at h2):aM K fd ps []:=F.binds h
def top(i:Nat):Stmt:=PySem.Challenge.pw_paceplan_k65_keepers_refused.main.body.getD i (.Pass ⟨0,0,0,0⟩)
abbrev yz:Stmt:=top 1
abbrev yV:Stmt:=top 2
abbrev Fk:Stmt:=top 3
abbrev Fr:Stmt:=top 15
abbrev yy:Stmt:=top 16
abbrev Fq:Stmt:=top 17
abbrev yg:Stmt:=top 18
abbrev yb:Stmt:=top 19
abbrev yf:Stmt:=top 20
abbrev ye:Stmt:=top 21
abbrev ya:Stmt:=top 22
abbrev yk:Stmt:=top 23
abbrev yi:Stmt:=top 24
abbrev yd:Stmt:=top 25
abbrev yU:Stmt:=top 26
abbrev yj:Stmt:=top 30
abbrev yI:Stmt:=top 31
abbrev yT:Stmt:=top 32
abbrev yx:Stmt:=top 33
abbrev Fj:Stmt:=top 34
abbrev yu:Stmt:=top 35
abbrev Fi:Stmt:=top 37
abbrev xZ:Stmt:=top 38
abbrev Fp:Stmt:=top 39
abbrev yr:Stmt:=top 40
abbrev yh:Stmt:=top 41
abbrev Fo:Stmt:=top 42
abbrev yY:Stmt:=top 43
abbrev Fn:Stmt:=top 45
abbrev yq:Stmt:=top 46
abbrev yH:Stmt:=top 47
abbrev yc:Stmt:=top 48
abbrev yN:Stmt:=top 49
abbrev Fm:Stmt:=top 51
abbrev yM:Stmt:=top 52
abbrev yS:Stmt:=top 55
abbrev yG:Stmt:=top 56
abbrev yo:Stmt:=top 57
abbrev yn:Stmt:=top 58
abbrev Fl:Stmt:=top 59
abbrev yX:Stmt:=top 60
abbrev ym:Stmt:=top 61
abbrev yL:Stmt:=top 62
abbrev yE:Stmt:=top 63
abbrev yK:Stmt:=top 64
abbrev xY:Stmt:=top 65
abbrev yR:Stmt:=fw (top 53) 0
abbrev yQ:Stmt:=fw (top 53) 1
abbrev yB:Stmt:=fw (top 53) 2
abbrev yJ:Stmt:=fw (top 53) 3
abbrev yW:Stmt:=fw (top 53) 4
abbrev yP:Stmt:=fw (top 53) 5
abbrev yO:Stmt:=fw (top 53) 6
abbrev nE:Stmt:=fw (top 10) 0
abbrev nA:Stmt:=fw (top 11) 0
set_option genInjectivity false in
structure Ad where
 a_Q32:Addr
 d_Q32:Oo
 a_Q13:Addr
 d_Q13:Oo
 a_Q7:Addr
 d_Q7:Oo
 a_Q0:Addr
 d_Q0:Oo
 a_Q33:Addr
 d_Q33:Oo
 a_Q1:Addr
 d_Q1:Oo
 a_Q50:Addr
 d_Q50:Oo
 a_Q56:Addr
 d_Q56:Oo
 a_Q51:Addr
 d_Q51:Oo
 a_Q52:Addr
 d_Q52:Oo
 a_Q57:Addr
 d_Q57:Oo
 a_Q41:Addr
 d_Q41:Oo
 a_Q44:Addr
 d_Q44:Oo
 a_Q53:Addr
 d_Q53:Oo
 a_Q14:Addr
 d_Q14:Oo
 a_Q42:Addr
 d_Q42:Oo
 a_Q26:Addr
 d_Q26:Oo
 a_Q15:Addr
 d_Q15:Oo
 a_Q34:Addr
 d_Q34:Oo
 a_Q8:Addr
 d_Q8:Oo
 a_Q35:Addr
 d_Q35:Oo
 a_Q9:Addr
 d_Q9:Oo
 a_Q58:Addr
 d_Q58:Oo
 a_Q2:Addr
 d_Q2:Oo
 a_Q36:Addr
 d_Q36:Oo
 a_Q45:Addr
 d_Q45:Oo
 a_Q3:Addr
 d_Q3:Oo
 a_Q10:Addr
 d_Q10:Oo
 a_Q4:Addr
 d_Q4:Oo
 a_Q37:Addr
 d_Q37:Oo
 a_Q27:Addr
 d_Q27:Oo
 a_Q54:Addr
 d_Q54:Oo
 a_Q21:Addr
 d_Q21:Oo
 a_Q5:Addr
 d_Q5:Oo
 a_Q22:Addr
 d_Q22:Oo
 a_Q16:Addr
 d_Q16:Oo
 a_Q28:Addr
 d_Q28:Oo
 a_Q38:Addr
 d_Q38:Oo
 a_Q39:Addr
 d_Q39:Oo
 a_Q6:Addr
 d_Q6:Oo
 a_Q11:Addr
 d_Q11:Oo
 a_Q40:Addr
 d_Q40:Oo
 a_Q23:Addr
 d_Q23:Oo
 a_Q29:Addr
 d_Q29:Oo
 a_Q24:Addr
 d_Q24:Oo
 a_Q59:Addr
 d_Q59:Oo
 a_Q17:Addr
 d_Q17:Oo
 a_Q18:Addr
 d_Q18:Oo
 a_Q30:Addr
 d_Q30:Oo
 a_Q25:Addr
 d_Q25:Oo
 a_Q12:Addr
 d_Q12:Oo
 a_Q19:Addr
 d_Q19:Oo
 a_Q20:Addr
 d_Q20:Oo
 c_Keeper:Addr
 c_NOUGHT:Addr
 k_TURNS:XN
 k_MOST_WORKS:XN
 c_base:Addr
 c_Q46:Addr
 a_Q46:Addr
 d_Q46:Oo
 c_Q47:Addr
 a_Q47:Addr
 d_Q47:Oo
 c_Q31:Addr
 c_Q48:Addr
 c_Q55:Addr
 c_Q49:Addr
 c_Q43:Addr
structure ef(K:Of)(mg:OV->Option Value)(t:Ad):Prop where
 F_Q32:Fun K "is_whole" "is_whole" yz t.a_Q32 t.d_Q32
 b_Q32:aM K t.d_Q32 ["thing"] []
 m_Q32:mg "is_whole"=some (.ref t.a_Q32)
 F_Q13:Fun K "is_tuple_of" "is_tuple_of" yV t.a_Q13 t.d_Q13
 b_Q13:aM K t.d_Q13 ["thing","length"] []
 m_Q13:mg "is_tuple_of"=some (.ref t.a_Q13)
 F_Q7:Fun K "is_number_of" "is_number_of" Fk t.a_Q7 t.d_Q7
 b_Q7:aM K t.d_Q7 ["thing","count"] []
 m_Q7:mg "is_number_of"=some (.ref t.a_Q7)
 F_Q0:Fun K "greatest_divisor" "greatest_divisor" Fr t.a_Q0 t.d_Q0
 b_Q0:aM K t.d_Q0 ["one","other"] []
 m_Q0:mg "greatest_divisor"=some (.ref t.a_Q0)
 F_Q33:Fun K "is_ratio" "is_ratio" yy t.a_Q33 t.d_Q33
 b_Q33:aM K t.d_Q33 ["thing"] []
 m_Q33:mg "is_ratio"=some (.ref t.a_Q33)
 F_Q1:Fun K "is_above_nought" "is_above_nought" Fq t.a_Q1 t.d_Q1
 b_Q1:aM K t.d_Q1 ["thing"] []
 m_Q1:mg "is_above_nought"=some (.ref t.a_Q1)
 F_Q50:Fun K "ratio" "ratio" yg t.a_Q50 t.d_Q50
 b_Q50:aM K t.d_Q50 ["top","bottom"] []
 m_Q50:mg "ratio"=some (.ref t.a_Q50)
 F_Q56:Fun K "plus" "plus" yb t.a_Q56 t.d_Q56
 b_Q56:aM K t.d_Q56 ["one","other"] []
 m_Q56:mg "plus"=some (.ref t.a_Q56)
 F_Q51:Fun K "minus" "minus" yf t.a_Q51 t.d_Q51
 b_Q51:aM K t.d_Q51 ["one","other"] []
 m_Q51:mg "minus"=some (.ref t.a_Q51)
 F_Q52:Fun K "times" "times" ye t.a_Q52 t.d_Q52
 b_Q52:aM K t.d_Q52 ["one","other"] []
 m_Q52:mg "times"=some (.ref t.a_Q52)
 F_Q57:Fun K "over" "over" ya t.a_Q57 t.d_Q57
 b_Q57:aM K t.d_Q57 ["one","other"] []
 m_Q57:mg "over"=some (.ref t.a_Q57)
 F_Q41:Fun K "is_less" "is_less" yk t.a_Q41 t.d_Q41
 b_Q41:aM K t.d_Q41 ["one","other"] []
 m_Q41:mg "is_less"=some (.ref t.a_Q41)
 F_Q44:Fun K "lesser" "lesser" yi t.a_Q44 t.d_Q44
 b_Q44:aM K t.d_Q44 ["one","other"] []
 m_Q44:mg "lesser"=some (.ref t.a_Q44)
 F_Q53:Fun K "total" "total" yd t.a_Q53 t.d_Q53
 b_Q53:aM K t.d_Q53 ["some"] []
 m_Q53:mg "total"=some (.ref t.a_Q53)
 F_Q14:Fun K "whole_parts" "whole_parts" yU t.a_Q14 t.d_Q14
 b_Q14:aM K t.d_Q14 ["some"] []
 m_Q14:mg "whole_parts"=some (.ref t.a_Q14)
 F_Q42:Fun K "is_work" "is_work" yj t.a_Q42 t.d_Q42
 b_Q42:aM K t.d_Q42 ["thing"] []
 m_Q42:mg "is_work"=some (.ref t.a_Q42)
 F_Q26:Fun K "in_window" "in_window" yI t.a_Q26 t.d_Q26
 b_Q26:aM K t.d_Q26 ["work","turn"] []
 m_Q26:mg "in_window"=some (.ref t.a_Q26)
 F_Q15:Fun K "no_leanings" "no_leanings" yT t.a_Q15 t.d_Q15
 b_Q15:aM K t.d_Q15 ["count"] []
 m_Q15:mg "no_leanings"=some (.ref t.a_Q15)
 F_Q34:Fun K "add_lean" "add_lean" yx t.a_Q34 t.d_Q34
 b_Q34:aM K t.d_Q34 ["leanings","lean"] []
 m_Q34:mg "add_lean"=some (.ref t.a_Q34)
 F_Q8:Fun K "all_leanings" "all_leanings" Fj t.a_Q8 t.d_Q8
 b_Q8:aM K t.d_Q8 ["count","leans"] []
 m_Q8:mg "all_leanings"=some (.ref t.a_Q8)
 F_Q35:Fun K "drawn_in" "drawn_in" yu t.a_Q35 t.d_Q35
 b_Q35:aM K t.d_Q35 ["sheet"] []
 m_Q35:mg "drawn_in"=some (.ref t.a_Q35)
 F_Q9:Fun K "kept_windows" "kept_windows" Fi t.a_Q9 t.d_Q9
 b_Q9:aM K t.d_Q9 ["works","left"] []
 m_Q9:mg "kept_windows"=some (.ref t.a_Q9)
 F_Q58:Fun K "held" "held" xZ t.a_Q58 t.d_Q58
 b_Q58:aM K t.d_Q58 ["windows","begin","end"] []
 m_Q58:mg "held"=some (.ref t.a_Q58)
 F_Q2:Fun K "tightest_places" "tightest_places" Fp t.a_Q2 t.d_Q2
 b_Q2:aM K t.d_Q2 ["windows","amounts","count"] []
 m_Q2:mg "tightest_places"=some (.ref t.a_Q2)
 F_Q36:Fun K "tightest" "tightest" yr t.a_Q36 t.d_Q36
 b_Q36:aM K t.d_Q36 ["works","left"] []
 m_Q36:mg "tightest"=some (.ref t.a_Q36)
 F_Q45:Fun K "layers" "layers" yh t.a_Q45 t.d_Q45
 b_Q45:aM K t.d_Q45 ["works"] []
 m_Q45:mg "layers"=some (.ref t.a_Q45)
 F_Q3:Fun K "layer_density" "layer_density" Fo t.a_Q3 t.d_Q3
 b_Q3:aM K t.d_Q3 ["works","layer"] []
 m_Q3:mg "layer_density"=some (.ref t.a_Q3)
 F_Q10:Fun K "layer_speeds" "layer_speeds" yY t.a_Q10 t.d_Q10
 b_Q10:aM K t.d_Q10 ["works"] []
 m_Q10:mg "layer_speeds"=some (.ref t.a_Q10)
 F_Q4:Fun K "first_to_come" "first_to_come" Fn t.a_Q4 t.d_Q4
 b_Q4:aM K t.d_Q4 ["works","leanings","waiting"] []
 m_Q4:mg "first_to_come"=some (.ref t.a_Q4)
 F_Q37:Fun K "order_of" "order_of" yq t.a_Q37 t.d_Q37
 b_Q37:aM K t.d_Q37 ["works","leans"] []
 m_Q37:mg "order_of"=some (.ref t.a_Q37)
 F_Q27:Fun K "deal_turn" "deal_turn" yH t.a_Q27 t.d_Q27
 b_Q27:aM K t.d_Q27 ["works","order","left","turn","speed"] []
 m_Q27:mg "deal_turn"=some (.ref t.a_Q27)
 F_Q54:Fun K "dealt" "dealt" yc t.a_Q54 t.d_Q54
 b_Q54:aM K t.d_Q54 ["works","leans","speeds"] []
 m_Q54:mg "dealt"=some (.ref t.a_Q54)
 F_Q21:Fun K "least_plan" "least_plan" yN t.a_Q21 t.d_Q21
 b_Q21:aM K t.d_Q21 ["sheet"] []
 m_Q21:mg "least_plan"=some (.ref t.a_Q21)
 F_Q5:Fun K "waiting_works" "waiting_works" Fm t.a_Q5 t.d_Q5
 b_Q5:aM K t.d_Q5 ["works","amounts","turn"] []
 m_Q5:mg "waiting_works"=some (.ref t.a_Q5)
 F_Q22:Fun K "renumbered" "renumbered" yM t.a_Q22 t.d_Q22
 b_Q22:aM K t.d_Q22 ["pieces","numbers"] []
 m_Q22:mg "renumbered"=some (.ref t.a_Q22)
 F_Q16:Fun K "_law_cell_at" "_law_cell_at" yS t.a_Q16 t.d_Q16
 b_Q16:aM K t.d_Q16 ["_law_script","_law_k"] []
 m_Q16:mg "_law_cell_at"=some (.ref t.a_Q16)
 F_Q28:Fun K "_law_draws" "_law_draws" yG t.a_Q28 t.d_Q28
 b_Q28:aM K t.d_Q28 ["_law_cell","_law_many"] []
 m_Q28:mg "_law_draws"=some (.ref t.a_Q28)
 F_Q38:Fun K "_law_take" "_law_take" yo t.a_Q38 t.d_Q38
 b_Q38:aM K t.d_Q38 ["_law_tape","_law_many"] []
 m_Q38:mg "_law_take"=some (.ref t.a_Q38)
 F_Q39:Fun K "_law_made" "_law_made" yn t.a_Q39 t.d_Q39
 b_Q39:aM K t.d_Q39 ["_law_top","_law_bottom"] []
 m_Q39:mg "_law_made"=some (.ref t.a_Q39)
 F_Q6:Fun K "_law_is_amount" "_law_is_amount" Fl t.a_Q6 t.d_Q6
 b_Q6:aM K t.d_Q6 ["_law_thing"] []
 m_Q6:mg "_law_is_amount"=some (.ref t.a_Q6)
 F_Q11:Fun K "_law_is_right" "_law_is_right" yX t.a_Q11 t.d_Q11
 b_Q11:aM K t.d_Q11 ["_law_turn","_law_many","_law_last","_law_amount"] []
 m_Q11:mg "_law_is_right"=some (.ref t.a_Q11)
 F_Q40:Fun K "_law_told" "_law_told" ym t.a_Q40 t.d_Q40
 b_Q40:aM K t.d_Q40 ["_law_keeper","_law_way","_law_last","_law_amount"] []
 m_Q40:mg "_law_told"=some (.ref t.a_Q40)
 F_Q23:Fun K "_law_looked" "_law_looked" yL t.a_Q23 t.d_Q23
 b_Q23:aM K t.d_Q23 ["_law_keeper"] []
 m_Q23:mg "_law_looked"=some (.ref t.a_Q23)
 F_Q29:Fun K "_law_asked" "_law_asked" yE t.a_Q29 t.d_Q29
 b_Q29:aM K t.d_Q29 ["_law_keeper","_law_last","_law_amount"] []
 m_Q29:mg "_law_asked"=some (.ref t.a_Q29)
 F_Q24:Fun K "_law_filled" "_law_filled" yK t.a_Q24 t.d_Q24
 b_Q24:aM K t.d_Q24 ["_law_tape"] []
 m_Q24:mg "_law_filled"=some (.ref t.a_Q24)
 F_Q59:Fun K "law" "law" xY t.a_Q59 t.d_Q59
 b_Q59:aM K t.d_Q59 ["_law_script"] []
 m_Q59:mg "law"=some (.ref t.a_Q59)
 F_Q17:Fun K "__init__" "Keeper.__init__" yR t.a_Q17 t.d_Q17
 b_Q17:aM K t.d_Q17 ["self"] []
 K_Keeper:L2.Mk K t.c_Keeper t.a_Q17
 F_Q18:Fun K "come" "Keeper.come" yQ t.a_Q18 t.d_Q18
 b_Q18:aM K t.d_Q18 ["self","last","amount"] []
 M_Keeper_come:kj K t.c_Keeper "come" t.a_Q18
 F_Q30:Fun K "go" "Keeper.go" yB t.a_Q30 t.d_Q30
 b_Q30:aM K t.d_Q30 ["self"] []
 M_Keeper_go:kj K t.c_Keeper "go" t.a_Q30
 F_Q25:Fun K "now" "Keeper.now" yJ t.a_Q25 t.d_Q25
 b_Q25:aM K t.d_Q25 ["self"] []
 M_Keeper_now:kj K t.c_Keeper "now" t.a_Q25
 F_Q12:Fun K "works" "Keeper.works" yW t.a_Q12 t.d_Q12
 b_Q12:aM K t.d_Q12 ["self"] []
 M_Keeper_works:kj K t.c_Keeper "works" t.a_Q12
 F_Q19:Fun K "left" "Keeper.left" yP t.a_Q19 t.d_Q19
 b_Q19:aM K t.d_Q19 ["self"] []
 M_Keeper_left:kj K t.c_Keeper "left" t.a_Q19
 F_Q20:Fun K "plan" "Keeper.plan" yO t.a_Q20 t.d_Q20
 b_Q20:aM K t.d_Q20 ["self"] []
 M_Keeper_plan:kj K t.c_Keeper "plan" t.a_Q20
 m_Keeper:mg "Keeper"=some (.ref t.c_Keeper)
 cl_Keeper:tX K t.c_Keeper
 n_Keeper_turn:cO K t.c_Keeper "turn"
 n_Keeper_known:cO K t.c_Keeper "known"
 n_Keeper_rest:cO K t.c_Keeper "rest"
 n_Keeper_done:cO K t.c_Keeper "done"
 m_NOUGHT:mg "NOUGHT"=some (.ref t.c_NOUGHT)
 q_NOUGHT:∀H,bu K H t.c_NOUGHT [.int (0),.int (1)]
 m_TURNS:mg "TURNS"=some (.int (24) t.k_TURNS)
 m_MOST_WORKS:mg "MOST_WORKS"=some (.int (20) t.k_MOST_WORKS)
 X_Q46:XC K t.c_Q46 t.a_Q46 (.ref t.c_base::j4)
 F_Q46:Fun K "__init__" "NoWork.__init__" nE t.a_Q46 t.d_Q46
 b_Q46:aM K t.d_Q46 ["self","text"] []
 m_Q46:mg "NoWork"=some (.ref t.c_Q46)
 n_Q46_text:cO K t.c_Q46 "text"
 g_Q46:rp K t.c_Q46
 X_Q47:XC K t.c_Q47 t.a_Q47 (.ref t.c_base::j4)
 F_Q47:Fun K "__init__" "NoTurn.__init__" nA t.a_Q47 t.d_Q47
 b_Q47:aM K t.d_Q47 ["self","text"] []
 m_Q47:mg "NoTurn"=some (.ref t.c_Q47)
 n_Q47_text:cO K t.c_Q47 "text"
 g_Q47:rp K t.c_Q47
 m_Q31:mg "PaceError"=some (.ref t.c_Q31)
 m_Q48:mg "NoBill"=some (.ref t.c_Q48)
 m_Q55:mg "NoRow"=some (.ref t.c_Q55)
 m_Q49:mg "NoRoom"=some (.ref t.c_Q49)
 m_Q43:mg "NoRatio"=some (.ref t.c_Q43)
 x_cW:TJ K (.ref t.c_Q46) (.ref t.c_Q31)=some true
 y_sW:P3 K (.ref t.c_Q46) (.ref t.c_Q46)=some true
 y_oW:P3 K (.ref t.c_Q46) (.ref t.c_Q47)=some false
 y_vW:P3 K (.ref t.c_Q46) (.type "ValueError")=some true
 y_nW:TK K (.ref t.c_Q46) [.ref t.c_Q48,.ref t.c_Q55]=some false
 x_cT:TJ K (.ref t.c_Q47) (.ref t.c_Q31)=some true
 y_sT:P3 K (.ref t.c_Q47) (.ref t.c_Q47)=some true
 y_oT:P3 K (.ref t.c_Q47) (.ref t.c_Q46)=some false
 y_vT:P3 K (.ref t.c_Q47) (.type "ValueError")=some true
 y_nT:TK K (.ref t.c_Q47) [.ref t.c_Q48,.ref t.c_Q55]=some false
 z_ValueError:mg "ValueError"=none
 z_abs:mg "abs"=none
 z_any:mg "any"=none
 z_bool:mg "bool"=none
 z_enumerate:mg "enumerate"=none
 z_int:mg "int"=none
 z_isinstance:mg "isinstance"=none
 z_len:mg "len"=none
 z_list:mg "list"=none
 z_max:mg "max"=none
 z_min:mg "min"=none
 z_range:mg "range"=none
 z_repr:mg "repr"=none
 z_sum:mg "sum"=none
 z_tuple:mg "tuple"=none
def ig(_:Of):Sp:=λvs H Q _=>∃a b:Int,vs=[.int a,.int b]/\Q (.int (OG a b:Nat)) H
theorem Av(hB:0<B)(hb:0<b)(h1:B∣4834023173650597876544881407704768017555162023798869768948261467874213139288822304401239266415271355416806678311752296500438875701050478901734985823099062742197929195130163826648664551259341770021719244800000000000000000000000)(h2:b∣4834023173650597876544881407704768017555162023798869768948261467874213139288822304401239266415271355416806678311752296500438875701050478901734985823099062742197929195130163826648664551259341770021719244800000000000000000000000):0<B*(b/(OG B b:Int))/\B*(b/(OG B b:Int))∣4834023173650597876544881407704768017555162023798869768948261467874213139288822304401239266415271355416806678311752296500438875701050478901734985823099062742197929195130163826648664551259341770021719244800000000000000000000000/\B∣B*(b/(OG B b:Int))/\b∣B*(b/(OG B b:Int)):=by
 obtain⟨m,rfl⟩:=PP (Qg hB);obtain⟨n,rfl⟩:=PP (Qg hb);have e:(m:Int)*((n:Int)/(OG m n:Int))=((Nat.lcm m n:Nat):Int):=by
  show(m:Int)*((n:Int)/((Nat.gcd m n:Nat):Int))=_;rw[←Int.natCast_ediv,←Td];unfold Nat.lcm;rw[Nat.mul_div_assoc _ (Nat.gcd_dvd_right m n)]
 rw[e];have p:=Nat.lcm_pos (show 0<m by omega) (show 0<n by omega);refine⟨by omega,?_,PZ.mpr (Nat.dvd_lcm_left m n),PZ.mpr (Nat.dvd_lcm_right m n)⟩;have a1:m∣4834023173650597876544881407704768017555162023798869768948261467874213139288822304401239266415271355416806678311752296500438875701050478901734985823099062742197929195130163826648664551259341770021719244800000000000000000000000:=PZ.mp h1;have a2:n∣4834023173650597876544881407704768017555162023798869768948261467874213139288822304401239266415271355416806678311752296500438875701050478901734985823099062742197929195130163826648664551259341770021719244800000000000000000000000:=PZ.mp h2;exact PZ.mpr (Nat.lcm_dvd a1 a2)
def vY(H:Hp)(Q:VK)(r:R):Prop:=∀p,H p=none->Q (.ref p) (upd H p (.tup [.int r.1,.int r.2]))
def Kx(K:Of)(H:Hp)(Q:VK)(r:R):Prop:=∀(v:V) (H':Hp),aD H H'->RV K H' v r->Q v H'
def xR(_:Of):Sp:=λvs H Q _=>∃a b:Int,vs=[.int a,.int b]/\0<b/\b.natAbs<2^4000/\vY H Q (dZ a b)
def BP(K:Of):Sp:=λvs H Q _=>∃(v w:V) (r q:R) (n m:Nat),vs=[v,w]/\RV K H v r/\RV K H w q/\Wf n r/\Wf m q/\n+m+1≤3000/\vY H Q (cn r q)
def xQ(K:Of):Sp:=λvs H Q _=>∃(v w:V) (r q:R) (n m:Nat),vs=[v,w]/\RV K H v r/\RV K H w q/\Wf n r/\Wf m q/\n+m+1≤3000/\vY H Q (fQ r q)
def Nl(K:Of)(H:Hp)(a:Addr)(xs:List V):Prop:=ba K H a xs∨bu K H a xs
def xP(K:Of):Sp:=λvs H Q _=>∃(a:Addr) (xs:List V) (rs:List R) (n D:Nat),vs=[.ref a]/\Nl K H a xs/\Kl K H xs rs/\(∀r∈rs,Wf n r/\r.2∣(D:Int))/\0<D/\D<2^n/\rs.length≤64/\n≤900/\∀(v':V) (H':Hp),aD H H'->RV K H' v' (oA rs)->Q v' H'
theorem vc{D i n:Nat}{r:R}(h:∀p∈ps,p.1∣(D:Int))(hr:r.2∣(D:Int)):∀p∈fX ps r.2 r.1,p.1∣(D:Int):=λp hp=>by
 rcases(jp ps r.2 r.1 p.1).mp (OD.mpr ⟨p,hp,Z⟩) with z|z
 ·obtain⟨q,hq,e⟩:=OD.mp z;rw[←e];exact h q hq
 ·rw[z];exact hr
theorem AH{D n i:Nat}(ok:ki n i ps)(hd:∀p∈ps,p.1∣(D:Int))(hi:i≤64){q:Int×Int}(hq:q∈ps):Bq D (64*2^n) (dZ q.2 q.1):=by
 have b:=(ok.bot q hq).1;refine uX b (hd q hq) (OS (ok.top q hq) ?_);refine OS (QR _ hi) (Ux _ (by omega))
theorem Bi(h:Bq D (64*2^n*j) r)(hj:j≤64)(h0:0<D)(hD:D<2^n):Wf (2*n+12) r:=by
 refine h.wf h0 (OI hD (P4 (by decide) (by omega))) ?_;have a:64*2^n*j≤64*2^n*64:=Rz _ hj;have b:64*2^n*j*D<64*2^n*64*2^n:=Pq (QR _ a) (Nat.mul_lt_mul_of_pos_left hD (Vl (Vl (by decide) (WT (by decide))) (by decide)));refine OI b ?_;rw[show 2*n+12=n+(n+12) by omega,WU,WU,show(2:Nat)^12=4096 by decide];rw[show 64*2^n*64*2^n=2^n*(2^n*4096) by rw[show(4096:Nat)=64*64 by decide];ac_rfl];exact Oi _
theorem gQ{a g:Int}(hg:0<g)(h:a.natAbs<2^4000):(a/g).natAbs<2^4000:=Pq (fU a hg) h
theorem mf(hb:0<b)(h:b.natAbs<2^4000):((OG a b:Nat):Int).natAbs<2^4000:=by
 have z:OG a b≤b.natAbs:=VH (by omega) (by have:=Rq a b;exact SN.mpr this);have e:((OG a b:Nat):Int).natAbs=OG a b:=Sv _;omega
theorem dq{i:Int}(h:i.natAbs<2^n)(hn:n≤4000):i.natAbs<2^4000:=OI h (P4 (by decide) hn)
def BQ(K:Of):Sp:=λvs H Q _=>∃(v w:V) (r:R) (n m:Nat),vs=[v,w]/\RV K H v r/\RV K H w ((m:Int),1)/\Wf n r/\0<m/\m≤24/\n≤2000/\Kx K H Q (fQ r (1,(m:Int)))
theorem GL{m:Nat}(h:0<m):dZ 1 (m:Int)=(1,(m:Int)):=eW (by omega) (by omega) (by simp) (by omega)
theorem Gb{m:Nat}(h:0<m)(h':m≤24):Wf 5 ((1,(m:Int)):R):=⟨by show(0:Int)<m;omega,by show(1:Int).natAbs<2^5;decide,by show((m:Int)).natAbs<32;omega,by simp⟩
theorem Dz{K:Of}{H:Hp}{xs:List V}{rs:List R}(h:di (RV K H) xs rs):Kl K H xs rs:=⟨h.len,λi x r hx hr=>by obtain⟨d,hd,p⟩:=h.at hx;rw[hr] at hd;cases hd;exact p⟩
theorem di.setI{α:Type}{P:V->α->Prop}{v:V}{d:α}(k:P v d):∀{xs:List V} {ds:List α} (i:Nat),di P xs ds->di P (xs.set i v) (ds.set i d)
 |_,_,_,.nil=>.nil
 |_,_,0,.cons _ t=>.cons k t
 |_,_,i+1,.cons h t=>.cons h (di.setI k i t)
theorem di.rep{α:Type}{P:V->α->Prop}{v:V}{d:α}(k:P v d):∀n:Nat,di P (Ou n v) (Ou n d)
 |0=>.nil
 |n+1=>.cons k (di.rep k n)
theorem pG(h:t<n):Az n (t:Int)=some t:=by
 unfold Az;simp;omega
abbrev Wk:=Nat×Nat×R
def Bj(K:Of)(H:Hp)(v:V)(w:Wk):Prop:=∃p x,v=.ref p/\bu K H p [.int w.1,.int w.2.1,x]/\RV K H x w.2.2
theorem Bj.mono{K:Of}{H H':Hp}{v:V}{w:Wk}(h:Bj K H v w)(t:aV K H H'):Bj K H' v w:=let ⟨p,x,e,s,r⟩:=h;⟨p,x,e,t _ _ s,r.mono t⟩
structure Hw(r:R):Prop where
 top:1≤r.1
 top':r.1≤12*r.2
 bot:1≤r.2
 dvd:r.2∣4834023173650597876544881407704768017555162023798869768948261467874213139288822304401239266415271355416806678311752296500438875701050478901734985823099062742197929195130163826648664551259341770021719244800000000000000000000000
 wf:Wf 760 r
structure bD(w:Wk):Prop where
 le:w.1≤w.2.1
 lt:w.2.1<24
 am:Hw w.2.2
def gf(K:Of)(H:Hp)(v:V)(ws:List Wk):Prop:=∃p xs,v=.ref p/\bu K H p xs/\di (Bj K H) xs ws
theorem gf.mono{K:Of}{H H':Hp}{v:V}{ws:List Wk}(h:gf K H v ws)(t:aV K H H'):gf K H' v ws:=let ⟨p,xs,e,s,a⟩:=h;⟨p,xs,e,t _ _ s,a.mono λ_ _ q=>q.mono t⟩
def bo(ls:List Nat):List V:=ls.map λn:Nat=>V.int n
def cj(ws:List Wk):List Int:=ws.map λw=>w.2.2.1*4834023173650597876544881407704768017555162023798869768948261467874213139288822304401239266415271355416806678311752296500438875701050478901734985823099062742197929195130163826648664551259341770021719244800000000000000000000000/w.2.2.2
def fh(B:Int)(ws:List Wk):List Int:=ws.map λw=>w.2.2.1*(B/w.2.2.2)
def kX(K:Of):Sp:=λvs H Q _=>∃(a:Addr) (xs:List V) (ws:List Wk),vs=[.ref a]/\ba K H a xs/\di (RV K H) xs (ws.map λw=>w.2.2)/\ws.length≤64/\(∀w∈ws,bD w)/\∀(l:Addr) (B:Int) (H':Hp),aD H H'->H l=none->0<B->B∣4834023173650597876544881407704768017555162023798869768948261467874213139288822304401239266415271355416806678311752296500438875701050478901734985823099062742197929195130163826648664551259341770021719244800000000000000000000000->(∀w∈ws,w.2.2.2∣B)->H' l=some (.lst ((fh B ws).map V.int))->Q (.ref l) H'
def fV(w:Wk)(t:Nat):Bool:=decide (w.1≤t)&&decide (t≤w.2.1)
def oG(K:Of):Sp:=λvs H Q _=>∃(v:V) (w:Wk) (t:Nat),vs=[v,.int t]/\Bj K H v w/\Q (.bl (fV w t)) H
def gr(ls:List Nat)(w:Wk):List Nat:=(Og ls.length).filter λi=>fV w (ls.getD i 0)
def bz(ls:List Nat)(w:Wk):Wn:=match gr ls w with
 | []=>none
 |x::r=>some (x,(x::r).getLast (by simp))
def tS(K:Of)(H:Hp)(v:V):Wn->Prop
 |none=>v=.non
 |some q=>∃p,v=.ref p/\bu K H p [.int q.1,.int q.2]
theorem tS.mono{K:Of}{H H':Hp}{v:V}{o:Wn}(h:tS K H v o)(t:aV K H H'):tS K H' v o:=by
 cases o with
 |none=>exact h
 |some q=>obtain⟨p,e,s⟩:=h;exact⟨p,e,t _ _ s⟩
def j8(K:Of):Sp:=λvs H Q _=>∃(v:V) (q:Addr) (ws:List Wk) (ls:List Nat),vs=[v,.ref q]/\gf K H v ws/\ws.length≤64/\bu K H q (bo ls)/\ls.length≤24/\∀(l:Addr) (xs:List V) (H':Hp),aD H H'->H l=none->H' l=some (.lst xs)->di (tS K H') xs (ws.map (bz ls))->Q (.ref l) H'
def BT(K:Of):Sp:=λvs H Q _=>∃(l:Addr) (xs:List V) (os:List Wn) (p:Pl),vs=[.ref l,.int p.1,.int p.2]/\ba K H l xs/\di (tS K H) xs os/\os.length≤64/\∀(D:Addr) (H':Hp),aD H H'->H D=none->H' D=some (.lst (bo (cr os p)))->Q (.ref D) H'
def gU(as:List Int)(i:Nat):Int:=as.getD i 0
theorem C9{os:List Wn}(hb:∀x∈as,0≤x/\x≤58008278083807174518538576892457216210661944285586437227379137614490557671465867652814871196983256265001680139741027558005266508412605746820819829877188752906375150341561965919783974615112101240260630937600000000000000000000000)(hn:os.length≤64)(q:Pl):0≤dj os (gU as) q/\dj os (gU as) q≤3712529797363659169186468921117261837482364434277531982552264807327395690973815529780151756606928400960107528943425763712337056538406767796532469112140080186008009621859965818866174375367174479376680380006400000000000000000000000:=by
 have h0:∀i,0≤gU as i/\gU as i≤58008278083807174518538576892457216210661944285586437227379137614490557671465867652814871196983256265001680139741027558005266508412605746820819829877188752906375150341561965919783974615112101240260630937600000000000000000000000:=λi=>by
  unfold gU;rw[Op]
  cases e:as[i]? with
  |none=>exact⟨by decide,by decide⟩
  |some x=>exact hb x (Os e)
 have key:∀l:List Nat,0≤(l.map (gU as)).sum/\(l.map (gU as)).sum≤58008278083807174518538576892457216210661944285586437227379137614490557671465867652814871196983256265001680139741027558005266508412605746820819829877188752906375150341561965919783974615112101240260630937600000000000000000000000*(l.length:Int):=by
  intro l
  induction l with
  |nil=>exact⟨by simp,by simp⟩
  |cons x l ih=>
   rw[O1,Sr,Ph];have:=h0 x;omega
 have k:=key (cr os q);have l:(cr os q).length≤os.length:=by
  unfold cr;exact OS (Py _ _) (by rw[PF];exact Oi _)
 unfold dj;omega
def mJ(K:Of)(H:Hp)(S:Pl->Prop)(L:Pl->Int)(vb:Addr)(ld ln:Int):Prop:=(ld=-1/\ln=1/\∀r,¬S r)∨∃q:Pl,bu K H vb [.int q.1,.int q.2]/\ld=L q/\ln=bO q/\pU S L q
theorem mJ.mono{K:Of}{H H':Hp}{S S':Pl->Prop}{L:Pl->Int}{vb:Addr}{ld ln:Int}(h:mJ K H S L vb ld ln)(t:aV K H H')(e:∀r,S' r↔S r):mJ K H' S' L vb ld ln:=by
 rcases h with⟨a,b,c⟩ | ⟨q,hq,a,b,c⟩
 ·exact .inl ⟨a,b,λr hr=>c r ((e r).mp hr)⟩
 ·exact .inr ⟨q,t _ _ hq,a,b,c.congr e⟩
theorem wQ(e:∀r,S r↔r=q):pU S L q:=⟨(e q).mpr Z,λr hr=>by rw[(e r).mp hr];exact .inr ⟨Z,.inr ⟨Z,Oi _⟩⟩⟩
def iF(K:Of):Sp:=λvs H Q _=>∃(l a:Addr) (xs:List V) (os:List Wn) (as:List Int) (n:Nat),vs=[.ref l,.ref a,.int n]/\ba K H l xs/\di (tS K H) xs os/\os.length≤64/\ba K H a (as.map V.int)/\as.length=os.length/\(∀x∈as,0≤x/\x≤58008278083807174518538576892457216210661944285586437227379137614490557671465867652814871196983256265001680139741027558005266508412605746820819829877188752906375150341561965919783974615112101240260630937600000000000000000000000)/\1≤n/\n≤24/\∀(p:Addr) (q:Pl) (H':Hp),aD H H'->bu K H' p [.int q.1,.int q.2]->pU (im n) (dj os (gU as)) q->Q (.ref p) H'
def C5(ls:List Nat):PyData:=.tuple (ls.map λn:Nat=>Xh n)
def K4(ls:List Nat)(os:List Wn)(q:Pl):PyData:=.tuple [C5 ((ls.drop q.1).take (q.2+1-q.1)),C5 (cr os q)]
theorem zZ(ok:∀w∈ws,bD w)(b0:0<B)(bd:B∣4834023173650597876544881407704768017555162023798869768948261467874213139288822304401239266415271355416806678311752296500438875701050478901734985823099062742197929195130163826648664551259341770021719244800000000000000000000000):∀x∈fh B ws,0≤x/\x≤58008278083807174518538576892457216210661944285586437227379137614490557671465867652814871196983256265001680139741027558005266508412605746820819829877188752906375150341561965919783974615112101240260630937600000000000000000000000:=by
 intro x hx;obtain⟨w,hw,rfl⟩:=OD.mp hx;have o:=(ok w hw).am;have B84:=R0 (by decide) bd;have q0:0≤B/w.2.2.2:=RS (by omega) (by have:=o.bot;omega);have q1:B/w.2.2.2≤B:=Uy _ (by omega);have t1:=o.top;have t2:=o.top';refine⟨Vi (by omega) q0,?_⟩;have h1:w.2.2.1*(B/w.2.2.2)≤12*w.2.2.2*(B/w.2.2.2):=SV t2 q0;have h2:w.2.2.2*(B/w.2.2.2)≤B:=Int.mul_ediv_self_le (by have:=o.bot;omega);rw[VD] at h1;omega
theorem xc(ok:∀w∈ws,bD w):∀x∈cj ws,0≤x/\x≤58008278083807174518538576892457216210661944285586437227379137614490557671465867652814871196983256265001680139741027558005266508412605746820819829877188752906375150341561965919783974615112101240260630937600000000000000000000000:=by
 intro x hx;obtain⟨w,hw,rfl⟩:=OD.mp hx;have o:=(ok w hw).am;have t1:=o.top;have t2:=o.top';refine⟨RS (by omega) (by have:=o.bot;omega),?_⟩;refine Int.le_of_lt_add_one (Int.ediv_lt_of_lt_mul (by have:=o.bot;omega) ?_);have:=o.bot;omega
theorem qh(ok:∀w∈ws,bD w)(dv:∀w∈ws,w.2.2.2∣B)(i:Nat):gU (cj ws) i*B=gU (fh B ws) i*4834023173650597876544881407704768017555162023798869768948261467874213139288822304401239266415271355416806678311752296500438875701050478901734985823099062742197929195130163826648664551259341770021719244800000000000000000000000:=by
 unfold gU cj fh;rw[Op,Op,OB,OB]
 cases e:ws[i]? with
 |none=>simp
 |some w=>
  have hw:=Os e;have o:=(ok w hw).am;obtain⟨m,hm⟩:=dv w hw;obtain⟨n,hn⟩:=o.dvd;have nz:w.2.2.2≠0:=by have:=o.bot;omega
  show w.2.2.1*4834023173650597876544881407704768017555162023798869768948261467874213139288822304401239266415271355416806678311752296500438875701050478901734985823099062742197929195130163826648664551259341770021719244800000000000000000000000/w.2.2.2*B=w.2.2.1*(B/w.2.2.2)*4834023173650597876544881407704768017555162023798869768948261467874213139288822304401239266415271355416806678311752296500438875701050478901734985823099062742197929195130163826648664551259341770021719244800000000000000000000000;have e1:w.2.2.1*4834023173650597876544881407704768017555162023798869768948261467874213139288822304401239266415271355416806678311752296500438875701050478901734985823099062742197929195130163826648664551259341770021719244800000000000000000000000/w.2.2.2=w.2.2.1*n:=by
   rw[hn,SH];exact OT _ nz
  have e2:B/w.2.2.2=m:=by
   rw[hm];exact OT _ nz
  rw[e1,e2,hm,hn]
  ac_rfl
theorem Dp{ls:List Nat}(h1:a≤b)(h2:b≤ls.length):mT (bo ls) (some (a:Int)) (some (b:Int))=bo ((ls.drop a).take (b-a)):=by
 unfold mT bo;rw[HT.sIx_nat,HT.sIx_nat,Ol,show min b ls.length=b from W1 h2,show min a ls.length=a from W1 (by omega),List.map_take,List.map_drop]
def Ex(K:Of)(H:Hp)(v:V)(y:List Nat×List Nat):Prop:=∃p a b,v=.ref p/\bu K H p [.ref a,.ref b]/\bu K H a (bo y.1)/\bu K H b (bo y.2)
theorem Ex.mono{K:Of}{H H':Hp}{v:V}{y:List Nat×List Nat}(h:Ex K H v y)(t:aV K H H'):Ex K H' v y:=let ⟨p,a,b,e,h1,h2,h3⟩:=h;⟨p,a,b,e,t _ _ h1,t _ _ h2,t _ _ h3⟩
def dm(ls:List Nat)(q:Pl):List Nat:=(ls.drop q.1).take (q.2+1-q.1)
def dr(ls:List Nat)(q:Pl):List Nat:=ls.filter λt=>!(dm ls q).contains t
def uJ(ws:List Wk)(ls:List Nat):Nat:=ws.countP λw=>(bz ls w).isSome
theorem fu:i∈gr ls w↔i<ls.length/\fV w (ls.getD i 0)=true:=by
 unfold gr;rw[OL,Ow]
theorem t7(h:gr ls w=[]):bz ls w=none:=by unfold bz;rw[h]
theorem qa(h:gr ls w=x:: r):bz ls w=some (x,(x:: r).getLast (by simp)):=by unfold bz;rw[h]
theorem fY:(bz ls w).isSome=true↔∃t∈ls,fV w t=true:=by
 cases c:gr ls w with
 |nil=>
  rw[t7 c];refine⟨λh=>(by cases h),λ⟨t,ht,e⟩=>?_⟩;obtain⟨i,hi,rfl⟩:=Pj.mp ht;have m:i∈gr ls w:=fu.mpr ⟨hi,by rw[aB 0 (Oh hi)];exact e⟩;rw[c] at m
  cases m
 |cons x r=>
  rw[qa c];refine⟨λ_=>?_,λ_=>Z⟩;have m:x∈gr ls w:=by rw[c];exact Oq
  obtain⟨hi,e⟩:=fu.mp m;rw[aB 0 (Oh hi)] at e;exact⟨_,OW hi,e⟩
theorem sF(ls:List Nat)(w:Wk):(gr ls w).Pairwise (· < ·):=QU _ UX
theorem iQ(h:bz ls w=some (a,b)):a∈gr ls w/\b∈gr ls w/\∀i∈gr ls w,a≤i/\i≤b:=by
 cases c:gr ls w with
 |nil=>rw[t7 c] at h;cases h
 |cons x r=>
  rw[qa c] at h;have srt:=sF ls w;rw[c] at srt;injection h with h;injection h with h1 h2;subst h1 h2;refine⟨Oq,List.getLast_mem _,λi hi=>⟨?_,?_⟩⟩
  ·rcases Ov.mp hi with z|z
   ·omega
   ·have:=(List.pairwise_cons.mp srt).1 i z;omega
  ·have e:=Tf (show(x::r)≠[] by simp);rw[←e] at srt hi;rcases OU.mp hi with z|z
   ·have:=(S2.mp srt).2.2 i z _ (Ox.mpr Z);omega
   ·have:=Ox.mp z;omega
theorem GI{ls:List Nat}(nd:ls.Nodup){i j:Nat}{hi:i<ls.length}{hj:j<ls.length}(e:ls[i]=ls[j]):i=j:=by
 have h:=QC.mp nd;rcases Nat.lt_trichotomy i j with z|z|z
 ·exact absurd e (h i j hi hj z)
 ·exact z
 ·exact absurd e.symm (h j i hj hi z)
theorem o7(nd:ls.Nodup)(hp:im ls.length p)(hi:i<ls.length):ls[i]∈dm ls p↔p.1≤i/\i≤p.2:=by
 have h1:=hp.1;have h2:=hp.2;unfold dm;constructor
 ·intro h;obtain⟨j,hj,e⟩:=Pj.mp h;rw[PX,RG] at hj;rw[T7,Wq] at e;have:=GI nd e;omega
 ·rintro⟨a,b⟩;refine Pj.mpr ⟨i-p.1,by rw[PX,RG];omega,?_⟩;rw[T7,Wq]
  congr 1
  omega
theorem nH(nd:ls.Nodup)(hp:im ls.length p):(bz (dr ls p) w).isSome=((bz ls w).isSome&&!gw p.1 p.2 (bz ls w)):=by
 have key:(bz (dr ls p) w).isSome=true↔∃i,∃hi:i<ls.length,fV w ls[i]=true/\¬(p.1≤i/\i≤p.2):=by
  rw[fY];constructor
  ·rintro⟨t,ht,e⟩;unfold dr at ht;obtain⟨m,c⟩:=OL.mp ht;obtain⟨i,hi,rfl⟩:=Pj.mp m;refine⟨i,hi,e,λz=>?_⟩;rw[Rf.mpr ((o7 nd hp hi).mpr z)] at c
   cases c
  ·rintro⟨i,hi,e,n⟩;refine⟨ls[i],OL.mpr ⟨OW hi,?_⟩,e⟩
   cases c:(dm ls p).contains ls[i] with
   |false=>rfl
   |true=>exact absurd ((o7 nd hp hi).mp (Rf.mp c)) n
 have pm:∀i,i∈gr ls w↔∃hi:i<ls.length,fV w ls[i]=true:=λi=>by
  rw[fu];constructor
  ·rintro⟨hi,e⟩;rw[aB 0 (Oh hi)] at e;exact⟨hi,e⟩
  ·rintro⟨hi,e⟩;exact⟨hi,by rw[aB 0 (Oh hi)];exact e⟩
 cases c:bz ls w with
 |none=>
  have n:¬(bz (dr ls p) w).isSome=true:=λh=>by
   obtain⟨i,hi,e,_⟩:=key.mp h;have:=fY.mpr ⟨ls[i],OW hi,e⟩;rw[c] at this
   cases this
  simpa using n
 |some q=>
  obtain⟨a,b⟩:=q;obtain⟨m1,m2,bd⟩:=iQ c;show(bz (dr ls p) w).isSome=(true&&!(decide (p.1≤a)&&decide (b≤p.2)));by_cases h:p.1≤a/\b≤p.2
  ·rw[decide_eq_true h.1,decide_eq_true h.2];have n:¬(bz (dr ls p) w).isSome=true:=λh'=>by
    obtain⟨i,hi,e,n⟩:=key.mp h';have:=bd i ((pm i).mpr ⟨hi,e⟩);exact n (by omega)
   simpa using n
  ·have y:(bz (dr ls p) w).isSome=true:=key.mpr (by
    by_cases z:p.1≤a
    ·obtain⟨hi,e⟩:=(pm b).mp m2;exact⟨b,hi,e,by omega⟩
    ·obtain⟨hi,e⟩:=(pm a).mp m1;exact⟨a,hi,e,by omega⟩)
   rw[y];by_cases z:p.1≤a
   ·rw[decide_eq_false (show ¬b≤p.2 from λq=>h ⟨z,q⟩),PV];rfl
   ·rw[decide_eq_false z];rfl
theorem qQ(os:List Wn)(p:Pl):(cr os p).length=os.countP (gw p.1 p.2):=by
 have:=congrArg List.length (fb (none:Wn) (gw p.1 p.2) id os);rw[Ol,Ol] at this;rw[List.countP_eq_length_filter];exact this
theorem CU(nd:ls.Nodup)(hp:im ls.length p):uJ ws (dr ls p)+(cr (ws.map (bz ls)) p).length=uJ ws ls:=by
 rw[qQ,List.countP_map];unfold uJ
 induction ws with
 |nil=>rfl
 |cons w ws ih=>
  rw[Uz,Uz,Uz,nH nd hp,show(gw p.1 p.2∘bz ls) w=gw p.1 p.2 (bz ls w) from Z]
  cases c:bz ls w with
  |none=>
   have:gw p.1 p.2 none=false:=Z;rw[this];simp only[Option.isSome_none,Ra,Sx,if_false,Wr];exact ih
  |some q=>
   cases gw p.1 p.2 (some q) with
   |true=>
    simp only[Sw,VC,PV,Sx,if_false,if_true,Wr];omega
   |false=>
    simp only[Sw,Bool.not_false,S0,Sx,if_false,if_true,Wr];omega
theorem Cd(nd:ls.Nodup)(p:Pl):(dr ls p).Nodup:=QU _ nd
theorem Au{A:Nat->Int}(h:∀i,0≤A i):∀{l:List Nat} {i:Nat},i∈l->A i≤(l.map A).sum
 |x::l,i,hi=>by
  rw[O1,Sr];rcases Ov.mp hi with z|z
  ·subst z;have:=iE h l;omega
  ·have:=Au h z;have:=h x;omega
theorem qi(ok:∀w∈ws,bD w)(i:Nat):0≤gU (cj ws) i:=by
 unfold gU;rw[Op]
 cases e:(cj ws)[i]? with
 |none=>decide
 |some x=>exact(xc ok x (Os e)).1
theorem C8(ok:∀w∈ws,bD w)(h:∀r,im ls.length r->dj (ws.map (bz ls)) (gU (cj ws)) r=0):uJ ws ls=0:=by
 refine RB.mpr λw hw n=>?_
 obtain⟨q,hq⟩:=Qb.mp n;obtain⟨a,b⟩:=q;obtain⟨m1,m2,bd⟩:=iQ hq;have sec:im ls.length (a,b):=⟨(bd b m2).1,(fu.mp m2).1⟩;obtain⟨i,hi,rfl⟩:=Pj.mp hw;have mi:i∈cr (ws.map (bz ls)) (a,b):=by
  unfold cr;refine OL.mpr ⟨Ow.mpr (by rw[Ol];exact hi),?_⟩;rw[aB none (show(ws.map (bz ls))[i]?=some (some (a,b)) by rw[OB,Oh hi];exact congrArg some hq)];show(decide (a≤a)&&decide (b≤b))=true;simp
 have l:=Au (qi ok) mi;have z:=h _ sec;unfold dj at z;rw[z] at l;have o:=(ok _ hw).am;have eu:gU (cj ws) i=ws[i].2.2.1*4834023173650597876544881407704768017555162023798869768948261467874213139288822304401239266415271355416806678311752296500438875701050478901734985823099062742197929195130163826648664551259341770021719244800000000000000000000000/ws[i].2.2.2:=aB 0 (by unfold cj;rw[OB,Oh hi];rfl);rw[eu] at l;have t1:=o.top;have b1:=o.bot;have b2:=R0 (by decide) o.dvd;have:1≤ws[i].2.2.1*4834023173650597876544881407704768017555162023798869768948261467874213139288822304401239266415271355416806678311752296500438875701050478901734985823099062742197929195130163826648664551259341770021719244800000000000000000000000/ws[i].2.2.2:=(Int.le_ediv_iff_mul_le (by omega)).mpr (by omega);omega
def Bn(ws:List Wk)(ls:List Nat)(p:Pl):Prop:=pU (im ls.length) (dj (ws.map (bz ls)) (gU (cj ws))) p/\0<dj (ws.map (bz ls)) (gU (cj ws)) p
theorem GY(ok:∀w∈ws,bD w)(b:pU (im ls.length) (dj (ws.map (bz ls)) (gU (cj ws))) p)(h:uJ ws ls≠0):Bn ws ls p:=by
 refine⟨b,?_⟩;have nn:∀r,0≤dj (ws.map (bz ls)) (gU (cj ws)) r:=λr=>iE (qi ok) _
 by_cases c:0<dj (ws.map (bz ls)) (gU (cj ws)) p
 ·exact c
 ·refine absurd (C8 ok λr hr=>?_) h;have z:dj (ws.map (bz ls)) (gU (cj ws)) p=0:=by have:=nn p;omega
  have q:=b.all r hr;have pp:=(show im ls.length p from b.inn).pos;rw[z,Int.zero_mul] at q;by_cases e:dj (ws.map (bz ls)) (gU (cj ws)) r=0
  ·exact e
  ·have:=Ql (show 0<dj (ws.map (bz ls)) (gU (cj ws)) r by have:=nn r;omega) pp;omega
theorem Bn.held(h:Bn ws ls p):0<(cr (ws.map (bz ls)) p).length:=by
 have:=h.2;unfold dj at this
 cases c:cr (ws.map (bz ls)) p with
 |nil=>rw[c] at this;exact absurd this (by simp)
 |cons x r=>exact Nat.succ_pos _
abbrev Ly:=List Nat×List Nat
def hV(ws:List Wk)(ls:List Nat)(p:Pl):Ly:=(dm ls p,cr (ws.map (bz ls)) p)
inductive jr(ws:List Wk):List Nat->List Ly->Prop where
 |nil {ls:List Nat} (h:uJ ws ls=0):jr ws ls []
 |cons {ls:List Nat} {p:Pl} {r:List Ly} (h:Bn ws ls p) (t:jr ws (dr ls p) r):jr ws ls (hV ws ls p::r)
structure jP(n:Nat)(y:Ly):Prop where
 pos:0<y.1.length
 few:y.1.length≤24
 lt:∀t∈y.1,t<24
 num:∀i∈y.2,i<n
 len:y.2.length≤n
theorem As(hp:im ls.length p)(hl:ls.length≤24)(hb:∀t∈ls,t<24):jP ws.length (hV ws ls p):=by
 have h1:=hp.1;have h2:=hp.2;have e:(dm ls p).length=min (p.2+1-p.1) (ls.length-p.1):=by unfold dm;rw[PX,RG]
 refine⟨by show 0<(dm ls p).length;omega,by show(dm ls p).length≤24;omega,λt ht=>hb t (S6 (S7 ht)),λi hi=>?_,?_⟩
 ·have:i∈cr (ws.map (bz ls)) p:=hi;unfold cr at this;have:=Ow.mp (OL.mp this).1;rw[Ol] at this;exact this
 ·show(cr (ws.map (bz ls)) p).length≤ws.length;rw[qQ];exact OS List.countP_le_length (by rw[Ol];exact Oi _)
def qo(K:Of):Sp:=λvs H Q _=>∃(v:V) (q:Addr) (ws:List Wk) (ls:List Nat),vs=[v,.ref q]/\gf K H v ws/\ws.length≤64/\(∀w∈ws,bD w)/\bu K H q (bo ls)/\1≤ls.length/\ls.length≤24/\∀(x:V) (B:Int) (p:Pl) (H':Hp),aD H H'->0<B->B∣4834023173650597876544881407704768017555162023798869768948261467874213139288822304401239266415271355416806678311752296500438875701050478901734985823099062742197929195130163826648664551259341770021719244800000000000000000000000->(∀w∈ws,w.2.2.2∣B)->pU (im ls.length) (dj (ws.map (bz ls)) (gU (fh B ws))) p->Ex K H' x (hV ws ls p)->Q x H'
def NZ(K:Of)(H:Hp)(v:V)(s:Nat×Nat×Nat):Prop:=∃p,v=.ref p/\bu K H p [.int s.1,.int s.2.1,.int s.2.2]
def NL(os:List Wn)(i:Nat):List (Nat×Nat×Nat):=(Og i).filterMap λj=>(os.getD j none).map λq=>(q.1,q.2,j)
def L3(p:Pl)(s:Nat×Nat×Nat):Bool:=decide (p.1≤s.1)&&decide (s.2.1≤p.2)
def Mm(K:Of)(H:Hp)(os:List Wn)(S:Pl->Prop)(L:Pl->Int)(pb:Addr):Prop:=∃(mn ln bg:Int) (lb:Addr),bu K H pb [.int mn,.int ln,.int bg,.ref lb]/\((mn=0/\ln=1/\bg=0/\∀r,S r->L r=0)∨∃q:Pl,0<L q/\mn=L q/\ln=bO q/\bg=(q.1:Int)/\ba K H lb (bo (cr os q))/\pU S L q)
mutual
def LH:PyData->Bool
 | .int _=>true
 | .str _=>true
 | .bool _=>true
 | .none=>true
 | .tuple ds=>decide (ds.length≤1000)&&DW ds
 |_=>false
def DW:List PyData->Bool
 | []=>true
 |d::ds=>LH d&&DW ds
end
theorem jX{k:Nat}:∀{ds:List PyData},(∀d∈ds,d.depth≤k)->Te ds≤k
 | [],_=>ON _
 |d::ds,h=>Nat.max_le.mpr ⟨h d Oq,jX λe he=>h e (Ot _ he)⟩
def qz(k:Nat)(K:Of):Sp:=λvs H Q _=>∃(v w:V) (d:PyData),vs=[v,w]/\bh K H v d/\bh K H w d/\d.depth≤k/\LH d=true/\∀H',aD H H'->Q (.bl true) H'
abbrev HK:=qz 0
abbrev HH:=qz 1
abbrev HG:=qz 2
abbrev HE:=qz 3
abbrev BS:=qz 4
def Kg(w:Wk):PyData:=.tuple [.int w.1,.int w.2.1,dR w.2.2]
def JD(ws:List Wk):PyData:=.tuple (ws.map Kg)
theorem Bj.deep{K:Of}{H:Hp}{v:V}{w:Wk}(h:Bj K H v w):bh K H v (Kg w):=by
 obtain⟨p,x,rfl,hS,rx⟩:=h;exact .tup hS (.cons (.int _) (.cons (.int _) (.cons rx.deep .nil)))
theorem gf.deep{K:Of}{H:Hp}{v:V}{ws:List Wk}(h:gf K H v ws):bh K H v (JD ws):=by
 obtain⟨p,xs,rfl,hS,al⟩:=h;exact .tup hS (al.deep λ_ _ q=>q.deep)
def NS(y:List Nat×List Nat):PyData:=.tuple [C5 y.1,C5 y.2]
theorem vq{k:Nat}{α:Type}{f:α->PyData}{l:List α}(h:∀x∈l,(f x).depth≤k):(Rs (l.map f)).depth≤k+1:=by
 show Te (l.map f)+1≤k+1;refine Se (jX λd hd=>?_);obtain⟨x,hx,rfl⟩:=OD.mp hd;exact h x hx
def bI:Wk:=(0,0,(0,1))
def gT(ws:List Wk)(y:List Nat×List Nat):List R:=y.2.map λi=>(ws.getD i bI).2.2
def dC(ws:List Wk)(y:List Nat×List Nat):R:=fQ (oA (gT ws y)) (1,(y.1.length:Int))
def ii(r:R)(ss:List R)(ts:List Nat):List R:=ts.foldl (λs t=>s.set t r) ss
def aX(ws:List Wk)(lys:List (List Nat×List Nat)):List R:=lys.foldl (λss y=>ii (dC ws y) ss y.1) (Ou 24 (0,1))
theorem lu(r:R):∀(ts:List Nat) (ss:List R),(ii r ss ts).length=ss.length
 | [],_=>rfl
 |t::ts,ss=>by
  show(ii r (ss.set t r) ts).length=_;rw[lu r ts,Qy]
theorem kr(ws:List Wk):∀(lys:List (List Nat×List Nat)) (ss:List R),(lys.foldl (λss y=>ii (dC ws y) ss y.1) ss).length=ss.length
 | [],_=>rfl
 |y::r,ss=>by rw[PB,kr ws r,lu]
theorem Hj{ws:List Wk}{n:Nat}{y:List Nat×List Nat}(ok:∀w∈ws,bD w)(h:jP ws.length y):∀r∈gT ws y,Wf 760 r:=by
 intro r hr;obtain⟨i,hi,rfl⟩:=OD.mp hr;have hl:=h.num i hi;rw[aB bI (Oh hl)];exact(ok _ (OW hl)).am.wf
theorem CV(ok:∀w∈ws,bD w):uJ ws (Og 24)=ws.length:=by
 refine List.countP_eq_length.mpr λw hw=>fY.mpr ⟨w.1,Ow.mpr ?_,?_⟩
 ·have:=(ok w hw).le;have:=(ok w hw).lt;omega
 ·unfold fV;rw[decide_eq_true (Oi _),decide_eq_true (ok w hw).le];rfl
theorem GF(ws:List Wk):uJ ws []=0:=RB.mpr λw _ h=>by
 obtain⟨t,ht,_⟩:=fY.mp h
 cases ht
theorem pH(h:Bn ws ls p):im ls.length p:=h.1.inn
def La(K:Of)(H:Hp)(v:V)(lys:List (List Nat×List Nat)):Prop:=∃p xs,v=.ref p/\bu K H p xs/\di (Ex K H) xs lys
def vA(K:Of):Sp:=λvs H Q _=>∃(v:V) (ws:List Wk),vs=[v]/\gf K H v ws/\ws.length≤64/\(∀w∈ws,bD w)/\∀(x:V) (lys:List (List Nat×List Nat)) (H':Hp),aD H H'->La K H' x lys->jr ws (Og 24) lys->(∀y∈lys,jP ws.length y)->lys.length≤64->Q x H'
def jx(K:Of):Sp:=λvs H Q _=>∃(v x:V) (ws:List Wk) (y:List Nat×List Nat),vs=[v,x]/\gf K H v ws/\ws.length≤64/\(∀w∈ws,bD w)/\Ex K H x y/\jP ws.length y/\Kx K H Q (dC ws y)
def j6(K:Of):Sp:=λvs H Q _=>∃(v:V) (ws:List Wk),vs=[v]/\gf K H v ws/\ws.length≤64/\(∀w∈ws,bD w)/\∀(p:Addr) (xs:List V) (lys:List (List Nat×List Nat)) (H':Hp),aD H H'->bu K H' p xs->di (RV K H') xs (aX ws lys)->jr ws (Og 24) lys->Q (.ref p) H'
def Bs(K:Of):Sp:=λvs H Q _=>∃(v:V) (ws:List Wk),vs=[v]/\gf K H v ws/\ws.length≤64/\(∀w∈ws,bD w)/\∀(l:Addr) (xs:List V) (lys:List (List Nat×List Nat)) (H':Hp),aD H H'->H' l=some (.lst xs)->di (RV K H') xs (aX ws lys)->jr ws (Og 24) lys->Q (.ref l) H'
def Km(K:Of)(H:Hp)(v:V)(e:Ln):Prop:=∃p,v=.ref p/\bu K H p [.int (e.1:Nat),.int (e.2:Nat)]
theorem Km.mono{K:Of}{H H':Hp}{v:V}{e:Ln}(h:Km K H v e)(t:aV K H H'):Km K H' v e:=let ⟨p,q,s⟩:=h;⟨p,q,t _ _ s⟩
def wV(K:Of)(H:Hp)(v:V)(es:List Ln):Prop:=∃p xs,v=.ref p/\bu K H p xs/\di (Km K H) xs es
theorem wV.mono{K:Of}{H H':Hp}{v:V}{es:List Ln}(h:wV K H v es)(t:aV K H H'):wV K H' v es:=let ⟨p,xs,e,s,a⟩:=h;⟨p,xs,e,t _ _ s,a.mono λ_ _ q=>q.mono t⟩
def vI(n:Nat)(f:Nat->Bool):List V:=(Og n).map λj=>V.bl (f j)
theorem oR(h:j<n):(vI n f)[j]?=some (.bl (f j)):=by
 unfold vI;rw[OB,Sk h];rfl
structure Bx(H:Hp)(l:Addr)(rows:List Addr)(n:Nat)(L:Nat->Nat->Bool):Prop where
 top:H l=some (.lst (rows.map V.ref))
 len:rows.length=n
 nd:rows.Nodup
 ne:l∉rows
 row:∀i r,rows[i]?=some r->H r=some (.lst (vI n (L i)))
theorem Bx.same(h:Bx H l rows n L)(s:aD H H'):Bx H' l rows n L:=⟨s _ _ h.top,h.len,h.nd,h.ne,λi r e=>s _ _ (h.row i r e)⟩
structure Kp(rows:List Addr)(H H':Hp):Prop where
 keep:∀b o,b∉rows->H b=some o->H' b=some o
 ls:∀r∈rows,∃xs,H r=some (.lst xs)
 ls':∀r∈rows,∃xs,H' r=some (.lst xs)
theorem Kp.trans(a:Kp rows H H1)(b:Kp rows H1 H2):Kp rows H H2:=⟨λc o n e=>b.keep c o n (a.keep c o n e),a.ls,b.ls'⟩
theorem Kp.same(s:aD H H')(h:∀r∈rows,∃xs,H r=some (.lst xs)):Kp rows H H':=⟨λc o _ e=>s _ _ e,h,λr m=>let ⟨xs,e⟩:=h r m;⟨xs,s _ _ e⟩⟩
theorem Kp.up(m:r∈rows)(h:∀r∈rows,∃xs,H r=some (.lst xs))(ys:List V):Kp rows H (upd H r (.lst ys)):=⟨λc o n e=>by rw[ay (show c≠r from λz=>n (by rw[z];exact m))];exact e,h,λq mq=>by
 by_cases c:q=r
 ·subst c;exact⟨_,ag⟩
 ·rw[ay c];exact h q mq⟩
theorem Bx.ls(h:Bx H l rows n L):∀r∈rows,∃xs,H r=some (.lst xs):=λr m=>by
 obtain⟨i,hi,e⟩:=Pj.mp m;exact⟨_,h.row i r (by rw[Oh hi,e])⟩
theorem aV.kp{K:Of}{rows:List Addr}{H H':Hp}(k:Kp rows H H'):aV K H H':=λp xs h=>by
 rcases h with h|h
 ·have n:p∉rows:=λm=>by
   obtain⟨ys,e⟩:=k.ls p m;rcases h with h | ⟨o,h⟩<;>rw[e] at h<;>cases h
  rcases h with h | ⟨o,h⟩
  ·exact .inl (.inl (k.keep _ _ n h))
  ·exact .inl (.inr ⟨o,k.keep _ _ n h⟩)
 ·exact .inr h
def kY(_:Of):Sp:=λvs H Q _=>∃n:Nat,vs=[.int n]/\n≤64/\∀(l:Addr) (rows:List Addr) (H':Hp),aD H H'->H l=none->(∀r∈rows,H r=none)->Bx H' l rows n (λ_ _=>false)->Q (.ref l) H'
def tU(_:Nat)(es:List Ln):Prop:=es=[]
def qA(_:Of):Sp:=λ_ _ _ _=>False
def ka(K:Of):Sp:=λvs H Q _=>∃(n:Nat) (v:V) (es:List Ln),vs=[.int n,v]/\wV K H v es/\tU n es/\n≤64/\∀(l:Addr) (rows:List Addr) (L:Nat->Nat->Bool) (H':Hp),aD H H'->Bx H' l rows n L->Ko n es L->Q (.ref l) H'
structure Nf(w:Wk):Prop where
 l1:w.1<24
 l2:w.2.1<24
 am:Wf 900 w.2.2
def vF(ws:List Wk)(j:Nat):Int:=((ws.getD j bI).1:Nat)
def vL(ws:List Wk)(j:Nat):Int:=-((ws.getD j bI).2.1:Nat)
structure ij(ws:List Wk)(es:List Ln)(f l:Nat->Int):Prop where
 a:HR ws.length es (vF ws) f
 b:HR ws.length (BK es) (vL ws) (λi=>- l i)
theorem xm{n:Nat}{v:Nat->Int}{P:Nat->Prop}:∀k,k≤n->(∀j,j<k->¬P j)∨∃M,(∀j,j<k->P j->v j≤M)/\∃j,j<k/\P j/\M=v j
 |0,_=>.inl λj hj=>absurd hj (RW _)
 |k+1,hk=>by
  rcases xm (n:=n) (v:=v) (P:=P) k (by omega) with h | ⟨M,h1,j,h2,h3,h4⟩
  ·by_cases c:P k
   ·refine .inr ⟨v k,λj hj pj=>?_,k,by omega,c,Z⟩;by_cases z:j=k
    ·subst z;exact T5 _
    ·exact absurd pj (h j (by omega))
   ·refine .inl λj hj pj=>?_
    by_cases z:j=k
    ·subst z;exact c pj
    ·exact h j (by omega) pj
  ·by_cases c:P k/\M<v k
   ·refine .inr ⟨v k,λi hi pi=>?_,k,by omega,c.1,Z⟩;by_cases z:i=k
    ·subst z;exact T5 _
    ·have:=h1 i (by omega) pi;have:=c.2;omega
   ·refine .inr ⟨M,λi hi pi=>?_,j,by omega,h3,h4⟩;by_cases z:i=k
    ·subst z;by_cases y:v i≤M
     ·exact y
     ·exact absurd ⟨pi,by omega⟩ c
    ·exact h1 i (by omega) pi
theorem HR.ex(n:Nat)(es:List Ln)(v:Nat->Int):∃F,HR n es v F:=by
 have h:∀i,∃M:Int,i<n->(∀j,j<n->(j=i∨iy es j i)->v j≤M)/\∃j,j<n/\(j=i∨iy es j i)/\M=v j:=λi=>by
  rcases xm (n:=n) (v:=v) (P:=λj=>j=i∨iy es j i) n (Oi _) with h | ⟨M,h1,h2⟩
  ·exact⟨0,λhi=>absurd (.inl Z) (h i hi)⟩
  ·exact⟨M,λ_=>⟨h1,h2⟩⟩
 exact⟨λi=>Classical.choose (h i),⟨λi j hi hj z=>(U8 (h i) hi).1 j hj z,λi hi=>(U8 (h i) hi).2⟩⟩
theorem ij.ex(ws:List Wk)(es:List Ln):∃f l,ij ws es f l:=by
 obtain⟨f,hf⟩:=HR.ex ws.length es (vF ws);obtain⟨g,hg⟩:=HR.ex ws.length (BK es) (vL ws);refine⟨f,λi=>- g i,hf,?_⟩;have:(λi=>- - g i)=g:=funext λi=>Int.neg_neg _
 rw[this];exact hg
def wG(ws:List Wk)(f l:Nat->Int)(i:Nat):PyData:=.tuple [.int (f i),.int (l i),dR (ws.getD i bI).2.2]
def iO(n:Nat)(f l:Nat->Int):Option Nat:=(Og n).find? λi=>decide (l i<f i)
def MK(ws:List Wk)(f l:Nat->Int):PyData:=match iO ws.length f l with
 |some i=>.int i
 |none=>.tuple ((Og ws.length).map (wG ws f l))
theorem Be(hi:i<n)(h:l i<f i)(b:∀j,j<i->f j≤l j):iO n f l=some i:=by
 unfold iO;rw[Uf];refine⟨decide_eq_true h,Ow.mpr hi,λj hj=>?_⟩;have:=b j hj;rw[decide_eq_false (by omega)];rfl
theorem rc(b:∀j,j<n->f j≤l j):iO n f l=none:=by
 unfold iO;rw[TQ];intro j hj;have:=b j (Ow.mp hj);rw[decide_eq_false (by omega)];simp
theorem A9{K:Of}{H H':Hp}(t:aV K H H'){ws:List Wk}{f l:Nat->Int}{i:Nat}{v:V}(h:bh K H v (wG ws f l i)):bh K H' v (wG ws f l i):=by
 unfold wG at h ⊢
 cases h with
 |tup e h=>
  cases h with
  |cons h1 h=>
   cases h with
   |cons h2 h=>
    cases h with
    |cons h3 h=>
     cases h
     cases h1
     cases h2
     refine .tup (t _ _ e) (.cons (.int _) (.cons (.int _) (.cons ?_ .nil)))
     cases h3 with
     |tup e3 h3=>
      cases h3 with
      |cons a h3=>
       cases h3 with
       |cons b h3=>cases h3;cases a;cases b;exact .tup (t _ _ e3) (.cons (.int _) (.cons (.int _) .nil))
theorem rM{K:Of}{H H':Hp}(t:aV K H H'){ws:List Wk}{f l:Nat->Int}:∀{zs:List Nat} {vs:List V},be K H vs (zs.map (wG ws f l))->be K H' vs (zs.map (wG ws f l))
 | [],_,.nil=>.nil
 |_::_,_,.cons h r=>.cons (A9 t h) (rM t r)
theorem jY{K:Of}{H:Hp}:∀{xs ys:List V} {ds es:List PyData},be K H xs ds->be K H ys es->be K H (xs++ys) (ds++es)
 |_,_,_,_,.nil,h=>h
 |_,_,_,_,.cons a t,h=>.cons a (jY t h)
def Md(K:Of)(H:Hp)(v:V)(ws:List Wk)(es:List Ln):Prop:=∃p a b,v=.ref p/\bu K H p [a,b]/\gf K H a ws/\wV K H b es
def Hy(_:Of):Sp:=λvs H Q _=>∃i:Int,vs=[.int i]/\Q (.int i) H
def HM(_:Of)(C:Addr):Sp:=λvs H Q _=>∃(a:Addr) (n:Int),vs=[.ref a,.int n]/\H a=some (jh a C none)/\∀d,H d=none->d≠a->Q .non (upd (upd H a (jh a C (some d))) d (dO d [("work",.int n)]))
structure JH(ws:List Wk)(es:List Ln):Prop where
 few:ws.length≤20
 ok:∀w∈ws,Nf w
 es:tU ws.length es
def oa(n:Nat)(es:List Ln):Prop:=∃ps:Nat->Nat,(∀i,i<n->ps i<n)/\∀a b,(a,b)∈es->ps a<ps b
def Nb(es:List Ln):PyData:=.tuple (es.map λe=>.tuple [.int (e.1:Nat),.int (e.2:Nat)])
theorem u7(h:Hw r):Bq 4834023173650597876544881407704768017555162023798869768948261467874213139288822304401239266415271355416806678311752296500438875701050478901734985823099062742197929195130163826648664551259341770021719244800000000000000000000000 12 r:=by
 have a:=h.top;have b:=h.top';have c:=h.bot;refine⟨by omega,h.wf.cop,h.dvd,?_⟩;have:12*1≤12*r.2.natAbs:=Rz _ (by omega);omega
theorem xH{D N:Nat}(hD:0<D):∀{rs:List R},(∀r∈rs,Bq D N r)->∀{a:R} {M:Nat},Bq D M a->Bq D (M+N*rs.length) (rs.foldl cn a)
 | [],_,a,M,h=>by simpa using h
 |r::rs,hr,a,M,h=>by
  have:=xH hD (λq hq=>hr q (Ot _ hq)) (h.plus hD (hr r Oq));rw[PB,Ph,US];refine this.mono (Q5 _) (by omega)
theorem Du:Bq D 0 ((0,1):R):=⟨by decide,by decide,⟨(D:Int),by show(D:Int)=1*D;omega⟩,by show 0≤_;exact ON _⟩
theorem oy(hD:0<D)(h:∀r∈rs,Bq D N r):Bq D (N*rs.length) (oA rs):=by
 have:=xH hD h (Du (D:=D));rw[UY] at this;exact this
theorem Cf(ok:∀w∈ws,bD w)(hw:ws.length≤20)(lok:jP ws.length y):Bq (4834023173650597876544881407704768017555162023798869768948261467874213139288822304401239266415271355416806678311752296500438875701050478901734985823099062742197929195130163826648664551259341770021719244800000000000000000000000*y.1.length) 240 (dC ws y):=by
 have am:∀r∈gT ws y,Bq 4834023173650597876544881407704768017555162023798869768948261467874213139288822304401239266415271355416806678311752296500438875701050478901734985823099062742197929195130163826648664551259341770021719244800000000000000000000000 12 r:=λr hr=>by
  obtain⟨i,hi,rfl⟩:=OD.mp hr;have hl:=lok.num i hi;rw[aB bI (Oh hl)];exact u7 (ok _ (OW hl)).am
 have la:(gT ws y).length=y.2.length:=Ol _;have len:=lok.len;have pos:=lok.pos;have s:=(oy (by decide) am).mono (Q5 _) (show 12*(gT ws y).length≤240 by omega);have o:Bq y.1.length 1 ((1,(y.1.length:Int)):R):=⟨by show(0:Int)<_;omega,by simp,Wh _,by show(1:Int).natAbs≤1*((y.1.length:Int)).natAbs;omega⟩;exact s.times o
def xS(K:Of):Sp:=λvs H Q _=>∃(v w:V) (r q:R) (n m:Nat),vs=[v,w]/\RV K H v r/\RV K H w q/\Wf n r/\Wf m q/\n+m+1≤3000/\Kx K H Q (bG r q)
def rT(K:Of):Sp:=λvs H Q _=>∃(v w:V) (r q:R) (n m:Nat),vs=[v,w]/\RV K H v r/\RV K H w q/\Wf n r/\Wf m q/\n+m+1≤3000/\Q (.bl (dW r q)) H
theorem Ba(h:OG a b=1):OG (-a) b=1:=by rw[Int.neg_gcd];exact h
theorem Hg:∀m,m<25->0<m->4834023173650597876544881407704768017555162023798869768948261467874213139288822304401239266415271355416806678311752296500438875701050478901734985823099062742197929195130163826648664551259341770021719244800000000000000000000000*m∣25882466482949286179863278649307923433294195500903155828261708777083304197655675043413266388030659964209410754393653789328972760953294720473500143200427572835208147172761078519773593353785008074840607407759949824000000000000000000000000:=by decide
def bi(ws:List Wk)(i:Nat):Nat:=(ws.getD i bI).2.1
def f9(ws:List Wk)(l:List Nat):List Nat:=l.filter λi=>l.all λj=>decide (bi ws i≤bi ws j)
open Classical in
noncomputable def fP (es:List Ln) (i j:Nat):Bool:=decide (iy es j i)
open Classical in
theorem jH:fP es i j=true↔iy es j i:=by unfold fP;exact decide_eq_true_iff
noncomputable def je (ws:List Wk) (es:List Ln) (l:List Nat):List Nat:=(f9 ws l).filter λi=>!(f9 ws l).any (fP es i)
noncomputable def gM (ws:List Wk) (es:List Ln) (l:List Nat):Nat:=(je ws es l).getD 0 0
def bX(n:Nat)(come:List Nat):List Nat:=(Og n).filter λi=>!come.contains i
noncomputable def aK (ws:List Wk) (es:List Ln):Nat->List Nat
 |0=>[]
 |k+1=>aK ws es k++[gM ws es (bX ws.length (aK ws es k))]
theorem C4{i:Nat}(h:(bo ls)[i]?=some x):∃n,ls[i]?=some n/\x=.int (n:Nat):=by
 unfold bo at h;rw[OB] at h;obtain⟨n,hn,rfl⟩:=Pr.mp h;exact⟨n,hn,Z⟩
theorem lZ(f:Nat->Nat):∀(l:List Nat),l≠[]->∃i∈l,∀j∈l,f i≤f j
 | [],h=>absurd Z h
 | [a],_=>⟨a,Oq,λj hj=>by rw[Ox] at hj;rw[hj];exact Oi _⟩
 |a::b::l,_=>by
  obtain⟨i,hi,m⟩:=lZ f (b::l) (by simp);by_cases c:f a≤f i
  ·refine⟨a,Oq,λj hj=>?_⟩;rcases Ov.mp hj with z|z
   ·rw[z];exact Oi _
   ·exact OS c (m j z)
  ·refine⟨i,Ot _ hi,λj hj=>?_⟩;rcases Ov.mp hj with z|z
   ·rw[z];omega
   ·exact m j z
theorem f8:i∈f9 ws l↔i∈l/\∀j∈l,bi ws i≤bi ws j:=by
 unfold f9;rw[OL,Qj];exact and_congr_right λ_=>forall_congr' λj=>forall_congr' λ_=>decide_eq_true_iff
theorem iy.rank{es:List Ln}{ps:Nat->Nat}(h:∀a b,(a,b)∈es->ps a<ps b)(r:iy es a b):ps a<ps b:=by
 induction r with
 |one m=>exact h _ _ m
 |step m _ ih=>exact Wc (h _ _ m) ih
theorem Df(rk:oa n es)(h:l≠[]):je ws es l≠[]:=by
 obtain⟨ps,_,hp⟩:=rk;obtain⟨i,hi,m⟩:=lZ (bi ws) l h;have hl:f9 ws l≠[]:=λz=>by
  have:=f8.mpr ⟨hi,m⟩;rw[z] at this;cases this
 obtain⟨j,hj,q⟩:=lZ ps _ hl;intro z;have:j∈je ws es l:=by
  unfold je;rw[OL];refine⟨hj,?_⟩;rw[R8,TZ];intro b hb c;have:=iy.rank hp (jH.mp c);have:=q b hb;omega
 rw[z] at this;cases this
theorem kA(rk:oa n es)(h:l≠[]):(je ws es l)[0]?=some (gM ws es l):=by
 have:=Df (ws:=ws) rk h;unfold gM
 cases e:je ws es l with
 |nil=>exact absurd e this
 |cons a r=>rfl
theorem lW(rk:oa n es)(h:l≠[]):gM ws es l∈l:=by
 have a:=Os (kA (ws:=ws) rk h);exact(f8.mp (OL.mp a).1).1
theorem ua(n:Nat)(c:List Nat):(bX n c).Nodup:=QU _ SW
theorem eX:i∈bX n c↔i<n/\i∉c:=by
 unfold bX;rw[OL,Ow,R8,S8,decide_eq_false_iff_not]
theorem vk(n:Nat)(c:List Nat)(x:Nat):bX n (c++[x])=(bX n c).filter λi=>decide (i≠x):=by
 unfold bX;rw[VY];refine Ws λi _=>?_
 rw[Qd,OA,R8,R8,S8,S8,decide_eq_false_iff_not,decide_eq_false_iff_not,decide_eq_true_iff,OU,Ox];exact⟨λh=>⟨λz=>h (.inr z),λz=>h (.inl z)⟩,λh z=>z.elim h.2 h.1⟩
theorem qU:∀{l:List Nat} {j x:Nat},l.Nodup->l[j]?=some x->l.eraseIdx j=l.filter (λi=>decide (i≠x))/\(l.eraseIdx j).length+1=l.length
 | [],j,x,_,h=>by simp at h
 |a::l,0,x,nd,h=>by
  have e:a=x:=by simpa using h
  subst e;obtain⟨n1,n2⟩:=Pw.mp nd;refine⟨?_,Z⟩;have e1:(a::l).filter (λi=>decide (i≠a))=l.filter (λi=>decide (i≠a)):=UA (by simp);have e2:l.filter (λi=>decide (i≠a))=l:=Q0.mpr λi hi=>decide_eq_true λz=>n1 (by rw[←z];exact hi)
  rw[e1,e2];rfl
 |a::l,j+1,x,nd,h=>by
  obtain⟨n1,n2⟩:=Pw.mp nd;have h':l[j]?=some x:=by simpa using h
  obtain⟨e1,e2⟩:=qU n2 h';have ne:a≠x:=λz=>n1 (by rw[z];exact Os h')
  have e3:(a::l).filter (λi=>decide (i≠x))=a::l.filter (λi=>decide (i≠x)):=UB (decide_eq_true ne);rw[Uw,e3,←e1];refine⟨Z,?_⟩;rw[Ph,Ph,e2]
theorem AO{l:List Nat}{j x:Nat}(nd:l.Nodup)(h:l[j]?=some x):∀m,m<j->l[m]?≠some x:=λm hm e=>by
 obtain⟨h1,e1⟩:=OH.mp e;obtain⟨h2,e2⟩:=OH.mp h;exact QC.mp nd m j h1 h2 hm (e1.trans e2.symm)
structure tR(ws:List Wk)(es:List Ln)(k:Nat):Prop where
 len:(aK ws es k).length=k
 lt:∀i∈aK ws es k,i<ws.length
 wl:(bX ws.length (aK ws es k)).length+k=ws.length
theorem z6(ws:List Wk)(es:List Ln):tR ws es 0:=by
 refine⟨Z,λi hi=>absurd (show i∈([]:List Nat) from hi) (by simp),?_⟩;show(bX ws.length []).length+0=_;unfold bX;have e:(Og ws.length).filter (λi=>!([]:List Nat).contains i)=Og ws.length:=Q0.mpr λi _=>Z
 rw[e,PF];rfl
theorem tR.ne(h:tR ws es k)(hk:k<ws.length):bX ws.length (aK ws es k)≠[]:=λz=>by
 have:=h.wl;rw[z] at this;have e:0+k=ws.length:=this;omega
theorem tR.step(h:tR ws es k)(rk:oa ws.length es)(hk:k<ws.length):tR ws es (k+1)/\∃j:Nat,(bX ws.length (aK ws es k))[j]?=some (gM ws es (bX ws.length (aK ws es k)))/\(bX ws.length (aK ws es k)).eraseIdx j=bX ws.length (aK ws es (k+1)):=by
 have m:=lW (ws:=ws) rk (h.ne hk);obtain⟨j,hj⟩:=Vk m;obtain⟨e1,e2⟩:=qU (ua _ _) hj;have e3:(bX ws.length (aK ws es k)).eraseIdx j=bX ws.length (aK ws es (k+1)):=by
  rw[e1];exact(vk _ _ _).symm
 refine⟨⟨?_,λi hi=>?_,?_⟩,j,hj,e3⟩
 ·show(aK ws es k++[_]).length=k+1;rw[OQ,h.len];rfl
 ·rcases OU.mp (show i∈aK ws es k++[_] from hi) with z|z
  ·exact h.lt i z
  ·rw[Ox.mp z];exact(eX.mp m).1
 ·rw[←e3];have:=h.wl;omega
theorem dB{ws:List Wk}{es:List Ln}(rk:oa ws.length es):∀k,k≤ws.length->tR ws es k
 |0,_=>z6 ws es
 |k+1,h=>((dB rk k (Nat.le_of_succ_le h)).step rk h).1
def Nd(es:List Ln)(w:Nat)(fd:List Nat)(i:Nat):Bool:=decide ((es.getD i (0,0)).2=w)&&!fd.contains (es.getD i (0,0)).1
def NU(es:List Ln)(w:Nat)(fd:List Nat):List Nat:=(Og es.length).filter (Nd es w fd)
def Kf(es:List Ln)(is:List Nat):List Nat:=is.map λi=>(es.getD i (0,0)).1
structure NG(es:List Ln)(w n:Nat)(is:List Nat):Prop where
 nd:is.Nodup
 lt:∀i∈is,i<es.length
 sound:∀x∈Kf es is,iy es x w
 base:∀a,(a,w)∈es->a∈Kf es is
 done:∀j x,j<n->(Kf es is)[j]?=some x->∀a,(a,x)∈es->a∈Kf es is
structure fJ(r:R):Prop where
 bq:Bq 25882466482949286179863278649307923433294195500903155828261708777083304197655675043413266388030659964209410754393653789328972760953294720473500143200427572835208147172761078519773593353785008074840607407759949824000000000000000000000000 256 r
 nn:0≤r.1
theorem fJ.wf(h:fJ r):Wf 800 r:=h.bq.wf (by decide) (by decide) (by decide)
theorem fJ.red(h:fJ r):iP r:=h.bq.red
theorem Dx:fJ (0,1):=⟨Du.mono (Q5 _) (by decide),T5 _⟩
theorem iB(h:0<r.2):0≤val r↔0≤r.1:=by
 have zz:val ((0,1):R)=0:=(fE (r:=(0,1)) (by decide)).mpr Z;rw[←zz,←km (r:=r) (q:=(0,1)) h (by decide),qO];show 0*r.2≤r.1*1↔_;omega
theorem pF{r:R}(hp:0<r.2)(hn:0≤r.1):r.1.natAbs≤N*r.2.natAbs↔val r≤(N:Rat):=by
 have e:val (((N:Nat):Int),1)=(N:Rat):=by
  show(((N:Nat):Int):Rat)/((1:Int):Rat)=_;rw[show((1:Int):Rat)=1 from Z];have:(((N:Nat):Int):Rat)=(N:Rat):=Z;rw[this];grind
 rw[←e,←km (r:=(((N:Nat):Int),1)) (q:=r) (by show(0:Int)<1;decide) hp,qO];show _↔r.1*1≤(N:Int)*r.2;have h1:((r.1.natAbs:Nat):Int)=r.1:=by omega
 have h2:((r.2.natAbs:Nat):Int)=r.2:=by omega
 rw[←Int.ofNat_le,Td,h1,h2,Int.mul_one]
def eZ(a b:R):R:=if dW b a=true then b else a
theorem pE(ha:fJ a)(hb:fJ b):fJ (eZ a b):=by
 unfold eZ
 split
 ·exact hb
 ·exact ha
theorem GR(ha:fJ a)(hb:fJ b):val (eZ a b)≤val a/\val (eZ a b)≤val b:=by
 unfold eZ
 cases c:dW b a with
 |true=>
  rw[if_pos Z];have:=(kN hb.bq.pos ha.bq.pos).mp c;exact⟨QP this,PR⟩
 |false=>
  rw[if_neg OK];exact⟨PR,(km hb.bq.pos ha.bq.pos).mp c⟩
theorem xJ(hx:fJ x)(ha:fJ a)(h:val a≤val x):fJ (bG x a):=by
 have b:=Bq.minus (by decide) hx.bq ha.bq;have ev:val (bG x a)=val x-val a:=eG hx.bq.pos ha.bq.pos;have na:=(iB ha.bq.pos).mpr ha.nn;have nn:0≤(bG x a).1:=(iB b.pos).mp (by rw[ev];grind);refine⟨⟨b.pos,b.cop,b.dvd,(pF b.pos nn).mpr ?_⟩,nn⟩;have:=(pF hx.bq.pos hx.nn).mp hx.bq.le;rw[ev];grind
abbrev Pc:=Nat×R
abbrev tV:=List R×R×List Pc
def bT(ws:List Wk)(t:Nat)(st:tV)(i:Nat):tV:=
 if fV (ws.getD i bI) t=true/\eZ (st.1.getD i (0,1)) st.2.1≠(0,1) then(st.1.set i (bG (st.1.getD i (0,1)) (eZ (st.1.getD i (0,1)) st.2.1)),bG st.2.1 (eZ (st.1.getD i (0,1)) st.2.1),st.2.2++[(i,eZ (st.1.getD i (0,1)) st.2.1)]) else st
def dQ(ws:List Wk)(ord:List Nat)(t:Nat)(lf:List R)(sp:R):tV:=ord.foldl (bT ws t) (lf,sp,[])
def aU(ws:List Wk)(ord:List Nat)(ss:List R):Nat->List R×List (List Pc)
 |0=>(ws.map λw=>w.2.2,[])
 |t+1=>((dQ ws ord t (aU ws ord ss t).1 (ss.getD t (0,1))).1,(aU ws ord ss t).2++[(dQ ws ord t (aU ws ord ss t).1 (ss.getD t (0,1))).2.2])
structure vh(n:Nat)(st:tV):Prop where
 len:st.1.length=n
 lf:∀r∈st.1,fJ r
 rm:fJ st.2.1
 pc:∀p∈st.2.2,p.1<n/\fJ p.2
theorem cZ{n:Nat}{l:List R}(h:∀r∈l,fJ r)(i:Nat):fJ (l.getD i (0,1)):=by
 rw[Op]
 cases e:l[i]? with
 |none=>exact Dx
 |some r=>exact h r (Os e)
theorem vh.step{st:tV}(h:vh n st)(hi:i<n):vh n (bT ws t st i)/\(bT ws t st i).2.2.length≤st.2.2.length+1:=by
 unfold bT
 split
 ·have a:=cZ (n:=n) h.lf i;have le:=GR a h.rm;have la:=pE a h.rm;refine⟨⟨by rw[Qy];exact h.len,λr hr=>?_,xJ h.rm la le.2,λp hp=>?_⟩,by rw[OQ];exact Oi _⟩
  ·rcases Ri hr with z|z
   ·exact h.lf r z
   ·rw[z];exact xJ a la le.1
  ·rcases OU.mp hp with z|z
   ·exact h.pc p z
   ·rw[Ox.mp z];exact⟨hi,la⟩
 ·exact⟨h,Qw _⟩
theorem vh.fold{ws:List Wk}{n t:Nat}:∀{ord:List Nat} {st:tV},vh n st->(∀i∈ord,i<n)->vh n (ord.foldl (bT ws t) st)/\(ord.foldl (bT ws t) st).2.2.length≤st.2.2.length+ord.length
 | [],st,h,_=>⟨h,Oi _⟩
 |i::ord,st,h,hl=>by
  obtain⟨h1,l1⟩:=h.step (ws:=ws) (t:=t) (hl i Oq);obtain⟨h2,l2⟩:=h1.fold (ws:=ws) (t:=t) (ord:=ord) λj hj=>hl j (Ot _ hj)
  refine⟨h2,?_⟩;rw[PB,Ph];omega
structure No(n m:Nat)(p:List R×List (List Pc)):Prop where
 len:p.1.length=n
 lf:∀r∈p.1,fJ r
 pc:∀q∈p.2,q.length≤m/\∀x∈q,x.1<n/\fJ x.2
theorem fo{ws:List Wk}{ord:List Nat}{ss:List R}(okw:∀w∈ws,bD w)(ho:∀i∈ord,i<ws.length)(hs:∀r∈ss,fJ r):∀t,No ws.length ord.length (aU ws ord ss t)/\(aU ws ord ss t).2.length=t
 |0=>by
  refine⟨⟨Ol _,λr hr=>?_,λq hq=>by cases hq⟩,Z⟩;obtain⟨w,hw,rfl⟩:=OD.mp hr;have a:=(okw w hw).am;exact⟨(u7 a).mono ⟨5354228880,by decide⟩ (by decide),by have:=a.top;omega⟩
 |t+1=>by
  obtain⟨h,hl⟩:=fo okw ho hs t;obtain⟨d,dl⟩:=vh.fold (ws:=ws) (t:=t) (ord:=ord) (st:=((aU ws ord ss t).1,ss.getD t (0,1),[])) ⟨h.len,h.lf,cZ (n:=0) hs t,λp hp=>by cases hp⟩ ho;refine⟨⟨d.len,d.lf,λq hq=>?_⟩,?_⟩
  ·rcases OU.mp (show q∈(aU ws ord ss t).2++[_] from hq) with z|z
   ·exact h.pc q z
   ·rw[Ox.mp z];refine⟨?_,d.pc⟩;have:(dQ ws ord t (aU ws ord ss t).1 (ss.getD t (0,1))).2.2.length≤0+ord.length:=dl;omega
  ·show((aU ws ord ss t).2++[_]).length=t+1;rw[OQ,hl];rfl
def l4(lf:List R):Option Nat:=(Og lf.length).find? λi=>decide (lf.getD i (0,1)≠(0,1))
theorem v8(hi:i<lf.length)(h:lf.getD i (0,1)≠(0,1))(b:∀j,j<i->lf.getD j (0,1)=(0,1)):l4 lf=some i:=by
 unfold l4;rw[Uf];exact⟨decide_eq_true h,Ow.mpr hi,λj hj=>by rw[decide_eq_false (λz=>z (b j hj))];rfl⟩
theorem v9(b:∀j,j<lf.length->lf.getD j (0,1)=(0,1)):l4 lf=none:=by
 unfold l4;rw[TQ];intro j hj z;exact(of_decide_eq_true z) (b j (Ow.mp hj))
noncomputable def dJ (ws:List Wk) (es:List Ln) (ss:List R):List R×List (List Pc):=aU ws (aK ws es ws.length) ss 24
def Bw(K:Of)(H:Hp)(v:V)(c:Pc):Prop:=∃p x,v=.ref p/\bu K H p [.int (c.1:Nat),x]/\RV K H x c.2
theorem Bw.mono{K:Of}{H H':Hp}{v:V}{c:Pc}(h:Bw K H v c)(t:aV K H H'):Bw K H' v c:=let ⟨p,x,e,s,r⟩:=h;⟨p,x,e,t _ _ s,r.mono t⟩
def tP(K:Of)(H:Hp)(v:V)(q:List Pc):Prop:=∃p xs,v=.ref p/\bu K H p xs/\di (Bw K H) xs q
theorem tP.mono{K:Of}{H H':Hp}{v:V}{q:List Pc}(h:tP K H v q)(t:aV K H H'):tP K H' v q:=let ⟨p,x,e,s,r⟩:=h;⟨p,x,e,t _ _ s,r.mono λ_ _ z=>z.mono t⟩
def Kh(c:Pc):PyData:=.tuple [.int (c.1:Nat),dR c.2]
def He(q:List Pc):PyData:=.tuple (q.map Kh)
def HQ(ps:List (List Pc)):PyData:=.tuple (ps.map He)
theorem Bw.deep{K:Of}{H:Hp}{v:V}{c:Pc}(h:Bw K H v c):bh K H v (Kh c):=by
 obtain⟨p,x,rfl,hS,hx⟩:=h;exact .tup hS (.cons (.int _) (.cons hx.deep .nil))
theorem tP.deep{K:Of}{H:Hp}{v:V}{q:List Pc}(h:tP K H v q):bh K H v (He q):=by
 obtain⟨p,xs,rfl,hS,al⟩:=h;exact .tup hS (al.deep λ_ _ z=>z.deep)
noncomputable def ML (ws:List Wk) (es:List Ln) (ss:List R):PyData:=match l4 (dJ ws es ss).1 with
 |some i=>.int (i:Nat)
 |none=>HQ (dJ ws es ss).2
theorem wF(c:Pc):(Kh c).depth≤2:=by show WO 0 (WO (WO 0 (WO 0 0)+1) 0)+1≤2;decide
def Kk(K:Of)(H:Hp)(v:V)(rs:List R):Prop:=∃p xs,v=.ref p/\bu K H p xs/\di (RV K H) xs rs
theorem Kk.deep{K:Of}{H:Hp}{v:V}{rs:List R}(h:Kk K H v rs):bh K H v (.tuple (rs.map dR)):=by
 obtain⟨p,xs,rfl,hS,al⟩:=h;exact .tup hS (al.deep λ_ _ z=>z.deep)
structure Hx(N:Nat)(r:R):Prop where
 bq:Bq 25882466482949286179863278649307923433294195500903155828261708777083304197655675043413266388030659964209410754393653789328972760953294720473500143200427572835208147172761078519773593353785008074840607407759949824000000000000000000000000 N r
 nn:0≤r.1
theorem Hx.am(h:Hx N r)(hN:N≤256):fJ r:=⟨h.bq.mono (Q5 _) hN,h.nn⟩
theorem EK(ok:∀w∈ws,bD w)(hw:ws.length≤20)(lok:jP ws.length y):Hx 240 (dC ws y):=by
 have b:=Cf ok hw lok;refine⟨b.mono (Hg _ (by have:=lok.few;omega) lok.pos) (Oi _),?_⟩;have nn:0≤(oA (gT ws y)).1:=by
  have go:∀(l:List R) (a:R),iP a->0≤a.1->(∀r∈l,Hw r)->0≤(l.foldl cn a).1:=by
   intro l
   induction l with
   |nil=>intro a _ na _;exact na
   |cons r l ih=>
    intro a ra na hl;have h:=hl r Oq;have hr:iP r:=⟨by have:=h.bot;omega,h.wf.cop⟩;exact ih (cn a r) (hU (Ql ra.pos hr.pos)) (Cz ra hr na (by have:=h.top;omega)) λq hq=>hl q (Ot _ hq)
  refine go _ (0,1) ⟨by decide,by decide⟩ (by decide) λr hr=>?_
  obtain⟨i,hi,rfl⟩:=OD.mp hr;have hl:=lok.num i hi;rw[aB bI (Oh hl)];exact(ok _ (OW hl)).am
 show 0≤(dZ ((oA (gT ws y)).1*1) _).1;exact sP (by omega)
theorem xN{ws:List Wk}(ok:∀w∈ws,bD w)(hw:ws.length≤20):∀{lys:List Ly} {ss:List R},(∀y∈lys,jP ws.length y)->(∀r∈ss,Hx 240 r)->∀r∈lys.foldl (λss y=>ii (dC ws y) ss y.1) ss,Hx 240 r
 | [],ss,_,h=>h
 |y::lys,ss,hl,h=>by
  refine xN (lys:=lys) ok hw (λz hz=>hl z (Ot _ hz)) ?_;have sp:=EK ok hw (hl y Oq);have go:∀(ts:List Nat) (ss:List R),(∀r∈ss,Hx 240 r)->∀r∈ii (dC ws y) ss ts,Hx 240 r:=by
   intro ts
   induction ts with
   |nil=>intro ss h;exact h
   |cons t ts ih=>
    intro ss h;refine ih (ss.set t (dC ws y)) λr hr=>?_
    rcases Ri hr with z|z
    ·exact h r z
    ·rw[z];exact sp
  exact go y.1 ss h
def vz(K:Of):Sp:=λvs H Q _=>∃(v w:V) (r q:R),vs=[v,w]/\RV K H v r/\RV K H w q/\fJ r/\fJ q/\∀u,RV K H u (eZ r q)->Q u H
structure Lm(K:Of)(H:Hp)(v u:V)(ws:List Wk)(es:List Ln):Prop where
 wv:gf K H v ws
 w8:ws.length≤20
 ok:∀w∈ws,bD w
 lv:wV K H u es
 eok:tU ws.length es
 rk:oa ws.length es
 e8:es.length≤20
def jz(K:Of):Sp:=λvs H Q _=>∃(v:V) (l wl:Addr) (ws:List Wk) (es:List Ln) (rows:List Addr) (L:Nat->Nat->Bool) (ls:List Nat),vs=[v,.ref l,.ref wl]/\gf K H v ws/\ws.length≤20/\Bx H l rows ws.length L/\Ko ws.length es L/\ba K H wl (bo ls)/\(∀i∈ls,i<ws.length)/\ls≠[]/\ls.length≤20/\oa ws.length es/\∀H',aD H H'->Q (.int (gM ws es ls:Nat)) H'
def qq(K:Of):Sp:=λvs H Q _=>∃(v u:V) (ws:List Wk) (es:List Ln),vs=[v,u]/\Lm K H v u ws es/\∀(l:Addr) (H':Hp),aD H H'->H l=none->H' l=some (.lst (bo (aK ws es ws.length)))->Q (.ref l) H'
def oH(K:Of):Sp:=λvs H Q _=>∃(v u:V) (o lf:Addr) (ws:List Wk) (ord:List Nat) (xs:List V) (rs:List R) (t:Nat) (sp:R),vs=[v,.ref o,.ref lf,.int (t:Nat),u]/\gf K H v ws/\H o=some (.lst (bo ord))/\H lf=some (.lst xs)/\o≠lf/\di (RV K H) xs rs/\rs.length=ws.length/\(∀r∈rs,fJ r)/\RV K H u sp/\fJ sp/\(∀i∈ord,i<ws.length)/\ord.length≤20∧
 ∀(w:V) (ys:List V) (H':Hp),dP lf H H'->H' lf=some (.lst ys)->di (RV K H') ys (dQ ws ord t rs sp).1->tP K H' w (dQ ws ord t rs sp).2.2->Q w H'
def xT(K:Of):Sp:=λvs H Q _=>∃(v u s:V) (ws:List Wk) (es:List Ln) (ss:List R),vs=[v,u,s]/\Lm K H v u ws es/\Kk K H s ss/\ss.length=24/\(∀r∈ss,fJ r)/\l4 (dJ ws es ss).1=none/\∀(w:V) (H':Hp),aD H H'->bh K H' w (HQ (dJ ws es ss).2)->Q w H'
def BR(K:Of)(C:Addr):Sp:=λvs H Q _=>∃(x dd:Addr) (fs:List (OV×V)),vs=[.ref x]/\H x=some (rC x C dd)/\H dd=some (dO dd fs)/\∀(l:Addr) (H':Hp),aD H H'->H' l=some (.lst [.bl true,.bl true,.bl true,.bl false])->Q (.ref l) H'
def bW(b:Bool)(x:Rat):Rat:=if b=true then x else 0
theorem de(x:Rat):bW true x=x:=Z
theorem b9(x:Rat):bW false x=0:=Z
def sQ{α:Type}(f:α->Rat):List α->Rat
 | []=>0
 |x::l=>f x+sQ f l
theorem ir{α:Type}{f g:α->Rat}:∀{l:List α},(∀x∈l,f x≤g x)->sQ f l≤sQ g l
 | [],_=>PR
 |x::l,h=>by
  have a:=h x Oq;have b:=ir (l:=l) λy hy=>h y (Ot _ hy)
  show f x+sQ f l≤g x+sQ g l;grind
theorem aO{α:Type}{f g:α->Rat}:∀{l:List α},(∀x∈l,f x=g x)->sQ f l=sQ g l
 | [],_=>rfl
 |x::l,h=>by
  show f x+sQ f l=g x+sQ g l;rw[h x Oq,aO λy hy=>h y (Ot _ hy)]
theorem ff{α:Type}{f g:α->Rat}:∀l:List α,sQ (λx=>f x+g x) l=sQ f l+sQ g l
 | []=>by show(0:Rat)=0+0;grind
 |x::l=>by
  show f x+g x+sQ (λx=>f x+g x) l=(f x+sQ f l)+(g x+sQ g l);rw[ff l];grind
theorem dU{α:Type}(c:Rat){f:α->Rat}:∀l:List α,sQ (λx=>c*f x) l=c*sQ f l
 | []=>by show(0:Rat)=c*0;grind
 |x::l=>by
  show c*f x+sQ (λx=>c*f x) l=c*(f x+sQ f l);rw[dU c l];grind
theorem fe{α:Type}{f:α->Rat}:∀a b:List α,sQ f (a++b)=sQ f a+sQ f b
 | [],b=>by show sQ f b=0+sQ f b;grind
 |x::a,b=>by
  show f x+sQ f (a++b)=(f x+sQ f a)+sQ f b;rw[fe a b];grind
theorem hG{α:Type}{f:α->Rat}(c:α->Bool):∀l:List α,sQ f (l.filter c)=sQ (λx=>bW (c x) (f x)) l
 | []=>rfl
 |x::l=>by
  have ih:=hG (f:=f) c l
  cases e:c x with
  |true=>
   rw[UB e];show f x+sQ f (l.filter c)=bW (c x) (f x)+sQ _ l;rw[ih,e];rfl
  |false=>
   rw[UA (by rw[e];simp)];show sQ f (l.filter c)=bW (c x) (f x)+sQ _ l;rw[ih,e,b9];grind
theorem oP{α β:Type}{f:β->Rat}(m:α->β):∀l:List α,sQ f (l.map m)=sQ (λx=>f (m x)) l
 | []=>rfl
 |x::l=>by
  show f (m x)+sQ f (l.map m)=f (m x)+sQ _ l;rw[oP m l]
theorem nG{f:α->Rat}{l:List α}(h:∀x∈l,0≤f x):0≤sQ f l:=by
 have:=ir (f:=λ_:α=>(0:Rat)) (g:=f) (l:=l) h;have z:∀l:List α,sQ (λ_:α=>(0:Rat)) l=0:=λl=>by
  induction l with
  |nil=>rfl
  |cons x l ih=>show(0:Rat)+_=0;rw[ih];grind
 rw[z] at this;exact this
theorem i3(d:α)(l:List α):sQ f l=sQ (λi=>f (l.getD i d)) (Og l.length):=by
 have e:=dY (β:=α) d id l;have e':(Og l.length).filter (λ_=>true)=Og l.length:=by simp
 rw[e',List.map_id] at e;have:=oP (f:=f) (λi=>id (l.getD i d)) (Og l.length);rw[e] at this;exact this
def Bv(P:Nat->Bool):Rat:=sQ (λt=>bW (P t) 1) (Og 24)
theorem fH(b:Bool)(h:0≤x):0≤bW b x:=by cases b with|true=>exact h|false=>exact PR
theorem wJ(h:∀t,t<24->P t=Q t):Bv P=Bv Q:=aO λt ht=>by rw[h t (Ow.mp ht)]
theorem so{P:Nat->Bool}{x:Nat}:∀d,(∀i,x≤i->i<x+d->P i=true)->sQ (λt=>bW (P t) 1) (Og (x+d))=sQ (λt=>bW (P t) 1) (Og x)+(d:Rat)
 |0,_=>by show sQ _ (Og x)=sQ _ (Og x)+((0:Nat):Rat);rw[show((0:Nat):Rat)=0 from Z];grind
 |d+1,h=>by
  have ih:=so (P:=P) (x:=x) d λi a b=>h i a (by omega)
  rw[←Xx,PL,fe,ih];show _+(bW (P (x+d)) 1+0)=_;rw[h (x+d) (by omega) (by omega),de,show((d+1:Nat):Rat)=(d:Rat)+1 from Rat.natCast_add d 1];grind
theorem oQ{P:Nat->Bool}{x:Nat}:∀d,(∀i,x≤i->i<x+d->P i=false)->sQ (λt=>bW (P t) 1) (Og (x+d))=sQ (λt=>bW (P t) 1) (Og x)
 |0,_=>rfl
 |d+1,h=>by
  have ih:=oQ (P:=P) (x:=x) d λi a b=>h i a (by omega)
  rw[←Xx,PL,fe,ih];show _+(bW (P (x+d)) 1+0)=_;rw[h (x+d) (by omega) (by omega),b9];grind
theorem lG(P:Nat->Bool):∀k,∃x,x≤k/\(∀i,x≤i->i<k->P i=true)/\(x=0∨P (x-1)=false)
 |0=>⟨0,Oi _,λi a b=>by omega,.inl Z⟩
 |k+1=>by
  cases c:P k with
  |false=>exact⟨k+1,Oi _,λi a b=>by omega,.inr c⟩
  |true=>
   obtain⟨x,h1,h2,h3⟩:=lG P k;refine⟨x,by omega,λi a b=>?_,h3⟩;by_cases z:i=k
   ·rw[z];exact c
   ·exact h2 i a (by omega)
def gD(A:Nat->Bool)(w:Wk):Bool:=(Og 24).all λt=>!fV w t||A t
theorem dX:gD A w=true↔∀t,t<24->fV w t=true->A t=true:=by
 unfold gD;rw[Qj];constructor
 ·intro h t ht e;have:=h t (Ow.mpr ht);rw[e] at this
  simpa using this
 ·intro h t ht
  cases e:fV w t with
  |false=>rfl
  |true=>rw[h t (Ow.mp ht) e];rfl
theorem gc(h:∀t,t<24->A t=true->A' t=true)(q:gD A w=true):gD A' w=true:=dX.mpr λt ht e=>h t ht (dX.mp q t ht e)
def mK(w:Wk):Rat:=val w.2.2
def FM(ws:List Wk)(A:Nat->Bool):Rat:=sQ (λw=>bW (gD A w) (mK w)) ws
theorem tH(h:bD w):0<mK w:=by
 have a:=h.am;show 0<val w.2.2;unfold val;have h1:(0:Rat)<(w.2.2.1:Rat):=P5.mpr (show(0:Int)<w.2.2.1 by have:=a.top;omega);have h2:(0:Rat)<(w.2.2.2:Rat):=P5.mpr (show(0:Int)<w.2.2.2 by have:=a.bot;omega);generalize (w.2.2.1:Rat)=x at *;generalize (w.2.2.2:Rat)=y at *;exact(Rat.lt_div_iff h2).mpr (by grind)
theorem rh{ws:List Wk}(ok:∀w∈ws,bD w):∀w∈ws,0≤mK w:=λw hw=>QP (tH (ok w hw))
theorem sX(hx:0≤x)(h:b=true->c=true):bW b x≤bW c x:=by
 cases b with
 |false=>exact fH c hx
 |true=>rw[h Z];exact PR
theorem DH(nn:∀w∈ws,0≤mK w)(h:∀t,t<24->A t=true->A' t=true):FM ws A≤FM ws A':=ir λw hw=>sX (nn w hw) (gc h)
theorem Bo(nn:∀w∈ws,0≤mK w)(A B:Nat->Bool):FM ws A+FM ws B≤FM ws (λt=>A t||B t)+FM ws (λt=>A t&&B t):=by
 unfold FM;rw[←ff,←ff];refine ir λw hw=>?_
 have x:=nn w hw;have o1:gD A w=true->gD (λt=>A t||B t) w=true:=gc λt _ e=>by rw[e];rfl
 have o2:gD B w=true->gD (λt=>A t||B t) w=true:=gc λt _ e=>by rw[e,Sd]
 have o3:gD A w=true->gD B w=true->gD (λt=>A t&&B t) w=true:=λa b=>dX.mpr λt ht e=>by rw[dX.mp a t ht e,dX.mp b t ht e];rfl
 have n3:=fH (gD (λt=>A t&&B t) w) x
 cases a:gD A w with
 |true=>
  cases b:gD B w with
  |true=>rw[o1 a,o3 a b];exact PR
  |false=>rw[o1 a,de,b9];grind
 |false=>
  cases b:gD B w with
  |true=>rw[o2 b,de,b9];grind
  |false=>
   have n4:=fH (gD (λt=>A t||B t) w) x;rw[b9];grind
theorem js:(bz ((Og 24).filter q) w).isSome=!gD (λt=>!q t) w:=by
 rw[Qd,fY];constructor
 ·rintro⟨t,ht,e⟩;obtain⟨h1,h2⟩:=OL.mp ht
  cases c:gD (λt=>!q t) w with
  |false=>rfl
  |true=>
   have:=dX.mp c t (Ow.mp h1) e;rw[h2] at this
   cases this
 ·intro h;apply TU;intro n;have:gD (λt=>!q t) w=true:=dX.mpr λt ht e=>by
   cases c:q t with
   |false=>rfl
   |true=>exact absurd ⟨t,OL.mpr ⟨Ow.mpr ht,c⟩,e⟩ n
  rw[this] at h
  cases h
def dH(ls:List Nat)(p:Pl)(w:Wk):Bool:=gw p.1 p.2 (bz ls w)
def SM(ws:List Wk)(ls:List Nat)(p:Pl):Rat:=sQ (λw=>bW (dH ls p w) (mK w)) ws
theorem uP(ws:List Wk)(ls:List Nat)(p:Pl):cr (ws.map (bz ls)) p=(Og ws.length).filter λi=>dH ls p (ws.getD i bI):=by
 unfold cr dH;rw[Ol];refine Ws λi hi=>?_
 have hl:=Ow.mp hi;have h:=Oh hl;rw[aB bI h,aB none (show(ws.map (bz ls))[i]?=some (bz ls ws[i]) by rw[OB,h];rfl)]
theorem Bf(ws:List Wk)(ls:List Nat)(p:Pl):gT ws (hV ws ls p)=(ws.filter (dH ls p)).map λw=>w.2.2:=by
 unfold gT hV;rw[uP];exact fb bI (dH ls p) (λw:Wk=>w.2.2) ws
theorem uc:∀rs:List R,iA rs=sQ val rs
 | []=>rfl
 |r::rs=>by
  show val r+iA rs=val r+sQ val rs;rw[uc rs]
theorem BG(ws:List Wk)(ls:List Nat)(p:Pl):iA (gT ws (hV ws ls p))=SM ws ls p:=by
 rw[Bf,uc,oP];exact hG _ ws
theorem xf(h:bD w):((w.2.2.1*4834023173650597876544881407704768017555162023798869768948261467874213139288822304401239266415271355416806678311752296500438875701050478901734985823099062742197929195130163826648664551259341770021719244800000000000000000000000/w.2.2.2:Int):Rat)=4834023173650597876544881407704768017555162023798869768948261467874213139288822304401239266415271355416806678311752296500438875701050478901734985823099062742197929195130163826648664551259341770021719244800000000000000000000000*mK w:=by
 obtain⟨n,hn⟩:=h.am.dvd;have b:=h.am.bot;have e:w.2.2.1*4834023173650597876544881407704768017555162023798869768948261467874213139288822304401239266415271355416806678311752296500438875701050478901734985823099062742197929195130163826648664551259341770021719244800000000000000000000000/w.2.2.2=w.2.2.1*n:=by
  rw[hn,SH];exact OT _ (by omega)
 have e2:(4834023173650597876544881407704768017555162023798869768948261467874213139288822304401239266415271355416806678311752296500438875701050478901734985823099062742197929195130163826648664551259341770021719244800000000000000000000000:Rat)=(w.2.2.2:Rat)*(n:Rat):=by
  rw[←Pi,←hn];rfl
 have nz:(w.2.2.2:Rat)≠0:=cX (by omega);rw[e,Pi,e2];show _=_*val w.2.2;unfold val;generalize (w.2.2.1:Rat)=x at *;generalize (w.2.2.2:Rat)=y at *;generalize (n:Rat)=z at *;grind
theorem ql:∀l:List Int,((l.sum:Int):Rat)=sQ (λx:Int=>(x:Rat)) l
 | []=>rfl
 |x::l=>by
  rw[Sr,U5,ql l];rfl
theorem pf(ok:∀w∈ws,bD w)(ls:List Nat)(p:Pl):((dj (ws.map (bz ls)) (gU (cj ws)) p:Int):Rat)=4834023173650597876544881407704768017555162023798869768948261467874213139288822304401239266415271355416806678311752296500438875701050478901734985823099062742197929195130163826648664551259341770021719244800000000000000000000000*SM ws ls p:=by
 unfold dj;have e:(cr (ws.map (bz ls)) p).map (gU (cj ws))=(ws.filter (dH ls p)).map λw=>w.2.2.1*4834023173650597876544881407704768017555162023798869768948261467874213139288822304401239266415271355416806678311752296500438875701050478901734985823099062742197929195130163826648664551259341770021719244800000000000000000000000/w.2.2.2:=by
  rw[uP,←fb bI (dH ls p) (λw:Wk=>w.2.2.1*4834023173650597876544881407704768017555162023798869768948261467874213139288822304401239266415271355416806678311752296500438875701050478901734985823099062742197929195130163826648664551259341770021719244800000000000000000000000/w.2.2.2) ws];refine Vy λi hi=>?_
  have h:=Oh (Ow.mp (OL.mp hi).1);rw[aB bI h];exact aB 0 (by unfold cj;rw[OB,h];rfl)
 rw[e,ql,oP,hG];unfold SM;rw[←dU];refine aO λw hw=>?_
 rw[xf (ok w hw)]
 cases dH ls p w with
 |true=>rfl
 |false=>show(0:Rat)=4834023173650597876544881407704768017555162023798869768948261467874213139288822304401239266415271355416806678311752296500438875701050478901734985823099062742197929195130163826648664551259341770021719244800000000000000000000000*0;grind
theorem gN(h:im n p):(0:Rat)<(bO p:Rat):=P5.mpr h.pos
theorem xo(ok:∀w∈ws,bD w)(h:Bn ws ls p)(hr:im ls.length r):SM ws ls r*(bO p:Rat)≤SM ws ls p*(bO r:Rat):=by
 have a:dj (ws.map (bz ls)) (gU (cj ws)) r*bO p≤dj (ws.map (bz ls)) (gU (cj ws)) p*bO r:=by
  rcases h.1.all r hr with z | ⟨z,_⟩<;>omega
 have b:=Rat.intCast_le_intCast.mpr a;rw[Pi,Pi,pf ok,pf ok] at b;generalize SM ws ls r=x at *;generalize SM ws ls p=y at *;generalize (bO p:Rat)=u at *;generalize (bO r:Rat)=v at *;grind
theorem wk(h:dH ls p w=true):(bz ls w).isSome=true:=by
 unfold dH at h
 cases c:bz ls w with
 |none=>rw[c] at h;cases h
 |some x=>rfl
theorem AD(e:bz ls w=some (a,b)):dH ls p w=(decide (p.1≤a)&&decide (b≤p.2)):=by
 unfold dH;rw[e];rfl
def nx(q:Nat->Bool)(p:Pl):Nat->Bool:=λt=>!(dm ((Og 24).filter q) p).contains t&&q t
theorem oS(q:Nat->Bool)(p:Pl):dr ((Og 24).filter q) p=(Og 24).filter (nx q p):=by
 unfold dr nx;rw[VY]
theorem Ei(q:Nat->Bool):((Og 24).filter q).Nodup:=QU _ SW
theorem KS(hp:im ((Og 24).filter q).length p):FM ws (λt=>!nx q p t)=FM ws (λt=>!q t)+SM ws ((Og 24).filter q) p:=by
 unfold FM SM;rw[←ff];refine aO λw _=>?_
 have e:=nH (w:=w) (Ei q) hp;rw[oS,js,js] at e;have hs:=wk (ls:=(Og 24).filter q) (p:=p) (w:=w);rw[js] at hs;show bW (gD _ w) _=bW (gD _ w) _+bW (dH _ p w) _;have e':gD (λt=>!nx q p t) w=(gD (λt=>!q t) w||dH ((Og 24).filter q) p w):=by
  have:gw p.1 p.2 (bz ((Og 24).filter q) w)=dH ((Og 24).filter q) p w:=Z;rw[this] at e
  cases a:gD (λt=>!nx q p t) w<;>cases b:gD (λt=>!q t) w<;>cases c:dH ((Og 24).filter q) p w<;>rw[a,b,c] at e<;>first|rfl|cases e
 rw[e']
 cases b:gD (λt=>!q t) w with
 |true=>
  cases c:dH ((Og 24).filter q) p w with
  |true=>rw[b] at hs;cases hs c
  |false=>show mK w=mK w+0;grind
 |false=>
  cases c:dH ((Og 24).filter q) p w with
  |true=>show mK w=0+mK w;grind
  |false=>show(0:Rat)=0+0;grind
theorem Bc(q P:Nat->Bool):Bv (λt=>q t&&P t)=sQ (λi=>bW (P (((Og 24).filter q).getD i 0)) 1) (Og ((Og 24).filter q).length):=by
 rw[←i3 (f:=λt=>bW (P t) 1) 0 ((Og 24).filter q),hG];refine aO λt _=>?_
 show bW (q t&&P t) 1=bW (q t) (bW (P t) 1)
 cases q t<;>rfl
theorem GE(hp:im ((Og 24).filter q).length p):Bv (λt=>q t&&!nx q p t)=(bO p:Rat):=by
 have e1:Bv (λt=>q t&&!nx q p t)=Bv (λt=>q t&&(dm ((Og 24).filter q) p).contains t):=wJ λt _=>by
  unfold nx
  cases q t<;>cases(dm ((Og 24).filter q) p).contains t<;>rfl
 rw[e1,Bc];have h1:=hp.1;have h2:=hp.2;have e2:sQ (λi=>bW ((dm ((Og 24).filter q) p).contains (((Og 24).filter q).getD i 0)) 1) (Og ((Og 24).filter q).length)=sQ (λi=>bW (decide (p.1≤i)&&decide (i≤p.2)) 1) (Og ((Og 24).filter q).length):=aO λi hi=>by
  have hi':=Ow.mp hi;have m:=o7 (Ei q) hp hi';rw[aB 0 (Oh hi')]
  congr 1
  rw[Qd,Rf,m,OA,decide_eq_true_iff,decide_eq_true_iff]
 rw[e2];generalize ((Og 24).filter q).length=n at *;obtain⟨d,rfl⟩:∃d,n=(p.2+1)+d:=⟨n-(p.2+1),by omega⟩;rw[oQ (x:=p.2+1) d λi a b=>by rw[decide_eq_false (show ¬i≤p.2 by omega),PV]];obtain⟨e,he⟩:∃e,p.2+1=p.1+e:=⟨p.2+1-p.1,by omega⟩;rw[he,so (x:=p.1) e λi a b=>by rw[decide_eq_true a,decide_eq_true (show i≤p.2 by omega)];rfl];have z:=oQ (P:=λi=>decide (p.1≤i)&&decide (i≤p.2)) (x:=0) p.1 λi a b=>by
  show(decide (p.1≤i)&&_)=false;rw[decide_eq_false (show ¬p.1≤i by omega)];rfl
 rw[UY] at z;rw[z];show(0:Rat)+(e:Rat)=_;have:bO p=(e:Int):=by unfold bO;omega
 rw[this,RC];grind
theorem vE(q:Nat->Bool):((Og 24).filter q).Pairwise (· < ·):=QU _ UX
theorem CA(e:bz ((Og 24).filter q) w=some (a,b))(h1:a≤i)(h2:i≤b):i∈gr ((Og 24).filter q) w:=by
 obtain⟨m1,m2,_⟩:=iQ e;have srt:=QC.mp (vE q);generalize (Og 24).filter q=ls at *;obtain⟨la,wa⟩:=fu.mp m1;obtain⟨lb,wb⟩:=fu.mp m2;have li:i<ls.length:=by omega
 rw[aB 0 (Oh la)] at wa;rw[aB 0 (Oh lb)] at wb;refine fu.mpr ⟨li,?_⟩;rw[aB 0 (Oh li)];unfold fV at wa wb ⊢;rw[OA,decide_eq_true_iff,decide_eq_true_iff] at wa wb ⊢;have u1:ls[a]≤ls[i]:=by
  by_cases z:a=i
  ·subst z;exact Oi _
  ·exact RK (srt a i la li (by omega))
 have u2:ls[i]≤ls[b]:=by
  by_cases z:i=b
  ·subst z;exact Oi _
  ·exact RK (srt i b li lb (by omega))
 omega
def gB(ls:List Nat)(P:Nat->Bool)(k:Nat)(w:Wk):Bool:=(bz ls w).isSome&&(gr ls w).all λi=>decide (i<k)&&P i
theorem jK:gB ls P k w=true↔(bz ls w).isSome=true/\∀i∈gr ls w,i<k/\P i=true:=by
 unfold gB;rw[OA,Qj];constructor
 ·rintro⟨a,b⟩;refine⟨a,λi hi=>?_⟩;have:=b i hi;rw[OA,decide_eq_true_iff] at this;exact this
 ·rintro⟨a,b⟩;refine⟨a,λi hi=>?_⟩;rw[OA,decide_eq_true_iff];exact b i hi
def GM(ws:List Wk)(ls:List Nat)(P:Nat->Bool)(k:Nat):Rat:=sQ (λw=>bW (gB ls P k w) (mK w)) ws
theorem JS(ok:∀w∈ws,bD w)(h:Bn ws ((Og 24).filter q) p)(P:Nat->Bool):∀n k,k≤n->k≤((Og 24).filter q).length->GM ws ((Og 24).filter q) P k*(bO p:Rat)≤SM ws ((Og 24).filter q) p*sQ (λi=>bW (P i) 1) (Og k):=by
 have nn:=rh ok;have lp:=gN h.1.inn;intro n
 induction n with
 |zero=>
  intro k hk _;obtain rfl:k=0:=by omega
  have z:GM ws ((Og 24).filter q) P 0=0:=by
   have le:GM ws ((Og 24).filter q) P 0≤sQ (λ_:Wk=>bW false 0) ws:=ir λw _=>by
    cases c:gB ((Og 24).filter q) P 0 w with
    |false=>exact PR
    |true=>
     obtain⟨a,b⟩:=jK.mp c;obtain⟨⟨x,y⟩,e⟩:=Qb.mp a;have:=(b x (iQ e).1).1;omega
   have z0:∀l:List Wk,sQ (λ_:Wk=>bW false 0) l=0:=λl=>by
    induction l with
    |nil=>rfl
    |cons x l ih=>show bW false 0+_=0;rw[ih,b9];grind
   rw[z0] at le;have ge:0≤GM ws ((Og 24).filter q) P 0:=nG λw hw=>fH _ (nn w hw)
   grind
  rw[z];show(0:Rat)*_≤_*0;grind
 |succ n ih=>
  intro k hk hl;by_cases k0:k≤n
  ·exact ih k k0 hl
  obtain rfl:k=n+1:=by omega
  cases c:P n with
  |false=>
   have e:GM ws ((Og 24).filter q) P (n+1)≤GM ws ((Og 24).filter q) P n:=ir λw hw=>sX (nn w hw) λg=>by
    obtain⟨a,b⟩:=jK.mp g;refine jK.mpr ⟨a,λi hi=>?_⟩;obtain⟨x,y⟩:=b i hi;refine⟨?_,y⟩;by_cases z:i=n
    ·rw[z,c] at y;cases y
    ·omega
   have e2:=QJ e (QP lp);have i1:=ih n (Oi _) (by omega);rw[PL (n:=n),fe];show _≤_*(_+(bW (P n) 1+0));rw[c,b9];grind
  |true=>
   obtain⟨x,x1,x2,x3⟩:=lG P (n+1);have xn:x≤n:=by
    by_cases z:x=n+1
    ·subst z;rcases x3 with y|y
     ·omega
     ·rw[show n+1-1=n by omega,c] at y;cases y
    ·omega
   have e:GM ws ((Og 24).filter q) P (n+1)≤GM ws ((Og 24).filter q) P x+SM ws ((Og 24).filter q) (x,n):=by
    unfold GM SM;rw[←ff];refine ir λw hw=>?_
    have w0:=nn w hw;have n1:=fH (gB ((Og 24).filter q) P x w) w0;have n2:=fH (dH ((Og 24).filter q) (x,n) w) w0
    cases g:gB ((Og 24).filter q) P (n+1) w with
    |false=>rw[b9];grind
    |true=>
     obtain⟨a,b⟩:=jK.mp g;obtain⟨⟨u,v⟩,eu⟩:=Qb.mp a;obtain⟨m1,m2,bd⟩:=iQ eu;by_cases z:v<x
     ·have:gB ((Og 24).filter q) P x w=true:=jK.mpr ⟨a,λi hi=>⟨by have:=bd i hi;omega,(b i hi).2⟩⟩;rw[this,de];grind
     ·have xu:x≤u:=by
       apply TU;intro nu;have m:=CA eu (i:=x-1) (by omega) (by omega);have y:=(b _ m).2;rcases x3 with y'|y'
       ·omega
       ·rw[y'] at y;cases y
      have vn:=(b v m2).1;have:dH ((Og 24).filter q) (x,n) w=true:=by
       rw[AD eu,OA,decide_eq_true_iff,decide_eq_true_iff];exact⟨xu,by show v≤n;omega⟩
      rw[this,de];grind
   have i1:=ih x xn (by omega);have t1:=xo ok h (r:=(x,n)) ⟨xn,by show n<_;omega⟩;obtain⟨d,hd⟩:∃d,n+1=x+d:=⟨n+1-x,by omega⟩;have r:=so (P:=P) (x:=x) d λi a b=>x2 i a (by omega)
   rw[←hd] at r;rw[r];have ld:(bO (x,n):Rat)=(d:Rat):=by
    have:bO (x,n)=(d:Int):=by show(n:Int)-(x:Int)+1=_;omega
    rw[this,RC]
   rw[ld] at t1;have e2:=QJ e (QP lp);generalize GM ws ((Og 24).filter q) P (n+1)=g1 at *;generalize GM ws ((Og 24).filter q) P x=g0 at *;generalize SM ws ((Og 24).filter q) (x,n)=s1 at *;generalize SM ws ((Og 24).filter q) p=sp at *;generalize (bO p:Rat)=l at *;generalize sQ (λt=>bW (P t) 1) (Og x)=c0 at *;generalize (d:Rat)=dd at *;grind
theorem G4(ok:∀w∈ws,bD w)(h:Bn ws ((Og 24).filter q) p)(hA:∀t,t<24->q t=false->A t=true):(FM ws A-FM ws (λt=>!q t))*(bO p:Rat)≤SM ws ((Og 24).filter q) p*Bv (λt=>q t&&A t):=by
 have g:=JS ok h (λi=>A (((Og 24).filter q).getD i 0)) _ _ (Oi _) (Oi ((Og 24).filter q).length);rw[Bc];have e:FM ws A=FM ws (λt=>!q t)+GM ws ((Og 24).filter q) (λi=>A (((Og 24).filter q).getD i 0)) ((Og 24).filter q).length:=by
  unfold FM GM;rw[←ff];refine aO λw _=>?_
  have wi:=js (q:=q) (w:=w)
  cases c:gD (λt=>!q t) w with
  |true=>
   have g0:gB ((Og 24).filter q) (λi=>A (((Og 24).filter q).getD i 0)) ((Og 24).filter q).length w=false:=by
    unfold gB;rw[wi,c];rfl
   have a1:gD A w=true:=gc (λt ht e=>hA t ht (by simpa using e)) c;rw[g0,a1,de,b9];grind
  |false=>
   rw[c] at wi;have eq:gD A w=gB ((Og 24).filter q) (λi=>A (((Og 24).filter q).getD i 0)) ((Og 24).filter q).length w:=by
    rw[Qd,jK,dX];constructor
    ·intro z;refine⟨wi,λi hi=>?_⟩;obtain⟨li,wl⟩:=fu.mp hi;refine⟨li,?_⟩;have m:=OW li;rw[aB 0 (Oh li)] at wl ⊢;exact z _ (Ow.mp (OL.mp m).1) wl
    ·rintro⟨_,z⟩ t ht e
     cases cq:q t with
     |false=>exact hA t ht cq
     |true=>
      obtain⟨i,li,ei⟩:=Pj.mp (OL.mpr ⟨Ow.mpr ht,cq⟩);have gd:((Og 24).filter q).getD i 0=t:=by rw[aB 0 (Oh li)];exact ei
      have y:=(z i (fu.mpr ⟨li,by rw[gd];exact e⟩)).2;rw[gd] at y;exact y
   rw[eq,b9];grind
 rw[e];grind
def Bt(ws:List Wk):List Ly->Nat->Option R
 | [],_=>none
 |y::r,t=>if y.1.contains t then some (dC ws y) else Bt ws r t
theorem lg(ws:List Wk)(y:Ly)(r:List Ly)(t:Nat):Bt ws (y::r) t=if y.1.contains t then some (dC ws y) else Bt ws r t:=by rw[Bt]
def kf(ws:List Wk)(lys:List Ly)(t:Nat):Rat:=match Bt ws lys t with
 |none=>0
 |some r=>val r
theorem uk(ws:List Wk)(t:Nat):kf ws [] t=0:=Z
theorem iY(ws:List Wk)(y:Ly)(r:List Ly)(t:Nat):kf ws (y::r) t=if y.1.contains t then val (dC ws y) else kf ws r t:=by
 unfold kf;rw[lg]
 cases y.1.contains t<;>rfl
theorem xU(h:jr ws ls lys):(Bt ws lys t).isSome=true->t∈ls:=by
 induction h with
 |nil z=>intro e;cases e
 | @cons ls p r h tl ih=>
  intro e;rw[lg] at e
  cases c:(hV ws ls p).1.contains t with
  |true=>exact S6 (S7 (show t∈(ls.drop p.1).take (p.2+1-p.1) from Rf.mp c))
  |false=>
   rw[c] at e;exact(OL.mp (ih e)).1
theorem qD(r:R)(d:R):∀(ts:List Nat) (ss:List R) (t:Nat),t<ss.length->(ii r ss ts).getD t d=if ts.contains t then r else ss.getD t d
 | [],ss,t,_=>rfl
 |u::ts,ss,t,h=>by
  show(ii r (ss.set u r) ts).getD t d=_;rw[qD r d ts (ss.set u r) t (by rw[Qy];exact h),QH]
  cases c:ts.contains t with
  |true=>simp
  |false=>
   by_cases z:t=u
   ·subst z;simp[Op,h]
   ·have z':¬u=t:=λq=>z q.symm
    simp[Op,z,z',PQ]
theorem BN(h:jr ws ls lys):∀(ss:List R) (t:Nat) (d:R),t<ss.length->(lys.foldl (λss y=>ii (dC ws y) ss y.1) ss).getD t d=(Bt ws lys t).getD (ss.getD t d):=by
 induction h with
 |nil z=>intro ss t d _;rfl
 | @cons ls p r h tl ih=>
  intro ss t d ht;rw[PB,ih _ t d (by rw[lu];exact ht),qD _ _ _ _ _ ht,lg]
  cases c:(hV ws ls p).1.contains t with
  |false=>rfl
  |true=>
   have:Bt ws r t=none:=by
    cases e:Bt ws r t with
    |none=>rfl
    |some x=>
     have m:=xU tl (t:=t) (by rw[e];rfl);have:=(OL.mp m).2;rw[show(dm ls p).contains t=true from c] at this
     cases this
   rw[this];rfl
theorem kq(h:jr ws (Og 24) lys)(ht:t<24)(d:R):val ((aX ws lys).getD t d)=kf ws lys t:=by
 unfold aX;rw[BN h _ t d (by rw[R3];exact ht)];unfold kf
 cases Bt ws lys t with
 |some r=>rfl
 |none=>
  show val ((Ou 24 ((0,1):R)).getD t d)=0;rw[aB d (show(Ou 24 ((0,1):R))[t]?=some (0,1) by rw[RF,if_pos ht])];exact gi
theorem Dw(ok:∀w∈ws,bD w)(ls:List Nat)(p:Pl):∀r∈gT ws (hV ws ls p),iP r:=by
 intro r hr;rw[Bf] at hr;obtain⟨w,hw,rfl⟩:=OD.mp hr;exact(ok w (OL.mp hw).1).am.wf.red
theorem Dq(hp:im ls.length p):(((dm ls p).length:Nat):Rat)=(bO p:Rat):=by
 have h1:=hp.1;have h2:=hp.2;have e:(dm ls p).length=p.2+1-p.1:=by unfold dm;rw[PX,RG];omega
 have:bO p=(((dm ls p).length:Nat):Int):=by rw[e];unfold bO;omega
 rw[this,RC]
theorem ku(ok:∀w∈ws,bD w)(hp:im ls.length p):val (dC ws (hV ws ls p))*(bO p:Rat)=SM ws ls p:=by
 obtain⟨rd,e⟩:=ol (Dw ok ls p);have lp:=gN hp;have cl:=Dq hp;have pos:(0:Int)<(((hV ws ls p).1.length:Nat):Int):=by
  refine P5.mp ?_;rw[RC];show((0:Int):Rat)<(((dm ls p).length:Nat):Rat);rw[cl];exact lp
 unfold dC;rw[vm rd.pos pos,e,BG];have v1:val ((1,(((hV ws ls p).1.length:Nat):Int)):R)=1/(bO p:Rat):=by
  unfold val;show((1:Int):Rat)/((((dm ls p).length:Nat):Int):Rat)=_;rw[RC,cl];rfl
 rw[v1];generalize SM ws ls p=s at *;generalize (bO p:Rat)=l at *;have:l≠0:=λz=>by rw[z] at lp;exact absurd lp (by decide +kernel)
 grind
theorem JI(ok:∀w∈ws,bD w)(ls:List Nat)(p:Pl):0≤SM ws ls p:=nG λw hw=>fH _ (rh ok w hw)
theorem EL(ok:∀w∈ws,bD w)(hp:im ls.length p):0≤val (dC ws (hV ws ls p)):=by
 have e:=ku ok hp;have s:=JI ok ls p;have lp:=gN hp;rw[←e] at s;generalize val (dC ws (hV ws ls p))=d at *;generalize (bO p:Rat)=l at *;by_cases z:0≤d
 ·exact z
 ·have z':d<0:=UZ.mp z;have:=R7 z' lp;grind
theorem EO(ok:∀w∈ws,bD w)(h:jr ws ls lys)(t:Nat):0≤kf ws lys t:=by
 induction h with
 |nil z=>exact PR
 | @cons ls p r h tl ih=>
  rw[iY]
  cases c:(hV ws ls p).1.contains t with
  |true=>exact EL ok h.1.inn
  |false=>exact ih
theorem AI(ok:∀w∈ws,bD w)(h:Bn ws ((Og 24).filter q) p)(hA:∀t,t<24->q t=false->A t=true):FM ws A-FM ws (λt=>!q t)≤val (dC ws (hV ws ((Og 24).filter q) p))*Bv (λt=>q t&&A t):=by
 have g:=G4 ok h hA;have e:=ku ok h.1.inn;have lp:=gN h.1.inn;rw[←e] at g;generalize FM ws A-FM ws (λt=>!q t)=x at *;generalize val (dC ws (hV ws ((Og 24).filter q) p))=d at *;generalize Bv (λt=>q t&&A t)=c at *;generalize (bO p:Rat)=l at *;by_cases z:x≤d*c
 ·exact z
 ·have z':d*c<x:=UZ.mp z;have:=R7 z' lp;grind
theorem uM:(dm ((Og 24).filter q) p).contains t=true->q t=true:=λh=>by
 have:=S6 (S7 (show t∈(((Og 24).filter q).drop p.1).take (p.2+1-p.1) from Rf.mp h));exact(OL.mp this).2
theorem vg(ok:∀w∈ws,bD w):FM ws (λ_=>false)=0:=by
 have e:FM ws (λ_=>false)=sQ (λ_:Wk=>0*(0:Rat)) ws:=aO λw hw=>by
  have:gD (λ_=>false) w=false:=by
   cases c:gD (λ_=>false) w with
   |false=>rfl
   |true=>
    have o:=ok w hw;have l1:=o.le;have l2:=o.lt;have:=dX.mp c w.1 (by omega) (by unfold fV;rw[decide_eq_true (Oi _),decide_eq_true l1];rfl)
    cases this
  rw[this,b9];grind
 rw[e,dU];grind
theorem EN(ok:∀w∈ws,bD w)(h:jr ws ls lys):∀(q:Nat->Bool),ls=(Og 24).filter q->sQ (λt=>bW (q t) (kf ws lys t)) (Og 24)=FM ws (λ_=>true)-FM ws (λt=>!q t):=by
 induction h with
 | @nil ls z=>
  intro q e;subst e;have e:FM ws (λ_=>true)=FM ws (λu=>!q u):=aO λw hw=>by
   have n:=RB.mp z w hw;rw[js] at n;have i0:gD (λt=>!q t) w=true:=by simpa using n
   rw[i0,gc (λ_ _ _=>Z) i0]
  rw[e];have e2:sQ (λt=>bW (q t) (kf ws [] t)) (Og 24)=sQ (λ_:Nat=>0*(0:Rat)) (Og 24):=aO λt _=>by
   rw[uk]
   cases q t with
   |true=>rw[de];grind
   |false=>rw[b9];grind
  rw[e2,dU];grind
 | @cons ls p r h tl ih=>
  intro q e;subst e;have hp:im ((Og 24).filter q).length p:=h.1.inn;have i1:=ih (nx q p) (oS q p);have nF:=KS (ws:=ws) hp;have nC:=GE hp;have sv:=ku ok hp;have e2:sQ (λt=>bW (q t) (kf ws (hV ws ((Og 24).filter q) p::r) t)) (Og 24)=sQ (λt=>bW (nx q p t) (kf ws r t)+val (dC ws (hV ws ((Og 24).filter q) p))*bW (q t&&!nx q p t) 1) (Og 24):=aO λt ht=>by
   rw[iY];have n:nx q p t=(!(dm ((Og 24).filter q) p).contains t&&q t):=Z;have lf:=uM (q:=q) (p:=p) (t:=t);rw[show(hV ws ((Og 24).filter q) p).1.contains t=(dm ((Og 24).filter q) p).contains t from Z]
   cases a:(dm ((Og 24).filter q) p).contains t with
   |true=>
    rw[a] at n lf;rw[lf Z,n];show val _=0+val _*1;grind
   |false=>
    rw[a] at n;rw[n]
    cases q t with
    |true=>show kf ws r t=kf ws r t+_*0;grind
    |false=>show(0:Rat)=0+_*0;grind
  rw[e2,ff,i1,dU];have:sQ (λt=>bW (q t&&!nx q p t) 1) (Og 24)=(bO p:Rat):=nC;rw[this,sv,nF];grind
theorem DI(ws:List Wk):FM ws (λ_=>true)=sQ mK ws:=aO λw _=>by
 have:gD (λ_=>true) w=true:=dX.mpr λ_ _ _=>Z
 rw[this];rfl
theorem cap(ok:∀w∈ws,bD w)(h:jr ws ls lys):∀(q A:Nat->Bool),ls=(Og 24).filter q->(∀t,t<24->q t=false->A t=true)->FM ws A-FM ws (λt=>!q t)≤sQ (λt=>bW (q t&&A t) (kf ws lys t)) (Og 24):=by
 induction h with
 | @nil ls z=>
  intro q A e hA;subst e;have e:FM ws (λ_=>true)=FM ws (λu=>!q u):=aO λw hw=>by
   have n:=RB.mp z w hw;rw[js] at n;have i0:gD (λt=>!q t) w=true:=by simpa using n
   rw[i0,gc (λ_ _ _=>Z) i0]
  have m:=DH (rh ok) (A:=A) (A':=λ_=>true) (λ_ _ _=>Z);have nn:0≤sQ (λt=>bW (q t&&A t) (kf ws [] t)) (Og 24):=nG λt _=>fH _ (by rw[uk];exact PR)
  rw[e] at m;grind
 | @cons ls p r h tl ih=>
  intro q A e hA;subst e;have i1:=ih (nx q p) (λt=>A t||!nx q p t) (oS q p) (λt _ hn=>by
   show(A t||!nx q p t)=true;rw[hn];exact Sd _)
  have g:=AI ok h (A:=λt=>A t&&!nx q p t) (λt ht hq=>by
   show(A t&&!nx q p t)=true;rw[hA t ht hq];unfold nx;rw[hq,PV];rfl)
  have sup:=Bo (rh ok) A (λt=>!nx q p t);have e2:sQ (λt=>bW (q t&&A t) (kf ws (hV ws ((Og 24).filter q) p::r) t)) (Og 24)=sQ (λt=>bW (nx q p t&&(A t||!nx q p t)) (kf ws r t)+val (dC ws (hV ws ((Og 24).filter q) p))*bW (q t&&(A t&&!nx q p t)) 1) (Og 24):=aO λt ht=>by
   rw[iY];have n:nx q p t=(!(dm ((Og 24).filter q) p).contains t&&q t):=Z;have lf:=uM (q:=q) (p:=p) (t:=t);rw[show(hV ws ((Og 24).filter q) p).1.contains t=(dm ((Og 24).filter q) p).contains t from Z]
   cases a:(dm ((Og 24).filter q) p).contains t with
   |true=>
    rw[a] at n lf;rw[lf Z,n]
    cases A t with
    |true=>show val _=0+val _*1;grind
    |false=>show(0:Rat)=0+val _*0;grind
   |false=>
    rw[a] at n;rw[n]
    cases q t with
    |true=>
     cases A t with
     |true=>show kf ws r t=kf ws r t+_*0;grind
     |false=>show(0:Rat)=0+_*0;grind
    |false=>show(0:Rat)=0+_*0;grind
  rw[e2,ff,dU];have c:sQ (λt=>bW (q t&&(A t&&!nx q p t)) 1) (Og 24)=Bv (λt=>q t&&(A t&&!nx q p t)):=Z;rw[c];grind
abbrev Ls:=Nat->Rat
def fZ(L:Ls)(i:Nat)(x:Rat):Ls:=λj=>if j=i then x else L j
def mn(a b:Rat):Rat:=if a≤b then a else b
def bY(W:Nat->Bool)(st:Ls×Rat)(i:Nat):Ls×Rat:=if W i=true then(fZ st.1 i (st.1 i-mn (st.1 i) st.2),st.2-mn (st.1 i) st.2) else st
def ee(W:Nat->Bool)(ord:List Nat)(L:Ls)(s:Rat):Ls×Rat:=ord.foldl (bY W) (L,s)
theorem GK(a b:Rat):mn a b≤a:=by
 unfold mn
 split
 ·exact PR
 ·rename_i h;exact QP (UZ.mp h)
theorem Ap(a b:Rat):mn a b≤b:=by
 unfold mn
 split
 ·assumption
 ·exact PR
theorem Jo(ha:0≤a)(hb:0≤b):0≤mn a b:=by
 unfold mn
 split
 ·exact ha
 ·exact hb
theorem Eh(a b:Rat):mn a b=a∨mn a b=b:=by
 unfold mn
 split
 ·exact .inl Z
 ·exact .inr Z
structure wZ(L:Ls)(s:Rat)(st:Ls×Rat):Prop where
 nn:∀i,0≤L i->0≤st.1 i
 le:∀i,st.1 i≤L i
 rm:0≤st.2
theorem wZ.step{W:Nat->Bool}{L:Ls}{s:Rat}{st:Ls×Rat}(hL:∀i,0≤L i)(h:wZ L s st)(i:Nat):wZ L s (bY W st i):=by
 unfold bY
 split
 ·have a1:=GK (st.1 i) st.2;have a2:=Ap (st.1 i) st.2;have a3:=Jo (h.nn i (hL i)) h.rm;refine⟨λj _=>?_,λj=>?_,?_⟩
  ·show 0≤fZ st.1 i _ j;unfold fZ
   split
   ·grind
   ·exact h.nn j (hL j)
  ·show fZ st.1 i _ j≤L j;unfold fZ;have:=h.le j
   split
   ·rename_i e;subst e;grind
   ·exact this
  ·show 0≤st.2-mn (st.1 i) st.2;grind
 ·exact h
theorem wZ.fold{W:Nat->Bool}{L:Ls}{s:Rat}(hL:∀i,0≤L i):∀{ord:List Nat} {st:Ls×Rat},wZ L s st->wZ L s (ord.foldl (bY W) st)
 | [],_,h=>h
 |i::ord,st,h=>wZ.fold hL (ord:=ord) (h.step hL i)
theorem kW{st:Ls×Rat}(h:j≠i):(bY W st i).1 j=st.1 j:=by
 unfold bY
 split
 ·show fZ st.1 i _ j=_;unfold fZ;rw[if_neg h]
 ·rfl
theorem mj{W:Nat->Bool}{j:Nat}:∀{ord:List Nat} {st:Ls×Rat},j∉ord->(ord.foldl (bY W) st).1 j=st.1 j
 | [],_,_=>rfl
 |i::ord,st,h=>by
  rw[PB,mj (λz=>h (Ot _ z)),kW (λz=>h (by rw[z];exact Oq))]
theorem xM{st:Ls×Rat}(hi:i<n):sQ (bY W st i).1 (Og n)-(bY W st i).2=sQ st.1 (Og n)-st.2:=by
 unfold bY
 split
 ·show sQ (fZ st.1 i (st.1 i-mn (st.1 i) st.2)) (Og n)-(st.2-mn (st.1 i) st.2)=_;have key:∀(m:Nat) (x:Rat),sQ (fZ st.1 i x) (Og m)=sQ st.1 (Og m)+(if i<m then x-st.1 i else 0):=by
   intro m x
   induction m with
   |zero=>show(0:Rat)=0+(if i<0 then _ else 0);rw[if_neg (RW _)];grind
   |succ m ih=>
    rw[PL,fe,fe,ih];show sQ st.1 (Og m)+_+(fZ st.1 i x m+0)=sQ st.1 (Og m)+(st.1 m+0)+_;unfold fZ;by_cases c:i<m
    ·rw[if_pos c,if_neg (by omega),if_pos (by omega)];grind
    ·rw[if_neg c];by_cases e:m=i
     ·subst e;rw[if_pos Z,if_pos (by omega)];grind
     ·rw[if_neg e,if_neg (by omega)];grind
  rw[key,if_pos hi];grind
 ·rfl
theorem qS{W:Nat->Bool}{n:Nat}:∀{ord:List Nat} {st:Ls×Rat},(∀i∈ord,i<n)->sQ (ord.foldl (bY W) st).1 (Og n)-(ord.foldl (bY W) st).2=sQ st.1 (Og n)-st.2
 | [],_,_=>rfl
 |i::ord,st,h=>by
  rw[PB,qS (λj hj=>h j (Ot _ hj)),xM (h i Oq)]
theorem vy{st:Ls×Rat}(h0:0≤st.1 i)(hr:st.2=0):(bY W st i).1=st.1/\(bY W st i).2=0:=by
 unfold bY
 split
 ·have e:mn (st.1 i) st.2=0:=by
   rw[hr];rcases Eh (st.1 i) 0 with z|z
   ·have:=Ap (st.1 i) 0;rw[z] at this ⊢;grind
   ·exact z
  rw[e];refine⟨?_,?_⟩
  ·show fZ st.1 i (st.1 i-0)=st.1
   funext j
   unfold fZ
   split
   ·rename_i z;subst z;grind
   ·rfl
  ·show st.2-0=0;grind
 ·exact⟨Z,hr⟩
theorem nR{W:Nat->Bool}:∀{ord:List Nat} {st:Ls×Rat},(∀i,0≤st.1 i)->st.2=0->(ord.foldl (bY W) st).1=st.1/\(ord.foldl (bY W) st).2=0
 | [],_,_,hr=>⟨Z,hr⟩
 |i::ord,st,h0,hr=>by
  obtain⟨e1,e2⟩:=vy (W:=W) (h0 i) hr;rw[PB];have:=nR (W:=W) (ord:=ord) (st:=bY W st i) (by rw[e1];exact h0) e2;rw[e1] at this;exact this
theorem ng(hL:∀j,0≤L j)(hs:0≤s)(nd:(l1++i:: l2).Nodup)(hW:W i=true)(hl:0<(ee W (l1++i:: l2) L s).1 i):
  (ee W (l1++i:: l2) L s).2=0/\∀j,j∉l1->j≠i->(ee W (l1++i:: l2) L s).1 j=L j:=by
 have e:ee W (l1++i::l2) L s=l2.foldl (bY W) (bY W (l1.foldl (bY W) (L,s)) i):=by
  unfold ee;rw[R9,PB]
 have i0:wZ L s (L,s):=⟨λ_ h=>h,λ_=>PR,hs⟩;have i1:=i0.fold (W:=W) hL (ord:=l1);have i2:=i1.step (W:=W) hL i;obtain⟨n1,n2,n3⟩:=P9.mp nd;have il2:i∉l2:=(Pw.mp n2).1;rw[e] at hl ⊢;rw[mj il2] at hl;have offA:∀j,j∉l1->(l1.foldl (bY W) (L,s)).1 j=L j:=λj hj=>mj hj
 generalize l1.foldl (bY W) (L,s)=A at *;have room:(bY W A i).2=0:=by
  unfold bY at hl ⊢;rw[if_pos hW] at hl ⊢;show A.2-mn (A.1 i) A.2=0;have hl':0<A.1 i-mn (A.1 i) A.2:=by
   have:0<fZ A.1 i (A.1 i-mn (A.1 i) A.2) i:=hl;unfold fZ at this;rw[if_pos Z] at this;exact this
  rcases Eh (A.1 i) A.2 with z|z
  ·rw[z] at hl';grind
  ·rw[z];grind
 obtain⟨e1,e2⟩:=nR (W:=W) (ord:=l2) (st:=bY W A i) (λj=>i2.nn j (hL j)) room;refine⟨e2,λj hj hji=>?_⟩;rw[e1,kW hji];exact offA j hj
theorem qj{W:Nat->Bool}{i:Nat}(h:W i=false):∀{ord:List Nat} {st:Ls×Rat},(ord.foldl (bY W) st).1 i=st.1 i
 | [],_=>rfl
 |j::ord,st=>by
  rw[PB,qj h (ord:=ord)];by_cases c:i=j
  ·subst c;unfold bY;rw[if_neg (by rw[h];exact OK)]
  ·exact kW c
theorem oO{α β:Type}(f:α->β->Rat)(m:List β):∀l:List α,sQ (λx=>sQ (λy=>f x y) m) l=sQ (λy=>sQ (λx=>f x y) l) m
 | []=>by
  show(0:Rat)=sQ (λ_=>(0:Rat)) m;have e:sQ (λ_:β=>(0:Rat)) m=sQ (λy:β=>0*((λ_=>(0:Rat)) y)) m:=aO λ_ _=>by grind
  rw[e,dU];grind
 |x::l=>by
  show sQ (λy=>f x y) m+sQ (λx=>sQ (λy=>f x y) m) l=sQ (λy=>f x y+sQ (λx=>f x y) l) m;rw[oO f m l,ff]
theorem yZ(hi:i<n)(c:Rat):sQ (λj=>if j=i then c else 0) (Og n)=c:=by
 have key:∀m:Nat,sQ (λj=>if j=i then c else 0) (Og m)=if i<m then c else 0:=by
  intro m
  induction m with
  |zero=>show(0:Rat)=_;rw[if_neg (RW _)]
  |succ m ih=>
   rw[PL,fe,ih];show _+((if m=i then c else 0)+0)=_;by_cases e:m=i
   ·subst e;rw[if_neg (Pm _),if_pos Z,if_pos (Uo _)];grind
   ·by_cases l:i<m
    ·rw[if_pos l,if_neg e,if_pos (by omega)];grind
    ·rw[if_neg l,if_neg e,if_neg (by omega)];grind
 rw[key,if_pos hi]
theorem ur(g:Nat->Rat)(b:Nat):∀N,b≤N->sQ (λt=>bW (decide (b≤t)) (g t-g (t+1))) (Og N)=g b-g N:=by
 intro N
 induction N with
 |zero=>intro h;rw[show b=0 by omega];show(0:Rat)=_;grind
 |succ N ih=>
  intro h;rw[PL,fe];show _+(bW (decide (b≤N)) (g N-g (N+1))+0)=_;by_cases c:b≤N
  ·rw[ih c,decide_eq_true c,de];grind
  ·have e:b=N+1:=by omega
   have z:sQ (λt=>bW (decide (b≤t)) (g t-g (t+1))) (Og N)=sQ (λ_:Nat=>0*(0:Rat)) (Og N):=aO λt ht=>by
    have:=Ow.mp ht;rw[decide_eq_false (by omega),b9];grind
   rw[z,dU,decide_eq_false c,b9,e];grind
theorem Cb(g:Nat->Rat)(d:Nat):∀k,sQ (λt=>bW (decide (t≤d)) (g t)) (Og (d+1+k))=sQ g (Og (d+1)):=by
 intro k
 induction k with
 |zero=>exact aO λt ht=>by have:=Ow.mp ht;rw[decide_eq_true (by omega),de]
 |succ k ih=>
  rw[show d+1+(k+1)=(d+1+k)+1 by omega,PL,fe,ih];show _+(bW (decide (d+1+k≤d)) _+0)=_;rw[decide_eq_false (by omega),b9];grind
def Wt(f l:Nat->Nat)(t i:Nat):Bool:=decide (f i≤t)&&decide (t≤l i)
def cA(ord:List Nat)(f l:Nat->Nat)(a:Ls)(s:Nat->Rat):Nat->Ls
 |0=>a
 |t+1=>(ee (Wt f l t) ord (cA ord f l a s t) (s t)).1
structure eh(n:Nat)(ord:List Nat)(f l:Nat->Nat)(a:Ls)(s:Nat->Rat):Prop where
 nd:ord.Nodup
 mem:∀i,i∈ord↔i<n
 srt:ord.Pairwise (λi j=>l i≤l j)
 win:∀i,i<n->f i≤l i/\l i<24
 an:∀i,0≤a i
 sn:∀t,0≤s t
 cap:∀b d,b≤d->d<24->sQ (λj=>bW (decide (b≤f j)&&decide (l j≤d)) (a j)) (Og n)≤sQ (λt=>bW (decide (t≤d)) (bW (decide (b≤t)) (s t))) (Og 24)
section
variable {n:Nat}{ord:List Nat}{f l:Nat->Nat}{a:Ls}{s:Nat->Rat}
theorem eh.sti(h:eh n ord f l a s)(hL:∀i,0≤L i)(t:Nat):wZ L (s t) (ee (Wt f l t) ord L (s t)):=wZ.fold hL ⟨λ_ h=>h,λ_=>PR,h.sn t⟩
theorem eh.nn(h:eh n ord f l a s):∀t i,0≤cA ord f l a s t i
 |0,i=>h.an i
 |t+1,i=>(h.sti (h.nn t) t).nn i (h.nn t i)
theorem eh.dn(h:eh n ord f l a s)(t i:Nat):cA ord f l a s (t+1) i≤cA ord f l a s t i:=(h.sti (h.nn t) t).le i
theorem eh.dn'(h:eh n ord f l a s)(t i:Nat):∀k,cA ord f l a s (t+k) i≤cA ord f l a s t i
 |0=>PR
 |k+1=>Rat.le_trans (h.dn (t+k) i) (h.dn' t i k)
theorem eh.out(h:eh n ord f l a s)(hw:Wt f l t i=false):cA ord f l a s (t+1) i=cA ord f l a s t i:=qj hw
theorem eh.sum(h:eh n ord f l a s)(t:Nat):sQ (λj=>cA ord f l a s t j-cA ord f l a s (t+1) j) (Og n)=s t-(ee (Wt f l t) ord (cA ord f l a s t) (s t)).2:=by
 have q:=qS (W:=Wt f l t) (n:=n) (ord:=ord) (st:=(cA ord f l a s t,s t)) λi hi=>(h.mem i).mp hi
 have e:sQ (λj=>cA ord f l a s t j-cA ord f l a s (t+1) j) (Og n)=sQ (cA ord f l a s t) (Og n)-sQ (cA ord f l a s (t+1)) (Og n):=by
  have e1:=ff (f:=λj=>cA ord f l a s t j-cA ord f l a s (t+1) j) (g:=cA ord f l a s (t+1)) (Og n);have e2:sQ (λx=>cA ord f l a s t x-cA ord f l a s (t+1) x+cA ord f l a s (t+1) x) (Og n)=sQ (cA ord f l a s t) (Og n):=aO λx _=>by grind
  grind
 rw[e];have q':sQ (cA ord f l a s (t+1)) (Og n)-(ee (Wt f l t) ord (cA ord f l a s t) (s t)).2=sQ (cA ord f l a s t) (Og n)-s t:=q;grind
theorem eh.all_le(h:eh n ord f l a s)(t:Nat):sQ (λj=>cA ord f l a s t j-cA ord f l a s (t+1) j) (Og n)≤s t:=by
 rw[h.sum];have:=(h.sti (h.nn t) t).rm;grind
theorem eh.full(h:eh n ord f l a s)(hi:i<n)(hw:Wt f l t i=true)(hl:0<cA ord f l a s (t+1) i):sQ (λj=>bW (decide (l j≤l i)) (cA ord f l a s t j-cA ord f l a s (t+1) j)) (Og n)=s t:=by
 obtain⟨l1,l2,e⟩:=Sy ((h.mem i).mpr hi);have nd:=h.nd;have srt:=h.srt;rw[e] at nd srt;have hl':0<(ee (Wt f l t) (l1++i::l2) (cA ord f l a s t) (s t)).1 i:=by rw[←e];exact hl
 obtain⟨r0,keep⟩:=ng (h.nn t) (h.sn t) nd hw hl';rw[←e] at r0 keep;have sm:=h.sum t;rw[r0] at sm;have e2:sQ (λj=>bW (decide (l j≤l i)) (cA ord f l a s t j-cA ord f l a s (t+1) j)) (Og n)=sQ (λj=>cA ord f l a s t j-cA ord f l a s (t+1) j) (Og n):=aO λj _=>by
  by_cases c:l j≤l i
  ·rw[decide_eq_true c,de]
  ·rw[decide_eq_false c,b9];have j1:j∉l1:=λz=>c ((S2.mp srt).2.2 j z i Oq)
   have j2:j≠i:=λz=>c (by rw[z];exact Oi _)
   have k:cA ord f l a s (t+1) j=cA ord f l a s t j:=keep j j1 j2;rw[k];grind
 rw[e2,sm];grind
theorem K2(h:eh n ord f l a s)(hi:i<n):cA ord f l a s 24 i=0:=by
 by_cases z:cA ord f l a s 24 i=0
 ·exact z
 exfalso;have pos:0<cA ord f l a s 24 i:=by
  have:=h.nn 24 i;grind
 obtain⟨w1,w2⟩:=h.win i hi;have later:∀t,t≤24->0<cA ord f l a s t i:=λt ht=>by
  have:=h.dn' t i (24-t);rw[show t+(24-t)=24 by omega] at this;grind
 let P:Nat->Bool:=λt=>decide (sQ (λj=>bW (decide (l j≤l i)) (cA ord f l a s t j-cA ord f l a s (t+1) j)) (Og n)=s t)
 have Pin:∀t,f i≤t->t≤l i->P t=true:=λt h1 h2=>decide_eq_true (h.full hi (by unfold Wt;rw[decide_eq_true h1,decide_eq_true h2];rfl) (later (t+1) (by omega)))
 obtain⟨b,hb,hrun,hend⟩:=lG P (l i+1);have bf:b≤f i:=by
  by_cases c:b≤f i
  ·exact c
  ·rcases hend with e|e
   ·omega
   ·rw[Pin (b-1) (by omega) (by omega)] at e;cases e
 have early:∀j,j<n->l j≤l i->f j<b->cA ord f l a s b j-cA ord f l a s (l i+1) j=0:=λj hj h1 h2=>by
  have e:P (b-1)=false:=by
   rcases hend with e|e
   ·omega
   ·exact e
  by_cases c:b-1≤l j
  ·have z0:cA ord f l a s b j=0:=by
    by_cases zz:cA ord f l a s b j=0
    ·exact zz
    exfalso;have nb:=h.nn b j;have fl:=h.full (t:=b-1) hj (by unfold Wt;rw[decide_eq_true (show f j≤b-1 by omega),decide_eq_true c];rfl) (by rw[show b-1+1=b by omega];grind);have m:sQ (λk=>bW (decide (l k≤l j)) (cA ord f l a s (b-1) k-cA ord f l a s (b-1+1) k)) (Og n)≤sQ (λk=>bW (decide (l k≤l i)) (cA ord f l a s (b-1) k-cA ord f l a s (b-1+1) k)) (Og n):=ir λk _=>sX (by have:=h.dn (b-1) k;grind) λq=>decide_eq_true (by have:=of_decide_eq_true q;omega)
    have m2:sQ (λk=>bW (decide (l k≤l i)) (cA ord f l a s (b-1) k-cA ord f l a s (b-1+1) k)) (Og n)≤sQ (λk=>cA ord f l a s (b-1) k-cA ord f l a s (b-1+1) k) (Og n):=ir λk _=>by
     have:=h.dn (b-1) k
     cases decide (l k≤l i) with
     |true=>exact PR
     |false=>rw[b9];grind
    have m3:=h.all_le (b-1);have:P (b-1)=true:=decide_eq_true (by grind);rw[this] at e
    cases e
   have d1:=h.dn' b j (l i+1-b);rw[show b+(l i+1-b)=l i+1 by omega] at d1;have d2:=h.nn (l i+1) j;grind
  ·have st:∀k,cA ord f l a s (b+k) j=cA ord f l a s b j:=λk=>by
    induction k with
    |zero=>rfl
    |succ k ih=>
     rw[←ih];exact h.out (t:=b+k) (by unfold Wt;rw[decide_eq_false (show ¬b+k≤l j by omega),PV])
   have:=st (l i+1-b);rw[show b+(l i+1-b)=l i+1 by omega] at this;rw[this];grind
 have tot:sQ (λt=>bW (decide (b≤t)) (s t)) (Og (l i+1))=sQ (λj=>bW (decide (l j≤l i)) (cA ord f l a s b j-cA ord f l a s (l i+1) j)) (Og n):=by
  have e1:sQ (λt=>bW (decide (b≤t)) (s t)) (Og (l i+1))=sQ (λt=>sQ (λj=>bW (decide (l j≤l i)) (bW (decide (b≤t)) (cA ord f l a s t j-cA ord f l a s (t+1) j))) (Og n)) (Og (l i+1)):=aO λt ht=>by
   have tl:=Ow.mp ht;by_cases c:b≤t
   ·rw[decide_eq_true c,de,←of_decide_eq_true (hrun t c tl)];exact aO λj _=>by rw[de]
   ·rw[decide_eq_false c,b9];have e:sQ (λj=>bW (decide (l j≤l i)) (bW false (cA ord f l a s t j-cA ord f l a s (t+1) j))) (Og n)=sQ (λ_:Nat=>0*(0:Rat)) (Og n):=aO λj _=>by
     rw[b9]
     cases decide (l j≤l i) with
     |true=>rw[de];grind
     |false=>rw[b9];grind
    rw[e,dU];grind
  rw[e1,oO];exact aO λj _=>by
   cases decide (l j≤l i) with
   |true=>
    have:=ur (λt=>cA ord f l a s t j) b (l i+1) hb;rw[de,←this];exact aO λt _=>by rw[de]
   |false=>
    rw[b9];have e:sQ (λt=>bW false (bW (decide (b≤t)) (cA ord f l a s t j-cA ord f l a s (t+1) j))) (Og (l i+1))=sQ (λ_:Nat=>0*(0:Rat)) (Og (l i+1)):=aO λt _=>by rw[b9];grind
    rw[e,dU];grind
 have le:sQ (λj=>bW (decide (l j≤l i)) (cA ord f l a s b j-cA ord f l a s (l i+1) j)+(if j=i then cA ord f l a s (l i+1) i else 0)) (Og n)≤sQ (λj=>bW (decide (b≤f j)&&decide (l j≤l i)) (a j)) (Og n):=ir λj hj=>by
  have jn:=Ow.mp hj;by_cases c1:l j≤l i
  ·rw[decide_eq_true c1,de,S0];by_cases c2:b≤f j
   ·rw[decide_eq_true c2,de];have d1:=h.dn' 0 j b;rw[UY] at d1;have d1':cA ord f l a s b j≤a j:=d1;have d2:=h.nn (l i+1) j;by_cases e:j=i
    ·subst e;rw[if_pos Z];grind
    ·rw[if_neg e];grind
   ·rw[decide_eq_false c2,b9,early j jn c1 (by omega),if_neg (λe=>c2 (by rw[e];exact bf))];grind
  ·rw[decide_eq_false c1,b9,PV,b9,if_neg (λe=>c1 (by rw[e];exact Oi _))];grind
 rw[ff,yZ hi,←tot] at le;have cp:=h.cap b (l i) (by omega) w2;have up:=Cb (λt=>bW (decide (b≤t)) (s t)) (l i) (24-(l i+1));rw[show l i+1+(24-(l i+1))=24 by omega] at up;rw[up] at cp;have:=later (l i+1) (by omega);grind
end
def cU(l:List R):Ls:=λj=>val (l.getD j (0,1))
theorem kL:val ((0,1):R)=0:=(fE (r:=(0,1)) (by decide)).mpr Z
theorem GJ(ha:fJ a)(hb:fJ b):mn (val a) (val b)=val (eZ a b):=by
 unfold eZ mn
 cases c:dW b a with
 |true=>
  rw[if_pos Z,if_neg];have:=(kN hb.bq.pos ha.bq.pos).mp c;exact UZ.mpr this
 |false=>
  rw[if_neg OK,if_pos];exact(km hb.bq.pos ha.bq.pos).mp c
theorem BH(hi:i<l.length)(x:R):cU (l.set i x)=fZ (cU l) i (val x):=by
 funext j
 unfold cU fZ;rw[Op,List.getElem?_set];by_cases c:j=i
 ·subst c;rw[if_pos Z,if_pos Z,if_pos hi];rfl
 ·rw[if_neg (λz=>c z.symm),if_neg c,←Op]
theorem xK{ws:List Wk}{st:tV}(h:vh n st)(hi:i<n):(cU (bT ws t st i).1,val (bT ws t st i).2.1)=bY (λj=>fV (ws.getD j bI) t) (cU st.1,val st.2.1) i:=by
 have al:=cZ (n:=n) h.lf i;have e:=GJ al h.rm;have eL:cU st.1 i=val (st.1.getD i (0,1)):=Z;unfold bT bY;dsimp only;by_cases c:fV (ws.getD i bI) t=true
 ·rw[if_pos c];show _=(fZ (cU st.1) i (cU st.1 i-mn (cU st.1 i) (val st.2.1)),val st.2.1-mn (cU st.1 i) (val st.2.1));rw[eL,e];by_cases z:eZ (st.1.getD i (0,1)) st.2.1=(0,1)
  ·rw[if_neg (λq=>q.2 z),z,kL];have e1:fZ (cU st.1) i (val (st.1.getD i (0,1))-0)=cU st.1:=by
    funext j
    unfold fZ
    split
    ·rename_i q;subst q;show _-0=val _;grind
    ·rfl
   rw[e1];have e2:val st.2.1-0=val st.2.1:=by grind
   rw[e2]
  ·rw[if_pos ⟨c,z⟩];have la:=pE al h.rm;show(cU (st.1.set i _),val (bG st.2.1 _))=_;rw[BH (by rw[h.len];exact hi),eG al.bq.pos la.bq.pos,eG h.rm.bq.pos la.bq.pos]
 ·rw[if_neg (λz=>c z.1),if_neg c]
theorem jf{ws:List Wk}{n t:Nat}:∀{ord:List Nat} {st:tV},vh n st->(∀i∈ord,i<n)->(cU (ord.foldl (bT ws t) st).1,val (ord.foldl (bT ws t) st).2.1)=ord.foldl (bY (λj=>fV (ws.getD j bI) t)) (cU st.1,val st.2.1)
 | [],_,_,_=>rfl
 |i::ord,st,h,hl=>by
  rw[PB,PB,←xK h (hl i Oq)];exact jf (h.step (ws:=ws) (t:=t) (hl i Oq)).1 λj hj=>hl j (Ot _ hj)
abbrev fW(ws:List Wk)(i:Nat):Nat:=(ws.getD i bI).1
abbrev aW(ws:List Wk):Ls:=cU (ws.map λw=>w.2.2)
theorem i9{ws:List Wk}{ord:List Nat}{ss:List R}(okw:∀w∈ws,bD w)(ho:∀i∈ord,i<ws.length)(hs:∀r∈ss,fJ r):∀t,cU (aU ws ord ss t).1=cA ord (fW ws) (bi ws) (aW ws) (cU ss) t
 |0=>rfl
 |t+1=>by
  obtain⟨h,hl⟩:=fo okw ho hs t;have d:vh ws.length ((aU ws ord ss t).1,ss.getD t (0,1),[]):=⟨h.len,h.lf,cZ (n:=0) hs t,λp hp=>by cases hp⟩;have q:=jf (ws:=ws) (t:=t) d ho;have e:=congrArg Prod.fst q;show cU (ord.foldl (bT ws t) ((aU ws ord ss t).1,ss.getD t (0,1),[])).1=(ee (Wt (fW ws) (bi ws) t) ord (cA ord (fW ws) (bi ws) (aW ws) (cU ss) t) (cU ss t)).1;rw[←i9 okw ho hs t];exact e
theorem lN{ws:List Wk}{es:List Ln}(rk:oa ws.length es):∀k,k≤ws.length->(aK ws es k).Nodup
 |0,_=>SK
 |k+1,h=>by
  have oi:=dB (es:=es) rk k (by omega);show(aK ws es k++[_]).Nodup;rw[P9];refine⟨lN rk k (by omega),Pw.mpr ⟨by simp,SK⟩,λa ha b hb z=>?_⟩;have m:=lW (ws:=ws) rk (oi.ne (by omega));rw[Ox.mp hb] at z;subst z;exact(eX.mp m).2 ha
theorem oZ(rk:oa ws.length es)(i:Nat):i∈aK ws es ws.length↔i<ws.length:=by
 have oi:=dB (es:=es) rk ws.length (Oi _);refine⟨oi.lt i,λh=>?_⟩;by_cases c:i∈aK ws es ws.length
 ·exact c
 ·have:i∈bX ws.length (aK ws es ws.length):=eX.mpr ⟨h,c⟩;have l:=oi.wl;have e:(bX ws.length (aK ws es ws.length)).length=0:=by omega
  rw[List.length_eq_zero_iff.mp e] at this
  cases this
theorem uD{ws:List Wk}{es:List Ln}(rk:oa ws.length es):∀k,k≤ws.length->(aK ws es k).Pairwise (λi j=>bi ws i≤bi ws j)/\∀i∈aK ws es k,∀j,j<ws.length->j∉aK ws es k->bi ws i≤bi ws j
 |0,_=>⟨.nil,λi hi=>absurd (show i∈([]:List Nat) from hi) (by simp)⟩
 |k+1,h=>by
  obtain⟨p,q⟩:=uD (es:=es) rk k (by omega);have oi:=dB (es:=es) rk k (by omega);have ne:=oi.ne (by omega);have m:=lW (ws:=ws) rk ne;have ml:∀j,j<ws.length->j∉aK ws es k->bi ws (gM ws es (bX ws.length (aK ws es k)))≤bi ws j:=λj h1 h2=>by
   have a:=Os (kA (ws:=ws) rk ne);exact(f8.mp (OL.mp a).1).2 j (eX.mpr ⟨h1,h2⟩)
  refine⟨?_,λi hi j hj nj=>?_⟩
  ·show(aK ws es k++[_]).Pairwise _;rw[S2];exact⟨p,List.pairwise_singleton _ _,λa ha b hb=>by rw[Ox.mp hb];exact q a ha _ (eX.mp m).1 (eX.mp m).2⟩
  ·have nj':j∉aK ws es k:=λz=>nj (O6 _ z)
   rcases OU.mp (show i∈aK ws es k++[_] from hi) with z|z
   ·exact q i z j hj nj'
   ·rw[Ox.mp z];exact ml j hj nj'
theorem G0(h:bD w)(b d:Nat)(hd:d<24):gD (λt=>decide (b≤t)&&decide (t≤d)) w=(decide (b≤w.1)&&decide (w.2.1≤d)):=by
 have h1:=h.le;have h2:=h.lt;rw[Qd,dX,OA,decide_eq_true_iff,decide_eq_true_iff];constructor
 ·intro q;have a:=q w.1 (by omega) (by unfold fV;rw[decide_eq_true (Oi _),decide_eq_true h1];rfl);have c:=q w.2.1 h2 (by unfold fV;rw[decide_eq_true h1,decide_eq_true (Oi _)];rfl);rw[OA,decide_eq_true_iff,decide_eq_true_iff] at a c;exact⟨a.1,c.2⟩
 ·rintro⟨q1,q2⟩ t ht it;unfold fV at it;rw[OA,decide_eq_true_iff,decide_eq_true_iff] at it;rw[OA,decide_eq_true_iff,decide_eq_true_iff];omega
theorem vd(h:i<ws.length):aW ws i=mK (ws.getD i bI):=by
 unfold aW cU mK;rw[aB (0,1) (show(ws.map λw=>w.2.2)[i]?=some ws[i].2.2 by rw[OB,Oh h];rfl),aB bI (Oh h)]
theorem sY(ok:∀w∈ws,bD w)(rk:oa ws.length es)(h:jr ws (Og 24) lys):eh ws.length (aK ws es ws.length) (fW ws) (bi ws) (aW ws) (cU (aX ws lys)) where
 nd:=lN rk _ (Oi _)
 mem:=oZ rk
 srt:=(uD rk _ (Oi _)).1
 win:=λi hi=>by
  have o:=ok _ (OW hi);unfold fW bi;rw[aB bI (Oh hi)];exact⟨o.le,o.lt⟩
 an:=λi=>by
  by_cases c:i<ws.length
  ·rw[vd c];refine rh ok _ ?_;rw[aB bI (Oh c)];exact OW c
  ·unfold aW cU;rw[Op,QF (by rw[Ol];omega)];show 0≤val ((0,1):R);rw[kL];exact PR
 sn:=λt=>by
  by_cases c:t<24
  ·show 0≤val ((aX ws lys).getD t (0,1));rw[kq h c];exact EO ok h t
  ·have e24:(aX ws lys).length=24:=by
    unfold aX;rw[kr];rfl
   unfold cU;rw[Op,QF (by omega)];show 0≤val ((0,1):R);rw[kL];exact PR
 cap:=λb d hb hd=>by
  have c:=cap ok h (λ_=>true) (λt=>decide (b≤t)&&decide (t≤d)) (Q0.mpr λ_ _=>Z).symm (λt _ z=>by cases z);have e0:FM ws (λt=>!(λ_=>true) t)=0:=vg ok;rw[e0] at c;have e1:FM ws (λt=>decide (b≤t)&&decide (t≤d))=sQ (λj=>bW (decide (b≤fW ws j)&&decide (bi ws j≤d)) (aW ws j)) (Og ws.length):=by
   unfold FM;rw[i3 bI];exact aO λj hj=>by
    have jl:=Ow.mp hj;rw[G0 (by rw[aB bI (Oh jl)];exact ok _ (OW jl)) b d hd,vd jl];rfl
  have e2:sQ (λt=>bW (true&&(decide (b≤t)&&decide (t≤d))) (kf ws lys t)) (Og 24)=sQ (λt=>bW (decide (t≤d)) (bW (decide (b≤t)) (cU (aX ws lys) t))) (Og 24):=aO λt ht=>by
   have tl:=Ow.mp ht;have ev:cU (aX ws lys) t=kf ws lys t:=kq h tl _;rw[ev]
   cases decide (b≤t)<;>cases decide (t≤d)<;>rfl
  rw[←e1,←e2];grind
theorem vX(ok:∀w∈ws,bD w)(rk:oa ws.length es)(h:jr ws (Og 24) lys)(hs:∀r∈aX ws lys,fJ r):l4 (dJ ws es (aX ws lys)).1=none:=by
 have oi:=dB (es:=es) rk ws.length (Oi _);obtain⟨po,_⟩:=fo (ord:=aK ws es ws.length) (ss:=aX ws lys) ok oi.lt hs 24;refine v9 λj hj=>?_
 have jn:j<ws.length:=by rw[←po.len];exact hj
 have e:=K2 (sY (es:=es) ok rk h) jn;rw[←i9 ok oi.lt hs 24] at e;have a:=cZ (n:=0) po.lf j;have e':val ((dJ ws es (aX ws lys)).1.getD j (0,1))=0:=e;have z:=(fE a.bq.pos).mp e';have r:=a.red;refine gZ r ⟨by decide,by decide⟩ ?_;rw[kL];exact e'
structure DF(ws:List Wk)(n t:Nat)(L0:List R)(s:R)(seen:List Nat)(st:tV):Prop where
 ok:vh n st
 sub:(st.2.2.map (·.1)).Sublist seen
 pc:∀i r,(i,r)∈st.2.2->fV (ws.getD i bI) t=true/\fJ r/\0<val r/\val r=cU L0 i-cU st.1 i
 un:∀i,i∉st.2.2.map (·.1)->st.1.getD i (0,1)=L0.getD i (0,1)
 sum:sQ (λp:Pc=>val p.2) st.2.2+val st.2.1=val s
theorem Dy(h:fJ r)(hz:r≠(0,1)):0<val r:=by
 have n:=(iB h.bq.pos).mpr h.nn;by_cases z:val r=0
 ·exfalso;refine hz (gZ h.red ⟨by decide,by decide⟩ ?_);rw[kL];exact z
 ·grind
theorem DF.step{ws:List Wk}{n t i:Nat}{L0:List R}{s:R}{seen:List Nat}{st:tV}(h:DF ws n t L0 s seen st)(hi:i<n)(ni:i∉seen):DF ws n t L0 s (seen++[i]) (bT ws t st i):=by
 have d1:=(h.ok.step (ws:=ws) (t:=t) hi).1;have nf:i∉st.2.2.map (·.1):=λz=>ni (h.sub.subset z)
 have al:=cZ (n:=n) h.ok.lf i;have la:=pE al h.ok.rm;by_cases c:fV (ws.getD i bI) t=true/\eZ (st.1.getD i (0,1)) st.2.1≠(0,1)
 ·have e:bT ws t st i=(st.1.set i (bG (st.1.getD i (0,1)) (eZ (st.1.getD i (0,1)) st.2.1)),bG st.2.1 (eZ (st.1.getD i (0,1)) st.2.1),st.2.2++[(i,eZ (st.1.getD i (0,1)) st.2.1)]):=by
   unfold bT;rw[if_pos c]
  have u0:=h.un i nf;rw[e] at d1 ⊢;have il:i<st.1.length:=by rw[h.ok.len];exact hi
  have off:∀j x,j≠i->(st.1.set i x).getD j (0,1)=st.1.getD j (0,1):=λj x hj=>by
   rw[Op,PQ (λz=>hj z.symm),←Op]
  have on:∀x,(st.1.set i x).getD i (0,1)=x:=λx=>by
   rw[Op,Q2 il];rfl
  refine⟨d1,?_,λj r hj=>?_,λj hj=>?_,?_⟩
  ·show((st.2.2++[(i,eZ (st.1.getD i (0,1)) st.2.1)]).map (λp:Pc=>p.1)).Sublist _;rw[PJ];exact Wu.append h.sub (Wv _)
  ·rcases OU.mp hj with z|z
   ·obtain⟨a1,a2,a3,a4⟩:=h.pc j r z;have jn:j≠i:=λq=>nf (by rw[←q];exact OD.mpr ⟨_,z,Z⟩)
    refine⟨a1,a2,a3,?_⟩;show val r=cU L0 j-val ((st.1.set i _).getD j (0,1));rw[off j _ jn];exact a4
   ·cases Ox.mp z
    refine⟨c.1,la,Dy la c.2,?_⟩;show val (eZ (st.1.getD i (0,1)) st.2.1)=val (L0.getD i (0,1))-val ((st.1.set i _).getD i (0,1));rw[on,eG al.bq.pos la.bq.pos,u0];grind
  ·have hj':j∉(st.2.2++[(i,eZ (st.1.getD i (0,1)) st.2.1)]).map (·.1):=hj;rw[PJ] at hj';have jn:j≠i:=λq=>hj' (OE _ (by rw[q];exact Oq))
   show(st.1.set i _).getD j (0,1)=_;rw[off j _ jn];exact h.un j λz=>hj' (O6 _ z)
  ·show sQ (λp:Pc=>val p.2) (st.2.2++[_])+val (bG st.2.1 _)=val s;rw[fe,eG h.ok.rm.bq.pos la.bq.pos];have:=h.sum;show _+(val (eZ (st.1.getD i (0,1)) st.2.1)+0)+_=_;grind
 ·have e:bT ws t st i=st:=by
   unfold bT;rw[if_neg c]
  rw[e];exact⟨h.ok,h.sub.trans (List.sublist_append_left _ _),h.pc,h.un,h.sum⟩
theorem DF.fold{ws:List Wk}{n t:Nat}{L0:List R}{s:R}:∀{ord seen:List Nat} {st:tV},DF ws n t L0 s seen st->(∀i∈ord,i<n)->(seen++ord).Nodup->DF ws n t L0 s (seen++ord) (ord.foldl (bT ws t) st)
 | [],seen,st,h,_,_=>by rw[Qe];exact h
 |i::ord,seen,st,h,hl,nd=>by
  have e:seen++i::ord=(seen++[i])++ord:=by simp
  rw[e] at nd ⊢;have ni:i∉seen:=λz=>(P9.mp (P9.mp nd).1).2.2 i z i Oq Z
  exact DF.fold (h.step (hl i Oq) ni) (λj hj=>hl j (Ot _ hj)) nd
theorem sK(okw:∀w∈ws,bD w)(ho:∀i∈ord,i<ws.length)(nd:ord.Nodup)(hs:∀r∈ss,fJ r)(t:Nat):DF ws ws.length t (aU ws ord ss t).1 (ss.getD t (0,1)) ord (dQ ws ord t (aU ws ord ss t).1 (ss.getD t (0,1))):=by
 obtain⟨h,hl⟩:=fo okw ho hs t;have d:vh ws.length ((aU ws ord ss t).1,ss.getD t (0,1),[]):=⟨h.len,h.lf,cZ (n:=0) hs t,λp hp=>by cases hp⟩;have q:DF ws ws.length t (aU ws ord ss t).1 (ss.getD t (0,1)) [] ((aU ws ord ss t).1,ss.getD t (0,1),[]):=⟨d,Wv _,(λi r hr=>by cases hr),(λi _=>Z),by show(0:Rat)+_=_;grind⟩;exact q.fold ho nd
theorem gH{α:Type}{f:α->Rat}:∀{l:List α},(∀x∈l,0≤f x)->sQ f l=0->∀x∈l,f x=0
 | [],_,_,x,hx=>by cases hx
 |y::l,h,e,x,hx=>by
  have h1:=h y Oq;have h2:=nG (f:=f) (l:=l) λz hz=>h z (Ot _ hz)
  have e':f y+sQ f l=0:=e;rcases Ov.mp hx with z|z
  ·rw[z];grind
  ·exact gH (λz hz=>h z (Ot _ hz)) (by grind) x z
theorem Fs(l:List α):sQ (λx=>f x-g x) l=sQ f l-sQ g l:=by
 have e1:=ff (f:=λx=>f x-g x) (g:=g) l;have e2:sQ (λx=>f x-g x+g x) l=sQ f l:=aO λx _=>by grind
 grind
theorem Bg(ok:∀w∈ws,bD w)(rk:oa ws.length es)(h:jr ws (Og 24) lys)(ht:t<24):(ee (Wt (fW ws) (bi ws) t) (aK ws es ws.length) (cA (aK ws es ws.length) (fW ws) (bi ws) (aW ws) (cU (aX ws lys)) t) (cU (aX ws lys) t)).2=0:=by
 have E:=sY (es:=es) ok rk h;have tot:sQ (λt=>(ee (Wt (fW ws) (bi ws) t) (aK ws es ws.length) (cA (aK ws es ws.length) (fW ws) (bi ws) (aW ws) (cU (aX ws lys)) t) (cU (aX ws lys) t)).2) (Og 24)=0:=by
  have e1:sQ (λt=>(ee (Wt (fW ws) (bi ws) t) (aK ws es ws.length) (cA (aK ws es ws.length) (fW ws) (bi ws) (aW ws) (cU (aX ws lys)) t) (cU (aX ws lys) t)).2) (Og 24)=sQ (λt=>cU (aX ws lys) t-sQ (λj=>cA (aK ws es ws.length) (fW ws) (bi ws) (aW ws) (cU (aX ws lys)) t j-cA (aK ws es ws.length) (fW ws) (bi ws) (aW ws) (cU (aX ws lys)) (t+1) j) (Og ws.length)) (Og 24):=aO λt _=>by
   have:=E.sum t;grind
  rw[e1,Fs,oO];have e2:sQ (λj=>sQ (λt=>cA (aK ws es ws.length) (fW ws) (bi ws) (aW ws) (cU (aX ws lys)) t j-cA (aK ws es ws.length) (fW ws) (bi ws) (aW ws) (cU (aX ws lys)) (t+1) j) (Og 24)) (Og ws.length)=sQ (aW ws) (Og ws.length):=aO λj hj=>by
   have te:=ur (λt=>cA (aK ws es ws.length) (fW ws) (bi ws) (aW ws) (cU (aX ws lys)) t j) 0 24 (by decide);have z:=K2 E (Ow.mp hj);have e:sQ (λt=>cA (aK ws es ws.length) (fW ws) (bi ws) (aW ws) (cU (aX ws lys)) t j-cA (aK ws es ws.length) (fW ws) (bi ws) (aW ws) (cU (aX ws lys)) (t+1) j) (Og 24)=sQ (λt=>bW (decide (0≤t)) (cA (aK ws es ws.length) (fW ws) (bi ws) (aW ws) (cU (aX ws lys)) t j-cA (aK ws es ws.length) (fW ws) (bi ws) (aW ws) (cU (aX ws lys)) (t+1) j)) (Og 24):=aO λt _=>by rw[decide_eq_true (ON _),de]
   rw[e,te];rw[z];show aW ws j-0=aW ws j;grind
  have e3:sQ (cU (aX ws lys)) (Og 24)=sQ (aW ws) (Og ws.length):=by
   have sa:=EN ok h (λ_=>true) (Q0.mpr λ_ _=>Z).symm;have e0:FM ws (λt=>!(λ_=>true) t)=0:=vg ok;rw[e0,DI,i3 bI] at sa;have e4:sQ (cU (aX ws lys)) (Og 24)=sQ (λt=>bW true (kf ws lys t)) (Og 24):=aO λt ht=>by
    rw[de];exact kq h (Ow.mp ht) _
   have e5:sQ (λi=>mK (ws.getD i bI)) (Og ws.length)=sQ (aW ws) (Og ws.length):=aO λj hj=>(vd (Ow.mp hj)).symm
   rw[e4,sa,e5];grind
  rw[e2];have e3':sQ (λt=>cU (aX ws lys) t) (Og 24)=sQ (aW ws) (Og ws.length):=e3;rw[e3'];grind
 exact gH (λt _=>(E.sti (E.nn t) t).rm) tot t (Ow.mpr ht)
theorem xg(ok:∀w∈ws,bD w)(rk:oa ws.length es)(h:jr ws (Og 24) lys)(hs:∀r∈aX ws lys,fJ r)(ht:t<24):sQ (λp:Pc=>val p.2) (dQ ws (aK ws es ws.length) t (aU ws (aK ws es ws.length) (aX ws lys) t).1 ((aX ws lys).getD t (0,1))).2.2=kf ws lys t:=by
 have oi:=dB (es:=es) rk ws.length (Oi _);have nd:=lN (es:=es) rk ws.length (Oi _);have p:=(sK (ord:=aK ws es ws.length) ok oi.lt nd hs t);have u:=Bg (es:=es) ok rk h ht;have q:=jf (ws:=ws) (t:=t) (n:=ws.length) (ord:=aK ws es ws.length) (st:=((aU ws (aK ws es ws.length) (aX ws lys) t).1,(aX ws lys).getD t (0,1),[])) (by
  obtain⟨hh,_⟩:=fo (ord:=aK ws es ws.length) (ss:=aX ws lys) ok oi.lt hs t;exact⟨hh.len,hh.lf,cZ (n:=0) hs t,λp hp=>by cases hp⟩) oi.lt
 have e:=congrArg Prod.snd q;have e':val (dQ ws (aK ws es ws.length) t (aU ws (aK ws es ws.length) (aX ws lys) t).1 ((aX ws lys).getD t (0,1))).2.1=(ee (Wt (fW ws) (bi ws) t) (aK ws es ws.length) (cU (aU ws (aK ws es ws.length) (aX ws lys) t).1) (cU (aX ws lys) t)).2:=e;rw[i9 ok oi.lt hs t,u] at e';have sm:=p.sum;rw[e'] at sm;have sv:=kq h ht (0,1);rw[←sv];grind
theorem lO{ws:List Wk}{es:List Ln}(rk:oa ws.length es){a b:Nat}(ha:a<ws.length)(r:iy es a b)(le:bi ws a≤bi ws b):∀k,k≤ws.length->∀l1 l2,aK ws es k=l1++b::l2->a∈l1
 |0,_,l1,l2,e=>by
  have e':([]:List Nat)=l1++b::l2:=e
  cases l1<;>cases e'
 |k+1,h,l1,l2,e=>by
  have oi:=dB (es:=es) rk k (by omega);have ne:=oi.ne (by omega);have e':aK ws es k++[gM ws es (bX ws.length (aK ws es k))]=l1++b::l2:=e;rcases List.eq_nil_or_concat l2 with z | ⟨l3,x,z⟩
  ·subst z;have e2:=WL e' Z;have eb:gM ws es (bX ws.length (aK ws es k))=b:=(List.cons.inj e2.2).1;rw[←e2.1];by_cases c:a∈aK ws es k
   ·exact c
   ·exfalso;have aw:a∈bX ws.length (aK ws es k):=eX.mpr ⟨ha,c⟩;have m:=Os (kA (ws:=ws) rk ne);obtain⟨m1,m2⟩:=OL.mp m;rw[eb] at m1 m2;have mb:=f8.mp m1;have al:a∈f9 ws (bX ws.length (aK ws es k)):=f8.mpr ⟨aw,λj hj=>OS le (mb.2 j hj)⟩;rw[R8,TZ] at m2;exact m2 a al (jH.mpr r)
  ·subst z;have e3:aK ws es k++[gM ws es (bX ws.length (aK ws es k))]=(l1++b::l3)++[x]:=by rw[e'];simp
   have e2:=WL e3 Z;exact lO rk ha r le k (by omega) l1 l3 e2.1
theorem v7(ok:∀w∈ws,bD w)(rk:oa ws.length es)(hs:∀r∈ss,fJ r)(ha:a<ws.length)(hb:b<ws.length)(r:iy es a b)(le:bi ws a≤bi ws b)(hw:fV (ws.getD a bI) t=true)
  (hp:b∈(dQ ws (aK ws es ws.length) t (aU ws (aK ws es ws.length) ss t).1 (ss.getD t (0,1))).2.2.map (·.1)):cU (aU ws (aK ws es ws.length) ss (t+1)).1 a=0:=by
 have oi:=dB (es:=es) rk ws.length (Oi _);have nd:=lN (es:=es) rk ws.length (Oi _);obtain⟨l1,l2,e⟩:=Sy ((oZ (es:=es) rk a).mpr ha);have bl:b∈l2:=by
  have hbm:=(oZ (es:=es) rk b).mpr hb;rw[e] at hbm;rcases OU.mp hbm with z|z
  ·obtain⟨m1,m2,e2⟩:=Sy z;have e3:aK ws es ws.length=m1++b::(m2++a::l2):=by rw[e,e2];simp
   have am:=lO rk ha r le ws.length (Oi _) _ _ e3;rw[e] at nd;exact absurd Z ((P9.mp nd).2.2 a (by rw[e2];exact O6 _ am) a Oq)
  ·rcases Ov.mp z with z|z
   ·subst z;obtain⟨ps,_,hps⟩:=rk;exact absurd (iy.rank hps r) (Pm _)
   ·exact z
 by_cases z:cU (aU ws (aK ws es ws.length) ss (t+1)).1 a=0
 ·exact z
 exfalso;have p:=sK (ord:=aK ws es ws.length) ok oi.lt nd hs t;obtain⟨hh,_⟩:=fo (ord:=aK ws es ws.length) (ss:=ss) ok oi.lt hs t;have d:vh ws.length ((aU ws (aK ws es ws.length) ss t).1,ss.getD t (0,1),[]):=⟨hh.len,hh.lf,cZ (n:=0) hs t,λp hp=>by cases hp⟩;have q:=congrArg Prod.fst (jf (ws:=ws) (t:=t) d oi.lt);have q':cU (aU ws (aK ws es ws.length) ss (t+1)).1=(ee (λj=>fV (ws.getD j bI) t) (aK ws es ws.length) (cU (aU ws (aK ws es ws.length) ss t).1) (cU ss t)).1:=q;have nnL:∀j,0≤cU (aU ws (aK ws es ws.length) ss t).1 j:=λj=>(iB (cZ (n:=0) hh.lf j).bq.pos).mpr (cZ (n:=0) hh.lf j).nn
 have nnS:0≤cU ss t:=(iB (cZ (n:=0) hs t).bq.pos).mpr (cZ (n:=0) hs t).nn;have sti:wZ (cU (aU ws (aK ws es ws.length) ss t).1) (cU ss t) (ee (λj=>fV (ws.getD j bI) t) (aK ws es ws.length) (cU (aU ws (aK ws es ws.length) ss t).1) (cU ss t)):=wZ.fold nnL ⟨λ_ h=>h,λ_=>PR,nnS⟩;have pos:0<(ee (λj=>fV (ws.getD j bI) t) (l1++a::l2) (cU (aU ws (aK ws es ws.length) ss t).1) (cU ss t)).1 a:=by
  rw[←e];have:=sti.nn a (nnL a);rw[←q'] at this ⊢;grind
 have nd':=nd;rw[e] at nd';obtain⟨_,keep⟩:=ng nnL nnS nd' hw pos;have b1:b∉l1:=λz=>(P9.mp nd').2.2 b z b (Ot _ bl) Z
 have b2:b≠a:=λz=>(Pw.mp (P9.mp nd').2.1).1 (by rw[←z];exact bl)
 have kb:=keep b b1 b2;rw[←e,←q'] at kb;obtain⟨⟨b',rr⟩,hm,hb'⟩:=OD.mp hp;have hb'':b'=b:=hb';subst hb'';obtain⟨_,_,v0,v1⟩:=p.pc _ _ hm;have kb':cU (dQ ws (aK ws es ws.length) t (aU ws (aK ws es ws.length) ss t).1 (ss.getD t (0,1))).1 b'=cU (aU ws (aK ws es ws.length) ss t).1 b':=kb;grind
def ck(pl:List (List Pc))(t k:Nat):Pc:=(pl.getD t []).getD k (0,(0,1))
def Iz(pl:List (List Pc))(t k i:Nat):List (Nat×Nat):=((Og k).filter λj=>decide ((ck pl t j).1=i)).map λj=>(t,j)
def DV(pl:List (List Pc)):Nat->Nat->List (Nat×Nat)
 |0,_=>[]
 |t+1,i=>DV pl t i++Iz pl t (pl.getD t []).length i
def tj(pl:List (List Pc))(t i:Nat)(r:R):Nat->R
 |0=>r
 |k+1=>if(ck pl t k).1=i then cn (tj pl t i r k) (ck pl t k).2 else tj pl t i r k
def wY(pl:List (List Pc))(i:Nat):Nat->R
 |0=>(0,1)
 |t+1=>tj pl t i (wY pl i t) (pl.getD t []).length
theorem BV(h:x∈Iz pl t k i):x.1=t/\x.2<k/\(ck pl t x.2).1=i:=by
 obtain⟨j,hj,rfl⟩:=OD.mp h;obtain⟨h1,h2⟩:=OL.mp hj;exact⟨Z,Ow.mp h1,of_decide_eq_true h2⟩
theorem oJ{pl:List (List Pc)}{i:Nat}:∀{t:Nat} {x:Nat×Nat},x∈DV pl t i->x.1<t/\x.2<(pl.getD x.1 []).length/\(ck pl x.1 x.2).1=i
 |0,x,h=>by cases h
 |t+1,x,h=>by
  rcases OU.mp (show x∈DV pl t i++Iz pl t (pl.getD t []).length i from h) with z|z
  ·obtain⟨a,b,c⟩:=oJ z;exact⟨by omega,b,c⟩
  ·obtain⟨a,b,c⟩:=BV z;rw[a];exact⟨by omega,b,c⟩
structure rF(ws:List Wk)(es:List Ln)(pl:List (List Pc)):Prop where
 len:pl.length=24
 few:∀t,(pl.getD t []).length≤20
 pc:∀t k,t<24->k<(pl.getD t []).length->(ck pl t k).1<ws.length/\fJ (ck pl t k).2/\0<val (ck pl t k).2/\fV (ws.getD (ck pl t k).1 bI) t=true
 nd:∀t j k,t<24->j<k->k<(pl.getD t []).length->(ck pl t j).1≠(ck pl t k).1
 fin:∀i,i<ws.length->wY pl i 24=(ws.getD i bI).2.2
 ne:∀i,i<ws.length->DV pl 24 i≠[]
 lean:∀a b,(a,b)∈es->∀x∈DV pl 24 a,∀y∈DV pl 24 b,x.1<y.1∨(x.1=y.1/\x.2<y.2)
theorem A2{pl:List (List Pc)}{t i:Nat}{r:R}{N:Nat}(h:Bq 25882466482949286179863278649307923433294195500903155828261708777083304197655675043413266388030659964209410754393653789328972760953294720473500143200427572835208147172761078519773593353785008074840607407759949824000000000000000000000000 N r):∀k,k≤(pl.getD t []).length->(∀j,j<(pl.getD t []).length->fJ (ck pl t j).2)->Bq 25882466482949286179863278649307923433294195500903155828261708777083304197655675043413266388030659964209410754393653789328972760953294720473500143200427572835208147172761078519773593353785008074840607407759949824000000000000000000000000 (N+256*k) (tj pl t i r k)
 |0,_,_=>h
 |k+1,hk,ha=>by
  have ih:=A2 (i:=i) h k (by omega) ha;show Bq _ _ (if(ck pl t k).1=i then cn (tj pl t i r k) (ck pl t k).2 else tj pl t i r k)
  split
  ·exact(Bq.plus (by decide) ih (ha k (by omega)).bq).mono (Q5 _) (by omega)
  ·exact ih.mono (Q5 _) (by omega)
theorem A1{ws:List Wk}{pl:List (List Pc)}(few:∀t,(pl.getD t []).length≤20)(pc:∀t k,t<24->k<(pl.getD t []).length->fJ (ck pl t k).2)(i:Nat):∀t,t≤24->Bq 25882466482949286179863278649307923433294195500903155828261708777083304197655675043413266388030659964209410754393653789328972760953294720473500143200427572835208147172761078519773593353785008074840607407759949824000000000000000000000000 (5120*t) (wY pl i t)
 |0,_=>(Du.mono (Q5 _) (Oi _))
 |t+1,h=>by
  have f:=few t;exact(A2 (A1 (ws:=ws) few pc i t (by omega)) _ (Oi _) λj hj=>pc t j (by omega) hj).mono (Q5 _) (by omega)
theorem kG{pl:List (List Pc)}{t i:Nat}{r:R}(hr:0<r.2):∀k,(∀j,j<k->0<(ck pl t j).2.2)->0<(tj pl t i r k).2/\val (tj pl t i r k)=val r+sQ (λj=>bW (decide ((ck pl t j).1=i)) (val (ck pl t j).2)) (Og k)
 |0,_=>⟨hr,by show val r=val r+0;grind⟩
 |k+1,h=>by
  obtain⟨p,e⟩:=kG (i:=i) hr k λj hj=>h j (by omega)
  have hk:=h k (by omega);rw[PL,fe];show 0<(if(ck pl t k).1=i then cn (tj pl t i r k) (ck pl t k).2 else tj pl t i r k).2/\val (if(ck pl t k).1=i then cn (tj pl t i r k) (ck pl t k).2 else tj pl t i r k)=val r+(_+(bW (decide ((ck pl t k).1=i)) (val (ck pl t k).2)+0));by_cases c:(ck pl t k).1=i
  ·rw[if_pos c,decide_eq_true c,de];refine⟨(hU (Ql p hk)).pos,?_⟩;rw[iR p hk,e];grind
  ·rw[if_neg c,decide_eq_false c,b9,e];exact⟨p,by grind⟩
theorem nJ{ws:List Wk}{ord:List Nat}{ss:List R}:∀{N t:Nat},t<N->(aU ws ord ss N).2.length=N->(aU ws ord ss N).2.getD t []=(dQ ws ord t (aU ws ord ss t).1 (ss.getD t (0,1))).2.2
 |0,t,h,_=>absurd h (RW _)
 |N+1,t,h,hl=>by
  have e:(aU ws ord ss (N+1)).2=(aU ws ord ss N).2++[(dQ ws ord N (aU ws ord ss N).1 (ss.getD N (0,1))).2.2]:=Z;have l:(aU ws ord ss N).2.length=N:=by
   rw[e,OQ] at hl;have:[(dQ ws ord N (aU ws ord ss N).1 (ss.getD N (0,1))).2.2].length=1:=Z;omega
  rw[e,Op];by_cases c:t<N
  ·rw[QB (by omega),←Op];exact nJ c l
  ·have:t=N:=by omega
   subst this;rw[Qs (by omega),l,U0];rfl
theorem ut{q:List Pc}{f:Pc->Rat}(nd:(q.map (·.1)).Nodup):sQ (λp:Pc=>bW (decide (p.1=i)) (f p)) q=0∨∃p∈q,p.1=i/\sQ (λp:Pc=>bW (decide (p.1=i)) (f p)) q=f p:=by
 induction q with
 |nil=>exact .inl Z
 |cons p q ih=>
  have nd':(p.1::q.map (·.1)).Nodup:=nd;obtain⟨n1,n2⟩:=Pw.mp nd';by_cases c:p.1=i
  ·refine .inr ⟨p,Oq,c,?_⟩;have z:sQ (λp:Pc=>bW (decide (p.1=i)) (f p)) q=sQ (λ_:Pc=>0*(0:Rat)) q:=aO λx hx=>by
    rw[decide_eq_false (λe=>n1 (by rw[c,←e];exact OD.mpr ⟨x,hx,Z⟩)),b9];grind
   show bW (decide (p.1=i)) (f p)+sQ _ q=f p;rw[z,dU,decide_eq_true c,de];grind
  ·have e:sQ (λp:Pc=>bW (decide (p.1=i)) (f p)) (p::q)=sQ (λp:Pc=>bW (decide (p.1=i)) (f p)) q:=by
    show bW (decide (p.1=i)) (f p)+sQ _ q=_;rw[decide_eq_false c,b9];grind
   rw[e];rcases ih n2 with z | ⟨x,hx,e1,e2⟩
   ·exact .inl z
   ·exact .inr ⟨x,Ot _ hx,e1,e2⟩
theorem sG(len0:ws.length=ws0.length)(amt:∀i,i<ws.length->(ws.getD i bI).2.2=(ws0.getD i bI).2.2)(wid:∀i,i<ws.length->(ws0.getD i bI).1≤(ws.getD i bI).1/\(ws.getD i bI).2.1≤(ws0.getD i bI).2.1)
  (lns:∀a b,(a,b)∈es->a<ws.length/\b<ws.length/\(ws.getD a bI).1≤(ws.getD b bI).1/\(ws.getD a bI).2.1≤(ws.getD b bI).2.1) (ok:∀w∈ws,bD w) (w8:ws.length≤20) (rk:oa ws.length es) (h:jr ws (Og 24) lys) (hs:∀r∈aX ws lys,fJ r):rF ws0 es (dJ ws es (aX ws lys)).2:=by
 have oi:=dB (es:=es) rk ws.length (Oi _);have nd:=lN (es:=es) rk ws.length (Oi _);have E:=sY (es:=es) ok rk h;obtain⟨po,pl24⟩:=fo (ord:=aK ws es ws.length) (ss:=aX ws lys) ok oi.lt hs 24;have PC:=λt=>sK (ord:=aK ws es ws.length) ok oi.lt nd hs t
 have at_:∀t,t<24->(dJ ws es (aX ws lys)).2.getD t []=(dQ ws (aK ws es ws.length) t (aU ws (aK ws es ws.length) (aX ws lys) t).1 ((aX ws lys).getD t (0,1))).2.2:=λt ht=>nJ ht pl24
 have pv:=λt=>i9 (ord:=aK ws es ws.length) (ss:=aX ws lys) ok oi.lt hs t
 generalize hpl:(dJ ws es (aX ws lys)).2=pl at at_;have plen:pl.length=24:=by rw[←hpl];exact pl24
 have few:∀t,(pl.getD t []).length≤20:=λt=>by
  rw[Op]
  cases e:pl[t]? with
  |none=>exact ON _
  |some q=>
   have m:q∈(aU ws (aK ws es ws.length) (aX ws lys) 24).2:=by
    have:=Os e;rw[←hpl] at this;exact this
   have:=(po.pc q m).1;have l:=oi.len;show q.length≤20;omega
 have mem:∀t k,t<24->k<(pl.getD t []).length->((ck pl t k).1,(ck pl t k).2)∈(dQ ws (aK ws es ws.length) t (aU ws (aK ws es ws.length) (aX ws lys) t).1 ((aX ws lys).getD t (0,1))).2.2:=λt k ht hk=>by
  rw[←at_ t ht];unfold ck;rw[aB (0,(0,1)) (Oh hk)];exact OW hk
 have pc:∀t k,t<24->k<(pl.getD t []).length->(ck pl t k).1<ws.length/\fV (ws.getD (ck pl t k).1 bI) t=true/\fJ (ck pl t k).2/\0<val (ck pl t k).2:=λt k ht hk=>by
  have m:=mem t k ht hk;obtain⟨a,b,c,_⟩:=(PC t).pc _ _ m;exact⟨((PC t).ok.pc _ m).1,a,b,c⟩
 have ndt:∀t,t<24->((pl.getD t []).map (·.1)).Nodup:=λt ht=>by
  rw[at_ t ht];exact(PC t).sub.nodup nd
 have ndj:∀t j k,t<24->j<k->k<(pl.getD t []).length->(ck pl t j).1≠(ck pl t k).1:=λt j k ht hj hk=>by
  have p:=QC.mp (ndt t ht) j k (by rw[Ol];omega) (by rw[Ol];exact hk) hj;unfold ck;rw[aB (0,(0,1)) (Oh (show j<(pl.getD t []).length by omega)),aB (0,(0,1)) (Oh hk)];rw[SX,SX] at p;exact p
 have turnv:∀t i,t<24->sQ (λj=>bW (decide ((ck pl t j).1=i)) (val (ck pl t j).2)) (Og (pl.getD t []).length)=cU (aU ws (aK ws es ws.length) (aX ws lys) t).1 i-cU (aU ws (aK ws es ws.length) (aX ws lys) (t+1)).1 i:=λt i ht=>by
  have e:sQ (λj=>bW (decide ((ck pl t j).1=i)) (val (ck pl t j).2)) (Og (pl.getD t []).length)=sQ (λp:Pc=>bW (decide (p.1=i)) (val p.2)) (pl.getD t []):=(i3 (f:=λp:Pc=>bW (decide (p.1=i)) (val p.2)) (0,(0,1)) (pl.getD t [])).symm;rw[e];by_cases c:i∈(pl.getD t []).map (·.1)
  ·obtain⟨⟨i',r⟩,hm,e1⟩:=OD.mp c;have e1':i'=i:=e1;subst e1';rcases ut (i:=i') (f:=λp:Pc=>val p.2) (ndt t ht) with z | ⟨p,hp,e2,e3⟩
   ·exfalso;have hm':=hm;rw[at_ t ht] at hm';obtain⟨_,_,v0,_⟩:=(PC t).pc _ _ hm';have:=gH (f:=λp:Pc=>bW (decide (p.1=i')) (val p.2)) (l:=pl.getD t []) (λx hx=>fH _ (by
     have hx':=hx;rw[at_ t ht] at hx';obtain⟨_,_,w0,_⟩:=(PC t).pc x.1 x.2 hx';exact QP w0)) z _ hm
    rw[decide_eq_true Z,de] at this;have this':val r=0:=this;grind
   ·rw[e3];have hp':=hp;rw[at_ t ht] at hp';obtain⟨_,_,_,v1⟩:=(PC t).pc p.1 p.2 hp';rw[e2] at v1;exact v1
  ·have z:sQ (λp:Pc=>bW (decide (p.1=i)) (val p.2)) (pl.getD t [])=sQ (λ_:Pc=>0*(0:Rat)) (pl.getD t []):=aO λx hx=>by
    rw[decide_eq_false (λe=>c (by rw[←e];exact OD.mpr ⟨x,hx,Z⟩)),b9];grind
   rw[at_ t ht] at c;have u:=(PC t).un i c;have u':cU (aU ws (aK ws es ws.length) (aX ws lys) (t+1)).1 i=cU (aU ws (aK ws es ws.length) (aX ws lys) t).1 i:=congrArg val u;rw[z,dU,u'];grind
 have dnv:∀i t,t≤24->0<(wY pl i t).2/\val (wY pl i t)=cU (aU ws (aK ws es ws.length) (aX ws lys) 0).1 i-cU (aU ws (aK ws es ws.length) (aX ws lys) t).1 i:=λi t=>by
  induction t with
  |zero=>intro _;exact⟨by show(0:Int)<1;decide,by show val ((0,1):R)=_;rw[kL];grind⟩
  |succ t ih=>
   intro ht;obtain⟨p,e⟩:=ih (by omega);obtain⟨p2,e2⟩:=kG (pl:=pl) (t:=t) (i:=i) p (pl.getD t []).length λj hj=>(pc t j (by omega) hj).2.2.1.bq.pos
   refine⟨p2,?_⟩;show val (tj pl t i (wY pl i t) (pl.getD t []).length)=_;rw[e2,e,turnv t i (by omega)];grind
 have a0:∀i,i<ws.length->val (wY pl i 24)=mK (ws.getD i bI):=λi hi=>by
  have e:=(dnv i 24 (Oi _)).2;rw[pv 24,K2 E hi] at e;have z:cU (aU ws (aK ws es ws.length) (aX ws lys) 0).1 i=mK (ws.getD i bI):=by
   rw[pv 0];exact vd hi
  rw[z] at e;rw[e];grind
 have pos0:∀i,i<ws.length->0<mK (ws.getD i bI):=λi hi=>by
  rw[aB bI (Oh hi)];exact tH (ok _ (OW hi))
 refine⟨plen,few,λt k ht hk=>?_,ndj,λi hi=>?_,λi hi=>?_,λa b hab x hx y hy=>?_⟩
 ·obtain⟨p1,p2,p3,p4⟩:=pc t k ht hk;refine⟨by rw[←len0];exact p1,p3,p4,?_⟩;obtain⟨w1,w2⟩:=wid _ p1;unfold fV at p2 ⊢;rw[OA,decide_eq_true_iff,decide_eq_true_iff] at p2 ⊢;omega
 ·have il:i<ws.length:=by rw[len0];exact hi
  rw[←amt i il];have o:=(ok _ (OW il)).am;have bq:=A1 (ws:=ws) few (λt k ht hk=>(pc t k ht hk).2.2.1) i 24 (Oi _);refine gZ bq.red ?_ (a0 i il);rw[aB bI (Oh il)];exact(u7 o).red
 ·intro e;have il:i<ws.length:=by rw[len0];exact hi
  have z:∀t,t≤24->DV pl t i=[]->val (wY pl i t)=0:=λt=>by
   induction t with
   |zero=>intro _ _;exact kL
   |succ t ih=>
    intro ht he;have he':DV pl t i++Iz pl t (pl.getD t []).length i=[]:=he;obtain⟨h1,h2⟩:=List.append_eq_nil_iff.mp he';have v:=kG (pl:=pl) (t:=t) (i:=i) (dnv i t (by omega)).1 (pl.getD t []).length λj hj=>(pc t j (by omega) hj).2.2.1.bq.pos
    show val (tj pl t i (wY pl i t) (pl.getD t []).length)=0;rw[v.2,ih (by omega) h1];have q:sQ (λj=>bW (decide ((ck pl t j).1=i)) (val (ck pl t j).2)) (Og (pl.getD t []).length)=sQ (λ_:Nat=>0*(0:Rat)) (Og (pl.getD t []).length):=aO λj hj=>by
     rw[decide_eq_false (λc=>by
      have m:(t,j)∈Iz pl t (pl.getD t []).length i:=OD.mpr ⟨j,OL.mpr ⟨hj,decide_eq_true c⟩,Z⟩;rw[h2] at m
      cases m),b9]
     grind
    rw[q,dU];grind
  have v:=z 24 (Oi _) e;rw[a0 i il] at v;have:=pos0 i il;grind
 ·obtain⟨x1,x2,x3⟩:=oJ hx;obtain⟨y1,y2,y3⟩:=oJ hy;obtain⟨al,bl,fab,lab⟩:=lns a b hab;have px:=pc x.1 x.2 x1 x2;have py:=pc y.1 y.2 y1 y2;rw[x3] at px;rw[y3] at py;have wx:=px.2.1;have wy:=py.2.1;unfold fV at wx wy;rw[OA,decide_eq_true_iff,decide_eq_true_iff] at wx wy;by_cases c:x.1<y.1
  ·exact .inl c
  by_cases c2:x.1=y.1
  ·refine .inr ⟨c2,?_⟩;by_cases c3:x.2<y.2
   ·exact c3
   exfalso;obtain⟨ps,_,hps⟩:=id rk;have irr:a≠b:=λe=>by
    have:=iy.rank hps (iy.one hab);rw[e] at this;exact Pm _ this
   have ne:x.2≠y.2:=λe=>by
    rw[c2,e,y3] at x3;exact irr x3.symm
   have lt:y.2<x.2:=by omega
   rw[c2] at x2 x3;have sub:=(PC y.1).sub;rw[←at_ y.1 y1] at sub;have ex:((pl.getD y.1 []).map (·.1))[x.2]?=some a:=by
    rw[OB,Oh x2];have e:=aB (0,(0,1)) (Oh x2);unfold ck at x3;rw[e] at x3;exact congrArg some x3
   have ey:((pl.getD y.1 []).map (·.1))[y.2]?=some b:=by
    rw[OB,Oh y2];have e:=aB (0,(0,1)) (Oh y2);unfold ck at y3;rw[e] at y3;exact congrArg some y3
   generalize (pl.getD y.1 []).map (·.1)=zs at sub ex ey;obtain⟨hy',ey'⟩:=OH.mp ey;have d:zs.drop y.2=b::zs.drop (y.2+1):=by rw[TR hy',ey']
   have am:a∈zs.drop (y.2+1):=by
    refine Os (i:=x.2-(y.2+1)) ?_;rw[List.getElem?_drop,show y.2+1+(x.2-(y.2+1))=x.2 by omega];exact ex
   have sb:(b::zs.drop (y.2+1)).Sublist (aK ws es ws.length):=by
    rw[←d];exact(List.drop_sublist _ _).trans sub
   obtain⟨r1,r2,e,hb1,hs2⟩:=List.cons_sublist_iff.mp sb;obtain⟨m1,m2,e2⟩:=Sy hb1;have e3:aK ws es ws.length=m1++b::(m2++r2):=by rw[e,e2];simp
   have ain:=lO rk al (.one hab) lab ws.length (Oi _) _ _ e3;rw[e] at nd;exact(P9.mp nd).2.2 a (by rw[e2];exact O6 _ ain) a (hs2.subset am) Z
  ·exfalso;have hw:fV (ws.getD a bI) y.1=true:=by
    unfold fV;rw[OA,decide_eq_true_iff,decide_eq_true_iff];omega
   have hb:b∈(dQ ws (aK ws es ws.length) y.1 (aU ws (aK ws es ws.length) (aX ws lys) y.1).1 ((aX ws lys).getD y.1 (0,1))).2.2.map (·.1):=by
    have m:=mem y.1 y.2 y1 y2;rw[y3] at m;exact OD.mpr ⟨_,m,Z⟩
   have d:=v7 ok rk hs al bl (.one hab) lab hw hb;have mx:=mem x.1 x.2 x1 x2;rw[x3] at mx;obtain⟨_,_,v0,v1⟩:=(PC x.1).pc _ _ mx;have zl:cU (aU ws (aK ws es ws.length) (aX ws lys) x.1).1 a=0:=by
    rw[pv] at d ⊢;have q:=E.dn' (y.1+1) a (x.1-(y.1+1));rw[show y.1+1+(x.1-(y.1+1))=x.1 by omega] at q;have n0:=E.nn x.1 a;grind
   have n1:0≤cU (dQ ws (aK ws es ws.length) x.1 (aU ws (aK ws es ws.length) (aX ws lys) x.1).1 ((aX ws lys).getD x.1 (0,1))).1 a:=by
    have g:=cZ (n:=0) (PC x.1).ok.lf a;exact(iB g.bq.pos).mpr g.nn
   grind
structure Kj(K:Of)(H:Hp)(v:V)(ws:List Wk)(es:List Ln):Prop where
 sv:Md K H v ws es
 w8:ws.length≤20
 ok:∀w∈ws,bD w
 eok:tU ws.length es
 rk:oa ws.length es
 e8:es.length≤20
theorem Kj.sh{K:Of}{H:Hp}{v:V}{ws:List Wk}{es:List Ln}(h:Kj K H v ws es):JH ws es:=⟨by have:=h.w8;omega,λw hw=>⟨by have:=(h.ok w hw).le;have:=(h.ok w hw).lt;omega,(h.ok w hw).lt,(h.ok w hw).am.wf.mono (by decide)⟩,h.eok⟩
def kh(ws:List Wk)(f l:Nat->Int):List Wk:=(Og ws.length).map λi=>((f i).toNat,(l i).toNat,(ws.getD i bI).2.2)
theorem tf(ws:List Wk)(f l:Nat->Int):(kh ws f l).length=ws.length:=by unfold kh;rw[Ol,PF]
theorem Et(h:i<ws.length):(kh ws f l).getD i bI=((f i).toNat,(l i).toNat,(ws.getD i bI).2.2):=by
 refine aB bI ?_;unfold kh;rw[OB,Sk h];rfl
theorem Hi(h:iO n f l=none)(hi:i<n):f i≤l i:=by
 unfold iO at h;rw[TQ] at h;have:=h i (Ow.mpr hi);by_cases c:l i<f i
 ·exact absurd (decide_eq_true c) this
 ·omega
theorem t0{ws:List Wk}(ok:∀w∈ws,bD w)(h:i<ws.length):bD (ws.getD i bI):=by
 rw[aB bI (Oh h)];exact ok _ (OW h)
theorem xb(ok:∀w∈ws,bD w)(h:ij ws es f l)(hi:i<ws.length):0≤f i/\f i<24/\0≤l i/\l i<24/\((ws.getD i bI).1:Int)≤f i/\l i≤((ws.getD i bI).2.1:Int):=by
 obtain⟨j,hj,_,e1⟩:=h.a.att i hi;obtain⟨k,hk,_,e2⟩:=h.b.att i hi;have oj:=t0 ok hj;have okk:=t0 ok hk;have a:=oj.le;have b:=oj.lt;have c:=okk.lt;have u1:=h.a.up i i hi hi (.inl Z);have u2:=h.b.up i i hi hi (.inl Z);unfold vF at e1 u1;unfold vL at e2 u2;omega
theorem Es(ok:∀w∈ws,bD w)(h:ij ws es f l)(nb:iO ws.length f l=none):∀w∈kh ws f l,bD w:=λw hw=>by
 obtain⟨i,hi,rfl⟩:=OD.mp hw;have il:=Ow.mp hi;have q:=Hi nb il;have b:=xb ok h il;have o:=t0 ok il;exact⟨by show(f i).toNat≤(l i).toNat;omega,by show(l i).toNat<24;omega,o.am⟩
theorem Di{K:Of}{H:Hp}{u:V}{ws:List Wk}{es:List Ln}{f l:Nat->Int}(ok:∀w∈ws,bD w)(h:ij ws es f l)(d:bh K H u (.tuple ((Og ws.length).map (wG ws f l)))):gf K H u (kh ws f l):=by
 cases d with
 | @tup p xs ds hS hA=>
  refine⟨p,xs,Z,hS,?_⟩;have key:∀(zs:List Nat) (xs:List V),(∀i∈zs,i<ws.length)->be K H xs (zs.map (wG ws f l))->di (Bj K H) xs (zs.map λi=>((f i).toNat,(l i).toNat,(ws.getD i bI).2.2)):=by
   intro zs
   induction zs with
   |nil=>intro xs _ d;cases d;exact .nil
   |cons i zs ih=>
    intro xs hz d
    cases d with
    | @cons x _ xs _ dx dt=>
     refine .cons ?_ (ih _ (λj hj=>hz j (Ot _ hj)) dt);have b:=xb ok h (hz i Oq)
     cases dx with
     | @tup p ys _ hS hA=>
      cases hA with
      |cons d1 d2=>
       cases d2 with
       |cons d3 d4=>
        cases d4 with
        |cons d5 d6=>
         cases d1
         cases d3
         cases d6
         cases d5 with
         | @tup q zs _ hS2 hA2=>
          cases hA2 with
          |cons e1 e2=>
           cases e2 with
           |cons e3 e4=>
            cases e1
            cases e3
            cases e4
            refine⟨p,.ref q,Z,?_,⟨q,Z,hS2⟩⟩;show bu K H p [.int ((f i).toNat:Nat),.int ((l i).toNat:Nat),.ref q];rw[show(((f i).toNat:Nat):Int)=f i by omega,show(((l i).toNat:Nat):Int)=l i by omega];exact hS
  exact key _ _ (λi hi=>Ow.mp hi) hA
noncomputable def LW (ws:List Wk) (es:List Ln) (f l:Nat->Int) (lys:List Ly):PyData:=HQ (dJ (kh ws f l) es (aX (kh ws f l) lys)).2
def qy(K:Of):Sp:=λvs H Q _=>∃(v:V) (ws:List Wk) (es:List Ln),vs=[v]/\Md K H v ws es/\JH ws es/\(∀f l:Nat->Int,ij ws es f l->iO ws.length f l=none)/\∀(f l:Nat->Int) (u:V) (H':Hp),aD H H'->ij ws es f l->iO ws.length f l=none->bh K H' u (.tuple ((Og ws.length).map (wG ws f l)))->Q u H'
def mM(K:Of):Sp:=λvs H Q _=>∃(v:V) (ws:List Wk) (es:List Ln),vs=[v]/\Kj K H v ws es/\(∀f l:Nat->Int,ij ws es f l->iO ws.length f l=none)/\∀(f l:Nat->Int) (lys:List Ly) (w:V) (H':Hp),aD H H'->ij ws es f l->iO ws.length f l=none->jr (kh ws f l) (Og 24) lys->bh K H' w (LW ws es f l lys)->Q w H'
theorem o9(h:jr ws ls lys):ls.length≤24->(∀t∈ls,t<24)->∀y∈lys,jP ws.length y:=by
 induction h with
 |nil _=>intro _ _ y hy;cases hy
 |cons h tl ih=>
  intro h1 h2 y hy;rcases Ov.mp hy with z|z
  ·rw[z];exact As h.1.inn h1 h2
  ·exact ih (OS (Py _ _) h1) (λt ht=>h2 t (OL.mp ht).1) y z
theorem oB{ws:List Wk}{lys:List Ly}(ok:∀w∈ws,bD w)(hw:ws.length≤20)(lok:∀y∈lys,jP ws.length y):∀r∈aX ws lys,fJ r:=λr hr=>(xN (ss:=Ou 24 (0,1)) ok hw lok (λr hr=>by rw[Ss hr];exact⟨Du.mono (Q5 _) (by decide),T5 _⟩) r hr).am (by decide)
def NX(K:Of)(C:Addr)(H:Hp)(u:V)(pd:PyData):Option Nat->Prop
 |none=>∃p x l,u=.ref p/\bu K H p [x,.ref l]/\bh K H x pd/\H l=some (.lst [])
 |some i=>∃p l x dd,u=.ref p/\bu K H p [.ref x,.ref l]/\H x=some (rC x C dd)/\H dd=some (dO dd [("work",.int (i:Nat))])/\H l=some (.lst [.bl true,.bl true,.bl true,.bl false])
theorem tz{K:Of}{H:Hp}{v:V}{r:R}(d:bh K H v (dR r)):RV K H v r:=by
 cases d with
 | @tup q zs _ hS2 hA2=>
  cases hA2 with
  |cons e1 e2=>
   cases e2 with
   |cons e3 e4=>
    cases e1
    cases e3
    cases e4
    exact⟨q,Z,hS2⟩
theorem Dn{K:Of}{H:Hp}{v:V}{c:Pc}(d:bh K H v (Kh c)):Bw K H v c:=by
 cases d with
 | @tup q zs _ hS2 hA2=>
  cases hA2 with
  |cons e1 e2=>
   cases e2 with
   |cons e3 e4=>
    cases e1
    cases e4
    exact⟨q,_,Z,hS2,tz e3⟩
theorem mC{α:Type}{K:Of}{H:Hp}{f:α->PyData}{P:V->α->Prop}(h:∀v x,bh K H v (f x)->P v x):∀{l:List α} {xs:List V},be K H xs (l.map f)->di P xs l
 | [],_,d=>by cases d;exact .nil
 |x::l,_,d=>by
  cases d with
  |cons d1 d2=>exact .cons (h _ _ d1) (mC h d2)
theorem Dl{K:Of}{H:Hp}{v:V}{q:List Pc}(d:bh K H v (He q)):tP K H v q:=by
 cases d with
 | @tup p xs _ hS hA=>exact⟨p,xs,Z,hS,mC (P:=Bw K H) (λ_ _ z=>Dn z) hA⟩
theorem Dm{K:Of}{H:Hp}{u:V}{pl:List (List Pc)}(d:bh K H u (HQ pl)):∃p xs,u=.ref p/\bu K H p xs/\di (tP K H) xs pl:=by
 cases d with
 | @tup p xs _ hS hA=>exact⟨p,xs,Z,hS,mC (P:=tP K H) (λ_ _ z=>Dl z) hA⟩
def Nj(K:Of)(H:Hp)(v:V)(x:Nat×Nat):Prop:=∃p,v=.ref p/\bu K H p [.int (x.1:Nat),.int (x.2:Nat)]
structure NY(K:Of)(H:Hp)(D:Addr)(rows:List Addr)(n:Nat)(S:Nat->List (Nat×Nat)):Prop where
 top:H D=some (.lst (rows.map V.ref))
 len:rows.length=n
 nd:rows.Nodup
 ne:D∉rows
 row:∀i r,rows[i]?=some r->∃ys,H r=some (.lst ys)/\di (Nj K H) ys (S i)
theorem Dh(ok:∀w∈ws,bD w)(eok:tU ws.length es)(h:ij ws es f l)(a b:Nat)(hab:(a,b)∈es):a<(kh ws f l).length/\b<(kh ws f l).length/\((kh ws f l).getD a bI).1≤((kh ws f l).getD b bI).1/\((kh ws f l).getD a bI).2.1≤((kh ws f l).getD b bI).2.1:=by
 rw[show es=[] from eok] at hab
 cases hab
theorem AZ(ok:∀w∈ws,bD w)(w8:ws.length≤20)(eok:tU ws.length es)(rk:oa ws.length es)(h:ij ws es f l)(nb:iO ws.length f l=none)(ly:jr (kh ws f l) (Og 24) lys):rF ws es (dJ (kh ws f l) es (aX (kh ws f l) lys)).2:=by
 have ok':=Es ok h nb;have len:=tf ws f l;refine sG len (λi hi=>?_) (λi hi=>?_) (Dh ok eok h) ok' (by omega) (by rw[len];exact rk) ly (oB ok' (by omega) (o9 ly (by decide) λt ht=>Ow.mp ht))
 ·rw[Et (by omega)]
 ·have il:i<ws.length:=by omega
  rw[Et il];have b:=xb ok h il;show _≤(f i).toNat/\(l i).toNat≤_;omega
def NW(K:Of)(t s lw:Addr)(m:Int)(en i:Nat)(r:Int)(H1:Hp):L2.St->Hp->Prop:=λσ H'=>∃a b:Nat,σ=[some (.ref t),some (.int m),some (.int en),some (.ref lw),some (.int (i:Nat)),some (.int (a:Nat)),some (.int (b:Nat)),some (.int r)]/\a≤b/\b<24/\dP t H1 H'/\ve K H' t s
theorem uw:¬iy [] a b:=λh=>by
 cases h with
 |one h=>cases h
 |step h _=>cases h
theorem pZ(h:ij ws [] f l)(hi:i<ws.length):f i=((ws.getD i bI).1:Int)/\l i=((ws.getD i bI).2.1:Int):=by
 obtain⟨j,_,z,e⟩:=h.a.att i hi;obtain⟨k,_,y,g⟩:=h.b.att i hi;rcases z with z|z
 ·rcases y with y|y
  ·rw[z] at e;rw[y] at g;have g':- l i=-((ws.getD i bI).2.1:Int):=g;exact⟨e,by omega⟩
  ·exact absurd y uw
 ·exact absurd z uw
theorem u5(ok:∀w∈ws,bD w)(f l:Nat->Int)(h:ij ws [] f l):iO ws.length f l=none:=rc λj hj=>by
 obtain⟨a,b⟩:=pZ h hj;have:=(t0 ok hj).le;omega
theorem sZ(h:ij ws [] f l):kh ws f l=ws:=by
 refine Ww λi=>?_
 by_cases hi:i<ws.length
 ·unfold kh;rw[OB,Sk hi];obtain⟨a,b⟩:=pZ h hi;show some ((f i).toNat,(l i).toNat,(ws.getD i bI).2.2)=_;rw[a,b,QX,QX,Op,Oh hi];rfl
 ·rw[QF (by rw[tf];omega),QF (by omega)]
theorem kx(n:Nat):oa n []:=⟨λi=>i,λ_ h=>h,λ_ _ h=>by cases h⟩
theorem wR{z:Int}(h0:0≤z)(h:z≤3712529797363659169186468921117261837482364434277531982552264807327395690973815529780151756606928400960107528943425763712337056538406767796532469112140080186008009621859965818866174375367174479376680380006400000000000000000000000):z.natAbs<2^4000:=Pq (show z.natAbs≤3712529797363659169186468921117261837482364434277531982552264807327395690973815529780151756606928400960107528943425763712337056538406767796532469112140080186008009621859965818866174375367174479376680380006400000000000000000000000 by omega) (by decide)
def vB(_:Of)(C:Addr):Sp:=λvs H Q _=>∃(a:Addr) (v:V),vs=[.ref a,v]/\H a=some (jh a C none)/\∀d,H d=none->d≠a->Q .non (upd (upd H a (jh a C (some d))) d (dO d [("text",v)]))
def vD(_:Of)(C:Addr):Sp:=λvs H Q _=>∃(a:Addr) (v:V),vs=[.ref a,v]/\H a=some (jh a C none)/\∀d,H d=none->d≠a->Q .non (upd (upd H a (jh a C (some d))) d (dO d [("text",v)]))
def qw(K:Of):Sp:=λvs H Q _=>∃(v:V) (d:PyData),vs=[v]/\bh K H v d/\Q (.bl (bR d)) H
def k4(K:Of):Sp:=λvs H Q _=>∃(v:V) (d:PyData) (m:Nat),vs=[v,.int m]/\bh K H v d/\Q (.bl (oq m d)) H
def qx(K:Of):Sp:=λvs H Q _=>∃(v:V) (d:PyData),vs=[v]/\bh K H v d/\Q (.bl (gl d)) H
theorem em(h:bR d=true):∃i,d=.int i:=by
 cases d with
 |int i=>exact⟨i,Z⟩
 |_=>cases h
theorem zb(h:bR x=false):gl (.tuple [x,y])=false:=by
 cases x with
 |int i=>cases h
 |_=>rfl
theorem Eb(h:bR y=false):gl (.tuple [x,y])=false:=by
 cases y with
 |int i=>cases h
 |_=>cases x<;>rfl
def jG(m:Int):PyData->Bool
 | .int i=>decide (0≤i)&&decide (i<m)
 |_=>false
def cN:PyData->Bool
 | .tuple [.int a,.int b]=>(decide (1≤b)&&decide (OG a b=1))&&decide (0<a)
 |_=>false
def Kd:PyData->PyData->Bool
 | .int i,.int j=>decide (i≤j)
 |_,_=>false
def NP:PyData->PyData->Bool
 | .int i,.int j=>!decide (i=j)
 |_,_=>false
def kJ:PyData->Bool
 | .tuple [a,b,c]=>jG 24 a&&(jG 24 b&&(Kd a b&&cN c))
 |_=>false
def j9(K:Of):Sp:=λvs H Q _=>∃(v:V) (d:PyData) (m:Int),vs=[v,.int m]/\bh K H v d/\Q (.bl (jG m d)) H
def iG(K:Of):Sp:=λvs H Q _=>∃(v:V) (d:PyData),vs=[v]/\bh K H v d/\Q (.bl (cN d)) H
def rS(K:Of):Sp:=λvs H Q _=>∃(v:V) (d:PyData),vs=[v]/\bh K H v d/\Q (.bl (kJ d)) H
theorem lU(h:jG m d=true):∃i,d=.int i/\0≤i/\i<m:=by
 cases d with
 |int i=>
  have h':(decide (0≤i)&&decide (i<m))=true:=h;rw[OA,decide_eq_true_iff,decide_eq_true_iff] at h';exact⟨i,Z,h'⟩
 |_=>cases h
theorem CY(h:bR d=false):jG m d=false:=by
 cases d with
 |int i=>cases h
 |_=>rfl
theorem zc(h:gl d=true):∃i j,d=.tuple [.int i,.int j]:=by
 unfold gl at h
 split at h
 ·exact⟨_,_,Z⟩
 ·cases h
theorem eP(h:gl d=false):cN d=false:=by
 cases c:cN d with
 |false=>rfl
 |true=>
  unfold cN at c
  split at c
  ·rename_i a b;rw[OA] at c;have h':(decide (1≤b)&&decide (OG a b=1))=false:=h;rw[h'] at c
   cases c.1
  ·cases c
theorem tO(h:gl (.tuple [.int i,.int j])=true):cN (.tuple [.int i,.int j])=decide (0<i):=by
 show((decide (1≤j)&&decide (OG i j=1))&&decide (0<i))=_;have h':(decide (1≤j)&&decide (OG i j=1))=true:=h;rw[h',Rv]
theorem bh.three{K:Of}{H:Hp}{v:V}{d:PyData}(h:bh K H v d)(c:oq 3 d=true):∃a x y z dx dy dz,v=.ref a/\d=.tuple [dx,dy,dz]/\bu K H a [x,y,z]/\bh K H x dx/\bh K H y dy/\bh K H z dz:=by
 cases h with
 |tup e t=>
  have l:=of_decide_eq_true (show decide (_=3)=true from c)
  cases t with
  |nil=>cases l
  |cons a t=>
   cases t with
   |nil=>cases l
   |cons b t=>
    cases t with
    |nil=>cases l
    |cons c' t=>
     cases t with
     |nil=>exact⟨_,_,_,_,_,_,_,Z,Z,e,a,b,c'⟩
     |cons _ _=>simp at l
 |_=>cases c
theorem w9(h:oq 3 d=false):kJ d=false:=by
 cases c:kJ d with
 |false=>rfl
 |true=>
  unfold kJ at c
  split at c
  ·cases h
  ·cases c
def qu(_:Of):Sp:=λvs H Q _=>∃a b:Int,vs=[.int a,.int b]/\0<b/\b.natAbs<2^4000/\vY H Q (dZ a b)
structure dN(H:Hp)(t l:Addr):Prop where
 ex:∃(ns:List Int) (p:Int),H t=some (.lst [.ref l,.int p])/\H l=some (.lst (ns.map V.int))/\l≠t/\0<ns.length/\ns.length≤1000
theorem dN.lst(h:dN H t l):∃xs,H t=some (.lst xs):=let ⟨_,_,e,_⟩:=h.ex;⟨_,e⟩
theorem dN.lst'(h:dN H t l):∃xs,H l=some (.lst xs):=let ⟨_,_,_,e,_⟩:=h.ex;⟨_,e⟩
theorem dN.same(h:dN H t l)(s:aD H H'):dN H' t l:=let ⟨ns,p,a,b,c⟩:=h.ex;⟨ns,p,s _ _ a,s _ _ b,c⟩
def qt(_:Of):Sp:=λvs H Q _=>∃(t l:Addr) (m:Int),vs=[.ref t,.int m]/\dN H t l/\0<m/\m<1073741824/\∀(r:Int) (xs:List V),0≤r->r<m->dN (upd H t (.lst xs)) t l->Q (.int r) (upd H t (.lst xs))
def kZ(K:Of):Sp:=λvs H Q _=>∃(a:Addr) (ns:List Int) (k:Nat),vs=[.ref a,.int k]/\ba K H a (ns.map V.int)/\∀z:Int,Q (.int z) H
def oC(_:Of):Sp:=λvs H Q _=>∃(c:Int) (m:Nat),vs=[.int c,.int m]/\0<m/\m≤1000/\∀(l:Addr) (ns:List Int) (H':Hp),aD H H'->H l=none->H' l=some (.lst (ns.map V.int))->ns.length=m->Q (.ref l) H'
theorem mD(ok:∀w∈ws,bD w)(w8:ws.length≤20)(h:jr ws (Og 24) lys):rF ws [] (dJ ws [] (aX ws lys)).2:=by
 obtain⟨f,l,win⟩:=ij.ex ws [];have e:=sZ win;have:=AZ (lys:=lys) ok w8 Z (kx _) win (u5 ok f l win) (by rw[e];exact h);rw[e] at this;exact this
structure fB where
 tn:Nat
 kn:List Wk
 rs:List R
 dn:List (List Pc)
def AK(t:Nat)(lk lr ld:Addr):List (OV×V):=[("turn",.int t),("known",.ref lk),("rest",.ref lr),("done",.ref ld)]
structure jZ(K:Of)(C:Addr)(H:Hp)(a lk lr ld:Addr)(s:fB):Prop where
 ins:∃dx,H a=some (.ins C dx (AK s.tn lk lr ld))
 hk:∃xs,H lk=some (.lst xs)/\di (Bj K H) xs s.kn
 hr:∃xs,H lr=some (.lst xs)/\di (RV K H) xs s.rs
 hd:∃xs,H ld=some (.lst xs)/\di (tP K H) xs s.dn
 n1:lk≠lr
 n2:lk≠ld
 n3:lr≠ld
theorem jZ.same{K:Of}{C:Addr}{H H':Hp}{a lk lr ld:Addr}{s:fB}(h:jZ K C H a lk lr ld s)(z:aD H H'):jZ K C H' a lk lr ld s:=by
 obtain⟨dx,i⟩:=h.ins;obtain⟨x,k1,k2⟩:=h.hk;obtain⟨y,r1,r2⟩:=h.hr;obtain⟨u,d1,d2⟩:=h.hd;have t:=aV.same (K:=K) z;exact⟨⟨dx,z _ _ i⟩,⟨x,z _ _ k1,k2.mono λ_ _ q=>q.mono t⟩,⟨y,z _ _ r1,r2.mono λ_ _ q=>q.mono t⟩,⟨u,z _ _ d1,d2.mono λ_ _ q=>q.mono t⟩,h.n1,h.n2,h.n3⟩
def rG(a lk lr ld:Addr)(H H':Hp):Prop:=∀b o,b≠a->b≠lk->b≠lr->b≠ld->H b=some o->H' b=some o
theorem rG.of{a lk lr ld:Addr}{H H':Hp}(z:aD H H'):rG a lk lr ld H H':=λb o _ _ _ _ h=>z b o h
theorem rG.trans{a lk lr ld:Addr}{H H1 H2:Hp}(p:rG a lk lr ld H H1)(q:rG a lk lr ld H1 H2):rG a lk lr ld H H2:=λb o h1 h2 h3 h4 h=>q b o h1 h2 h3 h4 (p b o h1 h2 h3 h4 h)
theorem jZ.tst{K:Of}{C:Addr}{H H':Hp}{a lk lr ld:Addr}{s:fB}(h:jZ K C H a lk lr ld s)(z:rG a lk lr ld H H'):aV K H H':=by
 obtain⟨dx,i⟩:=h.ins;obtain⟨x,k1,_⟩:=h.hk;obtain⟨y,r1,_⟩:=h.hr;obtain⟨u,d1,_⟩:=h.hd;intro p xs q;rcases q with(q | ⟨o,q⟩)|q
 ·exact .inl (.inl (z _ _ (λe=>by subst e;rw[q] at i;cases i) (λe=>by subst e;rw[q] at k1;cases k1) (λe=>by subst e;rw[q] at r1;cases r1) (λe=>by subst e;rw[q] at d1;cases d1) q))
 ·exact .inl (.inr ⟨o,z _ _ (λe=>by subst e;rw[q] at i;cases i) (λe=>by subst e;rw[q] at k1;cases k1) (λe=>by subst e;rw[q] at r1;cases r1) (λe=>by subst e;rw[q] at d1;cases d1) q⟩)
 ·exact .inr q
def Nn(K:Of)(H:Hp)(v:V)(pl:List (List Pc)):Prop:=∃p xs,v=.ref p/\bu K H p xs/\di (tP K H) xs pl
def k8(K:Of)(C:Addr):Sp:=λvs H Q _=>∃(x dx:Addr),vs=[.ref x]/\H x=some (.ins C dx [])/\∀(lk lr ld:Addr) (H':Hp),(∀b o,b≠x->H b=some o->H' b=some o)->H lk=none->H lr=none->H ld=none->jZ K C H' x lk lr ld ⟨0,[],[],[]⟩->Q .non H'
def mP(K:Of)(C:Addr):Sp:=λvs H Q _=>∃(a lk lr ld:Addr) (s:fB),vs=[.ref a]/\jZ K C H a lk lr ld s/\Q (.int s.tn) H
def kd(K:Of)(C:Addr):Sp:=λvs H Q _=>∃(a lk lr ld:Addr) (s:fB),vs=[.ref a]/\jZ K C H a lk lr ld s/\∀v H',aD H H'->gf K H' v s.kn->Q v H'
def k7(K:Of)(C:Addr):Sp:=λvs H Q _=>∃(a lk lr ld:Addr) (s:fB),vs=[.ref a]/\jZ K C H a lk lr ld s/\∀v H',aD H H'->Kk K H' v s.rs->Q v H'
def k6(K:Of)(C:Addr):Sp:=λvs H Q _=>∃(a lk lr ld:Addr) (s:fB),vs=[.ref a]/\jZ K C H a lk lr ld s/\∀v H',aD H H'->Nn K H' v s.dn->Q v H'
def cS(s:fB)(dv du:PyData):Bool:=kJ (.tuple [.int s.tn,dv,du])&&decide (s.kn.length<20)
def mE(s:fB)(l:Nat)(r:R):fB:=⟨s.tn,s.kn++[(s.tn,l,r)],s.rs++[r],s.dn⟩
def k9(K:Of)(C Cw:Addr):Sp:=λvs H Q E=>∃(a lk lr ld:Addr) (s:fB) (v u:V) (dv du:PyData),vs=[.ref a,v,u]/\jZ K C H a lk lr ld s/\s.kn.length≤20/\s.rs.length≤20/\bh K H v dv/\bh K H u du∧
 (cS s dv du=false->∀d fs H',aD H H'->H' d=none->E (.ref Cw) (some d) (upd H' d (dO d fs)))/\(cS s dv du=true->∀(l:Nat) (r:R) (H':Hp),dv=.int (l:Nat)->du=dR r->rG a lk lr ld H H'->jZ K C H' a lk lr ld (mE s l r)->Q (.int s.kn.length) H')
theorem pQ(h:kJ (.tuple [.int (t:Nat),dv,du])=true):∃(l:Nat) (r:R),dv=.int (l:Nat)/\du=dR r/\t≤l/\l<24/\0<r.1/\iP r:=by
 have h':(jG 24 (.int (t:Nat))&&(jG 24 dv&&(Kd (.int (t:Nat)) dv&&cN du)))=true:=h;rw[OA,OA,OA] at h';obtain⟨_,h2,h3,h4⟩:=h';obtain⟨i,rfl,i0,i1⟩:=lU h2;obtain⟨l,rfl⟩:=PP i0;have h3':=of_decide_eq_true (show decide (((t:Nat):Int)≤(l:Nat))=true from h3);unfold cN at h4
 split at h4
 ·rename_i x y;rw[OA,OA,decide_eq_true_iff,decide_eq_true_iff,decide_eq_true_iff] at h4;exact⟨l,(x,y),Z,Z,by omega,by omega,h4.2,by show(0:Int)<y;omega,h4.1.2⟩
 ·cases h4
def br(rs:List R):List Nat:=(Og rs.length).filter λi=>decide (rs.getD i (0,1)≠(0,1))
def eU(kn:List Wk)(rs:List R)(t:Nat):List Wk:=(br rs).map λi=>(t,(kn.getD i bI).2.1,rs.getD i (0,1))
def jw(K:Of):Sp:=λvs H Q _=>∃(a b:Addr) (xs ys:List V) (kn:List Wk) (rs:List R) (t:Nat),vs=[.ref a,.ref b,.int (t:Nat)]/\ba K H a xs/\di (Bj K H) xs kn/\ba K H b ys/\di (RV K H) ys rs/\rs.length=kn.length/\rs.length≤20/\∀(p l:Addr) (u:V) (H':Hp),aD H H'->bu K H' p [u,.ref l]->gf K H' u (eU kn rs t)->H' l=some (.lst (bo (br rs)))->Q (.ref p) H'
def fj(ns:List Nat)(q:List Pc):List Pc:=q.map λc=>(ns.getD c.1 0,c.2)
def mL(K:Of):Sp:=λvs H Q _=>∃(u:V) (l:Addr) (q:List Pc) (ns:List Nat),vs=[u,.ref l]/\tP K H u q/\ba K H l (bo ns)/\(∀c∈q,c.1<ns.length)/\q.length≤64/\∀(v:V) (H':Hp),aD H H'->tP K H' v (fj ns q)->Q v H'
theorem sj{α:Type}{f:α->Rat}:∀{l:List α},(∀x∈l,0≤f x)->∀{x:α},x∈l->f x≤sQ f l
 |y::l,h,x,hx=>by
  show f x≤f y+sQ f l;have h0:=h y Oq;have hl:=nG (f:=f) (l:=l) λz hz=>h z (Ot _ hz)
  rcases Ov.mp hx with rfl|z
  ·grind
  ·have:=sj (λz hz=>h z (Ot _ hz)) z;grind
theorem oY(hk:k<(pl.getD t []).length):ck pl t k=(pl.getD t [])[k]:=aB _ (Oh hk)
theorem rF.mem(pr:rF ws es pl)(ht:t<24)(hc:c∈pl.getD t []):c.1<ws.length/\fJ c.2/\0<val c.2/\fV (ws.getD c.1 bI) t=true:=by
 obtain⟨k,hk,e⟩:=Pj.mp hc;have:=pr.pc t k ht hk;rw[oY hk,e] at this;exact this
theorem rF.nodup(pr:rF ws es pl)(ht:t<24):((pl.getD t []).map (·.1)).Nodup:=by
 unfold Po;rw[Wx,QC];intro i j hi hj hij;have:=pr.nd t i j ht hij hj;rw[oY hi,oY hj] at this;exact this
def Bu(pl:List (List Pc))(i u:Nat):Rat:=sQ (λc:Pc=>bW (decide (c.1=i)) (val c.2)) (pl.getD u [])
theorem rF.sum{ws:List Wk}{es:List Ln}{pl:List (List Pc)}(pr:rF ws es pl)(i:Nat):∀t,t≤24->0<(wY pl i t).2/\val (wY pl i t)=sQ (Bu pl i) (Og t)
 |0,_=>⟨by show(0:Int)<1;decide,by show val (0,1)=0;exact(fE (r:=(0,1)) (by decide)).mpr Z⟩
 |t+1,h=>by
  obtain⟨p,e⟩:=rF.sum pr i t (by omega);obtain⟨p2,e2⟩:=kG (pl:=pl) (t:=t) (i:=i) p (pl.getD t []).length λj hj=>(pr.pc t j (by omega) hj).2.1.bq.pos
  refine⟨p2,?_⟩;rw[PL,fe];show val (tj pl t i (wY pl i t) (pl.getD t []).length)=_+(Bu pl i t+0);rw[e2,e];unfold Bu;rw[i3 (0,(0,1)) (pl.getD t [])];unfold ck;grind
theorem rF.pt_nn(pr:rF ws es pl)(hu:u<24):0≤Bu pl i u:=nG λc hc=>fH _ (QP (pr.mem hu hc).2.2.1)
theorem rF.most(pr:rF ws es pl)(ht:t<24)(hc:c∈pl.getD t []):val c.2≤mK (ws.getD c.1 bI):=by
 have m:=pr.mem ht hc;have e:=(pr.sum c.1 24 (Oi _)).2;rw[pr.fin c.1 m.1] at e;unfold mK;rw[e];have h1:val c.2≤Bu pl c.1 t:=by
  have:=sj (f:=λx:Pc=>bW (decide (x.1=c.1)) (val x.2)) (λx hx=>fH _ (QP (pr.mem ht hx).2.2.1)) hc;rw[decide_eq_true Z,de] at this;exact this
 exact Rat.le_trans h1 (sj (λu hu=>pr.pt_nn (Ow.mp hu)) (Ow.mpr ht))
theorem rF.all(pr:rF ws es pl)(ok:∀w∈ws,bD w)(ht:t<24)(hi:i<ws.length)(h1:(ws.getD i bI).1=t)(h2:(ws.getD i bI).2.1=t):∃c∈pl.getD t [],c.1=i/\c.2=(ws.getD i bI).2.2:=by
 have wo:=ok _ (OW hi);have ew:ws.getD i bI=ws[i]:=aB bI (Oh hi);have e:=(pr.sum i 24 (Oi _)).2;rw[pr.fin i hi] at e;have z:∀u∈Og 24,Bu pl i u=if u=t then Bu pl i t else 0:=λu hu=>by
  by_cases c:u=t
  ·rw[if_pos c,c]
  ·rw[if_neg c];have:∀x∈pl.getD u [],bW (decide (x.1=i)) (val x.2)=0:=λx hx=>by
    have m:=pr.mem (Ow.mp hu) hx;by_cases d:x.1=i
    ·exfalso;have w:=m.2.2.2;rw[d] at w;unfold fV at w;rw[OA,decide_eq_true_iff,decide_eq_true_iff] at w;omega
    ·rw[decide_eq_false d,b9]
   unfold Bu;rw[aO (g:=λ_=>(0:Rat)) this];have:=dU (0:Rat) (f:=λ_:Pc=>(0:Rat)) (pl.getD u []);grind
 rw[aO z,yZ ht] at e;have pa:0<val (ws.getD i bI).2.2:=by rw[ew];exact tH wo
 rcases ut (q:=pl.getD t []) (i:=i) (f:=λp=>val p.2) (pr.nodup ht) with y | ⟨c,hc,ei,y⟩
 ·exfalso;unfold Bu at e;rw[y] at e;rw[e] at pa;exact absurd pa (by decide)
 ·refine⟨c,hc,ei,?_⟩;unfold Bu at e;rw[y] at e;exact gZ (pr.mem ht hc).2.1.red (by rw[ew];exact⟨by have:=wo.am.bot;omega,wo.am.wf.cop⟩) e.symm
def BD(D:Nat)(r:R):Prop:=iP r/\r.2∣(D:Int)
theorem BD.bq(h:BD D r):Bq D r.1.natAbs r:=⟨h.1.pos,h.1.cop,h.2,Ux _ (by have:=h.1.pos;omega)⟩
theorem uZ(h:Bq D N r):BD D r:=⟨h.red,h.dvd⟩
theorem BD.minus(hD:0<D)(a:BD D x)(b:BD D y):BD D (bG x y):=uZ (Bq.minus hD a.bq b.bq)
theorem BD.les(a:BD D x)(b:BD D y):BD D (eZ x y):=by
 unfold eZ
 split
 ·exact b
 ·exact a
theorem BD.zero(D:Nat):BD D (0,1):=⟨⟨by decide,by decide⟩,⟨(D:Int),by show(D:Int)=1*D;omega⟩⟩
theorem BD.mono(h:BD D r)(d:D∣D'):BD D' r:=⟨h.1,So h.2 (PZ.mpr d)⟩
structure DB(D:Nat)(st:tV):Prop where
 lf:∀r∈st.1,BD D r
 rm:BD D st.2.1
 pc:∀p∈st.2.2,BD D p.2
theorem uS{l:List R}(h:∀r∈l,BD D r)(i:Nat):BD D (l.getD i (0,1)):=by
 rw[Op]
 cases e:l[i]? with
 |none=>exact BD.zero D
 |some r=>exact h r (Os e)
theorem DB.step{D:Nat}{ws:List Wk}{t i:Nat}{st:tV}(hD:0<D)(h:DB D st):DB D (bT ws t st i):=by
 unfold bT
 split
 ·have a:=uS h.lf i;have la:=a.les h.rm;refine⟨λr hr=>?_,h.rm.minus hD la,λp hp=>?_⟩
  ·rcases Ri hr with z|z
   ·exact h.lf r z
   ·rw[z];exact a.minus hD la
  ·rcases OU.mp hp with z|z
   ·exact h.pc p z
   ·rw[Ox.mp z];exact la
 ·exact h
theorem DB.fold{D:Nat}{ws:List Wk}{t:Nat}(hD:0<D):∀{ord:List Nat} {st:tV},DB D st->DB D (ord.foldl (bT ws t) st)
 | [],st,h=>h
 |i::ord,st,h=>(h.step hD).fold hD (ord:=ord)
theorem uC{D:Nat}{ws:List Wk}{ord:List Nat}{ss:List R}(hD:0<D)(hw:∀w∈ws,BD D w.2.2)(hs:∀r∈ss,BD D r):∀t,(∀r∈(aU ws ord ss t).1,BD D r)/\∀q∈(aU ws ord ss t).2,∀x∈q,BD D x.2
 |0=>⟨λr hr=>by obtain⟨w,hw',rfl⟩:=OD.mp hr;exact hw w hw',λq hq=>by cases hq⟩
 |t+1=>by
  obtain⟨h1,h2⟩:=uC (ord:=ord) hD hw hs t;have d:=DB.fold (ws:=ws) (t:=t) (ord:=ord) (st:=((aU ws ord ss t).1,ss.getD t (0,1),[])) hD ⟨h1,uS hs t,λp hp=>by cases hp⟩;refine⟨d.lf,λq hq=>?_⟩;rcases OU.mp (show q∈(aU ws ord ss t).2++[_] from hq) with z|z
  ·exact h2 q z
  ·rw[Ox.mp z];exact d.pc
theorem Jp:∀m,m<25->0<m->m∣5354228880:=by decide
theorem EM(hd:0<d)(hw:∀w∈ws,Bq d 12 w.2.2)(lok:jP ws.length y):BD (d*5354228880) (dC ws y):=by
 have am:∀r∈gT ws y,Bq d 12 r:=λr hr=>by
  obtain⟨i,hi,rfl⟩:=OD.mp hr;have hl:=lok.num i hi;rw[aB bI (Oh hl)];exact hw _ (OW hl)
 have pos:=lok.pos;have few:=lok.few;have o:Bq y.1.length 1 ((1,(y.1.length:Int)):R):=⟨by show(0:Int)<_;omega,by simp,Wh _,by show(1:Int).natAbs≤1*((y.1.length:Int)).natAbs;omega⟩;exact(uZ ((oy hd am).times o)).mono (Ta _ (Jp _ (by omega) pos))
theorem xO{d:Nat}{ws:List Wk}(hd:0<d)(hw:∀w∈ws,Bq d 12 w.2.2):∀{lys:List Ly} {ss:List R},(∀y∈lys,jP ws.length y)->(∀r∈ss,BD (d*5354228880) r)->∀r∈lys.foldl (λss y=>ii (dC ws y) ss y.1) ss,BD (d*5354228880) r
 | [],ss,_,h=>h
 |y::lys,ss,hl,h=>by
  refine xO (lys:=lys) hd hw (λz hz=>hl z (Ot _ hz)) ?_;have sp:=EM hd hw (hl y Oq);have go:∀(ts:List Nat) (ss:List R),(∀r∈ss,BD (d*5354228880) r)->∀r∈ii (dC ws y) ss ts,BD (d*5354228880) r:=by
   intro ts
   induction ts with
   |nil=>intro ss h;exact h
   |cons t ts ih=>
    intro ss h;refine ih (ss.set t (dC ws y)) λr hr=>?_
    rcases Ri hr with z|z
    ·exact h r z
    ·rw[z];exact sp
  exact go y.1 ss h
theorem Do(hd:0<d)(hw:∀w∈ws,Bq d 12 w.2.2)(h:jr ws (Og 24) lys):∀q∈(dJ ws [] (aX ws lys)).2,∀x∈q,BD (d*5354228880) x.2:=by
 have ly:=o9 h (by rw[PF];exact Oi _) (λt ht=>Ow.mp ht);have sp:=xO (ss:=Ou 24 (0,1)) hd hw ly λr hr=>by rw[(List.mem_replicate.mp hr).2];exact BD.zero _
 exact(uC (ord:=aK ws [] ws.length) (ss:=aX ws lys) (Vl hd (by decide)) (λw hw'=>(uZ (hw w hw')).mono (Ua _ _)) sp 24).2
theorem BO(ok:∀w∈ws,bD w)(h:Bn ws ls p):0<val (dC ws (hV ws ls p)):=by
 have e:=ku ok (pH h);have lp:=gN (pH h);have l:=pf ok ls p;have q:(0:Rat)<((dj (ws.map (bz ls)) (gU (cj ws)) p:Int):Rat):=P5.mpr h.2;rw[l,←e] at q;generalize val (dC ws (hV ws ls p))=d at *;generalize (bO p:Rat)=l at *;by_cases z:d≤0
 ·exfalso;have:=QJ z (QP lp);grind
 ·exact UZ.mp z
theorem BU(ok:∀w∈ws,bD w)(h:jr ws ls lys)(hw:w∈ws)(iw:fV w u=true):u∈ls->0<kf ws lys u:=by
 induction h with
 |nil z=>
  intro hu;exact absurd (fY.mpr ⟨u,hu,iw⟩) (RB.mp z w hw)
 | @cons ls p r hp tl ih=>
  intro hu;rw[iY]
  cases c:(hV ws ls p).1.contains u with
  |true=>exact BO ok hp
  |false=>
   refine ih ?_;unfold dr;exact OL.mpr ⟨hu,by rw[show(dm ls p).contains u=false from c];rfl⟩
theorem wD(ok:∀w∈ws,bD w)(w20:ws.length≤20)(h:jr ws (Og 24) lys)(ht:t<24)(hw:w∈ws)(iw:fV w t=true):(dJ ws [] (aX ws lys)).2.getD t []≠[]:=by
 intro e;have lok:=o9 h (by rw[PF];exact Oi _) (λt ht=>Ow.mp ht);have z:=xg (es:=[]) ok (kx _) h (oB ok w20 lok) ht;have p:=BU ok h hw iw (Ow.mpr ht);have g:∀n,t<n->(aU ws (aK ws [] ws.length) (aX ws lys) n).2.getD t []=(dQ ws (aK ws [] ws.length) t (aU ws (aK ws [] ws.length) (aX ws lys) t).1 ((aX ws lys).getD t (0,1))).2.2:=by
  intro n
  induction n with
  |zero=>intro z;omega
  |succ n ih=>
   intro hn;have ln:=(fo (ord:=aK ws [] ws.length) (ss:=aX ws lys) ok (dB (es:=[]) (kx _) ws.length (Oi _)).lt (oB ok w20 lok) n).2;show((aU ws (aK ws [] ws.length) (aX ws lys) n).2++[_]).getD t []=_;by_cases c:t<n
   ·rw[Op,QB (by omega),←Op];exact ih c
   ·have:t=n:=by omega
    subst this;rw[Op,Qs (by omega),ln,U0];rfl
 rw[←g 24 ht] at z;unfold dJ at e;rw[e] at z;have z':(0:Rat)=kf ws lys t:=z;rw[←z'] at p;exact absurd p (by decide)
def DK(t:Nat):Nat:=84*5354228880^t
theorem Bp(t:Nat):0<DK t:=Vl (by decide) (WT (by decide))
theorem vi(t:Nat):DK (t+1)=DK t*5354228880:=by unfold DK;rw[Nat.pow_succ,VG]
theorem Br(h:t≤23):DK t∣4834023173650597876544881407704768017555162023798869768948261467874213139288822304401239266415271355416806678311752296500438875701050478901734985823099062742197929195130163826648664551259341770021719244800000000000000000000000:=by
 rw[show 4834023173650597876544881407704768017555162023798869768948261467874213139288822304401239266415271355416806678311752296500438875701050478901734985823099062742197929195130163826648664551259341770021719244800000000000000000000000=84*5354228880^23 by decide];exact Ta 84 (W2 _ h)
theorem vj(h:t≤24):DK t∣25882466482949286179863278649307923433294195500903155828261708777083304197655675043413266388030659964209410754393653789328972760953294720473500143200427572835208147172761078519773593353785008074840607407759949824000000000000000000000000:=by
 rw[show 25882466482949286179863278649307923433294195500903155828261708777083304197655675043413266388030659964209410754393653789328972760953294720473500143200427572835208147172761078519773593353785008074840607407759949824000000000000000000000000=84*5354228880^24 by decide];exact Ta 84 (W2 _ h)
structure pY(s:fB):Prop where
 t24:s.tn≤24
 len:s.rs.length=s.kn.length
 few:s.kn.length≤20
 dl:s.dn.length=s.tn
 kn:∀w∈s.kn,w.1<24/\w.2.1<24/\Bq 84 12 w.2.2/\0≤w.2.2.1
 am:∀r∈s.rs,Bq (DK s.tn) 12 r/\0≤r.1
 due:∀i,i<s.kn.length->s.rs.getD i (0,1)≠(0,1)->s.tn≤(s.kn.getD i bI).2.1
 pcs:∀q∈s.dn,q.length≤20/\∀c∈q,c.1<20/\fJ c.2
theorem uv(h:iP r)(nn:0≤r.1)(nz:r≠(0,1)):1≤r.1:=by
 by_cases z:r.1=0
 ·exfalso;apply nz;have g:=h.cop;have p:=h.pos;rw[z,Int.gcd_zero_left] at g;exact Vd z (by show r.2=1;omega)
 ·omega
theorem fG:i∈br rs↔i<rs.length/\rs.getD i (0,1)≠(0,1):=by
 unfold br;rw[OL,Ow,decide_eq_true_iff]
theorem CW(rs:List R):(br rs).Nodup:=QU _ SW
theorem ub(hj:j<(br rs).length):(eU kn rs t).getD j bI=(t,(kn.getD (br rs)[j] bI).2.1,rs.getD (br rs)[j] (0,1)):=aB bI (by unfold eU;rw[OB,Oh hj];rfl)
theorem qb(kn:List Wk)(rs:List R)(t:Nat):(eU kn rs t).length=(br rs).length:=Ol _
theorem uK(rs:List R):(br rs).length≤rs.length:=by
 unfold br;exact OS (Py _ _) (by rw[PF];exact Oi _)
theorem gP{l:List R}(hi:i<l.length):l.getD i (0,1)∈l:=by
 rw[aB (0,1) (Oh hi)];exact OW hi
theorem t9(o:pY s)(ht:s.tn<24):∀w∈eU s.kn s.rs s.tn,bD w/\w.1=s.tn/\Bq (DK s.tn) 12 w.2.2:=λw hw=>by
 obtain⟨i,hi,rfl⟩:=OD.mp hw;obtain⟨h1,h2⟩:=fG.mp hi;have a:=o.am _ (gP h1);have l:=o.due i (by rw[←o.len];exact h1) h2;have hk:i<s.kn.length:=by rw[←o.len];exact h1
 have k:=o.kn (s.kn.getD i bI) (by rw[aB bI (Oh hk)];exact OW hk);have b:=a.1.pos;have le:=a.1.le;refine⟨⟨l,k.2.1,uv a.1.red a.2 h2,?_,by show 1≤(s.rs.getD i (0,1)).2;omega,So a.1.dvd (PZ.mpr (Br (by omega))),(a.1.mono (Br (by omega)) (Oi _)).wf (by decide) (by decide) (by decide)⟩,Z,a.1⟩;show(s.rs.getD i (0,1)).1≤12*(s.rs.getD i (0,1)).2;have:=a.2;omega
def gy(rs:List R)(q:List Pc):List R:=q.foldl (λl c=>l.set c.1 (bG (l.getD c.1 (0,1)) c.2)) rs
theorem ko:∀(q:List Pc) (rs:List R),(gy rs q).length=rs.length
 | [],_=>rfl
 |c::q,rs=>by
  show(gy (rs.set c.1 _) q).length=_;rw[ko q,Qy]
theorem iV{i:Nat}:∀(q:List Pc) (rs:List R),i∉q.map (·.1)->(gy rs q).getD i (0,1)=rs.getD i (0,1)
 | [],_,_=>rfl
 |c::q,rs,h=>by
  rw[O1,Ov,not_or] at h;show(gy (rs.set c.1 _) q).getD i (0,1)=_;rw[iV q _ h.2,Op,PQ (λz=>h.1 z.symm),←Op]
theorem rQ{x:Pc}:∀(q:List Pc) (rs:List R),(q.map (·.1)).Nodup->x∈q->x.1<rs.length->(gy rs q).getD x.1 (0,1)=bG (rs.getD x.1 (0,1)) x.2
 |c::q,rs,nd,hx,hl=>by
  rw[O1,Pw] at nd;show(gy (rs.set c.1 _) q).getD x.1 (0,1)=_;rcases Ov.mp hx with rfl|z
  ·rw[iV q _ nd.1];exact aB _ (by rw[Q2 hl])
  ·have ne:c.1≠x.1:=λe=>nd.1 (by rw[e];exact OD.mpr ⟨x,z,Z⟩)
   rw[rQ q _ nd.2 z (by rw[Qy];exact hl)]
   congr 1
   rw[Op,PQ ne,←Op]
theorem Fv(nn:ns.Nodup)(hl:∀c∈q,c.1<ns.length)(nd:(q.map (·.1)).Nodup):((fj ns q).map (·.1)).Nodup:=by
 unfold fj;rw[Q4];unfold Po at nd ⊢;rw[Wx] at nd ⊢;refine nd.imp_of_mem λ{a b} ha hb ne e=>ne ?_
 have e':ns.getD a.1 0=ns.getD b.1 0:=e;rw[aB 0 (Oh (hl a ha)),aB 0 (Oh (hl b hb))] at e';exact(Uh nn).mp e'
theorem EJ(hD:0<D)(hx:Bq D 12 x)(nx:0≤x.1)(hc:BD D c)(le:val c≤val x)(nc:0≤val c):Bq D 12 (bG x c)/\0≤(bG x c).1:=by
 have b:=BD.minus hD (uZ hx) hc;have ev:val (bG x c)=val x-val c:=eG hx.pos hc.1.pos;have nn:0≤(bG x c).1:=(iB b.1.pos).mp (by rw[ev];grind);refine⟨⟨b.1.pos,b.1.cop,b.2,(pF b.1.pos nn).mpr ?_⟩,nn⟩;have:=(pF hx.pos nx).mp hx.le;rw[ev];grind
theorem sub_self(h:iP x):bG x x=(0,1):=by
 have b:=BD.minus (D:=x.2.natAbs) (by have:=h.pos;omega) (x:=x) (y:=x) ⟨h,by have:=h.pos;exact⟨1,by omega⟩⟩ ⟨h,by have:=h.pos;exact⟨1,by omega⟩⟩;refine gZ b.1 ⟨by decide,by decide⟩ ?_;rw[eG h.pos h.pos,(fE (r:=(0,1)) (by decide)).mpr Z];grind
def Ke(s:fB)(q:List Pc):fB:=⟨s.tn+1,s.kn,gy s.rs q,s.dn++[q]⟩
structure Le(s:fB)(q0:List Pc):Prop where
 ok:pY (Ke s (fj (br s.rs) q0))
 lt:∀c∈q0,c.1<(br s.rs).length
 nil:q0=[]↔∀r∈s.rs,r=(0,1)
 nd:((fj (br s.rs) q0).map (·.1)).Nodup
 pc:∀x∈fj (br s.rs) q0,x.1<s.rs.length/\fJ x.2
 few:q0.length≤20
theorem Jx(o:pY s)(ht:s.tn<24)(h:jr (eU s.kn s.rs s.tn) (Og 24) lys):Le s ((dJ (eU s.kn s.rs s.tn) [] (aX (eU s.kn s.rs s.tn) lys)).2.getD s.tn []):=by
 have wok:=t9 o ht;have ok:∀w∈eU s.kn s.rs s.tn,bD w:=λw hw=>(wok w hw).1
 have wl:=qb s.kn s.rs s.tn;have w20:(eU s.kn s.rs s.tn).length≤20:=by
  have:=uK s.rs;have:=o.len;have:=o.few;omega
 have pr:=mD ok w20 h;have bd:=Do (Bp s.tn) (λw hw=>(wok w hw).2.2) h;have some_:=λ(w:Wk) hw iw=>wD ok w20 h ht (w:=w) hw iw
 generalize (dJ (eU s.kn s.rs s.tn) [] (aX (eU s.kn s.rs s.tn) lys)).2=pl at pr bd some_ ⊢;have bq:∀c∈pl.getD s.tn [],BD (DK (s.tn+1)) c.2:=λc hc=>by
  rw[vi];refine bd (pl.getD s.tn []) ?_ c hc;rw[aB [] (Oh (show s.tn<pl.length by rw[pr.len];exact ht))];exact OW _
 have M:=λ(c:Pc) hc=>pr.mem (c:=c) ht hc
 have lt:∀c∈pl.getD s.tn [],c.1<(br s.rs).length:=λc hc=>by rw[←wl];exact(M c hc).1
 have mo:=λ(c:Pc) hc=>pr.most (c:=c) ht hc
 have al:=λ(i:Nat) hi h1 h2=>pr.all (i:=i) ok ht hi h1 h2
 have nq:=pr.nodup ht;have few:=pr.few s.tn;generalize pl.getD s.tn []=q0 at bq M lt mo al nq few some_ ⊢;have nr:=Fv (CW s.rs) lt nq;have num:∀c∈q0,(br s.rs).getD c.1 0∈br s.rs:=λc hc=>by
  rw[aB 0 (Oh (lt c hc))];exact OW _
 have am:∀c∈q0,val c.2≤val (s.rs.getD ((br s.rs).getD c.1 0) (0,1)):=λc hc=>by
  have:=mo c hc;unfold mK at this;rw[ub (lt c hc)] at this;rw[aB 0 (Oh (lt c hc))];exact this
 refine⟨⟨by show s.tn+1≤24;omega,(ko _ _).trans o.len,o.few,by show(s.dn++[_]).length=_;rw[OQ,o.dl];rfl,o.kn,?_,?_,?_⟩,lt,?_,nr,(λx hx=>by
  obtain⟨c,hc,rfl⟩:=OD.mp hx;exact⟨(fG.mp (num c hc)).1,(M c hc).2.1⟩),few⟩
 ·intro r hr;have hr':r∈gy s.rs (fj (br s.rs) q0):=hr;obtain⟨i,hi,rfl⟩:=Pj.mp hr';have hi':i<s.rs.length:=by rw[←ko (fj (br s.rs) q0)];exact hi
  have eg:(gy s.rs (fj (br s.rs) q0)).getD i (0,1)=(gy s.rs (fj (br s.rs) q0))[i]:=aB _ (Oh hi);show Bq (DK (s.tn+1)) 12 _/\_;rw[←eg];have a:=o.am _ (gP hi');have a1:=a.1.mono (show DK s.tn∣DK (s.tn+1) by rw[vi];exact Ua _ _) (Oi _);by_cases m:i∈(fj (br s.rs) q0).map (·.1)
  ·obtain⟨x,hx,rfl⟩:=OD.mp m;rw[rQ _ _ nr hx hi'];obtain⟨c,hc,rfl⟩:=OD.mp hx;exact EJ (Bp _) a1 a.2 (bq c hc) (am c hc) (QP (M c hc).2.2.1)
  ·rw[iV _ _ m];exact⟨a1,a.2⟩
 ·intro i hi nz;have hi':i<s.rs.length:=by rw[o.len];exact hi
  have nz':(gy s.rs (fj (br s.rs) q0)).getD i (0,1)≠(0,1):=nz;show s.tn+1≤(s.kn.getD i bI).2.1;have nz0:s.rs.getD i (0,1)≠(0,1):=λe=>by
   have m:i∉(fj (br s.rs) q0).map (·.1):=λm=>by
    obtain⟨x,hx,ei⟩:=OD.mp m;obtain⟨c,hc,rfl⟩:=OD.mp hx;exact(fG.mp (num c hc)).2 (by rw[show(br s.rs).getD c.1 0=i from ei];exact e)
   rw[iV _ _ m] at nz';exact nz' e
  have d:=o.due i hi nz0;by_cases c0:(s.kn.getD i bI).2.1=s.tn
  ·exfalso;obtain⟨j,hj,ej⟩:=Pj.mp (fG.mpr ⟨hi',nz0⟩);have wj:=ub (kn:=s.kn) (t:=s.tn) hj;obtain⟨c,hc,e1,e2⟩:=al j (by rw[wl];exact hj) (by rw[wj]) (by rw[wj,ej];exact c0);rw[wj] at e2;have ei:(br s.rs).getD c.1 0=i:=by rw[e1,aB 0 (Oh hj)];exact ej
   have z:=rQ (x:=((br s.rs).getD c.1 0,c.2)) (fj (br s.rs) q0) s.rs nr (OD.mpr ⟨c,hc,Z⟩) (by show(br s.rs).getD c.1 0<_;rw[ei];exact hi');have z':(gy s.rs (fj (br s.rs) q0)).getD ((br s.rs).getD c.1 0) (0,1)=bG (s.rs.getD ((br s.rs).getD c.1 0) (0,1)) c.2:=z;rw[ei,e2,ej] at z';rw[z'] at nz';exact nz' (sub_self (o.am _ (gP hi')).1.red)
  ·omega
 ·intro q hq;rcases OU.mp (show q∈s.dn++[fj (br s.rs) q0] from hq) with z|z
  ·exact o.pcs q z
  ·rw[Ox.mp z];refine⟨by unfold fj;rw[Ol];exact few,λx hx=>?_⟩;obtain⟨c,hc,rfl⟩:=OD.mp hx;have:=(fG.mp (num c hc)).1;have:=o.len;have:=o.few;exact⟨by show(br s.rs).getD c.1 0<20;omega,(M c hc).2.1⟩
 ·constructor
  ·intro e r hr;obtain⟨i,hi,rfl⟩:=Pj.mp hr;have eg:s.rs.getD i (0,1)=s.rs[i]:=aB _ (Oh hi);by_cases z:s.rs[i]=(0,1)
   ·exact z
   ·exfalso;have m:=fG.mpr ⟨hi,by rw[eg];exact z⟩;have mw:((s.tn,(s.kn.getD i bI).2.1,s.rs.getD i (0,1)):Wk)∈eU s.kn s.rs s.tn:=OD.mpr ⟨i,m,Z⟩;have w:=(ok _ mw).le;refine some_ _ mw ?_ e;unfold fV;rw[decide_eq_true (Oi _),decide_eq_true w];rfl
  ·intro all
   cases hq:q0 with
   |nil=>rfl
   |cons c r=>
    exfalso;have hc:c∈q0:=by rw[hq];exact Oq
    obtain⟨h1,h2⟩:=fG.mp (num c hc);exact h2 (all _ (gP h1))
def oI(K:Of)(C Ct:Addr):Sp:=λvs H Q E=>∃(a lk lr ld:Addr) (s:fB),vs=[.ref a]/\jZ K C H a lk lr ld s/\pY s/\(s.tn=24->∀d fs,H d=none->E (.ref Ct) (some d) (upd H d (dO d fs)))∧
 (s.tn<24->∀(q0:List Pc) (v:V) (H':Hp),Le s q0->rG a lk lr ld H H'->jZ K C H' a lk lr ld (Ke s (fj (br s.rs) q0))->tP K H' v (fj (br s.rs) q0)->Q v H')
theorem aV.steps{K:Of}{t:Addr}{H H':Hp}{xs:List V}(h:H t=some (.lst xs))(k:∀b o,b≠t->H b=some o->H' b=some o)(h':∃ys,H' t=some (.lst ys)):aV K H H':=aV.step ⟨k,⟨xs,h⟩,h'⟩
theorem xI(rs:List R)(q:List Pc)(c:Pc):gy rs (q++[c])=(gy rs q).set c.1 (bG ((gy rs q).getD c.1 (0,1)) c.2):=by
 unfold gy;rw[R9];rfl
theorem xp{q:List Pc}{c:Pc}(nd:(q.map (·.1)).Nodup)(hc:q[i]?=some c):c.1∉(q.take i).map (·.1):=λm=>by
 obtain⟨hi,ei⟩:=OH.mp hc;obtain⟨z,hz,ez⟩:=OD.mp m;obtain⟨j,hj,ej⟩:=Pj.mp hz;have hj':=hj;rw[PX] at hj';rw[T7] at ej;have e:(q.map (·.1))[j]'(by rw[Ol];omega)=(q.map (·.1))[i]'(by rw[Ol];exact hi):=by
  rw[SX,SX,ej,ei];exact ez
 have:=(Uh nd).mp e;omega
theorem mG{X:Cx}{K:Of}(hK:X.K=K):df X (.builtin "isinstance") (Ec K):=hK▸dM
theorem Cg(h:gl d=true):∃a b,d=.tuple [.int a,.int b]/\1≤b/\OG a b=1:=by
 unfold gl at h
 split at h
 ·rename_i a b;rw[OA,decide_eq_true_iff,decide_eq_true_iff] at h;exact⟨a,b,Z,h⟩
 ·cases h
theorem sx(h:∀a b:Int,d=.tuple [.int a,.int b]->¬(1≤b/\OG a b=1)):gl d=false:=by
 cases c:gl d with
 |false=>rfl
 |true=>
  obtain⟨a,b,e,z1,z2⟩:=Cg c;exact absurd ⟨z1,z2⟩ (h a b e)
theorem Aq(hb:0<b):dZ a b=(a,b)↔OG a b=1:=by
 constructor
 ·intro e;have:=(hU (a:=a) hb).cop;rw[e] at this;exact this
 ·exact λg=>eW hb hb g Z
theorem Db(h:(Rs [x,y]).canLay0=true):x.canLay0=true/\y.canLay0=true:=by
 have h':(x.canLay0&&(y.canLay0&&true))=true:=h;rw[OA,OA] at h';exact⟨h'.1,h'.2.1⟩
theorem Dj(h:(Rs [x,y]).depth≤n):x.depth+1≤n/\y.depth+1≤n:=by
 have h':WO x.depth (WO y.depth 0)+1≤n:=h;omega
theorem ET(h:i.natAbs<2^n)(hn:n≤1900):Sh 0 1921 (.int i):=by
 refine⟨?_,Z,Oi _,GS h hn⟩;show decide (i.natAbs.log2<1920)=true;refine decide_eq_true ?_;by_cases z:i.natAbs=0
 ·rw[z];decide
 ·exact OI ((Ve z).mpr h) (by omega)
theorem BZ(h:i≤100):Sh 0 1921 (.int (i:Nat)):=ET (n:=7) (by show((i:Nat):Int).natAbs<128;omega) (by decide)
theorem ES(h:Wf n r)(hn:n≤1900):Sh 1 3856 (dR r):=by
 refine Sh.tup (k:=0) (n:=1921) (m:=2) (λd hd=>?_) (Oi _) (by decide);simp only[Ov,OX,or_false] at hd;rcases hd with rfl|rfl
 ·exact ET h.top hn
 ·exact ET h.bot hn
def dL(s:fB):PyData:=.tuple [HQ s.dn,.tuple (s.rs.map dR),.int (s.tn:Nat),JD s.kn]
theorem IA(o:pY s):Bm (dL s):=by
 have t24:=o.t24;refine Sh.shows (k:=5) (n:=14840788) (Sh.tup (k:=4) (n:=3710192) (m:=4) (λe he=>?_) (Oi _) (by decide)) (by decide) (by decide);simp only[Ov,OX,or_false] at he;rcases he with rfl|rfl|rfl|rfl
 ·refine Sh.tup (k:=3) (n:=154588) (m:=24) (λd hd=>?_) (by rw[Ol,o.dl];exact t24) (by decide);obtain⟨q,hq,rfl⟩:=OD.mp hd;obtain⟨l20,pc⟩:=o.pcs q hq;refine Sh.tup (k:=2) (n:=7726) (m:=20) (λd hd=>?_) (by rw[Ol];exact l20) (by decide);obtain⟨c,hc,rfl⟩:=OD.mp hd;obtain⟨c20,ac⟩:=pc c hc;refine Sh.tup (k:=1) (n:=3856) (m:=2) (λd hd=>?_) (Oi _) (by decide);simp only[Ov,OX,or_false] at hd;rcases hd with rfl|rfl
  ·exact(BZ (by omega)).mono (by decide) (by decide)
  ·exact ES ac.wf (by decide)
 ·refine(Sh.tup (k:=1) (n:=3856) (m:=20) (N:=100000) (λd hd=>?_) (by rw[Ol,o.len];exact o.few) (by decide)).mono (by decide) (by decide);obtain⟨r,hr,rfl⟩:=OD.mp hd;exact ES (((o.am r hr).1.mono (vj o.t24) (Oi _)).wf (n:=800) (by decide) (by decide) (by decide)) (by decide)
 ·exact(BZ (by omega)).mono (by decide) (by decide)
 ·refine(Sh.tup (k:=2) (n:=12000) (m:=20) (N:=300000) (λd hd=>?_) (by rw[Ol];exact o.few) (by decide)).mono (by decide) (by decide);obtain⟨w,hw,rfl⟩:=OD.mp hd;obtain⟨w1,w2,wb,_⟩:=o.kn w hw;refine Sh.tup (k:=1) (n:=3856) (m:=3) (λd hd=>?_) (Oi _) (by decide);simp only[Ov,OX,or_false] at hd;rcases hd with rfl|rfl|rfl
  ·exact(BZ (by omega)).mono (by decide) (by decide)
  ·exact(BZ (by omega)).mono (by decide) (by decide)
  ·exact ES (wb.wf (n:=20) (by decide) (by decide) (by decide)) (by decide)
def mN(K:Of)(C:Addr):Sp:=λvs H Q _=>∃(a lk lr ld:Addr) (s:fB),vs=[.ref a]/\jZ K C H a lk lr ld s/\pY s/\∀H',aD H H'->Q (.str (dL s).shown) H'
def jy(K:Of):Sp:=λvs H Q _=>∃(v:V) (d:PyData),vs=[v]/\bh K H v d/\G3 d=true/\d.canLay0=true/\d.depth≤30/\∀H',aD H H'->Q (.bl (cN d)) H'
theorem rj(i j:Int):cN (.tuple [.int i,.int j])=(gl (.tuple [.int i,.int j])&&decide (0<i)):=Z
structure pV(K:Of)(H:Hp)(v u:V)(dv du:PyData):Prop where
 hv:bh K H v dv
 hu:bh K H u du
 ib:G3 du=true
 ly:du.canLay0=true
 dp:du.depth≤30
 am:cN du=true->∃r:R,du=dR r/\Bq 84 12 r
theorem pV.same{K:Of}{H H':Hp}{v u:V}{dv du:PyData}(h:pV K H v u dv du)(s:aD H H'):pV K H' v u dv du:=⟨h.hv.same s,h.hu.same s,h.ib,h.ly,h.dp,h.am⟩
def j7(K:Of):Sp:=λvs H Q _=>∃(s:fB) (v u:V) (dv du:PyData),vs=[.int (s.tn:Nat),.int (s.kn.length:Nat),v,u]/\pV K H v u dv du/\s.kn.length≤20/\s.tn≤24/\∀H',aD H H'->Q (.bl (cS s dv du)) H'
def qr(K:Of)(C:Addr):Sp:=λvs H Q _=>∃(a lk lr ld:Addr) (s:fB) (w:Int) (v u:V) (dv du:PyData),vs=[.ref a,.int w,v,u]/\jZ K C H a lk lr ld s/\pY s∧
 ((w=0/\pV K H v u dv du/\(cS s dv du=true->∀(l:Nat) (r:R) (H':Hp),dv=.int (l:Nat)->du=dR r->rG a lk lr ld H H'->jZ K C H' a lk lr ld (mE s l r)->Q (.int s.kn.length) H')/\(cS s dv du=false->∀(p:Addr) (H':Hp),aD H H'->H' p=some (.lst [.bl true,.bl false,.bl false])->Q (.ref p) H'))∨ (w=1/\s.tn=24/\∀(p:Addr) (H':Hp),aD H H'->H' p=some (.lst [.bl false,.bl true,.bl false])->Q (.ref p) H'))
theorem pP(h:∀i:Int,dv=.int i->¬((s.tn:Int)≤i/\i≤23)):cS s dv du=false:=by
 cases c:cS s dv du with
 |false=>rfl
 |true=>
  exfalso;unfold cS at c;rw[OA] at c;obtain⟨l,r,rfl,_,h1,h2,_⟩:=pQ c.1;exact h _ Z ⟨by omega,by omega⟩
theorem pR(h1:(s.tn:Int)≤i)(h2:i≤23):cS s (.int i) du=(cN du&&decide (s.kn.length<20)):=by
 unfold cS
 congr 1
 show((decide ((0:Int)≤(s.tn:Nat))&&decide (((s.tn:Nat):Int)<24))&&((decide (0≤i)&&decide (i<24))&&(decide (((s.tn:Nat):Int)≤i)&&cN du)))=cN du;rw[decide_eq_true (show(0:Int)≤(s.tn:Nat) by omega),decide_eq_true (show((s.tn:Nat):Int)<24 by omega),decide_eq_true (show 0≤i by omega),decide_eq_true (show i<24 by omega),decide_eq_true h1];rfl
theorem Dr(o:pY s)(c:cS s dv du=true)(e1:dv=.int (l:Nat))(e2:du=dR r)(am:Bq 84 12 r):pY (mE s l r):=by
 subst e1;subst e2;unfold cS at c;rw[OA,decide_eq_true_iff] at c;obtain⟨l',r',q1,q2,h1,h2,h3,h4⟩:=pQ c.1;have:l'=l:=by injection q1 with z;omega
 subst this;have er:r'=r:=by
  have z:Rs [.int r.1,.int r.2]=Rs [.int r'.1,.int r'.2]:=q2;injection z with z;injection z with z1 z;injection z with z2 _;injection z1 with z1;injection z2 with z2;exact(Vd z1 z2).symm
 subst er;have len:=o.len;have few:=o.few;refine⟨o.t24,?_,?_,o.dl,?_,?_,?_,o.pcs⟩
 ·show(s.rs++[r']).length=(s.kn++[(s.tn,l',r')]).length;rw[OQ,OQ,len];rfl
 ·show(s.kn++[(s.tn,l',r')]).length≤20;rw[OQ,R4];omega
 ·intro w hw;rcases OU.mp (show w∈s.kn++[(s.tn,l',r')] from hw) with z|z
  ·exact o.kn w z
  ·rw[Ox.mp z];exact⟨by show s.tn<24;omega,h2,am,by show 0≤r'.1;omega⟩
 ·intro x hx;rcases OU.mp (show x∈s.rs++[r'] from hx) with z|z
  ·exact o.am x z
  ·rw[Ox.mp z];exact⟨am.mono (by unfold DK;exact Ua _ _) (Oi _),by omega⟩
 ·intro i hi nz;have hi':i<(s.kn++[(s.tn,l',r')]).length:=hi;have nz':(s.rs++[r']).getD i (0,1)≠(0,1):=nz;show s.tn≤((s.kn++[(s.tn,l',r')]).getD i bI).2.1;rw[OQ,R4] at hi';by_cases c':i<s.kn.length
  ·rw[Op,QB c',←Op];rw[Op,QB (by omega),←Op] at nz';exact o.due i c' nz'
  ·have:i=s.kn.length:=by omega
   subst this;rw[Op,Qs (Oi _),U0];exact h1
theorem G7(a b:Int)(r:R):Pn (.tuple [.int a,.int b,dR r]) (.tuple [.int a,.int b,dR r])=true:=by
 show(Pn (.int a) (.int a)&&(Pn (.int b) (.int b)&&(Pn (dR r) (dR r)&&true)))=true;rw[mz,show Pn (.int a) (.int a)=true from decide_eq_true Z,show Pn (.int b) (.int b)=true from decide_eq_true Z];rfl
theorem Ds{K:Of}{H:Hp}{v u:V}{s:fB}{dv:PyData}{r:R}(A_:pV K H v u dv (dR r))(c:cS s dv (dR r)=true):Bq 84 12 r:=by
 unfold cS at c;rw[OA] at c;have w:(jG 24 (.int s.tn)&&(jG 24 dv&&(Kd (.int s.tn) dv&&cN (dR r))))=true:=c.1;rw[OA,OA,OA] at w;obtain⟨r',e,b⟩:=A_.am w.2.2.2;have z:Rs [.int r.1,.int r.2]=Rs [.int r'.1,.int r'.2]:=e;injection z with z;injection z with z1 z;injection z with z2 _;injection z1 with z1;injection z2 with z2;rw[show r=r' from Vd z1 z2];exact b
structure Oc(s s':fB):Prop where
 ok:pY s'
 tn:s'.tn=s.tn
 kn:s'.kn.length≤s.kn.length+1
 ext:∀r∈s.rs,r∈s'.rs
def oE(K:Of)(C:Addr):Sp:=λvs H Q _=>∃(a lk lr ld:Addr) (s:fB) (v u:V) (dv du:PyData),vs=[.ref a,v,u]/\jZ K C H a lk lr ld s/\pY s/\pV K H v u dv du/\dv.canLay0=true/\dv.depth≤28/\∀(s':fB) (H':Hp),rG a lk lr ld H H'->jZ K C H' a lk lr ld s'->pY s'->(cS s dv du=false->s'=s)->(cS s dv du=true->∃l r,dv=.int (l:Nat)/\du=dR r/\s'=mE s l r)->Q (.bl true) H'
structure JT(H0:Hp)(t l a lk lr ld:Addr):Prop where
 fa:H0 a=none
 fk:H0 lk=none
 fr:H0 lr=none
 fd:H0 ld=none
 ft:∃o,H0 t=some o
 fl:∃o,H0 l=some o
structure rB(K:Of)(C:Addr)(H0:Hp)(t l a lk lr ld:Addr)(H:Hp)(s:fB):Prop where
 k0:∀b o,b≠t->H0 b=some o->H b=some o
 tb:dN H t l
 kp:jZ K C H a lk lr ld s
 ok:pY s
theorem dN.keep(h:dN H t l)(h1:∀o,H t=some o->H' t=some o)(h2:∀o,H l=some o->H' l=some o):dN H' t l:=by
 obtain⟨ns,p,e,f,c⟩:=h.ex;exact⟨ns,p,h1 _ e,h2 _ f,c⟩
theorem rB.same{K:Of}{C:Addr}{H0:Hp}{t l a lk lr ld:Addr}{H H':Hp}{s:fB}(h:rB K C H0 t l a lk lr ld H s)(z:aD H H'):rB K C H0 t l a lk lr ld H' s:=⟨λb o n e=>z _ _ (h.k0 b o n e),h.tb.same z,h.kp.same z,h.ok⟩
theorem rB.kst{K:Of}{C:Addr}{H0:Hp}{t l a lk lr ld:Addr}{H H':Hp}{s s':fB}(h:rB K C H0 t l a lk lr ld H s)(F:JT H0 t l a lk lr ld)(z:rG a lk lr ld H H')(kp:jZ K C H' a lk lr ld s')(ok:pY s'):rB K C H0 t l a lk lr ld H' s':=by
 have g:∀b,(∃o,H0 b=some o)->∀o,H b=some o->H' b=some o:=λb ⟨o0,e0⟩ o e=>z b o (λq=>by rw[q,F.fa] at e0;cases e0) (λq=>by rw[q,F.fk] at e0;cases e0) (λq=>by rw[q,F.fr] at e0;cases e0) (λq=>by rw[q,F.fd] at e0;cases e0) e
 exact⟨λb o n e=>g b ⟨o,e⟩ o (h.k0 b o n e),h.tb.keep (g t F.ft) (g l F.fl),kp,ok⟩
theorem rB.tape{K:Of}{C:Addr}{H0:Hp}{t l a lk lr ld:Addr}{H:Hp}{s:fB}{xs:List V}(h:rB K C H0 t l a lk lr ld H s)(F:JT H0 t l a lk lr ld)(tb:dN (upd H t (.lst xs)) t l):rB K C H0 t l a lk lr ld (upd H t (.lst xs)) s:=by
 obtain⟨ys,et⟩:=h.tb.lst;obtain⟨o0,e0⟩:=F.ft;have T:=aV.up (K:=K) et xs;obtain⟨dx,i⟩:=h.kp.ins;obtain⟨x,k1,k2⟩:=h.kp.hk;obtain⟨y,r1,r2⟩:=h.kp.hr;obtain⟨u,d1,d2⟩:=h.kp.hd;have na:a≠t:=λq=>by rw[←q,F.fa] at e0;cases e0
 have nk:lk≠t:=λq=>by rw[←q,F.fk] at e0;cases e0
 have nr:lr≠t:=λq=>by rw[←q,F.fr] at e0;cases e0
 have nd:ld≠t:=λq=>by rw[←q,F.fd] at e0;cases e0
 exact⟨λb o n e=>by rw[ay n];exact h.k0 b o n e,tb,⟨⟨dx,by rw[ay na];exact i⟩,⟨x,by rw[ay nk];exact k1,k2.mono λ_ _ q=>q.mono T⟩,⟨y,by rw[ay nr];exact r1,r2.mono λ_ _ q=>q.mono T⟩,⟨u,by rw[ay nd];exact d1,d2.mono λ_ _ q=>q.mono T⟩,h.kp.n1,h.kp.n2,h.kp.n3⟩,h.ok⟩
theorem Ay:pY ⟨0,[],[],[]⟩:=⟨by decide,Z,by decide,Z,(λw h=>by cases h),(λr h=>by cases h),(λi h=>by cases h),(λq h=>by cases h)⟩
theorem C7(h1:1≤a)(h2:a≤12)(h3:1≤b)(h5:b∣84):Bq 84 12 (dZ a b):=uX (by omega) h5 (by
 have:12*1≤12*b.natAbs:=Rz _ (by omega);omega)
theorem DE(h:iP r)(p:0<r.1):cN (dR r)=true:=by
 show((decide (1≤r.2)&&decide (OG r.1 r.2=1))&&decide (0<r.1))=true;rw[decide_eq_true (show 1≤r.2 by have:=h.pos;omega),decide_eq_true h.cop,decide_eq_true p];rfl
theorem rg{K:Of}{H:Hp}{i:Int}{u:V}{r:R}(h:RV K H u r)(b:Bq 84 12 r):pV K H (.int i) u (.int i) (dR r):=by
 have w:=b.wf (n:=20) (by decide) (by decide) (by decide);refine⟨.int _,h.deep,?_,Z,by show WO 0 (WO 0 0)+1≤30;decide,λ_=>⟨r,Z,b⟩⟩;show(decide (r.1.natAbs<2^230)&&(decide (r.2.natAbs<2^230)&&true))=true;rw[decide_eq_true (OI w.top (P4 (by decide) (by decide))),decide_eq_true (OI w.bot (P4 (by decide) (by decide)))];rfl
def mO(_:Of):Sp:=λvs H Q _=>∃(t l:Addr),vs=[.ref t]/\dN H t l/\∀H',dP t H H'->dN H' t l->Q (.bl true) H'
theorem jL(h:upd (upd H dx o1) a o2 b=none)(ha:H a=none)(hd:H dx=none):H b=none:=by
 cases e:H b with
 |none=>rfl
 |some o=>
  exfalso;rw[ay (λz=>by rw[z,ha] at e;cases e),ay (λz=>by rw[z,hd] at e;cases e),e] at h
  cases h
theorem u4{K:Of}{C:Addr}{H H1:Hp}{t l a dx lk lr ld:Addr}{o1 o2:HO}(tb:dN H t l)(ha:H a=none)(hd:H dx=none)(f1:∀b o,b≠a->upd (upd H dx o1) a o2 b=some o->H1 b=some o)(nk:upd (upd H dx o1) a o2 lk=none)(nr:upd (upd H dx o1) a o2 lr=none)(nd:upd (upd H dx o1) a o2 ld=none)(kp:jZ K C H1 a lk lr ld ⟨0,[],[],[]⟩):JT H t l a lk lr ld/\rB K C H t l a lk lr ld H1 ⟨0,[],[],[]⟩:=by
 have g:∀b o,H b=some o->H1 b=some o:=λb o e=>by
  have n1:b≠a:=λz=>by rw[z,ha] at e;cases e
  have n2:b≠dx:=λz=>by rw[z,hd] at e;cases e
  exact f1 b o n1 (by rw[ay n1,ay n2];exact e)
 obtain⟨x,ex⟩:=tb.lst;obtain⟨y,ey⟩:=tb.lst';exact⟨⟨ha,jL nk ha hd,jL nr ha hd,jL nd ha hd,⟨_,ex⟩,⟨_,ey⟩⟩,⟨λb o _ e=>g b o e,tb.keep (g t) (g l),kp,Ay⟩⟩
theorem sU(q:List Pc):(He q).canLay0=true:=nM λd hd=>by
 obtain⟨c,_,rfl⟩:=OD.mp hd;rfl
theorem tw(q:List Pc):(He q).depth≤32:=OS (show(He q).depth≤3 from vq λc _=>wF c) (by decide)
theorem AV(h:q≠[]):Pn (He q) (.tuple [])=false:=by
 cases q with
 |nil=>exact absurd Z h
 |cons c q=>rfl
theorem Ce(h:q≠[]):fj ns q≠[]:=λe=>h (List.map_eq_nil_iff.mp e)
theorem uQ(G:Le s q0)(h:∃r∈s.rs,r≠(0,1)):fj (br s.rs) q0≠[]:=Ce λe=>by
 obtain⟨r,hr,nz⟩:=h;exact nz (G.nil.mp e r hr)
theorem Hf(h:dR r=dR q):r=q:=by
 have z:Rs [.int r.1,.int r.2]=Rs [.int q.1,.int q.2]:=h;injection z with z;injection z with z1 z;injection z with z2 _;injection z1 with z1;injection z2 with z2;exact Vd z1 z2
def fK(S:List Addr)(H:Hp):Hp:=λb=>if b∈S then none else H b
theorem AF:aD (fK S H) H:=λb o e=>by
 unfold fK at e;by_cases c:b∈S
 ·rw[if_pos c] at e;cases e
 ·rw[if_neg c] at e;exact e
theorem eO(h:b∈S):fK S H b=none:=if_pos h
theorem fz(h:b∉S):fK S H b=H b:=if_neg h
theorem cY(hS:∀b∈S,∃o,Hk b=some o)(s:aD Hk Hc)(hp:Hc p=none)(hm:Hm p=some o):fK S Hm p=some o:=by
 rw[fz λz=>by obtain⟨o',e⟩:=hS p z;rw[s _ _ e] at hp;cases hp];exact hm
structure KB(K:Of)(C:Addr)(HD:Hp)(a lk lr ld:Addr)(H:Hp)(s:fB):Prop where
 sm:aD HD H
 kp:jZ K C H a lk lr ld s
 ok:pY s
structure FD(HD:Hp)(a lk lr ld:Addr):Prop where
 fa:HD a=none
 fk:HD lk=none
 fr:HD lr=none
 fd:HD ld=none
theorem KB.same{K:Of}{C:Addr}{HD H H':Hp}{a lk lr ld:Addr}{s:fB}(h:KB K C HD a lk lr ld H s)(z:aD H H'):KB K C HD a lk lr ld H' s:=⟨h.sm.trans z,h.kp.same z,h.ok⟩
theorem KB.kst{K:Of}{C:Addr}{HD H H':Hp}{a lk lr ld:Addr}{s s':fB}(h:KB K C HD a lk lr ld H s)(F:FD HD a lk lr ld)(z:rG a lk lr ld H H')(kp:jZ K C H' a lk lr ld s')(ok:pY s'):KB K C HD a lk lr ld H' s':=
 ⟨λb o e=>z b o (λq=>by rw[q,F.fa] at e;cases e) (λq=>by rw[q,F.fk] at e;cases e) (λq=>by rw[q,F.fr] at e;cases e) (λq=>by rw[q,F.fd] at e;cases e) (h.sm b o e),kp,ok⟩
theorem jZ.all{K:Of}{C:Addr}{H:Hp}{a lk lr ld:Addr}{s:fB}(h:jZ K C H a lk lr ld s):∀b∈[a,lk,lr,ld],∃o,H b=some o:=by
 obtain⟨dx,i⟩:=h.ins;obtain⟨x,k1,_⟩:=h.hk;obtain⟨y,r1,_⟩:=h.hr;obtain⟨u,d1,_⟩:=h.hd;intro b hb;simp only[Ov,OX,or_false] at hb;rcases hb with rfl|rfl|rfl|rfl
 ·exact⟨_,i⟩
 ·exact⟨_,k1⟩
 ·exact⟨_,r1⟩
 ·exact⟨_,d1⟩
theorem KB.into{K:Of}{C:Addr}{HD H H4 H5:Hp}{a lk lr ld t l:Addr}{s:fB}(h:KB K C HD a lk lr ld H s)(s4:aD H H4)(hl:H l=none)(ht:H4 t=none)(s5:aD H4 H5)(tb:dN H5 t l):JT (fK [a,lk,lr,ld] H5) t l a lk lr ld/\rB K C (fK [a,lk,lr,ld] H5) t l a lk lr ld H5 s:=by
 have al:=h.kp.all;obtain⟨x,ex⟩:=tb.lst;obtain⟨y,ey⟩:=tb.lst';have nt:t∉[a,lk,lr,ld]:=λz=>by obtain⟨o,e⟩:=al t z;rw[s4 _ _ e] at ht;cases ht
 have nl:l∉[a,lk,lr,ld]:=λz=>by obtain⟨o,e⟩:=al l z;rw[e] at hl;cases hl
 exact⟨⟨eO (by simp),eO (by simp),eO (by simp),eO (by simp),⟨_,by rw[fz nt];exact ex⟩,⟨_,by rw[fz nl];exact ey⟩⟩,⟨λb o _ e=>AF b o e,tb,(h.same (s4.trans s5)).kp,h.ok⟩⟩
theorem KB.back{K:Of}{C:Addr}{HD H H4 H5 H':Hp}{a lk lr ld t l:Addr}{s s':fB}(h:KB K C HD a lk lr ld H s)(F:FD HD a lk lr ld)(s4:aD H H4)(ht:H4 t=none)(s5:aD H4 H5)(B:rB K C (fK [a,lk,lr,ld] H5) t l a lk lr ld H' s'):KB K C HD a lk lr ld H' s':=by
 refine⟨λb o e=>?_,B.kp,B.ok⟩;have e4:=s4 _ _ (h.sm _ _ e);refine B.k0 b o (λz=>by rw[z,ht] at e4;cases e4) ?_;rw[fz λz=>?_]
 ·exact s5 _ _ e4
 simp only[Ov,OX,or_false] at z;rcases z with rfl|rfl|rfl|rfl
 ·rw[F.fa] at e;cases e
 ·rw[F.fk] at e;cases e
 ·rw[F.fr] at e;cases e
 ·rw[F.fd] at e;cases e
def HX(K:Of)(H:Hp)(v:V):Prop:=∃d,bh K H v d/\d.canLay0=true/\d.depth≤28
def HY(K:Of)(H:Hp)(u:V):Prop:=∃d,bh K H u d/\G3 d=true/\d.canLay0=true/\d.depth≤28/\(cN d=true->∃r:R,d=dR r/\Bq 84 12 r)
theorem JE{K:Of}{H:Hp}{v u:V}(h:HX K H v)(g:HY K H u):∃dv du,pV K H v u dv du/\dv.canLay0=true/\dv.depth≤28:=by
 obtain⟨dv,h1,h2,h3⟩:=h;obtain⟨du,g1,g2,g3,g4,g5⟩:=g;exact⟨dv,du,⟨h1,g1,g2,g3,by omega,g5⟩,h2,h3⟩
theorem HX.same{K:Of}{H H':Hp}{v:V}(h:HX K H v)(s:aD H H'):HX K H' v:=let ⟨d,a,b⟩:=h;⟨d,a.same s,b⟩
theorem HY.same{K:Of}{H H':Hp}{v:V}(h:HY K H v)(s:aD H H'):HY K H' v:=let ⟨d,a,b⟩:=h;⟨d,a.same s,b⟩
theorem AY(o:pY s)(h:s.tn=24):∀r∈s.rs,r=(0,1):=λr hr=>by
 obtain⟨i,hi,rfl⟩:=Pj.mp hr;have eg:s.rs.getD i (0,1)=s.rs[i]:=aB _ (Oh hi);by_cases z:s.rs[i]=(0,1)
 ·exact z
 ·exfalso;have hk:i<s.kn.length:=by rw[←o.len];exact hi
  have d:=o.due i hk (by rw[eg];exact z);have k:=(o.kn (s.kn.getD i bI) (by rw[aB bI (Oh hk)];exact OW hk)).2.1;omega
def oF(K:Of):Sp:=λvs H Q _=>∃(a:Addr) (ns:List Int),vs=[.ref a]/\ba K H a (ns.map V.int)/\ns.length≤63/\∀H',Q (.bl true) H'
theorem E5:aF ["thing"] ["thing"] (az yz):=eJ
theorem Ff:aF ["thing","length"] ["thing","length"] (az yV):=eJ
theorem ID:aF ["thing","count"] ["thing","count"] (az Fk):=eJ
theorem nw:aF ["one","other","high","low","rest"] ["one","other"] (az Fr):=eJ
theorem si:aF ["thing","top","bottom"] ["thing"] (az yy):=eJ
theorem IG:aF ["thing"] ["thing"] (az Fq):=eJ
theorem rZ:aF ["top","bottom","shared"] ["top","bottom"] (az yg):=eJ
theorem oK:aF ["one","other","shared","top","rest"] ["one","other"] (az yb):=eJ
theorem EW:aF ["one","other"] ["one","other"] (az yf):=eJ
theorem rY:aF ["one","other","left","right"] ["one","other"] (az ye):=eJ
theorem EV:aF ["one","other"] ["one","other"] (az ya):=eJ
theorem E1:aF ["one","other"] ["one","other"] (az yk):=eJ
theorem EZ:aF ["one","other"] ["one","other"] (az yi):=eJ
theorem iI:aF ["some","tops","one","so_far","bottom","top"] ["some"] (az yd):=eJ
theorem oN:aF ["some","bottom","one"] ["some"] (az yU):=eJ
theorem r9:aF ["thing","first","last"] ["thing"] (az yj):=eJ
theorem E6:aF ["work","turn"] ["work","turn"] (az yI):=eJ
theorem Fe:aF ["count"] ["count"] (az yT):=eJ
theorem E4:aF ["leanings","lean","ahead","behind","numbers","bases","leaners","leaner","base"] ["leanings","lean"] (az yx):=eJ
theorem xV:aF ["count","leans","leanings","lean"] ["count","leans"] (az Fj):=eJ
theorem fR:aF ["sheet","works","leanings","drawn","number","work","firsts","lasts","first","last"] ["sheet"] (az yu):=eJ
theorem uo:aF ["works","left","windows","work","places"] ["works","left"] (az Fi):=eJ
theorem EU:aF ["windows","begin","end"] ["windows","begin","end"] (az xZ):=eJ
theorem gG:aF ["windows","amounts","count","best","best_load","best_length","begin","end","load","length"] ["windows","amounts","count"] (az Fp):=eJ
theorem sg:aF ["works","left","windows","places"] ["works","left"] (az yr):=eJ
theorem iJ:aF ["works","told","left","waiting","layer"] ["works"] (az yh):=eJ
theorem IF:aF ["works","layer"] ["works","layer"] (az Fo):=eJ
theorem lF:aF ["works","speeds","layer","speed","turn"] ["works"] (az yY):=eJ
theorem uq:aF ["works","leanings","waiting","earliest","like","free"] ["works","leanings","waiting"] (az Fn):=eJ
theorem lA:aF ["works","leans","leanings","waiting","order","number"] ["works","leans"] (az yq):=eJ
theorem jA:aF ["works","order","left","turn","speed","pieces","room","number","amount"] ["works","order","left","turn","speed"] (az yH):=eJ
theorem iH:aF ["works","leans","speeds","order","left","plan","turn","number","amount"] ["works","leans","speeds"] (az yc):=eJ
theorem xW:aF ["sheet","works"] ["sheet"] (az yN):=eJ
theorem DX:aF ["works","amounts","turn","numbers"] ["works","amounts","turn"] (az Fm):=eJ
theorem E9:aF ["pieces","numbers"] ["pieces","numbers"] (az yM):=eJ
theorem Fd:aF ["_law_script","_law_k"] ["_law_script","_law_k"] (az yS):=eJ
theorem gF:aF ["_law_cell","_law_many","_law_found","_law_number","_law_mixed","_law_k"] ["_law_cell","_law_many"] (az yG):=eJ
theorem E3:aF ["_law_tape","_law_many"] ["_law_tape","_law_many"] (az yo):=eJ
theorem se:aF ["_law_top","_law_bottom","_law_one","_law_other"] ["_law_top","_law_bottom"] (az yn):=eJ
theorem IE:aF ["_law_thing"] ["_law_thing"] (az Fl):=eJ
theorem Fh:aF ["_law_turn","_law_many","_law_last","_law_amount"] ["_law_turn","_law_many","_law_last","_law_amount"] (az yX):=eJ
theorem sd:aF ["_law_keeper","_law_way","_law_last","_law_amount","e","_law_kinds"] ["_law_keeper","_law_way","_law_last","_law_amount"] (az ym):=eJ
theorem E8:aF ["_law_keeper"] ["_law_keeper"] (az yL):=eJ
theorem lD:aF ["_law_keeper","_law_last","_law_amount","_law_before","_law_right","_law_many","_law_found"] ["_law_keeper","_law_last","_law_amount"] (az yE):=eJ
theorem lE:aF ["_law_tape","_law_keeper","_law_turn","_law_number","_law_amount"] ["_law_tape"] (az yK):=eJ
theorem eI:aF ["_law_script","_law_fresh","_law_tape","_law_keeper","_law_lasts","_law_amounts","_law_turn","_law_k","_law_here","_law_last","_law_amount","_law_before"] ["_law_script"] (az xY):=eJ
theorem Fc:aF ["self"] ["self"] (az yR):=eJ
theorem xX:aF ["self","last","amount","work"] ["self","last","amount"] (az yQ):=eJ
theorem oM:aF ["self","waiting","pieces","piece"] ["self"] (az yB):=eJ
theorem E7:aF ["self"] ["self"] (az yJ):=eJ
theorem Fg:aF ["self"] ["self"] (az yW):=eJ
theorem Fb:aF ["self"] ["self"] (az yP):=eJ
theorem Fa:aF ["self"] ["self"] (az yO):=eJ
theorem EY:aF ["self","text"] ["self","text"] (az nE):=eJ
theorem EX:aF ["self","text"] ["self","text"] (az nA):=eJ
end My
namespace My
open PySem L2 B PyProof.Rows
section
variable {P:O0}{w:Pk}{K:Of}{mg:OV->Option Value}{base:Oy}{t:Ad}
theorem Ag(T:ef K mg t):bv P w K mg base dF 1 t.a_Q46 t.d_Q46 ["self","text"] (vB K t.c_Q46):=by
 refine T.F_Q46.ok EY (λvs H Q E h=>?_) (λcdv A outer s H vs Q E hr h=>?_)
 ·obtain⟨_,_,rfl,_⟩:=h;rfl
 obtain⟨a,v,rfl,ha,k⟩:=h;refine dk.ok (au (uy Z (qv 0) (qv 1) Z)) ?_;nofun
 exact⟨_,Z,_,Z,a,_,_,Z,T.X_Q46.cl,T.n_Q46_text,.inl ⟨ha,k⟩⟩
theorem Gi(T:ef K mg t):bv P w K mg base dF 1 t.a_Q47 t.d_Q47 ["self","text"] (vD K t.c_Q47):=by
 refine T.F_Q47.ok EX (λvs H Q E h=>?_) (λcdv A outer s H vs Q E hr h=>?_)
 ·obtain⟨_,_,rfl,_⟩:=h;rfl
 obtain⟨a,v,rfl,ha,k⟩:=h;refine dk.ok (au (uy Z (qv 0) (qv 1) Z)) ?_;nofun
 exact⟨_,Z,_,Z,a,_,_,Z,T.X_Q47.cl,T.n_Q47_text,.inl ⟨ha,k⟩⟩
theorem sM(T:ef K mg t):bv P w K mg base dF 1 t.a_Q32 t.d_Q32 ["thing"] (qw K):=by
 refine T.F_Q32.ok E5 (λvs H Q E h=>?_) (λcdv A outer s H vs Q E hr h=>?_)
 ·obtain⟨_,_,rfl,_⟩:=h;rfl
 obtain⟨v,d,rfl,hD,k⟩:=h;obtain⟨b,c,e1,e2,e3⟩:=kB hD;refine dk.ok (au (aG (eK (aI dM (by rfl) T.z_isinstance PM (ae (qv 0) (ae (eT (v:=V.ty "int") Z T.z_int boot_int Z) ai af) af)) (fS (zo (aI dM (by rfl) T.z_isinstance PM (ae (qv 0) (ae (eT (v:=V.ty "bool") Z T.z_bool XD Z) ai af) af))))))) ?_;nofun
 rw[e3] at k;refine⟨_,Z,_,_,_,_,Z,hD,e1,_,Z,?_⟩
 cases b with
 |false=>exact k
 |true=>exact⟨_,Z,_,_,_,_,Z,hD,e2,_,Z,k⟩
theorem An(T:ef K mg t):bv P w K mg base dF 1 t.a_Q13 t.d_Q13 ["thing","length"] (k4 K):=by
 refine T.F_Q13.ok Ff (λvs H Q E h=>?_) (λcdv A outer s H vs Q E hr h=>?_)
 ·obtain⟨_,_,_,rfl,_⟩:=h;rfl
 obtain⟨v,d,m,rfl,hD,k⟩:=h;refine dk.ok (au (aG (eK (aI dM (by rfl) T.z_isinstance PM (ae (qv 0) (ae (eT (v:=V.ty "tuple") Z T.z_tuple Qt Z) ai af) af)) (fS (cE f7 (aI aS (by rfl) T.z_len Qu (ae (qv 0) ai af)) (qv 1) (aQ _)))))) ?_;nofun
 rcases uO hD with⟨e,p,xs,ds,rfl,rfl,hS,hA⟩ | ⟨e,no⟩
 ·refine⟨_,Z,_,_,_,_,Z,hD,e,_,Z,?_⟩;refine⟨_,Z,p,_,Z,.inr hS,_,Z,Z,?_⟩;have q:decide ((V.int xs.length:V)=.int m)=oq m (.tuple ds):=by
   show _=decide (ds.length=m);rw[hA.len];refine decide_eq_decide.mpr ⟨λz=>by injection z with z;omega,λz=>by rw[z]⟩
  rw[q];exact k
 ·refine⟨_,Z,_,_,_,_,Z,hD,e,_,Z,?_⟩;rw[BI no] at k;exact k
theorem Eg(T:ef K mg t):bv P w K mg base dF 2 t.a_Q7 t.d_Q7 ["thing","count"] (j9 K):=by
 refine T.F_Q7.ok ID (λvs H Q E h=>?_) (λcdv A outer s H vs Q E hr h=>?_)
 ·obtain⟨_,_,_,rfl,_⟩:=h;rfl
 obtain⟨v,d,m,rfl,hD,k⟩:=h;refine dk.ok (au (aG (eK (cH (sM T) hr T.m_Q32 T.F_Q32.kp T.b_Q32 (ae (qv 0) ai af)) (fS (qG jR lP aj (qv 0) (qv 1)))))) ?_;nofun
 refine⟨_,Z,v,d,Z,hD,?_⟩
 cases c:bR d with
 |false=>
  rw[CY c] at k;exact⟨_,Z,k⟩
 |true=>
  obtain⟨i,rfl⟩:=em c
  cases hD
  have kk:Q (.bl (decide (0≤i)&&decide (i<m))) H:=k;refine⟨_,Z,?_⟩;refine⟨_,Z,_,_,Z,Z,_,Z,?_⟩;by_cases c1:0≤i
  ·refine cI c1 ?_;rw[decide_eq_true c1,Rv] at kk;exact⟨_,Z,_,_,Z,Z,kk⟩
  ·refine cv c1 ?_;rw[decide_eq_false c1,Ra] at kk;exact kk
theorem lT(T:ef K mg t):bv P w K mg base dF 1 t.a_Q0 t.d_Q0 ["one","other"] (ig K):=by
 refine T.F_Q0.ok nw (λvs H Q E h=>?_) (λcdv A outer s H vs Q E hr h=>?_)
 ·obtain⟨_,_,rfl,_⟩:=h;rfl
 obtain⟨a,b,rfl,k⟩:=h;refine dk.ok (ah (cC 2 nw.nd (aI mH (by rfl) T.z_abs boot_abs (ae (qv 0) ai af))) (ah (cC 3 nw.nd (aI mH (by rfl) T.z_abs boot_abs (ae (qv 1) ai af))) (ah (gJ OZ (aT qJ (qv 3) aj (aQ _)) (ah (cC 4 nw.nd (aP gK (qv 2) (qv 3))) (ah (cC 2 nw.nd (qv 3)) (au (cC 3 nw.nd (qv 4)))))) (au (aG (qv 2)))))) ?_
 nofun
 refine⟨_,Z,_,Z,_,Z,_,Z,?_⟩;rw[tM,tM];refine⟨λm σ H'=>∃(x y:Int) (v:Option V),σ=[some (.int a),some (.int b),some (.int x),some (.int y),v]/\H'=H/\0≤x/\0≤y/\OG x y=OG a b/\m=y.toNat,⟨_,_,_,_,Z,Z,by omega,by omega,(by simp[OG]),Z⟩,?_⟩;rintro m σ H' ⟨x,y,v,rfl,rfl,hx,hy,hg,rfl⟩;refine⟨_,Z,Z,_,Z,?_⟩;by_cases c:y=0
 ·subst c;refine qP Z ?_;rw[←hg] at k;refine⟨_,Z,?_⟩;have e:(x:Int)=(OG x 0:Nat):=by simp[OG];omega
  rw[←e] at k;exact k
 ·refine Ej (λz=>c (by injection z)) ?_;refine⟨_,λ_ _ z=>z,?_⟩;refine⟨_,Z,_,Z,_,_,Z,Z,(by omega),_,Z,_,Z,?_⟩;refine⟨_,?_,y,x%y,_,Z,Z,hy,Qz _ c,?_,Z⟩
  ·have:=QL x (show 0<y by omega);have:=Qz x c;omega
  ·rw[qR hx (by omega),hg]
theorem Gs(T:ef K mg t):bv P w K mg base dF 2 t.a_Q33 t.d_Q33 ["thing"] (qx K):=by
 refine T.F_Q33.ok si (λvs H Q E h=>?_) (λcdv A outer s H vs Q E hr h=>?_)
 ·obtain⟨_,_,rfl,_⟩:=h;rfl
 obtain⟨v,d,rfl,hD,k⟩:=h;refine dk.ok (ah (bZ (cJ (bM (cH (An T) hr T.m_Q13 T.F_Q13.kp T.b_Q13 (ae (qv 0) (ae aj ai ax) af)))) (au (aG cG)) bt) (ah (cC 1 si.nd (cP aJ (qv 0) aj)) (ah (cC 2 si.nd (cP aJ (qv 0) aj)) (ah (bZ (iu (gu (cJ (bM (cH (sM T) hr T.m_Q32 T.F_Q32.kp T.b_Q32 (ae (qv 1) ai af)))) (gu (cJ (bM (cH (sM T) hr T.m_Q32 T.F_Q32.kp T.b_Q32 (ae (qv 2) ai af)))) (gI (aT lP (qv 2) aj (aQ _)))))) (au (aG cG)) bt) (au (aG (cE f7 (cH (lT T) hr T.m_Q0 T.F_Q0.kp T.b_Q0 (ae (qv 1) (ae (qv 2) ai af) af)) aj (aQ _)))))))) ?_
 nofun
 refine⟨_,Z,v,d,2,Z,hD,⟨_,Z,?_⟩⟩
 cases c2:oq 2 d with
 |false=>
  refine cR ?_;rw[Ch c2] at k;exact k
 |true=>
  refine cV ?_;obtain⟨p,x,y,dx,dy,rfl,rfl,hS,hx,hy⟩:=hD.two c2;refine⟨_,Z,p,_,_,_,Z,Z,hS,Z,_,Z,p,_,_,_,Z,Z,hS,Z,?_⟩;refine⟨_,Z,x,dx,Z,hx,_,Z,?_⟩
  cases cx:bR dx with
  |false=>
   refine cR (cR ?_);rw[zb cx] at k;exact k
  |true=>
   refine cV ?_;refine⟨_,Z,y,dy,Z,hy,_,Z,?_⟩
   cases cy:bR dy with
   |false=>
    refine cR (cR ?_);rw[Eb cy] at k;exact k
   |true=>
    refine cV ?_;obtain⟨i,rfl⟩:=em cx;obtain⟨j,rfl⟩:=em cy
    cases hx
    cases hy
    have kk:Q (.bl (decide (1≤j)&&decide (OG i j=1))) H:=k;refine⟨_,Z,_,_,Z,Z,_,Z,?_⟩;by_cases c:j<1
    ·refine cI c ?_;rw[decide_eq_false (show ¬1≤j by omega)] at kk;exact kk
    ·refine cv c ?_;refine⟨_,Z,_,Z,i,j,Z,Z,?_⟩;rw[decide_eq_true (show 1≤j by omega),Rv] at kk;have q:decide ((V.int (OG i j:Nat):V)=.int 1)=decide (OG i j=1):=decide_eq_decide.mpr ⟨λz=>by injection z with z;omega,λz=>by rw[z];rfl⟩;rw[q];exact kk
theorem Jk(T:ef K mg t):bv P w K mg base dF 3 t.a_Q1 t.d_Q1 ["thing"] (iG K):=by
 refine T.F_Q1.ok IG (λvs H Q E h=>?_) (λcdv A outer s H vs Q E hr h=>?_)
 ·obtain⟨_,_,rfl,_⟩:=h;rfl
 obtain⟨v,d,rfl,hD,k⟩:=h;refine dk.ok (au (aG (eK (cH (Gs T) hr T.m_Q33 T.F_Q33.kp T.b_Q33 (ae (qv 0) ai af)) (fS (cE ix (cP aJ (qv 0) aj) aj (aQ _)))))) ?_;nofun
 refine⟨_,Z,v,d,Z,hD,?_⟩
 cases c:gl d with
 |false=>
  rw[eP c] at k;exact⟨_,Z,k⟩
 |true=>
  obtain⟨i,j,rfl⟩:=zc c;obtain⟨p,x,y,dx,dy,rfl,e,hS,hx,hy⟩:=hD.two Z
  cases e
  cases hx
  rw[tO c] at k;exact⟨_,Z,_,Z,p,_,_,_,Z,Z,hS,Z,_,_,Z,Z,k⟩
theorem Af(T:ef K mg t):bv P w K mg base dF 2 t.a_Q50 t.d_Q50 ["top","bottom"] (xR K):=by
 refine T.F_Q50.ok rZ (λvs H Q E h=>?_) (λcdv A outer s H vs Q E hr h=>?_)
 ·obtain⟨_,_,rfl,_⟩:=h;rfl
 obtain⟨a,b,rfl,hb,hz,k⟩:=h;refine dk.ok (ah (bZ (aT f7 (qv 1) aj (aQ _)) (au i5) bt) (ah (cC 2 rZ.nd (cH (lT T) hr T.m_Q0 T.F_Q0.kp T.b_Q0 (ae (qv 0) (ae (qv 1) ai af) af))) (ah (bZ (aT lP (qv 1) aj (aQ _)) (au (cC 2 rZ.nd (i7 gj (qv 2)))) bt) (au (aG (aY (ae (aP dD (qv 0) (qv 2)) (ae (aP dD (qv 1) (qv 2)) ai bw) bw))))))) ?_
 nofun
 have gp:=bQ (a:=a) hb;have gb:((OG a b:Nat):Int).natAbs<2^4000:=by
  have z:OG a b≤b.natAbs:=VH (by omega) (by have:=Rq a b;exact SN.mpr this);have e:((OG a b:Nat):Int).natAbs=OG a b:=Sv _;omega
 refine⟨_,Z,Z,_,Z,?_⟩;refine cv (λz=>by injection z with z;omega) ?_;refine⟨_,rfl,_,rfl,a,b,rfl,?_⟩;refine⟨_,rfl,_,_,rfl,rfl,_,rfl,?_⟩;refine cv (by omega) ?_;refine⟨_,rfl,_,rfl,_,_,rfl,rfl,⟨gp,gb⟩,_,rfl,_,rfl,_,_,rfl,rfl,⟨gp,gb⟩,gC,λp hp=>?_⟩;exact k p hp
theorem Ae(T:ef K mg t):bv P w K mg base dF 2 t.a_Q56 t.d_Q56 ["one","other"] (BP K):=by
 refine T.F_Q56.ok oK (λvs H Q E h=>?_) (λcdv A outer s H vs Q E hr h=>?_)
 ·obtain⟨_,_,_,_,_,_,rfl,_⟩:=h;rfl
 obtain⟨v,w,r,q,n,m,rfl,hv,hw,wr,wq,hz,k⟩:=h;refine dk.ok (ah (cC 2 oK.nd (cH (lT T) hr T.m_Q0 T.F_Q0.kp T.b_Q0 (ae (cP aJ (qv 0) aj) (ae (cP aJ (qv 1) aj) ai aL) aL))) (ah (cC 3 oK.nd (aP dE (aP fq (cP aJ (qv 0) aj) (aP dD (cP aJ (qv 1) aj) (qv 2))) (aP fq (cP aJ (qv 1) aj) (aP dD (cP aJ (qv 0) aj) (qv 2))))) (ah (cC 4 oK.nd (cH (lT T) hr T.m_Q0 T.F_Q0.kp T.b_Q0 (ae (qv 3) (ae (qv 2) ai af) af))) (au (aG (aY (ae (aP dD (qv 3) (qv 4)) (ae (aP fq (aP dD (cP aJ (qv 0) aj) (qv 2)) (aP dD (cP aJ (qv 1) aj) (qv 4))) ai bw) bw))))))) ?_
 nofun
 obtain⟨p,rfl,hv⟩:=hv;obtain⟨p',rfl,hw⟩:=hw;have c1:=dq wr.top (show n≤4000 by omega);have c2:=dq wr.bot (show n≤4000 by omega);have c3:=dq wq.top (show m≤4000 by omega);have c4:=dq wq.bot (show m≤4000 by omega);have gp:(0:Int)<(OG r.2 q.2:Nat):=bQ wq.pos;have gb:=mf (a:=r.2) wq.pos c4;refine⟨_,Z,p,_,_,_,Z,Z,hv,Z,_,Z,p',_,_,_,Z,Z,hw,Z,r.2,q.2,Z,?_⟩;have z:=zJ ⟨wr.pos,wr.cop⟩ ⟨wq.pos,wq.cop⟩;have kk:vY H Q (qI r q):=by rw[z];exact k
 unfold qI at kk;simp only at kk;generalize ((OG r.2 q.2:Nat):Int)=d at gp gb kk ⊢;refine⟨_,Z,p,_,_,_,Z,Z,hv,Z,_,Z,p',_,_,_,Z,Z,hw,Z,_,Z,_,_,Z,Z,⟨gp,gb⟩,_,_,Z,Z,⟨c1,gQ gp c4⟩,_,Z,p',_,_,_,Z,Z,hw,Z,_,Z,p,_,_,_,Z,Z,hv,Z,_,Z,_,_,Z,Z,⟨gp,gb⟩,_,_,Z,Z,⟨c3,gQ gp c2⟩,_,_,Z,Z,?_⟩;refine⟨_,Z,_,Z,_,_,Z,?_⟩;have ep:(0:Int)<(OG (r.1*(q.2/d)+q.1*(r.2/d)) d:Nat):=bQ gp;have eb:=mf (a:=r.1*(q.2/d)+q.1*(r.2/d)) gp gb;generalize ((OG (r.1*(q.2/d)+q.1*(r.2/d)) d:Nat):Int)=e at ep eb kk ⊢;refine⟨_,Z,_,Z,_,_,Z,Z,⟨ep,eb⟩,_,Z,p,_,_,_,Z,Z,hv,Z,_,Z,_,_,Z,Z,⟨gp,gb⟩,_,Z,p',_,_,_,Z,Z,hw,Z,_,Z,_,_,Z,Z,⟨ep,eb⟩,_,_,Z,Z,⟨gQ gp c2,gQ ep c4⟩,gC,kk⟩
theorem sL(T:ef K mg t):bv P w K mg base dF 3 t.a_Q51 t.d_Q51 ["one","other"] (xS K):=by
 refine T.F_Q51.ok EW (λvs H Q E h=>?_) (λcdv A outer s H vs Q E hr h=>?_)
 ·obtain⟨_,_,_,_,_,_,rfl,_⟩:=h;rfl
 obtain⟨v,w,r,q,n,m,rfl,hv,hw,wr,wq,hz,k⟩:=h;refine dk.ok (au (aG (cH (Ae T) hr T.m_Q56 T.F_Q56.kp T.b_Q56 (ae (qv 0) (ae (aY (ae (i7 gj (cP aJ (qv 1) aj)) (ae (cP aJ (qv 1) aj) ai aL) iX)) ai bb) af)))) ?_;nofun
 obtain⟨p',rfl,hw⟩:=hw;refine⟨_,Z,_,Z,p',_,_,_,Z,Z,hw,Z,_,Z,_,Z,p',_,_,_,Z,Z,hw,Z,gC,λpt ht=>?_⟩;have s1:=ao ht (.tup [.int (-q.1),.int q.2]);refine⟨v,.ref pt,r,(-q.1,q.2),n,m,Z,hv.mono (aV.same s1),RV.of ag,wr,⟨wq.pos,by show(-q.1).natAbs<_;rw[Xm];exact wq.top,wq.bot,Ba wq.cop⟩,hz,λp hp=>?_⟩;refine k _ _ (s1.trans (ao hp _)) ?_;rw[←qM];exact RV.of ag
theorem Gh(T:ef K mg t):bv P w K mg base dF 2 t.a_Q52 t.d_Q52 ["one","other"] (xQ K):=by
 refine T.F_Q52.ok rY (λvs H Q E h=>?_) (λcdv A outer s H vs Q E hr h=>?_)
 ·obtain⟨_,_,_,_,_,_,rfl,_⟩:=h;rfl
 obtain⟨v,w,r,q,n,m,rfl,hv,hw,wr,wq,hz,k⟩:=h;refine dk.ok (ah (cC 2 rY.nd (cH (lT T) hr T.m_Q0 T.F_Q0.kp T.b_Q0 (ae (cP aJ (qv 0) aj) (ae (cP aJ (qv 1) aj) ai aL) aL))) (ah (cC 3 rY.nd (cH (lT T) hr T.m_Q0 T.F_Q0.kp T.b_Q0 (ae (cP aJ (qv 1) aj) (ae (cP aJ (qv 0) aj) ai aL) aL))) (au (aG (aY (ae (aP fq (aP dD (cP aJ (qv 0) aj) (qv 2)) (aP dD (cP aJ (qv 1) aj) (qv 3))) (ae (aP fq (aP dD (cP aJ (qv 0) aj) (qv 3)) (aP dD (cP aJ (qv 1) aj) (qv 2))) ai bw) bw)))))) ?_
 nofun
 obtain⟨p,rfl,hv⟩:=hv;obtain⟨p',rfl,hw⟩:=hw;have c1:=dq wr.top (show n≤4000 by omega);have c2:=dq wr.bot (show n≤4000 by omega);have c3:=dq wq.top (show m≤4000 by omega);have c4:=dq wq.bot (show m≤4000 by omega);have lp:(0:Int)<(OG r.1 q.2:Nat):=bQ wq.pos;have lb:=mf (a:=r.1) wq.pos c4;have mp:(0:Int)<(OG q.1 r.2:Nat):=bQ wr.pos;have mb:=mf (a:=q.1) wr.pos c2;have z:=vt ⟨wr.pos,wr.cop⟩ ⟨wq.pos,wq.cop⟩;have kk:vY H Q (kQ r q):=by rw[z];exact k
 unfold kQ at kk;simp only at kk;refine⟨_,Z,p,_,_,_,Z,Z,hv,Z,_,Z,p',_,_,_,Z,Z,hw,Z,r.1,q.2,Z,_,Z,p',_,_,_,Z,Z,hw,Z,_,Z,p,_,_,_,Z,Z,hv,Z,q.1,r.2,Z,?_⟩;generalize ((OG r.1 q.2:Nat):Int)=l at lp lb kk ⊢;generalize ((OG q.1 r.2:Nat):Int)=m' at mp mb kk ⊢;refine⟨_,Z,p,_,_,_,Z,Z,hv,Z,_,Z,_,_,Z,Z,⟨lp,lb⟩,_,Z,p',_,_,_,Z,Z,hw,Z,_,Z,_,_,Z,Z,⟨mp,mb⟩,_,_,Z,Z,⟨gQ lp c1,gQ mp c3⟩,_,Z,p,_,_,_,Z,Z,hv,Z,_,Z,_,_,Z,Z,⟨mp,mb⟩,_,Z,p',_,_,_,Z,Z,hw,Z,_,Z,_,_,Z,Z,⟨lp,lb⟩,_,_,Z,Z,⟨gQ mp c2,gQ lp c4⟩,gC,kk⟩
theorem Ge(T:ef K mg t):bv P w K mg base dF 3 t.a_Q57 t.d_Q57 ["one","other"] (BQ K):=by
 refine T.F_Q57.ok EV (λvs H Q E h=>?_) (λcdv A outer s H vs Q E hr h=>?_)
 ·obtain⟨_,_,_,_,_,rfl,_⟩:=h;rfl
 obtain⟨v,w,r,n,m,rfl,hv,⟨pw,rfl,hw⟩,wr,m0,m24,hn,k⟩:=h;refine dk.ok (ah (bZ (aT f7 (cP aJ (qv 1) aj) aj (aQ _)) (au i5) bt) (au (aG (cH (Gh T) hr T.m_Q52 T.F_Q52.kp T.b_Q52 (ae (qv 0) (ae (cH (Af T) hr T.m_Q50 T.F_Q50.kp T.b_Q50 (ae (cP aJ (qv 1) aj) (ae (cP aJ (qv 1) aj) ai aL) aL)) ai aH) af))))) ?_
 nofun
 refine⟨_,Z,pw,_,_,_,Z,Z,hw,Z,Z,_,Z,cv (λz=>by injection z with z;omega) ?_⟩;refine⟨_,rfl,_,rfl,pw,_,_,_,rfl,rfl,hw,rfl,_,rfl,pw,_,_,_,rfl,rfl,hw,rfl,1,m,rfl,by omega,dq (n:=5) (by show((m:Int)).natAbs<32;omega) (by decide),λpr hpr=>?_⟩;have s1:=ao hpr (.tup [.int (dZ 1 m).1,.int (dZ 1 m).2]);have rr:RV K _ (.ref pr) (dZ 1 m):=RV.of (ag (H:=H) (a:=pr) (o:=.tup [.int (dZ 1 m).1,.int (dZ 1 m).2]));rw[GL m0] at rr s1 ⊢;refine⟨v,.ref pr,r,(1,(m:Int)),n,5,Z,hv.mono (aV.same s1),rr,wr,Gb m0 m24,by omega,λpt hpt=>?_⟩;exact k _ _ (s1.trans (ao hpt _)) (RV.of ag)
theorem Gn(T:ef K mg t):bv P w K mg base dF 1 t.a_Q41 t.d_Q41 ["one","other"] (rT K):=by
 refine T.F_Q41.ok E1 (λvs H Q E h=>?_) (λcdv A outer s H vs Q E hr h=>?_)
 ·obtain⟨_,_,_,_,_,_,rfl,_⟩:=h;rfl
 obtain⟨v,w,r,q,n,m,rfl,hv,hw,wr,wq,hz,k⟩:=h;refine dk.ok (au (aG (cE lP (aP fq (cP aJ (qv 0) aj) (cP aJ (qv 1) aj)) (aP fq (cP aJ (qv 1) aj) (cP aJ (qv 0) aj)) (aQ _)))) ?_;nofun
 obtain⟨p,rfl,hv⟩:=hv;obtain⟨p',rfl,hw⟩:=hw;have c1:=dq wr.top (show n≤4000 by omega);have c2:=dq wr.bot (show n≤4000 by omega);have c3:=dq wq.top (show m≤4000 by omega);have c4:=dq wq.bot (show m≤4000 by omega);refine⟨_,Z,p,_,_,_,Z,Z,hv,Z,_,Z,p',_,_,_,Z,Z,hw,Z,_,_,Z,Z,⟨c1,c4⟩,_,Z,p',_,_,_,Z,Z,hw,Z,_,Z,p,_,_,_,Z,Z,hv,Z,_,_,Z,Z,⟨c3,c2⟩,_,_,Z,Z,k⟩
theorem Gk(T:ef K mg t):bv P w K mg base dF 2 t.a_Q44 t.d_Q44 ["one","other"] (vz K):=by
 refine T.F_Q44.ok EZ (λvs H Q E h=>?_) (λcdv A outer s H vs Q E hr h=>?_)
 ·obtain⟨_,_,_,_,rfl,_⟩:=h;rfl
 obtain⟨v,w,r,q,rfl,hv,hw,ar,aq,k⟩:=h;refine dk.ok (ah (bZ (bM (cH (Gn T) hr T.m_Q41 T.F_Q41.kp T.b_Q41 (ae (qv 1) (ae (qv 0) ai af) af))) (au (aG (qv 1))) bt) (au (aG (qv 0)))) ?_
 nofun
 refine⟨_,Z,_,Z,w,v,q,r,800,800,Z,hw,hv,aq.wf,ar.wf,by decide,_,Z,?_⟩
 cases c:dW q r with
 |true=>exact cR ⟨_,Z,k _ (by unfold eZ;rw[if_pos c];exact hw)⟩
 |false=>exact cV ⟨_,Z,k _ (by unfold eZ;rw[if_neg (by rw[c];exact OK)];exact hv)⟩
theorem Gg(T:ef K mg t):bv P w K mg base dF 3 t.a_Q53 t.d_Q53 ["some"] (xP K):=by
 refine T.F_Q53.ok iI (λvs H Q E h=>?_) (λcdv A outer s H vs Q E hr h=>?_)
 ·obtain⟨_,_,_,_,_,rfl,_⟩:=h;rfl
 obtain⟨a,xs,rs,n,D₀,rfl,hS,hR,hWD,h0,hDn₀,hlen,hn,k⟩:=h;refine dk.ok (ah (cC 1 iI.nd zq) (ah (cK OZ Z (FE (qv 0)) (aN (i:=2) iI.nd Z (by first|exact Pd Z|exact O7 Z)) (au (Cj (Em hr) (qv 1) (cP aJ (qv 2) aj) (aP dE (zr (Em hr) (qv 1) (cP aJ (qv 2) aj) aj ⟨Z,Z,Z,Z⟩) (cP aJ (qv 2) aj)) Z))) (ah (cC 3 iI.nd (cD (v:=.ref t.c_NOUGHT) Z T.m_NOUGHT Z)) (ah (cK OZ Z (zm (qv 1)) (sy Z (bP (aN (i:=4) iI.nd Z (by first|exact Pd Z|exact O7 Z)) (bP (aN (i:=5) iI.nd Z (by first|exact Pd Z|exact O7 Z)) fO))) (au (cC 3 iI.nd (cH (Ae T) hr T.m_Q56 T.F_Q56.kp T.b_Q56 (ae (qv 3) (ae (cH (Af T) hr T.m_Q50 T.F_Q50.kp T.b_Q50 (ae (qv 5) (ae (qv 4) ai af) af)) ai aH) af))))) (au (aG (qv 3))))))) ?_
 nofun
 refine λD hDn=>⟨_,Z,?_⟩
 have sD:=ao hDn (.dK []);rcases hS with hS|hS
 ·refine .inl ⟨a,Z,⟨_,sD.seq hS⟩,mh (K:=K) (a:=a) (xs:=xs) (λi σ H'=>∃(x:Option V) (ps:List (Int×Int)),σ=[some (.ref a),some (.ref D),x,none,none,none]/\aD H H'/\H' D=some (.dK (mS ps))/\ki n i ps/\(∀p∈ps,p.1∣(D₀:Int))/\iD ps=iA (rs.take i)) ⟨none,[],Z,sD,ag,ki.nil n,(λ_ h=>nomatch h),Z⟩ (λi σ H1 _ ⟨_,_,_,s1,_⟩=>s1.seq hS) ?_ ?_⟩
  ·rintro i y σ H1 hi ⟨x,ps,rfl,s1,hD1,ok,dv,ev⟩;obtain⟨ry,hry,hyv⟩:=hR.at hi;have my:ry∈rs:=Os hry;have hil:=(OH.mp hry).1;obtain⟨py,rfl,hSy⟩:=hyv.mono (aV.same s1);have el:(mS ps).length=ps.length:=Ol _;have hlp:(mS ps).length<sizeLine:=by rw[el];exact bn (by have:=ok.len;omega)
   refine⟨_,Z,D,Z,.inl ⟨_,.inl hD1⟩,_,Z,py,_,_,_,Z,Z,hSy,Z,_,mI.k (k:=Qn ry.2) hD1,_,Z,py,_,_,_,Z,Z,hSy,Z,rN ps ry.2,ry.1,pJ ps ry.2,Z,_,Z,_,Z,py,_,_,_,Z,Z,hSy,Z,D,_,Z,tW.k (k:=Qn ry.2) hD1 hlp,?_⟩;refine⟨_,fX ps ry.2 ry.1,Z,λb o q=>?_,?_,ok.add (hWD ry my).1,vc (i:=0) (n:=0) dv (hWD ry my).2,?_⟩
   ·rw[ay (aR q hDn)];exact s1 b o q
   ·rw[oX ps _ _ ok.nd];exact ag
   ·rw[kT,ev,Px,hry];exact(jt _ _).symm
  ·rintro σ H1 ⟨x,ps,rfl,s1,hD1,ok,dv,ev⟩;rw[hR.1,Pt] at ev;rw[hR.1] at ok;refine⟨_,Z,D,mS ps,Z,hD1,λob=>nP (d:=D) (ob:=ob) (kvs:=mS ps) (λj σ H'=>∃(u:V) (acc:R) (y4 y5:Option V),σ=[some (.ref a),some (.ref D),x,some u,y4,y5]/\aD H H'/\H' D=some (.frz ob (.dK (mS ps)))/\RV K H' u acc/\Bq D₀ (64*2^n*j) acc/\val acc=iD (ps.take j)) ⟨_,(0,1),none,none,Z,?_,ag,⟨_,Z,T.q_NOUGHT _⟩,⟨by decide,by decide,⟨(D₀:Int),by show(D₀:Int)=1*D₀;omega⟩,by show 0≤_;exact ON _⟩,gi⟩ (λi σ H1 ⟨_,_,_,_,_,_,z,_⟩=>z) ?_ ?_⟩
   ·intro b o q;rw[ay (aR q hDn)];exact s1 b o q
   ·rintro j kk v p σ H2 hkv ⟨u,acc,y4,y5,rfl,s2,hD2,r2,w2,ev2⟩ hp;have hkv':(ps.map λp=>((Qn p.1:dg),V.int p.2))[j]?=some (kk,v):=hkv;rw[OB] at hkv';obtain⟨q,hq,e⟩:=Pr.mp hkv'
    cases e
    have mq:=Os hq;have hjl:=(OH.mp hq).1;have wq:=ok.wf (by omega) mq;have lps:=ok.len;have gq:=AH ok dv hlen mq;have wa:=Bi w2 (by omega) h0 hDn₀;have bq:=ok.bot q mq;have e1:=ao hp (.tup [kV (Qn q.1),V.int q.2]);refine⟨p,_,Z,bu.of ag,Z,_,_,Z,_,_,Z,Z,?_⟩;refine⟨_,Z,_,Z,_,Z,q.2,q.1,Z,bq.1,dq bq.2 (by omega),λp1 g1=>?_⟩;have e2:=ao g1 (.tup [.int (dZ q.2 q.1).1,.int (dZ q.2 q.1).2]);refine⟨u,.ref p1,acc,dZ q.2 q.1,2*n+12,n+8,Z,(r2.mono (aV.same e1)).mono (aV.same e2),RV.of ag,wa,wq,by omega,λp2 g2=>?_⟩;have e3:=ao g2 (.tup [.int (cn acc (dZ q.2 q.1)).1,.int (cn acc (dZ q.2 q.1)).2]);have s3:=((e1.trans e2).trans e3);refine⟨_,cn acc (dZ q.2 q.1),_,_,Z,s2.trans s3,s3 _ _ hD2,RV.of ag,(by rw[US];exact Bq.plus h0 w2 gq),?_⟩;rw[iR w2.pos wq.pos,kM bq.1,ev2,Px,hq];exact(jv _ _).symm
   ·rintro σ H2 ⟨u,acc,y4,y5,rfl,s2,hD2,r2,w2,ev2⟩;have el:(mS ps).length=ps.length:=Ol _;rw[el,Pt] at ev2;have es:=xG (λr hr=>(hWD r hr).1.red) w2.red (ev2.trans ev);rw[es] at r2;exact⟨_,Z,k u H2 s2 r2⟩
 ·refine .inr ⟨a,Z,⟨_,aV.same sD _ _ hS⟩,hX (K:=K) (a:=a) (xs:=xs) (λi σ H'=>∃(x:Option V) (ps:List (Int×Int)),σ=[some (.ref a),some (.ref D),x,none,none,none]/\aD H H'/\H' D=some (.dK (mS ps))/\ki n i ps/\(∀p∈ps,p.1∣(D₀:Int))/\iD ps=iA (rs.take i)) ⟨none,[],Z,sD,ag,ki.nil n,(λ_ h=>nomatch h),Z⟩ (λi σ H1 _ ⟨_,_,_,s1,_⟩=>aV.same s1 _ _ hS) ?_ ?_⟩
  ·rintro i y σ H1 hi ⟨x,ps,rfl,s1,hD1,ok,dv,ev⟩;obtain⟨ry,hry,hyv⟩:=hR.at hi;have my:ry∈rs:=Os hry;have hil:=(OH.mp hry).1;obtain⟨py,rfl,hSy⟩:=hyv.mono (aV.same s1);have el:(mS ps).length=ps.length:=Ol _;have hlp:(mS ps).length<sizeLine:=by rw[el];exact bn (by have:=ok.len;omega)
   refine⟨_,Z,D,Z,.inl ⟨_,.inl hD1⟩,_,Z,py,_,_,_,Z,Z,hSy,Z,_,mI.k (k:=Qn ry.2) hD1,_,Z,py,_,_,_,Z,Z,hSy,Z,rN ps ry.2,ry.1,pJ ps ry.2,Z,_,Z,_,Z,py,_,_,_,Z,Z,hSy,Z,D,_,Z,tW.k (k:=Qn ry.2) hD1 hlp,?_⟩;refine⟨_,fX ps ry.2 ry.1,Z,λb o q=>?_,?_,ok.add (hWD ry my).1,vc (i:=0) (n:=0) dv (hWD ry my).2,?_⟩
   ·rw[ay (aR q hDn)];exact s1 b o q
   ·rw[oX ps _ _ ok.nd];exact ag
   ·rw[kT,ev,Px,hry];exact(jt _ _).symm
  ·rintro σ H1 ⟨x,ps,rfl,s1,hD1,ok,dv,ev⟩;rw[hR.1,Pt] at ev;rw[hR.1] at ok;refine⟨_,Z,D,mS ps,Z,hD1,λob=>nP (d:=D) (ob:=ob) (kvs:=mS ps) (λj σ H'=>∃(u:V) (acc:R) (y4 y5:Option V),σ=[some (.ref a),some (.ref D),x,some u,y4,y5]/\aD H H'/\H' D=some (.frz ob (.dK (mS ps)))/\RV K H' u acc/\Bq D₀ (64*2^n*j) acc/\val acc=iD (ps.take j)) ⟨_,(0,1),none,none,Z,?_,ag,⟨_,Z,T.q_NOUGHT _⟩,⟨by decide,by decide,⟨(D₀:Int),by show(D₀:Int)=1*D₀;omega⟩,by show 0≤_;exact ON _⟩,gi⟩ (λi σ H1 ⟨_,_,_,_,_,_,z,_⟩=>z) ?_ ?_⟩
   ·intro b o q;rw[ay (aR q hDn)];exact s1 b o q
   ·rintro j kk v p σ H2 hkv ⟨u,acc,y4,y5,rfl,s2,hD2,r2,w2,ev2⟩ hp;have hkv':(ps.map λp=>((Qn p.1:dg),V.int p.2))[j]?=some (kk,v):=hkv;rw[OB] at hkv';obtain⟨q,hq,e⟩:=Pr.mp hkv'
    cases e
    have mq:=Os hq;have hjl:=(OH.mp hq).1;have wq:=ok.wf (by omega) mq;have lps:=ok.len;have gq:=AH ok dv hlen mq;have wa:=Bi w2 (by omega) h0 hDn₀;have bq:=ok.bot q mq;have e1:=ao hp (.tup [kV (Qn q.1),V.int q.2]);refine⟨p,_,Z,bu.of ag,Z,_,_,Z,_,_,Z,Z,?_⟩;refine⟨_,Z,_,Z,_,Z,q.2,q.1,Z,bq.1,dq bq.2 (by omega),λp1 g1=>?_⟩;have e2:=ao g1 (.tup [.int (dZ q.2 q.1).1,.int (dZ q.2 q.1).2]);refine⟨u,.ref p1,acc,dZ q.2 q.1,2*n+12,n+8,Z,(r2.mono (aV.same e1)).mono (aV.same e2),RV.of ag,wa,wq,by omega,λp2 g2=>?_⟩;have e3:=ao g2 (.tup [.int (cn acc (dZ q.2 q.1)).1,.int (cn acc (dZ q.2 q.1)).2]);have s3:=((e1.trans e2).trans e3);refine⟨_,cn acc (dZ q.2 q.1),_,_,Z,s2.trans s3,s3 _ _ hD2,RV.of ag,(by rw[US];exact Bq.plus h0 w2 gq),?_⟩;rw[iR w2.pos wq.pos,kM bq.1,ev2,Px,hq];exact(jv _ _).symm
   ·rintro σ H2 ⟨u,acc,y4,y5,rfl,s2,hD2,r2,w2,ev2⟩;have el:(mS ps).length=ps.length:=Ol _;rw[el,Pt] at ev2;have es:=xG (λr hr=>(hWD r hr).1.red) w2.red (ev2.trans ev);rw[es] at r2;exact⟨_,Z,k u H2 s2 r2⟩
theorem GB(T:ef K mg t):bv P w K mg base dF 2 t.a_Q14 t.d_Q14 ["some"] (kX K):=by
 refine T.F_Q14.ok oN (λvs H Q E h=>?_) (λcdv A outer s H vs Q E hr h=>?_)
 ·obtain⟨_,_,_,rfl,_⟩:=h;rfl
 obtain⟨a,xs,ws,rfl,hS,al,hn,ok,k⟩:=h;refine dk.ok (ah (cC 1 oN.nd aj) (ah (cK OZ Z (fm (qv 0)) (aN (i:=2) oN.nd Z (by first|exact Pd Z|exact O7 Z)) (au (cC 1 oN.nd (aP fq (qv 1) (aP dD (cP aJ (qv 2) aj) (cH (lT T) hr T.m_Q0 T.F_Q0.kp T.b_Q0 (ae (qv 1) (ae (cP aJ (qv 2) aj) ai aL) af))))))) (au (aG (cm (N':=["one","bottom"]) (src:=[none,some 1]) Z (by exact(fm (qv 0))) (λ_ _ _ _ _=>(by exact(by exact aN (i:=0) (by show Po (["one","bottom"]:List OV);decide +kernel) (by exact Z) (by first|exact Pd Z|exact O7 Z)))) (λ_ _ _ _ _=>eS) (λ_ _ _ _ _=>(by exact(by exact(aP fq (by exact(b7 (ci (K:=K) (by exact Z)) (by exact(qv 0)) aj (by exact λ_ _=>Z))) (by exact(aP dD (by exact(qv 1)) (by exact(b7 (ci (K:=K) (by exact Z)) (by exact(qv 0)) aj (by exact λ_ _=>Z))))))))) (by exact⟨Z,Z,Z,Z,trivial⟩) Z (by decide +kernel) Z (by decide +kernel) (by exact bH Z ⟨Z,trivial⟩)))))) ?_
 nofun
 have hlen:=al.len;rw[Ol] at hlen;let Iv1:Nat->L2.St->Hp->Prop:=λi σ H'=>∃(B:Int) (x3:Option V),σ=[some (.ref a),some (.int B),x3]/\H'=H/\0<B/\B∣4834023173650597876544881407704768017555162023798869768948261467874213139288822304401239266415271355416806678311752296500438875701050478901734985823099062742197929195130163826648664551259341770021719244800000000000000000000000/\∀w∈ws.take i,w.2.2.2∣B
 refine⟨_,Z,a,Z,⟨_,hS⟩,mh (K:=K) (a:=a) (xs:=xs) Iv1 ⟨1,none,Z,Z,by decide,⟨4834023173650597876544881407704768017555162023798869768948261467874213139288822304401239266415271355416806678311752296500438875701050478901734985823099062742197929195130163826648664551259341770021719244800000000000000000000000,Z⟩,by simp⟩ (λi σ H1 _ ⟨_,_,_,e,_⟩=>by rw[e];exact hS) ?_ ?_⟩
 ·rintro i x σ H1 hx ⟨B,x3,rfl,rfl,b0,bd,all⟩;obtain⟨r,hr,px,rfl,hSx⟩:=al.at hx;rw[OB] at hr;obtain⟨w,hw,er⟩:=Pr.mp hr;subst er;have okw:=ok w (Os hw);have c1:=okw.am.bot;have c2:=R0 (by decide) okw.am.dvd;have B84:=R0 (by decide) bd;have g0:0<(OG B w.2.2.2:Int):=bQ (by omega);have g1:(OG B w.2.2.2:Int)≤w.2.2.2:=R0 (by omega) (Rq _ _);obtain⟨l0,l1,l2,l3⟩:=Av b0 (show 0<w.2.2.2 by omega) bd okw.am.dvd;refine⟨_,Z,_,Z,px,_,_,_,Z,Z,hSx,Z,_,Z,_,Z,px,_,_,_,Z,Z,hSx,Z,B,w.2.2.2,Z,_,_,Z,Z,⟨g0,wR (by omega) (by omega)⟩,_,_,Z,Z,⟨wR (by omega) (by omega),wR (RS (by omega) (by omega)) (Int.le_trans (Uy _ (by omega)) (by omega))⟩,?_⟩;refine⟨_,_,Z,Z,l0,l1,λz hz=>?_⟩;rw[Px,hw] at hz;rcases OU.mp hz with h|h
  ·exact So (all z h) l2
  ·have:z=w:=by simpa using h
   subst this;exact l3
 ·rintro σ H1 ⟨B,x3,rfl,rfl,b0,bd,all⟩;rw[hlen,Pt] at all;have B84:=R0 (by decide) bd;refine⟨_,Z,a,Z,⟨_,hS⟩,λD hD=>da (gY hS) (λ_=>true) (λi=>V.int ((fh B ws).getD i 0)) hD (by omega) (λi x H' hi s' hx R E kR kE=>?_) λH4 s4 h4=>?_⟩
  ·obtain⟨r,hr,px,rfl,hSx⟩:=al.at hx;rw[OB] at hr;obtain⟨w,hw,er⟩:=Pr.mp hr;subst er;have okw:=ok w (Os hw);have t':=aV.same (K:=K) s';have e:(fh B ws).getD i 0=w.2.2.1*(B/w.2.2.2):=aB 0 (by unfold fh;rw[OB,hw];rfl);have q:=kR Z _ (aD.refl _);rw[e] at q;have:=okw.am.bot;have:=R0 (by decide) okw.am.dvd;have:=okw.am.top;have:=okw.am.top';exact⟨gX.set Z,_,Z,px,_,_,_,Z,Z,t' _ _ hSx,Z,_,Z,_,Z,px,_,_,_,Z,Z,t' _ _ hSx,Z,_,_,Z,Z,⟨by omega,wR (by omega) (by omega)⟩,_,_,Z,Z,⟨wR (by omega) (by omega),wR (RS (by omega) (by omega)) (Int.le_trans (Uy _ (by omega)) (by omega))⟩,q⟩
  ·refine k D B H4 s4 hD b0 bd all ?_;rw[h4,show xs.length=(fh B ws).length by unfold fh;rw[Ol];exact hlen,dY 0 V.int]
theorem Gm(T:ef K mg t):bv P w K mg base dF 4 t.a_Q42 t.d_Q42 ["thing"] (rS K):=by
 refine T.F_Q42.ok r9 (λvs H Q E h=>?_) (λcdv A outer s H vs Q E hr h=>?_)
 ·obtain⟨_,_,rfl,_⟩:=h;rfl
 obtain⟨v,d,rfl,hD,k⟩:=h;refine dk.ok (ah (bZ (cJ (bM (cH (An T) hr T.m_Q13 T.F_Q13.kp T.b_Q13 (ae (qv 0) (ae aj ai ax) af)))) (au (aG cG)) bt) (ah (cC 1 r9.nd (cP aJ (qv 0) aj)) (ah (cC 2 r9.nd (cP aJ (qv 0) aj)) (ah (bZ (iu (gu (cJ (bM (cH (Eg T) hr T.m_Q7 T.F_Q7.kp T.b_Q7 (ae (qv 1) (ae (cD (v:=.int (24)) Z T.m_TURNS ⟨_,Z⟩) ai af) af)))) (gI (cJ (bM (cH (Eg T) hr T.m_Q7 T.F_Q7.kp T.b_Q7 (ae (qv 2) (ae (cD (v:=.int (24)) Z T.m_TURNS ⟨_,Z⟩) ai af) af))))))) (au (aG cG)) bt) (au (aG (eK (cE jR (qv 1) (qv 2) (aQ _)) (fS (cH (Jk T) hr T.m_Q1 T.F_Q1.kp T.b_Q1 (ae (cP aJ (qv 0) aj) ai aL)))))))))) ?_
 nofun
 refine⟨_,Z,v,d,3,Z,hD,⟨_,Z,?_⟩⟩
 cases c3:oq 3 d with
 |false=>
  refine cR ?_;rw[w9 c3] at k;exact k
 |true=>
  refine cV ?_;obtain⟨p,x,y,z,dx,dy,dz,rfl,rfl,hS,hx,hy,hz⟩:=bh.three hD c3;have kk:Q (.bl (jG 24 dx&&(jG 24 dy&&(Kd dx dy&&cN dz)))) H:=k;refine⟨_,Z,p,_,_,_,Z,Z,hS,Z,_,Z,p,_,_,_,Z,Z,hS,Z,?_⟩;refine⟨_,Z,x,dx,24,Z,hx,_,Z,?_⟩
  cases cx:jG 24 dx with
  |false=>
   rw[cx,Ra] at kk;exact cR (cR kk)
  |true=>
   rw[cx,Rv] at kk;refine cV ?_;refine⟨_,Z,y,dy,24,Z,hy,_,Z,?_⟩
   cases cy:jG 24 dy with
   |false=>
    rw[cy,Ra] at kk;exact cR kk
   |true=>
    rw[cy,Rv] at kk;refine cV ?_;obtain⟨i,rfl,_⟩:=lU cx;obtain⟨j,rfl,_⟩:=lU cy
    cases hx
    cases hy
    have k3:Q (.bl (decide (i≤j)&&cN dz)) H:=kk;refine⟨_,Z,_,Z,_,_,Z,Z,_,Z,?_⟩;by_cases c:i≤j
    ·rw[decide_eq_true c,Rv] at k3;refine cI c ?_;exact⟨_,Z,p,_,_,_,Z,Z,hS,Z,z,dz,Z,hz,k3⟩
    ·rw[decide_eq_false c,Ra] at k3;exact cv c k3
theorem Ak(T:ef K mg t):bv P w K mg base dF 1 t.a_Q26 t.d_Q26 ["work","turn"] (oG K):=by
 refine T.F_Q26.ok E6 (λvs H Q E h=>?_) (λcdv A outer s H vs Q E hr h=>?_)
 ·obtain⟨_,_,_,rfl,_⟩:=h;rfl
 obtain⟨v,w,t₀,rfl,⟨p,x,rfl,hS,rx⟩,k⟩:=h;refine dk.ok (au (aG (qG jR jR (cP aJ (qv 0) aj) (qv 1) (cP aJ (qv 0) aj)))) ?_;nofun
 refine⟨_,Z,p,_,_,_,Z,Z,hS,Z,_,Z,_,_,Z,Z,_,Z,?_⟩;by_cases c:w.1≤t₀
 ·refine cI (by omega) ?_;have e:fV w t₀=decide ((t₀:Int)≤(w.2.1:Int)):=by
   unfold fV;rw[decide_eq_true c,Rv];exact decide_eq_decide.mpr (by omega)
  rw[e] at k;exact⟨_,Z,p,_,_,_,Z,Z,hS,Z,_,_,Z,Z,k⟩
 ·refine cv (by omega) ?_;have e:fV w t₀=false:=by
   unfold fV;rw[decide_eq_false c,Ra]
  rw[e] at k;exact k
theorem GA(T:ef K mg t):bv P w K mg base dF 1 t.a_Q15 t.d_Q15 ["count"] (kY K):=by
 refine T.F_Q15.ok Fe (λvs H Q E h=>?_) (λcdv A outer s H vs Q E hr h=>?_)
 ·obtain⟨_,rfl,_⟩:=h;rfl
 obtain⟨n,rfl,hn,k⟩:=h;refine dk.ok (au (aG (cm (N':=["work","count"]) (src:=[none,some 0]) Z (by exact(dG Z T.z_range (ae (qv 0) ai af))) (λ_ _ _ _ _=>(by exact(by exact aN (i:=0) (by show Po (["work","count"]:List OV);decide +kernel) (by exact Z) (by first|exact Pd Z|exact O7 Z)))) (λ_ _ _ _ _=>eS) (λ_ _ _ _ _=>(by exact(by exact(aP uF (by exact(bJ (ae cG ai ax))) (by exact(qv 1)))))) (by exact⟨Z,Z,Z,Z,trivial⟩) Z (by decide +kernel) Z (by decide +kernel) (by exact bH Z ⟨Z,trivial⟩)))) ?_;nofun
 refine⟨_,Z,n,Z,by omega,by omega,λD hD=>Bb (J:=Ez 0 n) (n:=n) (λi ys H'=>∃rows:List Addr,ys=rows.map V.ref/\rows.length=i/\rows.Nodup/\D∉rows/\(∀r∈rows,H r=none)/\aD H H'/\H' D=some (.lst ys)/\∀r∈rows,H' r=some (.lst (vI n λ_=>false))) ⟨[],Z,Z,SK,(λz=>by cases z),(λr hr=>by cases hr),ao hD _,ag,λr hr=>by cases hr⟩ (λi ys H' hi _=>hi) (λys H' ⟨rows,e1,e2,e3,e4,e5,e6,e7,e8⟩=>⟨Oi _,k D rows H' e6 hD e5 ⟨by rw[e7,e1],e2,e3,e4,λi r e=>e8 r (Os e)⟩⟩) ?_⟩;rintro i ys H1 x H2 hi ⟨rows,rfl,e2,e3,e4,e5,e6,e7,e8⟩ ⟨rfl,rfl⟩ R E kR kE;refine⟨gX.set Z,?_⟩;refine⟨BF,λq hq=>?_⟩;have s1:=ao hq (.lst [.bl false]);refine⟨_,Z,q,.bl false,n,Z,Z,ag,by omega,λr hr=>?_⟩;have s2:=ao hr (.lst (Ou n (.bl false)));have s12:=s1.trans s2;have nr:r∉rows:=λm=>by rw[s1 _ _ (e8 r m)] at hr;cases hr
 have nD:r≠D:=λz=>by subst z;rw[s1 _ _ e7] at hr;cases hr
 have er:Ou n (V.bl false)=vI n λ_=>false:=by
  unfold vI;apply Ww;intro j;rw[RF,OB];by_cases c:j<n
  ·rw[if_pos c,Sk c];rfl
  ·rw[if_neg c,QF (by rw[PF];omega)];rfl
 have hD4:=s12 _ _ e7;refine kR (.ref r) _ hD4 (bn (by rw[Ol];omega)) ⟨rows++[r],by rw[PJ];rfl,by rw[OQ,e2];rfl,?_,?_,λz hz=>?_,λb o q=>?_,ag,λz hz=>?_⟩
 ·rw[P9];exact⟨e3,Pw.mpr ⟨(λz=>by cases z),SK⟩,λa ha b hb=>by rw[Ox.mp hb];exact λz=>nr (by rw[←z];exact ha)⟩
 ·intro m;rcases OU.mp m with z|z
  ·exact e4 z
  ·exact nD (Ox.mp z).symm
 ·rcases OU.mp hz with y|y
  ·exact e5 z y
  ·rw[Ox.mp y]
   cases c:H r with
   |none=>rfl
   |some o=>rw[s1 _ _ (e6 _ _ c)] at hr;cases hr
 ·rw[ay (aR q hD)];exact s12 _ _ (e6 _ _ q)
 ·rcases OU.mp hz with y|y
  ·rw[ay (show z≠D from λw=>e4 (by rw[←w];exact y))];exact s12 _ _ (e8 z y)
  ·rw[Ox.mp y,ay nD,ag,er]
theorem Gr(T:ef K mg t):bv P w K mg base dF 1 t.a_Q34 t.d_Q34 ["leanings","lean"] (qA K):=by
 exact T.F_Q34.ok E4 (λvs H Q E h=>h.elim) (λcdv A outer s H vs Q E hr h=>h.elim)
theorem Ef(T:ef K mg t):bv P w K mg base dF 2 t.a_Q8 t.d_Q8 ["count","leans"] (ka K):=by
 refine T.F_Q8.ok xV (λvs H Q E h=>?_) (λcdv A outer s H vs Q E hr h=>?_)
 ·obtain⟨_,_,_,rfl,_⟩:=h;rfl
 obtain⟨n,v,es,rfl,⟨p,xs,rfl,hS,al⟩,ok,hn,k⟩:=h;refine dk.ok (ah (cC 2 xV.nd (cH (GA T) hr T.m_Q15 T.F_Q15.kp T.b_Q15 (ae (qv 0) ai af))) (ah (cK OZ Z (fg (qv 1)) (aN (i:=3) xV.nd Z (by first|exact Pd Z|exact O7 Z)) (au (cL (cH (Gr T) hr T.m_Q34 T.F_Q34.kp T.b_Q34 (ae (qv 2) (ae (qv 3) ai af) af))))) (au (aG (qv 2))))) ?_
 nofun
 refine⟨_,Z,n,Z,hn,λl rows H1 s1 hl hr m1=>?_⟩;have hS1:=aV.same (K:=K) s1 _ _ hS;have sm:∀H',Kp rows H1 H'->aD H H':=λH' kp b o e=>kp.keep b o (λz=>by rw[hr b z] at e;cases e) (s1 _ _ e)
 let Iv1:Nat->L2.St->Hp->Prop:=λi σ H'=>∃(L:Nat->Nat->Bool) (x4:Option V),σ=[some (.int n),some (.ref p),some (.ref l),x4]/\Kp rows H1 H'/\Bx H' l rows n L/\Ko n (es.take i) L
 refine⟨_,Z,p,Z,⟨_,hS1⟩,hX (K:=K) (a:=p) (xs:=xs) Iv1 ⟨_,none,Z,Kp.same (aD.refl _) m1.ls,m1,by rw[Xo];exact Dt n⟩ (λi σ H' _ ⟨_,_,_,kp,_⟩=>aV.kp (K:=K) kp _ _ hS1) ?_ ?_⟩
 ·rintro i x σ H2 hx ⟨L,x4,rfl,kp2,m2,c2⟩;obtain⟨⟨a,b⟩,hd,lv⟩:=al.at hx;rw[show es=[] from ok] at hd
  cases hd
 ·rintro σ H2 ⟨L,x4,rfl,kp2,m2,c2⟩;rw[al.len,Pt] at c2;exact⟨_,Z,k l rows L H2 (sm _ kp2) m2 c2⟩
theorem Gq(T:ef K mg t):bv P w K mg base dF 3 t.a_Q35 t.d_Q35 ["sheet"] (qy K):=by
 refine T.F_Q35.ok fR (λvs H Q E h=>?_) (λcdv A outer s H vs Q E hr h=>?_)
 ·obtain⟨_,_,_,rfl,_⟩:=h;rfl
 obtain⟨v,ws,es,rfl,⟨p,a,b,rfl,hS,wv,lv⟩,ok,nb_,k⟩:=h;refine dk.ok (ah (cC 1 fR.nd (cP aJ (qv 0) aj)) (ah (cC 2 fR.nd (cH (Ef T) hr T.m_Q8 T.F_Q8.kp T.b_Q8 (ae (aI aS (by rfl) T.z_len Qu (ae (qv 1) ai af)) (ae (cP aJ (qv 0) aj) ai aL) aH))) (ah (cC 3 fR.nd (bJ ai)) (ah (cK OZ Z (ky Z T.z_enumerate (ae (qv 1) ai af)) (sy Z (bP (aN (i:=4) fR.nd Z (by first|exact Pd Z|exact O7 Z)) (bP (aN (i:=5) fR.nd Z (by first|exact Pd Z|exact O7 Z)) fO))) (ah (i4 (i:=6) (N':=["base","other","leanings","number"]) (src:=[none,none,some 2,some 4]) fR.nd Z (by first|exact Pd Z|exact O7 Z) Z (by exact(ky Z T.z_enumerate (ae (qv 1) ai af))) (λ_ _ _ _ _=>(by exact(by exact i6 (K:=K) (n:=2) (by exact Z) (by exact Z) (by exact bP (by exact aN (i:=0) (by show Po (["base","other","leanings","number"]:List OV);decide +kernel) (by exact Z) (by first|exact Pd Z|exact O7 Z)) (by exact bP (by exact aN (i:=1) (by show Po (["base","other","leanings","number"]:List OV);decide +kernel) (by exact Z) (by first|exact Pd Z|exact O7 Z)) fO))))) (λ_ _ _ _ _=>(eR (bM (by exact(b7 (dA (K:=K) (by exact Z)) (by exact(b7 (dA (K:=K) (by exact Z)) (by exact(qv 2)) (by exact(qv 3)) (by exact λ_ _=>Z))) (by exact(qv 0)) (by exact λ_ _=>Z)))))) (λ_ _ _ _ _=>(by exact(by exact(b7 (ci (K:=K) (by exact Z)) (by exact(qv 1)) aj (by exact λ_ _=>Z))))) (by exact⟨Z,Z,Z,Z,⟨Z,Z,Z,Z,trivial⟩⟩) Z (by decide +kernel) Z (by decide +kernel) (by exact bH Z ⟨Z,⟨Z,trivial⟩⟩)) (ah (i4 (i:=7) (N':=["leaner","other","number","leanings"]) (src:=[none,none,some 4,some 2]) fR.nd Z (by first|exact Pd Z|exact O7 Z) Z (by exact(ky Z T.z_enumerate (ae (qv 1) ai af))) (λ_ _ _ _ _=>(by exact(by exact i6 (K:=K) (n:=2) (by exact Z) (by exact Z) (by exact bP (by exact aN (i:=0) (by show Po (["leaner","other","number","leanings"]:List OV);decide +kernel) (by exact Z) (by first|exact Pd Z|exact O7 Z)) (by exact bP (by exact aN (i:=1) (by show Po (["leaner","other","number","leanings"]:List OV);decide +kernel) (by exact Z) (by first|exact Pd Z|exact O7 Z)) fO))))) (λ_ _ _ _ _=>(eR (bM (by exact(b7 (dA (K:=K) (by exact Z)) (by exact(b7 (dA (K:=K) (by exact Z)) (by exact(qv 3)) (by exact(qv 0)) (by exact λ_ _=>Z))) (by exact(qv 2)) (by exact λ_ _=>Z)))))) (λ_ _ _ _ _=>(by exact(by exact(b7 (ci (K:=K) (by exact Z)) (by exact(qv 1)) aj (by exact λ_ _=>Z))))) (by exact⟨Z,Z,Z,Z,⟨Z,Z,Z,Z,trivial⟩⟩) Z (by decide +kernel) Z (by decide +kernel) (by exact bH Z ⟨Z,⟨Z,trivial⟩⟩)) (ah (cC 8 fR.nd (aI (wM Z) (by rfl) T.z_max boot_max (ae (aP o5 (bJ (ae (cP aJ (qv 5) aj) ai aL)) (qv 6)) ai bw))) (ah (cC 9 fR.nd (aI (nV Z) (by rfl) T.z_min Xq (ae (aP o5 (bJ (ae (cP aJ (qv 5) aj) ai aL)) (qv 7)) ai bw))) (ah (bZ (aT ix (qv 8) (qv 9) (aQ _)) (au i5) bt) (au (cL (gv O8 Pe Pf bV (qv 3) (ae (aY (ae (qv 8) (ae (qv 9) (ae (cP aJ (qv 5) aj) ai aL) af) af)) ai bb)))))))))) (au (aG (bL bx (by rfl) T.z_tuple Qt (ae (qv 3) ai af)))))))) ?_
 nofun
 obtain⟨pa,xs,rfl,hpa,al⟩:=id wv;have hxl:=al.len;have few:=ok.few;obtain⟨f,l_,win⟩:=ij.ex ws es;refine⟨_,Z,p,_,_,_,Z,Z,hS,Z,?_⟩;refine⟨_,Z,pa,_,Z,.inr hpa,_,Z,p,_,_,_,Z,Z,hS,Z,ws.length,b,es,(by rw[hxl];rfl),lv,ok.es,by omega,λl rows L H1 s1 MX1 clo=>?_⟩;refine⟨(by show 0≤sizeLine;exact ON _),λdl hdl=>?_⟩;have s2:=ao hdl (.lst []);have hd2:upd H1 dl (.lst []) dl=some (.lst []):=ag;have MX2:=MX1.same s2;have s02:=s1.trans s2;generalize upd H1 dl (.lst [])=H2 at s2 hd2 MX2 s02 ⊢;have hdN:H dl=none:=by
  cases e:H dl with
  |none=>rfl
  |some o=>rw[s1 _ _ e] at hdl;cases hdl
 have ndl:dl≠l:=λz=>by subst z;rw[MX1.top] at hdl;cases hdl
 have ndr:dl∉rows:=λz=>by obtain⟨ys,e⟩:=MX1.ls _ z;rw[hdl] at e;cases e
 have t02:=aV.same (K:=K) s02;have mst:∀H',dP dl H2 H'->Bx H' l rows ws.length L:=λH' S=>⟨S.keep _ _ (λz=>ndl z.symm) MX2.top,MX2.len,MX2.nd,MX2.ne,λi r e=>S.keep _ _ (λz=>ndr (by rw[←z];exact Os e)) (MX2.row i r e)⟩
 have sst:∀H',dP dl H2 H'->aD H H':=λH' S b' o e=>S.keep b' o (λz=>by subst z;rw[hdN] at e;cases e) (s02 _ _ e)
 let Iv1:Nat->L2.St->Hp->Prop:=λi σ H'=>∃(ys:List V) (x5 x6 x7 x8 x9 x10:Option V),σ=[some (.ref p),some (.ref pa),some (.ref l),some (.ref dl),x5,x6,x7,x8,x9,x10]/\dP dl H2 H'/\H' dl=some (.lst ys)/\ys.length=i/\be K H' ys ((Og i).map (wG ws f l_))/\∀j,j<i->f j≤l_ j
 refine⟨_,Z,pa,Z,⟨_,t02 _ _ hpa⟩,AL (K:=K) (a:=pa) (xs:=xs) Iv1 ⟨[],none,none,none,none,none,none,Z,dP.refl ⟨_,hd2⟩,hd2,Z,.nil,λj hj=>absurd hj (RW _)⟩ (λi σ H' _ ⟨_,_,_,_,_,_,_,_,S,_⟩=>aV.step (K:=K) S _ _ (t02 _ _ hpa)) ?_ ?_⟩
 ·rintro i x pe σ H3 hx ⟨ys,x5,x6,x7,x8,x9,x10,rfl,S3,hd3,hys,dp,le⟩ hpe;have hi:i<ws.length:=by have:=(OH.mp hx).1;omega
  obtain⟨w,hw,pw,am,rfl,hpw,ram⟩:=al.at hx;have ewi:ws.getD i bI=w:=aB bI hw;have wok:=ok.ok w (Os hw);have s4:=ao hpe (.tup [.int i,.ref pw]);have hpe4:upd H3 pe (.tup [.int i,.ref pw]) pe=some (.tup [.int i,.ref pw]):=ag;generalize upd H3 pe (.tup [.int i,.ref pw])=H4 at s4 hpe4 ⊢;have S4:=S3.trans (dP.same s4 ⟨_,hd3⟩);have t4:=t02.trans (aV.step (K:=K) S4);refine⟨pe,_,Z,bu.of hpe4,Z,_,_,Z,_,_,Z,Z,?_⟩;have MX:=mst _ S4;have SM:=t4;refine⟨_,Z,pa,Z,⟨_,(SM _ _ hpa)⟩,λD1 hD1=>da (oh ((SM _ _ hpa))) (λj=>L i j) (λj=>V.int ((ws.getD j bI).1:Nat)) hD1 (by omega) (λj y H' hj s' hy R E kR kE=>?_) λH5 s5 h5=>?_⟩
  ·obtain⟨pt,x',rfl,hx',hpt⟩:=hy;obtain⟨w',hw',pw',am',rfl,hpw',_⟩:=al.at hx';have ew:ws.getD j bI=w':=aB bI hw';rw[ew] at kR;have Ms:=MX.same s';obtain⟨rr,hrr⟩:∃r,rows[i]?=some r:=⟨_,Oh (by rw[MX.len];omega)⟩;refine⟨pt,_,Z,bu.of hpt,Z,_,_,Z,_,_,Z,Z,(gX.set Z).set' Z,?_⟩;refine⟨_,Z,_,Z,l,_,_,_,Z,Z,ba.of Ms.top,bF (v:=V.ref rr) (by rw[OB,hrr];rfl),_,Z,rr,_,_,_,Z,Z,ba.of (Ms.row _ _ hrr),bF (oR (by omega)),_,Z,?_⟩
   cases cl:L i j with
   |true=>
    exact cR ⟨_,Z,pw',_,_,_,Z,Z,SM.trans (aV.same (K:=K) s') _ _ hpw',Z,kR cl _ (aD.refl _)⟩
   |false=>exact cV (kE cl _ (aD.refl _))
  rw[show xs.length=ws.length from hxl] at h5;have MX5:=MX.same s5;have SM5:=SM.trans (aV.same (K:=K) s5);refine⟨_,Z,pa,Z,⟨_,(SM5 _ _ hpa)⟩,λD2 hD2=>da (oh ((SM5 _ _ hpa))) (λj=>L j i) (λj=>V.int ((ws.getD j bI).2.1:Nat)) hD2 (by omega) (λj y H' hj s' hy R E kR kE=>?_) λH6 s6 h6=>?_⟩
  ·obtain⟨pt,x',rfl,hx',hpt⟩:=hy;obtain⟨w',hw',pw',am',rfl,hpw',_⟩:=al.at hx';have ew:ws.getD j bI=w':=aB bI hw';rw[ew] at kR;have Ms:=MX5.same s';obtain⟨rr,hrr⟩:∃r,rows[j]?=some r:=⟨_,Oh (by rw[MX5.len];omega)⟩;refine⟨pt,_,Z,bu.of hpt,Z,_,_,Z,_,_,Z,Z,(gX.set Z).set' Z,?_⟩;refine⟨_,Z,_,Z,l,_,_,_,Z,Z,ba.of Ms.top,bF (v:=V.ref rr) (by rw[OB,hrr];rfl),_,Z,rr,_,_,_,Z,Z,ba.of (Ms.row _ _ hrr),bF (oR (by omega)),_,Z,?_⟩
   cases cl:L j i with
   |true=>
    exact cR ⟨_,Z,pw',_,_,_,Z,Z,SM5.trans (aV.same (K:=K) s') _ _ hpw',Z,kR cl _ (aD.refl _)⟩
   |false=>exact cV (kE cl _ (aD.refl _))
  rw[show xs.length=ws.length from hxl] at h6;have s46:=s5.trans s6;have h5':=s6 _ _ h5;have t6:=SM5.trans (aV.same (K:=K) s6);refine⟨_,Z,pw,_,_,_,Z,Z,t6 _ _ hpw,Z,BF,λq1 hq1=>?_⟩;have s7:=ao hq1 (.lst [.int (w.1:Nat)]);have l1:((Og ws.length).filter λj=>L i j).length≤ws.length:=OS (Py _ _) (by rw[PF];exact Oi _);have l2:((Og ws.length).filter λj=>L j i).length≤ws.length:=OS (Py _ _) (by rw[PF];exact Oi _);refine⟨_,Z,q1,D1,_,_,Z,Z,ag,s7 _ _ h5',RK (bn (by rw[Ol];show 1+_≤1000;omega)),λq2 hq2=>?_⟩;have s8:=ao hq2 (.lst ([.int (w.1:Nat)]++((Og ws.length).filter λj=>L i j).map λj=>V.int ((ws.getD j bI).1:Nat)));have e8:[V.int (w.1:Nat)]++(((Og ws.length).filter λj=>L i j).map λj=>V.int ((ws.getD j bI).1:Nat))=((w.1:Int)::((Og ws.length).filter λj=>L i j).map λj=>((ws.getD j bI).1:Int)).map V.int:=by rw[O1,Q4];rfl
  refine⟨q2,_,Z,ba.of (by rw[←e8];exact ag),by rw[Ph];omega,λM hM hB=>?_⟩;have eM:M=f i:=by
   obtain⟨j0,hj0,z0,q0⟩:=win.a.att i hi;have u1:f i≤M:=by
    rw[q0];refine hB _ ?_;rcases z0 with z0|z0
    ·subst z0;unfold vF;rw[ewi];exact Oq
    ·exact Ot _ (OD.mpr ⟨j0,OL.mpr ⟨Ow.mpr hj0,(clo i j0 hi hj0).mpr z0⟩,Z⟩)
   have u2:M≤f i:=by
    rcases Ov.mp hM with z|z
    ·have:=win.a.up i i hi hi (.inl Z);unfold vF at this;rw[ewi] at this;omega
    ·obtain⟨j,hj,rfl⟩:=OD.mp z;obtain⟨hj1,hj2⟩:=OL.mp hj;exact win.a.up i j hi (Ow.mp hj1) (.inr ((clo i j hi (Ow.mp hj1)).mp hj2))
   omega
  rw[eM];have s78:=s7.trans s8;clear hM hB eM;have h6':=s78 _ _ h6;have t8:=t6.trans (aV.same (K:=K) s78);refine⟨_,Z,pw,_,_,_,Z,Z,t8 _ _ hpw,Z,BF,λq3 hq3=>?_⟩;have s9:=ao hq3 (.lst [.int (w.2.1:Nat)]);refine⟨_,Z,q3,D2,_,_,Z,Z,ag,s9 _ _ h6',RK (bn (by rw[Ol];show 1+_≤1000;omega)),λq4 hq4=>?_⟩;have sA:=ao hq4 (.lst ([.int (w.2.1:Nat)]++((Og ws.length).filter λj=>L j i).map λj=>V.int ((ws.getD j bI).2.1:Nat)));have eA:[V.int (w.2.1:Nat)]++(((Og ws.length).filter λj=>L j i).map λj=>V.int ((ws.getD j bI).2.1:Nat))=((w.2.1:Int)::((Og ws.length).filter λj=>L j i).map λj=>((ws.getD j bI).2.1:Int)).map V.int:=by rw[O1,Q4];rfl
  refine⟨q4,_,Z,ba.of (by rw[←eA];exact ag),by rw[Ph];omega,λM hM hB=>?_⟩;have eM:M=l_ i:=by
   obtain⟨j0,hj0,z0,q0⟩:=win.b.att i hi;have u1:M≤l_ i:=by
    have q0':- l_ i=-((ws.getD j0 bI).2.1:Int):=q0;have:l_ i=((ws.getD j0 bI).2.1:Int):=by omega
    rw[this];refine hB _ ?_;rcases z0 with z0|z0
    ·subst z0;rw[ewi];exact Oq
    ·exact Ot _ (OD.mpr ⟨j0,OL.mpr ⟨Ow.mpr hj0,(clo j0 i hj0 hi).mpr (ug.mp z0)⟩,Z⟩)
   have u2:l_ i≤M:=by
    rcases Ov.mp hM with z|z
    ·have:=win.b.up i i hi hi (.inl Z);unfold vL at this;rw[ewi] at this;have:-(w.2.1:Int)≤- l_ i:=this;omega
    ·obtain⟨j,hj,rfl⟩:=OD.mp z;obtain⟨hj1,hj2⟩:=OL.mp hj;have:=win.b.up i j hi (Ow.mp hj1) (.inr (ug.mpr ((clo j i (Ow.mp hj1) hi).mp hj2)));have:-((ws.getD j bI).2.1:Int)≤- l_ i:=this;omega
   omega
  rw[eM];clear hM hB eM;have s9A:=s9.trans sA;have s4A:=(s46.trans s78).trans s9A;generalize upd (upd (upd (upd H6 q1 _) q2 _) q3 _) q4 _=HA at s9A s4A ⊢;have SA:=S4.trans (dP.same s4A ⟨_,s4 _ _ hd3⟩);refine⟨_,Z,_,Z,_,_,Z,Z,_,Z,?_⟩;by_cases c:l_ i<f i
  ·refine cI c ?_;have rs:iO ws.length f l_=some i:=Be hi c le;exact absurd (nb_ f l_ win) (by rw[rs];exact λz=>nomatch z)
  ·refine cv c ?_;have hdA:=s4A _ _ (s4 _ _ hd3);refine⟨_,Z,.inl ⟨Z,_,ba.of hdA⟩,_,Z,_,Z,_,Z,pw,_,_,_,Z,Z,(t02.trans (aV.step (K:=K) SA)) _ _ hpw,Z,w6,λpn hpn=>?_⟩;have sB:=ao hpn (.tup [.int (f i),.int (l_ i),am]);have hpB:upd HA pn (.tup [.int (f i),.int (l_ i),am]) pn=some (.tup [.int (f i),.int (l_ i),am]):=ag;generalize upd HA pn (.tup [.int (f i),.int (l_ i),am])=HB at sB hpB ⊢;have hdB:=sB _ _ hdA;have SB:=SA.trans (dP.same sB ⟨_,hdA⟩);refine⟨dl,ys,_,Z,Z,hdB,bn (by omega),?_⟩;have tC:aV K HB (upd HB dl (.lst (ys++[.ref pn]))):=aV.up hdB _;refine⟨_,_,_,_,_,_,_,Z,SB.trans (dP.up hdB),ag,by rw[OQ,hys];rfl,?_,λj hj=>?_⟩
   ·rw[PL,PJ];have dn:bh K (upd HB dl (.lst (ys++[.ref pn]))) (.ref pn) (wG ws f l_ i):=by
     unfold wG;rw[ewi];exact .tup (tC _ _ (bu.of hpB)) (.cons (.int _) (.cons (.int _) (.cons (((ram.mono t02).mono (aV.step (K:=K) SB)).mono tC).deep .nil)))
    have dd:be K (upd HB dl (.lst (ys++[.ref pn]))) ys ((Og i).map (wG ws f l_)):=by
     refine rM (K:=K) ?_ dp;exact(((aV.same (K:=K) s4).trans (aV.same s4A)).trans (aV.same sB)).trans tC
    exact jY dd (.cons dn .nil)
   ·by_cases z:j<i
    ·exact le j z
    ·have:j=i:=by omega
     subst this;omega
 ·rintro σ H3 ⟨ys,x5,x6,x7,x8,x9,x10,rfl,S3,hd3,hys,dp,le⟩;refine⟨_,Z,dl,_,Z,.inl ⟨ba.of hd3,λpt hpt=>?_⟩⟩;have s4:=ao hpt (.tup ys);refine k f l_ (.ref pt) _ ((sst _ S3).trans s4) win (rc (λj hj=>le j (by omega))) ?_;rw[hxl] at dp;exact .tup (bu.of ag) (rM (aV.same s4) dp)
theorem Je(T:ef K mg t):bv P w K mg base dF 2 t.a_Q9 t.d_Q9 ["works","left"] (j8 K):=by
 refine T.F_Q9.ok uo (λvs H Q E h=>?_) (λcdv A outer s H vs Q E hr h=>?_)
 ·obtain⟨_,_,_,_,rfl,_⟩:=h;rfl
 obtain⟨v,q,ws,ls,rfl,⟨p,xs,rfl,hS,al⟩,hw,hq,hl,k⟩:=h;refine dk.ok (ah (cC 2 uo.nd (bJ ai)) (ah (cK OZ Z (fg (qv 0)) (aN (i:=3) uo.nd Z (by first|exact Pd Z|exact O7 Z)) (ah (i4 (i:=4) (N':=["place","turn","work"]) (src:=[none,none,some 3]) uo.nd Z (by first|exact Pd Z|exact O7 Z) Z (by exact(ky Z T.z_enumerate (ae (qv 1) ai af))) (λ_ _ _ _ _=>(by exact(by exact i6 (K:=K) (n:=2) (by exact Z) (by exact Z) (by exact bP (by exact aN (i:=0) (by show Po (["place","turn","work"]:List OV);decide +kernel) (by exact Z) (by first|exact Pd Z|exact O7 Z)) (by exact bP (by exact aN (i:=1) (by show Po (["place","turn","work"]:List OV);decide +kernel) (by exact Z) (by first|exact Pd Z|exact O7 Z)) fO))))) (λ_ _ _ _ _=>(eR (bM (by exact(uB (Ak T) (by exact hr.mono (by decide)) (by exact Z) T.m_Q26 T.F_Q26.kp T.b_Q26 (by exact .nil) (by exact cW) (ae (by exact(qv 2)) (ae (by exact(qv 1)) ai af) af)))))) (λ_ _ _ _ _=>(by exact(by exact(qv 0)))) (by exact⟨Z,Z,Z,Z,trivial⟩) Z (by decide +kernel) Z (by decide +kernel) (by exact bH Z ⟨Z,trivial⟩)) (au (cL (gv O8 Pe Pf bV (qv 2) (ae (lM (aT ix (aI aS (by rfl) T.z_len Qu (ae (qv 4) ai af)) aj (aQ _)) (aY (ae (cP cF (qv 4) aj) (ae (cP cF (qv 4) (i7 gj aj)) ai aL) aL)) lK) ai BL)))))) (au (aG (qv 2))))) ?_
 nofun
 have hlen:=al.len;refine⟨(by show 0≤sizeLine;exact ON _),λl h0=>?_⟩;have s0:=ao h0 (.lst []);let Iv1:Nat->L2.St->Hp->Prop:=λi σ H'=>∃(ys:List V) (x4 x5:Option V),σ=[some (.ref p),some (.ref q),some (.ref l),x4,x5]/\aD H H'/\H' l=some (.lst ys)/\di (tS K H') ys ((ws.take i).map (bz ls))
 refine⟨_,Z,p,Z,⟨_,aV.same (K:=K) s0 _ _ hS⟩,hX (K:=K) (a:=p) (xs:=xs) Iv1 ⟨[],none,none,Z,s0,ag,.nil⟩ (λi σ H1 _ ⟨_,_,_,_,sm,_⟩=>aV.same sm _ _ hS) ?_ ?_⟩
 ·rintro i x σ H1 hx ⟨ys,x4,x5,rfl,s1,hl1,al1⟩;obtain⟨w,hwi,wv⟩:=al.at hx;have hq1:=aV.same (K:=K) s1 _ _ hq;have nl:(bo ls).length=ls.length:=Ol _;refine⟨_,Z,q,Z,⟨_,hq1⟩,λD hD=>da (oh hq1) (λi=>fV w (ls.getD i 0)) (λi=>V.int i) hD (by omega) (λj y H' hj s' hy R E kR kE=>?_) λH4 s4 h4=>?_⟩
  ·obtain⟨pt,z,rfl,hz,hpt⟩:=hy;obtain⟨z',hz',rfl⟩:∃z',ls[j]?=some z'/\V.int (z':Nat)=z:=by
    unfold bo at hz;rw[OB] at hz;exact Pr.mp hz
   rw[aB 0 hz'] at kR kE;refine⟨pt,_,Z,bu.of hpt,Z,_,_,Z,_,_,Z,Z,(gX.set Z).set' Z,?_⟩;refine⟨_,Z,_,Z,x,w,z',Z,wv.mono (aV.same (s1.trans s')),_,Z,?_⟩
   cases c:fV w z' with
   |true=>exact cR ⟨_,Z,kR c _ (aD.refl _)⟩
   |false=>exact cV (kE c _ (aD.refl _))
  rw[nl] at h4
  replace h4:H4 D=some (.lst ((gr ls w).map λi:Nat=>V.int i)):=h4
  have hl4:=s4 _ _ hl1;have ne:D≠l:=λz=>by subst z;rw[hl1] at hD;cases hD
  have hle:=al1.len;rw[Ol,PX] at hle;have ewi:(ws.take (i+1)).map (bz ls)=(ws.take i).map (bz ls)++[bz ls w]:=by
   rw[Px,hwi,PJ];rfl
  refine⟨_,Z,.inl ⟨Z,_,ba.of hl4⟩,_,Z,D,_,Z,.inl (ba.of h4),_,_,Z,Z,_,Z,?_⟩
  cases c:gr ls w with
  |nil=>
   rw[c] at h4;refine cV ?_;refine⟨l,_,_,Z,Z,hl4,bn (by omega),?_⟩;refine⟨_,_,_,Z,?_,ag,?_⟩
   ·intro b o e;rw[ay (aR e h0)];exact s4 _ _ (s1 _ _ e)
   ·rw[ewi];refine(al1.mono λv d m=>m.mono ((aV.same s4).trans (aV.up hl4 _))).snoc ?_;unfold bz;rw[c];rfl
  |cons a r=>
   rw[c] at h4;refine cI (by show(0:Int)<((List.map (λi:Nat=>V.int i) (a::r)).length:Int);rw[Ol,Ph];omega) ?_;have hlast:rD ((a::r).map λi:Nat=>V.int i) (-1)=some (.int ((a::r).getLast (by simp):Nat)):=by
    have e:=Tf (show(a::r)≠[] by simp);have e2:(a::r).map (λi:Nat=>V.int i)=(a::r).dropLast.map (λi:Nat=>V.int i)++[V.int ((a::r).getLast (by simp):Nat)]:=by
     conv=>lhs;rw[←e]
     rw[PJ];rfl
    rw[e2];exact re _ _
   have hfst:rD ((a::r).map λi:Nat=>V.int i) 0=some (.int (a:Nat)):=bF (j:=0) Z;refine⟨_,Z,D,_,_,_,Z,Z,ba.of h4,hfst,_,Z,_,Z,D,_,_,_,Z,Z,ba.of h4,hlast,gC,λpt hpt=>?_⟩;have s5:=ao hpt (.tup [.int a,.int ((a::r).getLast (by simp):Nat)]);have hl5:=s5 _ _ hl4;refine⟨l,_,_,Z,Z,hl5,bn (by omega),?_⟩;refine⟨_,_,_,Z,?_,ag,?_⟩
   ·intro b o e;rw[ay (aR e h0)];exact s5 _ _ (s4 _ _ (s1 _ _ e))
   ·rw[ewi];refine(al1.mono λv d m=>m.mono (((aV.same s4).trans (aV.same s5)).trans (aV.up hl5 _))).snoc ?_;unfold bz;rw[c];exact⟨pt,Z,aV.up (K:=K) hl5 _ _ _ (bu.of ag)⟩
 ·rintro σ H1 ⟨ys,x4,x5,rfl,s1,hl1,al1⟩;rw[hlen,Pt] at al1;exact⟨_,Z,k l ys H1 s1 h0 hl1 al1⟩
theorem Ac(T:ef K mg t):bv P w K mg base dF 1 t.a_Q58 t.d_Q58 ["windows","begin","end"] (BT K):=by
 refine T.F_Q58.ok EU (λvs H Q E h=>?_) (λcdv A outer s H vs Q E hr h=>?_)
 ·obtain⟨_,_,_,_,rfl,_⟩:=h;rfl
 obtain⟨l,xs,os,p,rfl,hS,al,hn,k⟩:=h;refine dk.ok (au (aG (cm (N':=["number","window","begin","end"]) (src:=[none,none,some 1,some 2]) Z (by exact(lJ Z T.z_enumerate (ae (qv 0) ai af))) (λ_ _ _ _ _=>(by exact(by exact i6 (K:=K) (n:=2) (by exact Z) (by exact Z) (by exact bP (by exact aN (i:=0) (by show Po (["number","window","begin","end"]:List OV);decide +kernel) (by exact Z) (by first|exact Pd Z|exact O7 Z)) (by exact bP (by exact aN (i:=1) (by show Po (["number","window","begin","end"]:List OV);decide +kernel) (by exact Z) (by first|exact Pd Z|exact O7 Z)) fO))))) (λ_ _ _ _ _=>(eR (iu (lH (aT CP (by exact(qv 1)) lK (aQ _)) (lH (aT jR (by exact(qv 2)) (by exact(b7 (ci (K:=K) (by exact Z)) (by exact(qv 1)) aj (by exact λ_ _=>Z))) (aQ _)) (ux (aT jR (by exact(b7 (ci (K:=K) (by exact Z)) (by exact(qv 1)) aj (by exact λ_ _=>Z))) (by exact(qv 3)) (aQ _)))))))) (λ_ _ _ _ _=>(by exact(by exact(qv 0)))) (by exact⟨Z,Z,Z,Z,⟨Z,Z,Z,Z,trivial⟩⟩) Z (by decide +kernel) Z (by decide +kernel) (by exact bH Z ⟨Z,⟨Z,trivial⟩⟩)))) ?_;nofun
 have hlen:=al.len;refine⟨_,Z,l,Z,⟨_,hS⟩,λD hD=>da (tZ hS) (λi=>gw p.1 p.2 (os.getD i none)) (λi=>V.int i) hD (by omega) (λi y H' hi s' hx R E kR kE=>?_) λH4 s4 h4=>?_⟩
 ·obtain⟨pt,x,rfl,hx,hpt⟩:=hx;obtain⟨o,ho,ow⟩:=al.at hx;have eo:os.getD i none=o:=aB none ho;rw[eo] at kR kE;refine⟨pt,_,Z,bu.of hpt,Z,_,_,Z,_,_,Z,Z,(gX.set Z).set' Z,?_⟩
  cases o with
  |none=>
   obtain rfl:x=.non:=ow;exact⟨_,Z,Z,_,Z,cV (cV (kE Z _ (aD.refl _)))⟩
  |some q=>
   obtain⟨pw,rfl,hw⟩:=ow;have hw':=aV.same (K:=K) s' _ _ hw;refine⟨_,Z,Z,_,Z,cR ?_⟩;refine⟨_,Z,_,Z,pw,_,_,_,Z,Z,hw',Z,_,_,Z,Z,_,Z,?_⟩;by_cases c:p.1≤q.1
   ·refine cI (by omega) ?_;refine⟨_,Z,pw,_,_,_,Z,Z,hw',Z,_,Z,_,_,Z,Z,_,Z,?_⟩;by_cases c':q.2≤p.2
    ·refine cI (by omega) ?_;exact⟨_,Z,kR (by show(decide (p.1≤q.1)&&decide (q.2≤p.2))=true;rw[decide_eq_true c,decide_eq_true c'];rfl) _ (aD.refl _)⟩
    ·refine cv (by omega) ?_;exact kE (by show(decide (p.1≤q.1)&&decide (q.2≤p.2))=false;rw[decide_eq_false c',PV]) _ (aD.refl _)
   ·refine cv (by omega) (cV ?_);exact kE (by show(decide (p.1≤q.1)&&decide (q.2≤p.2))=false;rw[decide_eq_false c,Ra]) _ (aD.refl _)
 ·refine k D H4 s4 hD ?_;rw[h4,hlen];rfl
theorem Jj(T:ef K mg t):bv P w K mg base dF 2 t.a_Q2 t.d_Q2 ["windows","amounts","count"] (iF K):=by
 refine T.F_Q2.ok gG (λvs H Q E h=>?_) (λcdv A outer s H vs Q E hr h=>?_)
 ·obtain⟨_,_,_,_,_,_,rfl,_⟩:=h;rfl
 obtain⟨l,a,xs,os,as,n,rfl,hS,al,hn,ha,hlen,hb,n1,n24,k⟩:=h;refine dk.ok (ah (cC 3 gG.nd (aY (ae aj (ae aj ai ax) ax))) (ah (cC 4 gG.nd (i7 gj aj)) (ah (cC 5 gG.nd aj) (ah (cK OZ Z (dG Z T.z_range (ae (qv 2) ai af)) (aN (i:=6) gG.nd Z (by first|exact Pd Z|exact O7 Z)) (au (cK OZ Z (vN Z T.z_range (ae (aP jE (qv 2) aj) (ae (aP jE (qv 6) aj) (ae (i7 gj aj) ai iX) bw) bw)) (aN (i:=7) gG.nd Z (by first|exact Pd Z|exact O7 Z)) (ah (cC 8 gG.nd (aI (wL Z) (by rfl) T.z_sum boot_sum (ae (cm (N':=["number","amounts"]) (src:=[none,some 1]) Z (by exact(fm (cH (Ac T) hr T.m_Q58 T.F_Q58.kp T.b_Q58 (ae (qv 0) (ae (qv 6) (ae (qv 7) ai af) af) af)))) (λ_ _ _ _ _=>(by exact(by exact aN (i:=0) (by show Po (["number","amounts"]:List OV);decide +kernel) (by exact Z) (by first|exact Pd Z|exact O7 Z)))) (λ_ _ _ _ _=>eS) (λ_ _ _ _ _=>(by exact(by exact(b7 (dA (K:=K) (by exact Z)) (by exact(qv 1)) (by exact(qv 0)) (by exact λ_ _=>Z))))) (by exact⟨Z,Z,Z,Z,trivial⟩) Z (by decide +kernel) Z (by decide +kernel) (by exact bH Z ⟨Z,trivial⟩)) ai fN))) (ah (cC 9 gG.nd (aP dE (aP jE (qv 7) (qv 6)) aj)) (au (bZ (aT ix (aP gs (qv 8) (qv 5)) (aP gs (qv 4) (qv 9)) (aQ _)) (ah (cC 3 gG.nd (aY (ae (qv 6) (ae (qv 7) ai af) af))) (ah (cC 4 gG.nd (qv 8)) (au (cC 5 gG.nd (qv 9))))) bt))))))) (au (aG (qv 3))))))) ?_
 nofun
 have hxl:=al.len;have LB:=λq=>C9 hb hn q
 generalize hL:dj os (gU as)=L at LB k;refine⟨gC,λp0 h0=>?_⟩;have s0:=ao h0 (.tup [.int 0,.int 0]);let Iv1:Nat->L2.St->Hp->Prop:=λi σ H'=>∃(vb:Addr) (ld ln:Int) (x7 x8 x9 x10:Option V),σ=[some (.ref l),some (.ref a),some (.int n),some (.ref vb),some (.int ld),some (.int ln),x7,x8,x9,x10]/\aD H H'/\mJ K H' (gg n i n) L vb ld ln
 refine⟨_,Z,_,Z,n,Z,by omega,by omega,dI (lo:=0) (n:=(n:Int).toNat) Iv1 ⟨p0,-1,1,none,none,none,none,Z,s0,.inl ⟨Z,Z,λr hr=>?_⟩⟩ ?_ ?_⟩
 ·unfold gg im at hr;omega
 ·rintro i σ H1 hi ⟨vb,ld,ln,x7,x8,x9,x10,rfl,s1,best⟩;have hin:i<n:=by omega
  rw[UW];refine⟨_,Z,_,_,Z,Z,_,Z,_,_,Z,Z,_,Z,_,_,Z,⟨by omega,by omega,by omega,by omega⟩,AM (hi:=(n:Int)-1) (n:=((n:Int)-1-((i:Int)-1)).toNat) (λj σ H'=>∃(vb:Addr) (ld ln:Int) (x8 x9 x10:Option V),σ=[some (.ref l),some (.ref a),some (.int n),some (.ref vb),some (.int ld),some (.int ln),some (.int i),x8,x9,x10]/\aD H H'/\mJ K H' (gg n i (n-j)) L vb ld ln) ⟨vb,ld,ln,x8,x9,x10,Z,s1,best⟩ ?_ ?_⟩
  ·rintro j σ H2 hj ⟨vb,ld,ln,x8,x9,x10,rfl,s2,best⟩;obtain⟨e,he⟩:∃e:Nat,n-j=e+1:=⟨n-j-1,by omega⟩;rw[he] at best;rw[show(n:Int)-1-(j:Int)=(e:Nat) by omega,show n-(j+1)=e by omega];have t2:=aV.same (K:=K) s2;refine⟨_,Z,_,Z,_,Z,l,xs,os,(i,e),Z,s2.seq hS,al.mono (λ_ _ m=>m.mono t2),hn,λD H3 s3 hD h3=>?_⟩;refine⟨D,Z,⟨_,ba.of h3⟩,λE hE=>da (gY (ba.of h3)) (λ_=>true) (λm=>V.int (gU as ((cr os (i,e)).getD m 0))) hE ?_ (λm x H' hm s' hx R E kR kE=>?_) λH4 s4 h4=>?_⟩
   ·unfold bo cr;rw[Ol];have:=Py (λi_1=>gw i e (os.getD i_1 none)) (Og os.length);rw[PF] at this;exact OS this (by omega)
   ·unfold bo at hx;rw[OB] at hx;obtain⟨z,hz,rfl⟩:=Pr.mp hx;have q:=kR Z _ (aD.refl _);rw[aB 0 hz] at q;have hzl:z<os.length:=by
     have:=Os hz;unfold cr at this;exact Ow.mp (OL.mp this).1
    obtain⟨y,hy⟩:∃y,as[z]?=some y:=⟨_,Oh (by omega)⟩;rw[show gU as z=y from aB 0 hy] at q;exact⟨gX.set Z,_,Z,_,Z,a,_,_,_,Z,Z,((s2.trans s3).trans s').seq ha,bF (by rw[OB,hy];rfl),q⟩
   have e4:H4 E=some (.lst (((cr os (i,e)).map (gU as)).map V.int)):=by
    rw[h4,show(bo (cr os (i,e))).length=(cr os (i,e)).length from Ol _,dY 0 (λk=>V.int (gU as k)),Q4];rfl
   have s24:=s3.trans s4;have sH:=s2.trans s24;refine⟨E,_,Z,ba.of e4,?_⟩;have eL:((cr os (i,e)).map (gU as)).sum=L (i,e):=by rw[←hL];rfl
   rw[eL];have lb:=LB (i,e);have elen:(e:Int)-(i:Int)+1=bO (i,e):=Z;refine⟨_,Z,_,Z,_,_,Z,Z,_,_,Z,Z,?_⟩;have lp:1≤bO (i,e)/\bO (i,e)≤24:=by rw[←elen];omega
   have bl:(ld=-1∨(0≤ld/\ld≤3712529797363659169186468921117261837482364434277531982552264807327395690973815529780151756606928400960107528943425763712337056538406767796532469112140080186008009621859965818866174375367174479376680380006400000000000000000000000))/\0<ln/\ln≤24:=by
    rcases best with⟨r1,r2,_⟩ | ⟨q,_,r1,r2,b⟩
    ·exact⟨.inl r1,by omega,by omega⟩
    ·exact⟨.inr (by rw[r1];exact LB q),by rw[r2];exact(show im n q from b.inn.1).pos,by
      have z:=(show im n q from b.inn.1);unfold im at z;rw[r2];unfold bO;omega⟩
   refine⟨_,Z,_,Z,_,_,Z,Z,.inr ⟨by omega,by omega⟩,_,Z,_,Z,_,_,Z,Z,.inr ⟨by omega,by omega⟩,_,_,Z,Z,_,Z,?_⟩;have st:=λr=>rW (n:=n) (b:=i) (e:=e) (by omega) (by omega) r
   by_cases c:ld*bO (i,e)<L (i,e)*ln
   ·refine cI c ?_;refine⟨_,Z,_,Z,gC,λpt hpt=>?_⟩;have s5:=ao hpt (.tup [.int (i:Nat),.int (e:Nat)]);refine⟨_,Z,_,Z,?_⟩;refine⟨pt,L (i,e),bO (i,e),_,_,_,Z,sH.trans s5,.inr ⟨(i,e),bu.of ag,Z,Z,?_⟩⟩;rcases best with⟨_,_,r3⟩ | ⟨q,_,r1,r2,b⟩
    ·exact wQ λr=>⟨λh=>((st r).mp h).elim (λz=>absurd z (r3 r)) id,λh=>(st r).mpr (.inr h)⟩
    ·subst r1 r2;exact b.more (n:=n) (λr hr=>hr.1) st c
   ·refine cv c ?_;refine⟨vb,ld,ln,_,_,_,Z,sH,?_⟩;rcases best with⟨r1,r2,r3⟩ | ⟨q,hq,r1,r2,b⟩
    ·exfalso;subst r1 r2;apply c;omega
    ·subst r1 r2;refine .inr ⟨q,aV.same s24 _ _ hq,Z,Z,b.stay st (by omega) (.inl ?_)⟩;have:=b.inn;unfold gg at this;unfold tY;show q.1<i∨q.1=i/\e≤q.2;omega
  ·rintro σ H2 ⟨vb,ld,ln,x8,x9,x10,rfl,s2,best⟩;refine⟨vb,ld,ln,_,_,_,_,Z,s2,best.mono (λ_ _ h=>h) λr=>?_⟩;rw[show n-((n:Int)-1-((i:Int)-1)).toNat=i by omega];exact rX r
 ·rintro σ H1 ⟨vb,ld,ln,x7,x8,x9,x10,rfl,s1,best⟩;rw[show(n:Int).toNat=n by omega] at best;refine⟨_,Z,?_⟩;rcases best with⟨_,_,r3⟩ | ⟨q,hq,_,_,b⟩
  ·exact absurd (show gg n n n (0,0) from⟨⟨Oi _,by show 0<n;omega⟩,.inl (by show 0<n;omega)⟩) (r3 _)
  ·exact k vb q H1 s1 hq (b.congr vG)
theorem Gp(T:ef K mg t):bv P w K mg base dF 3 t.a_Q36 t.d_Q36 ["works","left"] (qo K):=by
 refine T.F_Q36.ok sg (λvs H Q E h=>?_) (λcdv A outer s H vs Q E hr h=>?_)
 ·obtain⟨_,_,_,_,rfl,_⟩:=h;rfl
 obtain⟨v,q,ws,ls,rfl,⟨p,xs,rfl,hS,al⟩,hw,ok,hq,l1,l24,k⟩:=h;refine dk.ok (ah (cC 2 sg.nd (cH (Je T) hr T.m_Q9 T.F_Q9.kp T.b_Q9 (ae (qv 0) (ae (qv 1) ai af) af))) (ah (cC 3 sg.nd (cH (Jj T) hr T.m_Q2 T.F_Q2.kp T.b_Q2 (ae (qv 2) (ae (cH (GB T) hr T.m_Q14 T.F_Q14.kp T.b_Q14 (ae (cm (N':=["work"]) (src:=[none]) Z (by exact(fg (qv 0))) (λ_ _ _ _ _=>(by exact(by exact aN (i:=0) (by show Po (["work"]:List OV);decide +kernel) (by exact Z) (by first|exact Pd Z|exact O7 Z)))) (λ_ _ _ _ _=>eS) (λ_ _ _ _ _=>(by exact(by exact(b7 (ci (K:=K) (by exact Z)) (by exact(qv 0)) aj (by exact λ_ _=>Z))))) (by exact trivial) Z (by decide +kernel) Z (by decide +kernel) (by exact bH Z trivial)) ai fN)) (ae (aI aS (by rfl) T.z_len Qu (ae (qv 1) ai af)) ai aH) aH) af))) (au (aG (aY (ae (zn BX (qv 1) (uz (cP aJ (qv 3) aj)) (uz (aP dE (cP aJ (qv 3) aj) aj))) (ae (bL bx (by rfl) T.z_tuple Qt (ae (cH (Ac T) hr T.m_Q58 T.F_Q58.kp T.b_Q58 (ae (qv 2) (ae (cP aJ (qv 3) aj) (ae (cP aJ (qv 3) aj) ai aL) aL) af)) ai aH)) ai aH) aL)))))) ?_
 nofun
 have nl:(bo ls).length=ls.length:=Ol _;refine⟨_,Z,_,Z,.ref p,q,ws,ls,Z,⟨p,xs,Z,hS,al⟩,hw,hq,l24,λl ys H1 s1 hl0 hl1 al1=>?_⟩;have t1:=aV.same (K:=K) s1;refine⟨_,Z,_,Z,p,Z,⟨_,t1 _ _ hS⟩,λD hD=>ia (K:=K) (P:=RV K) (ds:=ws) (f:=λw:Wk=>w.2.2) (λ_ _ _ _ t p=>p.mono t) hD (t1 _ _ hS) al.len (by omega) (λi x d H' hx hd s' R E kR=>?_) λH2 ys2 s2 hD2 al2=>?_⟩
 ·obtain⟨d',hd',pw,xw,rfl,hSw,rx⟩:=al.at hx;rw[hd] at hd'
  cases hd'
  have t':=aV.same (K:=K) (s1.trans s');exact⟨gX.set Z,_,Z,pw,_,_,_,Z,Z,t' _ _ hSw,Z,kR _ _ (aD.refl _) (rx.mono t')⟩
 refine⟨D,ys2,ws,Z,ba.of hD2,al2,hw,ok,λl2 B H3 s3 hl2 b0 bd dv hl3=>?_⟩;have s13:=s2.trans s3;have t13:=aV.same (K:=K) s13;have sH3:=s1.trans s13;refine⟨_,Z,q,_,Z,.inr (aV.same (K:=K) sH3 _ _ hq),?_⟩;refine⟨l,l2,ys,ws.map (bz ls),fh B ws,ls.length,(by rw[nl];rfl),s13.seq (ba.of hl1),al1.mono (λ_ _ m=>m.mono t13),by rw[Ol];exact hw,ba.of hl3,by unfold fh;rw[Ol,Ol],zZ ok b0 bd,l1,l24,λpp pl H4 s4 hpp bst=>?_⟩;have sec:=bst.inn;have c1:pl.1≤pl.2:=sec.1;have c2:pl.2<ls.length:=sec.2;have sH4:=sH3.trans s4;refine⟨_,Z,_,Z,pp,_,_,_,Z,Z,hpp,Z,_,Z,_,Z,pp,_,_,_,Z,Z,hpp,Z,_,_,Z,Z,_,Z,q,_,Z,aV.same (K:=K) sH4 _ _ hq,λpc H5 s5 hpc=>?_⟩;rw[show(pl.2:Int)+1=((pl.2+1:Nat):Int) by omega,Dp (by omega) (by omega)] at hpc;have t5:=aV.same (K:=K) s5;have t45:=aV.same (K:=K) (s13.trans (s4.trans s5));refine⟨_,Z,_,Z,pp,_,_,_,Z,Z,t5 _ _ hpp,Z,_,Z,pp,_,_,_,Z,Z,t5 _ _ hpp,Z,l,ys,ws.map (bz ls),pl,Z,(s13.trans (s4.trans s5)).seq (ba.of hl1),al1.mono (λ_ _ m=>m.mono t45),by rw[Ol];exact hw,λE H6 s6 hE hE6=>?_⟩;refine⟨E,_,Z,.inl ⟨ba.of hE6,λpe hpe=>?_⟩⟩;have s7:=ao hpe (.tup (bo (cr (ws.map (bz ls)) pl)));refine⟨gC,λpr hpr=>?_⟩;have s8:=ao hpr (.tup [.ref pc,.ref pe]);refine k (.ref pr) B pl _ ((((sH4.trans s5).trans s6).trans s7).trans s8) b0 bd dv bst ?_;exact⟨pr,pc,pe,Z,bu.of ag,aV.same (K:=K) ((s6.trans s7).trans s8) _ _ hpc,aV.same (K:=K) s8 _ _ (bu.of ag)⟩
theorem Gj(T:ef K mg t):bv P w K mg base dF 4 t.a_Q45 t.d_Q45 ["works"] (vA K):=by
 refine T.F_Q45.ok iJ (λvs H Q E h=>?_) (λcdv A outer s H vs Q E hr h=>?_)
 ·obtain⟨_,_,rfl,_⟩:=h;rfl
 obtain⟨v,ws,rfl,⟨p,xs,rfl,hS,al⟩,hw,ok,k⟩:=h;refine dk.ok (ah (cC 1 iJ.nd (bJ ai)) (ah (cC 2 iJ.nd (bL (qZ Z) (by rfl) T.z_tuple Qt (ae (uA Z T.z_range (ae (cD (v:=.int (24)) Z T.m_TURNS ⟨_,Z⟩) ai af)) ai aH))) (ah (cC 3 iJ.nd (aI aS (by rfl) T.z_len Qu (ae (qv 0) ai af))) (ah (gJ OZ (aT ix (qv 3) aj (aQ _)) (ah (cC 4 iJ.nd (cH (Gp T) hr T.m_Q36 T.F_Q36.kp T.b_Q36 (ae (qv 0) (ae (qv 2) ai af) af))) (ah (cL (gv O8 Pe Pf bV (qv 1) (ae (qv 4) ai af))) (ah (cC 2 iJ.nd (bL bx (by rfl) T.z_tuple Qt (ae (cm (N':=["turn","layer"]) (src:=[none,some 4]) Z (by exact(fg (qv 2))) (λ_ _ _ _ _=>(by exact(by exact aN (i:=0) (by show Po (["turn","layer"]:List OV);decide +kernel) (by exact Z) (by first|exact Pd Z|exact O7 Z)))) (λ_ _ _ _ _=>(eR (aT (mQ (K:=K) (by exact Z)) (by exact(qv 0)) (by exact(b7 (ci (K:=K) (by exact Z)) (by exact(qv 1)) aj (by exact λ_ _=>Z))) (by with_unfolding_all rfl)))) (λ_ _ _ _ _=>(by exact(by exact(qv 0)))) (by exact⟨Z,Z,Z,Z,trivial⟩) Z (by decide +kernel) Z (by decide +kernel) (by exact bH Z ⟨Z,trivial⟩)) ai fN))) (au (FC (i:=3) iJ.nd Z (by first|exact Pd Z|exact O7 Z) (aI aS (by rfl) T.z_len Qu (ae (cP aJ (qv 4) aj) ai aL)) GZ)))))) (au (aG (bL bx (by rfl) T.z_tuple Qt (ae (qv 1) ai af)))))))) ?_
 nofun
 have hlen:=al.len;refine⟨(by show 0≤sizeLine;exact ON _),λl h0=>?_⟩;have s0:=ao h0 (.lst []);have hl0:upd H l (.lst []) l=some (.lst []):=ag;refine⟨_,Z,λpr hpr=>?_⟩;have s1:=ao hpr (.rng 0 24);refine⟨pr,24,Z,ag,by decide,λq0 hq0=>?_⟩;have s2:=ao hq0 (.tup ((B.upTo 24).map V.int));have hq0':bu K (upd (upd (upd H l (.lst [])) pr (.rng 0 24)) q0 (.tup ((B.upTo 24).map V.int))) q0 (bo (Og 24)):=by
  have e:bo (Og 24)=(B.upTo 24).map V.int:=by unfold bo B.upTo;rw[Q4];rfl
  rw[e];exact bu.of (ag (H:=upd (upd H l (.lst [])) pr (.rng 0 24)) (a:=q0) (o:=.tup ((B.upTo 24).map V.int)))
 have s02:=(s0.trans s1).trans s2;have hl2:=s2 _ _ (s1 _ _ hl0);refine⟨_,Z,p,_,Z,.inr (aV.same (K:=K) s02 _ _ hS),?_⟩;have nf:=CV ok;let Iv1:Nat->L2.St->Hp->Prop:=λm σ H'=>∃(acc:List (List Nat×List Nat)) (ys:List V) (q:Addr) (ls:List Nat) (x5:Option V),σ=[some (.ref p),some (.ref l),some (.ref q),some (.int (uJ ws ls)),x5]/\aD H H'/\H' l=some (.lst ys)/\di (Ex K H') ys acc/\bu K H' q (bo ls)/\ls.Nodup/\(∀t∈ls,t<24)/\ls.length≤24/\acc.length+uJ ws ls≤ws.length/\(∀y∈acc,jP ws.length y)/\(∀r,jr ws ls r->jr ws (Og 24) (acc++r))/\m=uJ ws ls
 refine⟨Iv1,⟨_,[],[],q0,Og 24,none,(by rw[nf,hlen];rfl),s02,hl2,.nil,hq0',SW,(λt ht=>Ow.mp ht),by decide,(by rw[nf];exact RO (UY _)),(λy hy=>by cases hy),(λr h=>h),Z⟩,?_⟩;rintro m σ H1 ⟨acc,ys,q,ls,x5,rfl,sm,hl1,al1,hq,nd,lt,l24,few,lok,con,rfl⟩;refine⟨_,Z,_,_,Z,Z,_,Z,?_⟩;by_cases c:uJ ws ls=0
 ·refine cv (by omega) ?_;have ly:=con [] (.nil c);rw[Qe] at ly;refine⟨_,Z,l,_,Z,.inl ⟨ba.of hl1,λpt hpt=>?_⟩⟩;have s5:=ao hpt (.tup ys);exact k (.ref pt) acc _ (sm.trans s5) ⟨pt,ys,Z,bu.of ag,al1.mono λ_ _ m=>m.mono (aV.same s5)⟩ ly lok (by omega)
 ·refine cI (by omega) ?_;refine⟨_,λ_ _ z=>z,?_⟩;have ln1:1≤ls.length:=by
   cases ls with
   |nil=>exact absurd (GF ws) c
   |cons a r=>exact Se (ON _)
  refine⟨_,Z,_,Z,.ref p,q,ws,ls,Z,⟨p,xs,Z,aV.same (K:=K) sm _ _ hS,al.mono λ_ _ m=>m.mono (aV.same sm)⟩,hw,ok,hq,ln1,l24,λx B pl H2 s2 b0 bd dv bst lv=>?_⟩;have it:Bn ws ls pl:=GY ok (bst.scale b0 (by decide) λq=>nh _ λi _=>qh ok dv i) c;have sec:=pH it;have hl2:=s2 _ _ hl1;have hy:=al1.len;have sm2:=sm.trans s2;have lyo:jP ws.length (hV ws ls pl):=As sec l24 lt;refine⟨_,Z,.inl ⟨Z,_,ba.of hl2⟩,_,Z,l,_,_,Z,Z,hl2,bn (by omega),?_⟩;have t3:aV K H2 (upd H2 l (.lst (ys++[x]))):=aV.up hl2 _;have sm3:aD H (upd H2 l (.lst (ys++[x]))):=λb o e=>by rw[ay (aR e h0)];exact sm2 _ _ e
  have hl3:upd H2 l (.lst (ys++[x])) l=some (.lst (ys++[x])):=ag;have al3:di (Ex K (upd H2 l (.lst (ys++[x])))) (ys++[x]) (acc++[hV ws ls pl]):=(al1.mono λ_ _ m=>m.mono ((aV.same s2).trans t3)).snoc (lv.mono t3);have lv3:=lv.mono t3;have hq3:=t3 _ _ (aV.same (K:=K) s2 _ _ hq);generalize upd H2 l (.lst (ys++[x]))=H3 at sm3 hl3 al3 lv3 hq3 ⊢;obtain⟨pL,a,b,rfl,hpL,ha,hb⟩:=lv3;have nl:(bo ls).length=ls.length:=Ol _;refine⟨_,Z,q,Z,⟨_,hq3⟩,λD hD=>da (og hq3) (λi=>!(dm ls pl).contains (ls.getD i 0)) (λi=>V.int (ls.getD i 0:Nat)) hD (by omega) (λi x H' hi s' hx R E kR kE=>?_) λH4 s4 h4=>?_⟩
  ·unfold bo at hx;rw[OB] at hx;obtain⟨z,hz,rfl⟩:=Pr.mp hx;rw[aB 0 hz] at kR kE;have t':=aV.same (K:=K) s';refine⟨gX.set Z,_,Z,_,Z,pL,_,_,_,Z,Z,t' _ _ hpL,Z,a,_,Z,.inr (t' _ _ ha),Z,AN _,_,Z,?_⟩;have e:G2 (.int (z:Nat)) (bo (hV ws ls pl).1)=(dm ls pl).contains z:=Dc z (dm ls pl)
   cases cz:(dm ls pl).contains z with
   |true=>exact jc (by show(!G2 (.int (z:Nat)) (bo (hV ws ls pl).1))=false;rw[e,cz];rfl) (kE (by rw[cz];rfl) _ (aD.refl _))
   |false=>exact jW (by show(!G2 (.int (z:Nat)) (bo (hV ws ls pl).1))=true;rw[e,cz];rfl) ⟨_,Z,kR (by rw[cz];rfl) _ (aD.refl _)⟩
  rw[nl,fb 0 (λt=>!(dm ls pl).contains t) (λt:Nat=>V.int t)] at h4
  replace h4:H4 D=some (.lst (bo (dr ls pl))):=h4
  refine⟨D,_,Z,.inl ⟨ba.of h4,λqn hqn=>?_⟩⟩;have s5:=ao hqn (.tup (bo (dr ls pl)));have hqn5:bu K _ qn (bo (dr ls pl)):=bu.of (ag (H:=H4) (a:=qn) (o:=.tup (bo (dr ls pl))));have s35:=s4.trans s5;generalize upd H4 qn (.tup (bo (dr ls pl)))=H5 at s35 hqn5 ⊢;have t5:=aV.same (K:=K) s35;have rst:=CU (ws:=ws) nd sec;have hp:=it.held;have lb:(bo (hV ws ls pl).2).length=(cr (ws.map (bz ls)) pl).length:=Ol _;refine⟨_,Z,_,Z,pL,_,_,_,Z,Z,t5 _ _ hpL,Z,b,_,Z,.inr (t5 _ _ hb),_,_,Z,Z,?_⟩;have ew:((uJ ws ls:Nat):Int)-((bo (hV ws ls pl).2).length:Int)=((uJ ws (dr ls pl):Nat):Int):=by rw[lb];omega
  have rl:(dr ls pl).length≤ls.length:=Py _ _;refine⟨_,?_,acc++[hV ws ls pl],ys++[.ref pL],qn,dr ls pl,_,(by rw[←ew];rfl),sm3.trans s35,s35 _ _ hl3,al3.mono (λ_ _ m=>m.mono t5),hqn5,Cd nd pl,(λt ht=>lt t (OL.mp ht).1),by omega,(by rw[OQ];show acc.length+1+_≤_;omega),(λy hy=>?_),(λr hr=>?_),Z⟩
  ·omega
  ·rcases OU.mp hy with h|h
   ·exact lok y h
   ·rw[Ox.mp h];exact lyo
  ·have:=con _ (jr.cons it hr);rw[List.append_assoc];exact this
theorem Ji(T:ef K mg t):bv P w K mg base dF 4 t.a_Q3 t.d_Q3 ["works","layer"] (jx K):=by
 refine T.F_Q3.ok IF (λvs H Q E h=>?_) (λcdv A outer s H vs Q E hr h=>?_)
 ·obtain⟨_,_,_,_,rfl,_⟩:=h;rfl
 obtain⟨v,x,ws,y,rfl,⟨p,xs,rfl,hS,al⟩,hw,ok,lv,lok,k⟩:=h;refine dk.ok (au (aG (cH (Ge T) hr T.m_Q57 T.F_Q57.kp T.b_Q57 (ae (cH (Gg T) hr T.m_Q53 T.F_Q53.kp T.b_Q53 (ae (cm (N':=["number","works"]) (src:=[none,some 0]) Z (by exact(fg (b7 aJ (qv 1) aj (λ_ _=>Z)))) (λ_ _ _ _ _=>(by exact(by exact aN (i:=0) (by show Po (["number","works"]:List OV);decide +kernel) (by exact Z) (by first|exact Pd Z|exact O7 Z)))) (λ_ _ _ _ _=>eS) (λ_ _ _ _ _=>(by exact(by exact(b7 (ci (K:=K) (by exact Z)) (by exact(b7 (ci (K:=K) (by exact Z)) (by exact(qv 1)) (by exact(qv 0)) (by exact λ_ _=>Z))) aj (by exact λ_ _=>Z))))) (by exact⟨Z,Z,Z,Z,trivial⟩) Z (by decide +kernel) Z (by decide +kernel) (by exact bH Z ⟨Z,trivial⟩)) ai fN)) (ae (aY (ae (aI aS (by rfl) T.z_len Qu (ae (b7 aJ (qv 1) aj (λ_ _=>Z)) ai aL)) (ae aj ai ax) aH)) ai bb) aH)))) ?_;nofun
 have hSl:=al.len;obtain⟨pL,a,b,rfl,hpL,ha,hb⟩:=lv;have nb:(bo y.2).length=y.2.length:=Ol _;have na:(bo y.1).length=y.1.length:=Ol _;have len:=lok.len;refine⟨_,Z,pL,_,_,_,Z,Z,hpL,Z,b,Z,⟨_,hb⟩,λD hD=>ia (K:=K) (P:=RV K) (ds:=y.2) (f:=λi=>(ws.getD i bI).2.2) (λ_ _ _ _ t p=>p.mono t) hD hb nb (by omega) (λi x d H' hx hd s' R E kR=>?_) λH2 ys2 s2 hD2 al2=>?_⟩
 ·have hx':(bo y.2)[i]?=some (V.int (d:Nat)):=by unfold bo;rw[OB,hd];rfl
  rw[hx] at hx'
  cases hx'
  have hdl:=lok.num d (Os hd);obtain⟨xw,hxw⟩:∃xw,xs[d]?=some xw:=⟨_,Oh (by omega)⟩;obtain⟨w,hwd,pw,xa,rfl,hSw,rx⟩:=al.at hxw;rw[aB bI hwd] at kR;have t':=aV.same (K:=K) s';exact⟨gX.set Z,_,Z,_,Z,p,_,_,_,Z,Z,t' _ _ hS,bF hxw,pw,_,_,_,Z,Z,t' _ _ hSw,Z,kR _ _ (aD.refl _) (rx.mono t')⟩
 have wf:=Hj (n:=ws.length) ok lok;have la:(gT ws y).length=y.2.length:=Ol _;have am:∀r∈gT ws y,Bq 4834023173650597876544881407704768017555162023798869768948261467874213139288822304401239266415271355416806678311752296500438875701050478901734985823099062742197929195130163826648664551259341770021719244800000000000000000000000 12 r:=λr hr=>by
  obtain⟨i,hi,rfl⟩:=OD.mp hr;have hl:=lok.num i hi;rw[aB bI (Oh hl)];exact u7 (ok _ (OW hl)).am
 have sq:=((oy (by decide) am).mono (Q5 _) (show 12*(gT ws y).length≤768 by omega)).wf (n:=800) (by decide) (by decide) (by decide);refine⟨D,ys2,gT ws y,760,4834023173650597876544881407704768017555162023798869768948261467874213139288822304401239266415271355416806678311752296500438875701050478901734985823099062742197929195130163826648664551259341770021719244800000000000000000000000,Z,.inl (ba.of hD2),Dz al2,λr hr=>⟨wf r hr,(am r hr).dvd⟩,by decide,by decide,by omega,by decide,λv' H3 s3 rv3=>?_⟩;have t23:=aV.same (K:=K) (s2.trans s3);refine⟨_,Z,pL,_,_,_,Z,Z,t23 _ _ hpL,Z,a,_,Z,.inr (t23 _ _ ha),gC,λpt hpt=>?_⟩;rw[na];have s4:=ao hpt (.tup [.int (y.1.length:Int),.int 1]);have pos:=lok.pos;have few:=lok.few;refine⟨v',.ref pt,oA (gT ws y),800,y.1.length,Z,rv3.mono (aV.same s4),RV.of ag,sq,pos,few,by omega,λu H5 s5 r5=>?_⟩;exact k u H5 (((s2.trans s3).trans s4).trans s5) r5
theorem GD(T:ef K mg t):bv P w K mg base dF 5 t.a_Q10 t.d_Q10 ["works"] (j6 K):=by
 refine T.F_Q10.ok lF (λvs H Q E h=>?_) (λcdv A outer s H vs Q E hr h=>?_)
 ·obtain⟨_,_,rfl,_⟩:=h;rfl
 obtain⟨v,ws,rfl,⟨p,xs,rfl,hS,al⟩,hw,ok,k⟩:=h;refine dk.ok (ah (cC 1 lF.nd (aP uF (bJ (ae (cD (v:=.ref t.c_NOUGHT) Z T.m_NOUGHT Z) ai af)) (cD (v:=.int (24)) Z T.m_TURNS ⟨_,Z⟩))) (ah (cK OZ Z (fg (cH (Gj T) hr T.m_Q45 T.F_Q45.kp T.b_Q45 (ae (qv 0) ai af))) (aN (i:=2) lF.nd Z (by first|exact Pd Z|exact O7 Z)) (ah (cC 3 lF.nd (cH (Ji T) hr T.m_Q3 T.F_Q3.kp T.b_Q3 (ae (qv 0) (ae (qv 2) ai af) af))) (au (cK OZ Z (fg (cP aJ (qv 2) aj)) (aN (i:=4) lF.nd Z (by first|exact Pd Z|exact O7 Z)) (au (oV (qv 3) (oW (qv 1) (qv 4) iZ))))))) (au (aG (bL bx (by rfl) T.z_tuple Qt (ae (qv 1) ai af)))))) ?_
 nofun
 refine⟨BF,λl0 h0=>?_⟩;have s0:=ao h0 (.lst [.ref t.c_NOUGHT]);refine⟨l0,.ref t.c_NOUGHT,24,Z,Z,ag,by decide,λl hl=>?_⟩;have s1:=ao hl (.lst (Ou 24 (.ref t.c_NOUGHT)));have s01:=s0.trans s1;have hln:H l=none:=by
  cases e:H l with
  |none=>rfl
  |some o=>rw[s0 _ _ e] at hl;cases hl
 have hl1:upd (upd H l0 (.lst [.ref t.c_NOUGHT])) l (.lst (Ou 24 (.ref t.c_NOUGHT))) l=some (.lst (Ou 24 (.ref t.c_NOUGHT))):=ag;generalize upd (upd H l0 (.lst [.ref t.c_NOUGHT])) l (.lst (Ou 24 (.ref t.c_NOUGHT)))=H1 at hl1 s01 ⊢;refine⟨_,Z,.ref p,ws,Z,⟨p,xs,Z,aV.same (K:=K) s01 _ _ hS,al.mono λ_ _ m=>m.mono (aV.same s01)⟩,hw,ok,λx lys H2 s2 lv ly lok ll=>?_⟩;obtain⟨pl,xl,rfl,hpl,all⟩:=lv;have hl2:=s2 _ _ hl1;have s02:=s01.trans s2;have wvS:∀H',aD H H'->gf K H' (.ref p) ws:=λH' s=>⟨p,xs,Z,aV.same (K:=K) s _ _ hS,al.mono λ_ _ m=>m.mono (aV.same s)⟩
 have smS:∀H',dP l H2 H'->aD H H':=λH' S b o e=>S.keep b o (λz=>by subst z;rw[hln] at e;cases e) (s02 _ _ e)
 let Iv1:Nat->L2.St->Hp->Prop:=λi σ H'=>∃(ys:List V) (x3 x4 x5:Option V),σ=[some (.ref p),some (.ref l),x3,x4,x5]/\dP l H2 H'/\H' l=some (.lst ys)/\di (RV K H') ys (aX ws (lys.take i))
 refine⟨pl,Z,⟨_,hpl⟩,hX (K:=K) (a:=pl) (xs:=xl) Iv1 ⟨_,none,none,none,Z,dP.refl ⟨_,hl2⟩,hl2,di.rep ⟨_,Z,T.q_NOUGHT _⟩ 24⟩ (λi σ H' _ ⟨_,_,_,_,_,S,_⟩=>aV.step (K:=K) S _ _ hpl) ?_ ?_⟩
 ·rintro i x σ H3 hx ⟨ys,x3,x4,x5,rfl,S3,hl3,al3⟩;obtain⟨y,hy,lvy⟩:=all.at hx;have lyo:=lok y (Os hy);have sm3:=smS _ S3;have lv3:=lvy.mono (aV.step (K:=K) S3);refine⟨_,Z,_,Z,.ref p,x,ws,y,Z,wvS _ sm3,hw,ok,lv3,lyo,λsv H4 s4 rv4=>?_⟩;have hl4:=s4 _ _ hl3;have lv4:=lv3.mono (aV.same s4);obtain⟨pL,a,b,rfl,hpL,ha,hb⟩:=lv4;have S4:=S3.trans (dP.same s4 ⟨_,hl3⟩);have al4:=al3.mono λ_ _ m=>m.mono (aV.same s4)
  have ly24:=al4.len;rw[show(aX ws (lys.take i)).length=24 by unfold aX;rw[kr];rfl] at ly24;let Iv2:Nat->L2.St->Hp->Prop:=λj σ H'=>∃(zs:List V) (x5:Option V),σ=[some (.ref p),some (.ref l),some (.ref pL),some sv,x5]/\dP l H4 H'/\H' l=some (.lst zs)/\zs.length=24/\di (RV K H') zs (ii (dC ws y) (aX ws (lys.take i)) (y.1.take j))
  refine⟨_,Z,pL,_,_,_,Z,Z,hpL,Z,a,Z,⟨_,ha⟩,hX (K:=K) (a:=a) (xs:=bo y.1) Iv2 ⟨ys,_,Z,dP.refl ⟨_,hl4⟩,hl4,ly24,al4⟩ (λj σ H' _ ⟨_,_,_,S,_⟩=>aV.step (K:=K) S _ _ ha) ?_ ?_⟩
  ·rintro j tv σ H5 ht ⟨zs,x5,rfl,S5,hl5,zl,al5⟩;unfold bo at ht;rw[OB] at ht;obtain⟨tt,htt,rfl⟩:=Pr.mp ht;have lt:=lyo.lt tt (Os htt);refine⟨_,Z,_,Z,_,Z,l,zs,_,tt,Z,Z,hl5,pG (by omega),?_⟩;have t6:aV K H5 (upd H5 l (.lst (zs.set tt sv))):=aV.up hl5 _;refine⟨_,_,Z,S5.trans (dP.up hl5),ag,by rw[Qy];exact zl,?_⟩;have e:ii (dC ws y) (aX ws (lys.take i)) (y.1.take (j+1))=(ii (dC ws y) (aX ws (lys.take i)) (y.1.take j)).set tt (dC ws y):=by
    unfold ii;rw[Px,htt,R9];rfl
   rw[e];exact di.setI (rv4.mono ((aV.step (K:=K) S5).trans t6)) tt (al5.mono λ_ _ m=>m.mono t6)
  ·rintro σ H5 ⟨zs,x5,rfl,S5,hl5,zl,al5⟩;rw[show(bo y.1).length=y.1.length from Ol _,Pt] at al5;refine⟨zs,_,_,_,Z,S4.trans S5,hl5,?_⟩;have e:aX ws (lys.take (i+1))=ii (dC ws y) (aX ws (lys.take i)) y.1:=by
    unfold aX;rw[Px,hy,R9];rfl
   rw[e];exact al5
 ·rintro σ H3 ⟨ys,x3,x4,x5,rfl,S3,hl3,al3⟩;rw[all.len,Pt] at al3;refine⟨_,Z,l,_,Z,.inl ⟨ba.of hl3,λpt hpt=>?_⟩⟩;have s5:=ao hpt (.tup ys);exact k pt ys lys _ ((smS _ S3).trans s5) (bu.of ag) (al3.mono λ_ _ m=>m.mono (aV.same s5)) ly
theorem Jh(T:ef K mg t):bv P w K mg base dF 1 t.a_Q4 t.d_Q4 ["works","leanings","waiting"] (jz K):=by
 refine T.F_Q4.ok uq (λvs H Q E h=>?_) (λcdv A outer s H vs Q E hr h=>?_)
 ·obtain⟨_,_,_,_,_,_,_,_,rfl,_⟩:=h;rfl
 obtain⟨v,l,wl,ws,es,rows,L,ls,rfl,⟨p,xs,rfl,hS,al⟩,w8,m0,cl,hwl,lt,ne,l8,rk,k⟩:=h;refine dk.ok (ah (cC 3 uq.nd (aI (nV Z) (by rfl) T.z_min Xq (ae (cm (N':=["number","works"]) (src:=[none,some 0]) Z (by exact(fm (qv 2))) (λ_ _ _ _ _=>(by exact(by exact aN (i:=0) (by show Po (["number","works"]:List OV);decide +kernel) (by exact Z) (by first|exact Pd Z|exact O7 Z)))) (λ_ _ _ _ _=>eS) (λ_ _ _ _ _=>(by exact(by exact(b7 (ci (K:=K) (by exact Z)) (by exact(b7 (ci (K:=K) (by exact Z)) (by exact(qv 1)) (by exact(qv 0)) (by exact λ_ _=>Z))) aj (by exact λ_ _=>Z))))) (by exact⟨Z,Z,Z,Z,trivial⟩) Z (by decide +kernel) Z (by decide +kernel) (by exact bH Z ⟨Z,trivial⟩)) ai fN))) (ah (cC 4 uq.nd (cm (N':=["number","earliest","works"]) (src:=[none,some 3,some 0]) Z (by exact(fm (qv 2))) (λ_ _ _ _ _=>(by exact(by exact aN (i:=0) (by show Po (["number","earliest","works"]:List OV);decide +kernel) (by exact Z) (by first|exact Pd Z|exact O7 Z)))) (λ_ _ _ _ _=>(eR (aT f7 (by exact(b7 (ci (K:=K) (by exact Z)) (by exact(b7 (ci (K:=K) (by exact Z)) (by exact(qv 2)) (by exact(qv 0)) (by exact λ_ _=>Z))) aj (by exact λ_ _=>Z))) (by exact(qv 1)) (aQ _)))) (λ_ _ _ _ _=>(by exact(by exact(qv 0)))) (by exact⟨Z,Z,Z,Z,⟨Z,Z,Z,Z,trivial⟩⟩) Z (by decide +kernel) Z (by decide +kernel) (by exact bH Z ⟨Z,⟨Z,trivial⟩⟩))) (ah (zi (i:=5) (N':=["number","like","leanings"]) (y := "number") (src:=[none,some 4,some 1]) uq.nd Z (by first|exact Pd Z|exact O7 Z) Z (by exact(fm (qv 4))) (λ_ _ _ _ _=>(by exact(by exact aN (i:=0) (by show Po (["number","like","leanings"]:List OV);decide +kernel) (by exact Z) (by first|exact Pd Z|exact O7 Z)))) (λ_ _ _ _ _=>(eR (cJ (bM (by exact(aI (tG (K:=K) (by exact Z) (by exact Z)) (by exact Z) T.z_any boot_any (ae (by exact(vO (N':=["base","leanings","number"]) (src:=[none,some 2,some 0]) (by exact Z) (by exact Z) (by exact(zk (K:=K) (by exact Z) (by exact(qv 1)))) (by exact λ_ _ _ _ _=>(by exact(by exact aN (i:=0) (by show Po (["base","leanings","number"]:List OV);decide +kernel) (by exact Z) (by first|exact Pd Z|exact O7 Z)))) (by exact λ_ _ _ _ _=>eS) (by exact λ_ _ _ _ _=>(by exact(by exact(b7 (dA (K:=K) (by exact Z)) (by exact(b7 (dA (K:=K) (by exact Z)) (by exact(qv 1)) (by exact(qv 2)) (by exact λ_ _=>Z))) (by exact(qv 0)) (by exact λ_ _=>Z))))) (by exact⟨Z,Z,Z,Z,⟨Z,Z,Z,Z,trivial⟩⟩) (by decide +kernel) (by exact Z) (by decide +kernel) (by exact bH Z ⟨Z,⟨Z,trivial⟩⟩))) ai fN))))))) (λ_ _ _ _ _=>(by exact(by exact(qv 0)))) (by exact⟨Z,Z,Z,Z,⟨Z,Z,Z,Z,trivial⟩⟩) Z (λ_=>Z) (λ_=>Z) Z (by decide +kernel) (by exact wK Z ⟨Z,⟨Z,trivial⟩⟩ Z)) (au (aG (cP cF (qv 5) aj)))))) ?_
 nofun
 have lx:xs.length=ws.length:=al.len;have lv:(bo ls).length=ls.length:=Ol _;have pos:0<ls.length:=Vz.mpr ne;have at_:∀{H':Hp},aD H H'->∀i,i<ws.length->∃pw x,xs[i]?=some (.ref pw)/\bu K H' pw [.int (ws.getD i bI).1,.int (bi ws i:Nat),x]:=λ{H'} s i hi=>by
  have e:xs[i]?=some (xs[i]'(by omega)):=Oh _;obtain⟨w,hw,pw,x,ex,hSw,_⟩:=al.at e;refine⟨pw,x,by rw[e,ex],?_⟩;have g:ws.getD i bI=w:=aB bI hw;unfold bi;rw[g];exact aV.same s _ _ hSw
 have nat_:∀{zs:List Nat} {i:Nat} {x:V},(bo zs)[i]?=some x->∃n,zs[i]?=some n/\x=.int (n:Nat):=λ{zs i x} h=>by
  unfold bo at h;rw[OB] at h;obtain⟨n,hn,rfl⟩:=Pr.mp h;exact⟨n,hn,Z⟩
 refine⟨_,Z,wl,Z,⟨_,hwl⟩,λD1 hD1=>da (gY hwl) (λ_=>true) (λi=>V.int (bi ws (ls.getD i 0):Nat)) hD1 (by omega) (λi x H' hi sm hx Rk E kR _=>?_) λH1 s1 h1=>?_⟩
 ·obtain⟨n,hn,rfl⟩:=nat_ hx;obtain⟨pw,y,ex,hSw⟩:=at_ sm n (lt n (Os hn));rw[aB 0 hn] at kR;exact⟨gX.set Z,_,Z,_,Z,p,_,_,_,Z,Z,aV.same sm _ _ hS,bF ex,pw,_,_,_,Z,Z,hSw,Z,kR Z _ (aD.refl _)⟩
 have e1:((Og (bo ls).length).filter λ_=>true).map (λi=>V.int (bi ws (ls.getD i 0):Nat))=(ls.map λi=>((bi ws i:Nat):Int)).map V.int:=by
  rw[lv,Q4];exact dY 0 (λn=>V.int (bi ws n:Nat)) ls
 rw[e1] at h1;refine⟨D1,_,Z,ba.of h1,by rw[Ol];exact pos,λM hM hle=>?_⟩;have key:∀i,i∈ls->(((bi ws i:Nat):Int)=M↔∀j∈ls,bi ws i≤bi ws j):=λi hi=>by
  constructor
  ·intro e j hj;have:=hle _ (OD.mpr ⟨j,hj,Z⟩);omega
  ·intro h;obtain⟨j,hj,e⟩:=OD.mp hM;have a:=h j hj;have b:=hle _ (OD.mpr ⟨i,hi,Z⟩);omega
 have hw1:ba K H1 wl (bo ls):=s1.seq hwl;refine⟨_,Z,wl,Z,⟨_,hw1⟩,λD2 hD2=>da (gY hw1) (λi=>ls.all λj=>decide (bi ws (ls.getD i 0)≤bi ws j)) (λi=>V.int (ls.getD i 0:Nat)) hD2 (by omega) (λi x H' hi sm hx Rk E kR kE=>?_) λH2 s2 h2=>?_⟩
 ·obtain⟨n,hn,rfl⟩:=nat_ hx;have sm':=s1.trans sm;have mn:=Os hn;obtain⟨pw,y,ex,hSw⟩:=at_ sm' n (lt n mn);rw[aB 0 hn] at kR kE;refine⟨gX.set Z,_,Z,_,Z,p,_,_,_,Z,Z,aV.same sm' _ _ hS,bF ex,pw,_,_,_,Z,Z,hSw,Z,_,Z,Z,_,Z,?_⟩;by_cases c:((bi ws n:Nat):Int)=M
  ·refine cI (by rw[c]) ⟨_,Z,kR ?_ _ (aD.refl _)⟩;rw[Qj];exact λj hj=>decide_eq_true ((key n mn).mp c j hj)
  ·refine cv (λz=>c (by injection z)) (kE ?_ _ (aD.refl _))
   cases q:ls.all λj=>decide (bi ws n≤bi ws j) with
   |false=>rfl
   |true=>
    rw[Qj] at q;exact absurd ((key n mn).mpr λj hj=>of_decide_eq_true (q j hj)) c
 have e2:((Og (bo ls).length).filter λi=>ls.all λj=>decide (bi ws (ls.getD i 0)≤bi ws j)).map (λi=>V.int (ls.getD i 0:Nat))=bo (f9 ws ls):=by
  rw[lv];exact fb 0 (λn=>ls.all λj=>decide (bi ws n≤bi ws j)) (λn=>V.int (n:Nat)) ls
 rw[e2] at h2;have s12:=s1.trans s2;have lkl:∀i∈f9 ws ls,i<ws.length:=λi hi=>lt i (f8.mp hi).1
 have ll:(f9 ws ls).length≤ls.length:=Py _ _;have lk:(bo (f9 ws ls)).length=(f9 ws ls).length:=Ol _;have hl2:ba K H2 D2 (bo (f9 ws ls)):=ba.of h2;generalize hlk:f9 ws ls=lk_ at h2 hl2 lkl ll lk;refine⟨_,Z,D2,Z,⟨_,hl2⟩,λD3 hD3=>da (gY hl2) (λi=>!lk_.any (fP es (lk_.getD i 0))) (λi=>V.int (lk_.getD i 0:Nat)) hD3 (by omega) (λi x H' hi sm hx Rk E kR kE=>?_) λH3 s3 h3=>?_⟩
 ·obtain⟨n,hn,rfl⟩:=nat_ hx;have mn:=Os hn;have nl:=lkl n mn;have sm':=s12.trans sm;have hl3:ba K H' D2 (bo lk_):=sm.seq hl2;have mm:=m0.same sm';rw[aB 0 hn] at kR kE;refine⟨gX.set Z,_,Z,D2,Z,⟨_,hl3⟩,λD4 hD4=>da (gY hl3) (λ_=>true) (λj=>V.bl (fP es n (lk_.getD j 0))) hD4 (by omega) (λj y H5 hj sm5 hy Rk2 E2 kR2 _=>?_) λH6 s6 h6=>?_⟩
  ·obtain⟨b,hb,rfl⟩:=nat_ hy;have bl:=lkl b (Os hb);have m5:=mm.same sm5;obtain⟨rr,hrr⟩:∃r,rows[n]?=some r:=⟨_,Oh (by rw[mm.len];exact nl)⟩;have hrow:=m5.row n rr hrr;rw[aB 0 hb] at kR2;have ev:L n b=fP es n b:=by rw[Qd,jH];exact cl n b nl bl
   refine⟨gX.set Z,_,Z,_,Z,l,_,_,_,Z,Z,ba.of m5.top,bF (show(rows.map V.ref)[n]?=some (V.ref rr) by rw[OB,hrr];rfl),_,Z,rr,_,_,_,Z,Z,ba.of hrow,bF (oR bl),?_⟩;rw[ev];exact kR2 Z _ (aD.refl _)
  ·have e6:((Og (bo lk_).length).filter λ_=>true).map (λj=>V.bl (fP es n (lk_.getD j 0)))=(lk_.map (fP es n)).map V.bl:=by
    rw[lk,Q4];exact dY 0 (λb=>V.bl (fP es n b)) lk_
   rw[e6] at h6;refine⟨D4,_,Z,ba.of h6,_,Z,?_⟩;rw[Wm];have ea:lk_.any (id∘fP es n)=lk_.any (fP es n):=Z;rw[ea]
   cases c:lk_.any (fP es n) with
   |false=>exact jW (b:=!false) Z ⟨_,Z,kR (by rw[c];rfl) _ s6⟩
   |true=>exact jc (b:=!true) Z (kE (by rw[c];rfl) _ s6)
 have e3:((Og (bo lk_).length).filter λi=>!lk_.any (fP es (lk_.getD i 0))).map (λi=>V.int (lk_.getD i 0:Nat))=bo (je ws es ls):=by
  rw[lk];unfold je;rw[hlk];exact fb 0 (λn=>!lk_.any (fP es n)) (λn=>V.int (n:Nat)) lk_
 rw[e3] at h3;have nx:=kA (ws:=ws) rk ne;refine⟨_,Z,D3,_,_,_,Z,Z,ba.of h3,bF (j:=0) (show(bo (je ws es ls))[0]?=some (V.int (gM ws es ls:Nat)) by unfold bo;rw[OB,nx];rfl),k _ (s12.trans s3)⟩
theorem Go(T:ef K mg t):bv P w K mg base dF 3 t.a_Q37 t.d_Q37 ["works","leans"] (qq K):=by
 refine T.F_Q37.ok lA (λvs H Q E h=>?_) (λcdv A outer s H vs Q E hr h=>?_)
 ·obtain⟨_,_,_,_,rfl,_⟩:=h;rfl
 obtain⟨v,u,ws,es,rfl,ak,k⟩:=h;refine dk.ok (ah (cC 2 lA.nd (cH (Ef T) hr T.m_Q8 T.F_Q8.kp T.b_Q8 (ae (aI aS (by rfl) T.z_len Qu (ae (qv 0) ai af)) (ae (qv 1) ai af) aH))) (ah (cC 3 lA.nd (bL (tD Z) (by rfl) T.z_list boot_list (ae (uA Z T.z_range (ae (aI aS (by rfl) T.z_len Qu (ae (qv 0) ai af)) ai aH)) ai aH))) (ah (cC 4 lA.nd (bJ ai)) (ah (gJ OZ (aT ix (aI aS (by rfl) T.z_len Qu (ae (qv 3) ai af)) aj (aQ _)) (ah (cC 5 lA.nd (cH (Jh T) hr T.m_Q4 T.F_Q4.kp T.b_Q4 (ae (qv 0) (ae (qv 2) (ae (qv 3) ai af) af) af))) (ah (cL (gv O8 PySem.F.slot_list_remove PySem.F.type_list_remove C6 (qv 3) (ae (qv 5) ai af))) (au (cL (gv O8 Pe Pf bV (qv 4) (ae (qv 5) ai af))))))) (au (aG (qv 4))))))) ?_
 nofun
 obtain⟨p,xs,rfl,hS,al⟩:=id ak.wv;have lx:xs.length=ws.length:=al.len;have w8:=ak.w8;refine⟨_,Z,p,_,Z,.inr hS,_,Z,ws.length,u,es,(by rw[←lx];rfl),ak.lv,ak.eok,by omega,λlm rows L H1 s1 m1 c1=>?_⟩;have hS1:=aV.same (K:=K) s1 _ _ hS;refine⟨_,Z,p,_,Z,.inr hS1,_,Z,λpr hpr=>?_⟩;rw[lx];have s2:=ao hpr (.rng 0 ws.length);refine⟨pr,ws.length,Z,ag,by omega,λwl hwl=>?_⟩;have s3:=ao hwl (.lst ((B.upTo ws.length).map V.int));have s23:=s2.trans s3;have hw3:upd (upd H1 pr (.rng 0 ws.length)) wl (.lst ((B.upTo ws.length).map V.int)) wl=some (.lst ((B.upTo ws.length).map V.int)):=ag;have wl0:H1 wl=none:=by
  cases e:H1 wl with
  |none=>rfl
  |some o=>rw[s2 _ _ e] at hwl;cases hwl
 generalize upd (upd H1 pr (.rng 0 ws.length)) wl (.lst ((B.upTo ws.length).map V.int))=H3 at s23 hw3 ⊢;refine⟨(by show 0≤sizeLine;exact ON _),λlo hlo=>?_⟩;have s4:=ao hlo (.lst []);have nlw:lo≠wl:=λz=>by subst z;rw[hw3] at hlo;cases hlo
 have hw4:=s4 _ _ hw3;have ho4:upd H3 lo (.lst []) lo=some (.lst []):=ag;have s14:=s23.trans s4;have lo0:H1 lo=none:=by
  cases e:H1 lo with
  |none=>rfl
  |some o=>rw[s23 _ _ e] at hlo;cases hlo
 have eup:(B.upTo ws.length).map V.int=bo (bX ws.length (aK ws es 0)):=by
  show _=bo ((Og ws.length).filter λi=>!([]:List Nat).contains i);have e:(Og ws.length).filter (λi=>!([]:List Nat).contains i)=Og ws.length:=Q0.mpr λi _=>Z
  rw[e];unfold B.upTo bo;rw[Q4];rfl
 rw[eup] at hw4;generalize upd H3 lo (.lst [])=H4 at s14 hw4 ho4 ⊢;have keep:∀H',(∀b o,b≠wl->b≠lo->H4 b=some o->H' b=some o)->aD H1 H':=λH' kp b o e=>kp b o (λz=>by subst z;rw[wl0] at e;cases e) (λz=>by subst z;rw[lo0] at e;cases e) (s14 _ _ e)
 let Iv1:Nat->L2.St->Hp->Prop:=λm σ H'=>∃(i:Nat) (x5:Option V),σ=[some (.ref p),some u,some (.ref lm),some (.ref wl),some (.ref lo),x5]/\(∀b o,b≠wl->b≠lo->H4 b=some o->H' b=some o)/\H' wl=some (.lst (bo (bX ws.length (aK ws es i))))/\H' lo=some (.lst (bo (aK ws es i)))/\i≤ws.length/\m=ws.length-i
 refine⟨Iv1,⟨_,0,none,Z,λ_ _ _ _ e=>e,hw4,ho4,ON _,Z⟩,?_⟩;rintro m σ H5 ⟨i,x5,rfl,kp,hw5,ho5,hi,rfl⟩;have oi:=dB (es:=es) ak.rk i hi;have s5:=keep H5 kp;have wl_:=oi.wl;refine⟨_,Z,wl,_,Z,.inl (ba.of hw5),_,_,Z,Z,_,Z,?_⟩;have lnv:(bo (bX ws.length (aK ws es i))).length=(bX ws.length (aK ws es i)).length:=Ol _;by_cases c:i<ws.length
 ·refine cI (by omega) ⟨_,λ_ _ z=>z,?_⟩;obtain⟨oi1,j,hj,ej⟩:=oi.step ak.rk c;refine⟨_,Z,_,Z,_,Z,.ref p,lm,wl,ws,es,rows,L,bX ws.length (aK ws es i),Z,⟨p,xs,Z,aV.same s5 _ _ hS1,(al.mono λ_ _ z=>z.mono (aV.same s1)).mono λ_ _ z=>z.mono (aV.same s5)⟩,w8,m1.same s5,c1,ba.of hw5,(λn hn=>(eX.mp hn).1),oi.ne c,by omega,ak.rk,λH6 s6=>?_⟩;refine⟨_,Z,.inl ⟨Z,_,ba.of (s6 _ _ hw5)⟩,_,Z,wl,_,j,_,Z,Z,s6 _ _ hw5,hj,AO (ua _ _) hj,?_⟩;rw[ej];have ho6:=s6 _ _ ho5;have ho7:upd H6 wl (.lst ((bX ws.length (aK ws es (i+1))).map λi:Nat=>V.int i)) lo=some (.lst (bo (aK ws es i))):=by rw[ay nlw];exact ho6
  refine⟨_,Z,.inl ⟨Z,_,ba.of ho7⟩,_,Z,lo,_,_,Z,Z,ho7,bn (by unfold bo;rw[Ol,oi.len];omega),?_⟩;refine⟨_,(by omega),i+1,_,Z,λb o n1 n2 e=>?_,?_,?_,c,Z⟩
  ·rw[ay n2,ay n1];exact s6 _ _ (kp b o n1 n2 e)
  ·rw[ay (Rw nlw),ag];rfl
  ·rw[ag];show some (HO.lst (bo (aK ws es i)++[_]))=some (HO.lst (bo (aK ws es i++[_])));unfold bo;rw[PJ];rfl
 ·refine cv (by omega) ?_;have e:i=ws.length:=by omega
  subst e;exact⟨_,Z,k lo H5 (s1.trans s5) (by
   cases e:H lo with
   |none=>rfl
   |some o=>rw[s1 _ _ e] at lo0;cases lo0) ho5⟩
theorem Gu(T:ef K mg t):bv P w K mg base dF 4 t.a_Q27 t.d_Q27 ["works","order","left","turn","speed"] (oH K):=by
 refine T.F_Q27.ok jA (λvs H Q E h=>?_) (λcdv A outer s H vs Q E hr h=>?_)
 ·obtain⟨_,_,_,_,_,_,_,_,_,_,rfl,_⟩:=h;rfl
 obtain⟨v,u,o,lf,ws,ord,xs,rs,t_,sp,rfl,⟨p,xw,rfl,hS,al⟩,ho,hlf,nol,alr,lr,okr,hu,asp,olt,o8,k⟩:=h;refine dk.ok (ah (cC 5 jA.nd (bJ ai)) (ah (cC 6 jA.nd (qv 4)) (ah (cK OZ Z (fm (qv 1)) (aN (i:=7) jA.nd Z (by first|exact Pd Z|exact O7 Z)) (ah (bZ (cJ (bM (cH (Ak T) hr T.m_Q26 T.F_Q26.kp T.b_Q26 (ae (cP aJ (qv 0) (qv 7)) (ae (qv 3) ai af) aL)))) (au qF) bt) (ah (cC 8 jA.nd (cH (Gk T) hr T.m_Q44 T.F_Q44.kp T.b_Q44 (ae (cP cF (qv 2) (qv 7)) (ae (qv 6) ai af) aL))) (au (bZ (aT (iL hr) (qv 8) (cD (v:=.ref t.c_NOUGHT) Z T.m_NOUGHT Z) (aQ _)) (ah (cL (gv O8 Pe Pf bV (qv 5) (ae (aY (ae (qv 7) (ae (qv 8) ai af) af)) ai bb))) (ah (oV (cH (sL T) hr T.m_Q51 T.F_Q51.kp T.b_Q51 (ae (cP cF (qv 2) (qv 7)) (ae (qv 8) ai af) aL)) (oW (qv 2) (qv 7) iZ)) (au (cC 6 jA.nd (cH (sL T) hr T.m_Q51 T.F_Q51.kp T.b_Q51 (ae (qv 6) (ae (qv 8) ai af) af)))))) bt))))) (au (aG (bL bx (by rfl) T.z_tuple Qt (ae (qv 5) ai af))))))) ?_
 nofun
 refine⟨(by show 0≤sizeLine;exact ON _),λdl hdl=>?_⟩;have s1:=ao hdl (.lst []);have hd1:upd H dl (.lst []) dl=some (.lst []):=ag;have ndf:dl≠lf:=λz=>by subst z;rw[hlf] at hdl;cases hdl
 have ndo:dl≠o:=λz=>by subst z;rw[ho] at hdl;cases hdl
 have hlf1:=s1 _ _ hlf;have ho1:=s1 _ _ ho;generalize upd H dl (.lst [])=H1 at s1 hd1 hlf1 ho1 ⊢;have l12:∀r∈[dl,lf],∃xs,H1 r=some (.lst xs):=λr m=>by
  rcases Ov.mp m with z|z
  ·exact⟨_,by rw[z];exact hd1⟩
  ·exact⟨_,by rw[Ox.mp z];exact hlf1⟩
 have t1:=aV.same (K:=K) s1;have onot:o∉[dl,lf]:=λm=>by
  rcases Ov.mp m with z|z
  ·exact ndo z.symm
  ·exact nol (Ox.mp z)
 have md:dl∈[dl,lf]:=Oq;have ml:lf∈[dl,lf]:=Ot _ Oq;let Iv1:Nat->L2.St->Hp->Prop:=λi σ H'=>∃(rv:V) (zs ys:List V) (st:tV) (x8 x9:Option V),σ=[some (.ref p),some (.ref o),some (.ref lf),some (.int (t_:Nat)),some u,some (.ref dl),some rv,x8,x9]/\st=(ord.take i).foldl (bT ws t_) (rs,sp,[])/\Kp [dl,lf] H1 H'/\H' lf=some (.lst zs)/\di (RV K H') zs st.1/\RV K H' rv st.2.1/\H' dl=some (.lst ys)/\di (Bw K H') ys st.2.2/\vh ws.length st/\st.2.2.length≤i
 refine⟨_,Z,_,Z,o,Z,⟨_,ba.of ho1⟩,mh (K:=K) (a:=o) (xs:=bo ord) Iv1 ⟨u,xs,[],(rs,sp,[]),none,none,Z,Z,Kp.same (aD.refl _) l12,hlf1,alr.mono λ_ _ z=>z.mono t1,hu.mono t1,hd1,.nil,⟨lr,okr,asp,λp hp=>by cases hp⟩,Oi _⟩ (λi σ H' _ ⟨_,_,_,_,_,_,_,_,kp,_⟩=>ba.of (kp.keep _ _ onot ho1)) ?_ ?_⟩
 ·rintro i x σ H3 hx ⟨rv,zs,ys,st,x8,x9,rfl,est,kp,hl3,alz,hrv,hd3,aly,dok,few⟩;obtain⟨n,hn,rfl⟩:=C4 hx;have nl:=olt n (Os hn);have i8:i<ord.length:=(OH.mp hn).1;have t3:=t1.trans (aV.kp kp);have es:(ord.take (i+1)).foldl (bT ws t_) (rs,sp,[])=bT ws t_ st n:=by rw[Px,hn,R9,est];rfl
  obtain⟨wv,hwv⟩:∃wv,xw[n]?=some wv:=⟨_,Oh (by rw[al.len];exact nl)⟩;obtain⟨w,hw,hwk⟩:=al.at hwv;have ew:ws.getD n bI=w:=aB bI hw;obtain⟨zv,hzv⟩:∃zv,zs[n]?=some zv:=⟨_,Oh (by rw[alz.len,dok.len];exact nl)⟩;obtain⟨r,hr_,hrz⟩:=alz.at hzv;have er:st.1.getD n (0,1)=r:=aB (0,1) hr_;have ar:fJ r:=dok.lf r (Os hr_);refine⟨_,Z,_,Z,p,_,_,_,Z,Z,t3 _ _ hS,bF hwv,_,Z,_,w,t_,Z,hwk.mono t3,_,Z,?_⟩;obtain⟨dk1,fw1⟩:=dok.step (ws:=ws) (t:=t_) nl
  cases c:fV w t_ with
  |false=>
   refine jW (b:=!false) Z ?_;have e0:bT ws t_ st n=st:=by
    unfold bT;rw[if_neg];rintro⟨z,_⟩;rw[ew,c] at z
    cases z
   exact⟨rv,zs,ys,st,_,_,Z,(es.trans e0).symm,kp,hl3,alz,hrv,hd3,aly,dok,by omega⟩
  |true=>
   refine jc (b:=!true) Z ?_;refine⟨_,Z,_,Z,lf,_,_,_,Z,Z,ba.of hl3,bF hzv,_,Z,_,rv,r,st.2.1,Z,hrz,hrv,ar,dok.rm,λa ha=>?_⟩;have aa:=pE ar dok.rm;generalize ea:eZ r st.2.1=am at ha aa;refine⟨_,Z,dR am,dR (0,1),ha.deep,RV.deep ⟨_,Z,T.q_NOUGHT _⟩,Z,Z,jj _,_,Z,?_⟩;rw[kF];by_cases cz:am=(0,1)
   ·refine jc (b:=!decide (am=(0,1))) (by rw[decide_eq_true cz];rfl) ?_;have e0:bT ws t_ st n=st:=by
     unfold bT;rw[if_neg];rintro⟨_,z⟩;rw[er,ea] at z;exact z cz
    exact⟨rv,zs,ys,st,_,_,Z,(es.trans e0).symm,kp,hl3,alz,hrv,hd3,aly,dok,by omega⟩
   ·refine jW (b:=!decide (am=(0,1))) (by rw[decide_eq_false cz];rfl) ?_;have e1:bT ws t_ st n=(st.1.set n (bG r am),bG st.2.1 am,st.2.2++[(n,am)]):=by
     unfold bT;rw[if_pos ⟨by rw[ew];exact c,by rw[er,ea];exact cz⟩,er,ea]
    refine⟨_,Z,.inl ⟨Z,_,ba.of hd3⟩,_,Z,_,Z,gC,λpn hpn=>?_⟩;have s4:=ao hpn (.tup [.int (n:Nat),a]);have hp4:upd H3 pn (.tup [.int (n:Nat),a]) pn=some (.tup [.int (n:Nat),a]):=ag;generalize upd H3 pn (.tup [.int (n:Nat),a])=H4 at s4 hp4 ⊢;have hd4:=s4 _ _ hd3;have kp4:=kp.trans (Kp.same s4 kp.ls');refine⟨dl,ys,_,Z,Z,hd4,bn (by rw[aly.len];omega),?_⟩;have kp5:=Kp.up md kp4.ls' (ys++[.ref pn]);have hd5:upd H4 dl (.lst (ys++[.ref pn])) dl=some (.lst (ys++[.ref pn])):=ag;have hl5:upd H4 dl (.lst (ys++[.ref pn])) lf=some (.lst zs):=by rw[ay (Rw ndf)];exact s4 _ _ hl3
    generalize upd H4 dl (.lst (ys++[.ref pn]))=H5 at kp5 hd5 hl5 ⊢;have t35:=(aV.same (K:=K) s4).trans (aV.kp kp5);have kq5:=kp4.trans kp5;refine⟨_,Z,_,Z,lf,_,_,_,Z,Z,ba.of hl5,bF hzv,_,Z,_,a,r,am,800,800,Z,hrz.mono t35,ha.mono t35,ar.wf,aa.wf,by decide,λmv H6 s6 hmv=>?_⟩;have hl6:=s6 _ _ hl5;have hd6:=s6 _ _ hd5;have kq6:=kq5.trans (Kp.same s6 kq5.ls');have t36:=t35.trans (aV.same s6);refine⟨_,Z,_,Z,lf,zs,_,n,Z,Z,hl6,pG (by rw[alz.len,dok.len];exact nl),?_⟩;have kp7:=Kp.up ml kq6.ls' (zs.set n mv);have hl7:upd H6 lf (.lst (zs.set n mv)) lf=some (.lst (zs.set n mv)):=ag;have hd7:upd H6 lf (.lst (zs.set n mv)) dl=some (.lst (ys++[.ref pn])):=by rw[ay ndf];exact hd6
    generalize upd H6 lf (.lst (zs.set n mv))=H7 at kp7 hl7 hd7 ⊢;have t67:=aV.kp (K:=K) kp7;have t37:=t36.trans t67;have kq7:=kq6.trans kp7;refine⟨_,Z,_,Z,rv,a,st.2.1,am,800,800,Z,hrv.mono t37,ha.mono t37,dok.rm.wf,aa.wf,by decide,λrv2 H8 s8 hrv2=>?_⟩;have t78:=aV.same (K:=K) s8;have t38:=t37.trans t78;have est':bT ws t_ st n=(ord.take (i+1)).foldl (bT ws t_) (rs,sp,[]):=es.symm;rw[e1] at est' dk1 fw1;exact⟨rv2,_,_,_,_,_,Z,est',kq7.trans (Kp.same s8 kq7.ls'),s8 _ _ hl7,di.setI (hmv.mono (t67.trans t78)) n (alz.mono λ_ _ z=>z.mono t38),hrv2,s8 _ _ hd7,di.snoc ⟨pn,a,Z,(((aV.kp kp5).trans (aV.same s6)).trans (t67.trans t78)) _ _ (bu.of hp4),ha.mono t38⟩ (aly.mono λ_ _ z=>z.mono t38),dk1,by omega⟩
 ·rintro σ H3 ⟨rv,zs,ys,st,x8,x9,rfl,est,kp,hl3,alz,hrv,hd3,aly,dok,few⟩;rw[show(bo ord).length=ord.length from Ol _,Pt] at est;refine⟨_,Z,dl,_,Z,.inl ⟨ba.of hd3,λpt hpt=>?_⟩⟩;have s4:=ao hpt (.tup ys);have t34:=aV.same (K:=K) s4;have e:dQ ws ord t_ rs sp=st:=est.symm;refine k (.ref pt) zs _ ⟨λb o' nb e=>s4 _ _ (kp.keep b o' (λm=>?_) (s1 _ _ e)),⟨_,hlf⟩,⟨_,s4 _ _ hl3⟩⟩ (s4 _ _ hl3) (by rw[e];exact alz.mono λ_ _ z=>z.mono t34) (by rw[e];exact⟨pt,ys,Z,bu.of ag,aly.mono λ_ _ z=>z.mono t34⟩);rcases Ov.mp m with z|z
  ·rw[z,hdl] at e;cases e
  ·exact nb (Ox.mp z)
theorem Gf(T:ef K mg t):bv P w K mg base dF 5 t.a_Q54 t.d_Q54 ["works","leans","speeds"] (xT K):=by
 refine T.F_Q54.ok iH (λvs H Q E h=>?_) (λcdv A outer s H vs Q E hr h=>?_)
 ·obtain⟨_,_,_,_,_,_,rfl,_⟩:=h;rfl
 obtain⟨v,u,s_,ws,es,ss,rfl,ak,⟨q,qs,rfl,hq,alq⟩,l24,oks,nl_,k⟩:=h;refine dk.ok (ah (cC 3 iH.nd (cH (Go T) hr T.m_Q37 T.F_Q37.kp T.b_Q37 (ae (qv 0) (ae (qv 1) ai af) af))) (ah (i4 (i:=4) (N':=["work"]) (src:=[none]) iH.nd Z (by first|exact Pd Z|exact O7 Z) Z (by exact(fg (qv 0))) (λ_ _ _ _ _=>(by exact(by exact aN (i:=0) (by show Po (["work"]:List OV);decide +kernel) (by exact Z) (by first|exact Pd Z|exact O7 Z)))) (λ_ _ _ _ _=>eS) (λ_ _ _ _ _=>(by exact(by exact(b7 (ci (K:=K) (by exact Z)) (by exact(qv 0)) aj (by exact λ_ _=>Z))))) (by exact trivial) Z (by decide +kernel) Z (by decide +kernel) (by exact bH Z trivial)) (ah (cC 5 iH.nd (bJ ai)) (ah (cK OZ Z (dG Z T.z_range (ae (cD (v:=.int (24)) Z T.m_TURNS ⟨_,Z⟩) ai af)) (aN (i:=6) iH.nd Z (by first|exact Pd Z|exact O7 Z)) (au (cL (gv O8 Pe Pf bV (qv 5) (ae (cH (Gu T) hr T.m_Q27 T.F_Q27.kp T.b_Q27 (ae (qv 0) (ae (qv 3) (ae (qv 4) (ae (qv 6) (ae (cP aJ (qv 2) (qv 6)) ai aL) af) af) af) af)) ai aH))))) (ah (cK OZ Z (lJ Z T.z_enumerate (ae (qv 4) ai af)) (sy Z (bP (aN (i:=7) iH.nd Z (by first|exact Pd Z|exact O7 Z)) (bP (aN (i:=8) iH.nd Z (by first|exact Pd Z|exact O7 Z)) fO))) (au (bZ (aT (iL hr) (qv 8) (cD (v:=.ref t.c_NOUGHT) Z T.m_NOUGHT Z) (aQ _)) (au i5) bt))) (au (aG (bL bx (by rfl) T.z_tuple Qt (ae (qv 5) ai af))))))))) ?_
 nofun
 obtain⟨p,xs,rfl,hS,al⟩:=id ak.wv;have w8:=ak.w8;have lx:xs.length=ws.length:=al.len;refine⟨_,Z,_,Z,_,u,ws,es,Z,ak,λo H1 s1 _ ho=>?_⟩;have hS1:=aV.same (K:=K) s1 _ _ hS;refine⟨_,Z,p,Z,⟨_,hS1⟩,λlf hlf0=>ia (K:=K) (P:=RV K) (ds:=ws) (f:=λw=>w.2.2) (λ_ _ _ _ t z=>z.mono t) hlf0 hS1 lx (by omega) (λi x d H' hx hd sm Rk E kR=>?_) λH2 ys s2 hlf al2=>?_⟩
 ·obtain⟨d',hd',pw,xa,rfl,hSw,rx⟩:=al.at hx;rw[hd] at hd'
  cases hd'
  have t':=aV.same (K:=K) (s1.trans sm);exact⟨gX.set Z,_,Z,pw,_,_,_,Z,Z,t' _ _ hSw,Z,kR _ _ (aD.refl _) (rx.mono t')⟩
 have ho2:=s2 _ _ ho;have nol:o≠lf:=λz=>by subst z;rw[ho] at hlf0;cases hlf0
 have lfN:H lf=none:=by
  cases e:H lf with
  |none=>rfl
  |some o'=>rw[s1 _ _ e] at hlf0;cases hlf0
 refine⟨(by show 0≤sizeLine;exact ON _),λpl hpl=>?_⟩;have s3:=ao hpl (.lst []);have hp3:upd H2 pl (.lst []) pl=some (.lst []):=ag;have npf:pl≠lf:=λz=>by subst z;rw[hlf] at hpl;cases hpl
 have npo:pl≠o:=λz=>by subst z;rw[ho2] at hpl;cases hpl
 have hl3:=s3 _ _ hlf;have ho3:=s3 _ _ ho2;have al3:=al2.mono λ_ _ z=>z.mono (aV.same s3)
 have s03:=(s1.trans s2).trans s3;have plN:H pl=none:=by
  cases e:H pl with
  |none=>rfl
  |some o'=>rw[s2 _ _ (s1 _ _ e)] at hpl;cases hpl
 generalize upd H2 pl (.lst [])=H3 at s03 hp3 hl3 ho3 al3 ⊢;have t03:=aV.same (K:=K) s03;have oi:=dB (es:=es) ak.rk ws.length (Oi _);have pk:=fo (ord:=aK ws es ws.length) ak.ok oi.lt oks;have md:pl∈[pl,lf]:=Oq;have l12:∀r∈[pl,lf],∃xs,H3 r=some (.lst xs):=λr m=>by
  rcases Ov.mp m with z|z
  ·exact⟨_,by rw[z];exact hp3⟩
  ·exact⟨_,by rw[Ox.mp z];exact hl3⟩
 have onot:o∉[pl,lf]:=λm=>by
  rcases Ov.mp m with z|z
  ·exact npo z.symm
  ·exact nol (Ox.mp z)
 have sk:∀H',Kp [pl,lf] H3 H'->aD H H':=λH' kp b o' e=>kp.keep b o' (λm=>by
  rcases Ov.mp m with z|z
  ·rw[z,plN] at e;cases e
  ·rw[Ox.mp z,lfN] at e;cases e) (s03 _ _ e)
 have olt:=oi.lt;have olen:=oi.len;generalize hod:aK ws es ws.length=od at ho3 pk olt olen;let Iv1:Nat->L2.St->Hp->Prop:=λi σ H'=>∃(zs ys:List V) (x7 x8 x9:Option V),σ=[some (.ref p),some u,some (.ref q),some (.ref o),some (.ref lf),some (.ref pl),x7,x8,x9]/\Kp [pl,lf] H3 H'/\H' lf=some (.lst zs)/\di (RV K H') zs (aU ws od ss i).1/\H' pl=some (.lst ys)/\di (tP K H') ys (aU ws od ss i).2
 refine⟨24,Z,by decide,by decide,dI (lo:=0) (n:=24) Iv1 ⟨_,[],none,none,none,Z,Kp.same (aD.refl _) l12,hl3,al3,hp3,.nil⟩ ?_ ?_⟩
 ·rintro i σ H4 hi ⟨zs,ys,x7,x8,x9,rfl,kp,hl4,alz,hp4,aly⟩;obtain⟨po,pl_⟩:=pk i;have t4:=t03.trans (aV.kp kp);obtain⟨sv,hsv⟩:∃sv,qs[i]?=some sv:=⟨_,Oh (by rw[alq.len,l24];exact hi)⟩;obtain⟨sp,hsp,rsp⟩:=alq.at hsv;have esp:ss.getD i (0,1)=sp:=aB (0,1) hsp;have z0:(0:Int)+(i:Int)=(i:Int):=UW _;refine⟨_,Z,.inl ⟨Z,_,ba.of hp4⟩,_,Z,_,Z,_,Z,_,Z,_,Z,_,Z,q,_,_,_,Z,Z,t4 _ _ hq,(by rw[z0];exact bF hsv),.ref p,sv,o,lf,ws,od,zs,(aU ws od ss i).1,i,sp,(by rw[z0];rfl),⟨p,xs,Z,t4 _ _ hS,al.mono λ_ _ z=>z.mono t4⟩,kp.keep _ _ onot ho3,hl4,nol,alz,po.len,po.lf,rsp.mono t4,oks _ (Os hsp),olt,by rw[olen];omega,λw ys' H5 S5 hl5 al5 tn5=>?_⟩;have hp5:=S5.keep _ _ npf hp4;have t45:=aV.step (K:=K) S5;have kp5:Kp [pl,lf] H4 H5:=⟨λb o' nb e=>S5.keep b o' (λz=>nb (by rw[z];exact Ot _ Oq)) e,kp.ls',λr m=>by
   rcases Ov.mp m with z|z
   ·exact⟨_,by rw[z];exact hp5⟩
   ·exact⟨_,by rw[Ox.mp z];exact hl5⟩⟩
  have kq5:=kp.trans kp5;refine⟨pl,ys,_,Z,Z,hp5,bn (by rw[aly.len,pl_];omega),?_⟩;have kp6:=Kp.up md kq5.ls' (ys++[w]);have t56:=aV.kp (K:=K) kp6;rw[←esp] at al5 tn5;exact⟨ys',_,_,_,_,Z,kq5.trans kp6,by rw[ay (Rw npf)];exact hl5,al5.mono λ_ _ z=>z.mono t56,ag,di.snoc (tn5.mono t56) (aly.mono λ_ _ z=>(z.mono t45).mono t56)⟩
 rintro σ H4 ⟨zs,ys,x7,x8,x9,rfl,kp,hl4,alz,hp4,aly⟩;obtain⟨po,pl_⟩:=pk 24;have ed:dJ ws es ss=aU ws od ss 24:=by unfold dJ;rw[hod]
 rw[ed] at k nl_;have s04:=sk H4 kp;generalize aU ws od ss 24=pm at k nl_ alz aly po pl_;have lz:zs.length=ws.length:=by rw[alz.len,po.len]
 let Iv2:Nat->L2.St->Hp->Prop:=λi σ H'=>∃(x8 x9:Option V),σ=[some (.ref p),some u,some (.ref q),some (.ref o),some (.ref lf),some (.ref pl),x7,x8,x9]/\aD H4 H'/\∀j,j<i->pm.1.getD j (0,1)=(0,1)
 refine⟨_,Z,lf,Z,⟨_,ba.of hl4⟩,wu (K:=K) (a:=lf) (xs:=zs) Iv2 ⟨_,_,Z,aD.refl _,λj hj=>absurd hj (RW _)⟩ (λi σ H' _ ⟨_,_,_,sm,_⟩=>ba.of (sm _ _ hl4)) ?_ ?_⟩
 ·rintro i x pe σ H5 hx ⟨x8,x9,rfl,s5,le⟩ hpe;obtain⟨r,hr_,hrz⟩:=alz.at hx;have er:pm.1.getD i (0,1)=r:=aB (0,1) hr_;have il:i<pm.1.length:=(OH.mp hr_).1;have s6:=ao hpe (.tup [.int i,x]);have hpe6:upd H5 pe (.tup [.int i,x]) pe=some (.tup [.int i,x]):=ag;generalize upd H5 pe (.tup [.int i,x])=H6 at s6 hpe6 ⊢;have s46:=s5.trans s6;have t46:=aV.same (K:=K) s46;refine⟨pe,_,Z,bu.of hpe6,Z,_,_,Z,_,_,Z,Z,?_⟩;refine⟨_,Z,dR r,dR (0,1),(hrz.mono t46).deep,RV.deep ⟨_,Z,T.q_NOUGHT _⟩,Z,Z,jj _,_,Z,?_⟩;rw[kF];by_cases cz:r=(0,1)
  ·refine jc (b:=!decide (r=(0,1))) (by rw[decide_eq_true cz];rfl) ?_;refine⟨_,_,Z,s46,λj hj=>?_⟩;by_cases z:j<i
   ·exact le j z
   ·rw[show j=i by omega,er];exact cz
  ·refine jW (b:=!decide (r=(0,1))) (by rw[decide_eq_false cz];rfl) ?_;exact absurd nl_ (by rw[v8 il (by rw[er];exact cz) le];exact λz=>nomatch z)
 ·rintro σ H5 ⟨x8,x9,rfl,s5,le⟩;refine⟨_,Z,pl,_,Z,.inl ⟨ba.of (s5 _ _ hp4),λpt hpt=>?_⟩⟩;have s6:=ao hpt (.tup ys);have t46:=(aV.same (K:=K) s5).trans (aV.same s6);refine k (.ref pt) _ ((s04.trans s5).trans s6) ?_;exact .tup (bu.of ag) ((aly.mono λ_ _ z=>z.mono t46).deep λ_ _ z=>z.deep)
theorem Gx(T:ef K mg t):bv P w K mg base dF 6 t.a_Q21 t.d_Q21 ["sheet"] (mM K):=by
 refine T.F_Q21.ok xW (λvs H Q E h=>?_) (λcdv A outer s H vs Q E hr h=>?_)
 ·obtain⟨_,_,_,rfl,_⟩:=h;rfl
 obtain⟨v,ws,es,rfl,sa,nb_,k⟩:=h;refine dk.ok (ah (cC 1 xW.nd (cH (Gq T) hr T.m_Q35 T.F_Q35.kp T.b_Q35 (ae (qv 0) ai af))) (au (aG (cH (Gf T) hr T.m_Q54 T.F_Q54.kp T.b_Q54 (ae (qv 1) (ae (cP aJ (qv 0) aj) (ae (cH (GD T) hr T.m_Q10 T.F_Q10.kp T.b_Q10 (ae (qv 1) ai af)) ai aH) aL) af))))) ?_
 nofun
 obtain⟨p,a,b,rfl,hS,wv,lv⟩:=id sa.sv;refine⟨_,Z,.ref p,ws,es,Z,sa.sv,sa.sh,nb_,λf l u H1 s1 win nb d1=>?_⟩;have ok':=Es sa.ok win nb;have wv':=Di sa.ok win d1;have w8:=sa.w8;have len:=tf ws f l;have t1:=aV.same (K:=K) s1;refine⟨_,Z,_,Z,p,_,_,_,Z,Z,t1 _ _ hS,Z,_,Z,u,kh ws f l,Z,wv',by omega,ok',λq xs lys H2 s2 hq al ly=>?_⟩;have lok:=o9 ly (by decide) (λt ht=>Ow.mp ht);have ams:=oB ok' (by omega) lok;have ak:Lm K H2 u b (kh ws f l) es:=⟨wv'.mono (aV.same s2),by omega,ok',(lv.mono t1).mono (aV.same s2),by rw[len];exact sa.eok,by rw[len];exact sa.rk,sa.e8⟩;have nl:=vX (es:=es) ok' (by rw[len];exact sa.rk) ly ams;have l24:(aX (kh ws f l) lys).length=24:=by unfold aX;rw[kr];rfl
 refine⟨u,b,.ref q,kh ws f l,es,aX (kh ws f l) lys,Z,ak,⟨q,xs,Z,hq,al⟩,l24,ams,nl,λw H3 s3 dw=>?_⟩;exact k f l lys w H3 ((s1.trans s2).trans s3) win nb ly dw
theorem Jg(T:ef K mg t):bv P w K mg base dF 1 t.a_Q5 t.d_Q5 ["works","amounts","turn"] (jw K):=by
 refine T.F_Q5.ok DX (λvs H Q E h=>?_) (λcdv A outer s H vs Q E hr h=>?_)
 ·obtain⟨_,_,_,_,_,_,_,rfl,_⟩:=h;rfl
 obtain⟨a,b,xs,ys,kn,rs,t₀,rfl,hA,ak,hB,ar,len,l20,k⟩:=h;refine dk.ok (ah (i4 (i:=3) (N':=["number","amount"]) (src:=[none,none]) DX.nd Z (by first|exact Pd Z|exact O7 Z) Z (by exact(lJ Z T.z_enumerate (ae (qv 1) ai af))) (λ_ _ _ _ _=>(by exact(by exact i6 (K:=K) (n:=2) (by exact Z) (by exact Z) (by exact bP (by exact aN (i:=0) (by show Po (["number","amount"]:List OV);decide +kernel) (by exact Z) (by first|exact Pd Z|exact O7 Z)) (by exact bP (by exact aN (i:=1) (by show Po (["number","amount"]:List OV);decide +kernel) (by exact Z) (by first|exact Pd Z|exact O7 Z)) fO))))) (λ_ _ _ _ _=>(eR (aT (uG (K:=K) (by exact Z) hr) (by exact(qv 1)) (by exact(cD (v:=.ref t.c_NOUGHT) (by exact Z) T.m_NOUGHT Z)) (aQ _)))) (λ_ _ _ _ _=>(by exact(by exact(qv 0)))) (by exact trivial) Z (by decide +kernel) Z (by decide +kernel) (by exact bH Z trivial)) (au (aG (aY (ae (bL bx (by rfl) T.z_tuple Qt (ae (cm (N':=["number","turn","amounts","works"]) (src:=[none,some 2,some 1,some 0]) Z (by exact(fm (qv 3))) (λ_ _ _ _ _=>(by exact(by exact aN (i:=0) (by show Po (["number","turn","amounts","works"]:List OV);decide +kernel) (by exact Z) (by first|exact Pd Z|exact O7 Z)))) (λ_ _ _ _ _=>eS) (λ_ _ _ _ _=>(by exact(by exact(aY (ae (by exact(qv 1)) (ae (by exact(b7 (ci (K:=K) (by exact Z)) (by exact(b7 (dA (K:=K) (by exact Z)) (by exact(qv 3)) (by exact(qv 0)) (by exact λ_ _=>Z))) aj (by exact λ_ _=>Z))) (ae (by exact(b7 (dA (K:=K) (by exact Z)) (by exact(qv 2)) (by exact(qv 0)) (by exact λ_ _=>Z))) ai aL) aL) af))))) (by exact⟨Z,Z,Z,Z,⟨Z,Z,Z,Z,⟨Z,Z,Z,Z,trivial⟩⟩⟩) Z (by decide +kernel) Z (by decide +kernel) (by exact bH Z ⟨Z,⟨Z,⟨Z,trivial⟩⟩⟩)) ai fN)) (ae (qv 3) ai af) aH))))) ?_
 nofun
 have lx:=ak.len;have ly:=ar.len;refine⟨_,Z,b,Z,⟨_,hB⟩,λD hD=>da (tZ hB) (λi=>decide (rs.getD i (0,1)≠(0,1))) (λi=>V.int (i:Nat)) hD (by omega) (λi x H' hi s' hx R E kR kE=>?_) λH4 s4 h4=>?_⟩
 ·obtain⟨pe,y,rfl,hy,hpe⟩:=hx;obtain⟨r,hr_,hrz⟩:=ar.at hy;have er:rs.getD i (0,1)=r:=aB (0,1) hr_;have t':=aV.same (K:=K) s';rw[er] at kR kE;refine⟨pe,_,Z,bu.of hpe,Z,_,_,Z,_,_,Z,Z,(gX.set Z).set' Z,?_⟩;refine⟨_,Z,dR r,dR (0,1),(hrz.mono t').deep,RV.deep ⟨_,Z,T.q_NOUGHT _⟩,Z,Z,jj _,_,Z,?_⟩;rw[kF];by_cases cz:r=(0,1)
  ·refine jc (b:=!decide (r=(0,1))) (by rw[decide_eq_true cz];rfl) ?_;exact kE (decide_eq_false λz=>z cz) _ (aD.refl _)
  ·refine jW (b:=!decide (r=(0,1))) (by rw[decide_eq_false cz];rfl) ?_;exact⟨_,Z,kR (decide_eq_true cz) _ (aD.refl _)⟩
 have e4:H4 D=some (.lst (bo (br rs))):=by rw[h4,ly];rfl
 have nl:(bo (br rs)).length=(br rs).length:=Ol _;have nm:(br rs).length≤rs.length:=by
  unfold br;exact OS (Py _ _) (by rw[PF];exact Oi _)
 refine⟨_,Z,D,Z,⟨_,ba.of e4⟩,λD2 hD2=>wI (K:=K) (P:=Bj K) (ds:=br rs) (f:=λi=>((t₀,(kn.getD i bI).2.1,rs.getD i (0,1)):Wk)) (λ_ _ _ _ t p=>p.mono t) hD2 (ba.of e4) nl (by omega) (λi x d H' hx hd s' R E kR=>?_) λH5 ys5 s5 hD5 al5=>?_⟩
 ·have hx':(bo (br rs))[i]?=some (V.int (d:Nat)):=by unfold bo;rw[OB,hd];rfl
  rw[hx] at hx'
  cases hx'
  have hdl:d<rs.length:=by
   have m:=Os hd;unfold br at m;exact Ow.mp (OL.mp m).1
  obtain⟨xw,hxw⟩:∃xw,xs[d]?=some xw:=⟨_,Oh (by omega)⟩;obtain⟨yw,hyw⟩:∃yw,ys[d]?=some yw:=⟨_,Oh (by omega)⟩;obtain⟨w,hwd,pw,xa,rfl,hSw,rx⟩:=ak.at hxw;obtain⟨r,hrd,ry⟩:=ar.at hyw;rw[aB bI hwd,aB (0,1) hrd] at kR;have s0':=s4.trans s';have t':=aV.same (K:=K) s0';refine⟨gX.set Z,_,Z,_,Z,_,Z,a,_,_,_,Z,Z,s0'.seq hA,bF hxw,pw,_,_,_,Z,Z,t' _ _ hSw,Z,_,Z,_,Z,b,_,_,_,Z,Z,s0'.seq hB,bF hyw,w6,λpn hpn=>?_⟩;exact kR _ _ (ao hpn _) ⟨pn,yw,Z,bu.of ag,(ry.mono t').mono (aV.new hpn _)⟩
 ·refine⟨D2,ys5,Z,.inl ⟨ba.of hD5,λpt hpt=>?_⟩⟩;have z:=ao hpt (.tup ys5);have wz:gf K (upd H5 pt (.tup ys5)) (.ref pt) (eU kn rs t₀):=⟨pt,ys5,Z,bu.of ag,al5.mono λ_ _ q=>q.mono (aV.same z)⟩;refine⟨_,Z,gC,λpp hpp=>?_⟩;have z2:=ao hpp (.tup [.ref pt,.ref D]);exact k pp D (.ref pt) _ (((s4.trans s5).trans z).trans z2) (bu.of ag) (wz.mono (aV.same z2)) (z2 _ _ (z _ _ (s5 _ _ e4)))
theorem Gw(T:ef K mg t):bv P w K mg base dF 1 t.a_Q22 t.d_Q22 ["pieces","numbers"] (mL K):=by
 refine T.F_Q22.ok E9 (λvs H Q E h=>?_) (λcdv A outer s H vs Q E hr h=>?_)
 ·obtain⟨_,_,_,_,rfl,_⟩:=h;rfl
 obtain⟨u,l,q,ns,rfl,⟨p,xs,rfl,hS,al⟩,hL,lt,l64,k⟩:=h;refine dk.ok (au (aG (bL bx (by rfl) T.z_tuple Qt (ae (cm (N':=["piece","numbers"]) (src:=[none,some 1]) Z (by exact(fg (qv 0))) (λ_ _ _ _ _=>(by exact(by exact aN (i:=0) (by show Po (["piece","numbers"]:List OV);decide +kernel) (by exact Z) (by first|exact Pd Z|exact O7 Z)))) (λ_ _ _ _ _=>eS) (λ_ _ _ _ _=>(by exact(by exact(aY (ae (by exact(b7 (dA (K:=K) (by exact Z)) (by exact(qv 1)) (by exact(b7 (ci (K:=K) (by exact Z)) (by exact(qv 0)) aj (by exact λ_ _=>Z))) (by exact λ_ _=>Z))) (ae (by exact(b7 (ci (K:=K) (by exact Z)) (by exact(qv 0)) aj (by exact λ_ _=>Z))) ai aL) aL))))) (by exact⟨Z,Z,Z,Z,trivial⟩) Z (by decide +kernel) Z (by decide +kernel) (by exact bH Z ⟨Z,trivial⟩)) ai fN)))) ?_;nofun
 have lx:=al.len;refine⟨_,Z,p,Z,⟨_,hS⟩,λD hD=>ia (K:=K) (P:=Bw K) (ds:=q) (f:=λc:Pc=>((ns.getD c.1 0,c.2):Pc)) (λ_ _ _ _ t p=>p.mono t) hD hS lx (by omega) (λi x c H' hx hc s' R E kR=>?_) λH2 ys2 s2 hD2 al2=>?_⟩
 ·obtain⟨c',hc',pc,xa,rfl,hSc,rx⟩:=al.at hx;rw[hc] at hc'
  cases hc'
  have hl:=lt c (Os hc);have t':=aV.same (K:=K) s';refine⟨gX.set Z,_,Z,_,Z,pc,_,_,_,Z,Z,t' _ _ hSc,Z,l,_,_,_,Z,Z,s'.seq hL,bF (v:=V.int ((ns.getD c.1 0:Nat):Int)) (by unfold bo;rw[OB,Oh hl,aB 0 (Oh hl)];rfl),_,Z,pc,_,_,_,Z,Z,t' _ _ hSc,Z,gC,λpn hpn=>?_⟩;exact kR _ _ (ao hpn _) ⟨pn,xa,Z,bu.of ag,(rx.mono t').mono (aV.new hpn _)⟩
 ·refine⟨D,ys2,Z,.inl ⟨ba.of hD2,λpt hpt=>?_⟩⟩;have z:=ao hpt (.tup ys2);exact k _ _ (s2.trans z) ⟨pt,ys2,Z,bu.of ag,al2.mono λ_ _ q=>q.mono (aV.same z)⟩
theorem Am(T:ef K mg t):bv P w K mg base dF 1 t.a_Q16 t.d_Q16 ["_law_script","_law_k"] (kZ K):=by
 refine T.F_Q16.ok Fd (λvs H Q E h=>?_) (λcdv A outer s H vs Q E hr h=>?_)
 ·obtain⟨_,_,_,rfl,_⟩:=h;rfl
 obtain⟨a,ns,k₀,rfl,hS,k⟩:=h;refine dk.ok (ah (bZ (aT lP (qv 1) (aI aS (by rfl) T.z_len Qu (ae (qv 0) ai af)) (aQ _)) (au (aG (cP cF (qv 0) (qv 1)))) bt) (au (aG aj))) ?_
 nofun
 have hlm:((ns.map V.int).length:Int)=(ns.length:Int):=by rw[Ol]
 refine⟨_,Z,_,Z,a,_,Z,.inl hS,_,_,Z,Z,_,Z,?_⟩;by_cases c:(k₀:Int)<((ns.map V.int).length:Int)
 ·refine cI c ?_;obtain⟨z,hz⟩:=Ee (ns:=ns) (r:=(k₀:Int)) (by omega) (by omega);exact⟨_,Z,_,Z,a,_,_,_,Z,Z,hS,hz,k z⟩
 ·exact cv c (k 0)
theorem Aj(T:ef K mg t):bv P w K mg base dF 1 t.a_Q28 t.d_Q28 ["_law_cell","_law_many"] (oC K):=by
 refine T.F_Q28.ok gF (λvs H Q E h=>?_) (λcdv A outer s H vs Q E hr h=>?_)
 ·obtain⟨_,_,rfl,_⟩:=h;rfl
 obtain⟨c,m,rfl,m0,m1,k⟩:=h;refine dk.ok (ah (cC 2 gF.nd (bJ ai)) (ah (cC 3 gF.nd aj) (ah (bZ (aT Ab (qv 0) (aP Aa aj aj) (aQ _)) (au (cC 3 gF.nd (qv 0))) bt) (ah (cC 4 gF.nd (aP dE (aP gK (qv 0) aj) aj)) (ah (cK OZ Z (dG Z T.z_range (ae (qv 1) ai af)) (aN (i:=5) gF.nd Z (by first|exact Pd Z|exact O7 Z)) (ah (cC 4 gF.nd (aP gK (aP dE (aP dE (aP gs (qv 4) (qv 4)) (aP gs aj (qv 4))) (aP gs aj (qv 5))) aj)) (au (bZ (aT ix (qv 3) aj (aQ _)) (ah (cL (gv O8 Pe Pf bV (qv 2) (ae (aP gK (qv 3) aj) ai bw))) (au (cC 3 gF.nd (aP uH (qv 3) aj)))) (au (cL (gv O8 Pe Pf bV (qv 2) (ae (aP uH (aP gK (aP dE (aP gs (qv 4) aj) (aP gs aj (qv 5))) aj) aj) ai bw)))))))) (au (aG (qv 2)))))))) ?_
 nofun
 refine⟨(by show 0≤sizeLine;exact ON _),λl h0=>?_⟩;have s0:=ao h0 (.lst []);have q0:=Qz c (show(2147483629:Int)≠0 by decide);have q1:=QL c (show(0:Int)<2147483629 by decide);refine⟨_,Z,_,_,Z,Z,⟨by decide,by decide,by decide⟩,_,_,Z,Z,_,Z,GX (λ_=>?_) (λ_=>?_)⟩
 ·refine⟨_,Z,?_⟩;refine⟨_,Z,_,_,Z,Z,(by show(0:Int)<_;decide),_,_,Z,Z,?_⟩;refine⟨_,Z,m,Z,by omega,by omega,dI (lo:=0) (n:=(m:Int).toNat) (λi σ H'=>∃(ns:List Int) (num mx:Int) (x6:Option V),σ=[some (.int c),some (.int m),some (.ref l),some (.int num),some (.int mx),x6]/\aD H H'/\H' l=some (.lst (ns.map V.int))/\ns.length=i/\0≤mx/\mx<2147540000) ⟨[],c,_,none,Z,s0,ag,Z,by omega,by omega⟩ ?_ ?_⟩
  ·rintro i σ H1 hi ⟨ns,num,mx,x6,rfl,s1,hl1,hn,x0,x1⟩;refine⟨_,Z,_,Z,_,_,Z,Z,.inl ⟨by omega,by omega⟩,_,Z,_,_,Z,Z,.inl ⟨by decide,by decide⟩,_,_,Z,Z,_,Z,_,_,Z,Z,.inl ⟨by decide,by decide⟩,_,_,Z,Z,_,_,Z,Z,(by show(0:Int)<_;decide),?_⟩;have y0:=Qz (mx*mx+48271*mx+7*(0+(i:Int))) (show(2147483647:Int)≠0 by decide);have y1:=QL (mx*mx+48271*mx+7*(0+(i:Int))) (show(0:Int)<2147483647 by decide);have fin:∀(z:Int),∃ns':List Int,upd H1 l (.lst (ns.map V.int++[.int z])) l=some (.lst (ns'.map V.int))/\ns'.length=i+1:=λz=>⟨ns++[z],by rw[ag,PJ];rfl,by rw[OQ,hn];rfl⟩
   have sm:∀o,aD H (upd H1 l o):=λo b u e=>by rw[ay (aR e h0)];exact s1 _ _ e
   refine⟨_,Z,_,_,Z,Z,_,Z,GX (λ_=>?_) (λ_=>?_)⟩
   ·refine⟨_,Z,.inl ⟨Z,_,ba.of hl1⟩,_,Z,_,_,Z,Z,(by show(0:Int)<_;decide),l,_,_,Z,Z,hl1,bn (by rw[Ol];omega),?_⟩;refine⟨_,Z,_,_,Z,Z,⟨by decide,by decide⟩,?_⟩;obtain⟨ns',e,el⟩:=fin (num%720720);exact⟨ns',_,_,_,Z,sm _,e,el,y0,by omega⟩
   ·refine⟨_,Z,.inl ⟨Z,_,ba.of hl1⟩,_,Z,_,_,Z,Z,.inr ⟨by decide,by decide⟩,_,Z,_,_,Z,Z,.inl ⟨by decide,by decide⟩,_,_,Z,Z,_,_,Z,Z,(by show(0:Int)<_;decide),_,_,Z,Z,⟨by decide,by decide⟩,l,_,_,Z,Z,hl1,bn (by rw[Ol];omega),?_⟩;obtain⟨ns',e,el⟩:=fin (((mx*mx+48271*mx+7*(0+(i:Int)))%2147483647*69621+13*(0+(i:Int)))%2147483629/3);exact⟨ns',_,_,_,Z,sm _,e,el,y0,by omega⟩
  ·rintro σ H1 ⟨ns,num,mx,x6,rfl,s1,hl1,hn,x0,x1⟩;exact⟨_,Z,k l ns H1 s1 h0 hl1 (by rw[hn];omega)⟩
 ·refine⟨_,Z,_,_,Z,Z,(by show(0:Int)<_;decide),_,_,Z,Z,?_⟩;refine⟨_,Z,m,Z,by omega,by omega,dI (lo:=0) (n:=(m:Int).toNat) (λi σ H'=>∃(ns:List Int) (num mx:Int) (x6:Option V),σ=[some (.int c),some (.int m),some (.ref l),some (.int num),some (.int mx),x6]/\aD H H'/\H' l=some (.lst (ns.map V.int))/\ns.length=i/\0≤mx/\mx<2147540000) ⟨[],0,_,none,Z,s0,ag,Z,by omega,by omega⟩ ?_ ?_⟩
  ·rintro i σ H1 hi ⟨ns,num,mx,x6,rfl,s1,hl1,hn,x0,x1⟩;refine⟨_,Z,_,Z,_,_,Z,Z,.inl ⟨by omega,by omega⟩,_,Z,_,_,Z,Z,.inl ⟨by decide,by decide⟩,_,_,Z,Z,_,Z,_,_,Z,Z,.inl ⟨by decide,by decide⟩,_,_,Z,Z,_,_,Z,Z,(by show(0:Int)<_;decide),?_⟩;have y0:=Qz (mx*mx+48271*mx+7*(0+(i:Int))) (show(2147483647:Int)≠0 by decide);have y1:=QL (mx*mx+48271*mx+7*(0+(i:Int))) (show(0:Int)<2147483647 by decide);have fin:∀(z:Int),∃ns':List Int,upd H1 l (.lst (ns.map V.int++[.int z])) l=some (.lst (ns'.map V.int))/\ns'.length=i+1:=λz=>⟨ns++[z],by rw[ag,PJ];rfl,by rw[OQ,hn];rfl⟩
   have sm:∀o,aD H (upd H1 l o):=λo b u e=>by rw[ay (aR e h0)];exact s1 _ _ e
   refine⟨_,Z,_,_,Z,Z,_,Z,GX (λ_=>?_) (λ_=>?_)⟩
   ·refine⟨_,Z,.inl ⟨Z,_,ba.of hl1⟩,_,Z,_,_,Z,Z,(by show(0:Int)<_;decide),l,_,_,Z,Z,hl1,bn (by rw[Ol];omega),?_⟩;refine⟨_,Z,_,_,Z,Z,⟨by decide,by decide⟩,?_⟩;obtain⟨ns',e,el⟩:=fin (num%720720);exact⟨ns',_,_,_,Z,sm _,e,el,y0,by omega⟩
   ·refine⟨_,Z,.inl ⟨Z,_,ba.of hl1⟩,_,Z,_,_,Z,Z,.inr ⟨by decide,by decide⟩,_,Z,_,_,Z,Z,.inl ⟨by decide,by decide⟩,_,_,Z,Z,_,_,Z,Z,(by show(0:Int)<_;decide),_,_,Z,Z,⟨by decide,by decide⟩,l,_,_,Z,Z,hl1,bn (by rw[Ol];omega),?_⟩;obtain⟨ns',e,el⟩:=fin (((mx*mx+48271*mx+7*(0+(i:Int)))%2147483647*69621+13*(0+(i:Int)))%2147483629/3);exact⟨ns',_,_,_,Z,sm _,e,el,y0,by omega⟩
  ·rintro σ H1 ⟨ns,num,mx,x6,rfl,s1,hl1,hn,x0,x1⟩;exact⟨_,Z,k l ns H1 s1 h0 hl1 (by rw[hn];omega)⟩
theorem gL(T:ef K mg t):bv P w K mg base dF 1 t.a_Q38 t.d_Q38 ["_law_tape","_law_many"] (qt K):=by
 refine T.F_Q38.ok E3 (λvs H Q E h=>?_) (λcdv A outer s H vs Q E hr h=>?_)
 ·obtain⟨_,_,_,rfl,_⟩:=h;rfl
 obtain⟨t₁,l,m,rfl,tp,hm0,hm1,k⟩:=h;refine dk.ok (ah (oV (aP dE (cP cF (qv 0) aj) aj) (oW (qv 0) aj iZ)) (au (aG (aP gK (cP cF (cP cF (qv 0) aj) (aP gK (aP jE (cP cF (qv 0) aj) aj) (aI aS (by rfl) T.z_len Qu (ae (cP cF (qv 0) aj) ai aL)))) (qv 1))))) ?_
 nofun
 obtain⟨ns,p,ht,hl,nl,n0,n1⟩:=tp.ex;refine⟨_,Z,t₁,_,_,_,Z,Z,ba.of ht,Z,_,_,Z,Z,_,Z,t₁,_,_,_,Z,Z,ht,Z,?_⟩;have hl':∀o,upd H t₁ o l=some (.lst (ns.map V.int)):=λo=>by rw[ay nl];exact hl
 have hlm:((ns.map V.int).length:Int)=(ns.length:Int):=by rw[Ol]
 obtain⟨z,hz⟩:=Ee (ns:=ns) (r:=(p+1-1)%((ns.map V.int).length:Int)) (Qz _ (by omega)) (by have:=QL (p+1-1) (show(0:Int)<((ns.map V.int).length:Int) by omega);omega);refine⟨_,Z,t₁,_,_,_,Z,Z,ba.of ag,Z,_,Z,t₁,_,_,_,Z,Z,ba.of ag,Z,_,_,Z,Z,_,Z,t₁,_,_,_,Z,Z,ba.of ag,Z,l,_,Z,.inl (ba.of (hl' _)),_,_,Z,Z,(by omega),l,_,_,_,Z,Z,ba.of (hl' _),hz,_,Z,_,_,Z,Z,hm0,?_⟩;exact k _ _ (Qz _ (by omega)) (QL _ hm0) ⟨ns,_,ag,hl' _,nl,n0,n1⟩
theorem Ai(T:ef K mg t):bv P w K mg base dF 1 t.a_Q39 t.d_Q39 ["_law_top","_law_bottom"] (qu K):=by
 refine T.F_Q39.ok se (λvs H Q E h=>?_) (λcdv A outer s H vs Q E hr h=>?_)
 ·obtain⟨_,_,rfl,_⟩:=h;rfl
 obtain⟨a,b,rfl,hb,hz,k⟩:=h;refine dk.ok (ah (zj (i:=2) (j:=3) Z se.nd Z Z (by decide) Z Z (ae (aI mH (by rfl) T.z_abs boot_abs (ae (qv 0) ai af)) (ae (qv 1) ai af) aH) Z) (ah (gJ OZ (aT ix (qv 3) aj (aQ _)) (au (zj (i:=2) (j:=3) Z se.nd Z Z (by decide) Z Z (ae (qv 3) (ae (aP gK (qv 2) (qv 3)) ai bw) af) Z))) (au (aG (aY (ae (aP dD (qv 0) (qv 2)) (ae (aP dD (qv 1) (qv 2)) ai bw) bw)))))) ?_
 nofun
 have gp:=bQ (a:=a) hb;have gb:=mf (a:=a) hb hz;refine⟨_,Z,_,Z,_,Z,_,_,Z,?_⟩;rw[tM];refine⟨λm σ H'=>∃(x y:Int),σ=[some (.int a),some (.int b),some (.int x),some (.int y)]/\H'=H/\0≤x/\0≤y/\OG x y=OG a b/\m=y.toNat,⟨_,_,_,Z,Z,by omega,by omega,(by simp[OG]),Z⟩,?_⟩;rintro m σ H' ⟨x,y,rfl,rfl,hx,hy,hg,rfl⟩;refine⟨_,Z,_,_,Z,Z,_,Z,?_⟩;by_cases c:y=0
 ·subst c;refine cv (by decide) ?_;have e:(x:Int)=(OG x 0:Nat):=by simp[OG];omega
  rw[hg] at e;subst e;exact⟨_,Z,_,Z,_,_,Z,Z,⟨gp,gb⟩,_,Z,_,Z,_,_,Z,Z,⟨gp,gb⟩,gC,λp hp=>k p hp⟩
 ·refine cI (by omega) ?_;refine⟨_,λ_ _ z=>z,?_⟩;refine⟨_,Z,_,Z,_,Z,_,_,Z,Z,(by omega),_,_,Z,?_⟩;refine⟨_,?_,y,x%y,Z,Z,hy,Qz _ c,?_,Z⟩
  ·have:=QL x (show 0<y by omega);have:=Qz x c;omega
  ·rw[qR hx (by omega),hg]
theorem Jf(T:ef K mg t):bv P w K mg base dF 2 t.a_Q6 t.d_Q6 ["_law_thing"] (jy K):=by
 refine T.F_Q6.ok IE (λvs H Q E h=>?_) (λcdv A outer s H vs Q E hr h=>?_)
 ·obtain⟨_,_,rfl,_⟩:=h;rfl
 obtain⟨v,d,rfl,hD,hb,hlay,hdp,k⟩:=h;refine dk.ok (ah (bZ (iu (gu (cJ (bM (aI dM (by rfl) T.z_isinstance PM (ae (qv 0) (ae (eT (v:=V.ty "tuple") Z T.z_tuple Qt Z) ai af) af)))) (gI (aT qJ (aI aS (by rfl) T.z_len Qu (ae (qv 0) ai af)) aj (aQ _))))) (au (aG cG)) bt) (ah (bZ (aT (iL hr) (cm (N':=["_law_one"]) (src:=[none]) Z (by exact(fg (qv 0))) (λ_ _ _ _ _=>(by exact(by exact aN (i:=0) (by show Po (["_law_one"]:List OV);decide +kernel) (by exact Z) (by first|exact Pd Z|exact O7 Z)))) (λ_ _ _ _ _=>(eR (iu (gu (bM (by exact(aI (mG (K:=K) (by exact Z)) (by exact Z) T.z_isinstance PM (ae (by exact(qv 0)) (ae (by exact(eT (v:=V.ty "bool") Z T.z_bool XD Z)) ai af) af)))) (gI (cJ (bM (by exact(aI (mG (K:=K) (by exact Z)) (by exact Z) T.z_isinstance PM (ae (by exact(qv 0)) (ae (by exact(eT (v:=V.ty "int") Z T.z_int boot_int Z)) ai af) af)))))))))) (λ_ _ _ _ _=>(by exact(by exact(qv 0)))) (by exact trivial) Z (by decide +kernel) Z (by decide +kernel) (by exact bH Z trivial)) (bJ ai) (aQ _)) (au (aG cG)) bt) (au (aG (eK (cE ix (cP aJ (qv 0) aj) aj (aQ _)) (eK (cE ix (cP aJ (qv 0) aj) aj (aQ _)) (fS (cE (lQ hr) (cH (Ai T) hr T.m_Q39 T.F_Q39.kp T.b_Q39 (ae (cP aJ (qv 0) aj) (ae (cP aJ (qv 0) aj) ai aL) aL)) (qv 0) (aQ _))))))))) ?_
 nofun
 rcases uO hD with⟨e,p,xs,ds,rfl,rfl,hS,hA⟩ | ⟨e,no⟩
 rotate_left
 ·refine⟨_,Z,_,_,_,_,Z,hD,e,_,Z,cR (cR ?_)⟩;have:=k _ (aD.refl _);rw[eP (sx λa b z=>absurd z (no _))] at this;exact this
 refine⟨_,Z,_,_,_,_,Z,hD,e,_,Z,cV ?_⟩;have hl:=hA.len;refine⟨_,Z,p,_,Z,.inr hS,Z,_,Z,?_⟩;by_cases c2:ds.length=2
 rotate_left
 ·refine Ej (λz=>c2 (by injection z with z;omega)) ?_;have:=k _ (aD.refl _);rw[eP (sx λa b z=>by cases z;exact absurd Z c2)] at this;exact this
 refine qP (by rw[hl,c2];rfl) ?_;obtain⟨q,x,y,dx,dy,e1,e2,hS',hx,hy⟩:=hD.two (show decide (ds.length=2)=true from decide_eq_true c2)
 cases e1
 cases e2
 obtain⟨lx,ly⟩:=Db hlay;obtain⟨px,py⟩:=Dj hdp;refine⟨_,Z,p,Z,⟨_,hS'⟩,λD hDn=>da (og hS') (λi=>!bR ([dx,dy].getD i .none)) (λi=>[x,y].getD i .non) hDn (by show 2≤1000;decide) (λi u H' hi s' hu R E kR kE=>?_) λH1 s1 h1=>?_⟩
 ·have hi2:i<2:=hi;rcases(show i=0∨i=1 by omega) with rfl|rfl
  ·cases hu
   obtain⟨b,c,e1,e2,e3⟩:=kB (hx.same s');have w:bR dx=(b&&!c):=e3;refine⟨gX.set Z,?_⟩;refine⟨_,Z,_,_,_,_,Z,hx.same s',e2,_,Z,?_⟩
   cases c with
   |true=>exact cR (cR ⟨_,Z,kR (by show(!bR dx)=true;rw[w];cases b<;>rfl) _ (aD.refl _)⟩)
   |false=>
    refine cV ⟨_,Z,_,_,_,_,Z,hx.same s',e1,_,Z,?_⟩
    cases b with
    |true=>exact cV (kE (by show(!bR dx)=false;rw[w];rfl) _ (aD.refl _))
    |false=>exact cR ⟨_,Z,kR (by show(!bR dx)=true;rw[w];rfl) _ (aD.refl _)⟩
  ·cases hu
   obtain⟨b,c,e1,e2,e3⟩:=kB (hy.same s');have w:bR dy=(b&&!c):=e3;refine⟨gX.set Z,?_⟩;refine⟨_,Z,_,_,_,_,Z,hy.same s',e2,_,Z,?_⟩
   cases c with
   |true=>exact cR (cR ⟨_,Z,kR (by show(!bR dy)=true;rw[w];cases b<;>rfl) _ (aD.refl _)⟩)
   |false=>
    refine cV ⟨_,Z,_,_,_,_,Z,hy.same s',e1,_,Z,?_⟩
    cases b with
    |true=>exact cV (kE (by show(!bR dy)=false;rw[w];rfl) _ (aD.refl _))
    |false=>exact cR ⟨_,Z,kR (by show(!bR dy)=true;rw[w];rfl) _ (aD.refl _)⟩
 replace h1:H1 D=some (.lst ((([0,1]:List Nat).filter (λi=>!bR ([dx,dy].getD i .none))).map λi=>[x,y].getD i .non)):=h1
 refine⟨(by show 0≤sizeLine;exact ON _),λq0 hq0=>?_⟩;have s2:=ao hq0 (.lst [])
 cases wx:bR dx with
 |false=>
  cases wy:bR dy with
  |false=>
  simp[wx,wy] at h1;refine⟨.list [dx,dy],.list [],.lst (ba.of (s2 _ _ h1)) (.cons ((hx.same s1).same s2) (.cons ((hy.same s1).same s2) .nil)),.lst (ba.of ag) .nil,(by show(dx.canLay0&&(dy.canLay0&&true))=true;rw[lx,ly];rfl),Z,(by show WO dx.depth (WO dy.depth 0)+1≤32;omega),_,Z,cR ?_⟩;have:=k _ (s1.trans s2);rw[eP (zb wx)] at this;exact this
  |true=>
  simp[wx,wy] at h1;refine⟨.list [dx],.list [],.lst (ba.of (s2 _ _ h1)) (.cons ((hx.same s1).same s2) .nil),.lst (ba.of ag) .nil,(by show(dx.canLay0&&true)=true;rw[lx];rfl),Z,(by show WO dx.depth 0+1≤32;omega),_,Z,cR ?_⟩;have:=k _ (s1.trans s2);rw[eP (zb wx)] at this;exact this
 |true=>
  cases wy:bR dy with
  |false=>
  simp[wx,wy] at h1;refine⟨.list [dy],.list [],.lst (ba.of (s2 _ _ h1)) (.cons ((hy.same s1).same s2) .nil),.lst (ba.of ag) .nil,(by show(dy.canLay0&&true)=true;rw[ly];rfl),Z,(by show WO dy.depth 0+1≤32;omega),_,Z,cR ?_⟩;have:=k _ (s1.trans s2);rw[eP (Eb wy)] at this;exact this
  |true=>
  simp[wx,wy] at h1;obtain⟨i,rfl⟩:=em wx;obtain⟨j,rfl⟩:=em wy
  cases hx
  cases hy
  refine⟨.list [],.list [],.lst (ba.of (s2 _ _ h1)) .nil,.lst (ba.of ag) .nil,Z,Z,(by decide),_,Z,cV ?_⟩;have s12:=s1.trans s2;have hS2:=aV.same (K:=K) s12 _ _ hS';generalize upd H1 q0 (.lst [])=H2 at s12 hS2 ⊢;refine⟨_,Z,p,_,_,_,Z,Z,hS2,Z,_,_,Z,Z,_,Z,?_⟩;by_cases i0:0<i
  rotate_left
  ·refine cv i0 ?_;have:=k _ s12;rw[rj,decide_eq_false i0,PV] at this;exact this
  refine cI i0 ?_;refine⟨_,Z,p,_,_,_,Z,Z,hS2,Z,_,_,Z,Z,_,Z,?_⟩;by_cases j0:0<j
  rotate_left
  ·refine cv j0 ?_;have:=k _ s12;rw[eP (sx λa b z=>by cases z;omega)] at this;exact this
  refine cI j0 ?_;have b2:=of_decide_eq_true (show decide (j.natAbs<2^230)=true from l9 (show jJ [.int i,.int j]=true from hb) (.int j) (Ot _ Oq));refine⟨_,Z,p,_,_,_,Z,Z,hS2,Z,_,Z,p,_,_,_,Z,Z,hS2,Z,i,j,Z,j0,dq (n:=230) b2 (by decide),λpm hm=>?_⟩;have s3:=ao hm (.tup [.int (dZ i j).1,.int (dZ i j).2]);refine⟨_,Z,dR (dZ i j),dR (i,j),(RV.of (K:=K) ag).deep,.tup (aV.same (K:=K) s3 _ _ hS2) (.cons (.int _) (.cons (.int _) .nil)),A8 _,A8 _,(by show WO 0 (WO 0 0)+1≤32;decide),?_⟩;have:=k _ (s12.trans s3);rw[rj,decide_eq_true i0,S0] at this;have ev:Pn (dR (dZ i j)) (dR (i,j))=gl (.tuple [.int i,.int j]):=by
   show _=(decide (1≤j)&&decide (OG i j=1));rw[decide_eq_true (show 1≤j by omega),Rv];by_cases g:OG i j=1
   ·rw[decide_eq_true g,(Aq j0).mpr g];exact mz _
   ·rw[decide_eq_false g]
    cases z:Pn (dR (dZ i j)) (dR (i,j)) with
    |false=>rfl
    |true=>exact absurd ((Aq j0).mp (AU z)) g
  rw[ev];exact this
theorem GC(T:ef K mg t):bv P w K mg base dF 3 t.a_Q11 t.d_Q11 ["_law_turn","_law_many","_law_last","_law_amount"] (j7 K):=by
 refine T.F_Q11.ok Fh (λvs H Q E h=>?_) (λcdv A outer s H vs Q E hr h=>?_)
 ·obtain⟨_,_,_,_,_,rfl,_⟩:=h;rfl
 obtain⟨s_,v,u,dv,du,rfl,A_,k20,t24,k⟩:=h;refine dk.ok (ah (bZ (iu (gu (bM (aI dM (by rfl) T.z_isinstance PM (ae (qv 2) (ae (eT (v:=V.ty "bool") Z T.z_bool XD Z) ai af) af))) (gu (cJ (bM (aI dM (by rfl) T.z_isinstance PM (ae (qv 2) (ae (eT (v:=V.ty "int") Z T.z_int boot_int Z) ai af) af)))) (gu (cJ (zf jR jR (qv 0) (qv 2) aj)) (gI (aT f7 (qv 1) aj (aQ _))))))) (au (aG cG)) bt) (au (aG (cH (Jf T) hr T.m_Q6 T.F_Q6.kp T.b_Q6 (ae (qv 3) ai af))))) ?_
 nofun
 obtain⟨b,c,e1,e2,e3⟩:=kB A_.hv;have no:bR dv=false->Q (.bl false) H:=λw=>by
  have:=k _ (aD.refl _);rw[pP λi e=>by rw[e] at w;cases w] at this;exact this
 refine⟨_,Z,_,_,_,_,Z,A_.hv,e2,_,Z,?_⟩
 cases c with
 |true=>exact cR (cR (no (by rw[e3];cases b<;>rfl)))
 |false=>
  refine cV ⟨_,Z,_,_,_,_,Z,A_.hv,e1,_,Z,?_⟩
  cases b with
  |false=>exact cR (cR (no (by rw[e3];rfl)))
  |true=>
   refine cV ?_;obtain⟨i,rfl⟩:=em (show bR dv=true by rw[e3];rfl);obtain rfl:v=.int i:=by have:=A_.hv;cases this;rfl
   have no2:¬((s_.tn:Int)≤i/\i≤23)->Q (.bl false) H:=λw=>by
    have:=k _ (aD.refl _);rw[pP λj e=>by cases e;exact w] at this;exact this
   refine⟨_,Z,_,Z,_,_,Z,Z,_,Z,?_⟩;by_cases c1:(s_.tn:Int)≤i
   rotate_left
   ·exact cv c1 ⟨_,Z,cR (cR (no2 λz=>c1 z.1))⟩
   refine cI c1 ⟨_,_,Z,Z,_,Z,?_⟩;by_cases c2:i≤23
   rotate_left
   ·exact jW (b:=!decide (i≤23)) (by rw[decide_eq_false c2];rfl) (cR (no2 λz=>c2 z.2))
   refine jc (b:=!decide (i≤23)) (by rw[decide_eq_true c2];rfl) ?_;refine⟨_,Z,Z,_,Z,?_⟩;by_cases c3:s_.kn.length=20
   ·refine cI (by rw[c3];rfl) ?_;have:=k _ (aD.refl _);rw[pR c1 c2,decide_eq_false (by omega),PV] at this;exact this
   refine cv (λz=>by injection z with z;omega) ?_;refine⟨_,rfl,u,du,rfl,A_.hu,A_.ib,A_.ly,A_.dp,λH' s'=>?_⟩;have:=k H' s';rw[pR c1 c2,decide_eq_true (by omega),S0] at this;exact this
theorem sO(T:ef K mg t):bv P w K mg base dF 1 t.a_Q17 t.d_Q17 ["self"] (k8 K t.c_Keeper):=by
 refine T.F_Q17.ok Fc (λvs H Q E h=>?_) (λcdv A outer s H vs Q E hr h=>?_)
 ·obtain⟨_,_,rfl,_⟩:=h;rfl
 obtain⟨x,dx,rfl,hx,k⟩:=h;refine dk.ok (ah (oU (qv 0) aj Z) (ah (oU (qv 0) (bJ ai) Z) (ah (oU (qv 0) (bJ ai) Z) (au (oU (qv 0) (bJ ai) Z))))) ?_
 nofun
 refine⟨_,Z,x,_,_,_,Z,hx,T.cl_Keeper,T.n_Keeper_turn,by decide,?_⟩;refine⟨(by show 0≤sizeLine;exact ON _),λlk hlk=>⟨_,Z,x,_,_,_,Z,ao hlk _ _ _ ag,T.cl_Keeper,T.n_Keeper_known,(by show 1<1000;decide),?_⟩⟩;refine⟨(by show 0≤sizeLine;exact ON _),λlr hlr=>⟨_,Z,x,_,_,_,Z,ao hlr _ _ _ ag,T.cl_Keeper,T.n_Keeper_rest,(by show 2<1000;decide),?_⟩⟩;refine⟨(by show 0≤sizeLine;exact ON _),λld hld=>⟨_,Z,x,_,_,_,Z,ao hld _ _ _ ag,T.cl_Keeper,T.n_Keeper_done,(by show 3<1000;decide),?_⟩⟩;have nk:x≠lk:=aR ag hlk;have nr:x≠lr:=aR ag hlr;have nd:x≠ld:=aR ag hld;have n1:lk≠lr:=aR (by rw[ay nk.symm];exact ag) hlr;have n2:lk≠ld:=aR (by rw[ay nk.symm,ay n1,ay nk.symm];exact ag) hld;have n3:lr≠ld:=aR (by rw[ay nr.symm];exact ag) hld;refine k lk lr ld _ (λb o nb e=>?_) (by rw[ay nk.symm] at hlk;exact hlk) (by rw[ay nr.symm,ay n1.symm,ay nr.symm] at hlr;exact hlr) (by rw[ay nd.symm,ay n3.symm,ay nd.symm,ay n2.symm,ay nd.symm] at hld;exact hld) ⟨⟨dx,ag⟩,⟨[],(by rw[ay nk.symm,ay n2,ay nk.symm,ay n1,ay nk.symm];exact ag),.nil⟩,⟨[],(by rw[ay nr.symm,ay n3,ay nr.symm];exact ag),.nil⟩,⟨[],(by rw[ay nd.symm];exact ag),.nil⟩,n1,n2,n3⟩;rw[ay nb];refine ao hld _ _ _ ?_;rw[ay nb];refine ao hlr _ _ _ ?_;rw[ay nb];refine ao hlk _ _ _ ?_;rw[ay nb];exact e
theorem Gz(T:ef K mg t):bv P w K mg base (Hu P w) 5 t.a_Q18 t.d_Q18 ["self","last","amount"] (k9 K t.c_Keeper t.c_Q46):=by
 refine B.Fun.okD T.F_Q18 xX (λvs H Q E h=>?_) (λcdv A outer s H vs Q E hr h=>?_)
 ·obtain⟨_,_,_,_,_,_,_,_,_,rfl,_⟩:=h;rfl
 obtain⟨a,lk,lr,ld,s,v,u,dv,du,rfl,kp,k20,r20,hv,hu,ke,k⟩:=h;refine dk.ok (ah (cC 3 xX.nd (aY (ae (db (qv 0) Z) (ae (qv 1) (ae (qv 2) ai af) af) dS))) (ah (bZ (cJ (bM (cH (Gm T) hr T.m_Q42 T.F_Q42.kp T.b_Q42 (ae (qv 3) ai af)))) (au (jB T.X_Q46 (rJ _) Z rO (Ag T) (hr.mono (by decide)) T.b_Q46 Z T.m_Q46 (ae jC ai ax))) bt) (ah (bZ (aT Ab (aI aS (by rfl) T.z_len Qu (ae (db (qv 0) Z) ai dS)) (cD (v:=.int (20)) Z T.m_MOST_WORKS ⟨_,Z⟩) (aQ _)) (au (jB T.X_Q46 (rJ _) Z rO (Ag T) (hr.mono (by decide)) T.b_Q46 Z T.m_Q46 (ae jC ai ax))) bt) (ah (cL (gv O8 Pe Pf bV (db (qv 0) Z) (ae (qv 3) ai af))) (ah (cL (gv O8 Pe Pf bV (db (qv 0) Z) (ae (qv 2) ai af))) (au (aG (aP jE (aI aS (by rfl) T.z_len Qu (ae (db (qv 0) Z) ai dS)) aj)))))))) ?_
 nofun
 obtain⟨dx,hi⟩:=kp.ins;obtain⟨xk,hk,ak⟩:=kp.hk;obtain⟨xr,hr_,ar⟩:=kp.hr;have lxk:=ak.len;have lxr:=ar.len;refine⟨_,Z,a,_,_,_,_,Z,hi,T.cl_Keeper,T.n_Keeper_turn,Z,_,Z,_,Z,w6,λpw hpw=>?_⟩;have s1:=ao hpw (.tup [.int s.tn,v,u]);have q1:upd H pw (.tup [.int s.tn,v,u]) pw=some (.tup [.int s.tn,v,u]):=ag;generalize upd H pw (.tup [.int s.tn,v,u])=H1 at s1 q1 ⊢;refine⟨_,Z,.ref pw,.tuple [.int s.tn,dv,du],Z,.tup (bu.of q1) (.cons (.int _) (.cons (hv.same s1) (.cons (hu.same s1) .nil))),_,Z,?_⟩
 cases cw:kJ (.tuple [.int s.tn,dv,du]) with
 |false=>
  refine cR ⟨BF,λx hx=>⟨x,_,Z,ag,λd hd nd=>⟨Z,some d,(by rw[ay nd.symm];exact ag),?_⟩⟩⟩;rw[mB hx nd];exact ke (by unfold cS;rw[cw];rfl) d _ _ s1 (by rw[ay nd] at hd;exact hd)
 |true=>
  refine cV ?_;have hi1:=s1 _ _ hi;have hk1:=s1 _ _ hk;refine⟨_,Z,a,_,_,_,_,Z,hi1,T.cl_Keeper,T.n_Keeper_known,Z,lk,_,Z,.inl (ba.of hk1),_,_,Z,Z,_,Z,?_⟩;by_cases c20:s.kn.length<20
  ·refine cv (by omega) ?_;obtain⟨l,r,el,er,_,_,_,_⟩:=pQ cw;subst el;subst er;obtain rfl:v=.int (l:Nat):=by cases hv;rfl
   refine⟨_,Z,a,_,_,_,_,Z,hi1,T.cl_Keeper,T.n_Keeper_known,Z,.inl ⟨Z,_,ba.of hk1⟩,_,Z,lk,_,_,Z,Z,hk1,bn (by omega),?_⟩;have nka:lk≠a:=λz=>by subst z;rw[hi] at hk;cases hk
   have nra:lr≠a:=λz=>by subst z;rw[hi] at hr_;cases hr_
   have hi2:upd H1 lk (.lst (xk++[.ref pw])) a=some (.ins t.c_Keeper dx (AK s.tn lk lr ld)):=by rw[ay nka.symm];exact hi1
   have hr2:upd H1 lk (.lst (xk++[.ref pw])) lr=some (.lst xr):=by rw[ay kp.n1.symm];exact s1 _ _ hr_
   have hk2:upd H1 lk (.lst (xk++[.ref pw])) lk=some (.lst (xk++[.ref pw])):=ag;have t2:=aV.up (K:=K) hk1 (xk++[.ref pw]);have f2:∀b o,b≠lk->H1 b=some o->upd H1 lk (.lst (xk++[.ref pw])) b=some o:=λb o nb e=>by rw[ay nb];exact e
   generalize upd H1 lk (.lst (xk++[.ref pw]))=H2 at hi2 hr2 hk2 t2 f2 ⊢;refine⟨_,Z,a,_,_,_,_,Z,hi2,T.cl_Keeper,T.n_Keeper_rest,Z,.inl ⟨Z,_,ba.of hr2⟩,_,Z,lr,_,_,Z,Z,hr2,bn (by omega),?_⟩;have hi3:upd H2 lr (.lst (xr++[u])) a=some (.ins t.c_Keeper dx (AK s.tn lk lr ld)):=by rw[ay nra.symm];exact hi2
   have hk3:upd H2 lr (.lst (xr++[u])) lk=some (.lst (xk++[.ref pw])):=by rw[ay kp.n1];exact hk2
   have t3:=aV.up (K:=K) hr2 (xr++[u]);have hr3:upd H2 lr (.lst (xr++[u])) lr=some (.lst (xr++[u])):=ag;have f3:∀b o,b≠lr->H2 b=some o->upd H2 lr (.lst (xr++[u])) b=some o:=λb o nb e=>by rw[ay nb];exact e
   generalize upd H2 lr (.lst (xr++[u]))=H3 at hi3 hk3 t3 hr3 f3 ⊢;refine⟨_,Z,a,_,_,_,_,Z,hi3,T.cl_Keeper,T.n_Keeper_known,Z,lk,_,Z,.inl (ba.of hk3),_,_,Z,Z,?_⟩;obtain⟨xd,hd,ad⟩:=kp.hd;have t1:=aV.same (K:=K) s1;have t13:=t2.trans t3;have t03:=t1.trans t13;have rvu:RV K H1 u r:=tz (hu.same s1);have e1:(((xk++[V.ref pw]).length:Nat):Int)-1=(s.kn.length:Nat):=by rw[OQ,R4];omega
   have q:Q (.int (s.kn.length:Nat)) H3:=by
    refine k (by unfold cS;rw[cw,decide_eq_true c20];rfl) l r H3 Z Z (λb o b1 b2 b3 _ e=>f3 b o b3 (f2 b o b2 (s1 _ _ e))) ⟨⟨dx,hi3⟩,⟨_,hk3,?_⟩,⟨_,hr3,?_⟩,⟨xd,f3 _ _ kp.n3.symm (f2 _ _ kp.n2.symm (s1 _ _ hd)),ad.mono λ_ _ z=>z.mono t03⟩,kp.n1,kp.n2,kp.n3⟩
    ·exact(ak.mono λ_ _ z=>z.mono t03).snoc ⟨pw,u,Z,t13 _ _ (bu.of q1),rvu.mono t13⟩
    ·exact(ar.mono λ_ _ z=>z.mono t03).snoc (rvu.mono t13)
   rw[←e1] at q;exact q
  ·refine cI (by omega) ?_;refine⟨BF,λx hx=>⟨x,_,Z,ag,λd hd nd=>⟨Z,some d,(by rw[ay nd.symm];exact ag),?_⟩⟩⟩;rw[mB hx nd];exact ke (by unfold cS;rw[decide_eq_false c20,PV]) d _ _ s1 (by rw[ay nd] at hd;exact hd)
theorem iM(T:ef K mg t):bv P w K mg base (Hu P w) 7 t.a_Q30 t.d_Q30 ["self"] (oI K t.c_Keeper t.c_Q47):=by
 refine B.Fun.okD T.F_Q30 oM (λvs H Q E h=>?_) (λcdv A outer s H vs Q E hr h=>?_)
 ·obtain⟨_,_,_,_,_,rfl,_⟩:=h;rfl
 obtain⟨a,lk,lr,ld,s,rfl,kp,o,ke,k⟩:=h;refine dk.ok (ah (bZ (aT Ab (db (qv 0) Z) (cD (v:=.int (24)) Z T.m_TURNS ⟨_,Z⟩) (aQ _)) (au (jB T.X_Q47 (rJ _) Z rO (Gi T) (hr.mono (by decide)) T.b_Q47 Z T.m_Q47 (ae jC ai ax))) bt) (ah (cC 1 oM.nd (cH (Jg T) hr T.m_Q5 T.F_Q5.kp T.b_Q5 (ae (db (qv 0) Z) (ae (db (qv 0) Z) (ae (db (qv 0) Z) ai dS) dS) dS))) (ah (cC 2 oM.nd (cH (Gw T) hr T.m_Q22 T.F_Q22.kp T.b_Q22 (ae (cP aJ (cH (Gx T) hr T.m_Q21 T.F_Q21.kp T.b_Q21 (ae (aY (ae (cP aJ (qv 1) aj) (ae (aY ai) ai bb) aL)) ai bb)) (db (qv 0) Z)) (ae (cP aJ (qv 1) aj) ai aL) aL))) (ah (cK Ps.leaving Z (fg (qv 2)) (aN (i:=3) oM.nd Z (by first|exact Pd Z|exact O7 Z)) (au (oV (cH (sL T) hr T.m_Q51 T.F_Q51.kp T.b_Q51 (ae (cP cF (db (qv 0) Z) (cP aJ (qv 3) aj)) (ae (cP aJ (qv 3) aj) ai aL) aL)) (oW (db (qv 0) Z) (cP aJ (qv 3) aj) iZ)))) (ah (cL (gv O8 Pe Pf bV (db (qv 0) Z) (ae (qv 2) ai af))) (ah (vM (qv 0) aj G1) (au (aG (qv 2))))))))) ?_
 nofun
 obtain⟨dx,hi⟩:=kp.ins;obtain⟨xk,hk,ak⟩:=kp.hk;obtain⟨xr,hr_,ar⟩:=kp.hr;obtain⟨xd,hd_,ad⟩:=kp.hd;have nka:lk≠a:=λz=>by subst z;rw[hi] at hk;cases hk
 have nra:lr≠a:=λz=>by subst z;rw[hi] at hr_;cases hr_
 have nda:ld≠a:=λz=>by subst z;rw[hi] at hd_;cases hd_
 refine⟨_,Z,a,_,_,_,_,Z,hi,T.cl_Keeper,T.n_Keeper_turn,Z,_,_,Z,Z,_,Z,?_⟩;have t24:=o.t24;by_cases c24:s.tn=24
 ·refine cI (by omega) ?_;refine⟨BF,λx hx=>⟨x,_,Z,ag,λd hd nd=>⟨Z,some d,(by rw[ay nd.symm];exact ag),?_⟩⟩⟩;rw[mB hx nd];exact ke c24 d _ (by rw[ay nd] at hd;exact hd)
 refine cv (by omega) ?_;have ht:s.tn<24:=by omega
 have o20:=o.few;have ole:=o.len;refine⟨_,Z,a,_,_,_,_,Z,hi,T.cl_Keeper,T.n_Keeper_known,Z,_,Z,a,_,_,_,_,Z,hi,T.cl_Keeper,T.n_Keeper_rest,Z,_,Z,a,_,_,_,_,Z,hi,T.cl_Keeper,T.n_Keeper_turn,Z,lk,lr,xk,xr,s.kn,s.rs,s.tn,Z,ba.of hk,ak,ba.of hr_,ar,o.len,by omega,λp l u H1 s1 hp wv hl=>?_⟩;have wok:=t9 o ht;have ok:∀w∈eU s.kn s.rs s.tn,bD w:=λw hw=>(wok w hw).1
 have wl:=qb s.kn s.rs s.tn;have w20:(eU s.kn s.rs s.tn).length≤20:=by
  have:=uK s.rs;omega
 have gk:=λlys hly=>Jx (lys:=lys) o ht hly
 have pk:=λlys hly=>mD (lys:=lys) ok w20 hly
 generalize eU s.kn s.rs s.tn=ws at ok w20 wv gk pk;refine⟨_,Z,p,_,_,_,Z,Z,hp,Z,(by show 0≤sizeLine;exact ON _),λpe he=>⟨gC,λps hs=>?_⟩⟩;have e6:=ao he (.tup []);have e7:=ao hs (.tup [u,.ref pe]);have h6:upd (upd H1 pe (.tup [])) ps (.tup [u,.ref pe]) pe=some (.tup []):=e7 _ _ ag;have h7:upd (upd H1 pe (.tup [])) ps (.tup [u,.ref pe]) ps=some (.tup [u,.ref pe]):=ag;have e67:=e6.trans e7;generalize upd (upd H1 pe (.tup [])) ps (.tup [u,.ref pe])=H7 at h6 h7 e67 ⊢;have sa:Kj K H7 (.ref ps) ws []:=⟨⟨ps,u,.ref pe,Z,bu.of h7,wv.mono (aV.same e67),⟨pe,[],Z,bu.of h6,.nil⟩⟩,w20,ok,Z,kx _,by decide⟩;refine⟨.ref ps,ws,[],Z,sa,u5 ok,λf l_ lys x H8 s8 win nb ly d=>?_⟩;rw[sZ win] at ly;unfold LW at d;rw[sZ win] at d;have G:=gk lys ly;have P24:=(pk lys ly).len;generalize (dJ ws [] (aX ws lys)).2=pl at d G P24;obtain⟨px,xs,rfl,hx,alx⟩:=Dm d;have lx:=alx.len;obtain⟨xt,hxt⟩:∃xt,xs[s.tn]?=some xt:=⟨_,Oh (by omega)⟩;obtain⟨q0,hq0,tq⟩:=alx.at hxt;rw[aB [] hq0] at G;have s08:=(s1.trans e67).trans s8;have s18:=e67.trans s8;have hi8:=s08 _ _ hi;refine⟨_,Z,a,_,_,_,_,Z,hi8,T.cl_Keeper,T.n_Keeper_turn,Z,px,_,_,_,Z,Z,hx,bF hxt,_,Z,p,_,_,_,Z,Z,aV.same (K:=K) s18 _ _ hp,Z,xt,l,q0,br s.rs,Z,tq,ba.of (s18 _ _ hl),G.lt,(by have:=G.few;omega),λv H9 s9 tv=>?_⟩;have s09:=s08.trans s9;have qp:=G.pc;have qn:=G.nd;have kk:=k ht q0;have bq:∀r∈s.rs,Wf 800 r:=λr hr=>((o.am r hr).1.mono (vj (by omega)) (Oi _)).wf (by decide) (by decide) (by decide)
 generalize fj (br s.rs) q0=q at tv qp qn kk;obtain⟨pv,xs9,rfl,hv,alv⟩:=tv;have lv:=alv.len;have t09:=aV.same (K:=K) s09;have hi9:=s09 _ _ hi;have hr9:=s09 _ _ hr_;have hd9:=s09 _ _ hd_;have hk9:=s09 _ _ hk;let Iv1:Nat->L2.St->Hp->Prop:=λi σ H'=>∃(ys:List V) (x3:Option V),σ=[some (.ref a),some (.ref p),some (.ref pv),x3]/\(∀b o,b≠lr->H9 b=some o->H' b=some o)/\H' lr=some (.lst ys)/\di (RV K H') ys (gy s.rs (q.take i))
 refine⟨_,Z,pv,Z,⟨_,hv⟩,hX (K:=K) (a:=pv) (xs:=xs9) Iv1 ⟨xr,none,Z,λb o _ e=>e,hr9,ar.mono λ_ _ z=>z.mono t09⟩ (λi σ H' _ ⟨_,_,_,k',h',_⟩=>aV.steps hr9 k' ⟨_,h'⟩ _ _ hv) ?_ ?_⟩
 ·rintro i x σ HI hx ⟨ys,x3,rfl,kI,hrI,alI⟩;obtain⟨c,hc,pc,xa,rfl,hSc,rx⟩:=alv.at hx;have tI:=aV.steps (K:=K) hr9 kI ⟨_,hrI⟩;obtain⟨lc,ac⟩:=qp c (Os hc);have cur:=iV (q.take i) s.rs (xp qn hc);have lI:=alI.len;rw[ko] at lI;obtain⟨yv,hyv⟩:∃yv,ys[c.1]?=some yv:=⟨_,Oh (by omega)⟩;obtain⟨r,hrd,ry⟩:=alI.at hyv;have er:r=s.rs.getD c.1 (0,1):=by rw[←cur];exact(aB (0,1) hrd).symm
  have wr:Wf 800 r:=by rw[er];exact bq _ (gP lc)
  have hiI:=kI _ _ nra.symm hi9;refine⟨_,Z,a,_,_,_,_,Z,hiI,T.cl_Keeper,T.n_Keeper_rest,Z,_,Z,pc,_,_,_,Z,Z,tI _ _ hSc,Z,lr,_,_,_,Z,Z,ba.of hrI,bF hyv,_,Z,pc,_,_,_,Z,Z,tI _ _ hSc,Z,yv,xa,r,c.2,800,800,Z,ry,rx.mono tI,wr,ac.wf,by decide,λw_ HJ sJ rw_=>?_⟩;have hiJ:=sJ _ _ hiI;have hrJ:=sJ _ _ hrI;have tJ:=aV.same (K:=K) sJ;refine⟨_,Z,a,_,_,_,_,Z,hiJ,T.cl_Keeper,T.n_Keeper_rest,Z,_,Z,pc,_,_,_,Z,Z,tJ _ _ (tI _ _ hSc),Z,lr,ys,_,c.1,Z,Z,hrJ,pG (by omega),?_⟩;have tu:=aV.up (K:=K) hrJ (ys.set c.1 w_);refine⟨_,_,Z,λb o' nb e=>by rw[ay nb];exact sJ _ _ (kI b o' nb e),ag,?_⟩;rw[Px,hc];show di _ _ (gy s.rs (q.take i++[c]));rw[xI,cur,←er];exact di.setI (rw_.mono tu) c.1 (alI.mono λ_ _ z=>(z.mono tJ).mono tu)
 ·rintro σ HI ⟨ys,x3,rfl,kI,hrI,alI⟩;rw[lv,Pt] at alI;have tI:=aV.steps (K:=K) hr9 kI ⟨_,hrI⟩;have hiI:=kI _ _ nra.symm hi9;have hdI:=kI _ _ kp.n3.symm hd9;have hkI:=kI _ _ kp.n1 hk9;have lxd:=ad.len;have ldl:=o.dl;refine⟨_,Z,a,_,_,_,_,Z,hiI,T.cl_Keeper,T.n_Keeper_done,Z,.inl ⟨Z,_,ba.of hdI⟩,_,Z,ld,_,_,Z,Z,hdI,bn (by omega),?_⟩;have hiL:upd HI ld (.lst (xd++[.ref pv])) a=some (.ins t.c_Keeper dx (AK s.tn lk lr ld)):=by rw[ay nda.symm];exact hiI
  have tL:=aV.up (K:=K) hdI (xd++[.ref pv]);have fL:∀b o',b≠ld->HI b=some o'->upd HI ld (.lst (xd++[.ref pv])) b=some o':=λb o' nb e=>by rw[ay nb];exact e
  have hdL:upd HI ld (.lst (xd++[.ref pv])) ld=some (.lst (xd++[.ref pv])):=ag;generalize upd HI ld (.lst (xd++[.ref pv]))=HL at hiL tL fL hdL ⊢;refine⟨_,Z,a,_,_,_,_,Z,hiL,T.cl_Keeper,T.n_Keeper_turn,Z,_,_,Z,Z,dx,_,hiL,(by show 4<1000;decide),?_⟩;have eF:gz (Pb "turn") (V.int ((s.tn:Int)+1)) (AK s.tn lk lr ld)=AK (s.tn+1) lk lr ld:=Z;rw[eF];have tF:aV K HL (upd HL a (.ins t.c_Keeper dx (AK (s.tn+1) lk lr ld))):=λb xs h=>by
   rcases h with(h | ⟨o',h⟩)|h
   ·exact .inl (.inl (by rw[ay (λz=>by subst z;rw[h] at hiL;cases hiL)];exact h))
   ·exact .inl (.inr ⟨o',by rw[ay (λz=>by subst z;rw[h] at hiL;cases hiL)];exact h⟩)
   ·exact .inr h
  have fF:∀b o',b≠a->HL b=some o'->upd HL a (.ins t.c_Keeper dx (AK (s.tn+1) lk lr ld)) b=some o':=λb o' nb e=>by rw[ay nb];exact e
  have hiF:upd HL a (.ins t.c_Keeper dx (AK (s.tn+1) lk lr ld)) a=some (.ins t.c_Keeper dx (AK (s.tn+1) lk lr ld)):=ag;generalize upd HL a (.ins t.c_Keeper dx (AK (s.tn+1) lk lr ld))=HF at tF fF hiF ⊢;have tIF:=tL.trans tF;have t9F:=tI.trans tIF;refine⟨_,Z,kk (.ref pv) HF G (λb o' b1 b2 b3 b4 e=>fF b o' b1 (fL b o' b4 (kI b o' b3 (s09 _ _ e)))) ⟨⟨dx,hiF⟩,⟨xk,fF _ _ nka (fL _ _ kp.n2 hkI),ak.mono λ_ _ z=>(z.mono t09).mono t9F⟩,⟨ys,fF _ _ nra (fL _ _ kp.n3 hrI),alI.mono λ_ _ z=>z.mono tIF⟩,⟨xd++[.ref pv],fF _ _ nda hdL,(ad.mono λ_ _ z=>(z.mono t09).mono t9F).snoc ⟨pv,xs9,Z,t9F _ _ hv,alv.mono λ_ _ z=>z.mono t9F⟩⟩,kp.n1,kp.n2,kp.n3⟩ ⟨pv,xs9,Z,t9F _ _ hv,alv.mono λ_ _ z=>z.mono t9F⟩⟩
theorem fT(T:ef K mg t):bv P w K mg base dF 1 t.a_Q25 t.d_Q25 ["self"] (mP K t.c_Keeper):=by
 refine T.F_Q25.ok E7 (λvs H Q E h=>?_) (λcdv A outer s H vs Q E hr h=>?_)
 ·obtain⟨_,_,_,_,_,rfl,_⟩:=h;rfl
 obtain⟨a,lk,lr,ld,s,rfl,kp,k⟩:=h;refine dk.ok (au (aG (db (qv 0) Z))) ?_;nofun
 obtain⟨dx,hi⟩:=kp.ins;exact⟨_,Z,a,_,_,_,_,Z,hi,T.cl_Keeper,T.n_Keeper_turn,Z,k⟩
theorem jF(T:ef K mg t):bv P w K mg base dF 1 t.a_Q12 t.d_Q12 ["self"] (kd K t.c_Keeper):=by
 refine T.F_Q12.ok Fg (λvs H Q E h=>?_) (λcdv A outer s H vs Q E hr h=>?_)
 ·obtain⟨_,_,_,_,_,rfl,_⟩:=h;rfl
 obtain⟨a,lk,lr,ld,s,rfl,kp,k⟩:=h;refine dk.ok (au (aG (bL bx (by rfl) T.z_tuple Qt (ae (db (qv 0) Z) ai dS)))) ?_;nofun
 obtain⟨dx,hi⟩:=kp.ins;obtain⟨xs,h1,h2⟩:=kp.hk;refine⟨_,Z,a,_,_,_,_,Z,hi,T.cl_Keeper,T.n_Keeper_known,Z,_,xs,Z,.inl ⟨ba.of h1,λl hl=>?_⟩⟩;have z:=ao hl (.tup xs);exact k _ _ z ⟨l,xs,Z,bu.of ag,h2.mono λ_ _ q=>q.mono (aV.same z)⟩
theorem Al(T:ef K mg t):bv P w K mg base dF 1 t.a_Q19 t.d_Q19 ["self"] (k7 K t.c_Keeper):=by
 refine T.F_Q19.ok Fb (λvs H Q E h=>?_) (λcdv A outer s H vs Q E hr h=>?_)
 ·obtain⟨_,_,_,_,_,rfl,_⟩:=h;rfl
 obtain⟨a,lk,lr,ld,s,rfl,kp,k⟩:=h;refine dk.ok (au (aG (bL bx (by rfl) T.z_tuple Qt (ae (db (qv 0) Z) ai dS)))) ?_;nofun
 obtain⟨dx,hi⟩:=kp.ins;obtain⟨xs,h1,h2⟩:=kp.hr;refine⟨_,Z,a,_,_,_,_,Z,hi,T.cl_Keeper,T.n_Keeper_rest,Z,_,xs,Z,.inl ⟨ba.of h1,λl hl=>?_⟩⟩;have z:=ao hl (.tup xs);exact k _ _ z ⟨l,xs,Z,bu.of ag,h2.mono λ_ _ q=>q.mono (aV.same z)⟩
theorem Gy(T:ef K mg t):bv P w K mg base dF 1 t.a_Q20 t.d_Q20 ["self"] (k6 K t.c_Keeper):=by
 refine T.F_Q20.ok Fa (λvs H Q E h=>?_) (λcdv A outer s H vs Q E hr h=>?_)
 ·obtain⟨_,_,_,_,_,rfl,_⟩:=h;rfl
 obtain⟨a,lk,lr,ld,s,rfl,kp,k⟩:=h;refine dk.ok (au (aG (bL bx (by rfl) T.z_tuple Qt (ae (db (qv 0) Z) ai dS)))) ?_;nofun
 obtain⟨dx,hi⟩:=kp.ins;obtain⟨xs,h1,h2⟩:=kp.hd;refine⟨_,Z,a,_,_,_,_,Z,hi,T.cl_Keeper,T.n_Keeper_done,Z,_,xs,Z,.inl ⟨ba.of h1,λl hl=>?_⟩⟩;have z:=ao hl (.tup xs);exact k _ _ z ⟨l,xs,Z,bu.of ag,h2.mono λ_ _ q=>q.mono (aV.same z)⟩
theorem Ah(T:ef K mg t):bv P w K mg base dF 8 t.a_Q40 t.d_Q40 ["_law_keeper","_law_way","_law_last","_law_amount"] (qr K t.c_Keeper):=by
 refine T.F_Q40.ok sd (λvs H Q E h=>?_) (λcdv A outer s H vs Q E hr h=>?_)
 ·obtain⟨_,_,_,_,_,_,_,_,_,_,rfl,_⟩:=h;rfl
 obtain⟨a,lk,lr,ld,s_,w_,v,u,dv,du,rfl,kp,o,k⟩:=h;refine dk.ok (au (zh (i:=4) (R:=(λCx dx H'=>((Cx=t.c_Q46/\w_=0/\cS s_ dv du=false)∨(Cx=t.c_Q47/\w_=1))/\aD H H'/\∃(dd:Addr) (fs:List (OV×V)),dx=some dd/\H' dd=some (dO dd fs))) Z Z Z Z T.m_Q31 sd.nd Z Z (λ_=>(au (aG (lM (aT f7 (qv 1) aj (aQ _)) (Ck (qv 0) T.cl_Keeper T.M_Keeper_come (Gz T) (hr.mono (by decide)) T.b_Q18 .nil (zY Z) (ae (qv 2) (ae (qv 3) ai af) af)) (aP gs (aI (wN (K:=K) Z) (by rfl) T.z_len Qu (ae (bj (qv 0) T.cl_Keeper T.M_Keeper_go (iM T) (hr.mono (by decide)) T.b_Q30 .nil (zY Z)) ai aH)) aj))))) (λ_=>(ah (cC 5 sd.nd (bJ (ae (aI (jo (K:=K) Z) (by rfl) T.z_isinstance PM (ae (qv 4) (ae (cD (v:=.ref t.c_Q46) Z T.m_Q46 Z) ai af) af)) (ae (aI (jo (K:=K) Z) (by rfl) T.z_isinstance PM (ae (qv 4) (ae (cD (v:=.ref t.c_Q47) Z T.m_Q47 Z) ai af) af)) (ae (aI (jo (K:=K) Z) (by rfl) T.z_isinstance PM (ae (qv 4) (ae (aY (ae (cD (v:=.ref t.c_Q48) Z T.m_Q48 Z) (ae (cD (v:=.ref t.c_Q55) Z T.m_Q55 Z) ai af) af)) ai bb) af)) ai aH) aH) aH))) (au (aG (lM (cJ (bM (aI (jo (K:=K) Z) (by rfl) T.z_isinstance PM (ae (qv 4) (ae (eT (v:=V.ty "ValueError") Z T.z_ValueError PyProof.Rows.Boot.ValueError Z) ai af) af)))) jC (qv 5)))))))) ?_
 nofun
 obtain⟨dx,hi⟩:=kp.ins;refine⟨?_,?_⟩
 ·refine⟨_,Z,Z,_,Z,?_⟩;rcases k with⟨rfl,A_,k1,k2⟩ | ⟨rfl,t24,k⟩
  ·refine cI Z ?_;have rl:=o.len;have rf:=o.few;exact⟨_,Z,a,_,_,Z,hi,Z,_,Z,_,Z,a,lk,lr,ld,s_,v,u,dv,du,Z,kp,o.few,by omega,A_.hv,A_.hu,λcf d fs H' s' hd=>⟨_,Z,.inl ⟨Z,Z,cf⟩,s'.trans (ao hd _),d,fs,Z,ag⟩,λct l r H' e1 e2 ks kp'=>k1 ct l r H' e1 e2 ks kp'⟩
  ·refine cv (λz=>by injection z with z;cases z) ?_;exact⟨_,rfl,a,_,_,rfl,hi,rfl,a,lk,lr,ld,s_,rfl,kp,o,λ_ d fs hd=>⟨_,rfl,.inr ⟨rfl,rfl⟩,ao hd _,d,fs,rfl,ag⟩,λlt=>absurd lt (by omega)⟩
 rintro C dx' H' ⟨hc,s1,dd,fs,rfl,hd⟩;rcases hc with⟨rfl,rfl,nb⟩ | ⟨rfl,rfl⟩
 ·refine⟨T.x_cW,dd,Z,λx hx=>?_⟩;rcases k with⟨_,A_,k1,k2⟩ | ⟨z,_,_⟩
  rotate_left
  ·cases z
  have ex:=ag (H:=H') (a:=x) (o:=rC x t.c_Q46 dd);have s2:=ao hx (rC x t.c_Q46 dd);have ed:=s2 _ _ hd;have cl:=T.X_Q46.cl;have gx:=T.g_Q46;refine⟨_,Z,x,_,dd,_,_,_,true,Z,ex,ed,cl,gx,.inr (.inl ⟨_,Z,T.y_sW⟩),_,Z,x,_,dd,_,_,_,false,Z,ex,ed,cl,gx,.inr (.inl ⟨_,Z,T.y_oW⟩),_,Z,gC,λp2 g2=>?_⟩;have s4:=ao g2 (.tup [.ref t.c_Q48,.ref t.c_Q55]);have q2:upd (upd H' x (rC x t.c_Q46 dd)) p2 (.tup [.ref t.c_Q48,.ref t.c_Q55]) p2=some (.tup [.ref t.c_Q48,.ref t.c_Q55]):=ag
  replace ex:=s4 _ _ ex
  replace ed:=s4 _ _ ed
  have s5:=s2.trans s4;generalize upd (upd H' x (rC x t.c_Q46 dd)) p2 (.tup [.ref t.c_Q48,.ref t.c_Q55])=H5 at q2 ex ed s5 ⊢;refine⟨x,_,dd,_,_,_,false,Z,ex,ed,cl,gx,.inr (.inr ⟨p2,[t.c_Q48,t.c_Q55],Z,q2,T.y_nW⟩),w6,λl1 h1=>?_⟩;have s6:=ao h1 (.lst [.bl true,.bl false,.bl false]);refine⟨_,Z,x,_,dd,_,_,_,true,Z,s6 _ _ ex,s6 _ _ ed,cl,gx,.inl ⟨_,Z,T.y_vW⟩,true,Z,cV ⟨_,Z,?_⟩⟩;exact k2 nb l1 _ ((s1.trans s5).trans s6) ag
 ·refine⟨T.x_cT,dd,Z,λx hx=>?_⟩;rcases k with⟨z,_⟩ | ⟨_,t24,k⟩
  ·cases z
  have ex:=ag (H:=H') (a:=x) (o:=rC x t.c_Q47 dd);have s2:=ao hx (rC x t.c_Q47 dd);have ed:=s2 _ _ hd;have cl:=T.X_Q47.cl;have gx:=T.g_Q47;refine⟨_,Z,x,_,dd,_,_,_,false,Z,ex,ed,cl,gx,.inr (.inl ⟨_,Z,T.y_oT⟩),_,Z,x,_,dd,_,_,_,true,Z,ex,ed,cl,gx,.inr (.inl ⟨_,Z,T.y_sT⟩),_,Z,gC,λp2 g2=>?_⟩;have s4:=ao g2 (.tup [.ref t.c_Q48,.ref t.c_Q55]);have q2:upd (upd H' x (rC x t.c_Q47 dd)) p2 (.tup [.ref t.c_Q48,.ref t.c_Q55]) p2=some (.tup [.ref t.c_Q48,.ref t.c_Q55]):=ag
  replace ex:=s4 _ _ ex
  replace ed:=s4 _ _ ed
  have s5:=s2.trans s4;generalize upd (upd H' x (rC x t.c_Q47 dd)) p2 (.tup [.ref t.c_Q48,.ref t.c_Q55])=H5 at q2 ex ed s5 ⊢;refine⟨x,_,dd,_,_,_,false,Z,ex,ed,cl,gx,.inr (.inr ⟨p2,[t.c_Q48,t.c_Q55],Z,q2,T.y_nT⟩),w6,λl1 h1=>?_⟩;have s6:=ao h1 (.lst [.bl false,.bl true,.bl false]);refine⟨_,Z,x,_,dd,_,_,_,true,Z,s6 _ _ ex,s6 _ _ ed,cl,gx,.inl ⟨_,Z,T.y_vT⟩,true,Z,cV ⟨_,Z,?_⟩⟩;exact k l1 _ ((s1.trans s5).trans s6) ag
theorem lS(T:ef K mg t):bv P w K mg base dF 2 t.a_Q23 t.d_Q23 ["_law_keeper"] (mN K t.c_Keeper):=by
 refine T.F_Q23.ok E8 (λvs H Q E h=>?_) (λcdv A outer s H vs Q E hr h=>?_)
 ·obtain⟨_,_,_,_,_,rfl,_⟩:=h;rfl
 obtain⟨a,lk,lr,ld,s,rfl,kp,o,k⟩:=h;refine dk.ok (au (aG (aI (nU hr) (by rfl) T.z_repr boot_repr (ae (aY (ae (bj (qv 0) T.cl_Keeper T.M_Keeper_plan (Gy T) (hr.mono (by decide)) T.b_Q20 .nil cW) (ae (bj (qv 0) T.cl_Keeper T.M_Keeper_left (Al T) (hr.mono (by decide)) T.b_Q19 .nil cW) (ae (bj (qv 0) T.cl_Keeper T.M_Keeper_now (fT T) (hr.mono (by decide)) T.b_Q25 .nil cW) (ae (bj (qv 0) T.cl_Keeper T.M_Keeper_works (jF T) (hr.mono (by decide)) T.b_Q12 .nil cW) ai aH) aH) aH) aH)) ai bb)))) ?_;nofun
 obtain⟨dx,hi⟩:=kp.ins;refine⟨_,Z,a,_,_,Z,hi,Z,a,lk,lr,ld,s,Z,kp,λv1 H1 s1 p1=>?_⟩;refine⟨_,Z,a,_,_,Z,s1 _ _ hi,Z,a,lk,lr,ld,s,Z,kp.same s1,λv2 H2 s2 p2=>?_⟩;have s02:=s1.trans s2;refine⟨_,Z,a,_,_,Z,s02 _ _ hi,Z,a,lk,lr,ld,s,Z,kp.same s02,?_⟩;refine⟨_,Z,a,_,_,Z,s02 _ _ hi,Z,a,lk,lr,ld,s,Z,kp.same s02,λv4 H4 s4 p4=>⟨Lo,λpt hpt=>?_⟩⟩;have z:=ao hpt (.tup [v1,v2,.int (s.tn:Nat),v4]);have s24:=s2.trans s4;obtain⟨q1,x1,rfl,g1,a1⟩:=p1;have d1:bh K H1 (.ref q1) (HQ s.dn):=.tup g1 (a1.deep λ_ _ z=>z.deep);exact⟨_,dL s,Z,.tup (bu.of ag) (.cons ((d1.same s24).same z) (.cons ((p2.deep.same s4).same z) (.cons (.int _) (.cons (p4.deep.same z) .nil)))),IA o,k _ ((s02.trans s4).trans z)⟩
theorem lR(T:ef K mg t):bv P w K mg base dF 9 t.a_Q29 t.d_Q29 ["_law_keeper","_law_last","_law_amount"] (oE K t.c_Keeper):=by
 refine T.F_Q29.ok lD (λvs H Q E h=>?_) (λcdv A outer s H vs Q E hr h=>?_)
 ·obtain⟨_,_,_,_,_,_,_,_,_,rfl,_⟩:=h;rfl
 obtain⟨a,lk,lr,ld,s,v,u,dv,du,rfl,kp,o,A_,ly,dp,k⟩:=h;refine dk.ok (ah (cC 3 lD.nd (cH (lS T) hr T.m_Q23 T.F_Q23.kp T.b_Q23 (ae (qv 0) ai af))) (ah (cC 4 lD.nd (cH (GC T) hr T.m_Q11 T.F_Q11.kp T.b_Q11 (ae (bj (qv 0) T.cl_Keeper T.M_Keeper_now (fT T) (hr.mono (by decide)) T.b_Q25 .nil cW) (ae (aI aS (by rfl) T.z_len Qu (ae (bj (qv 0) T.cl_Keeper T.M_Keeper_works (jF T) (hr.mono (by decide)) T.b_Q12 .nil cW) ai aH)) (ae (qv 1) (ae (qv 2) ai af) af) aH) aH))) (ah (cC 5 lD.nd (aI aS (by rfl) T.z_len Qu (ae (bj (qv 0) T.cl_Keeper T.M_Keeper_works (jF T) (hr.mono (by decide)) T.b_Q12 .nil cW) ai aH))) (ah (cC 6 lD.nd (cH (Ah T) hr T.m_Q40 T.F_Q40.kp T.b_Q40 (ae (qv 0) (ae aj (ae (qv 1) (ae (qv 2) ai af) af) ax) af))) (ah (bZ (bM (qv 4)) (au (aG (eK (cE f7 (qv 6) (qv 5) (aQ _)) (eK (zo (aI dM (by rfl) T.z_isinstance PM (ae (qv 6) (ae (eT (v:=V.ty "list") Z T.z_list boot_list Z) ai af) af))) (fS (cE (lQ hr) (cP aJ (bj (qv 0) T.cl_Keeper T.M_Keeper_works (jF T) (hr.mono (by decide)) T.b_Q12 .nil cW) (i7 gj aj)) (aY (ae (bj (qv 0) T.cl_Keeper T.M_Keeper_now (fT T) (hr.mono (by decide)) T.b_Q25 .nil cW) (ae (qv 1) (ae (qv 2) ai af) af) aH)) (aQ _))))))) bt) (au (aG (eK (cE (lQ hr) (qv 6) (bJ (ae cG (ae cG (ae cG ai ax) ax) ax)) (aQ _)) (fS (cE f7 (cH (lS T) hr T.m_Q23 T.F_Q23.kp T.b_Q23 (ae (qv 0) ai af)) (qv 3) (aQ _))))))))))) ?_
 nofun
 obtain⟨dx,hi⟩:=kp.ins;refine⟨_,Z,a,lk,lr,ld,s,Z,kp,o,λH1 s1=>?_⟩;refine⟨_,Z,a,_,_,Z,s1 _ _ hi,Z,a,lk,lr,ld,s,Z,kp.same s1,?_⟩;refine⟨_,Z,a,_,_,Z,s1 _ _ hi,Z,a,lk,lr,ld,s,Z,kp.same s1,λv2 H2 s2 p2=>?_⟩;obtain⟨q2,x2,rfl,h2,a2⟩:=p2;have s02:=s1.trans s2;refine⟨_,_,Z,.inr h2,?_⟩;rw[a2.len];refine⟨_,Z,_,Z,s,v,u,dv,du,Z,A_.same s02,o.few,o.t24,λH3 s3=>?_⟩;have s03:=s02.trans s3;refine⟨_,Z,a,_,_,Z,s03 _ _ hi,Z,a,lk,lr,ld,s,Z,kp.same s03,λv4 H4 s4 p4=>?_⟩;obtain⟨q4,x4,rfl,h4,a4⟩:=p4;have s04:=s03.trans s4;refine⟨_,_,Z,.inr h4,?_⟩;rw[a4.len];refine⟨_,Z,_,Z,_,Z,a,lk,lr,ld,s,0,v,u,dv,du,Z,kp.same s04,o,.inl ⟨Z,A_.same s04,λct l r H5 e1 e2 k5 kp5=>?_,λcf p5 H5 s5 h5=>?_⟩⟩
 ·have k45:=(rG.of (a:=a) (lk:=lk) (lr:=lr) (ld:=ld) s04).trans k5;refine⟨_,Z,_,Z,jW ct ?_⟩;refine⟨_,Z,_,Z,Z,_,Z,cI Z ?_⟩;refine⟨_,Z,_,_,_,false,Z,.int _,Z,_,Z,_,Z,cR ?_⟩;obtain⟨dx5,hi5⟩:=kp5.ins;refine⟨_,Z,a,_,_,Z,hi5,Z,a,lk,lr,ld,mE s l r,Z,kp5,λv6 H6 s6 p6=>?_⟩;obtain⟨q6,x6,rfl,h6,a6⟩:=p6;obtain⟨y6,d6,f1,f2,f3,_⟩:=a6.last (n:=s.kn.length) (by show(s.kn++[_]).length=_;rw[OQ];rfl);have ed:d6=(s.tn,l,r):=by
   have z:(s.kn++[(s.tn,l,r)])[s.kn.length]?=some d6:=f2;rw[Qs (Oi _),U0] at z;exact(Pp z).symm
  subst ed;refine⟨_,Z,q6,_,_,_,Z,Z,h6,f1,?_⟩;refine⟨_,Z,a,_,_,Z,s6 _ _ hi5,Z,a,lk,lr,ld,mE s l r,Z,kp5.same s6,?_⟩;refine⟨_,Z,_,Z,w6,λpt hpt=>?_⟩;have z:=ao hpt (.tup [.int (s.tn:Nat),v,u]);subst e1;subst e2;have A5:bh K H5 v (.int (l:Nat))/\bh K H5 u (dR r):=by
   refine⟨?_,((tz A_.hu).mono (kp.tst k45)).deep⟩;have:=A_.hv
   cases this
   exact .int _
  have s7:=s6.trans z;refine⟨Kg (s.tn,l,r),.tuple [.int (s.tn:Nat),.int (l:Nat),dR r],(f3.deep).same z,.tup (bu.of ag) (.cons (.int _) (.cons (A5.1.same s7) (.cons (A5.2.same s7) .nil))),Z,Z,(by show WO 0 (WO 0 (WO (WO 0 (WO 0 0)+1) 0))+1≤32;decide),?_⟩;rw[show Pn (Kg (s.tn,l,r)) (.tuple [.int (s.tn:Nat),.int (l:Nat),dR r])=true from G7 _ _ _];exact k (mE s l r) _ (k45.trans (rG.of s7)) (kp5.same s7) (Dr o ct Z Z (Ds A_ ct)) (λc=>by rw[ct] at c;cases c) (λ_=>⟨l,r,Z,Z,Z⟩)
 ·have s05:=s04.trans s5;refine⟨_,Z,_,Z,jc cf ?_⟩;refine⟨_,Z,w6,λl6 h6=>?_⟩;have z:=ao h6 (.lst [.bl true,.bl false,.bl false]);have s06:=s05.trans z;refine⟨.list [.bool true,.bool false,.bool false],.list [.bool true,.bool false,.bool false],.lst (ba.of (z _ _ h5)) (.cons (.bl _) (.cons (.bl _) (.cons (.bl _) .nil))),.lst (ba.of ag) (.cons (.bl _) (.cons (.bl _) (.cons (.bl _) .nil))),Z,Z,(by decide),_,Z,cR ?_⟩;refine⟨_,Z,a,lk,lr,ld,s,Z,kp.same s06,o,λH7 s7=>⟨_,Z,Z,?_⟩⟩;rw[decide_eq_true Z];exact k s H7 (rG.of (s06.trans s7)) (kp.same (s06.trans s7)) o (λ_=>Z) (λc=>by rw[cf] at c;cases c)
theorem Gv(T:ef K mg t):bv P w K mg base dF 10 t.a_Q24 t.d_Q24 ["_law_tape"] (mO K):=by
 refine T.F_Q24.ok lE (λvs H Q E h=>?_) (λcdv A outer s H vs Q E hr h=>?_)
 ·obtain⟨_,_,rfl,_⟩:=h;rfl
 obtain⟨t₁,l,rfl,tb,k⟩:=h;refine dk.ok (ah (cC 1 lE.nd (lL T.K_Keeper (sO T) (hr.mono (by decide)) Z T.m_Keeper T.b_Q17 .nil cW)) (ah (cK OZ Z (dG Z T.z_range (ae (cH (gL T) hr T.m_Q38 T.F_Q38.kp T.b_Q38 (ae (qv 0) (ae aj ai ax) af)) ai aH)) (aN (i:=2) lE.nd Z (by first|exact Pd Z|exact O7 Z)) (au (cL (bj (E:=EF) (qv 1) T.cl_Keeper T.M_Keeper_go (iM T) (hr.mono (by decide)) T.b_Q30 .nil nK)))) (ah (cK OZ Z (dG Z T.z_range (ae aj ai ax)) (aN (i:=3) lE.nd Z (by first|exact Pd Z|exact O7 Z)) (ah (cC 4 lE.nd (cH (Ai T) hr T.m_Q39 T.F_Q39.kp T.b_Q39 (ae (aP dE aj (cH (gL T) hr T.m_Q38 T.F_Q38.kp T.b_Q38 (ae (qv 0) (ae aj ai ax) af))) (ae (aP dE aj (cH (gL T) hr T.m_Q38 T.F_Q38.kp T.b_Q38 (ae (qv 0) (ae aj ai ax) af))) ai bw) bw))) (ah (bZ (cJ (bM (cH (lR T) hr T.m_Q29 T.F_Q29.kp T.b_Q29 (ae (qv 1) (ae (aI (nW Z) (by rfl) T.z_min Xq (ae aj (ae (aP dE (bj (qv 1) T.cl_Keeper T.M_Keeper_now (fT T) (hr.mono (by decide)) T.b_Q25 .nil cW) (cH (gL T) hr T.m_Q38 T.F_Q38.kp T.b_Q38 (ae (qv 0) (ae aj ai ax) af))) ai bw) ax)) (ae (qv 4) ai af) aH) af)))) (au (aG cG)) bt) (au (bZ (iu (lH (aT f7 (qv 3) aj (aQ _)) (lH (aT lP (bj (qv 1) T.cl_Keeper T.M_Keeper_now (fT T) (hr.mono (by decide)) T.b_Q25 .nil cW) aj (aQ _)) (lH (aT f7 (cH (gL T) hr T.m_Q38 T.F_Q38.kp T.b_Q38 (ae (qv 0) (ae aj ai ax) af)) aj (aQ _)) (ux (aT (lQ hr) (bj (E:=EF) (qv 1) T.cl_Keeper T.M_Keeper_go (iM T) (hr.mono (by decide)) T.b_Q30 .nil nK) (aY ai) (aQ _))))))) (au (aG cG)) bt))))) (ah (bZ (iu (gu (aT qJ (aI aS (by rfl) T.z_len Qu (ae (bj (qv 1) T.cl_Keeper T.M_Keeper_works (jF T) (hr.mono (by decide)) T.b_Q12 .nil cW) ai aH)) aj (aQ _)) (gI (cJ (bM (cH (lR T) hr T.m_Q29 T.F_Q29.kp T.b_Q29 (ae (qv 1) (ae aj (ae (aY (ae aj (ae aj ai ax) ax)) ai bb) ax) af))))))) (au (aG cG)) bt) (au (aG (eK (cE (iL hr) (bj (E:=EF) (qv 1) T.cl_Keeper T.M_Keeper_go (iM T) (hr.mono (by decide)) T.b_Q30 .nil nK) (aY ai) (aQ _)) (eK (cH (lR T) hr T.m_Q29 T.F_Q29.kp T.b_Q29 (ae (qv 1) (ae aj (ae (aY (ae aj (ae aj ai ax) ax)) ai bb) ax) af)) (fS (cE f7 (aI aS (by rfl) T.z_len Qu (ae (bj (qv 1) T.cl_Keeper T.M_Keeper_works (jF T) (hr.mono (by decide)) T.b_Q12 .nil cW) ai aH)) aj (aQ _))))))))))) ?_
 nofun
 refine λa dx ha hdx ndx=>⟨a,dx,Z,ag,λlk lr ld H1 f1 nk nr nd kp1=>⟨Z,?_⟩⟩
 obtain⟨F,B1⟩:=u4 tb ha hdx f1 nk nr nd kp1;refine⟨_,Z,t₁,l,24,Z,B1.tb,by omega,by omega,λr2 x2 a2 b2 tb2=>?_⟩;have B2:=B1.tape F tb2;generalize upd H1 t₁ (.lst x2)=H2 at B2 ⊢;obtain⟨m,rfl⟩:=PP a2;let Iv1:Nat->L2.St->Hp->Prop:=λi σ H'=>∃(x2:Option V) (s:fB),σ=[some (.ref t₁),some (.ref a),x2,none,none]/\rB K t.c_Keeper H t₁ l a lk lr ld H' s/\s.tn=i/\s.kn=[]
 refine⟨m,Z,by omega,by omega,dI (lo:=0) (n:=(m:Int).toNat) Iv1 ⟨none,_,Z,B2,Z,Z⟩ ?_ ?_⟩
 ·rintro i σ H3 hi ⟨x2',s,rfl,B3,tn,kn⟩;obtain⟨dx3,hi3⟩:=B3.kp.ins;refine⟨_,Z,a,_,_,Z,hi3,Z,a,lk,lr,ld,s,Z,B3.kp,B3.ok,λz=>absurd z (by omega),λ_ q0 v H4 G ks kp4 _=>?_⟩;exact⟨_,_,Z,B3.kst F ks kp4 G.ok,by show s.tn+1=i+1;omega,kn⟩
 rintro σ H3 ⟨x2',s0,rfl,B3,tn,kn⟩;let Iv2:Nat->L2.St->Hp->Prop:=λi σ H'=>∃(x3 x4:Option V) (s:fB),σ=[some (.ref t₁),some (.ref a),x2',x3,x4]/\rB K t.c_Keeper H t₁ l a lk lr ld H' s/\s.tn≤23/\s.kn.length=i/\(i=0∨i=10∨∃r∈s.rs,r≠(0,1))
 refine⟨20,Z,by decide,by decide,dI (lo:=0) (n:=20) Iv2 ⟨none,none,s0,Z,B3,by omega,by rw[kn];rfl,.inl Z⟩ ?_ ?_⟩
 ·rintro i σ H4 hi ⟨x3,x4,s,rfl,B4,t23,kl,_⟩;refine⟨_,Z,t₁,l,9,Z,B4.tb,by omega,by omega,λr5 x5 a5 b5 tb5=>?_⟩;have B5:=B4.tape F tb5;generalize upd H4 t₁ (.lst x5)=H5 at B5 ⊢;refine⟨_,_,Z,Z,_,Z,t₁,l,3,Z,B5.tb,by omega,by omega,λr6 x6 a6 b6 tb6=>?_⟩;have B6:=B5.tape F tb6;generalize upd H5 t₁ (.lst x6)=H6 at B6 ⊢;have d84:(1+r6)∣(84:Int):=by
   rcases(show r6=0∨r6=1∨r6=2 by omega) with rfl|rfl|rfl<;>decide
  have am:=C7 (a:=1+r5) (b:=1+r6) (by omega) (by omega) (by omega) d84;have ap:0<(dZ (1+r5) (1+r6)).1:=by
   have:=uv am.red (sP (by omega)) (λz=>by
    have e:val (dZ (1+r5) (1+r6))=0:=by rw[z];exact(fE (r:=(0,1)) (by decide)).mpr Z
    have:=(fE (r:=dZ (1+r5) (1+r6)) am.pos).mp e;have g0:0<(OG (1+r5) (1+r6):Int):=bQ (by omega);have q:0<(1+r5)/(OG (1+r5) (1+r6):Int):=Sa (by omega) (Qg g0) (WD _ _);have q':(dZ (1+r5) (1+r6)).1=(1+r5)/(OG (1+r5) (1+r6):Int):=Z;omega)
   omega
  refine⟨_,_,Z,Z,1+r5,1+r6,Z,by omega,by exact Pq (show(1+r6).natAbs≤4 by omega) (by decide),λpm hpm=>?_⟩;generalize dZ (1+r5) (1+r6)=ra at am ap ⊢;have B7:=B6.same (ao hpm (.tup [.int ra.1,.int ra.2]));have rv:RV K (upd H6 pm (.tup [.int ra.1,.int ra.2])) (.ref pm) ra:=RV.of ag;generalize upd H6 pm (.tup [.int ra.1,.int ra.2])=H7 at B7 rv ⊢;obtain⟨dx7,hi7⟩:=B7.kp.ins;refine⟨_,Z,_,Z,a,_,_,Z,hi7,Z,a,lk,lr,ld,s,Z,B7.kp,_,Z,t₁,l,24,Z,B7.tb,by omega,by omega,λr8 x8 a8 b8 tb8=>?_⟩;obtain⟨ys7,et7⟩:=B7.tb.lst;have B8:=B7.tape F tb8;have rv8:=rv.mono (aV.up (K:=K) et7 x8);generalize upd H7 t₁ (.lst x8)=H8 at B8 rv8 ⊢;refine⟨_,_,Z,Z,_,_,Z,?_⟩;have hz:(s.tn:Int)≤(if(s.tn:Int)+r8<23 then(s.tn:Int)+r8 else 23)/\(if(s.tn:Int)+r8<23 then(s.tn:Int)+r8 else 23)≤23:=by split<;>omega
  generalize (if(s.tn:Int)+r8<23 then(s.tn:Int)+r8 else 23)=z at hz ⊢;have cb:cS s (.int z) (dR ra)=true:=by rw[pR hz.1 hz.2,DE am.red ap,decide_eq_true (by omega)];rfl
  refine⟨_,Z,a,lk,lr,ld,s,.int z,.ref pm,.int z,dR ra,Z,B8.kp,B8.ok,rg rv8 am,Z,(by show 0≤28;decide),λs' H9 ks kp9 ok9 _ ct=>⟨_,Z,cV ?_⟩⟩;obtain⟨l',r',_,er,es⟩:=ct cb;have e':=Hf er;subst e';have B9:=B8.kst F ks kp9 ok9;have kn9:s'.kn.length=i+1:=by rw[es];show(s.kn++[_]).length=_;rw[OQ,kl];rfl
  have tn9:s'.tn=s.tn:=by rw[es];rfl
  have nz9:∃r∈s'.rs,r≠(0,1):=⟨ra,by rw[es];exact OE _ Oq,λz=>by rw[z] at ap;exact absurd ap (by decide)⟩;clear es ct;refine⟨_,Z,Z,_,Z,?_⟩;by_cases c9:i=9
  rotate_left
  ·refine cv (λz=>by injection z with z;omega) (cV ?_);exact⟨_,_,s',rfl,B9,by omega,kn9,.inr (.inr nz9)⟩
  refine cI (by rw[c9];rfl) ?_;obtain⟨dx9,hi9⟩:=B9.kp.ins;refine⟨_,Z,a,_,_,Z,hi9,Z,a,lk,lr,ld,s',Z,B9.kp,_,_,Z,Z,_,Z,?_⟩;by_cases c23:s'.tn<23
  rotate_left
  ·refine cv (by omega) (cV ?_);exact⟨_,_,s',Z,B9,by omega,kn9,.inr (.inr nz9)⟩
  refine cI (by omega) ?_;refine⟨_,Z,t₁,l,2,Z,B9.tb,by omega,by omega,λrA xA aA bA tbA=>?_⟩;have BA:=B9.tape F tbA;generalize upd H9 t₁ (.lst xA)=HA at BA ⊢;refine⟨Z,_,Z,?_⟩;by_cases c0:rA=0
  rotate_left
  ·refine cv (λz=>by injection z with z;exact c0 z) (cV ?_);exact⟨_,_,s',rfl,BA,by omega,kn9,.inr (.inr nz9)⟩
  refine cI (by rw[c0]) ?_;obtain⟨dxA,hiA⟩:=BA.kp.ins;refine⟨_,Z,a,_,_,Z,hiA,Z,a,lk,lr,ld,s',Z,BA.kp,BA.ok,λz=>absurd z (by omega),λ_ q0 v HB G ksB kpB tv=>?_⟩;have BB:=BA.kst F ksB kpB G.ok;refine⟨(by show 0≤sizeLine;exact ON _),λpe hpe=>?_⟩;have zB:=ao hpe (.tup []);refine⟨_,.tuple [],tv.deep.same zB,.tup (bu.of ag) .nil,sU _,Z,tw _,_,Z,?_⟩;rw[AV (uQ G nz9)];refine cV ?_;exact⟨_,_,_,Z,BB.same zB,by show s'.tn+1≤23;omega,kn9,.inr (.inl (by omega))⟩
 rintro σ H4 ⟨x3,x4,s,rfl,B4,t23,kl,nz⟩
 replace nz:∃r∈s.rs,r≠(0,1):=by
  rcases nz with z|z|z
  ·omega
  ·omega
  ·exact z
 obtain⟨dx4,hi4⟩:=B4.kp.ins;refine⟨_,Z,a,_,_,Z,hi4,Z,a,lk,lr,ld,s,Z,B4.kp,λv5 H5 s5 p5=>?_⟩;obtain⟨q5,y5,rfl,h5,a5⟩:=p5;have B5:=B4.same s5;refine⟨q5,_,Z,.inr h5,Z,_,Z,qP (by rw[a5.len,kl];rfl) ?_⟩;have no:∀(j:Int) (d:PyData),cS s (.int j) d=false:=λj d=>by unfold cS;rw[decide_eq_false (by omega),PV]
 have rOne:Bq 84 12 ((1,1):R):=⟨by decide,by decide,by decide,by decide⟩;have rHalf:Bq 84 12 ((1,2):R):=⟨by decide,by decide,by decide,by decide⟩;refine⟨_,Z,gC,λp6 h6=>?_⟩;have B6:=B5.same (ao h6 (.tup [.int 1,.int 1]));have rv6:RV K (upd H5 p6 (.tup [.int 1,.int 1])) (.ref p6) (1,1):=RV.of ag;generalize upd H5 p6 (.tup [.int 1,.int 1])=H6 at B6 rv6 ⊢;refine⟨a,lk,lr,ld,s,.int 23,.ref p6,.int 23,dR (1,1),Z,B6.kp,B6.ok,rg rv6 rOne,Z,(by show 0≤28;decide),λs' H7 ks kp7 ok7 cf _=>⟨_,Z,cV ?_⟩⟩;obtain rfl:=cf (no _ _);have B7:=B6.kst F ks kp7 ok7;obtain⟨dx7,hi7⟩:=B7.kp.ins;refine⟨_,Z,a,_,_,Z,hi7,Z,a,lk,lr,ld,s',Z,B7.kp,B7.ok,λz=>absurd z (by omega),λ_ q0 v H8 G ks8 kp8 tv=>?_⟩;have B8:=B7.kst F ks8 kp8 G.ok;refine⟨(by show 0≤sizeLine;exact ON _),λpe hpe=>?_⟩;have z8:=ao hpe (.tup []);refine⟨_,.tuple [],tv.deep.same z8,.tup (bu.of ag) .nil,sU _,Z,tw _,_,Z,?_⟩;rw[AV (uQ G nz)];refine cR ?_;have B9:=B8.same z8;generalize upd H8 pe (.tup [])=H9 at B9 ⊢;have kl9:(Ke s' (fj (br s'.rs) q0)).kn.length=20:=kl;generalize Ke s' (fj (br s'.rs) q0)=s9 at B9 kl9;have no9:∀(j:Int) (d:PyData),cS s9 (.int j) d=false:=λj d=>by unfold cS;rw[decide_eq_false (by omega),PV]
 refine⟨_,Z,gC,λpA hA=>?_⟩;have BA:=B9.same (ao hA (.tup [.int 1,.int 2]));have rvA:RV K (upd H9 pA (.tup [.int 1,.int 2])) (.ref pA) (1,2):=RV.of ag;generalize upd H9 pA (.tup [.int 1,.int 2])=HA at BA rvA ⊢;refine⟨a,lk,lr,ld,s9,.int 23,.ref pA,.int 23,dR (1,2),Z,BA.kp,BA.ok,rg rvA rHalf,Z,(by show 0≤28;decide),λsB HB ksB kpB okB cfB _=>⟨_,Z,cR ?_⟩⟩;obtain rfl:=cfB (no9 _ _);have BB:=BA.kst F ksB kpB okB;obtain⟨dxB,hiB⟩:=BB.kp.ins;refine⟨_,Z,a,_,_,Z,hiB,Z,a,lk,lr,ld,sB,Z,BB.kp,λvC HC sC pC=>?_⟩;obtain⟨qC,yC,rfl,hC,aC⟩:=pC;refine⟨qC,_,Z,.inr hC,Z,?_⟩;rw[decide_eq_true (show(V.int ((yC.length:Nat):Int))=V.int 20 by rw[aC.len,kl9];rfl)];have BC:=BB.same sC;exact k HC ⟨BC.k0,tb.lst,BC.tb.lst⟩ BC.tb
theorem Gc(T:ef K mg t):bv P w K mg base dF 11 t.a_Q59 t.d_Q59 ["_law_script"] (oF K):=by
 refine T.F_Q59.ok eI (λvs H Q E h=>?_) (λcdv A outer s H vs Q E hr h=>?_)
 ·obtain⟨_,_,rfl,_⟩:=h;rfl
 obtain⟨a₀,ns,rfl,hS,hl,k⟩:=h;refine dk.ok (ah (cC 1 eI.nd (lL T.K_Keeper (sO T) (hr.mono (by decide)) Z T.m_Keeper T.b_Q17 .nil cW)) (ah (bZ (iu (gu (aT qJ (cH (lS T) hr T.m_Q23 T.F_Q23.kp T.b_Q23 (ae (qv 1) ai af)) (aI (nU hr) (by rfl) T.z_repr boot_repr (ae (aY (ae (aY ai) (ae (aY ai) (ae aj (ae (aY ai) ai bb) ax) bb) bb)) ai bb)) (aQ _)) (gu (aT (iL hr) (bj (E:=EF) (qv 1) T.cl_Keeper T.M_Keeper_go (iM T) (hr.mono (by decide)) T.b_Q30 .nil nK) (aY ai) (aQ _)) (gI (aT qJ (bj (qv 1) T.cl_Keeper T.M_Keeper_now (fT T) (hr.mono (by decide)) T.b_Q25 .nil cW) aj (aQ _)))))) (au (aG cG)) bt) (ah (cC 2 eI.nd (bJ (ae (cH (Aj T) hr T.m_Q28 T.F_Q28.kp T.b_Q28 (ae (cH (Am T) hr T.m_Q16 T.F_Q16.kp T.b_Q16 (ae (qv 0) (ae aj ai ax) af)) (ae aj ai ax) aH)) (ae aj ai ax) aH))) (ah (bZ (cJ (bM (cH (Gv T) hr T.m_Q24 T.F_Q24.kp T.b_Q24 (ae (qv 2) ai af)))) (au (aG cG)) bt) (ah (cC 3 eI.nd (lL T.K_Keeper (sO T) (hr.mono (by decide)) Z T.m_Keeper T.b_Q17 .nil cW)) (ah (cC 4 eI.nd (bJ (ae lK (ae cG (ae cG (ae jC (ae (aY (ae aj (ae aj ai ax) ax)) (ae (i7 gj aj) (ae aj (ae aj (ae (aP Aa aj aj) (ae (bJ (ae aj ai ax)) (ae aj (ae aj ai ax) ax) qm) bw) ax) ax) iX) bb) ax) ax) ax) ax))) (ah (cC 5 eI.nd (bJ (ae lK (ae cG (ae aj (ae jC (ae (aY (ae aj ai ax)) (ae (aY (ae aj (ae aj ai ax) ax)) (ae (aY (ae (i7 gj aj) (ae aj ai ax) iX)) (ae (aY (ae aj (ae aj ai ax) ax)) (ae (aY (ae aj (ae aj ai ax) ax)) (ae (aY (ae aj (ae (i7 gj aj) ai iX) ax)) (ae (bJ (ae aj (ae aj ai ax) ax)) (ae (aY (ae cG (ae aj ai ax) ax)) (ae (aY (ae aj (ae aj (ae aj ai ax) ax) ax)) (ae (aY (ae aj (ae aj ai ax) ax)) ai bb) bb) bb) qm) bb) bb) bb) bb) bb) bb) ax) ax) ax) ax))) (ah (cK OZ Z (dG Z T.z_range (ae (cP cF (bJ (ae aj (ae aj (ae aj (ae aj (ae aj ai ax) ax) ax) ax) ax)) (cH (gL T) hr T.m_Q38 T.F_Q38.kp T.b_Q38 (ae (qv 2) (ae aj ai ax) af))) ai aL)) (aN (i:=6) eI.nd Z (by first|exact Pd Z|exact O7 Z)) (au (cL (bj (E:=EF) (qv 3) T.cl_Keeper T.M_Keeper_go (iM T) (hr.mono (by decide)) T.b_Q30 .nil nK)))) (ah (cK OZ Z (dG Z T.z_range (ae aj ai ax)) (aN (i:=7) eI.nd Z (by first|exact Pd Z|exact O7 Z)) (ah (cC 2 eI.nd (bJ (ae (cH (Aj T) hr T.m_Q28 T.F_Q28.kp T.b_Q28 (ae (aP dE (cH (Am T) hr T.m_Q16 T.F_Q16.kp T.b_Q16 (ae (qv 0) (ae (aP dE aj (qv 7)) ai bw) af)) (aP gs aj (qv 7))) (ae aj ai ax) bw)) (ae aj ai ax) aH))) (ah (cC 8 eI.nd (bJ (ae (bj (qv 3) T.cl_Keeper T.M_Keeper_now (fT T) (hr.mono (by decide)) T.b_Q25 .nil cW) (ae (aP jE (bj (qv 3) T.cl_Keeper T.M_Keeper_now (fT T) (hr.mono (by decide)) T.b_Q25 .nil cW) aj) (ae (aI (nW Z) (by rfl) T.z_min Xq (ae aj (ae (aP dE (bj (qv 3) T.cl_Keeper T.M_Keeper_now (fT T) (hr.mono (by decide)) T.b_Q25 .nil cW) aj) ai bw) ax)) ai aH) bw) aH))) (ah (cC 9 eI.nd (cP cF (aP o5 (qv 4) (aP uE (qv 8) aj)) (cH (gL T) hr T.m_Q38 T.F_Q38.kp T.b_Q38 (ae (qv 2) (ae aj ai ax) af)))) (ah (cC 10 eI.nd (cP cF (aP o5 (qv 5) (aP uE (bJ (ae (aY (ae aj (ae aj ai ax) ax)) (ae (aY (ae aj (ae aj ai ax) ax)) (ae (aY (ae aj (ae aj ai ax) ax)) ai bb) bb) bb)) aj)) (cH (gL T) hr T.m_Q38 T.F_Q38.kp T.b_Q38 (ae (qv 2) (ae aj ai ax) af)))) (au (bZ (cJ (bM (cH (lR T) hr T.m_Q29 T.F_Q29.kp T.b_Q29 (ae (qv 3) (ae (qv 9) (ae (qv 10) ai af) af) af)))) (au (aG cG)) bt))))))) (ah (gJ OZ (aT lP (bj (qv 3) T.cl_Keeper T.M_Keeper_now (fT T) (hr.mono (by decide)) T.b_Q25 .nil cW) aj (aQ _)) (au (bZ (aT Ga (bj (E:=EF) (qv 3) T.cl_Keeper T.M_Keeper_go (iM T) (hr.mono (by decide)) T.b_Q30 .nil nK) lK (aQ _)) (au (aG cG)) bt))) (ah (cC 11 eI.nd (cH (lS T) hr T.m_Q23 T.F_Q23.kp T.b_Q23 (ae (qv 3) ai af))) (ah (bZ (iu (gu (aT (iL hr) (cH (Ah T) hr T.m_Q40 T.F_Q40.kp T.b_Q40 (ae (qv 3) (ae aj (ae aj (ae aj ai ax) ax) ax) af)) (bJ (ae cG (ae cG (ae cG ai ax) ax) ax)) (aQ _)) (gI (cJ (bM (cH (lR T) hr T.m_Q29 T.F_Q29.kp T.b_Q29 (ae (qv 3) (ae aj (ae (aY (ae aj (ae aj ai ax) ax)) ai bb) ax) af))))))) (au (aG cG)) bt) (au (aG (eK (cE f7 (cH (lS T) hr T.m_Q23 T.F_Q23.kp T.b_Q23 (ae (qv 3) ai af)) (qv 11) (aQ _)) (fS (cE (lQ hr) (cm (N':=["_law_one"]) (src:=[none]) Z (by exact(fg (bj (qv 3) T.cl_Keeper T.M_Keeper_left (Al T) (hr.mono (by decide)) T.b_Q19 .nil cW))) (λ_ _ _ _ _=>(by exact(by exact aN (i:=0) (by show Po (["_law_one"]:List OV);decide +kernel) (by exact Z) (by first|exact Pd Z|exact O7 Z)))) (λ_ _ _ _ _=>(eR (aT (uG (K:=K) (by exact Z) hr) (by exact(qv 0)) (by exact(aY (ae aj (ae aj ai ax) ax))) (aQ _)))) (λ_ _ _ _ _=>(by exact(by exact(qv 0)))) (by exact trivial) Z (by decide +kernel) Z (by decide +kernel) (by exact bH Z trivial)) (bJ ai) (aQ _)))))))))))))))))) ?_
 nofun
 refine λa dx ha hdx ndx=>⟨a,dx,Z,ag,λlk lr ld H1 f1 nk nr nd kp1=>⟨Z,?_⟩⟩
 have sf:aD H H1:=λb o e=>by
  have n1:b≠a:=λz=>by rw[z,ha] at e;cases e
  have n2:b≠dx:=λz=>by rw[z,hdx] at e;cases e
  exact f1 b o n1 (by rw[ay n1,ay n2];exact e)
 have F0:FD H a lk lr ld:=⟨ha,jL nk ha hdx,jL nr ha hdx,jL nd ha hdx⟩;have B1:KB K t.c_Keeper H a lk lr ld H1 ⟨0,[],[],[]⟩:=⟨sf,kp1,Ay⟩;refine⟨_,Z,a,lk,lr,ld,_,Z,B1.kp,B1.ok,λH2 s2=>?_⟩;have B2:=B1.same s2;refine⟨(by show 0≤sizeLine;exact ON _),λp1 h1=>⟨(by show 0≤sizeLine;exact ON _),λp2 h2=>⟨(by show 0≤sizeLine;exact ON _),λp3 h3=>⟨Lo,λp4 h4=>?_⟩⟩⟩⟩;have z1:=ao h1 (.tup []);have z2:=ao h2 (.tup []);have z3:=ao h3 (.tup []);have z4:=ao h4 (.tup [.ref p1,.ref p2,.int 0,.ref p3]);have z34:=z3.trans z4;have z24:=z2.trans z34;have dd:bh K (upd (upd (upd (upd H2 p1 (.tup [])) p2 (.tup [])) p3 (.tup [])) p4 (.tup [.ref p1,.ref p2,.int 0,.ref p3])) (.ref p4) (dL ⟨0,[],[],[]⟩):=.tup (bu.of ag) (.cons (.tup (bu.of (z24 _ _ ag)) .nil) (.cons (.tup (bu.of (z34 _ _ ag)) .nil) (.cons (.int _) (.cons (.tup (bu.of (z4 _ _ ag)) .nil) .nil))));have B4:=B2.same (z1.trans z24);generalize upd (upd (upd (upd H2 p1 (.tup [])) p2 (.tup [])) p3 (.tup [])) p4 (.tup [.ref p1,.ref p2,.int 0,.ref p3])=H4 at dd B4 ⊢;refine⟨.ref p4,_,Z,dd,IA Ay,Z,_,Z,qP Z ?_⟩;obtain⟨dx4,hi4⟩:=B4.kp.ins;refine⟨_,Z,a,_,_,Z,hi4,Z,a,lk,lr,ld,_,Z,B4.kp,B4.ok,λz=>(by cases z),λ_ q0 v H5 G ks5 kp5 tv=>?_⟩;have eq0:q0=[]:=G.nil.mpr λr hr=>by cases hr
 have B5:=B4.kst F0 ks5 kp5 G.ok;subst eq0;refine⟨(by show 0≤sizeLine;exact ON _),λpe hpe=>?_⟩;have z5:=ao hpe (.tup []);refine⟨_,.tuple [],tv.deep.same z5,.tup (bu.of ag) .nil,sU _,Z,tw _,_,Z,cV ?_⟩;have B6:=B5.same z5;generalize upd H5 pe (.tup [])=H6 at B6 ⊢;obtain⟨dx6,hi6⟩:=B6.kp.ins;refine⟨_,Z,a,_,_,Z,hi6,Z,a,lk,lr,ld,_,Z,B6.kp,Z,_,Z,qP Z ?_⟩;have sm6:=B6.sm;clear B6 B5 B4 B2 B1 F0 kp1 f1 nk nr nd hi6 hi4 kp5 ks5 G tv dd z1 z2 z3 z4 z34 z24 z5 h1 h2 h3 h4 hpe s2 sf;refine⟨_,Z,a₀,ns,0,Z,sm6.seq hS,λz=>?_⟩;refine⟨_,40,Z,by decide,by decide,λl nz H7 s7 hl0 hl7 hln=>?_⟩;refine⟨gC,λt₁ ht=>?_⟩;have n1:l≠t₁:=λz=>by subst z;rw[hl7] at ht;cases ht
 have s8:=ao ht (.lst [.ref l,.int 0]);have T8:dN (upd H7 t₁ (.lst [.ref l,.int 0])) t₁ l:=⟨nz,0,ag,s8 _ _ hl7,n1,by omega,by omega⟩;have sm8:=(sm6.trans s7).trans s8;have tN:H t₁=none:=by
  cases e:H t₁ with
  |none=>rfl
  |some o=>rw[s7 _ _ (sm6 _ _ e)] at ht;cases ht
 generalize upd H7 t₁ (.lst [.ref l,.int 0])=H8 at T8 sm8 ⊢;refine⟨_,Z,t₁,l,Z,T8,λH9 S9 T9=>⟨_,Z,cV ?_⟩⟩;have sm9:aD H H9:=λb o e=>S9.keep b o (λz=>by subst z;rw[tN] at e;cases e) (sm8 _ _ e)
 refine λb dy hb hdy ndy=>⟨b,dy,Z,ag,λmk mr md HA fA nA1 nA2 nA3 kpA=>⟨Z,?_⟩⟩
 obtain⟨FA,BA⟩:=u4 T9 hb hdy fA nA1 nA2 nA3 kpA;have smA:aD H HA:=λx o e=>BA.k0 x o (λz=>by subst z;rw[tN] at e;cases e) (sm9 _ _ e)
 have hSv:∀x∈[b,mk,mr,md,t₁],∃o,HA x=some o:=λx hx=>by
  rcases OU.mp (show x∈[b,mk,mr,md]++[t₁] from hx) with z|z
  ·exact BA.kp.all x z
  ·obtain⟨xs,e⟩:=BA.tb.lst;rw[Ox.mp z];exact⟨_,e⟩
 have c0:aD HA HA:=aD.refl _;refine⟨gC,λm1 g1=>?_⟩;have y1:=ao g1 (.tup [.int 1,.int 1]);have c1:=c0.trans y1;have e1:upd HA m1 (.tup [.int 1,.int 1]) m1=some (.tup [.int 1,.int 1]):=ag;generalize upd HA m1 (.tup [.int 1,.int 1])=M1 at y1 c1 e1 ⊢;refine⟨_,Z,_,_,Z,Z,⟨by decide,by decide,by decide⟩,?_⟩;refine⟨BF,λm2 g2=>?_⟩;have y2:=ao g2 (.lst [.int 5]);have c2:=c1.trans y2;have e2:upd M1 m2 (.lst [.int 5]) m2=some (.lst [.int 5]):=ag;generalize upd M1 m2 (.lst [.int 5])=M2 at y2 c2 e2 ⊢
 replace e1:=y2 _ _ e1
 refine⟨Kr,λm3 g3=>?_⟩;have y3:=ao g3 (.lst [.non,.bl true,.bl false,.str (Pb "1"),.ref m1,.int (-1),.int 24,.int 25,.int (10^(19:Int).toNat),.ref m2,.int 23,.int 12]);have c3:=c2.trans y3;have e3:upd M2 m3 (.lst [.non,.bl true,.bl false,.str (Pb "1"),.ref m1,.int (-1),.int 24,.int 25,.int (10^(19:Int).toNat),.ref m2,.int 23,.int 12]) m3=some (.lst [.non,.bl true,.bl false,.str (Pb "1"),.ref m1,.int (-1),.int 24,.int 25,.int (10^(19:Int).toNat),.ref m2,.int 23,.int 12]):=ag;dsimp only;generalize upd M2 m3 (.lst [.non,.bl true,.bl false,.str (Pb "1"),.ref m1,.int (-1),.int 24,.int 25,.int (10^(19:Int).toNat),.ref m2,.int 23,.int 12])=M3 at y3 c3 e3 ⊢
 replace e1:=y3 _ _ e1
 replace e2:=y3 _ _ e2
 refine⟨BF,λm4 g4=>?_⟩;have y4:=ao g4 (.tup [.int 1]);have c4:=c3.trans y4;have e4:upd M3 m4 (.tup [.int 1]) m4=some (.tup [.int 1]):=ag;generalize upd M3 m4 (.tup [.int 1])=M4 at y4 c4 e4 ⊢
 replace e1:=y4 _ _ e1
 replace e2:=y4 _ _ e2
 replace e3:=y4 _ _ e3
 refine⟨gC,λm5 g5=>?_⟩;have y5:=ao g5 (.tup [.int 0,.int 1]);have c5:=c4.trans y5;have e5:upd M4 m5 (.tup [.int 0,.int 1]) m5=some (.tup [.int 0,.int 1]):=ag;generalize upd M4 m5 (.tup [.int 0,.int 1])=M5 at y5 c5 e5 ⊢
 replace e1:=y5 _ _ e1
 replace e2:=y5 _ _ e2
 replace e3:=y5 _ _ e3
 replace e4:=y5 _ _ e4
 refine⟨_,Z,?_⟩;refine⟨gC,λm6 g6=>?_⟩;have y6:=ao g6 (.tup [.int (-1),.int 2]);have c6:=c5.trans y6;have e6:upd M5 m6 (.tup [.int (-1),.int 2]) m6=some (.tup [.int (-1),.int 2]):=ag;dsimp only;generalize upd M5 m6 (.tup [.int (-1),.int 2])=M6 at y6 c6 e6 ⊢
 replace e1:=y6 _ _ e1
 replace e2:=y6 _ _ e2
 replace e3:=y6 _ _ e3
 replace e4:=y6 _ _ e4
 replace e5:=y6 _ _ e5
 refine⟨gC,λm7 g7=>?_⟩;have y7:=ao g7 (.tup [.int 2,.int 4]);have c7:=c6.trans y7;have e7:upd M6 m7 (.tup [.int 2,.int 4]) m7=some (.tup [.int 2,.int 4]):=ag;generalize upd M6 m7 (.tup [.int 2,.int 4])=M7 at y7 c7 e7 ⊢
 replace e1:=y7 _ _ e1
 replace e2:=y7 _ _ e2
 replace e3:=y7 _ _ e3
 replace e4:=y7 _ _ e4
 replace e5:=y7 _ _ e5
 replace e6:=y7 _ _ e6
 refine⟨gC,λm8 g8=>?_⟩;have y8:=ao g8 (.tup [.int 1,.int 0]);have c8:=c7.trans y8;have e8:upd M7 m8 (.tup [.int 1,.int 0]) m8=some (.tup [.int 1,.int 0]):=ag;generalize upd M7 m8 (.tup [.int 1,.int 0])=M8 at y8 c8 e8 ⊢
 replace e1:=y8 _ _ e1
 replace e2:=y8 _ _ e2
 replace e3:=y8 _ _ e3
 replace e4:=y8 _ _ e4
 replace e5:=y8 _ _ e5
 replace e6:=y8 _ _ e6
 replace e7:=y8 _ _ e7
 refine⟨_,Z,?_⟩;refine⟨gC,λm9 g9=>?_⟩;have y9:=ao g9 (.tup [.int 1,.int (-1)]);have c9:=c8.trans y9;have e9:upd M8 m9 (.tup [.int 1,.int (-1)]) m9=some (.tup [.int 1,.int (-1)]):=ag;dsimp only;generalize upd M8 m9 (.tup [.int 1,.int (-1)])=M9 at y9 c9 e9 ⊢
 replace e1:=y9 _ _ e1
 replace e2:=y9 _ _ e2
 replace e3:=y9 _ _ e3
 replace e4:=y9 _ _ e4
 replace e5:=y9 _ _ e5
 replace e6:=y9 _ _ e6
 replace e7:=y9 _ _ e7
 replace e8:=y9 _ _ e8
 refine⟨gC,λm10 g10=>?_⟩;have y10:=ao g10 (.lst [.int 1,.int 1]);have c10:=c9.trans y10;have e10:upd M9 m10 (.lst [.int 1,.int 1]) m10=some (.lst [.int 1,.int 1]):=ag;generalize upd M9 m10 (.lst [.int 1,.int 1])=M10 at y10 c10 e10 ⊢
 replace e1:=y10 _ _ e1
 replace e2:=y10 _ _ e2
 replace e3:=y10 _ _ e3
 replace e4:=y10 _ _ e4
 replace e5:=y10 _ _ e5
 replace e6:=y10 _ _ e6
 replace e7:=y10 _ _ e7
 replace e8:=y10 _ _ e8
 replace e9:=y10 _ _ e9
 refine⟨gC,λm11 g11=>?_⟩;have y11:=ao g11 (.tup [.bl true,.int 1]);have c11:=c10.trans y11;have e11:upd M10 m11 (.tup [.bl true,.int 1]) m11=some (.tup [.bl true,.int 1]):=ag;generalize upd M10 m11 (.tup [.bl true,.int 1])=M11 at y11 c11 e11 ⊢
 replace e1:=y11 _ _ e1
 replace e2:=y11 _ _ e2
 replace e3:=y11 _ _ e3
 replace e4:=y11 _ _ e4
 replace e5:=y11 _ _ e5
 replace e6:=y11 _ _ e6
 replace e7:=y11 _ _ e7
 replace e8:=y11 _ _ e8
 replace e9:=y11 _ _ e9
 replace e10:=y11 _ _ e10
 refine⟨w6,λm12 g12=>?_⟩;have y12:=ao g12 (.tup [.int 1,.int 1,.int 1]);have c12:=c11.trans y12;have e12:upd M11 m12 (.tup [.int 1,.int 1,.int 1]) m12=some (.tup [.int 1,.int 1,.int 1]):=ag;generalize upd M11 m12 (.tup [.int 1,.int 1,.int 1])=M12 at y12 c12 e12 ⊢
 replace e1:=y12 _ _ e1
 replace e2:=y12 _ _ e2
 replace e3:=y12 _ _ e3
 replace e4:=y12 _ _ e4
 replace e5:=y12 _ _ e5
 replace e6:=y12 _ _ e6
 replace e7:=y12 _ _ e7
 replace e8:=y12 _ _ e8
 replace e9:=y12 _ _ e9
 replace e10:=y12 _ _ e10
 replace e11:=y12 _ _ e11
 refine⟨gC,λm13 g13=>?_⟩;have y13:=ao g13 (.tup [.int 3,.int 2]);have c13:=c12.trans y13;have e13:upd M12 m13 (.tup [.int 3,.int 2]) m13=some (.tup [.int 3,.int 2]):=ag;generalize upd M12 m13 (.tup [.int 3,.int 2])=M13 at y13 c13 e13 ⊢
 replace e1:=y13 _ _ e1
 replace e2:=y13 _ _ e2
 replace e3:=y13 _ _ e3
 replace e4:=y13 _ _ e4
 replace e5:=y13 _ _ e5
 replace e6:=y13 _ _ e6
 replace e7:=y13 _ _ e7
 replace e8:=y13 _ _ e8
 replace e9:=y13 _ _ e9
 replace e10:=y13 _ _ e10
 replace e11:=y13 _ _ e11
 replace e12:=y13 _ _ e12
 refine⟨Kq,λm14 g14=>?_⟩;have y14:=ao g14 (.lst [.non,.bl true,.int 1,.str (Pb "1"),.ref m4,.ref m5,.ref m6,.ref m7,.ref m8,.ref m9,.ref m10,.ref m11,.ref m12,.ref m13]);have c14:=c13.trans y14;have e14:upd M13 m14 (.lst [.non,.bl true,.int 1,.str (Pb "1"),.ref m4,.ref m5,.ref m6,.ref m7,.ref m8,.ref m9,.ref m10,.ref m11,.ref m12,.ref m13]) m14=some (.lst [.non,.bl true,.int 1,.str (Pb "1"),.ref m4,.ref m5,.ref m6,.ref m7,.ref m8,.ref m9,.ref m10,.ref m11,.ref m12,.ref m13]):=ag;generalize upd M13 m14 (.lst [.non,.bl true,.int 1,.str (Pb "1"),.ref m4,.ref m5,.ref m6,.ref m7,.ref m8,.ref m9,.ref m10,.ref m11,.ref m12,.ref m13])=M14 at y14 c14 e14 ⊢
 replace e1:=y14 _ _ e1
 replace e2:=y14 _ _ e2
 replace e3:=y14 _ _ e3
 replace e4:=y14 _ _ e4
 replace e5:=y14 _ _ e5
 replace e6:=y14 _ _ e6
 replace e7:=y14 _ _ e7
 replace e8:=y14 _ _ e8
 replace e9:=y14 _ _ e9
 replace e10:=y14 _ _ e10
 replace e11:=y14 _ _ e11
 replace e12:=y14 _ _ e12
 replace e13:=y14 _ _ e13
 have d1:=cY (S:=[b,mk,mr,md,t₁]) hSv c0 g1 e1;have d2:=cY (S:=[b,mk,mr,md,t₁]) hSv c1 g2 e2;have d3:=cY (S:=[b,mk,mr,md,t₁]) hSv c2 g3 e3;have d4:=cY (S:=[b,mk,mr,md,t₁]) hSv c3 g4 e4;have d5:=cY (S:=[b,mk,mr,md,t₁]) hSv c4 g5 e5;have d6:=cY (S:=[b,mk,mr,md,t₁]) hSv c5 g6 e6;have d7:=cY (S:=[b,mk,mr,md,t₁]) hSv c6 g7 e7;have d8:=cY (S:=[b,mk,mr,md,t₁]) hSv c7 g8 e8;have d9:=cY (S:=[b,mk,mr,md,t₁]) hSv c8 g9 e9;have d10:=cY (S:=[b,mk,mr,md,t₁]) hSv c9 g10 e10;have d11:=cY (S:=[b,mk,mr,md,t₁]) hSv c10 g11 e11;have d12:=cY (S:=[b,mk,mr,md,t₁]) hSv c11 g12 e12;have d13:=cY (S:=[b,mk,mr,md,t₁]) hSv c12 g13 e13;have d14:=cY (S:=[b,mk,mr,md,t₁]) hSv c13 g14 e14;have laP:∀v∈([.non,.bl true,.bl false,.str (Pb "1"),.ref m1,.int (-1),.int 24,.int 25,.int (10^(19:Int).toNat),.ref m2,.int 23,.int 12]:List V),HX K (fK [b,mk,mr,md,t₁] M14) v:=λv hv=>by
  simp only[Ov,OX,or_false] at hv;rcases hv with rfl|rfl|rfl|rfl|rfl|rfl|rfl|rfl|rfl|rfl|rfl|rfl
  ·exact⟨.none,.non,Z,by decide⟩
  ·exact⟨.bool true,.bl _,Z,by decide⟩
  ·exact⟨.bool false,.bl _,Z,by decide⟩
  ·exact⟨.str _,.str _,by decide +kernel,by decide +kernel⟩
  ·exact⟨dR (1,1),.tup (bu.of d1) (.cons (.int _) (.cons (.int _) .nil)),Z,by decide⟩
  ·exact⟨.int _,.int _,Z,by decide⟩
  ·exact⟨.int _,.int _,Z,by decide⟩
  ·exact⟨.int _,.int _,Z,by decide⟩
  ·exact⟨.int _,.int _,Z,by decide⟩
  ·exact⟨.list [.int 5],.lst (ba.of d2) (.cons (.int _) .nil),Z,by decide⟩
  ·exact⟨.int _,.int _,Z,by decide⟩
  ·exact⟨.int _,.int _,Z,by decide⟩
 have amP:∀v∈([.non,.bl true,.int 1,.str (Pb "1"),.ref m4,.ref m5,.ref m6,.ref m7,.ref m8,.ref m9,.ref m10,.ref m11,.ref m12,.ref m13]:List V),HY K (fK [b,mk,mr,md,t₁] M14) v:=λv hv=>by
  simp only[Ov,OX,or_false] at hv;rcases hv with rfl|rfl|rfl|rfl|rfl|rfl|rfl|rfl|rfl|rfl|rfl|rfl|rfl|rfl
  ·exact⟨.none,.non,by decide,Z,by decide,λz=>absurd z (by decide)⟩
  ·exact⟨.bool true,.bl _,by decide,Z,by decide,λz=>absurd z (by decide)⟩
  ·exact⟨.int 1,.int _,by decide,Z,by decide,λz=>absurd z (by decide)⟩
  ·exact⟨.str (Pb "1"),.str _,by decide +kernel,by decide +kernel,by decide +kernel,λz=>absurd z (by decide)⟩
  ·exact⟨.tuple [.int 1],.tup (bu.of d4) (.cons (.int _) .nil),by decide,Z,by decide,λz=>absurd z (by decide)⟩
  ·exact⟨dR (0,1),.tup (bu.of d5) (.cons (.int _) (.cons (.int _) .nil)),by decide,Z,by decide,λz=>absurd z (by decide)⟩
  ·exact⟨dR (-1,2),.tup (bu.of d6) (.cons (.int _) (.cons (.int _) .nil)),by decide,Z,by decide,λz=>absurd z (by decide)⟩
  ·exact⟨dR (2,4),.tup (bu.of d7) (.cons (.int _) (.cons (.int _) .nil)),by decide,Z,by decide,λz=>absurd z (by decide)⟩
  ·exact⟨dR (1,0),.tup (bu.of d8) (.cons (.int _) (.cons (.int _) .nil)),by decide,Z,by decide,λz=>absurd z (by decide)⟩
  ·exact⟨dR (1,-1),.tup (bu.of d9) (.cons (.int _) (.cons (.int _) .nil)),by decide,Z,by decide,λz=>absurd z (by decide)⟩
  ·exact⟨.list [.int 1,.int 1],.lst (ba.of d10) (.cons (.int _) (.cons (.int _) .nil)),by decide,Z,by decide,λz=>absurd z (by decide)⟩
  ·exact⟨.tuple [.bool true,.int 1],.tup (bu.of d11) (.cons (.bl _) (.cons (.int _) .nil)),by decide,Z,by decide,λz=>absurd z (by decide)⟩
  ·exact⟨.tuple [.int 1,.int 1,.int 1],.tup (bu.of d12) (.cons (.int _) (.cons (.int _) (.cons (.int _) .nil))),by decide,Z,by decide,λz=>absurd z (by decide)⟩
  ·exact⟨dR (3,2),.tup (bu.of d13) (.cons (.int _) (.cons (.int _) .nil)),by decide,Z,by decide,λ_=>⟨(3,2),Z,⟨by decide,by decide,by decide,by decide⟩⟩⟩
 have dLL:(fK [b,mk,mr,md,t₁] M14) m3=some (.lst [.non,.bl true,.bl false,.str (Pb "1"),.ref m1,.int (-1),.int 24,.int 25,.int (10^(19:Int).toNat),.ref m2,.int 23,.int 12]):=d3;have dAA:(fK [b,mk,mr,md,t₁] M14) m14=some (.lst [.non,.bl true,.int 1,.str (Pb "1"),.ref m4,.ref m5,.ref m6,.ref m7,.ref m8,.ref m9,.ref m10,.ref m11,.ref m12,.ref m13]):=d14;have lLL:([.non,.bl true,.bl false,.str (Pb "1"),.ref m1,.int (-1),.int 24,.int 25,.int (10^(19:Int).toNat),.ref m2,.int 23,.int 12]:List V).length=12:=Z;have lAA:([.non,.bl true,.int 1,.str (Pb "1"),.ref m4,.ref m5,.ref m6,.ref m7,.ref m8,.ref m9,.ref m10,.ref m11,.ref m12,.ref m13]:List V).length=14:=Z;generalize ([.non,.bl true,.bl false,.str (Pb "1"),.ref m1,.int (-1),.int 24,.int 25,.int (10^(19:Int).toNat),.ref m2,.int 23,.int 12]:List V)=xL at laP dLL lLL;generalize ([.non,.bl true,.int 1,.str (Pb "1"),.ref m4,.ref m5,.ref m6,.ref m7,.ref m8,.ref m9,.ref m10,.ref m11,.ref m12,.ref m13]:List V)=xA at amP dAA lAA;have BM:=BA.same c14;have sHD:aD H (fK [b,mk,mr,md,t₁] M14):=λx o e=>by
  rw[fz λz=>?_]
  ·exact c14 _ _ (smA _ _ e)
  have e9:=sm9 _ _ e;simp only[Ov,OX,or_false] at z;rcases z with rfl|rfl|rfl|rfl|rfl
  ·rw[FA.fa] at e9;cases e9
  ·rw[FA.fk] at e9;cases e9
  ·rw[FA.fr] at e9;cases e9
  ·rw[FA.fd] at e9;cases e9
  ·rw[tN] at e;cases e
 have hSD:ba K (fK [b,mk,mr,md,t₁] M14) a₀ (ns.map V.int):=sHD.seq hS;clear sHD;have FH:FD (fK [b,mk,mr,md,t₁] M14) b mk mr md:=⟨eO (by simp),eO (by simp),eO (by simp),eO (by simp)⟩;have nt:t₁∉[b,mk,mr,md]:=λz=>by
  obtain⟨o,e⟩:=FA.ft;simp only[Ov,OX,or_false] at z;rcases z with rfl|rfl|rfl|rfl
  ·rw[FA.fa] at e;cases e
  ·rw[FA.fk] at e;cases e
  ·rw[FA.fr] at e;cases e
  ·rw[FA.fd] at e;cases e
 have nl_:l∉[b,mk,mr,md]:=λz=>by
  obtain⟨o,e⟩:=FA.fl;simp only[Ov,OX,or_false] at z;rcases z with rfl|rfl|rfl|rfl
  ·rw[FA.fa] at e;cases e
  ·rw[FA.fk] at e;cases e
  ·rw[FA.fr] at e;cases e
  ·rw[FA.fd] at e;cases e
 obtain⟨yt,et⟩:=BM.tb.lst;obtain⟨yl,el⟩:=BM.tb.lst';have F2:JT (fK [b,mk,mr,md] M14) t₁ l b mk mr md:=⟨eO (by simp),eO (by simp),eO (by simp),eO (by simp),⟨_,by rw[fz nt];exact et⟩,⟨_,by rw[fz nl_];exact el⟩⟩;have C0:rB K t.c_Keeper (fK [b,mk,mr,md] M14) t₁ l b mk mr md M14 ⟨0,[],[],[]⟩:=⟨λx o _ e=>AF x o e,BM.tb,BM.kp,BM.ok⟩;have hd5:∀x o,(fK [b,mk,mr,md,t₁] M14) x=some o->x≠t₁/\fK [b,mk,mr,md] M14 x=some o:=λx o e=>by
  have nx:x∉[b,mk,mr,md,t₁]:=λz=>by rw[eO z] at e;cases e
  rw[fz nx] at e;refine⟨λz=>nx (by rw[z];simp),?_⟩;rw[fz λz=>nx (O6 [t₁] z)];exact e
 clear d1 d2 d3 d4 d5 d6 d7 d8 d9 d10 d11 d12 d13 d14 e1 e2 e3 e4 e5 e6 e7 e8 e9 e10 e11 e12 e13 e14 g1 g2 g3 g4 g5 g6 g7 g8 g9 g10 g11 g12 g13 g14 y1 y2 y3 y4 y5 y6 y7 y8 y9 y10 y11 y12 y13 y14 c1 c2 c3 c4 c5 c6 c7 c8 c9 c10 c11 c12 c13 c14;generalize hHD:(fK [b,mk,mr,md,t₁] M14)=HD at laP amP dLL dAA hSD FH hd5;clear hHD;refine⟨Mo,λpl hpl=>?_⟩;have zp:=ao hpl (.lst [.int 0,.int 3,.int 24,.int 23,.int 22]);have C1:=C0.same zp;have ep:upd M14 pl (.lst [.int 0,.int 3,.int 24,.int 23,.int 22]) pl=some (.lst [.int 0,.int 3,.int 24,.int 23,.int 22]):=ag;have npt:pl≠t₁:=λz=>by rw[z,et] at hpl;cases hpl
 generalize upd M14 pl (.lst [.int 0,.int 3,.int 24,.int 23,.int 22])=N1 at C1 ep ⊢;refine⟨_,Z,t₁,l,5,Z,C1.tb,by omega,by omega,λr2 x2 a2 b2 tb2=>?_⟩;have C2:=C1.tape F2 tb2;have ep2:upd N1 t₁ (.lst x2) pl=some (.lst [.int 0,.int 3,.int 24,.int 23,.int 22]):=by rw[ay npt];exact ep
 generalize upd N1 t₁ (.lst x2)=N2 at C2 ep2 ⊢;obtain⟨m,hm,m24⟩:∃m:Nat,rD [V.int 0,.int 3,.int 24,.int 23,.int 22] r2=some (.int m)/\m≤24:=by
  rcases(show r2=0∨r2=1∨r2=2∨r2=3∨r2=4 by omega) with rfl|rfl|rfl|rfl|rfl
  ·exact⟨0,Z,by decide⟩
  ·exact⟨3,Z,by decide⟩
  ·exact⟨24,Z,by decide⟩
  ·exact⟨23,Z,by decide⟩
  ·exact⟨22,Z,by decide⟩
 refine⟨pl,_,_,_,Z,Z,ba.of ep2,hm,?_⟩;let Iv1:Nat->L2.St->Hp->Prop:=λi σ H'=>∃(x6:Option V) (s:fB),σ=[some (.ref a₀),some (.ref a),some (.ref t₁),some (.ref b),some (.ref m3),some (.ref m14),x6,none,none,none,none,none]/\rB K t.c_Keeper (fK [b,mk,mr,md] M14) t₁ l b mk mr md H' s/\s.tn=i
 refine⟨m,Z,by omega,by omega,dI (lo:=0) (n:=(m:Int).toNat) Iv1 ⟨none,_,Z,C2,Z⟩ ?_ ?_⟩
 ·rintro i σ N3 hi ⟨x6,s,rfl,C3,tn⟩;obtain⟨dx3,hi3⟩:=C3.kp.ins;refine⟨_,Z,b,_,_,Z,hi3,Z,b,mk,mr,md,s,Z,C3.kp,C3.ok,λz=>absurd z (by omega),λ_ q0 v N4 G ks kp4 _=>?_⟩;exact⟨_,_,Z,C3.kst F2 ks kp4 G.ok,by show s.tn+1=i+1;omega⟩
 rintro σ N3 ⟨x6,s3,rfl,C3,tn3⟩;have D3:KB K t.c_Keeper HD b mk mr md N3 s3:=⟨λx o e=>C3.k0 x o (hd5 x o e).1 (hd5 x o e).2,C3.kp,C3.ok⟩;clear C3 C2 C1 C0 ep ep2 zp tb2;let Iv2:Nat->L2.St->Hp->Prop:=λi σ H'=>∃(y2 y6 y7 y8 y9 yA:Option V) (s:fB),σ=[some (.ref a₀),some (.ref a),y2,some (.ref b),some (.ref m3),some (.ref m14),y6,y7,y8,y9,yA,none]/\KB K t.c_Keeper HD b mk mr md H' s
 refine⟨24,Z,by decide,by decide,dI (lo:=0) (n:=24) Iv2 ⟨_,_,none,none,none,none,s3,Z,D3⟩ ?_ ?_⟩
 ·rintro i σ N4 hi ⟨y2,y6,y7,y8,y9,yA,s,rfl,D4⟩;rw[UW];refine⟨_,Z,_,Z,_,_,Z,Z,a₀,ns,1+i,(by rw[Int.natCast_add];rfl),D4.sm.seq hSD,λz=>?_⟩;refine⟨_,Z,_,_,Z,Z,.inl ⟨by decide,by decide⟩,_,_,Z,Z,_,20,Z,by decide,by decide,λl₂ nz₂ N5 s5 hl0₂ hl5 hln₂=>?_⟩;refine⟨gC,λt₂ ht₂=>?_⟩;have n2:l₂≠t₂:=λz=>by subst z;rw[hl5] at ht₂;cases ht₂
  have s6:=ao ht₂ (.lst [.ref l₂,.int 0]);have T6:dN (upd N5 t₂ (.lst [.ref l₂,.int 0])) t₂ l₂:=⟨nz₂,0,ag,s6 _ _ hl5,n2,by omega,by omega⟩;generalize upd N5 t₂ (.lst [.ref l₂,.int 0])=N6 at T6 s6 ⊢;obtain⟨F6,B6⟩:=D4.into s5 hl0₂ ht₂ s6 T6;have bk:=λ(N:Hp) (s':fB) (B:rB K t.c_Keeper (fK [b,mk,mr,md] N6) t₂ l₂ b mk mr md N s')=>D4.back FH s5 ht₂ s6 B
  obtain⟨dy6,hi6_⟩:=B6.kp.ins;refine⟨_,Z,b,_,_,Z,hi6_,Z,b,mk,mr,md,s,Z,B6.kp,_,Z,b,_,_,Z,hi6_,Z,b,mk,mr,md,s,Z,B6.kp,_,_,Z,Z,_,Z,b,_,_,Z,hi6_,Z,b,mk,mr,md,s,Z,B6.kp,_,_,Z,Z,_,_,Z,w6,λph hph=>?_⟩;have hz:∃z:Int,(if(s.tn:Int)+3<23 then(s.tn:Int)+3 else 23)=z:=⟨_,Z⟩;obtain⟨z3,ez3⟩:=hz;dsimp only;rw[ez3];have z7:=ao hph (.lst [.int (s.tn:Nat),.int ((s.tn:Int)-1),.int z3]);have B7:=B6.same z7;have e7:upd N6 ph (.lst [.int (s.tn:Nat),.int ((s.tn:Int)-1),.int z3]) ph=some (.lst [.int (s.tn:Nat),.int ((s.tn:Int)-1),.int z3]):=ag;generalize upd N6 ph (.lst [.int (s.tn:Nat),.int ((s.tn:Int)-1),.int z3])=N7 at B7 e7 ⊢;refine⟨_,Z,_,Z,ph,_,4,Z,Z,e7,(λz=>by cases z),(by show 3*4≤1000;decide),λp8 h8=>?_⟩;have z8:=ao h8 (.lst (Ou 4 [V.int (s.tn:Nat),.int ((s.tn:Int)-1),.int z3]).flatten);have B8:=B7.same z8;have e8:upd N7 p8 (.lst (Ou 4 [V.int (s.tn:Nat),.int ((s.tn:Int)-1),.int z3]).flatten) p8=some (.lst (Ou 4 [V.int (s.tn:Nat),.int ((s.tn:Int)-1),.int z3]).flatten):=ag;generalize upd N7 p8 (.lst (Ou 4 [V.int (s.tn:Nat),.int ((s.tn:Int)-1),.int z3]).flatten)=N8 at B8 e8 ⊢;have hFl:∀v∈(Ou 4 [V.int (s.tn:Nat),.int ((s.tn:Int)-1),.int z3]).flatten,∃i,v=.int i:=λv hv=>by
   obtain⟨l',h1,h2⟩:=WM.mp hv;rw[Ss h1] at h2;simp only[Ov,OX,or_false] at h2;rcases h2 with rfl|rfl|rfl<;>exact⟨_,rfl⟩
  have lFl:((Ou 4 [V.int (s.tn:Nat),.int ((s.tn:Int)-1),.int z3]).flatten).length=12:=Z;generalize (Ou 4 [V.int (s.tn:Nat),.int ((s.tn:Int)-1),.int z3]).flatten=xF at e8 hFl lFl ⊢;refine⟨m3,p8,_,_,Z,Z,(bk N8 s B8).sm _ _ dLL,e8,(by rw[lLL,lFl];decide),λp9 h9=>?_⟩;have z9:=ao h9 (.lst (xL++xF));have B9:=B8.same z9;have e9:upd N8 p9 (.lst (xL++xF)) p9=some (.lst (xL++xF)):=ag;generalize upd N8 p9 (.lst (xL++xF))=N9 at B9 e9 ⊢;refine⟨_,Z,t₂,l₂,24,Z,B9.tb,by omega,by omega,λrA xA' aA bA tbA=>?_⟩;obtain⟨j,rfl⟩:=PP aA;have n9:p9≠t₂:=λz=>by
   obtain⟨y,e⟩:=B8.tb.lst;rw[z,e] at h9
   cases h9
  have BA':=B9.tape F6 tbA;have eA:upd N9 t₂ (.lst xA') p9=some (.lst (xL++xF)):=by rw[ay n9];exact e9
  generalize upd N9 t₂ (.lst xA')=NA at BA' eA ⊢;obtain⟨vl,hvl⟩:∃v,(xL++xF)[j]?=some v:=⟨_,Oh (by rw[OQ];omega)⟩;refine⟨p9,_,_,_,Z,Z,ba.of eA,bF hvl,?_⟩;have lv:∀N,aD HD N->HX K N vl:=λN sN=>by
   rcases OU.mp (Os hvl) with z|z
   ·exact(laP vl z).same sN
   ·obtain⟨i',rfl⟩:=hFl vl z;exact⟨.int i',.int _,Z,ON _⟩
  refine⟨_,Z,gC,λu1 k1=>⟨gC,λu2 k2=>⟨gC,λu3 k3=>⟨w6,λul kl=>?_⟩⟩⟩⟩;have q1:=ao k1 (.tup [.int 1,.int 1]);have q2:=ao k2 (.tup [.int 5,.int 3]);have q3:=ao k3 (.tup [.int 1,.int 7]);have q4:=ao kl (.lst [.ref u1,.ref u2,.ref u3]);have q34:=q3.trans q4;have q24:=q2.trans q34;have BB:=BA'.same (q1.trans q24);have v1:=q24 _ _ (ag (H:=NA) (a:=u1) (o:=.tup [.int 1,.int 1]));have v2:=q34 _ _ (ag (H:=upd NA u1 (.tup [.int 1,.int 1])) (a:=u2) (o:=.tup [.int 5,.int 3]));have v3:=q4 _ _ (ag (H:=upd (upd NA u1 (.tup [.int 1,.int 1])) u2 (.tup [.int 5,.int 3])) (a:=u3) (o:=.tup [.int 1,.int 7]));have eB:upd (upd (upd (upd NA u1 (.tup [.int 1,.int 1])) u2 (.tup [.int 5,.int 3])) u3 (.tup [.int 1,.int 7])) ul (.lst [.ref u1,.ref u2,.ref u3]) ul=some (.lst [.ref u1,.ref u2,.ref u3]):=ag;generalize upd (upd (upd (upd NA u1 (.tup [.int 1,.int 1])) u2 (.tup [.int 5,.int 3])) u3 (.tup [.int 1,.int 7])) ul (.lst [.ref u1,.ref u2,.ref u3])=NB at BB v1 v2 v3 eB ⊢;refine⟨ul,_,4,Z,Z,eB,(λz=>by cases z),(by show 3*4≤1000;decide),λpC hC=>?_⟩;have zC:=ao hC (.lst (Ou 4 [V.ref u1,.ref u2,.ref u3]).flatten);have BC:=BB.same zC;have eC:upd NB pC (.lst (Ou 4 [V.ref u1,.ref u2,.ref u3]).flatten) pC=some (.lst (Ou 4 [V.ref u1,.ref u2,.ref u3]).flatten):=ag
  replace v1:=zC _ _ v1
  replace v2:=zC _ _ v2
  replace v3:=zC _ _ v3
  generalize upd NB pC (.lst (Ou 4 [V.ref u1,.ref u2,.ref u3]).flatten)=NC at BC eC v1 v2 v3 ⊢;have hFa:∀v∈(Ou 4 [V.ref u1,.ref u2,.ref u3]).flatten,∃r:R,RV K NC v r/\Bq 84 12 r:=λv hv=>by
   obtain⟨l',h1,h2⟩:=WM.mp hv;rw[Ss h1] at h2;simp only[Ov,OX,or_false] at h2;rcases h2 with rfl|rfl|rfl
   ·exact⟨(1,1),RV.of v1,⟨by decide,by decide,by decide,by decide⟩⟩
   ·exact⟨(5,3),RV.of v2,⟨by decide,by decide,by decide,by decide⟩⟩
   ·exact⟨(1,7),RV.of v3,⟨by decide,by decide,by decide,by decide⟩⟩
  have lFa:((Ou 4 [V.ref u1,.ref u2,.ref u3]).flatten).length=12:=Z;generalize (Ou 4 [V.ref u1,.ref u2,.ref u3]).flatten=yF at eC hFa lFa ⊢;refine⟨m14,pC,_,_,Z,Z,(bk NC s BC).sm _ _ dAA,eC,(by rw[lAA,lFa];decide),λpD hD=>?_⟩;have zD:=ao hD (.lst (xA++yF));have BD:=BC.same zD;have eD:upd NC pD (.lst (xA++yF)) pD=some (.lst (xA++yF)):=ag;have hFd:∀v∈yF,∃r:R,RV K (upd NC pD (.lst (xA++yF))) v r/\Bq 84 12 r:=λv hv=>let ⟨r,h1,h2⟩:=hFa v hv;⟨r,h1.mono (aV.same zD),h2⟩
  generalize upd NC pD (.lst (xA++yF))=ND at BD eD hFd ⊢;refine⟨_,Z,t₂,l₂,26,Z,BD.tb,by omega,by omega,λrE xE aE bE tbE=>?_⟩;obtain⟨j₂,rfl⟩:=PP aE;have nD:pD≠t₂:=λz=>by
   obtain⟨y,e⟩:=BC.tb.lst;rw[z,e] at hD
   cases hD
  obtain⟨yD,etD⟩:=BD.tb.lst;have tuE:=aV.up (K:=K) etD xE;have BE:=BD.tape F6 tbE;have eE:upd ND t₂ (.lst xE) pD=some (.lst (xA++yF)):=by rw[ay nD];exact eD
  have hFe:∀v∈yF,∃r:R,RV K (upd ND t₂ (.lst xE)) v r/\Bq 84 12 r:=λv hv=>let ⟨r,h1,h2⟩:=hFd v hv;⟨r,h1.mono tuE,h2⟩
  generalize upd ND t₂ (.lst xE)=NE at BE eE hFe ⊢;obtain⟨va,hva⟩:∃v,(xA++yF)[j₂]?=some v:=⟨_,Oh (by rw[OQ];omega)⟩;refine⟨pD,_,_,_,Z,Z,ba.of eE,bF hva,?_⟩;have sE:=(bk NE s BE).sm;have av:HY K NE va:=by
   rcases OU.mp (Os hva) with z|z
   ·exact(amP va z).same sE
   ·obtain⟨r,h1,h2⟩:=hFe va z;have A_:=rg (i:=0) h1 h2;exact⟨dR r,h1.deep,A_.ib,A_.ly,(by show WO 0 (WO 0 0)+1≤28;decide),A_.am⟩
  obtain⟨dv,du,A_,ly_,dp_⟩:=JE (lv NE sE) av;refine⟨_,Z,_,Z,_,Z,b,mk,mr,md,s,vl,va,dv,du,Z,BE.kp,BE.ok,A_,ly_,dp_,λs' NF ksF kpF okF _ _=>⟨_,Z,cV ?_⟩⟩;exact⟨_,_,_,_,_,_,s',Z,bk NF s' (BE.kst F6 ksF kpF okF)⟩
 rintro σ N4 ⟨y2,y6,y7,y8,y9,yA,s4,rfl,D4⟩;let Iv3:Nat->L2.St->Hp->Prop:=λm σ H'=>∃s:fB,m=24-s.tn/\σ=[some (.ref a₀),some (.ref a),y2,some (.ref b),some (.ref m3),some (.ref m14),y6,y7,y8,y9,yA,none]/\KB K t.c_Keeper HD b mk mr md H' s
 refine⟨Iv3,⟨_,s4,Z,Z,D4⟩,?_⟩;rintro m σ N5 ⟨s,rfl,rfl,D5⟩;obtain⟨dx5,hi5⟩:=D5.kp.ins;refine⟨_,Z,b,_,_,Z,hi5,Z,b,mk,mr,md,s,Z,D5.kp,_,_,Z,Z,_,Z,?_⟩;have t24:=D5.ok.t24;by_cases c24:s.tn<24
 ·refine cI (by omega) ⟨λσ' H'=>∃s':fB,s'.tn=s.tn+1/\σ'=[some (.ref a₀),some (.ref a),y2,some (.ref b),some (.ref m3),some (.ref m14),y6,y7,y8,y9,yA,none]/\KB K t.c_Keeper HD b mk mr md H' s',λσ' H' ⟨s',e1,e2,d⟩=>⟨24-s'.tn,by omega,s',Z,e2,d⟩,?_⟩;refine⟨_,Z,b,_,_,Z,hi5,Z,b,mk,mr,md,s,Z,D5.kp,D5.ok,λz=>absurd z (by omega),λ_ q0 v N6 G ks kp6 tv=>?_⟩;obtain⟨pv,xv,rfl,_,_⟩:=tv;refine⟨Z,_,Z,cv (λz=>by cases z) ?_⟩;exact⟨_,Z,Z,D5.kst FH ks kp6 G.ok⟩
 refine cv (by omega) ?_;have e24:s.tn=24:=by omega
 refine⟨_,Z,b,mk,mr,md,s,Z,D5.kp,D5.ok,λN6 s6=>?_⟩;have D6:=D5.same s6;refine⟨_,Z,b,mk,mr,md,s,1,.int 0,.int 0,.none,.none,Z,D6.kp,D6.ok,.inr ⟨Z,e24,λp7 N7 s7 h7=>?_⟩⟩;have D7:=D6.same s7;refine⟨w6,λq8 h8=>?_⟩;have z8:=ao h8 (.lst [.bl false,.bl true,.bl false]);refine⟨.list [.bool false,.bool true,.bool false],.list [.bool false,.bool true,.bool false],.lst (ba.of (z8 _ _ h7)) (.cons (.bl _) (.cons (.bl _) (.cons (.bl _) .nil))),.lst (ba.of ag) (.cons (.bl _) (.cons (.bl _) (.cons (.bl _) .nil))),Z,Z,(by decide),_,Z,cV ?_⟩;have D8:=D7.same z8;generalize upd N7 q8 (.lst [.bl false,.bl true,.bl false])=N8 at D8 ⊢;refine⟨_,Z,gC,λp9 h9=>?_⟩;have D9:=D8.same (ao h9 (.tup [.int 1,.int 1]));have rv9:RV K (upd N8 p9 (.tup [.int 1,.int 1])) (.ref p9) (1,1):=RV.of ag;generalize upd N8 p9 (.tup [.int 1,.int 1])=N9 at D9 rv9 ⊢;refine⟨b,mk,mr,md,s,.int 23,.ref p9,.int 23,dR (1,1),Z,D9.kp,D9.ok,rg rv9 ⟨by decide,by decide,by decide,by decide⟩,Z,(by show 0≤28;decide),λs' NA ksA kpA okA cf _=>⟨_,Z,cV ?_⟩⟩;obtain rfl:=cf (pP λi e z=>by cases e;omega);have DA:=D9.kst FH ksA kpA okA;refine⟨_,Z,b,mk,mr,md,s',Z,DA.kp,DA.ok,λNB sB=>⟨_,Z,Z,?_⟩⟩;rw[decide_eq_true Z];refine⟨_,Z,cR ?_⟩;have DB:=DA.same sB;obtain⟨dxB,hiB⟩:=DB.kp.ins;refine⟨_,Z,b,_,_,Z,hiB,Z,b,mk,mr,md,s',Z,DB.kp,λvC NC sC pC=>?_⟩;obtain⟨qC,xC,rfl,hqC,aC⟩:=pC;have lC:=aC.len;have oz:=AY DB.ok e24;have o20:=DB.ok.few;have oln:=DB.ok.len;refine⟨qC,Z,⟨_,hqC⟩,λD hDn=>da (og hqC) (λ_=>false) (λ_=>V.non) hDn (by omega) (λi x H' hi s' hx R E kR kE=>?_) λND sD hD=>?_⟩
 ·obtain⟨r,hr_,rx⟩:=aC.at hx;have rz:=oz r (Os hr_);refine⟨gX.set Z,_,Z,gC,λpz hz=>?_⟩;have zz:=ao hz (.tup [.int 0,.int 1]);refine⟨dR r,dR (0,1),((rx.mono (aV.same s')).mono (aV.same zz)).deep,(RV.of (K:=K) ag).deep,Z,Z,jj _,_,Z,?_⟩;rw[kF];exact jc (b:=!decide (r=(0,1))) (by rw[decide_eq_true rz];rfl) (kE Z _ zz)
 rw[List.filter_eq_nil_iff.mpr (λ_ _=>OK)] at hD;refine⟨(by show 0≤sizeLine;exact ON _),λqe hqe=>?_⟩;have ze:=ao hqe (.lst []);exact⟨.list [],.list [],.lst (ba.of (ze _ _ hD)) .nil,.lst (ba.of ag) .nil,Z,Z,(by decide),k _⟩
end
set_option autoImplicit true in
set_option relaxedAutoImplicit true in
open PySem.W in
theorem all_mk{l:OpenLaw}{w:Pk}{K:Frag}{h:Oy}{mg:OV->Option Value}{fa:Addr}(X:K.In h)(G:h.Ns OR mg)(hfa:mg "law"=some (.ref fa))
  {c_Keeper:Addr} (p_Keeper:nsIn K OR "Keeper"=some (some (.ref c_Keeper))) (x1_Keeper:plainGet K c_Keeper OV.empty=true) (x2_Keeper:hasDictIn K c_Keeper=true) (x3_Keeper:plainOver K c_Keeper=true) (x4_Keeper:findIn K (.ref c_Keeper) "__setattr__"=some (some (.builtin "object.__setattr__"))) (x5_Keeper:makesIn K c_Keeper=true) (x6_Keeper:keepIn K (.ref c_Keeper)=true)
  (na_Keeper_turn:findIn K (.ref c_Keeper) "turn"=some none) (na_Keeper_known:findIn K (.ref c_Keeper) "known"=some none) (na_Keeper_rest:findIn K (.ref c_Keeper) "rest"=some none) (na_Keeper_done:findIn K (.ref c_Keeper) "done"=some none)
  {f_Q32:Addr} {d_Q32:Oo} (h_is_whole:d0 K "is_whole" yz f_Q32 d_Q32)
  {f_Q13:Addr} {d_Q13:Oo} (h_is_tuple_of:d0 K "is_tuple_of" yV f_Q13 d_Q13)
  {f_Q7:Addr} {d_Q7:Oo} (h_is_number_of:d0 K "is_number_of" Fk f_Q7 d_Q7)
  {f_Q0:Addr} {d_Q0:Oo} (h_greatest_divisor:d0 K "greatest_divisor" Fr f_Q0 d_Q0)
  {f_Q33:Addr} {d_Q33:Oo} (h_is_ratio:d0 K "is_ratio" yy f_Q33 d_Q33)
  {f_Q1:Addr} {d_Q1:Oo} (h_is_above_nought:d0 K "is_above_nought" Fq f_Q1 d_Q1)
  {f_Q50:Addr} {d_Q50:Oo} (h_ratio:d0 K "ratio" yg f_Q50 d_Q50)
  {f_Q56:Addr} {d_Q56:Oo} (h_plus:d0 K "plus" yb f_Q56 d_Q56)
  {f_Q51:Addr} {d_Q51:Oo} (h_minus:d0 K "minus" yf f_Q51 d_Q51)
  {f_Q52:Addr} {d_Q52:Oo} (h_times:d0 K "times" ye f_Q52 d_Q52)
  {f_Q57:Addr} {d_Q57:Oo} (h_over:d0 K "over" ya f_Q57 d_Q57)
  {f_Q41:Addr} {d_Q41:Oo} (h_is_less:d0 K "is_less" yk f_Q41 d_Q41)
  {f_Q44:Addr} {d_Q44:Oo} (h_lesser:d0 K "lesser" yi f_Q44 d_Q44)
  {f_Q53:Addr} {d_Q53:Oo} (h_total:d0 K "total" yd f_Q53 d_Q53)
  {f_Q14:Addr} {d_Q14:Oo} (h_whole_parts:d0 K "whole_parts" yU f_Q14 d_Q14)
  {f_Q42:Addr} {d_Q42:Oo} (h_is_work:d0 K "is_work" yj f_Q42 d_Q42)
  {f_Q26:Addr} {d_Q26:Oo} (h_in_window:d0 K "in_window" yI f_Q26 d_Q26)
  {f_Q15:Addr} {d_Q15:Oo} (h_no_leanings:d0 K "no_leanings" yT f_Q15 d_Q15)
  {f_Q34:Addr} {d_Q34:Oo} (h_add_lean:d0 K "add_lean" yx f_Q34 d_Q34)
  {f_Q8:Addr} {d_Q8:Oo} (h_all_leanings:d0 K "all_leanings" Fj f_Q8 d_Q8)
  {f_Q35:Addr} {d_Q35:Oo} (h_drawn_in:d0 K "drawn_in" yu f_Q35 d_Q35)
  {f_Q9:Addr} {d_Q9:Oo} (h_kept_windows:d0 K "kept_windows" Fi f_Q9 d_Q9)
  {f_Q58:Addr} {d_Q58:Oo} (h_held:d0 K "held" xZ f_Q58 d_Q58)
  {f_Q2:Addr} {d_Q2:Oo} (h_tightest_places:d0 K "tightest_places" Fp f_Q2 d_Q2)
  {f_Q36:Addr} {d_Q36:Oo} (h_tightest:d0 K "tightest" yr f_Q36 d_Q36)
  {f_Q45:Addr} {d_Q45:Oo} (h_layers:d0 K "layers" yh f_Q45 d_Q45)
  {f_Q3:Addr} {d_Q3:Oo} (h_layer_density:d0 K "layer_density" Fo f_Q3 d_Q3)
  {f_Q10:Addr} {d_Q10:Oo} (h_layer_speeds:d0 K "layer_speeds" yY f_Q10 d_Q10)
  {f_Q4:Addr} {d_Q4:Oo} (h_first_to_come:d0 K "first_to_come" Fn f_Q4 d_Q4)
  {f_Q37:Addr} {d_Q37:Oo} (h_order_of:d0 K "order_of" yq f_Q37 d_Q37)
  {f_Q27:Addr} {d_Q27:Oo} (h_deal_turn:d0 K "deal_turn" yH f_Q27 d_Q27)
  {f_Q54:Addr} {d_Q54:Oo} (h_dealt:d0 K "dealt" yc f_Q54 d_Q54)
  {f_Q21:Addr} {d_Q21:Oo} (h_least_plan:d0 K "least_plan" yN f_Q21 d_Q21)
  {f_Q5:Addr} {d_Q5:Oo} (h_waiting_works:d0 K "waiting_works" Fm f_Q5 d_Q5)
  {f_Q22:Addr} {d_Q22:Oo} (h_renumbered:d0 K "renumbered" yM f_Q22 d_Q22)
  {f_Q16:Addr} {d_Q16:Oo} (h_law_cell_at:d0 K "_law_cell_at" yS f_Q16 d_Q16)
  {f_Q28:Addr} {d_Q28:Oo} (h_law_draws:d0 K "_law_draws" yG f_Q28 d_Q28)
  {f_Q38:Addr} {d_Q38:Oo} (h_law_take:d0 K "_law_take" yo f_Q38 d_Q38)
  {f_Q39:Addr} {d_Q39:Oo} (h_law_made:d0 K "_law_made" yn f_Q39 d_Q39)
  {f_Q6:Addr} {d_Q6:Oo} (h_law_is_amount:d0 K "_law_is_amount" Fl f_Q6 d_Q6)
  {f_Q11:Addr} {d_Q11:Oo} (h_law_is_right:d0 K "_law_is_right" yX f_Q11 d_Q11)
  {f_Q40:Addr} {d_Q40:Oo} (h_law_told:d0 K "_law_told" ym f_Q40 d_Q40)
  {f_Q23:Addr} {d_Q23:Oo} (h_law_looked:d0 K "_law_looked" yL f_Q23 d_Q23)
  {f_Q29:Addr} {d_Q29:Oo} (h_law_asked:d0 K "_law_asked" yE f_Q29 d_Q29)
  {f_Q24:Addr} {d_Q24:Oo} (h_law_filled:d0 K "_law_filled" yK f_Q24 d_Q24)
  {f_Q59:Addr} {d_Q59:Oo} (h_law:d0 K "law" xY f_Q59 d_Q59)
  {f_Q17:Addr} {d_Q17:Oo} (h_Keeper_init:vf K c_Keeper "__init__" "Keeper.__init__" yR f_Q17 d_Q17)
  {f_Q18:Addr} {d_Q18:Oo} (h_Keeper_come:vf K c_Keeper "come" "Keeper.come" yQ f_Q18 d_Q18)
  {f_Q30:Addr} {d_Q30:Oo} (h_Keeper_go:vf K c_Keeper "go" "Keeper.go" yB f_Q30 d_Q30)
  {f_Q25:Addr} {d_Q25:Oo} (h_Keeper_now:vf K c_Keeper "now" "Keeper.now" yJ f_Q25 d_Q25)
  {f_Q12:Addr} {d_Q12:Oo} (h_Keeper_works:vf K c_Keeper "works" "Keeper.works" yW f_Q12 d_Q12)
  {f_Q19:Addr} {d_Q19:Oo} (h_Keeper_left:vf K c_Keeper "left" "Keeper.left" yP f_Q19 d_Q19)
  {f_Q20:Addr} {d_Q20:Oo} (h_Keeper_plan:vf K c_Keeper "plan" "Keeper.plan" yO f_Q20 d_Q20)
  {f_NOUGHT:Addr} {od_NOUGHT:Option Addr} {sl_NOUGHT:Array (Option Value)} {tkNOUGHT0 tkNOUGHT1:XN} {n_NOUGHT:Nat} (p_NOUGHT:nsIn K OR "NOUGHT"=some (some (.ref f_NOUGHT))) (l_NOUGHT:K.lookup f_NOUGHT=some ⟨.type "tuple",od_NOUGHT,.seq #[.int (0) tkNOUGHT0,.int (1) tkNOUGHT1] n_NOUGHT,sl_NOUGHT⟩)
  {tkTURNS:XN} (p_TURNS:nsIn K OR "TURNS"=some (some (.int (24) tkTURNS)))
  {tkMOST_WORKS:XN} (p_MOST_WORKS:nsIn K OR "MOST_WORKS"=some (some (.int (20) tkMOST_WORKS)))
  {cB NB:Addr} {nmB qB:OV} {bsB:List Value} {hdB:Bool} {snB:List OV} {suB:List Value} {abB:Bool} {coB:Option Bool} {ddB:Option Addr} {j0 j1 j2 j3 j5:Option Value} {ocB:Value} {odB:Option Addr} {esB:Array Vo} {nB:Nat} {slB:Array (Option Value)}
  (pB:nsIn K OR "PaceError"=some (some (.ref cB))) (lB:K.lookup cB=some (Q8 nmB qB cB NB bsB [.type "ValueError",.type "Exception",.type "BaseException",.type "object"] hdB snB suB abB coB ddB j0 j1 j2 j3 j5 "ValueError.__new__")) (lnB:K.lookup NB=some ⟨ocB,odB,.dict esB nB,slB⟩) (hsB:kU esB=true) (hnB:(nsFind esB "__init__").isNone=true)
  (cgB:specialIn K (.builtin "object.__class__") "__get__"=some (some (.builtin "getset_descriptor.__get__"))) (ctB:takesIn K (.builtin "object.__class__")=some true)
  {c_Q46 N_Q46 i_Q46:Addr} {nm_Q46 q_Q46:OV} {bs_Q46:List Value} {hd_Q46:Bool} {sn_Q46:List OV} {su_Q46:List Value} {ab_Q46:Bool} {co_Q46:Option Bool} {dd_Q46:Option Addr} {k0_Q46 k1_Q46 k2_Q46 k3_Q46 k5_Q46:Option Value} {od_Q46 an_Q46:Option Addr} {sl_Q46:Array (Option Value)} {oc_Q46 kV_Q46 dc_Q46 pm_Q46 cd_Q46 ct_Q46:Value}
  (p_Q46:nsIn K OR "NoWork"=some (some (.ref c_Q46))) (lc_Q46:K.lookup c_Q46=some (Q8 nm_Q46 q_Q46 c_Q46 N_Q46 bs_Q46 (.ref cB::[.type "ValueError",.type "Exception",.type "BaseException",.type "object"]) hd_Q46 sn_Q46 su_Q46 ab_Q46 co_Q46 dd_Q46 k0_Q46 k1_Q46 k2_Q46 k3_Q46 k5_Q46 "ValueError.__new__")) (fi_Q46:findIn K (.ref c_Q46) "__init__"=some (some (.ref i_Q46)))
  (l_Q46:K.lookup i_Q46=some ⟨oc_Q46,od_Q46,.func (fnOf "__init__" "NoWork.__init__" (dh nE) (cM nE) (az nE) .none kV_Q46 dc_Q46 pm_Q46 an_Q46 cd_Q46 ct_Q46),sl_Q46⟩) (cd_Q46_:codeIn K cd_Q46 "NoWork.__init__"=true) (ki_Q46:keepIn K (.ref i_Q46)=true) (ti_Q46:typeIn K (.ref i_Q46)=some (.type "function")) (kc_Q46:keepIn K (.ref c_Q46)=true)
  (hh_Q46:hasDictIn K c_Q46=true) (sa_Q46:findIn K (.ref c_Q46) "__setattr__"=some (some (.builtin "object.__setattr__")))
  (na_Q46_text:findIn K (.ref c_Q46) "text"=some none) (ga_Q46:findIn K (.ref c_Q46) "__getattribute__"=some (some (.builtin "BaseException.__getattribute__"))) (gn_Q46:findIn K (.ref c_Q46) "__getattr__"=some none) (cl_Q46:findIn K (.ref c_Q46) "__class__"=some (some (.builtin "object.__class__")))
  {c_Q47 N_Q47 i_Q47:Addr} {nm_Q47 q_Q47:OV} {bs_Q47:List Value} {hd_Q47:Bool} {sn_Q47:List OV} {su_Q47:List Value} {ab_Q47:Bool} {co_Q47:Option Bool} {dd_Q47:Option Addr} {k0_Q47 k1_Q47 k2_Q47 k3_Q47 k5_Q47:Option Value} {od_Q47 an_Q47:Option Addr} {sl_Q47:Array (Option Value)} {oc_Q47 kV_Q47 dc_Q47 pm_Q47 cd_Q47 ct_Q47:Value}
  (p_Q47:nsIn K OR "NoTurn"=some (some (.ref c_Q47))) (lc_Q47:K.lookup c_Q47=some (Q8 nm_Q47 q_Q47 c_Q47 N_Q47 bs_Q47 (.ref cB::[.type "ValueError",.type "Exception",.type "BaseException",.type "object"]) hd_Q47 sn_Q47 su_Q47 ab_Q47 co_Q47 dd_Q47 k0_Q47 k1_Q47 k2_Q47 k3_Q47 k5_Q47 "ValueError.__new__")) (fi_Q47:findIn K (.ref c_Q47) "__init__"=some (some (.ref i_Q47)))
  (l_Q47:K.lookup i_Q47=some ⟨oc_Q47,od_Q47,.func (fnOf "__init__" "NoTurn.__init__" (dh nA) (cM nA) (az nA) .none kV_Q47 dc_Q47 pm_Q47 an_Q47 cd_Q47 ct_Q47),sl_Q47⟩) (cd_Q47_:codeIn K cd_Q47 "NoTurn.__init__"=true) (ki_Q47:keepIn K (.ref i_Q47)=true) (ti_Q47:typeIn K (.ref i_Q47)=some (.type "function")) (kc_Q47:keepIn K (.ref c_Q47)=true)
  (hh_Q47:hasDictIn K c_Q47=true) (sa_Q47:findIn K (.ref c_Q47) "__setattr__"=some (some (.builtin "object.__setattr__")))
  (na_Q47_text:findIn K (.ref c_Q47) "text"=some none) (ga_Q47:findIn K (.ref c_Q47) "__getattribute__"=some (some (.builtin "BaseException.__getattribute__"))) (gn_Q47:findIn K (.ref c_Q47) "__getattr__"=some none) (cl_Q47:findIn K (.ref c_Q47) "__class__"=some (some (.builtin "object.__class__")))
  {c_Q31:Addr} (p_Q31:nsIn K OR "PaceError"=some (some (.ref c_Q31)))
  {c_Q48:Addr} (p_Q48:nsIn K OR "NoBill"=some (some (.ref c_Q48)))
  {c_Q55:Addr} (p_Q55:nsIn K OR "NoRow"=some (some (.ref c_Q55)))
  {c_Q49:Addr} (p_Q49:nsIn K OR "NoRoom"=some (some (.ref c_Q49)))
  {c_Q43:Addr} (p_Q43:nsIn K OR "NoRatio"=some (some (.ref c_Q43)))
  (w_x_cW:exmOne K (.ref c_Q46) (.ref c_Q31)=some true)
  (w_y_sW:kitOne K (.ref c_Q46) (.ref c_Q46)=some true)
  (w_y_oW:kitOne K (.ref c_Q46) (.ref c_Q47)=some false)
  (w_y_vW:kitOne K (.ref c_Q46) (.type "ValueError")=some true)
  (w_y_nW:kitAny K (.ref c_Q46) [.ref c_Q48,.ref c_Q55]=some false)
  (w_x_cT:exmOne K (.ref c_Q47) (.ref c_Q31)=some true)
  (w_y_sT:kitOne K (.ref c_Q47) (.ref c_Q47)=some true)
  (w_y_oT:kitOne K (.ref c_Q47) (.ref c_Q46)=some false)
  (w_y_vT:kitOne K (.ref c_Q47) (.type "ValueError")=some true)
  (w_y_nT:kitAny K (.ref c_Q47) [.ref c_Q48,.ref c_Q55]=some false)
  (z_ValueError:nsIn K OR "ValueError"=some none)
  (z_abs:nsIn K OR "abs"=some none)
  (z_any:nsIn K OR "any"=some none)
  (z_bool:nsIn K OR "bool"=some none)
  (z_enumerate:nsIn K OR "enumerate"=some none)
  (z_int:nsIn K OR "int"=some none)
  (z_isinstance:nsIn K OR "isinstance"=some none)
  (z_len:nsIn K OR "len"=some none)
  (z_list:nsIn K OR "list"=some none)
  (z_max:nsIn K OR "max"=some none)
  (z_min:nsIn K OR "min"=some none)
  (z_range:nsIn K OR "range"=some none)
  (z_repr:nsIn K OR "repr"=some none)
  (z_sum:nsIn K OR "sum"=some none)
  (z_tuple:nsIn K OR "tuple"=some none)
  : ∃fd:Oo,(∀(s:Om) (v:Value),UI s fd ⟨[v],[]⟩ [("_law_script",v)])/\∀base:Oy,K.In base->base.Ns OR mg->bv l.prog w K mg base dF 11 fa fd ["_law_script"] (oF K):=by
 have e:=hfa.symm.trans (mg_of X G h_law.p)
 cases e
 obtain⟨_,_,_,_,_,_,_,_,_,rfl,_,_⟩:=h_law.F.ex;have F_Q46:=pK (st:=nE) l_Q46 cd_Q46_ ki_Q46;have F_Q47:=pK (st:=nA) l_Q47 cd_Q47_ ki_Q47;have T:ef K mg ⟨f_Q32,_,f_Q13,_,f_Q7,_,f_Q0,_,f_Q33,_,f_Q1,_,f_Q50,_,f_Q56,_,f_Q51,_,f_Q52,_,f_Q57,_,f_Q41,_,f_Q44,_,f_Q53,_,f_Q14,_,f_Q42,_,f_Q26,_,f_Q15,_,f_Q34,_,f_Q8,_,f_Q35,_,f_Q9,_,f_Q58,_,f_Q2,_,f_Q36,_,f_Q45,_,f_Q3,_,f_Q10,_,f_Q4,_,f_Q37,_,f_Q27,_,f_Q54,_,f_Q21,_,f_Q5,_,f_Q22,_,f_Q16,_,f_Q28,_,f_Q38,_,f_Q39,_,f_Q6,_,f_Q11,_,f_Q40,_,f_Q23,_,f_Q29,_,f_Q24,_,fa,_,f_Q17,_,f_Q18,_,f_Q30,_,f_Q25,_,f_Q12,_,f_Q19,_,f_Q20,_,c_Keeper,f_NOUGHT,tkTURNS,tkMOST_WORKS,cB,c_Q46,i_Q46,_,c_Q47,i_Q47,_,c_Q31,c_Q48,c_Q55,c_Q49,c_Q43⟩:={
  F_Q32:=h_is_whole.F,b_Q32:=h_is_whole.b1,m_Q32:=mg_of X G h_is_whole.p,
  F_Q13:=h_is_tuple_of.F,b_Q13:=h_is_tuple_of.b2,m_Q13:=mg_of X G h_is_tuple_of.p,
  F_Q7:=h_is_number_of.F,b_Q7:=h_is_number_of.b2,m_Q7:=mg_of X G h_is_number_of.p,
  F_Q0:=h_greatest_divisor.F,b_Q0:=h_greatest_divisor.b2,m_Q0:=mg_of X G h_greatest_divisor.p,
  F_Q33:=h_is_ratio.F,b_Q33:=h_is_ratio.b1,m_Q33:=mg_of X G h_is_ratio.p,
  F_Q1:=h_is_above_nought.F,b_Q1:=h_is_above_nought.b1,m_Q1:=mg_of X G h_is_above_nought.p,
  F_Q50:=h_ratio.F,b_Q50:=h_ratio.b2,m_Q50:=mg_of X G h_ratio.p,
  F_Q56:=h_plus.F,b_Q56:=h_plus.b2,m_Q56:=mg_of X G h_plus.p,
  F_Q51:=h_minus.F,b_Q51:=h_minus.b2,m_Q51:=mg_of X G h_minus.p,
  F_Q52:=h_times.F,b_Q52:=h_times.b2,m_Q52:=mg_of X G h_times.p,
  F_Q57:=h_over.F,b_Q57:=h_over.b2,m_Q57:=mg_of X G h_over.p,
  F_Q41:=h_is_less.F,b_Q41:=h_is_less.b2,m_Q41:=mg_of X G h_is_less.p,
  F_Q44:=h_lesser.F,b_Q44:=h_lesser.b2,m_Q44:=mg_of X G h_lesser.p,
  F_Q53:=h_total.F,b_Q53:=h_total.b1,m_Q53:=mg_of X G h_total.p,
  F_Q14:=h_whole_parts.F,b_Q14:=h_whole_parts.b1,m_Q14:=mg_of X G h_whole_parts.p,
  F_Q42:=h_is_work.F,b_Q42:=h_is_work.b1,m_Q42:=mg_of X G h_is_work.p,
  F_Q26:=h_in_window.F,b_Q26:=h_in_window.b2,m_Q26:=mg_of X G h_in_window.p,
  F_Q15:=h_no_leanings.F,b_Q15:=h_no_leanings.b1,m_Q15:=mg_of X G h_no_leanings.p,
  F_Q34:=h_add_lean.F,b_Q34:=h_add_lean.b2,m_Q34:=mg_of X G h_add_lean.p,
  F_Q8:=h_all_leanings.F,b_Q8:=h_all_leanings.b2,m_Q8:=mg_of X G h_all_leanings.p,
  F_Q35:=h_drawn_in.F,b_Q35:=h_drawn_in.b1,m_Q35:=mg_of X G h_drawn_in.p,
  F_Q9:=h_kept_windows.F,b_Q9:=h_kept_windows.b2,m_Q9:=mg_of X G h_kept_windows.p,
  F_Q58:=h_held.F,b_Q58:=h_held.b3,m_Q58:=mg_of X G h_held.p,
  F_Q2:=h_tightest_places.F,b_Q2:=h_tightest_places.b3,m_Q2:=mg_of X G h_tightest_places.p,
  F_Q36:=h_tightest.F,b_Q36:=h_tightest.b2,m_Q36:=mg_of X G h_tightest.p,
  F_Q45:=h_layers.F,b_Q45:=h_layers.b1,m_Q45:=mg_of X G h_layers.p,
  F_Q3:=h_layer_density.F,b_Q3:=h_layer_density.b2,m_Q3:=mg_of X G h_layer_density.p,
  F_Q10:=h_layer_speeds.F,b_Q10:=h_layer_speeds.b1,m_Q10:=mg_of X G h_layer_speeds.p,
  F_Q4:=h_first_to_come.F,b_Q4:=h_first_to_come.b3,m_Q4:=mg_of X G h_first_to_come.p,
  F_Q37:=h_order_of.F,b_Q37:=h_order_of.b2,m_Q37:=mg_of X G h_order_of.p,
  F_Q27:=h_deal_turn.F,b_Q27:=h_deal_turn.b5,m_Q27:=mg_of X G h_deal_turn.p,
  F_Q54:=h_dealt.F,b_Q54:=h_dealt.b3,m_Q54:=mg_of X G h_dealt.p,
  F_Q21:=h_least_plan.F,b_Q21:=h_least_plan.b1,m_Q21:=mg_of X G h_least_plan.p,
  F_Q5:=h_waiting_works.F,b_Q5:=h_waiting_works.b3,m_Q5:=mg_of X G h_waiting_works.p,
  F_Q22:=h_renumbered.F,b_Q22:=h_renumbered.b2,m_Q22:=mg_of X G h_renumbered.p,
  F_Q16:=h_law_cell_at.F,b_Q16:=h_law_cell_at.b2,m_Q16:=mg_of X G h_law_cell_at.p,
  F_Q28:=h_law_draws.F,b_Q28:=h_law_draws.b2,m_Q28:=mg_of X G h_law_draws.p,
  F_Q38:=h_law_take.F,b_Q38:=h_law_take.b2,m_Q38:=mg_of X G h_law_take.p,
  F_Q39:=h_law_made.F,b_Q39:=h_law_made.b2,m_Q39:=mg_of X G h_law_made.p,
  F_Q6:=h_law_is_amount.F,b_Q6:=h_law_is_amount.b1,m_Q6:=mg_of X G h_law_is_amount.p,
  F_Q11:=h_law_is_right.F,b_Q11:=h_law_is_right.b4,m_Q11:=mg_of X G h_law_is_right.p,
  F_Q40:=h_law_told.F,b_Q40:=h_law_told.b4,m_Q40:=mg_of X G h_law_told.p,
  F_Q23:=h_law_looked.F,b_Q23:=h_law_looked.b1,m_Q23:=mg_of X G h_law_looked.p,
  F_Q29:=h_law_asked.F,b_Q29:=h_law_asked.b3,m_Q29:=mg_of X G h_law_asked.p,
  F_Q24:=h_law_filled.F,b_Q24:=h_law_filled.b1,m_Q24:=mg_of X G h_law_filled.p,
  F_Q59:=h_law.F,b_Q59:=h_law.b1,m_Q59:=mg_of X G h_law.p,
  F_Q17:=h_Keeper_init.F,b_Q17:=h_Keeper_init.b1,K_Keeper:=⟨x5_Keeper,h_Keeper_init.p,h_Keeper_init.fn,x6_Keeper⟩,
  F_Q18:=h_Keeper_come.F,b_Q18:=h_Keeper_come.b3,M_Keeper_come:=h_Keeper_come.meth,
  F_Q30:=h_Keeper_go.F,b_Q30:=h_Keeper_go.b1,M_Keeper_go:=h_Keeper_go.meth,
  F_Q25:=h_Keeper_now.F,b_Q25:=h_Keeper_now.b1,M_Keeper_now:=h_Keeper_now.meth,
  F_Q12:=h_Keeper_works.F,b_Q12:=h_Keeper_works.b1,M_Keeper_works:=h_Keeper_works.meth,
  F_Q19:=h_Keeper_left.F,b_Q19:=h_Keeper_left.b1,M_Keeper_left:=h_Keeper_left.meth,
  F_Q20:=h_Keeper_plan.F,b_Q20:=h_Keeper_plan.b1,M_Keeper_plan:=h_Keeper_plan.meth,
  m_Keeper:=mg_of X G p_Keeper,cl_Keeper:=⟨x1_Keeper,x2_Keeper,x3_Keeper,x4_Keeper⟩,n_Keeper_turn:=na_Keeper_turn,n_Keeper_known:=na_Keeper_known,n_Keeper_rest:=na_Keeper_rest,n_Keeper_done:=na_Keeper_done,
  m_NOUGHT:=mg_of X G p_NOUGHT,q_NOUGHT:=λH=>.inr ⟨_,_,_,l_NOUGHT,Z,Z,gC,(.cons ⟨_,Z⟩ (.cons ⟨_,Z⟩ .nil))⟩,
  m_TURNS:=mg_of X G p_TURNS,
  m_MOST_WORKS:=mg_of X G p_MOST_WORKS,
  X_Q46:=DJ lc_Q46 lB lnB hsB hnB fi_Q46 ti_Q46 kc_Q46 hh_Q46 sa_Q46,F_Q46:=F_Q46,b_Q46:=L7 F_Q46,m_Q46:=mg_of X G p_Q46,n_Q46_text:=na_Q46_text,g_Q46:=⟨ga_Q46,gn_Q46,cl_Q46,cgB,ctB⟩,
  X_Q47:=DJ lc_Q47 lB lnB hsB hnB fi_Q47 ti_Q47 kc_Q47 hh_Q47 sa_Q47,F_Q47:=F_Q47,b_Q47:=L7 F_Q47,m_Q47:=mg_of X G p_Q47,n_Q47_text:=na_Q47_text,g_Q47:=⟨ga_Q47,gn_Q47,cl_Q47,cgB,ctB⟩,
  m_Q31:=mg_of X G p_Q31,
  m_Q48:=mg_of X G p_Q48,
  m_Q55:=mg_of X G p_Q55,
  m_Q49:=mg_of X G p_Q49,
  m_Q43:=mg_of X G p_Q43,
  x_cW:=w_x_cW,
  y_sW:=w_y_sW,
  y_oW:=w_y_oW,
  y_vW:=w_y_vW,
  y_nW:=w_y_nW,
  x_cT:=w_x_cT,
  y_sT:=w_y_sT,
  y_oT:=w_y_oT,
  y_vT:=w_y_vT,
  y_nT:=w_y_nT,
  z_ValueError:=mg_none_of X G z_ValueError,z_abs:=mg_none_of X G z_abs,z_any:=mg_none_of X G z_any,z_bool:=mg_none_of X G z_bool,z_enumerate:=mg_none_of X G z_enumerate,z_int:=mg_none_of X G z_int,z_isinstance:=mg_none_of X G z_isinstance,z_len:=mg_none_of X G z_len,z_list:=mg_none_of X G z_list,z_max:=mg_none_of X G z_max,z_min:=mg_none_of X G z_min,z_range:=mg_none_of X G z_range,z_repr:=mg_none_of X G z_repr,z_sum:=mg_none_of X G z_sum,z_tuple:=mg_none_of X G z_tuple}
 exact⟨_,λs v=>.of_eq Z,λbase _ _=>Gc T⟩
theorem walk{l:WY}{loose:List OV}{XP:(OV->Option Value)->Oy->Prop}{YP:Pk->Oy->Prop}{d:DefRec}{K:Params->Of}(hn:l.most=some 63)(hdf:d.params.defaults=[])
  (hY:∀(w:Pk) (h:Oy),YP w h->(K w.params).In h)
  (F:∀(w:Pk) (mg:OV->Option Value) (fa:Addr) (h:Oy),(K w.params).In h->h.Ns OR mg->mg d.name=some (.ref fa)→
   ∃fd:Oo,(∀(s:Om) (u:Value),UI s fd ⟨[u],[]⟩ [("_law_script",u)])/\∀base:Oy,(K w.params).In base->base.Ns OR mg->bv l.prog w (K w.params) mg base dF 11 fa fd ["_law_script"] (oF (K w.params))):
  Xu q loose XP YP l.row.toRowW d [] (λf vs=>Xg f vs):=
 L2.walk_of (n:=63) (k:=11) (x := "_law_script") (CX:=λ_=>dF) (sp:=λw=>oF (K w.params)) hn (by decide) hdf ⟨Z,by decide,by decide,Z⟩ hY F (λ_ _ a ns hl _ hS=>⟨a,ns,Z,hS,hl,λ_=>Z⟩) λ_ _ _ _ _ z=>z
end My
open PySem PySem.W PyProof.Rows
set_option maxRecDepth 100000 in
set_option maxHeartbeats 0 in
theorem PySem.Challenge.cw_paceplan_k65_keepers_refused_holds : PySem.Challenge.rw_paceplan_k65_keepers_refused.Holds := by
 w_on;refine HWtop ?_
 k_fill
 refine My.walk (l:=PySem.Challenge.rw_paceplan_k65_keepers_refused) rfl rfl (fun w h Y=>PySem.W.kIn_of Y) ?F
 case F=>
  intro w mg fa h KX G hmg
  refine' My.all_mk KX G hmg ?q0 ?q1 ?q2 ?q3 ?q4 ?q5 ?q6 ?q7 ?q8 ?q9 ?q10 ?q11 ?q12 ?q13 ?q14 ?q15 ?q16 ?q17 ?q18 ?q19 ?q20 ?q21 ?q22 ?q23 ?q24 ?q25 ?q26 ?q27 ?q28 ?q29 ?q30 ?q31 ?q32 ?q33 ?q34 ?q35 ?q36 ?q37 ?q38 ?q39 ?q40 ?q41 ?q42 ?q43 ?q44 ?q45 ?q46 ?q47 ?q48 ?q49 ?q50 ?q51 ?q52 ?q53 ?q54 ?q55 ?q56 ?q57 ?q58 ?q59 ?q60 ?q61 ?q62 ?q63 ?q64 ?q65 ?q66 ?q67 ?q68 ?q69 ?q70 ?q71 ?q72 ?q73 ?q74 ?q75 ?q76 ?q77 ?q78 ?q79 ?q80 ?q81 ?q82 ?q83 ?q84 ?q85 ?q86 ?q87 ?q88 ?q89 ?q90 ?q91 ?q92 ?q93 ?q94 ?q95 ?q96 ?q97 ?q98 ?q99 ?q100 ?q101 ?q102 ?q103 ?q104 ?q105 ?q106 ?q107 ?q108 ?q109 ?q110 ?q111 ?q112 ?q113 ?q114 ?q115 ?q116 ?q117 ?q118 ?q119 ?q120 ?q121 ?q122 ?q123 ?q124 ?q125 ?q126 ?q127 ?q128 ?q129 ?q130 ?q131 ?q132
  (case q0|q1|q2|q3|q4|q5|q6|q7|q8|q9|q10=>k_is)
  (case q11|q12|q13|q14|q15|q16|q17|q18|q19|q20|q21|q22|q23|q24|q25|q26|q27|q28|q29|q30|q31|q32|q33|q34|q35|q36|q37|q38|q39|q40|q41|q42|q43|q44|q45|q46|q47|q48|q49|q50|q51|q52|q53|q54|q55|q56=>refine' B.isF ?a ?b ?c ?d;(case a=>k_is);(case b=>k_is);(case c=>k_is);(case d=>k_is))
  (case q57|q58|q59|q60|q61|q62|q63=>refine' B.isM ?a ?e ?b ?c ?d;(case a=>k_is);(case e=>k_is);(case b=>k_is);(case c=>k_is);(case d=>k_is))
  (case q64|q65|q66|q67|q68|q69|q70=>k_is)
  (case q71|q72=>rfl)
  (case q73|q74|q75|q76|q77|q78|q79|q80|q81|q82|q83|q84|q85|q86|q87|q88|q89|q90|q91|q92|q93|q94|q95|q96|q97|q98|q99|q100|q101|q102|q103|q104|q105|q106|q107=>k_is)
  (case q108=>kts_exm)
  (case q109|q110|q111|q112=>kit_is)
  (case q113=>kts_exm)
  (case q114|q115|q116|q117=>kit_is)
  (case q118|q119|q120|q121|q122|q123|q124|q125|q126|q127|q128|q129|q130|q131|q132=>k_is)
