import PyProof.Rows.All
import KE.KSortTup
import KE.RegKIsAll
import KE.RegKTryMore
import PySem.Challenge.RW_paceplan_k66_kept_plans
set_option Elab.async false
set_option linter.all false
set_option maxRecDepth 100000
set_option autoImplicit true
set_option relaxedAutoImplicit true
namespace HP
noncomputable section
open PySem
abbrev S:=Stmt
noncomputable def d(s:S):=s
def b:=PySem.Challenge.pw_paceplan_k66_kept_plans.main.body
local macro_rules
 | `(tactic| o_head $n:term)=>`(tactic| (refine (?f:∀ s,b[$n]?=some s->_) _ rfl;exact fun s _=>d s))
def c0:S:=by o_head 0
def c1:S:=by o_head 1
def c2:S:=by o_head 2
def c3:S:=by o_head 3
def c4:S:=by o_head 4
def c5:S:=by o_head 5
def c6:S:=by o_head 6
def c7:S:=by o_head 7
def c8:S:=by o_head 8
def c9:S:=by o_head 9
def c10:S:=by o_head 10
def c11:S:=by o_head 11
def c12:S:=by o_head 12
def c13:S:=by o_head 13
def c14:S:=by o_head 14
def c15:S:=by o_head 15
def c16:S:=by o_head 16
def c17:S:=by o_head 17
def c18:S:=by o_head 18
def c19:S:=by o_head 19
def c20:S:=by o_head 20
def c21:S:=by o_head 21
def c22:S:=by o_head 22
def c23:S:=by o_head 23
def c24:S:=by o_head 24
def c25:S:=by o_head 25
def c26:S:=by o_head 26
def c27:S:=by o_head 27
def c28:S:=by o_head 28
def c29:S:=by o_head 29
def c30:S:=by o_head 30
def c31:S:=by o_head 31
def c32:S:=by o_head 32
def c33:S:=by o_head 33
def c34:S:=by o_head 34
def c35:S:=by o_head 35
def c36:S:=by o_head 36
def c37:S:=by o_head 37
def c38:S:=by o_head 38
def c39:S:=by o_head 39
def c40:S:=by o_head 40
def c41:S:=by o_head 41
def c42:S:=by o_head 42
def c43:S:=by o_head 43
def c44:S:=by o_head 44
def c45:S:=by o_head 45
def c46:S:=by o_head 46
def c47:S:=by o_head 47
def c48:S:=by o_head 48
def c49:S:=by o_head 49
def c50:S:=by o_head 50
def c51:S:=by o_head 51
def c52:S:=by o_head 52
def c53:S:=by o_head 53
def c54:S:=by o_head 54
def c55:S:=by o_head 55
def c56:S:=by o_head 56
def c57:S:=by o_head 57
def c58:S:=by o_head 58
def c59:S:=by o_head 59
def c60:S:=by o_head 60
def c61:S:=by o_head 61
def c62:S:=by o_head 62
def c63:S:=by o_head 63
def c64:S:=by o_head 64
def c65:S:=by o_head 65
def c66:S:=by o_head 66
def c67:S:=by o_head 67
def c68:S:=by o_head 68
def c69:S:=by o_head 69
def t61:List S:=c61::c62::c63::c64::c65::c66::c67::c68::c69::[]
def t52:List S:=c52::c53::c54::c55::c56::c57::c58::c59::c60::t61
def t43:List S:=c43::c44::c45::c46::c47::c48::c49::c50::c51::t52
def t34:List S:=c34::c35::c36::c37::c38::c39::c40::c41::c42::t43
def t25:List S:=c25::c26::c27::c28::c29::c30::c31::c32::c33::t34
def t16:List S:=c16::c17::c18::c19::c20::c21::c22::c23::c24::t25
def t7:List S:=c7::c8::c9::c10::c11::c12::c13::c14::c15::t16
def t0:List S:=c0::c1::c2::c3::c4::c5::c6::t7
def s:Scope:=by refine (?f:∀ s,PySem.Challenge.pw_paceplan_k66_kept_plans.main=⟨_,s,_,_,_⟩->_) _ rfl;exact fun s _=>s
def p:Program:=by
 refine (?f:∀ l s a f m ms ps ab h g,PySem.Challenge.pw_paceplan_k66_kept_plans=Program.mk ⟨l,s,a,f,m⟩ ms ps ab h g->_) _ _ _ _ _ _ _ _ _ _ rfl
 exact fun _ _ a f m ms ps ab h g _=>⟨⟨t0,s,a,f,m⟩,ms,ps,ab,h,g⟩
theorem e:PySem.Challenge.pw_paceplan_k66_kept_plans=p:=by kernel_rfl
end
end HP
name_quick tw15919428146537429213 for HP.p by HP.e
theorem PySem.W.Fast.te15919428146537429213:PySem.Challenge.pw_paceplan_k66_kept_plans=PySem.W.Fast.tw15919428146537429213:=PySem.W.Fast.tw15919428146537429213_eq
theorem Ep {α β γ:Type} {o:Option α} {f:α->β} {g:α->γ} {a:β} {b:γ} (h1:o.map f=some a) (h2:o.map g=some b):o.map (fun s=>(f s,g s))=some (a,b):=by
 cases o with
 | none=>cases h1
 | some x=>cases h1;cases h2;rfl
namespace HW
open PySem
def keep:List Nat:=[1,2,3,4,6,7,8,9,10,12,13,14,15,16,17,18,19,20,21,22,23,24,26,27,28,29,30,31,32,33,35,36,37,38,39,40,41,43,44,45,46,47,49,50,51,52,54,55,56,57,58,59,60,61,62,63,64,65,66,67,68,69]
def V:Program:=PySem.W.view PySem.Challenge.pw_paceplan_k66_kept_plans keep
end HW
section HWs
open PySem PySem.W PyProof.Rows
set_option maxHeartbeats 0
abbrev HWe(w:World):=openEnds treeTable PySem.Challenge.rw_paceplan_k66_kept_plans.row.prog w 6646
abbrev HWo:=fun s:Shared=>openSeen HW.V [] (importedModules PySem.Challenge.rw_paceplan_k66_kept_plans.row.prog.main.body) (fun s=>xlAt HW.V [] s && recOk PySem.Challenge.rw_paceplan_k66_kept_plans.row.records s) true s
local macro_rules
 | `(tactic| nofun)=>`(tactic| (intro w;delta HWe HWo openEnds fencedOpening topFrom;rw [PySem.W.Fast.te14364793385576792824,PySem.W.Fast.te14082659384304107361,PySem.W.Fast.te10274390034422433532,PySem.W.Fast.te1435165496053646825,PySem.W.Fast.te14289696077712309145,PySem.W.Fast.te4187177175401517315];kernel_rfl))
theorem HW1:∀ w,(HWe w).map (fun s=>(HWo s).1)=some (openGood HW.V []).1:=by nofun
theorem HW2:∀ w,(HWe w).map (fun s=>(HWo s).2.1)=some (openGood HW.V []).2.1:=by nofun
theorem HW3:∀ w,(HWe w).map (fun s=>(HWo s).2.2.1)=some (openGood HW.V []).2.2.1:=by nofun
theorem HW4:∀ w,(HWe w).map (fun s=>(HWo s).2.2.2)=some (openGood HW.V []).2.2.2:=by nofun
theorem HWa:∀ w,(HWe w).map HWo=some (openGood HW.V []):=fun w=>Ep (HW1 w) (Ep (HW2 w) (Ep (HW3 w) (HW4 w)))
local macro_rules
 | `(tactic| o_head $H:term) => `(tactic| (
   refine holds_open (q:=HW.V) (loose:=[]) (N:=6646)
    (Xt:=fun s=>xlAt HW.V [] s && recOk (RowW.records (OpenRow.toRowW (OpenLaw.row PySem.Challenge.rw_paceplan_k66_kept_plans))) s)
    (XP:=XL HW.V []) (Yf:=Hook.obs $H) (Ya:=Hook.val $H) (YP:=Hook.says $H)
    ?hl (Hook.of $H) (Hook.keeps $H)
    (fun s e=>xl_of s (Bool.and_eq_true_iff.mp e).1) XL.keeps
    (by rfl) (by rfl) (by rfl)
    (fun s e=>recFacts_of (Bool.and_eq_true_iff.mp e).2) (by rfl) (by assumption) (by decide +kernel)
    ⟨rfl,rfl,rfl,rfl,rfl,by decide +kernel⟩ ?hw ?hc
   (case hl=>
    intro w;refine Ep (HWa w) ?_;delta openEnds fencedOpening topFrom;rw [PySem.W.Fast.te14364793385576792824,PySem.W.Fast.te14082659384304107361,PySem.W.Fast.te10274390034422433532,PySem.W.Fast.te1435165496053646825,PySem.W.Fast.te14289696077712309145]
    kernel_rfl)))
open_top HWtop for PySem.Challenge.rw_paceplan_k66_kept_plans
end HWs
open Array renaming length_toList→Si,mem_toList_iff→Vq,getElem?_eq_some_iff→V0,getElem?_eq_none_iff→V2,getD→ZL
open Bool renaming false_ne_true→QB,and_eq_true→QM,eq_iff_iff→Sw,not_eq_true'→SK,false_and→S2,false_eq_true→Tp,and_false→Tq,true_and→TJ,or_true→VI,false_or→Wp,not_true→XX,and_true→XY,noConfusion→YS,or_eq_true→Zn
open Classical renaming byContradiction→RY,choose_spec→Xo
open False renaming elim→Sj
open ForInStep renaming yield→Vy
open Int renaming gcd→Qz,mul_ediv_cancel_left→QY,eq_ofNat_of_zero_le→Rz,mul_right_comm→RA,mul_pos→RT,le_of_lt→R5,natCast_dvd_natCast→Sa,toNat_natCast→SI,emod_nonneg→SR,emod_lt_of_pos→SZ,natAbs_mul→S7,gcd_comm→Tf,eq_of_mul_eq_mul_right→To,gcd_dvd_right→Tz,mul_comm→TB,zero_add→TC,le_of_dvd→TH,mul_le_mul_of_nonneg_right→TU,mul_le_mul_of_nonneg_left→TX,ediv_nonneg→Ub,mul_lt_mul_of_pos_right→Ui,ediv_pos_of_pos_of_dvd→Um,lt_of_mul_lt_mul_right→Uo,gcd_ediv_gcd_ediv_gcd→Uy,dvd_trans→UI,natCast_mul→UL,natAbs_natCast→UR,mul_left_comm→U6,natAbs_dvd_natAbs→Vg,le_refl→Vt,gcd_add_mul_right_right→VH,fdiv_eq_ediv_of_nonneg→VR,ediv_le_self→WL,ediv_one→WV,dvd_refl→W4,natAbs_of_nonneg→Xv,add_mul→Xw,mul_nonneg→Xx,mul_assoc→XZ,gcd_eq_one_iff→Yc,gcd_mul_right→Yx,lt_trans→YF,gcd_dvd_left→YR,mul_one→Y7,neg_mul→Y9,natAbs_neg→ZJ
open LawfulBEq renaming eq_of_beq→VO
open List renaming getElem?_eq_getElem→P5,range→P6,length_map→P8,getD_eq_getElem?_getD→Qa,mem_cons_self→Qd,mem_cons_of_mem→Qe,mem_of_getElem?→Qf,mem_map→Qg,mem_range→Qi,mem_singleton→Qj,getElem?_map→Ql,mem_cons→Qm,replicate→Qn,mem_filter→Qp,getElem?_eq_some_iff→Qq,mem_append_right→Qv,getElem_mem→Qx,length_append→QC,length_range→QN,mem_append→QP,size_toArray→QR,map_cons→Q1,length_cons→Q2,take_add_one→Q3,length_filter_le→Q5,take_length→Q6,Nodup→Q7,not_mem_nil→Rb,map_append→Rh,append_nil→Rp,nodup_cons→Rq,range_succ→Rr,foldl_cons→Rs,mem_iff_getElem→Rt,getElem?_eq_none→Ru,length_take→Rv,getElem?_append_left→RB,mem_append_left→RD,getElem?_append_right→RG,pairwise_iff_getElem→RH,getElem?_set_ne→RJ,foldl_append→RS,getElem?_of_mem→RU,mem_of_mem_take→RW,filter_append→R0,length_singleton→R3,map_map→R6,nodup_append→R8,length_set→Sf,all_eq_true→Sg,getElem?_range→Sk,pairwise_map→So,Pairwise→Sv,filter_cons_of_pos→SE,filter_cons_of_neg→SF,pairwise_lt_range→SJ,filter_eq_self→SN,replicate_succ→SO,mem_or_eq_of_mem_set→SS,contains_iff_mem→SU,pairwise_cons→SY,any_cons→S1,filter_nil→Tc,countP_eq_zero→Td,getElem?_set_self→Te,take_of_length_le→Tg,nodup_range→Tn,append_assoc→TD,getElem_inj→TM,length_drop→TQ,nodup_nil→TR,getElem_map→TV,contains_cons→Ua,find?_cons→Uc,pairwise_append→Ur,lookup_cons→Uv,map_congr_left→UC,length_pos_iff→UD,sum_cons→UK,append_of_mem→UT,lookup→UU,getElem?_replicate→UV,getElem?_cons_zero→UW,getElem?_cons_succ→UX,any_eq_false→U1,range_succ_eq_map→U8,flatten_cons→U9,ext_getElem?→Vc,length_replicate→Ve,foldl→Vn,countP_cons→Vo,mem_of_mem_drop→Vu,contains_eq_mem→Vv,dropLast_concat_getLast→VA,filterMap_cons→VB,find?_eq_none→V5,isEmpty_eq_false_iff→V7,getElem_take→Wg,getElem?_take_of_lt→Wm,all_cons→Wo,find?_range_eq_some→Wr,eraseIdx_cons_succ→WI,ext_getElem→WK,pairwise_singleton→WM,map_nil→WZ,sum_replicate_nat→Xd,of_mem_zip→Xh,length_nil→Xj,drop_zero→Xy,take_zero→XA,length_flatten→XT,mem_filterMap→X7,map_replicate→Yg,filter_filter→Yh,getElem?_drop→Yi,ne_nil_of_mem→Yj,any_map→YD,getElem_drop→YG,filter_congr→YH,Sublist→YI,filter_cons→YV,append_inj'→Y0,mem_flatMap→Y1,mem_reverse→Y2,mem_flatten→Y3,map_id→Zd,nil_append→Zm,map→Z7
open List.Pairwise renaming filter→RE
open List.Sublist renaming refl→YJ
open Nat renaming le_refl→P7,zero_le→Qu,lt_of_lt_of_le→QJ,le_trans→QU,ne_of_lt→Rf,lt_irrefl→Ri,lt_of_le_of_lt→Rn,dvd_refl→RN,pow_le_pow_right→SD,le_succ→SQ,mul_le_mul_right→S8,ne_of_gt→Tw,le_of_eq→Tx,le_of_lt→T0,not_lt_zero→Ue,mul_dvd_mul_left→Us,mul_le_mul_left→UB,le_mul_of_pos_right→UY,lt_succ_of_lt→U5,sub_self→Vb,succ_le_succ→Vm,zero_add→VJ,dvd_mul_right→Wh,lt_succ_self→Wy,mul_succ→Xb,add_zero→Xe,min_eq_left→Xk,pow_add→Xs,log2_lt→Xu,mul_pos→XB,mul_assoc→X0,le_of_dvd→X1,lt_trans→Yw,sub_zero→YC,succ_ne_self→YU,add_mul→Za,pow_pos→Zf,pow_dvd_pow→Zo,add_assoc→ZS
open Ne renaming symm→T5
open Option renaming map_eq_some_iff→Ro,isSome_iff_exists→Ss,isSome_some→US
open Option.some renaming inj→RI
open Or renaming inr→QV,inl→Q0
open Prod renaming ext→ZB
open Pure renaming pure→Sq
open PyProof renaming noPylong_small→WQ
open PyProof.Rows renaming slot_tuple_getitem→RM,callWith_type1→R4,boot_tuple→Se,boot_isinstance→UN,seqObj→Va,AllBare→Vp,assignInOrder_cons→VQ,envOfC→WT,subscriptTail_builtinR→WY,IntsAre→XI,entry_tuple_getitem→XQ,subscriptTail→XV,listUpdate_at→X3,args_tuple_getitem→Yb,assignInOrder_nil→Yk,boot_repr→Y4,IsTup→Y6,seqEpoch_at→Zg,boot_range→Zy,Subscript_→ZD
open PyProof.Rows.IsTup renaming new→XE
open PySem renaming wpAny_bind→P9,Shared→Qc,FuncData→Qh,Heap→Qo,starEach→Qs,wpAny→Qw,model→QK,Str→QX,mainGlobals→QZ,Program→Q4,Builtin→Q8,PassesOwn→Ra,Expr→Re,Around→Rg,World→Rm,wpAny_newObj_type→RK,compareOp→RL,Obj→R9,wpAny_mono→Sd,wpAny_truthy_bool→Sl,foldedSetIterable→Sm,sizeLine_eq→Sz,wpAny_callSpecial?_slot→SC,assignEach→SH,boot_len→SL,wpAny_call_entry→SW,bootBuiltins→S0,swapsWith→S9,backTo→Tb,attributeBase→Tj,wpAny_field→Tk,excClassObj→Tl,wpAny_passesOwn→Tv,mem_of_lookup→TK,binaryOp→TN,keywordEach→TW,sysModules→TZ,wpAny_pyIter_tuple→T7,wpAny_Call_Name_kw→T8,Pos→Uf,wpAny_standAt→Ug,typeIs_int→Uk,call_meets→Ul,codeAny→Uu,Scope→Uw,wpAny_binaryOp_repeat_ref→Uz,behindInMarks→UE,NameKind→UG,wpAny_comprehension_free→UH,getItem→UZ,wpAny_pyIter_list→U0,compEnvC→U4,wpAny_pyIter_enum→U7,plainObj_wpAny_Assign_Attribute→Vd,wpAny_eqBool_int→Vi,assign→Vj,closureFor→Vl,backToKw→Vs,wpAny_execs_nil→Vw,letOwnedTupleGo→Vx,Within→VD,codeAny_mono→VF,Keyword→VG,cellsFrom→VN,sizeLine→VP,newFunctionEnv→VY,wpAny_setField→VZ,wpAny_letOwnedTupleGo_enum→V1,tupleKind_room_in1→V3,wpAny_assign_Name→V9,subscripted→Wb,swapsWithSole→Wi,swappedStores→Wj,tupleKind→Ws,getMethod→Wu,wpAny_lookBehind→Ww,pastItsLine_dict→Wx,wpAny_pyNext_enum_itemD→Wz,standAt→WN,wpAny_pyNext_range_end→WO,wpAny_pyIter_rangeiter→WP,BindsTo→WS,IsPart→WW,wpAny_typeOf→WX,codeAny_compStart_list→W0,wpAny_ite_false→Xl,exec_Assign_Name_used→Xn,wpAny_loadName_local→Xp,IsRangeIter→Xq,wpAny_loadPart→Xr,IsRange→XG,DictEntry→XH,callerA→XJ,valueAt→XM,wpAny_loadName_cell→XN,assignInOrder→XU,nums_intItems→X2,wpAny_pyIter_range→X6,wpAny_call→X9,wpAny_nsSet1→Ym,Code→Yp,bindArgs→Yr,callWith→Ys,wpAny_sequenceKey→Yt,seqIndex_neg→Yu,relabel→Yv,OwnTail→Yy,wpAny_Call_method→YA,wpAny_execs_cons→YK,lastMarks→YM,Result→YO,noteFrame→YQ,wpAny_isInstance→YT,seqSlot_of→YW,pushCells→YZ,seqIndex_of→Y8,atKey→Zb,Data→Zh,Env→Zq,newList→Zr,builtinsNs→Zs,wpAny_Name→Zt,CmpOp→Zu,Operator→Zv,bindName→Zw,wpAny_rule→Zx,bindL→Zz,bindC→ZA,typeLookup→ZC,call→ZE,IsPair→ZI,numAt_eq→ZK,storeName→ZU,inplaceOp→ZV,small_one→ZW,seqIndex?→ZX,setFlight→ZY,setItem→ZZ,pyNext→Z0,pyIter→Z1,operate→Z2,setAttr→Z3,ItemsOf→Z4,Tok→Z5,field→Z6
open PySem.Around renaming under→WR,under_plainId→Xz
open PySem.AutoSeq1 renaming wpAny_loadPart'→TF,sub_tuple_tuple→Wq,sub_tuple_list→WC,sub_list_tuple→WD,sub_list_list→Xc,idx_int→YX
open PySem.Builtin.Int renaming intBits→XR
open PySem.Builtin.Range renaming rangeSize→RP,small→TL
open PySem.Builtin.Slice renaming slicePlaces→Tt,sliceAdjust→Ux,sliceApplied→VW
open PySem.Builtin.SmallTypes renaming nextOf→Tu
open PySem.Builtin.Tuple renaming tupleExact→Su,tupleItemsOf→VX,tupleTooMany→V4
open PySem.Code renaming quiet_builtin→Yd,isFrame→Yq
open PySem.Data renaming fields→Wa,cell→XF
open PySem.F renaming plainAttrs_list→Qy,slot_list_append→QF,type_list_append→QH,slot_dict_itemiterator_iter→UJ,slot_dict_get→Vh,args_dict_get_3→WA,plainAttrs_dict→WB,slot_dict_items→WH,slot_list_count→WJ,entry_dict_get→Xa
open PySem.Flow renaming next→YL
open PySem.Heap renaming get?_push_of_some→Qb,lt_size→Qt,get?_push_size→QD,get?_update_other→Ry,get?_none_of_le→Sc,size_push→S6,get?_update_self→Ts,SameBut→T6,MadeExcOf→ZG
open PySem.Heap.Ns1 renaming of_empty→Yn
open PySem.Heap.SameBut renaming update→XS
open PySem.MeetsSeq renaming EqGives→YY
open PySem.NameKind renaming cell→XW,free→ZP
open PySem.Obj renaming mapSeq→T9,data_mapFields→UQ,isFreed_of_fields→Vf,cls_mapFields→Yz,mapFields→ZR
open PySem.PassesOwn renaming never→QL
open PySem.PyData renaming eqv→RQ,shownAll→Ud,depthAll→UM,list→XD,showableAll→Ye,hasDictAll→YB,canLayAll0→YE,int→ZF,eqvAll→ZT
open PySem.SeqAt renaming EqAt→RZ
open PySem.SeqAt.EqAt renaming int_str→X4,str_int→X5
open PySem.Str renaming ofString→Qr
open PySem.Value renaming ref→QQ,int→R1,none→Sb,type→TY,bool→UO,str→VM,float→Y5,isStrOf→ZM
open PySem.W renaming Frag→P4,findIn→Rc,kia_one→RO,emptyDict→Sn,keepIn→Sr,fnOf→Sx,instObj→Ta,hasDictIn→Uh,kitOne→Uj,looks_clsIn→UA,Looks→UF,typeIn→U2,codeIn→U3,plainGet→Vk,looks_findIn→Vr,plainGet_of→VC,isFn→VE,lookIn→VS,InstAt→VT,callWith_K→VU,methodObj→V8,set_plain→Wc,specialIn→Wd,kitx_list→We,any_some→Wv,cellsFrom_some→WU,takerIn→Xg,methodCall_KW→Xm,callWith_K0→XO,kitx_tuple→X8,plainOver→Yl,kitx_dict→Yo,handedIn→YN,makesIn→Zi,bind_fn→Zj,takesIn→Zk,OpenLaw→Zl,kitAny→ZH,mroIn→ZN,WalkO→ZO,clsIn→ZQ
open PySem.W.Looks renaming here→UP
open Rat renaming intCast_mul→Rj,intCast_natCast→Rw,intCast_lt_intCast→RC,le_refl→RF,le_of_lt→R7,mul_le_mul_of_nonneg_right→SX,mul_lt_mul_of_pos_right→Ti,intCast_add→Vz,le_trans→VL,not_le→V6,intCast_le_intCast→Xf,intCast_inj→Xi,mul_pos→Zc,div_def→Ze,le_antisymm→Zp
open Sum renaming inl→SG,inr→Ut
open True renaming intro→SV
local macro_rules|`(⋯)=>`(4834023173650597876544881407704768017555162023798869768948261467874213139288822304401239266415271355416806678311752296500438875701050478901734985823099062742197929195130163826648664551259341770021719244800000000000000000000000)
local macro_rules|`(decl_name%)=>`(25882466482949286179863278649307923433294195500903155828261708777083304197655675043413266388030659964209410754393653789328972760953294720473500143200427572835208147172761078519773593353785008074840607407759949824000000000000000000000000)
theorem Q9{p:Prop}[Decidable p](h:p):decide p=true:=decide_eq_true h
theorem Sy{p:Prop}[Decidable p](h:¬p):decide p=false:=decide_eq_false h
theorem Z8{p:Prop}[Decidable p]:decide p=true↔p:=decide_eq_true_iff
theorem Z9{c:Prop}{h:Decidable c}(k:c){α:Sort _}{t e:α}:ite c t e=t:=if_pos k
theorem aaa{c:Prop}{h:Decidable c}(k:¬c){α:Sort _}{t e:α}:ite c t e=e:=if_neg k
theorem aab{p:Prop}[Decidable p](h:decide p=true):p:=of_decide_eq_true h
theorem aad{a b:Prop}(h:a)(k:¬a):b:=absurd h k
local macro_rules
 | `(Z)=>`(rfl)
theorem Fs:1≤VP:=by decide
theorem kP:2≤VP:=by decide
theorem JQ:3≤VP:=by decide
theorem Ow:6≤VP:=by decide
namespace L2
open PySem PySem.Spec PyProof.Rows
abbrev cM:=Sum Int QX
def nA:cM->Value->Bool
 | .inl k,v=>Value.isInt k v
 | .inr x,v=>ZM x v
def MV(w:Rm):cM->Int
 | .inl k=>hashInt k
 | .inr x=>hashStr w x
theorem cD:∀{k:cM} {v:Value},nA k v=true->(∃i t,k=SG i/\v=R1 i t)∨(∃x t,k=Ut x/\v=VM x t)
 | .inl i,v,h=>by
  obtain⟨t,e⟩:=Value.isInt_shape (k:=i) (v:=v) h;exact .inl ⟨i,t,Z,e⟩
 | .inr x,v,h=>by
  obtain⟨t,e⟩:=Value.isStrOf_shape (x:=x) (v:=v) h;exact .inr ⟨x,t,Z,e⟩
theorem xT(i:Int)(t:Z5):nA (.inl i) (.int i t)=true:=by simp[nA,Value.isInt]
theorem xS(x:QX)(t:Z5):nA (.inr x) (.str x t)=true:=by simp[nA,ZM]
theorem Jd(a b:Int):decide ((SG a:cM)=SG b)=(a==b):=by
 by_cases e:a=b
 ·subst e;simp
 ·have h:¬(SG a:cM)=SG b:=λq=>e (SG.inj q)
  rw[Sy h];exact(beq_eq_false_iff_ne.mpr e).symm
theorem Ja(a b:QX):decide ((Ut a:cM)=Ut b)=decide (a=b):=by
 by_cases e:a=b
 ·subst e;simp
 ·have h:¬(Ut a:cM)=Ut b:=λq=>e (Ut.inj q)
  rw[Sy h,Sy e]
theorem Jc(a:Int)(b:QX):decide ((SG a:cM)=Ut b)=false:=Sy (λq=>nomatch q)
theorem Jb(a:QX)(b:Int):decide ((Ut a:cM)=SG b)=false:=Sy (λq=>nomatch q)
def ca(prog:Q4)(w:Rm):PySem.KeyKind prog w cM where
 is:=nA
 hash:=MV w
 inj:=λv a b ha hb=>by
  rcases cD ha with⟨i,t,rfl,rfl⟩ | ⟨x,t,rfl,rfl⟩
  ·rcases cD hb with⟨j,u,rfl,e⟩ | ⟨y,u,rfl,e⟩
   ·injection e with e1 _;rw[e1]
   ·exact nomatch e
  ·rcases cD hb with⟨j,u,rfl,e⟩ | ⟨y,u,rfl,e⟩
   ·exact nomatch e
   ·injection e with e1 _;rw[e1]
 byValue:=λk v h=>by
  rcases cD h with⟨i,t,rfl,rfl⟩ | ⟨x,t,rfl,rfl⟩<;>rfl
 pyHash:=λhv h=>by
  rcases cD hv with⟨i,t,rfl,rfl⟩ | ⟨x,t,rfl,rfl⟩
  ·exact wpAny_pyHash_int h
  ·exact wpAny_pyHash_str h
 eqBool:=λhu hv h=>by
  rcases cD hu with⟨i,t,rfl,rfl⟩ | ⟨x,t,rfl,rfl⟩
  ·rcases cD hv with⟨j,u,rfl,rfl⟩ | ⟨y,u,rfl,rfl⟩
   ·rw[Jd] at h;exact Vi h
   ·rw[Jc] at h;exact X4 i t y u _ _ _ _ h
  ·rcases cD hv with⟨j,u,rfl,rfl⟩ | ⟨y,u,rfl,rfl⟩
   ·rw[Jb] at h;exact X5 x t j u _ _ _ _ h
   ·rw[Ja] at h;exact wpAny_eqBool_str h
 «strs»:=λk x t v h=>by
  rcases cD h with⟨i,u,rfl,e⟩ | ⟨y,u,rfl,e⟩
  ·exact nomatch e
  ·injection e with e1 _;subst e1
   cases v<;>rfl
theorem rY(prog:Q4)(w:Rm)(i:Int)(t:Z5):(ca prog w).is (.inl i) (.int i t)=true:=xT i t
theorem rX(prog:Q4)(w:Rm)(x:QX)(t:Z5):(ca prog w).is (.inr x) (.str x t)=true:=xS x t
inductive V where
 |non|bl (b:Bool)|int (i:Int)|str (x:QX)|byt (b:Array UInt8)|flt (b:UInt64)|ref (a:Addr)|ty (n:String)
 deriving DecidableEq
def RelV:V->Value->Prop
 | .non,u=>u=Sb
 | .bl b,u=>u=UO b
 | .int i,u=>∃t,u=R1 i t
 | .str x,u=>∃t,u=VM x t
 | .byt b,u=>∃t,u=Value.bytes b t
 | .flt b,u=>∃t,u=Y5 b t
 | .ref a,u=>u=QQ a
 | .ty n,u=>u=TY n
abbrev bo:List V->List Value->Prop:=Paired RelV
theorem bo.length(r:bo xs us):xs.length=us.length:=Paired.length r
theorem bo.get:∀{xs:List V} {us:List Value} {i:Nat} {x:V},bo xs us->xs[i]?=some x->∃u,us[i]?=some u/\RelV x u
 |_,_,_,_,.nil,e=>by simp at e
 |_,_,0,_,.cons r _,e=>by simp at e;subst e;exact⟨_,Z,r⟩
 |_,_,i+1,x,.cons _ t,e=>by
  obtain⟨u,h1,h2⟩:=bo.get (i:=i) (x:=x) t (by simpa using e);exact⟨u,by simpa using h1,h2⟩
theorem bo.set{x:V}{u:Value}(r:RelV x u):∀{xs:List V} {us:List Value} (i:Nat),bo xs us->bo (xs.set i x) (us.set i u)
 |_,_,_,.nil=>.nil
 |_,_,0,.cons _ t=>.cons r t
 |_,_,i+1,.cons q t=>.cons q (bo.set r i t)
theorem bo.append:∀{xs ys:List V} {us ws:List Value},bo xs us->bo ys ws->bo (xs++ys) (us++ws)
 |_,_,_,_,.nil,s=>s
 |_,_,_,_,.cons r t,s=>.cons r (bo.append t s)
theorem bo.take:∀{xs:List V} {us:List Value} (n:Nat),bo xs us->bo (xs.take n) (us.take n)
 |_,_,0,_=>.nil
 |_,_,_+1,.nil=>.nil
 |_,_,n+1,.cons r t=>.cons r (bo.take n t)
theorem bo.drop:∀{xs:List V} {us:List Value} (n:Nat),bo xs us->bo (xs.drop n) (us.drop n)
 |_,_,0,r=>r
 |_,_,_+1,.nil=>.nil
 |_,_,n+1,.cons _ t=>bo.drop n t
def fE:Option V->Option Value->Prop
 |some v,some u=>RelV v u
 |none,none=>True
 |_,_=>False
def KV{κ:Type}:List (κ×V)->List (κ×Value)->Prop:=Paired λ(p:κ×V) (q:κ×Value)=>p.1=q.1/\RelV p.2 q.2
def kV:cM->V
 | .inl i=>.int i
 | .inr x=>.str x
inductive HO where
 |lst (xs:List V)
 |tup (xs:List V)
 |dK (kvs:List (cM×V))|dT (kvs:List (List cM×V))
 |set (S:Int->Bool) (n:Nat)
 |ins (C dx:Addr) (fs:List (QX×V))
 |own (x:Addr)
 |xd (fs:List (QX×V))
 |met (f x:Addr)
 |rng (lo hi:Int)
 |frz (o:R9) (u:HO)
 |tbl (ps:Array Value)
 |ext (φ:Qo->Prop)
abbrev Hp:=Addr->Option HO
def upd(H:Hp)(a:Addr)(o:HO):Hp:=λb=>if b=a then some o else H b
theorem ah:upd H a o a=some o:=by unfold upd;rw[Z9 Z]
theorem ao(h:b≠a):upd H a o b=H b:=by unfold upd;rw[aaa h]
theorem La{H:Hp}{a b:Addr}{o u:HO}(h:H a=some o)(h':H b=some u)(d:o≠u):a≠b:=by
 intro e;subst e;rw[h] at h';exact d (RI h')
theorem aC{H:Hp}{a b:Addr}{o:HO}(h:H a=some o)(h':H b=none):a≠b:=by
 intro e;subst e;rw[h] at h';cases h'
section
variable (P:Q4) (w:Rm)
def ObjOk(H:Hp)(h:Qo)(a:Addr):HO->Prop
 | .lst xs=>xs.length≤sizeLine/\∃(its:List Value) (n:Nat),bo xs its/\h.get? a=some { cls:=.type "list",data:=.seq its.toArray n}
 | .tup xs=>xs.length≤sizeLine/\∃its:List Value,bo xs its/\Y6 h a its.toArray
 | .dK kvs=>kvs.length≤sizeLine/\(a==TZ)=false/\∃vs,KV kvs vs/\h.DictOf (ca P w) a vs
 | .dT kvs=>kvs.length≤sizeLine/\(a==TZ)=false/\∃xs:List (List cM×Addr×Value),
   Paired (λ(p:List cM×V) (q:List cM×Addr×Value)=>p.1=q.1/\H q.2.1=some (.tup (p.1.map kV))/\RelV p.2 q.2.2) kvs xs∧
   ∃o es ep,h.get? a=some o/\o.ExactDict/\o.data=.dict es ep/\es.toList=xs.map (entryOfKey (Ws (ca P w)))/\(xs.map (·.1)).Nodup
 | .set S n=>h.SetOf (intKind P w) a S n
 | .ins C dx fs=>H dx=some (.own a)/\fs.length≤1000/\dx≠a/\h.get? a=some (Ta C dx)∧
   ∃mA,h.Ns1 dx mA/\(∀f,fE (fs.lookup f) (mA f))/\VD mA (fs.map (·.1))
 | .own _=>∃o,h.get? a=some o
 | .xd fs=>∃mA,h.Ns1 a mA/\∀f,fE (fs.lookup f) (mA f)
 | .rng lo hi=>∃t u v,h.get? a=some { cls:=.type "range",data:=.fields #[.int lo t,.int hi u,.int 1 v]}
 | .frz o u=>h.get? a=some o/\ObjOk H h a u
 | .tbl ps=>h.get? a=some { cls:=.none,data:=.fields ps}
 | .met f x=>h.get? a=some (V8 (.ref f) (.ref x))
 | .ext φ=>φ h/\(∃o,h.get? a=some o)/\∀h1 h2:Qo,φ h1->(∀o,h1.get? a=some o->h2.get? a=some o)->φ h2
def iO(H:Hp)(h:Qo):Prop:=∀a o,H a=some o->ObjOk P w H h a o
end
section
variable {P:Q4}{w:Rm}{H H':Hp}{h h':Qo}{a:Addr}{o:HO}
theorem ObjOk.lt(x:ObjOk P w H h a o):a<h.objs.size:=by
 cases o with
 |lst xs=>obtain⟨_,_,_,_,e⟩:=x;exact Qt e
 |tup xs=>obtain⟨_,_,_,p⟩:=x;exact p.lt
 |dK kvs=>obtain⟨_,_,_,_,o,_,_,e,_⟩:=x;exact Qt e
 |dT kvs=>obtain⟨_,_,_,_,o,_,_,e,_⟩:=x;exact Qt e
 |set S n=>obtain⟨o,_,_,_,e,_⟩:=x;exact Qt e
 |ins C dx fs=>obtain⟨_,_,_,e,_⟩:=x;exact Qt e
 |own y=>obtain⟨_,e⟩:=x;exact Qt e
 |xd fs=>obtain⟨_,⟨_,_,_,e,_⟩,_⟩:=x;exact Qt e
 |rng lo hi=>obtain⟨_,_,_,e⟩:=x;exact Qt e
 |frz ob u=>obtain⟨e,_⟩:=x;exact Qt e
 |tbl ps=>exact Qt (show h.get? a=some _ from x)
 |met f y=>exact Qt (show h.get? a=some _ from x)
 |ext φ=>obtain⟨_,⟨_,e⟩,_⟩:=x;exact Qt e
theorem Paired.mapP{α β:Type}{F G:α->β->Prop}:∀{l₁:List α} {l₂:List β},Paired F l₁ l₂->(∀a b,F a b->G a b)->Paired G l₁ l₂
 |_,_,.nil,_=>.nil
 |_,_,.cons r t,f=>.cons (f _ _ r) (Paired.mapP t f)
theorem ObjOk.stay(x:ObjOk P w H h a o)(k:∀b u,(b=a∨H b=some (.own a))->h.get? b=some u->h'.get? b=some u)
  (ho:∀b,H b=some (.own a)->H' b=some (.own a)) (ht:∀b xs,H b=some (.tup xs)->H' b=some (.tup xs)):ObjOk P w H' h' a o:=by
 induction o with
 |lst xs=>obtain⟨z,its,n,r,e⟩:=x;exact⟨z,its,n,r,k _ _ (.inl Z) e⟩
 |tup xs=>obtain⟨z,its,r,ob,e,c⟩:=x;exact⟨z,its,r,ob,k _ _ (.inl Z) e,c⟩
 |dK kvs=>obtain⟨z,y,vs,r,ob,es,ep,e,c⟩:=x;exact⟨z,y,vs,r,ob,es,ep,k _ _ (.inl Z) e,c⟩
 |dT kvs=>
  obtain⟨z,y,xs,r,ob,es,ep,e,c⟩:=x;exact⟨z,y,xs,Paired.mapP r λp q z=>⟨z.1,ht _ _ z.2.1,z.2.2⟩,ob,es,ep,k _ _ (.inl Z) e,c⟩
 |set S n=>obtain⟨ob,es,ep,t,e,c⟩:=x;exact⟨ob,es,ep,t,k _ _ (.inl Z) e,c⟩
 |ins C dx fs=>
  obtain⟨d,z,ne,e,mA,⟨od,es,ep,e2,c⟩,r⟩:=x;exact⟨ho _ d,z,ne,k _ _ (.inl Z) e,mA,⟨od,es,ep,k _ _ (.inr d) e2,c⟩,r⟩
 |own y=>obtain⟨ob,e⟩:=x;exact⟨ob,k _ _ (.inl Z) e⟩
 |xd fs=>obtain⟨mA,⟨od,es,ep,e,c⟩,r⟩:=x;exact⟨mA,⟨od,es,ep,k _ _ (.inl Z) e,c⟩,r⟩
 |rng lo hi=>obtain⟨t,u,v,e⟩:=x;exact⟨t,u,v,k _ _ (.inl Z) e⟩
 |frz ob u ih=>obtain⟨e,q⟩:=x;exact⟨k _ _ (.inl Z) e,ih q⟩
 |tbl ps=>
  have e:h.get? a=some { cls:=.none,data:=.fields ps}:=x;show h'.get? a=some { cls:=.none,data:=.fields ps};exact k a _ (.inl Z) e
 |met f y=>
  have e:h.get? a=some (V8 (.ref f) (.ref y)):=x;show h'.get? a=some (V8 (.ref f) (.ref y));exact k a _ (.inl Z) e
 |ext φ=>obtain⟨p,⟨o,e⟩,st⟩:=x;exact⟨st _ _ p λo q=>k _ _ (.inl Z) q,⟨o,k _ _ (.inl Z) e⟩,st⟩
theorem iO.lt(x:iO P w H h)(e:H a=some o):a<h.objs.size:=(x a o e).lt
theorem iO.fresh(x:iO P w H h)(e:h.objs.size≤a):H a=none:=by
 cases q:H a with
 |none=>rfl
 |some u=>exact aad (QJ (x.lt q) e) (Ri _)
theorem iO.kept(x:iO P w H h)(k:∀b u,h.get? b=some u->h'.get? b=some u):iO P w H h':=λa o e=>
 (x a o e).stay (λb u _ q=>k b u q) (λ_ q=>q) λ_ _ q=>q
theorem iO.laid(x:iO P w H h)(k:∀b u,h.get? b=some u->h'.get? b=some u)(hp:h.objs.size≤a)(new:ObjOk P w (upd H a o) h' a o):iO P w (upd H a o) h':=λb u e=>by
 have hn:=x.fresh hp;by_cases hb:b=a
 ·subst hb;rw[ah] at e;cases e;exact new
 ·rw[ao hb] at e;exact(x b u e).stay (λc v _ q=>k c v q) (λc q=>by rw[ao (aC q hn)];exact q) λc xs q=>by rw[ao (aC q hn)];exact q
end
def Rd(H:Hp)(a:Addr)(u:HO):Prop:=H a=some u∨∃o,H a=some (.frz o u)
theorem Rd.ok(r:Rd H a u)(x:iO P w H h):ObjOk P w H h a u:=by
 rcases r with r | ⟨o,r⟩
 ·exact x a u r
 ·obtain⟨_,q⟩:=x a _ r;exact q
def LL:Option HO->Prop
 |some (.lst _)=>True
 |some (.dK _)=>True
 |some (.dT _)=>True
 |some (.set _ _)=>True
 |some (.ins _ _ _)=>True
 |some (.ext _)=>True
 |_=>False
section
variable {P:Q4}{w:Rm}{H:Hp}{h h':Qo}{x e:Addr}{o':HO}
theorem iO.write(ok:iO P w H h)(mu:LL (H x))(he:e=x∨H e=some (.own x))(k:∀b u,b≠e->h.get? b=some u->h'.get? b=some u)(heo:∃u,h'.get? e=some u)
  (new:ObjOk P w (upd H x o') h' x o'):iO P w (upd H x o') h':=λb u q=>by
 have nown:∀c y,H c=some (.own y)->c≠x:=λc y r z=>by subst z;rw[r] at mu;exact mu
 have ntup:∀c xs,H c=some (.tup xs)->c≠x:=λc xs r z=>by subst z;rw[r] at mu;exact mu
 by_cases hb:b=x
 ·subst hb;rw[ah] at q;cases q;exact new
 ·rw[ao hb] at q;by_cases hbe:b=e
  ·have q':H b=some (.own x):=by
    rcases he with z|z
    ·exact aad (hbe.trans z) hb
    ·rw[hbe];exact z
   rw[q] at q';cases q';obtain⟨v,hv⟩:=heo;exact⟨v,by rw[hbe];exact hv⟩
  ·refine(ok b u q).stay (λc v hc r=>k c v ?_ r) (λc r=>by rw[ao (nown c b r)];exact r) λc xs r=>by rw[ao (ntup c xs r)];exact r
   rcases hc with rfl|hc
   ·exact hbe
   ·rintro rfl;rcases he with z|z
    ·exact nown c b hc z
    ·rw[hc] at z;cases z;exact hb Z
end
structure Un(fs ex:List Addr)(H H':Hp)(h h':Qo):Prop where
 keep:∀b o,h.get? b=some o->H b=none->b∉fs->b∉ex->h'.get? b=some o
 slot:∀b o,h.get? b=some o->H b=none->b∈fs->b∉ex->∃sl,h'.get? b=some { o with slots:=sl}
 free:∀b o,h.get? b=some o->H b=none->b∉ex->H' b=none
 there:∀b o,h.get? b=some o->b∉ex->∃o',h'.get? b=some o'
 tups:∀b xs,H b=some (.tup xs)->H' b=some (.tup xs)
 frzs:∀b o u,H b=some (.frz o u)->H' b=some (.frz o u)
 tbls:∀b ps,H b=some (.tbl ps)->∃more,H' b=some (.tbl (ps++more))
section
variable {fs fs' ex ex':List Addr}{H H1 H2:Hp}{h h1 h2 h':Qo}{a x e:Addr}{o:HO}
theorem Un.any(u:Un fs ex H H1 h h1)(q:h.get? b=some ob)(n:H b=none)(hx:b∉ex):∃sl,h1.get? b=some { ob with slots:=sl}:=by
 by_cases hb:b∈fs
 ·exact u.slot b ob q n hb hx
 ·exact⟨ob.slots,u.keep b ob q n hb hx⟩
theorem Un.kept(k:∀b u,h.get? b=some u->h'.get? b=some u):Un fs ex H H h h':=
 ⟨λb ob q _ _ _=>k b ob q,λb ob q _ _ _=>⟨ob.slots,k b ob q⟩,λ_ _ _ n _=>n,λb ob q _=>⟨ob,k b ob q⟩,λ_ _ q=>q,λ_ _ _ q=>q,λ_ ps q=>⟨#[],by rw[q];simp⟩⟩
theorem Un.refl:Un fs ex H H h h:=Un.kept λ_ _ q=>q
theorem Un.laid(k:∀b u,h.get? b=some u->h'.get? b=some u)(hp:h.objs.size≤a)(hn:H a=none):Un fs ex H (upd H a o) h h' where
 keep:=λb u q _ _ _=>k b u q
 slot:=λb u q _ _ _=>⟨u.slots,k b u q⟩
 free:=λb u q n _=>by rw[ao (Rf (QJ (Qt q) hp))];exact n
 there:=λb u q _=>⟨u,k b u q⟩
 tups:=λb xs q=>by rw[ao (aC q hn)];exact q
 frzs:=λb u xs q=>by rw[ao (aC q hn)];exact q
 tbls:=λb ps q=>⟨#[],by rw[ao (aC q hn),q];simp⟩
theorem Un.write(mu:LL (H x))(he:e=x∨H e=some (.own x))(k:∀b u,b≠e->h.get? b=some u->h'.get? b=some u)(heo:∃u,h'.get? e=some u):Un fs ex H (upd H x o) h h':=by
 have hx:∀b,H b=none->b≠x:=λb n z=>by subst z;rw[n] at mu;exact mu
 have hb:∀b,H b=none->b≠e:=λb n z=>by
  subst z;rcases he with r|r
  ·exact hx b n r
  ·rw[n] at r;cases r
 have hm:∀b u,H b=some u->¬LL (some u)->b≠x:=λb u q nm z=>by subst z;rw[q] at mu;exact nm mu
 refine⟨λb u q n _ _=>k b u (hb b n) q,λb u q n _ _=>⟨u.slots,k b u (hb b n) q⟩,λb u q n _=>by rw[ao (hx b n)];exact n,λb u q _=>?_,
  λb xs q=>by rw[ao (hm b _ q λz=>z)];exact q,λb u xs q=>by rw[ao (hm b _ q λz=>z)];exact q,λb ps q=>⟨#[],by rw[ao (hm b _ q λz=>z),q];simp⟩⟩
 by_cases hbe:b=e
 ·subst hbe;exact heo
 ·exact⟨u,k b u hbe q⟩
end
def Gn(h:Qo)(H:Hp):List Addr:=(P6 h.objs.size).filter λa=>(H a).isSome
def qz(h:Qo)(H:Hp):Qo:=PySem.W.hideAll h (Gn h H)
theorem xY(h:Qo)(H:Hp):(qz h H).objs.size=h.objs.size:=PySem.W.hideAll_size _ _
theorem B7(e:h.get? b=some o)(n:H b=none):(qz h H).get? b=some o:=
 PySem.W.hideAll_get _ e λhm=>by
  have q:(H b).isSome=true:=(Qp.mp hm).2;rw[n] at q;simp at q
theorem Eu(e:(qz h H).get? b=some o):h.get? b=some o/\H b=none:=by
 have e':h.get? b=some o:=PySem.W.of_hideAll (Gn h H) e;refine⟨e',?_⟩
 cases q:H b with
 |none=>rfl
 |some x=>
  have hm:b∈Gn h H:=Qp.mpr ⟨Qi.mpr (Qt e'),by simp[q]⟩;have z:(qz h H).get? b=none:=PySem.W.hideAll_none (Gn h H) hm;rw[z] at e;cases e
def Fk(g h:Qo)(L:Addr):List (Addr×R9):=(P6 h.objs.size).filterMap λa=>if a=L∨(g.get? a).isSome=true then none else(h.get? a).map λo=>(a,o)
def c6(g h:Qo)(L d:Addr):List (Addr×R9):=(Fk g h L).filter λp=>decide (p.1≠d)
structure Mod(K:P4)(mg:QX->Option Value)(base:Qo):Prop where
 kin:K.In base
 glob:base.Ns QZ mg
 blt:∃mb,base.Ns Zs mb/\∀x:QX,x ≠ "__name__"->mb x=S0 x
 nolimit:base.NoLimit
structure Cx where
 prog:Q4
 w:Rm
 K:P4
 mg:QX->Option Value
 base:Qo
 A:Rg
 N:List QX
 s₀:Qc
 H₀:Hp
 env:Zq
 outer:List Zq
 stack:List Zq
 ex:List Addr
 fn:QX->Bool
 calm:Bool
 pn:List (Addr×R9)
 xe:Value->Qc->Prop
def qD(l:List Zq):List Addr:=l.filterMap (·.frame)
abbrev Cx.fs(X:Cx):List Addr:=qD X.outer
def LC(sc:Uw)(x:QX):Prop:=sc.names.lookup x=some .local∨sc.names.lookup x=some .cell∨sc.names.lookup x=some .free
def yA(sc:Uw)(x:QX):Prop:=sc.names.lookup x=some .local∨sc.names.lookup x=some .cell
def Nj(env:Zq)(h:Qo)(m:QX->Option Value)(x:QX)(u:Value):Prop:=
 (env.kindOf x=some .local/\m x=some u)∨((env.kindOf x=some .cell∨env.kindOf x=some .free)/\∃c,env.cells.lookup x=some c/\h.IsCell c (some u))
structure Cx.Ok(X:Cx):Prop where
 mod:Mod X.K X.mg X.base
 kind:X.env.scope.kind=.function
 glob:X.env.globals=QZ
 blt:X.env.builtins=Zs
 above:X.s₀.heap.objs.size≤X.env.locals
 inj:∀x y c,X.env.cells.lookup x=some c->X.env.cells.lookup y=some c->x=y
 has:∀x,(X.env.kindOf x=some .cell∨X.env.kindOf x=some .free)->∃c,X.env.cells.lookup x=some c
 cab:∀x c,X.fn x=true->X.env.cells.lookup x=some c->X.s₀.heap.objs.size≤c
 hd:X.calm=true->X.A.handled=none
 frames:X.A.frames=some X.stack
 stk:X.stack=X.outer∨(X.stack=X.env::X.outer/\X.env.frame=some X.env.locals)
 exf:∀b∈X.ex,b≠X.env.locals/\∀x c,X.env.cells.lookup x=some c->c≠b
 bs:∀b o,X.base.get? b=some o->X.s₀.heap.get? b=some o/\X.H₀ b=none
 bsz:X.base.objs.size≤X.s₀.heap.objs.size
 noex:∀b o,X.base.get? b=some o->b∉X.ex
 exfs:∀b∈X.ex,b∉X.fs
 funs:X.s₀.heap.FunFrames X.base X.outer
 frf:∀b∈X.fs,X.H₀ b=none
structure Inv(X:Cx)(pins:List (Addr×R9))(σ:List (Option V))(H:Hp)(s:Qc):Prop where
 ok:X.Ok
 os:s.os=X.s₀.os
 bare:Vp s.gens
 base:Un X.fs X.ex X.H₀ H X.s₀.heap s.heap
 loc:∃m,s.heap.Ns X.env.locals m/\∀(i:Nat) (x:QX) (v:V),X.N[i]?=some x->σ[i]?=some (some v)->LC X.env.scope x->∃u,RelV v u/\Nj X.env s.heap m x u
 cell:∀x c,X.env.cells.lookup x=some c->∃v,s.heap.IsCell c v
 free:H X.env.locals=none
 freeC:∀x c,X.env.cells.lookup x=some c->H c=none
 pin:∀p∈X.pn++pins,s.heap.get? p.1=some p.2/\H p.1=none/\p.1≠X.env.locals/\p.1∉X.fs/\∀v,p.2.data≠.cell v
 hok:iO X.prog X.w H s.heap
 len:σ.length=X.N.length
section
variable {X:Cx}{pins:List (Addr×R9)}{σ:List (Option V)}{H H':Hp}{s:Qc}{h':Qo}
theorem Cx.Ok.nofr(ok:X.Ok)(e:X.base.get? b=some o):b∉X.fs:=λhb=>by
 have:=(ok.funs.mem hb).1;rw[e] at this;cases this
theorem Inv.bs(I:Inv X pins σ H s):∀b o,X.base.get? b=some o->s.heap.get? b=some o/\H b=none:=λb o e=>
 ⟨I.base.keep b o (I.ok.bs b o e).1 (I.ok.bs b o e).2 (I.ok.nofr e) (I.ok.noex b o e),I.base.free b o (I.ok.bs b o e).1 (I.ok.bs b o e).2 (I.ok.noex b o e)⟩
theorem Inv.bk(I:Inv X pins σ H s):∀b o,X.base.get? b=some o->s.heap.get? b=some o:=λb o e=>(I.bs b o e).1
theorem Inv.mod(I:Inv X pins σ H s):Mod X.K X.mg X.base:=I.ok.mod
theorem Inv.kIn(I:Inv X pins σ H s):X.K.In s.heap:=I.ok.mod.kin.keeps I.bk
theorem Inv.lt(I:Inv X pins σ H s):X.env.locals<s.heap.objs.size:=let ⟨_,hn,_⟩:=I.loc;hn.lt
theorem Inv.sz(I:Inv X pins σ H s):X.s₀.heap.objs.size≤s.heap.objs.size:=QU I.ok.above (T0 I.lt)
theorem Inv.nofs(I:Inv X pins σ H s){a:Addr}(h:s.heap.objs.size≤a):a∉X.fs:=λhb=>by
 obtain⟨_,o,ho,_⟩:=I.ok.funs.mem hb;exact aad (QJ (Qt ho) (QU I.sz h)) (Ri _)
theorem Inv.cne(I:Inv X pins σ H s):∀x c,X.env.cells.lookup x=some c->c≠X.env.locals:=λx c e z=>by
 obtain⟨v,o,ho,hd⟩:=I.cell x c e;obtain⟨m,⟨o',es,ep,ho',hd',_⟩,_⟩:=I.loc;rw[z,ho'] at ho;cases ho;rw[hd'] at hd;cases hd
theorem Inv.funs(I:Inv X pins σ H s):s.heap.FunFrames X.base X.outer:=by
 have all:∀(l:List Zq),(∀b∈qD l,b∈X.fs)->X.s₀.heap.FunFrames X.base l->s.heap.FunFrames X.base l:=by
  intro l
  induction l with
  |nil=>intro _ _;trivial
  |cons env r ih=>
   intro hs hl;obtain⟨hk,⟨L,o,hf,hn,ho,hd⟩,hr⟩:=hl;have hL:L∈X.fs:=hs L (by unfold qD;rw[VB,hf];exact Qd);obtain⟨sl,e⟩:=I.base.slot L o ho (I.ok.frf L hL) hL λz=>I.ok.exfs L z hL
   exact⟨hk,⟨L,_,hf,hn,e,hd⟩,ih (λb hb=>hs b (by unfold qD;rw[VB,hf];exact Qe _ hb)) hr⟩
 exact all X.outer (λ_ hb=>hb) I.ok.funs
theorem Inv.stack(I:Inv X pins σ H s):s.heap.FunFrames X.base X.stack:=by
 rcases I.ok.stk with e | ⟨e,hf⟩
 ·rw[e];exact I.funs
 ·rw[e];obtain⟨m,hn,_⟩:=I.loc;refine .cons (by rw[I.ok.kind];decide) hf hn ?_ I.funs;exact Sc (QU I.ok.bsz I.ok.above)
theorem Inv.stkSub(I:Inv X pins σ H s):∀b∈qD X.stack,b∈X.env.locals::X.fs:=λb hb=>by
 rcases I.ok.stk with e | ⟨e,hf⟩
 ·rw[e] at hb;exact Qe _ hb
 ·rw[e] at hb;unfold qD at hb;rw[VB,hf] at hb;exact hb
theorem Inv.stkFree(I:Inv X pins σ H s):∀b∈qD X.stack,H b=none:=λb hb=>by
 rcases Qm.mp (I.stkSub b hb) with e|hb
 ·rw[e];exact I.free
 ·obtain⟨_,o,ho,_⟩:=I.ok.funs.mem hb;exact I.base.free b o ho (I.ok.frf b hb) λz=>I.ok.exfs b z hb
theorem Inv.step{ch:List Addr}(I:Inv X pins σ H s)
  (hch:∀b∈ch,(b∈X.ex∨X.s₀.heap.get? b=none)/\b≠X.env.locals/\(∀x c,X.env.cells.lookup x=some c->c≠b)/\∀p∈X.pn++pins,p.1≠b)
  (keep:∀b o,b≠X.env.locals->b∉X.fs->b∉ch->s.heap.get? b=some o->H b=none->h'.get? b=some o)
  (slot:∀b o,b≠X.env.locals->b∈X.fs->b∉ch->s.heap.get? b=some o->H b=none->∃sl,h'.get? b=some { o with slots:=sl}) (free:∀b o,b∉ch->s.heap.get? b=some o->H b=none->H' b=none)
  (there:∀b o,b∉ch->s.heap.get? b=some o->∃o',h'.get? b=some o')
  (tups:∀b xs,H b=some (.tup xs)->H' b=some (.tup xs)) (frzs:∀b o u,H b=some (.frz o u)->H' b=some (.frz o u)) (tbls:∀b ps,H b=some (.tbl ps)->∃more,H' b=some (.tbl (ps++more)))
  (ns:∀m,s.heap.Ns X.env.locals m->h'.Ns X.env.locals m) (hok:iO X.prog X.w H' h') (hg:Vp g'):
  Inv X pins σ H' { s with heap:=h',gens:=g',drawn:=d',toks:=t'}:=by
 have neL:∀b o,X.s₀.heap.get? b=some o->b≠X.env.locals:=λb o e=>Rf (QJ (Qt e) I.ok.above)
 have neC:∀b o,X.s₀.heap.get? b=some o->b∉X.ex->b∉ch:=λb o e hx hb=>by
  rcases(hch b hb).1 with z|z
  ·exact hx z
  ·rw[e] at z;cases z
 have cellK:∀x c,X.env.cells.lookup x=some c->∀v,s.heap.IsCell c v->h'.IsCell c v:=λx c e v ⟨o,ho,hd⟩=>by
  have nch:c∉ch:=λz=>(hch c z).2.2.1 x c e Z
  by_cases hc:c∈X.fs
  ·obtain⟨sl,q⟩:=slot c o (I.cne x c e) hc nch ho (I.freeC x c e);exact⟨_,q,hd⟩
  ·exact⟨o,keep c o (I.cne x c e) hc nch ho (I.freeC x c e),hd⟩
 refine⟨I.ok,I.os,hg,⟨λb o e n hb hx=>?_,λb o e n hb hx=>?_,λb o e n hx=>?_,λb o e hx=>?_,λb xs e=>tups b xs (I.base.tups b xs e),λb o xs e=>frzs b o xs (I.base.frzs b o xs e),λb ps e=>?_⟩,?_,λx c e=>?_,?_,λx c e=>?_,λp hp=>?_,hok,I.len⟩
 ·exact keep b o (neL b o e) hb (neC b o e hx) (I.base.keep b o e n hb hx) (I.base.free b o e n hx)
 ·obtain⟨sl,e1⟩:=I.base.slot b o e n hb hx;obtain⟨sl',e2⟩:=slot b _ (neL b o e) hb (neC b o e hx) e1 (I.base.free b o e n hx);exact⟨sl',e2⟩
 ·obtain⟨o',e1⟩:=I.base.there b o e hx;exact free b o' (neC b o e hx) e1 (I.base.free b o e n hx)
 ·obtain⟨o',e1⟩:=I.base.there b o e hx;exact there b o' (neC b o e hx) e1
 ·obtain⟨m1,e1⟩:=I.base.tbls b ps e;obtain⟨m2,e2⟩:=tbls b _ e1;exact⟨m1++m2,by rw[e2,Array.append_assoc]⟩
 ·obtain⟨m,hn,hl⟩:=I.loc;refine⟨m,ns m hn,λi x v e1 e2 e3=>?_⟩;obtain⟨u,r,l⟩:=hl i x v e1 e2 e3;refine⟨u,r,?_⟩;rcases l with l | ⟨k,c,e,z⟩
  ·exact .inl l
  ·exact .inr ⟨k,c,e,cellK x c e _ z⟩
 ·obtain⟨v,z⟩:=I.cell x c e;exact⟨v,cellK x c e v z⟩
 ·obtain⟨m,⟨o,_,_,ho,_⟩,_⟩:=I.loc;exact free _ o (λz=>(hch _ z).2.1 Z) ho I.free
 ·obtain⟨v,o,ho,hd⟩:=I.cell x c e;exact free c o (λz=>(hch c z).2.2.1 x c e Z) ho (I.freeC x c e)
 ·obtain⟨e,n,ne,nf,d⟩:=I.pin p hp;have nch:p.1∉ch:=λz=>(hch p.1 z).2.2.2 p hp Z
  exact⟨keep p.1 p.2 ne nf nch e n,free p.1 p.2 nch e n,ne,nf,d⟩
theorem Inv.un(I:Inv X pins σ H s)(u:Un X.fs [] H H' s.heap h')(hok:iO X.prog X.w H' h'):Inv X pins σ H' { s with heap:=h',toks:=t'}:=by
 obtain⟨m,⟨o,es,ep,ho,r⟩,_⟩:=id I.loc;obtain⟨sl,hL⟩:=u.any ho I.free (by simp);exact I.step (g':=s.gens) (d':=s.drawn) (ch:=[]) (λ_ z=>nomatch z) (λb o _ hb _ e n=>u.keep b o e n hb (by simp)) (λb o _ hb _ e n=>u.slot b o e n hb (by simp)) (λb o _ e n=>u.free b o e n (by simp)) (λb o _ e=>u.there b o e (by simp)) u.tups u.frzs u.tbls (λm' hm=>by
  obtain⟨o',es',ep',ho',r'⟩:=hm;rw[ho] at ho';cases ho';exact⟨_,es',ep',hL,r'⟩) hok I.bare
theorem Inv.call(I:Inv X pins σ H s)(u:Un (qD X.stack) ch H H' s.heap h')(hok:iO X.prog X.w H' h')(hg:Vp g')
  (hch:∀b∈ch,(b∈X.ex∨X.s₀.heap.get? b=none)/\b≠X.env.locals/\(∀x c,X.env.cells.lookup x=some c->c≠b)/\∀p∈X.pn++pins,p.1≠b):
  Inv X pins σ H' { s with heap:=h',gens:=g',drawn:=d',toks:=t'}:=by
 obtain⟨m,⟨o,es,ep,ho,r⟩,_⟩:=id I.loc;obtain⟨sl,hL⟩:=u.any ho I.free λz=>(hch _ z).2.1 Z
 exact I.step (ch:=ch) hch (λb o hL hb hc e n=>u.keep b o e n (λz=>(Qm.mp (I.stkSub b z)).elim hL hb) hc) (λb o _ _ hc e n=>u.any e n hc) (λb o hc e n=>u.free b o e n hc) (λb o hc e=>u.there b o e hc) u.tups u.frzs u.tbls (λm' hm=>by
  obtain⟨o',es',ep',ho',r'⟩:=hm;rw[ho] at ho';cases ho';exact⟨_,es',ep',hL,r'⟩) hok hg
theorem Inv.turned(I:Inv X pins σ H s)(k:∀b o,b≠it->s.heap.get? b=some o->h'.get? b=some o)(hn:H it=none)(hL:it≠X.env.locals)
  (h1:it∈X.ex∨X.s₀.heap.get? it=none) (h2:∀x c,X.env.cells.lookup x=some c->c≠it) (h3:∀p∈X.pn++pins,p.1≠it):Inv X pins σ H { s with heap:=h',toks:=t'}:=by
 have nit:∀b u,H b=some u->b≠it:=λb u e z=>by rw[z,hn] at e;cases e
 refine I.step (g':=s.gens) (d':=s.drawn) (ch:=[it]) (λb hb=>?_) (λb o _ _ hc e _=>k b o (λz=>hc (by simp[z])) e) (λb o _ _ hc e _=>⟨o.slots,k b o (λz=>hc (by simp[z])) e⟩) (λ_ _ _ _ n=>n)
  (λb o hc e=>⟨o,k b o (λz=>hc (by simp[z])) e⟩) (λ_ _ e=>e) (λ_ _ _ e=>e) (λb ps e=>⟨#[],by rw[e];simp⟩) (λm hm=>?_) (λb u e=>?_) I.bare
 ·have e:b=it:=by simpa using hb
  subst e;exact⟨h1,hL,h2,h3⟩
 ·obtain⟨o,es,ep,ho,r⟩:=hm;exact⟨o,es,ep,k _ o (T5 hL) ho,r⟩
 ·refine(I.hok b u e).stay (λc v hc q=>k c v ?_ q) (λ_ q=>q) λ_ _ q=>q
  rcases hc with z|z
  ·rw[z];exact nit b u e
  ·exact nit c _ z
theorem Inv.tok(I:Inv X pins σ H s)(t:Nat):Inv X pins σ H { s with toks:=t}:=I.un (h':=s.heap) (t':=t) Un.refl I.hok
theorem Inv.kept(I:Inv X pins σ H s)(k:∀b u,s.heap.get? b=some u->h'.get? b=some u):Inv X pins σ H { s with heap:=h',toks:=t'}:=I.un (Un.kept k) (I.hok.kept k)
theorem Inv.laid{a:Addr}{o:HO}{t':Nat}(I:Inv X pins σ H s)(k:∀b u,s.heap.get? b=some u->h'.get? b=some u)(hp:s.heap.objs.size≤a)(new:ObjOk X.prog X.w (upd H a o) h' a o) :
  Inv X pins σ (upd H a o) { s with heap:=h',toks:=t'}:=I.un (Un.laid k hp (I.hok.fresh hp)) (I.hok.laid k hp new)
theorem Inv.write(I:Inv X pins σ H s)(mu:LL (H x))(he:e=x∨H e=some (.own x))(k:∀b u,b≠e->s.heap.get? b=some u->h'.get? b=some u)(heo:∃u,h'.get? e=some u)
  (new:ObjOk X.prog X.w (upd H x o) h' x o):Inv X pins σ (upd H x o) { s with heap:=h',toks:=t'}:=I.un (Un.write mu he k heo) (I.hok.write mu he k heo new)
theorem Inv.weak(I:Inv X pins σ H s)(hl:σ'.length=σ.length)(w:∀(i:Nat) v,σ'[i]?=some (some v)->σ[i]?=some (some v)):Inv X pins σ' H s:=
 ⟨I.ok,I.os,I.bare,I.base,let ⟨m,hn,hl'⟩:=I.loc;⟨m,hn,λi x v e1 e2 e3=>hl' i x v e1 (w i v e2) e3⟩,I.cell,I.free,I.freeC,I.pin,I.hok,hl.trans I.len⟩
theorem Inv.pins_of(I:Inv X pins σ H s)(h:∀p∈pins',s.heap.get? p.1=some p.2/\H p.1=none/\p.1≠X.env.locals/\p.1∉X.fs/\∀v,p.2.data≠.cell v):Inv X pins' σ H s:=
 ⟨I.ok,I.os,I.bare,I.base,I.loc,I.cell,I.free,I.freeC,λp hp=>(QP.mp hp).elim (λz=>I.pin p (RD _ z)) (h p),I.hok,I.len⟩
theorem rW{N:List QX}(hN:N.Nodup){i j:Nat}(a:N[i]?=some x)(b:N[j]?=some x):i=j:=by
 obtain⟨h1,e1⟩:=Qq.mp a;obtain⟨h2,e2⟩:=Qq.mp b;exact(TM hN).mp (e1.trans e2.symm)
theorem wX{M:Model}{A:Rg}{E:Value->Qc->Prop}{i:Nat}{x:QX}{v:V}{u:Value}{Q:Unit->Qc->Prop}(I:Inv X pins σ H s)(hN:X.N.Nodup)(hi:X.N[i]?=some x)(hx:yA X.env.scope x)(r:RelV v u)
  (h:∀s',Inv X pins (σ.set i (some v)) H s'->(∃a,T6 a s.heap s'.heap/\(a=X.env.locals∨X.env.cells.lookup x=some a))->Q () s') (hf:X.fn x=true∨X.env.scope.names.lookup x=some .local:=by first|exact .inl Z|exact .inr Z|assumption):Qw M A (ZU X.env x u) Q E s:=by
 obtain⟨m,hn,hl⟩:=id I.loc;have hcls:(X.env.scope.kind==.class||(X.env.scope.kind==.module&&X.env.locals != X.env.globals))=false:=by rw[I.ok.kind];rfl
 have hiσ:i<σ.length:=by rw[I.len];exact(Qq.mp hi).1
 have cne:=I.cne;have tracked:∀{a:Addr} {h':Qo},(∃o,s.heap.get? a=some o/\H a=none)->T6 a s.heap h'->iO X.prog X.w H h':=λ{a h'} ha hs b ob e=>by
  obtain⟨_,_,hfree⟩:=ha;refine(I.hok b ob e).stay (λc w' hc q=>(hs.2 c ?_).trans q) (λ_ q=>q) λ_ _ q=>q
  rintro rfl;rcases hc with rfl|hc
  ·rw[hfree] at e;cases e
  ·rw[hfree] at hc;cases hc
 rcases hx with hk|hk
 ·refine wpAny_storeName_local hk hn (λh' hn' hs=>?_) hcls;obtain⟨oL,_,_,hoL,_⟩:=id hn;refine h _ ⟨I.ok,I.os,I.bare,⟨λb o e n hb hx=>?_,λb o e n hb hx=>?_,I.base.free,λb o e hx=>?_,I.base.tups,I.base.frzs,I.base.tbls⟩,⟨_,hn',λj y v' e1 e2 e3=>?_⟩,λy c e=>?_,I.free,I.freeC,λp hp=>?_,tracked ⟨oL,hoL,I.free⟩ hs,by simpa using I.len⟩ ⟨_,hs,.inl Z⟩
  ·exact(hs.2 b (Rf (QJ (Qt e) I.ok.above))).trans (I.base.keep b o e n hb hx)
  ·obtain⟨sl,e1⟩:=I.base.slot b o e n hb hx;exact⟨sl,(hs.2 b (Rf (QJ (Qt e) I.ok.above))).trans e1⟩
  ·obtain⟨o',e1⟩:=I.base.there b o e hx;exact⟨o',(hs.2 b (Rf (QJ (Qt e) I.ok.above))).trans e1⟩
  ·by_cases hj:j=i
   ·subst hj;rw[hi] at e1;cases e1;rw[Te hiσ] at e2
    cases e2
    exact⟨u,r,.inl ⟨hk,by simp⟩⟩
   ·rw[RJ (T5 hj)] at e2;obtain⟨u',r',q⟩:=hl j y v' e1 e2 e3;refine⟨u',r',?_⟩;rcases q with⟨k,e⟩ | ⟨k,c,e,z⟩
    ·refine .inl ⟨k,?_⟩;have:y≠x:=λe=>hj (rW hN e1 (e▸hi))
     simp[this,e]
    ·exact .inr ⟨k,c,e,z.sameBut hs (cne y c e)⟩
  ·obtain⟨w',z⟩:=I.cell y c e;exact⟨w',z.sameBut hs (cne y c e)⟩
  ·obtain⟨e,n,ne,nf,d⟩:=I.pin p hp;exact⟨(hs.2 p.1 ne).trans e,n,ne,nf,d⟩
 ·have hfn:X.fn x=true:=by
   rcases hf with z|z
   ·exact z
   ·rw[z] at hk;cases hk
  obtain⟨c,hc⟩:=I.ok.has x (.inl hk);obtain⟨w',z⟩:=I.cell x c hc;refine wpAny_storeName_cell I.ok.kind hk hc z (λh' hc' hs=>?_);obtain⟨oc,hoc,hocd⟩:=id z;refine h { s with heap:=h'} ⟨I.ok,I.os,I.bare,⟨λb o e n hb hx=>?_,λb o e n hb hx=>?_,I.base.free,λb o e hx=>?_,I.base.tups,I.base.frzs,I.base.tbls⟩,⟨m,hn.sameBut hs (T5 (cne x c hc)),λj y v' e1 e2 e3=>?_⟩,λy c' e=>?_,I.free,I.freeC,λp hp=>?_,tracked ⟨oc,hoc,I.freeC x c hc⟩ hs,by simpa using I.len⟩ ⟨c,hs,.inr hc⟩
  ·exact(hs.2 b (Rf (QJ (Qt e) (I.ok.cab x c hfn hc)))).trans (I.base.keep b o e n hb hx)
  ·obtain⟨sl,e1⟩:=I.base.slot b o e n hb hx;exact⟨sl,(hs.2 b (Rf (QJ (Qt e) (I.ok.cab x c hfn hc)))).trans e1⟩
  ·obtain⟨o',e1⟩:=I.base.there b o e hx;exact⟨o',(hs.2 b (Rf (QJ (Qt e) (I.ok.cab x c hfn hc)))).trans e1⟩
  ·by_cases hj:j=i
   ·subst hj;rw[hi] at e1;cases e1;rw[Te hiσ] at e2
    cases e2
    exact⟨u,r,.inr ⟨.inl hk,c,hc,hc'⟩⟩
   ·rw[RJ (T5 hj)] at e2;obtain⟨u',r',q⟩:=hl j y v' e1 e2 e3;refine⟨u',r',?_⟩;rcases q with q | ⟨k,c',e,z'⟩
    ·exact .inl q
    ·refine .inr ⟨k,c',e,z'.sameBut hs ?_⟩;rintro rfl;exact hj (rW hN e1 (I.ok.inj _ _ _ e hc▸hi))
  ·by_cases hcc:c'=c
   ·subst hcc;exact⟨_,hc'⟩
   ·obtain⟨w2,z2⟩:=I.cell y c' e;exact⟨w2,z2.sameBut hs hcc⟩
  ·obtain⟨e,n,ne,nf,d⟩:=I.pin p hp;refine⟨(hs.2 p.1 ?_).trans e,n,ne,nf,d⟩;intro q;rw[q,hoc] at e;have q':oc=p.2:=RI e;exact d w' (by rw[←q'];exact hocd)
theorem fM{M:Model}{A:Rg}{E:Value->Qc->Prop}{i:Nat}{x:QX}{v:V}{u:Value}{Q:Unit->Qc->Prop}(I:Inv X pins σ H s)(hN:X.N.Nodup)(hi:X.N[i]?=some x)(hx:yA X.env.scope x)(r:RelV v u)
  (h:∀s',Inv X pins (σ.set i (some v)) H s'->Q () s') (hf:X.fn x=true∨X.env.scope.names.lookup x=some .local:=by first|exact .inl Z|exact .inr Z|assumption):Qw M A (ZU X.env x u) Q E s:=
 wX I hN hi hx r (λs' I' _=>h s' I') hf
theorem Inv.call'(I:Inv X pins σ H s)(ho:s'.os=s.os)(u:Un (qD X.stack) ch H H' s.heap s'.heap)(hok:iO X.prog X.w H' s'.heap)(hg:Vp s'.gens)
  (hch:∀b∈ch,(b∈X.ex∨X.s₀.heap.get? b=none)/\b≠X.env.locals/\(∀x c,X.env.cells.lookup x=some c->c≠b)/\∀p∈X.pn++pins,p.1≠b):Inv X pins σ H' s':=by
 obtain⟨h',g',d',t',o'⟩:=s';have e:o'=s.os:=ho;subst e;exact I.call (g':=g') (t':=t') (d':=d') u hok hg hch
end
abbrev XK:=Value->Option Addr->Hp->Prop
abbrev St:=List (Option V)
abbrev VK:=V->Hp->Prop
abbrev TE:=St->Hp->VK->Prop
abbrev TT:=St->Hp->(Bool->Hp->Prop)->Prop
abbrev TA:=St->Hp->(List V->Hp->Prop)->Prop
structure jc where
 nx:St->Hp->Prop
 rt:VK
 bk:St->Hp->Prop:=λ_ _=>False
 ct:St->Hp->Prop:=λ_ _=>False
abbrev TS:=jc->St->Hp->Prop
def EP(X:Cx)(pins:List (Addr×R9))(σ:St)(Q:VK)(u:Value)(s':Qc):Prop:=∃v H',Inv X pins σ H' s'/\RelV v u/\Q v H'
def TP(X:Cx)(pins:List (Addr×R9))(σ:St)(Q:Bool->Hp->Prop)(b:Bool)(s':Qc):Prop:=∃H',Inv X pins σ H' s'/\Q b H'
def AP(X:Cx)(pins:List (Addr×R9))(σ:St)(Q:List V->Hp->Prop)(us:List Value)(s':Qc):Prop:=∃vs H',Inv X pins σ H' s'/\bo vs us/\Q vs H'
def SP(X:Cx)(pins:List (Addr×R9))(D:jc)(f:Flow)(s':Qc):Prop:=
 match f with
 | .next=>∃σ' H',Inv X pins σ' H' s'/\D.nx σ' H'
 | .brk=>∃σ' H',Inv X pins σ' H' s'/\D.bk σ' H'
 | .cont=>∃σ' H',Inv X pins σ' H' s'/\D.ct σ' H'
 | .ret u=>∃v σ' H',Inv X pins σ' H' s'/\RelV v u/\D.rt v H'
def PE(X:Cx)(e:Re)(t:TE):Prop:=
 ∀(pins:List (Addr×R9)) (s:Qc) (σ:St) (H:Hp) (Q:VK),Inv X pins σ H s->t σ H Q->Qw (QK X.prog X.w) X.A (eval e X.env) (EP X pins σ Q) X.xe s
def PT(X:Cx)(e:Re)(t:TT):Prop:=
 ∀(pins:List (Addr×R9)) (s:Qc) (σ:St) (H:Hp) (Q:Bool->Hp->Prop),Inv X pins σ H s->t σ H Q->Qw (QK X.prog X.w) X.A (isTrue e X.env (eval e X.env)) (TP X pins σ Q) X.xe s
def PW(X:Cx)(e:Re)(t:TT):Prop:=
 ∀(whole:Sem Value) (pins:List (Addr×R9)) (s:Qc) (σ:St) (H:Hp) (Q:Bool->Hp->Prop),Inv X pins σ H s->t σ H Q->Qw (QK X.prog X.w) X.A (isTrue e X.env whole) (TP X pins σ Q) X.xe s
theorem PW.pt(h:PW X e t):PT X e t:=h _
def PA(X:Cx)(es:List Re)(t:TA):Prop:=
 ∀(pos:Uf) (pins:List (Addr×R9)) (s:Qc) (σ:St) (H:Hp) (Q:List V->Hp->Prop),Inv X pins σ H s->t σ H Q->Qw (QK X.prog X.w) X.A (spliced (Tb pos (Qs es X.env))) (AP X pins σ Q) X.xe s
def PS(X:Cx)(st:Stmt)(t:TS):Prop:=
 ∀(pins:List (Addr×R9)) (s:Qc) (σ:St) (H:Hp) (D:jc),Inv X pins σ H s->t D σ H->Qw (QK X.prog X.w) X.A (exec st X.env) (SP X pins D) X.xe s
def tM(X:Cx)(st:List Stmt)(t:TS):Prop:=
 ∀(pins:List (Addr×R9)) (s:Qc) (σ:St) (H:Hp) (D:jc),Inv X pins σ H s->t D σ H->Qw (QK X.prog X.w) X.A (execs st X.env) (SP X pins D) X.xe s
theorem bZ{Q Q':α->Qc->Prop}{E:Value->Qc->Prop}(h:Qw M A t Q E s)(hQ:∀a s,Q a s->Q' a s):Qw M A t Q' E s:=Sd h hQ λ_ _ x=>x
section
variable {X:Cx}
def yV(i:Nat):TE:=λσ H Q=>∃v,σ[i]?=some (some v)/\Q v H
def tC(v:V):TE:=λ_ H Q=>Q v H
theorem Hy{i:Nat}{x:QX}{pos:Uf}(hN:X.N[i]?=some x)(hv:LC X.env.scope x)(hd:(x==("__debug__" : QX))=false:=by decide)(hcd:(x==("__classdict__" : QX))=false:=by decide):PE X (.Name x pos) (yV i):=by
 intro pins s σ H Q I h;obtain⟨v,e,h⟩:=h;obtain⟨m,hn,hl⟩:=I.loc;obtain⟨u,r,l⟩:=hl i x v hN e hv;have fin:EP X pins σ Q u s:=⟨v,H,I,r,h⟩;rcases l with⟨hk,hm⟩ | ⟨hk,c,hc,hcell⟩
 ·exact Zt (Xp I.ok.kind hk hn hm fin) hd
 ·rcases hk with hk|hk
  ·exact Zt (XN I.ok.kind hk hc hcell fin) hd
  ·exact Zt (wpAny_loadName_free I.ok.kind hk hc hcell fin hcd) hd
theorem HS{i j pos}:PE X (.Constant (.int i) j pos) (tC (.int i)):=λ_ _ _ H _ I h=>wpAny_Constant_int ⟨.int i,H,I.tok _,⟨_,Z⟩,h⟩
theorem KY{b j pos}:PE X (.Constant (.bool b) j pos) (tC (.bl b)):=λ_ _ _ H _ I h=>Constant_bool ⟨.bl b,H,I,Z,h⟩
theorem HQ{j pos}:PE X (.Constant .none j pos) (tC .non):=λ_ _ _ H _ I h=>Constant_none ⟨.non,H,I,Z,h⟩
theorem HM{x j pos}:PE X (.Constant (.str x) j pos) (tC (.str x)):=λ_ _ _ H _ I h=>Calls.Constant_str ⟨.str x,H,I.tok _,⟨_,Z⟩,h⟩
def Gl(X:Cx)(x:QX):Prop:=X.env.kindOf x=some .globalImplicit
theorem lN{E:Value->Qc->Prop}{pins:List (Addr×R9)}{s:Qc}{σ:St}{H:Hp}{x:QX}{u:Value}{pos:Uf}{Q:Value->Qc->Prop}(I:Inv X pins σ H s)(hg:Gl X x)(hm:X.mg x=some u)(h:Q u s)
  (hd:(x==("__debug__" : QX))=false:=by decide):Qw (QK X.prog X.w) X.A (eval (.Name x pos) X.env) Q E s:=
 Calls.Name_function_global I.ok.kind hg (Calls.loadGlobal_global (by rw[I.ok.glob];exact I.mod.glob.keeps I.bk) hm h) hd
theorem hU{E:Value->Qc->Prop}{pins:List (Addr×R9)}{s:Qc}{σ:St}{H:Hp}{x:QX}{u:Value}{pos:Uf}{Q:Value->Qc->Prop}(I:Inv X pins σ H s)(hg:Gl X x)(hm:X.mg x=none)(hv:S0 x=some u)(h:Q u s)
  (hn:x ≠ "__name__" := by decide) (hd:(x==("__debug__" : QX))=false:=by decide):Qw (QK X.prog X.w) X.A (eval (.Name x pos) X.env) Q E s:=by
 obtain⟨mb,h1,h2⟩:=I.mod.blt;exact Calls.Name_function_global I.ok.kind hg (Calls.loadGlobal_builtin (by rw[I.ok.glob];exact I.mod.glob.keeps I.bk) hm (by rw[I.ok.blt];exact h1.keeps I.bk) ((h2 x hn).trans hv) h) hd
theorem Eh{x:QX}{v:V}{u:Value}{pos:Uf}(hg:Gl X x)(hm:X.mg x=some u)(r:RelV v u)(hd:(x==("__debug__" : QX))=false:=by decide):PE X (.Name x pos) (tC v):=
 λ_ _ _ H _ I h=>lN I hg hm ⟨v,H,I,r,h⟩ hd
theorem Em{x:QX}{v:V}{u:Value}{pos:Uf}(hg:Gl X x)(hm:X.mg x=none)(hv:S0 x=some u)(r:RelV v u)(hn:x ≠ "__name__" := by decide)(hd:(x==("__debug__" : QX))=false:=by decide):PE X (.Name x pos) (tC v):=
 λ_ _ _ H _ I h=>hU I hg hm hv ⟨v,H,I,r,h⟩ hn hd
def LX(ta tb:TE)(k:Int->Int->Hp->Prop):St->Hp->Prop:=λσ H=>ta σ H λx H1=>tb σ H1 λy H2=>∃i j,x=.int i/\y=.int j/\k i j H2
def OM(ta tb:TE):TE:=λσ H Q=>LX ta tb (λi j H2=>Q (.int (i+j)) H2) σ H
def OC(ta tb:TE):TE:=λσ H Q=>LX ta tb (λi j H2=>Q (.int (i-j)) H2) σ H
def OG(ta tb:TE):TE:=λσ H Q=>LX ta tb (λi j H2=>(-(2^64)<i/\i<2^64)/\Q (.int (i*j)) H2) σ H
variable {a b:Re}{ta tb:TE}{pos:Uf}
def PC(X:Cx)(op:Zu)(a b:Re)(t:TE):Prop:=
 ∀(pins:List (Addr×R9)) (s:Qc) (σ:St) (H:Hp) (Q:VK),Inv X pins σ H s->t σ H Q→
  Qw (QK X.prog X.w) X.A (eval a X.env) (λv s₁=>Qw (QK X.prog X.w) X.A (eval b X.env) (λu s₂=>Qw (QK X.prog X.w) X.A (RL op v u) (EP X pins σ Q) X.xe s₂) X.xe s₁) X.xe s
def wW(p:Int->Int->Bool)(ta tb:TE):TE:=λσ H Q=>LX ta tb (λi j H2=>Q (.bl (p i j)) H2) σ H
abbrev Pz:TE->TE->TE:=wW λi j=>decide (i<j)
abbrev PB:TE->TE->TE:=wW λi j=>decide (i≤j)
abbrev PD:TE->TE->TE:=wW λi j=>decide (j<i)
abbrev PF:TE->TE->TE:=wW λi j=>decide (j≤i)
abbrev OI:TE->TE->TE:=wW λi j=>decide (i=j)
abbrev OF:TE->TE->TE:=wW λi j=>!decide (i=j)
def OH(ta:TE):TE:=λσ H Q=>ta σ H λx H1=>Q (.bl (decide (x=.non))) H1
def NA(ta:TE):TE:=λσ H Q=>ta σ H λx H1=>Q (.bl (!decide (x=.non))) H1
def tB(t:TE):TT:=λσ H Q=>t σ H λx H1=>∃c,x=.bl c/\Q c H1
theorem Hm{e:Re}{t:TE}(h:PE X e t)(he:∀whole,isTrue e X.env whole=(do let v ←whole;WN e.pos;holding [v] (truthy v)):=by intro _;rfl):PT X e (tB t):=by
 intro pins s σ H Q I hw;refine isTrue_plain (bZ (h pins s σ H _ I hw) λv s1 ⟨x,H1,I1,r1,q1⟩=>?_) (he _);obtain⟨d,rfl,q⟩:=q1
 cases r1
 exact Sl ⟨H1,I1,q⟩
variable {tA tB':TT}{c6:List Re}
def Kn(t u:TT):TT:=λσ H Q=>t σ H λc H1=>if c=true then u σ H1 Q else Q false H1
def Nz(t u:TT):TT:=λσ H Q=>t σ H λc H1=>if c=true then Q true H1 else u σ H1 Q
def Kh(t:TT):TT:=λσ H Q=>t σ H λc H1=>Q (!c) H1
theorem DO(ha:PT X a tA):PW X (.BoolOp .And [a] pos) tA:=by
 intro wh pins s σ H Q I h;refine isTrue_and (bZ (ha pins s σ H Q I h) λc s1 e=>?_)
 cases c with
 |true=>exact isTrue_and_nil e
 |false=>exact e
theorem Hk(ha:PT X a tA):PW X (.BoolOp .Or [a] pos) tA:=by
 intro wh pins s σ H Q I h;refine isTrue_or (bZ (ha pins s σ H Q I h) λc s1 e=>?_)
 cases c with
 |false=>exact isTrue_or_nil e
 |true=>exact e
theorem Hl(ha:PT X a tA)(hb:PW X (.BoolOp .And (b::c6) pos) tB'):PW X (.BoolOp .And (a::b::c6) pos) (Kn tA tB'):=by
 intro wh pins s σ H Q I h;refine isTrue_and (bZ (ha pins s σ H _ I h) λc s1 ⟨H1,I1,q1⟩=>?_)
 cases c with
 |true=>exact hb wh pins s1 σ H1 Q I1 q1
 |false=>exact⟨H1,I1,q1⟩
theorem KN(ha:PT X a tA)(hb:PW X (.BoolOp .Or (b::c6) pos) tB'):PW X (.BoolOp .Or (a::b::c6) pos) (Nz tA tB'):=by
 intro wh pins s σ H Q I h;refine isTrue_or (bZ (ha pins s σ H _ I h) λc s1 ⟨H1,I1,q1⟩=>?_)
 cases c with
 |true=>exact⟨H1,I1,q1⟩
 |false=>exact hb wh pins s1 σ H1 Q I1 q1
theorem Hn(ha:PT X a tA):PT X (.UnaryOp .Not a pos) (Kh tA):=by
 intro pins s σ H Q I h;exact isTrue_not (ha pins s σ H (λc H1=>Q (!c) H1) I h)
def FF(ta tb:TE):TE:=λσ H Q=>ta σ H λx H1=>∃c,x=.bl c/\if c=true then tb σ H1 Q else Q (.bl false) H1
def OE(ta tb:TE):TE:=λσ H Q=>ta σ H λx H1=>∃c,x=.bl c/\if c=true then Q (.bl true) H1 else tb σ H1 Q
def Fw(ta:TE):TE:=λσ H Q=>ta σ H λx H1=>∃c,x=.bl c/\Q (.bl (!c)) H1
theorem HN{op}(h:PE X a t):PE X (.BoolOp op [a] pos) t:=λpins s σ H Q I hw=>BoolOp_one (h pins s σ H Q I hw)
theorem HV(ha:PE X a ta)(hb:PE X (.BoolOp .And (b::c6) pos) tb):PE X (.BoolOp .And (a::b::c6) pos) (FF ta tb):=by
 intro pins s σ H Q I h;refine BoolOp_and (bZ (ha pins s σ H _ I h) λv s1 ⟨x,H1,I1,r1,q1⟩=>?_);obtain⟨c,rfl,q1⟩:=q1
 cases r1
 refine Sl ?_
 cases c with
 |true=>exact hb pins s1 σ H1 Q I1 q1
 |false=>exact⟨.bl false,H1,I1,Z,q1⟩
theorem HP(ha:PE X a ta):PE X (.UnaryOp .Not a pos) (Fw ta):=by
 intro pins s σ H Q I h;refine UnaryOp_ (bZ (ha pins s σ H _ I h) λv s1 ⟨x,H1,I1,r1,q1⟩=>?_);obtain⟨c,rfl,q1⟩:=q1
 cases r1
 exact not_of (Sl ⟨.bl (!c),H1,I1,Z,q1⟩)
def NC(t:TT)(ta tb:TE):TE:=λσ H Q=>t σ H λc H1=>if c=true then ta σ H1 Q else tb σ H1 Q
theorem Bf(hc:PT X c tA)(ha:PE X a ta)(hb:PE X b tb):PE X (.IfExp c a b pos) (NC tA ta tb):=by
 intro pins s σ H Q I h;refine wpAny_IfExp (bZ (hc pins s σ H _ I h) λd s1 ⟨H1,I1,q1⟩=>?_)
 cases d with
 |true=>exact ha pins s1 σ H1 Q I1 q1
 |false=>exact hb pins s1 σ H1 Q I1 q1
end
def aX(K:P4)(H:Hp)(a:Addr)(xs:List V):Prop:=
 Rd H a (.lst xs)∨
  ∃(o:R9) (its:Array Value) (n:Nat),K.lookup a=some o/\o.cls=.type "list"/\o.dict=none/\o.data=.seq its n/\its.size≤sizeLine/\bo xs its.toList
def bF(K:P4)(H:Hp)(a:Addr)(xs:List V):Prop:=
 Rd H a (.tup xs)∨
  ∃(o:R9) (its:Array Value) (n:Nat),K.lookup a=some o/\o.cls=.type "tuple"/\o.data=.seq its n/\its.size≤sizeLine/\bo xs its.toList
def Na:Value->Option V
 | .none=>some .non
 | .bool b=>some (.bl b)
 | .int i _=>some (.int i)
 | .str x _=>some (.str x)
 | .bytes b _=>some (.byt b)
 | .float b _=>some (.flt b)
 | .ref a=>some (.ref a)
 | .type n=>some (.ty n)
 |_=>none
theorem RelV.abs(r:RelV x u):Na u=some x:=by
 cases x with
 |non=>cases r;rfl
 |bl _=>cases r;rfl
 |int _=>obtain⟨t,rfl⟩:=r;rfl
 |str _=>obtain⟨t,rfl⟩:=r;rfl
 |byt _=>obtain⟨t,rfl⟩:=r;rfl
 |flt _=>obtain⟨t,rfl⟩:=r;rfl
 |ref _=>cases r;rfl
 |ty _=>cases r;rfl
theorem RelV.inj(r:RelV x u)(q:RelV y u):x=y:=RI (r.abs.symm.trans q.abs)
theorem bo.inj:∀{xs ys:List V} {us:List Value},bo xs us->bo ys us->xs=ys
 |_,_,_,.nil,.nil=>rfl
 |_,_,_,.cons r t,.cons r' t'=>by rw[r.inj r',bo.inj t t']
section
variable {X:Cx}{pins:List (Addr×R9)}{σ:St}{H:Hp}{s:Qc}{a:Addr}{xs ys:List V}
theorem aX.of{K:P4}(h:H a=some (.lst xs)):aX K H a xs:=.inl (.inl h)
theorem bF.of{K:P4}(h:H a=some (.tup xs)):bF K H a xs:=.inl (.inl h)
theorem Inv.list(I:Inv X pins σ H s)(h:aX X.K H a xs):∃its:List Value,bo xs its/\PlainL s.heap a its.toArray/\xs.length≤sizeLine:=by
 rcases h with h | ⟨o,its,n,hk,hc,hd,hs,hz,r⟩
 ·obtain⟨z,its,n,r,e⟩:=h.ok I.hok;exact⟨its,r,⟨_,n,e,Z,Z,Z⟩,z⟩
 ·refine⟨its.toList,r,⟨o,n,I.kIn a o hk,hc,hd,by simpa using hs⟩,?_⟩;have e:=r.length;simp only[Si] at e;omega
theorem Inv.tuple(I:Inv X pins σ H s)(h:bF X.K H a xs):∃its:List Value,bo xs its/\Y6 s.heap a its.toArray/\xs.length≤sizeLine:=by
 rcases h with h | ⟨o,its,n,hk,hc,hs,hz,r⟩
 ·obtain⟨z,its,r,p⟩:=h.ok I.hok;exact⟨its,r,p,z⟩
 ·refine⟨its.toList,r,⟨o,I.kIn a o hk,hc,n,by simpa using hs⟩,?_⟩;have e:=r.length;simp only[Si] at e;omega
theorem Inv.list_inj(I:Inv X pins σ H s)(h:aX X.K H a xs)(h':aX X.K H a ys):xs=ys:=by
 obtain⟨its,r,⟨o,n,e,_,_,d⟩,_⟩:=I.list h;obtain⟨its',r',⟨o',n',e',_,_,d'⟩,_⟩:=I.list h';rw[e] at e';cases e';rw[d] at d';injection d' with d1 _;have:its=its':=by simpa using congrArg Array.toList d1
 subst this;exact r.inj r'
theorem Inv.tuple_inj(I:Inv X pins σ H s)(h:bF X.K H a xs)(h':bF X.K H a ys):xs=ys:=by
 obtain⟨its,r,⟨o,e,_,n,d⟩,_⟩:=I.tuple h;obtain⟨its',r',⟨o',e',_,n',d'⟩,_⟩:=I.tuple h';rw[e] at e';cases e';rw[d] at d';injection d' with d1 _;have:its=its':=by simpa using congrArg Array.toList d1
 subst this;exact r.inj r'
end
abbrev Cx.wish(X:Cx)(E:Value->Qc->Prop):Cx:={ X with xe:=E}
abbrev Cx.nox(X:Cx):Cx:=X.wish λ_ _=>False
theorem Cx.Ok.wish{X:Cx}(ok:X.Ok)(E:Value->Qc->Prop):(X.wish E).Ok:=
 ⟨ok.mod,ok.kind,ok.glob,ok.blt,ok.above,ok.inj,ok.has,ok.cab,ok.hd,ok.frames,ok.stk,ok.exf,ok.bs,ok.bsz,ok.noex,ok.exfs,ok.funs,ok.frf⟩
theorem Cx.Ok.unwish{X:Cx}(ok:(X.wish E).Ok):X.Ok:=
 ⟨ok.mod,ok.kind,ok.glob,ok.blt,ok.above,ok.inj,ok.has,ok.cab,ok.hd,ok.frames,ok.stk,ok.exf,ok.bs,ok.bsz,ok.noex,ok.exfs,ok.funs,ok.frf⟩
section
variable {X:Cx}{pins:List (Addr×R9)}{σ:St}{H:Hp}{s:Qc}{E:Value->Qc->Prop}
theorem Inv.wish(I:Inv X pins σ H s)(E:Value->Qc->Prop):Inv (X.wish E) pins σ H s:=⟨I.ok.wish E,I.os,I.bare,I.base,I.loc,I.cell,I.free,I.freeC,I.pin,I.hok,I.len⟩
theorem Inv.unwish(I:Inv (X.wish E) pins σ H s):Inv X pins σ H s:=⟨I.ok.unwish,I.os,I.bare,I.base,I.loc,I.cell,I.free,I.freeC,I.pin,I.hok,I.len⟩
theorem SP.unwish(h:SP (X.wish E) pins D f s'):SP X pins D f s':=by
 cases f with
 |next=>obtain⟨σ',H',I,q⟩:=h;exact⟨σ',H',I.unwish,q⟩
 |brk=>obtain⟨σ',H',I,q⟩:=h;exact⟨σ',H',I.unwish,q⟩
 |cont=>obtain⟨σ',H',I,q⟩:=h;exact⟨σ',H',I.unwish,q⟩
 |ret u=>obtain⟨v,σ',H',I,r,q⟩:=h;exact⟨v,σ',H',I.unwish,r,q⟩
theorem tM.nox{st:List Stmt}(h:tM X.nox st t):tM X st t:=λpins s σ H D I hw=>
 Sd (h pins s σ H D (I.wish _) hw) (λ_ _ q=>q.unwish) λ_ _ z=>Sj z
end
section
variable {X:Cx}{st:Stmt}{c6:List Stmt}{t u:TS}{e:Re}{te:TE}{pos:Uf}
def Fx:TS:=λD σ H=>D.nx σ H
def Gp(t u:TS):TS:=λD σ H=>t { D with nx:=u D} σ H
theorem DU:tM X [] Fx:=λ_ _ σ H _ I h=>Vw ⟨σ,H,I,h⟩
theorem AZ(h1:PS X st t)(h2:tM X c6 u):tM X (st::c6) (Gp t u):=by
 intro pins s σ H D I h;refine YK (bZ (h1 pins s σ H { D with nx:=u D} I h) λf s1 q=>?_)
 cases f with
 |next=>
  obtain⟨σ',H',I',q⟩:=q;exact h2 pins s1 σ' H' D I' q
 |ret v=>exact q
 |brk=>exact q
 |cont=>exact q
theorem DT(h1:PS X st t):tM X [st] t:=by
 intro pins s σ H D I h;refine YK (bZ (h1 pins s σ H D I h) λf s1 q=>?_)
 cases f with
 |next=>exact Vw q
 |ret v=>exact q
 |brk=>exact q
 |cont=>exact q
def MB:TS:=λD σ H=>D.bk σ H
def FD:TS:=λD σ H=>D.ct σ H
theorem rS:PS X (.Continue pos) FD:=λ_ _ σ H _ I h=>wpAny_Continue ⟨σ,H,I,h⟩
theorem Inv.quiet{pins:List (Addr×R9)}{σ:St}{H:Hp}{s:Qc}(I:Inv X pins σ H s):interactive X.env=false:=by simp[interactive,I.ok.kind]
def Fz(te:TE):TS:=λD σ H=>te σ H λ_ H1=>D.nx σ H1
theorem DX(he:PE X e te)(hs:S9 e none pos.line X.env=Sq false:=by rfl):PS X (.Expr e pos) (Fz te):=by
 intro pins s σ H D I h;exact wpAny_Expr_any (bZ (he pins s σ H _ I h) λv s1 ⟨x,H1,I1,r1,q1⟩=>⟨σ,H1,I1,q1⟩) I.quiet hs
def Kf(te:TE):TS:=λD σ H=>te σ H D.rt
theorem Hq(he:PE X e te):PS X (.Return (some e) pos) (Kf te):=by
 intro pins s σ H D I h;exact wpAny_Return_some (bZ (he pins s σ H _ I h) λv s1 ⟨x,H1,I1,r1,q1⟩=>⟨x,σ,H1,I1,r1,q1⟩)
def Ny:TS:=λD _ H=>D.rt .non H
def Kj(c:TT)(t u:TS):TS:=λD σ H=>c σ H λb H1=>if b=true then t D σ H1 else u D σ H1
theorem KO(hc:PT X c tc)(ha:tM X a t)(hb:tM X b u):PS X (.If c a b pos) (Kj tc t u):=by
 intro pins s σ H D I h;refine wpAny_If (bZ (hc pins s σ H _ I h) λd s1 ⟨H1,I1,q1⟩=>?_)
 cases d with
 |true=>exact ha pins s1 σ H1 D I1 q1
 |false=>exact hb pins s1 σ H1 D I1 q1
def yW:TS:=λ_ _ _=>False
theorem A2:PS X st yW:=λ_ _ _ _ _ _ h=>h.elim
end
abbrev TG:=V->St->Hp->(St->Hp->Prop)->Prop
abbrev yy:=List V->St->Hp->(St->Hp->Prop)->Prop
def PG(X:Cx)(target:Re)(t:TG):Prop:=
 ∀(pins:List (Addr×R9)) (s:Qc) (σ:St) (H:Hp) (v:V) (u:Value) (Q:St->Hp->Prop),Inv X pins σ H s->RelV v u->t v σ H Q→
  Qw (QK X.prog X.w) X.A (Vj target X.env u) (λ_ s'=>∃σ' H',Inv X pins σ' H' s'/\Q σ' H') X.xe s
def J3(X:Cx)(ts:List Re)(t:yy):Prop:=
 ∀(pins:List (Addr×R9)) (s:Qc) (σ:St) (H:Hp) (vs:List V) (us:List Value) (Q:St->Hp->Prop),Inv X pins σ H s->bo vs us->t vs σ H Q→
  Qw (QK X.prog X.w) X.A (XU ((SH ts X.env).map (·.2)) us) (λ_ s'=>∃σ' H',Inv X pins σ' H' s'/\Q σ' H') X.xe s
abbrev CS:=V->V->V->Hp->(Hp->Prop)->Prop
def JH(X:Cx)(t:CS):Prop:=
 ∀(pins:List (Addr×R9)) (s:Qc) (σ:St) (H:Hp) (o i v:V) (ov iv u:Value) (Q:Hp->Prop),Inv X pins σ H s->RelV o ov->RelV i iv->RelV v u->t o i v H Q→
  Qw (QK X.prog X.w) X.A (ZZ ov iv u) (λ_ s'=>∃H',Inv X pins σ H' s'/\Q H') X.xe s
abbrev J1:=V->V->Hp->VK->Prop
def Ng(X:Cx)(op:Zv)(t:J1):Prop:=
 ∀(pins:List (Addr×R9)) (s:Qc) (σ:St) (H:Hp) (x y:V) (v u:Value) (Q:VK),Inv X pins σ H s->RelV x v->RelV y u->t x y H Q→
  Qw (QK X.prog X.w) X.A (ZV op v u) (EP X pins σ Q) X.xe s
section
variable {X:Cx}{pos:Uf}
def jL(i:Nat):TG:=λv σ H Q=>Q (σ.set i (some v)) H
theorem Ee{i:Nat}{x:QX}(hN:X.N.Nodup)(hi:X.N[i]?=some x)(hx:yA X.env.scope x)(hf:X.fn x=true∨X.env.scope.names.lookup x=some .local:=by first|exact .inl Z|exact .inr Z|assumption):PG X (.Name x pos) (jL i):=by
 intro pins s σ H v u Q I r h;exact V9 (fM I hN hi hx r (λs' I'=>⟨_,H,I',h⟩) hf)
def Lq:yy:=λvs σ H Q=>vs=[]/\Q σ H
def F6(t:TG)(u:yy):yy:=λvs σ H Q=>∃v r,vs=v::r/\t v σ H λσ' H'=>u r σ' H' Q
theorem Ec:J3 X [] Lq:=by
 intro pins s σ H vs us Q I r h;obtain⟨e,h⟩:=h;subst e
 cases r
 exact Yk ⟨σ,H,I,h⟩
theorem A9{e:Re}{es:List Re}{t:TG}{u:yy}(h1:PG X e t)(h2:J3 X es u)
  (hs:(SH (e::es) X.env).map (·.2)=Vj e X.env::(SH es X.env).map (·.2):=by rfl):J3 X (e::es) (F6 t u):=by
 intro pins s σ H vs us Q I r h;obtain⟨v,vr,e1,h⟩:=h;subst e1
 cases r with
 |cons r rr=>
  rw[hs];refine VQ (bZ (h1 pins s σ H _ _ _ I r h) λ_ s1 ⟨σ1,H1,I1,q1⟩=>?_);exact h2 pins s1 σ1 H1 _ _ Q I1 rr q1
def EU(K:P4)(n:Nat)(t:yy):TG:=λv σ H Q=>∃a xs,v=.ref a/\bF K H a xs/\xs.length=n/\t xs σ H Q
theorem Ba{es:List Re}{k:Nat}{t:yy}{n:Nat}(hc:X.calm=true)(h:J3 X es t)
  (hn:(SH es X.env).length=n:=by rfl) (hst:(SH es X.env).findIdx? (·.1)=none:=by rfl):PG X (.Tuple es k pos) (EU X.K n t):=by
 intro pins s σ H v u Q I r hw;obtain⟨a,xs,e1,hq,hl,hw⟩:=hw;subst e1
 cases r
 obtain⟨its,rv,ht,hz⟩:=I.tuple hq;refine assign_Tuple_tuple (I.ok.hd hc) ht (by simp[hn,←hl,rv.length]) hst λh' hx=>?_
 have I1:Inv X pins σ H { s with heap:=h'}:=I.kept (t':=s.toks) λb o e=>hx b o (Rf (Qt e)) e
 exact h pins _ σ H xs _ Q I1 (by simpa using rv) hw
def Lp(to ti:TE)(t:CS):TG:=λv σ H Q=>to σ H λo H1=>ti σ H1 λi H2=>t o i v H2 λH3=>Q σ H3
theorem Hx{o i:Re}{to ti:TE}{t:CS}(ho:PE X o to)(hi:PE X i ti)(hs:JH X t)
  (ha:∀v,Vj (.Subscript o i pos) X.env v=(do
   let ov ←holding [v] (eval o X.env);let iv ←holding [v,ov] (eval i X.env)
   WN pos
   holding [v,ov,iv] (ZZ ov iv v)
   release [v,ov,iv] []):=by intro _;rfl):PG X (.Subscript o i pos) (Lp to ti t):=by
 intro pins s σ H v u Q I r h;rw[ha];refine P9 (wpAny_holding (bZ (ho pins s σ H _ I h) λov s1 ⟨x,H1,I1,r1,q1⟩=>?_));refine P9 (wpAny_holding (bZ (hi pins s1 σ H1 _ I1 q1) λiv s2 ⟨y,H2,I2,r2,q2⟩=>?_));refine P9 (Ug (P9 (wpAny_holding (bZ (hs pins s2 σ H2 x y v ov iv u _ I2 r1 r2 r q2) λ_ s3 ⟨H3,I3,q3⟩=>?_))));exact wpAny_release ⟨σ,H3,I3,q3⟩
def pM(te:TE)(g:TG):TS:=λD σ H=>te σ H λx H1=>g x σ H1 D.nx
theorem Hv{tg e:Re}{te:TE}{g:TG}(he:PE X e te)(hg:PG X tg g)(hs:Wi [tg] e pos.line X.env=Sq false:=by rfl)(hw:Wj [tg] e X.env=Sq none:=by rfl)
  (h1:(SH [tg] X.env).map (·.2)=[Vj tg X.env]:=by rfl):PS X (.Assign [tg] e pos) (pM te g):=by
 intro pins s σ H D I h;refine wpAny_Assign_stores (bZ (he pins s σ H _ I h) λv s1 ⟨x,H1,I1,r1,q1⟩=>?_) hs hw;rw[h1];exact bZ (hg pins s1 σ H1 x v _ I1 r1 q1) λ_ s2 q=>q
theorem Ho{i:Nat}{x:QX}{e:Re}{te:TE}{pos':Uf}(hN:X.N.Nodup)(hi:X.N[i]?=some x)(hx:yA X.env.scope x)(he:PE X e te)(hs:S9 e (some (.Name x pos')) pos.line X.env=Sq false:=by rfl)(hf:X.fn x=true∨X.env.scope.names.lookup x=some .local:=by first|exact .inl Z|exact .inr Z|assumption) :
  PS X (.Assign [.Name x pos'] e pos) (pM te (jL i)):=by
 intro pins s σ H D I h;refine wpAny_Assign_Name (bZ (he pins s σ H _ I h) λv s1 ⟨y,H1,I1,r1,q1⟩=>?_) hs;exact fM I1 hN hi hx r1 (λs2 I2=>⟨_,H1,I2,q1⟩) hf
def Kg(i j:Nat)(ta:TA):TS:=λD σ H=>ta σ H λvs H1=>∃v w,vs=[v,w]/\D.nx ((σ.set i (some v)).set j (some w)) H1
theorem Hr{i j:Nat}{x y:QX}{a b:Re}{ta:TA}{px py pt:Uf}{kt k2 pt2}(hc:X.calm=true)(hN:X.N.Nodup)(hi:X.N[i]?=some x)(hj:X.N[j]?=some y)(hij:i≠j)
  (hx:X.env.scope.names.lookup x=some .local) (hy:X.env.scope.names.lookup y=some .local) (ha:PA X [a,b] ta)
  (hw:Wj [.Tuple [.Name x px,.Name y py] kt pt] (.Tuple [a,b] k2 pt2) X.env=Sq (some [x,y]))
  (hs:Wi [.Tuple [.Name x px,.Name y py] kt pt] (.Tuple [a,b] k2 pt2) pos.line X.env=Sq false:=by rfl) :
  PS X (.Assign [.Tuple [.Name x px,.Name y py] kt pt] (.Tuple [a,b] k2 pt2) pos) (Kg i j ta):=by
 intro pins s σ H D I h;rw[exec_Assign_arm];refine P9 (Ug ?_);rw[hs];refine P9 (wpAny_pure ?_);rw[aaa (by decide)];refine P9 (Tuple_ (bZ (ha _ pins s σ H _ I h) λus s1 ⟨vs,H1,I1,r1,q1⟩=>?_));obtain⟨v,w,e1,q1⟩:=q1;subst e1;obtain⟨u1,u2,rfl,rv,rw'⟩:∃u1 u2,us=[u1,u2]/\RelV v u1/\RelV w u2:=by
  cases r1 with
  |cons p q=>
   cases q with
   |cons p' q'=>
    cases q'
    exact⟨_,_,Z,p,p'⟩
 refine RK ?_ kP;have I2:Inv X pins σ H1 { s1 with heap:=s1.heap.push { cls:=.type "tuple",data:=.seq [u1,u2].toArray} }:=I1.kept (t':=s1.toks) λb o e=>Qb _ e
 rw[hw];refine P9 (wpAny_pure ?_);show Qw (QK X.prog X.w) X.A (do rule "assign.swapped-stores";let items ←unpackItems (.ref s1.heap.objs.size) 2 none;XU [λv=>Zw X.env y v,λv=>Zw X.env x v] items.reverse;Sq YL) _ _ _;refine P9 (Zx (P9 (unpackItems_tuple (items:=#[u1,u2]) (I.ok.hd hc) (XE s1.heap _) λh' hx'=>?_)));have I3:=I2.kept (h':=h') (t':=s1.toks) λb o e=>hx' b o (Rf (Qt e)) e
 show Qw _ _ (XU [λv=>Zw X.env y v,λv=>Zw X.env x v] [u2,u1] >>= λ_=>Sq YL) _ _ _;refine P9 (VQ (wpAny_bindName (fM I3 hN hj (.inl hy) rw' (λs2 I4=>?_) (.inr hy))));refine VQ (wpAny_bindName (fM I4 hN hi (.inl hx) rv (λs3 I5=>Yk (wpAny_pure ?_)) (.inr hx)));rw[List.set_comm _ _ (T5 hij)] at I5;exact⟨_,H1,I5,q1⟩
def Km(i:Nat)(te:TE)(ti:J1):TS:=λD σ H=>∃x,σ[i]?=some (some x)/\te σ H λy H1=>ti x y H1 λz H2=>D.nx (σ.set i (some z)) H2
theorem Hu{i:Nat}{x:QX}{e:Re}{te:TE}{op:Zv}{ti:J1}{pos':Uf}(hN:X.N.Nodup)(hi:X.N[i]?=some x)(hx:yA X.env.scope x)(he:PE X e te)(ho:Ng X op ti)(hf:X.fn x=true∨X.env.scope.names.lookup x=some .local:=by first|exact .inl Z|exact .inr Z|assumption) :
  PS X (.AugAssign (.Name x pos') op e pos) (Km i te ti):=by
 intro pins s σ H D I h;obtain⟨v,e1,h⟩:=h;obtain⟨m,hn,hl⟩:=I.loc;have vis:LC X.env.scope x:=by rcases hx with k|k;exact .inl k;exact .inr (.inl k)
 obtain⟨u,r,l⟩:=hl i x v hi e1 vis;refine wpAny_AugAssign_Name ?_;have go:Qw (QK X.prog X.w) X.A (eval e X.env) (λw s₂=>Qw (QK X.prog X.w) X.A (ZV op u w) (λr s₃=>Qw (QK X.prog X.w) X.A (ZU X.env x r) (λ_=>SP X pins D .next) X.xe s₃) X.xe s₂) X.xe s:=by
  refine bZ (he pins s σ H _ I h) λw s1 ⟨y,H1,I1,r1,q1⟩=>?_
  refine bZ (ho pins s1 σ H1 v y u w _ I1 r r1 q1) λz s2 ⟨zv,H2,I2,r2,q2⟩=>?_
  exact fM I2 hN hi hx r2 (λs3 I3=>⟨_,H2,I3,q2⟩) hf
 rcases l with⟨hk,hm⟩ | ⟨hk,c,hc,hcell⟩
 ·exact Xp I.ok.kind hk hn hm go
 ·rcases hk with hk|hk
  ·exact XN I.ok.kind hk hc hcell go
  ·rcases hx with k|k
   ·have:X.env.scope.names.lookup x=some .free:=hk;rw[k] at this;cases this
   ·have:X.env.scope.names.lookup x=some .free:=hk;rw[k] at this;cases this
def NF(to ti te:TE)(tget:V->V->Hp->VK->Prop)(tip:J1)(tset:CS):TS:=λD σ H=>to σ H λo H1=>ti σ H1 λi H2=>tget o i H2 λx H3=>te σ H3 λy H4=>tip x y H4 λz H5=>tset o i z H5 λH6=>D.nx σ H6
def Pm(X:Cx)(t:V->V->Hp->VK->Prop):Prop:=
 ∀(pins:List (Addr×R9)) (s:Qc) (σ:St) (H:Hp) (o i:V) (ov iv:Value) (Q:VK),Inv X pins σ H s->RelV o ov->RelV i iv->t o i H Q→
  Qw (QK X.prog X.w) X.A (UZ ov iv) (EP X pins σ Q) X.xe s
def O5(f:Int->Int->Int):J1:=λx y H Q=>∃i j,x=.int i/\y=.int j/\Q (.int (f i j)) H
theorem Jf:Ng X .Sub (O5 λi j=>i-j):=by
 intro pins s σ H x y v u Q I r1 r2 h;obtain⟨i,j,e1,e2,q⟩:=h;subst e1;subst e2;obtain⟨t,rfl⟩:=r1;obtain⟨t',rfl⟩:=r2;exact isub_int ⟨.int _,H,I.tok _,⟨_,Z⟩,q⟩
end
section
variable {X:Cx}{pos:Uf}
def yU(c:TT)(tb:TS):TS:=λD σ H=>∃W:Nat->St->Hp->Prop,(∃m,W m σ H)/\∀m σ H,W m σ H→
 c σ H λb H1=>if b=true then ∃N:St->Hp->Prop,(∀σ' H',N σ' H'->∃m',m'<m/\W m' σ' H')/\tb { D with nx:=N,ct:=N,bk:=D.nx} σ H1 else D.nx σ H1
theorem A0(hp:Ra (QK X.prog X.w) X.A X.env X.xe)(hc:PT X c tc)(hb:tM X body tb):PS X (.While c body [] pos) (yU tc tb):=by
 intro pins s σ H D I h;obtain⟨W,⟨m0,w0⟩,turn⟩:=h;refine wpAny_While (codeAny_whileLoop (λn s'=>∃σ' H',Inv X pins σ' H' s'/\W n σ' H') ?_ m0 ⟨σ,H,I,w0⟩);rintro n s1 ⟨σ1,H1,I1,w1⟩;refine Tv hp (bZ (hc pins s1 σ1 H1 _ I1 (turn n σ1 H1 w1)) λb s2 ⟨H2,I2,q2⟩=>?_)
 cases b with
 |true=>
  obtain⟨N,hN,q2⟩:=q2;rw[Z9 Z];refine Tv hp (bZ (hb pins s2 σ1 H2 _ I2 q2) λf s3 q3=>?_)
  cases f with
  |next=>
   obtain⟨σ3,H3,I3,n3⟩:=q3;obtain⟨m',hm,w3⟩:=hN σ3 H3 n3;exact⟨m',hm,σ3,H3,I3,w3⟩
  |cont=>
   obtain⟨σ3,H3,I3,n3⟩:=q3;obtain⟨m',hm,w3⟩:=hN σ3 H3 n3;exact⟨m',hm,σ3,H3,I3,w3⟩
  |brk=>exact q3
  |ret v=>exact q3
 |false=>
  rw[aaa QB];exact Vw ⟨σ1,H2,I2,q2⟩
end
structure It where
 go:Nat->Hp->Prop
 yld:Nat->Hp->V->Hp->Prop
 stop:Nat->Hp->Prop
def gX(X:Cx)(pins:List (Addr×R9))(H:Hp)(b:Addr):Prop:=
 H b=none/\b≠X.env.locals/\b∉X.fs/\(b∈X.ex∨X.s₀.heap.get? b=none)/\(∀x c,X.env.cells.lookup x=some c->c≠b)/\∀p∈X.pn++pins,p.1≠b
theorem Inv.fpOk{X:Cx}{pins:List (Addr×R9)}{σ:St}{H H':Hp}{s:Qc}{b:Addr}(I:Inv X pins σ H s)(hb:s.heap.objs.size≤b)(hn:H' b=none):gX X pins H' b:=by
 refine⟨hn,Tw (QJ I.lt hb),I.nofs hb,.inr (Sc (QU I.sz hb)),λx c e z=>?_,λp hp z=>?_⟩
 ·obtain⟨v,q⟩:=I.cell x c e;exact aad (QJ q.lt (by rw[z];exact hb)) (Ri _)
 ·exact aad (QJ (Qt (I.pin p hp).1) (by rw[z];exact hb)) (Ri _)
structure tj(P:Q4)(w:Rm)(K:P4)(tg:Re)(J:It)(fp:List Addr)(it:Addr)(tn:Nat->Qo->Prop):Prop where
 mem:it∈fp
 obj:∀i h,tn i h->∀b∈fp,∃o,h.get? b=some o/\∀v,o.data≠.cell v
 keep:∀i h h',tn i h->(∀b∈fp,∀o,h.get? b=some o->h'.get? b=some o)->tn i h'
 item:∀(X:Cx),X.prog=P->X.w=w->X.K=K->X.calm=true->∀(i:Nat) (pins:List (Addr×R9)) (s:Qc) (σ:St) (H:Hp) (E:Value->Qc->Prop),Inv X pins σ H s->(∀b∈fp,gX X pins H b)->tn i s.heap->J.go i H→
  Qw (QK P w) X.A (Z0 (.ref it)) (λr s1=>∃u,r=some u∧
   Qw (QK P w) X.A (Vx tg (.ref it) u) (λ_ s2=>∃x H',Inv X pins σ H' s2/\RelV x u/\J.yld i H x H'/\tn (i+1) s2.heap/\∀b∈fp,H' b=none) E s1) E s
 done:∀(X:Cx),X.prog=P->X.w=w->X.K=K->X.calm=true->∀(i:Nat) (pins:List (Addr×R9)) (s:Qc) (σ:St) (H:Hp) (E:Value->Qc->Prop),Inv X pins σ H s->(∀b∈fp,gX X pins H b)->tn i s.heap->J.stop i H→
  Qw (QK P w) X.A (Z0 (.ref it)) (λr s1=>r=none/\Inv X pins σ H s1) E s
 self:∀(A:Rg) (i:Nat) (s:Qc) (Q:Value->Qc->Prop) (E:Value->Qc->Prop),tn i s.heap->Q (.ref it) s->Qw (QK P w) A (Z1 (.ref it)) Q E s
abbrev TI:=St->Hp->(It->Hp->Prop)->Prop
def Oo(X:Cx)(pins:List (Addr×R9))(σ:St)(tg:Re)(R:It->Hp->Prop)(itv:Value)(s2:Qc):Prop:=
 ∃(it:Addr) (fp:List Addr) (tn:Nat->Qo->Prop) (J:It) (H':Hp),itv=.ref it/\Inv X pins σ H' s2/\tj X.prog X.w X.K tg J fp it tn/\tn 0 s2.heap/\(∀b∈fp,gX X pins H' b)/\R J H'
def PI(X:Cx)(tg iter:Re)(wi:TI):Prop:=
 ∀(pins:List (Addr×R9)) (s:Qc) (σ:St) (H:Hp) (R:It->Hp->Prop),Inv X pins σ H s->wi σ H R→
  Qw (QK X.prog X.w) X.A (eval iter X.env) (λv s1=>Qw (QK X.prog X.w) X.A (Z1 v) (Oo X pins σ tg R) X.xe s1) X.xe s
theorem vY(ho:s.heap.get? it=some o)(hc:o.cls=.type n)(hd:o.data=.fields vs)
  (hn:["enumerate","zip","dict_itemiterator","dict_reverseitemiterator","odict_iterator","itertools.zip_longest","itertools.pairwise"].contains n=false) (hQ:Q () s):Qw M A (Vx tg (.ref it) u) Q E s:=by
 unfold Vx
 cases tg<;>first
  |exact wpAny_pure hQ
  | (cases u<;>first
    |exact wpAny_pure hQ
    | (refine P9 (wpAny_load ho ?_)
       rw[hc,hd];show Qw M A (if(["enumerate","zip","dict_itemiterator","dict_reverseitemiterator","odict_iterator","itertools.zip_longest","itertools.pairwise"].contains n&&vs[0]?==some (rawInt _))=true then _ else _) Q E s;rw[aaa (by intro h;rw[hn,S2] at h;cases h)];exact wpAny_pure hQ))
def yC(K:P4)(a:Addr):It:=
 ⟨λi H=>∃xs x,aX K H a xs/\xs[i]?=some x,λi H x H'=>H'=H/\∀xs,aX K H a xs->xs[i]?=some x,λi H=>∃xs,aX K H a xs/\xs.length≤i⟩
def C8(K:P4)(a:Addr):It:=
 ⟨λi H=>∃xs x,bF K H a xs/\xs[i]?=some x,λi H x H'=>H'=H/\∀xs,bF K H a xs->xs[i]?=some x,λi H=>∃xs,bF K H a xs/\xs.length≤i⟩
def Gh(lo:Int)(n:Nat):It:=⟨λi _=>i<n,λi H x H'=>H'=H/\x=.int (lo+i),λi _=>n≤i⟩
theorem oB{P:Q4}{w:Rm}{K:P4}{tg:Re}(a it:Addr):tj P w K tg (yC K a) [it] it (λi h=>h.IsListIter it a i) where
 mem:=by simp
 obj:=λi h st b hb=>by
  have e:b=it:=by simpa using hb
  subst e;obtain⟨o,e,c,d⟩:=st;exact⟨o,e,λv z=>by rw[d] at z;cases z⟩
 keep:=λi h h' st k=>st.at λo e=>k it (by simp) o e
 item:=by
  intro X hP hw hK hc i pins s σ H E I hf st hg;subst hP hw hK;obtain⟨xs,x,hq,hx⟩:=hg;obtain⟨its,rv,p,hz⟩:=I.list hq;obtain⟨u,hu,ru⟩:=rv.get hx;obtain⟨f0,f1,f2,f3,f4,f5⟩:=hf it (by simp);refine wpAny_pyNext_list_item st p.isList (x:=u) (by simpa using hu) λh' st' sb=>?_
  have I1:Inv X pins σ H { s with heap:=h'}:=I.turned (t':=s.toks) (λb o hb e=>(sb.2 b hb).trans e) f0 f1 f3 f4 f5;obtain⟨o,e,c,d⟩:=id st';exact⟨u,Z,vY (s:={ s with heap:=h'}) e c d (by decide) ⟨x,H,I1,ru,⟨rfl,λys hy=>by rw[I.list_inj hy hq];exact hx⟩,st',λb hb=>(hf b hb).1⟩⟩
 done:=by
  intro X hP hw hK hc i pins s σ H E I hf st hg;subst hP hw hK;obtain⟨xs,hq,hx⟩:=hg;obtain⟨its,rv,p,hz⟩:=I.list hq;obtain⟨f0,f1,f2,f3,f4,f5⟩:=hf it (by simp);have hl:=rv.length;exact wpAny_pyNext_list_end (I.ok.hd hc) st p.isList (by simp;omega) λh' eb=>⟨Z,I.turned (t':=s.toks) (λb o hb e=>eb b o hb e) f0 f1 f3 f4 f5⟩
 self:=λ_ _ _ _ _ st h=>wpAny_pyIter_listiter st h
theorem me{P:Q4}{w:Rm}{K:P4}{tg:Re}(a it:Addr):tj P w K tg (C8 K a) [it] it (λi h=>h.IsTupleIter it a i) where
 mem:=by simp
 obj:=λi h st b hb=>by
  have e:b=it:=by simpa using hb
  subst e;obtain⟨o,e,c,d⟩:=st;exact⟨o,e,λv z=>by rw[d] at z;cases z⟩
 keep:=λi h h' st k=>st.at λo e=>k it (by simp) o e
 item:=by
  intro X hP hw hK hc i pins s σ H E I hf st hg;subst hP hw hK;obtain⟨xs,x,hq,hx⟩:=hg;obtain⟨its,rv,p,hz⟩:=I.tuple hq;obtain⟨u,hu,ru⟩:=rv.get hx;obtain⟨f0,f1,f2,f3,f4,f5⟩:=hf it (by simp);refine wpAny_pyNext_tuple_item st (show s.heap.IsTuple a its.toArray from p) (x:=u) (by simpa using hu) λh' st' sb=>?_
  have I1:Inv X pins σ H { s with heap:=h'}:=I.turned (t':=s.toks) (λb o hb e=>(sb.2 b hb).trans e) f0 f1 f3 f4 f5;obtain⟨o,e,c,d⟩:=id st';exact⟨u,Z,vY (s:={ s with heap:=h'}) e c d (by decide) ⟨x,H,I1,ru,⟨rfl,λys hy=>by rw[I.tuple_inj hy hq];exact hx⟩,st',λb hb=>(hf b hb).1⟩⟩
 done:=by
  intro X hP hw hK hc i pins s σ H E I hf st hg;subst hP hw hK;obtain⟨xs,hq,hx⟩:=hg;obtain⟨its,rv,p,hz⟩:=I.tuple hq;obtain⟨f0,f1,f2,f3,f4,f5⟩:=hf it (by simp);have hl:=rv.length;exact wpAny_pyNext_tuple_end (I.ok.hd hc) st (show s.heap.IsTuple a its.toArray from p) (by simp;omega) λh' eb=>⟨Z,I.turned (t':=s.toks) (λb o hb e=>eb b o hb e) f0 f1 f3 f4 f5⟩
 self:=λ_ _ _ _ _ st h=>wpAny_pyIter_tupleiter st h
theorem tQ{P:Q4}{w:Rm}{K:P4}{tg:Re}(it:Addr)(lo:Int)(n:Nat):tj P w K tg (Gh lo n) [it] it (λi h=>Xq h it (lo+(i:Nat)*1) ((n:Int)-(i:Nat)) 1) where
 mem:=by simp
 obj:=λi h st b hb=>by
  have e:b=it:=by simpa using hb
  subst e;exact⟨_,st,λv z=>by
   have z':Wa _=XF v:=z
   cases z'⟩
 keep:=λi h h' st k=>k it (by simp) _ st
 item:=by
  intro X hP hw hK hc i pins s σ H E I hf st hg;subst hP hw hK;obtain⟨f0,f1,f2,f3,f4,f5⟩:=hf it (by simp);have W:=Walks.range (prog:=X.prog) (w:=X.w) (I.ok.hd hc) it lo 1 n;refine W.item i s _ _ hg st λv h' tk hv st' kk=>?_
  obtain⟨t,rfl⟩:=hv;have I1:Inv X pins σ H { s with heap:=h',toks:=tk}:=I.turned (λb o hb e=>kk b o (by simpa using hb) e) f0 f1 f3 f4 f5;refine⟨_,rfl,vY (s:={ s with heap:=h',toks:=tk}) (n := "range_iterator") st' rfl rfl (by decide) ⟨.int (lo+i),H,I1,⟨t,?_⟩,⟨rfl,rfl⟩,st',λb hb=>(hf b hb).1⟩⟩;rw[Y7]
 done:=by
  intro X hP hw hK hc i pins s σ H E I hf st hg;subst hP hw hK;obtain⟨f0,f1,f2,f3,f4,f5⟩:=hf it (by simp);exact WO (I.ok.hd hc) st (by have:n≤i:=hg;omega) λh' eb=>⟨Z,I.turned (t':=s.toks) (λb o hb e=>eb b o hb e) f0 f1 f3 f4 f5⟩
 self:=λ_ _ _ _ _ st h=>WP st h
section
variable {X:Cx}{tg:Re}
def B5(K:P4)(tl:TE):TI:=λσ H R=>tl σ H λx H1=>∃a,x=.ref a/\(∃xs,aX K H1 a xs)/\R (yC K a) H1
def ER(K:P4)(tl:TE):TI:=λσ H R=>tl σ H λx H1=>∃a,x=.ref a/\(∃xs,bF K H1 a xs)/\R (C8 K a) H1
theorem Ea(hl:PE X l tl):PI X tg l (B5 X.K tl):=by
 intro pins s σ H R I h;refine bZ (hl pins s σ H _ I h) λv s1 ⟨x,H1,I1,r1,q1⟩=>?_
 obtain⟨a,e,⟨xs,hq⟩,q⟩:=q1;subst e
 cases r1
 obtain⟨its,rv,p,hz⟩:=I1.list hq;refine U0 p.isList ?_;refine⟨s1.heap.objs.size,[s1.heap.objs.size],_,_,H1,Z,I1.kept (t':=s1.toks) λb o e=>Qb _ e,oB a _,⟨_,QD _ Z,Z,Z⟩,λb hb=>?_,q⟩;have e:b=s1.heap.objs.size:=by simpa using hb
 subst e;exact I1.fpOk (P7 _) (I1.hok.fresh (P7 _))
theorem A6(hl:PE X l tl):PI X tg l (ER X.K tl):=by
 intro pins s σ H R I h;refine bZ (hl pins s σ H _ I h) λv s1 ⟨x,H1,I1,r1,q1⟩=>?_
 obtain⟨a,e,⟨xs,hq⟩,q⟩:=q1;subst e
 cases r1
 obtain⟨its,rv,p,hz⟩:=I1.tuple hq;refine T7 (show s1.heap.IsTuple a its.toArray from p) ?_;refine⟨s1.heap.objs.size,[s1.heap.objs.size],_,_,H1,Z,I1.kept (t':=s1.toks) λb o e=>Qb _ e,me a _,⟨_,QD _ Z,Z,Z⟩,λb hb=>?_,q⟩;have e:b=s1.heap.objs.size:=by simpa using hb
 subst e;exact I1.fpOk (P7 _) (I1.hok.fresh (P7 _))
theorem AJ{pins:List (Addr×R9)}{σ:St}{H:Hp}{s:Qc}{R:It->Hp->Prop}{E:Value->Qc->Prop}{lo hi:Int}{t u v:Z5}{tk:Nat}(I:Inv X pins σ H s)(h1:-(2^62)≤lo)(h2:lo<2^62)(h3:-(2^62)≤hi)(h4:hi<2^62)
  (q:R (Gh lo (hi-lo).toNat) H):Qw (QK X.prog X.w) X.A (Z1 (.ref s.heap.objs.size)) (Oo X pins σ tg R) E { s with heap:=s.heap.push { cls:=.type "range",data:=.fields #[.int lo t,.int hi u,.int 1 v]},toks:=tk}:=by
 refine X6 (XG.new ..) (ZW h1 h2 h3 h4) ?_;have I1:Inv X pins σ H { s with heap:=s.heap.push { cls:=.type "range",data:=.fields #[.int lo t,.int hi u,.int 1 v]},toks:=tk}:=I.kept λb o e=>Qb _ e
 refine⟨(s.heap.push { cls:=.type "range",data:=.fields #[.int lo t,.int hi u,.int 1 v]}).objs.size,[(s.heap.push { cls:=.type "range",data:=.fields #[.int lo t,.int hi u,.int 1 v]}).objs.size],_,_,H,Z,
  I1.kept (t':=tk) λb o e=>Qb _ e,tQ _ lo (hi-lo).toNat,?_,λb hb=>?_,q⟩
 ·have e1:lo+((0:Nat):Int)*1=lo:=by simp
  have e2:(((hi-lo).toNat:Nat):Int)-((0:Nat):Int)=RP lo hi 1:=by rw[rangeSize_one];split<;>omega
  show Xq _ _ (lo+((0:Nat):Int)*1) ((((hi-lo).toNat:Nat):Int)-((0:Nat):Int)) 1;rw[e1,e2];exact QD _ Z
 ·have e:b=(s.heap.push { cls:=.type "range",data:=.fields #[.int lo t,.int hi u,.int 1 v]}).objs.size:=by simpa using hb
  subst e;exact I1.fpOk (P7 _) (I1.hok.fresh (P7 _))
def F4(ta:TA):TI:=λσ H R=>ta σ H λvs H1=>∃j:Int,vs=[.int j]/\-(2^62)≤j/\j<2^62/\R (Gh 0 j.toNat) H1
def N9(ta:TA):TI:=λσ H R=>ta σ H λvs H1=>∃i j:Int,vs=[.int i,.int j]/\(-(2^62)≤i/\i<2^62/\-(2^62)≤j/\j<2^62)/\R (Gh i (j-i).toNat) H1
theorem xH{a:Re}{ta:TA}{p pos:Uf}(hg:Gl X "range")(hm:X.mg "range"=none)(ha:PA X [a] ta)(hs:Qs [a] X.env=[(false,eval a X.env)]:=by rfl):PI X tg (.Call (.Name "range" p) [a] [] pos) (F4 ta):=by
 intro pins s σ H R I h;refine Call_ (hU I hg hm Zy (R4 (bZ (ha pos pins s σ H _ I h) λus s1 ⟨vs,H1,I1,r1,q1⟩=>?_) hs Z));obtain⟨j,e,q1,q2,q⟩:=q1;subst e
 cases r1 with
 |cons r rr=>
  cases rr
  obtain⟨t,rfl⟩:=r;exact call_range_1 (AJ I1 (by omega) (by omega) q1 q2 (by simpa using q))
def Kk(wi:TI)(g:TG)(tb:TS):TS:=λD σ H=>wi σ H λJ H1=>∃W:Nat->Nat->St->Hp->Prop,(∃m,W 0 m σ H1)/\∀i m σ H,W i m σ H→
 (J.stop i H/\D.nx σ H)∨(J.go i H/\∃N:St->Hp->Prop,(∀σ' H',N σ' H'->∃m',m'<m/\W (i+1) m' σ' H')/\∀x H',J.yld i H x H'->g x σ H' λσ2 H2=>tb { D with nx:=N,ct:=N,bk:=D.nx} σ2 H2)
def kr(fp:List Addr)(h:Qo):List (Addr×R9):=fp.filterMap λb=>(h.get? b).map λo=>(b,o)
theorem eU(hb:b∈fp)(e:h.get? b=some o):(b,o)∈kr fp h:=X7.mpr ⟨b,hb,by rw[e];rfl⟩
theorem xJ(hp:p∈kr fp h):p.1∈fp/\h.get? p.1=some p.2:=by
 obtain⟨b,hb,e⟩:=X7.mp hp
 cases q:h.get? b with
 |none=>rw[q] at e;cases e
 |some o=>
  rw[q] at e;have e':(b,o)=p:=RI e;subst e';exact⟨hb,q⟩
theorem Inv.pinned{pins:List (Addr×R9)}{σ:St}{H:Hp}{s:Qc}{fp:List Addr}(I:Inv X pins σ H s)(hf:∀b∈fp,gX X pins H b)(ho:∀b∈fp,∃o,s.heap.get? b=some o/\∀v,o.data≠.cell v):Inv X (pins++kr fp s.heap) σ H s:=
 I.pins_of λp hp=>(QP.mp hp).elim (λz=>I.pin p (Qv _ z)) λz=>by
  obtain⟨hb,e⟩:=xJ z;obtain⟨f0,f1,f2,_⟩:=hf p.1 hb;obtain⟨o,e',d⟩:=ho p.1 hb;rw[e] at e';cases e';exact⟨e,f0,f1,f2,d⟩
theorem Inv.unpinned{pins pl:List (Addr×R9)}{σ:St}{H:Hp}{s:Qc}(I:Inv X (pins++pl) σ H s):Inv X pins σ H s:=I.pins_of λp hp=>I.pin p (Qv _ (RD _ hp))
theorem Hs{iter:Re}{body:List Stmt}{wi:TI}{g:TG}{tb:TS}{pos:Uf}(hp:Ra (QK X.prog X.w) X.A X.env X.xe)(hc:X.calm=true)(hi:PI X tg iter wi)(hg:PG X tg g)(hb:tM X body tb)
  (hs:∀x,Sm iter X.env x=Sq x:=by intro _;rfl):PS X (.For tg iter body [] pos) (Kk wi g tb):=by
 intro pins s σ H D I h;refine wpAny_For (bZ (hi pins s σ H _ I h) λv s1 h1=>bZ h1 λitv s2 h2=>?_) hs;obtain⟨it,fp,tn,J,H2,e,I2,T,st2,f2,W,⟨m0,w0⟩,turn⟩:=h2;subst e;have stat:∀{H':Hp},(∀b∈fp,H' b=none)->∀b∈fp,gX X pins H' b:=λhn b hb=>⟨hn b hb,(f2 b hb).2⟩
 refine codeAny_forLoop_any (λn s'=>∃i σ' H',Inv X pins σ' H' s'/\tn i s'.heap/\(∀b∈fp,H' b=none)/\W i n σ' H') ?_ m0 ⟨0,σ,H2,I2,st2,λb hb=>(f2 b hb).1,w0⟩;rintro n s3 ⟨i,σ3,H3,I3,st3,fr3,w3⟩;rcases turn i n σ3 H3 w3 with⟨stop,qn⟩ | ⟨go,N,hN,step⟩
 ·refine Tv hp (bZ (T.done X Z Z Z hc i pins s3 σ3 H3 X.xe I3 (stat fr3) st3 stop) λr s4 ⟨hr,I4⟩=>?_);subst hr;exact Vw ⟨σ3,H3,I4,qn⟩
 ·refine Tv hp (bZ (T.item X Z Z Z hc i pins s3 σ3 H3 X.xe I3 (stat fr3) st3 go) λr s4 ⟨u,hr,h4⟩=>?_);subst hr;refine Tv hp (bZ h4 λ_ s5 ⟨x,H5,I5,r5,y5,st5,fr5⟩=>?_);have I5':=I5.pinned (stat fr5) (T.obj _ _ st5);refine Tv hp (bZ (hg _ s5 σ3 H5 x u _ I5' r5 (step x H5 y5)) λ_ s6 ⟨σ6,H6,I6,q6⟩=>?_);refine Tv hp (bZ (hb _ s6 σ6 H6 _ I6 q6) λf s7 q7=>?_);have again:∀{σ7:St} {H7:Hp},Inv X (pins++kr fp s5.heap) σ7 H7 s7->N σ7 H7->∃m,m<n/\∃i σ' H',Inv X pins σ' H' s7/\tn i s7.heap/\(∀b∈fp,H' b=none)/\W i m σ' H':=λ{σ7 H7} I7 n7=>by
   obtain⟨m',hm,w7⟩:=hN σ7 H7 n7;refine⟨m',hm,i+1,σ7,H7,I7.unpinned,T.keep _ _ _ st5 λb hb o e=>(I7.pin (b,o) (Qv _ (Qv _ (eU hb e)))).1,λb hb=>?_,w7⟩;obtain⟨o,e,d⟩:=T.obj _ _ st5 b hb;exact(I7.pin (b,o) (Qv _ (Qv _ (eU hb e)))).2.1
  cases f with
  |next=>obtain⟨σ7,H7,I7,n7⟩:=q7;exact again I7 n7
  |cont=>obtain⟨σ7,H7,I7,n7⟩:=q7;exact again I7 n7
  |brk=>obtain⟨σ7,H7,I7,q7⟩:=q7;exact⟨σ7,H7,I7.unpinned,q7⟩
  |ret v=>obtain⟨x7,σ7,H7,I7,r7,q7⟩:=q7;exact⟨x7,σ7,H7,I7.unpinned,r7,q7⟩
end
theorem fR{K:P4}{a:Addr}{xs:List V}{g:TG}{tb:TS}{D:jc}{σ:St}{H:Hp}(Pv:Nat->St->Hp->Prop)(h0:Pv 0 σ H)(hl:∀i σ H,i≤xs.length->Pv i σ H->aX K H a xs)
  (hs:∀i x σ H,xs[i]?=some x->Pv i σ H->g x σ H λσ2 H2=>tb { D with nx:=Pv (i+1),ct:=Pv (i+1),bk:=D.nx} σ2 H2) (hd:∀σ H,Pv xs.length σ H->D.nx σ H) :
  ∃W:Nat->Nat->St->Hp->Prop,(∃m,W 0 m σ H)/\∀i m σ H,W i m σ H→
   ((yC K a).stop i H/\D.nx σ H)∨((yC K a).go i H/\∃N:St->Hp->Prop,(∀σ' H',N σ' H'->∃m',m'<m/\W (i+1) m' σ' H')/\∀x H',(yC K a).yld i H x H'->g x σ H' λσ2 H2=>tb { D with nx:=N,ct:=N,bk:=D.nx} σ2 H2):=by
 refine⟨λi m σ H=>m=xs.length-i/\i≤xs.length/\Pv i σ H,⟨xs.length,by simp,Qu _,h0⟩,?_⟩;rintro i m σ H ⟨rfl,hi,p⟩;have q:=hl i σ H hi p;by_cases hlt:i<xs.length
 ·refine .inr ⟨⟨xs,xs[i],q,by simp[hlt]⟩,Pv (i+1),λσ' H' p'=>⟨xs.length-(i+1),by omega,Z,hlt,p'⟩,λx H' y=>?_⟩;obtain⟨e,y⟩:=y;subst e;exact hs i x σ _ (y xs q) p
 ·have e:i=xs.length:=by omega
  subst e;exact .inl ⟨⟨xs,q,P7 _⟩,hd σ H p⟩
theorem fX{K:P4}{a:Addr}{xs:List V}{g:TG}{tb:TS}{D:jc}{σ:St}{H:Hp}(Pv:Nat->St->Hp->Prop)(h0:Pv 0 σ H)(hl:∀i σ H,i≤xs.length->Pv i σ H->bF K H a xs)
  (hs:∀i x σ H,xs[i]?=some x->Pv i σ H->g x σ H λσ2 H2=>tb { D with nx:=Pv (i+1),ct:=Pv (i+1),bk:=D.nx} σ2 H2) (hd:∀σ H,Pv xs.length σ H->D.nx σ H) :
  ∃W:Nat->Nat->St->Hp->Prop,(∃m,W 0 m σ H)/\∀i m σ H,W i m σ H→
   ((C8 K a).stop i H/\D.nx σ H)∨((C8 K a).go i H/\∃N:St->Hp->Prop,(∀σ' H',N σ' H'->∃m',m'<m/\W (i+1) m' σ' H')/\∀x H',(C8 K a).yld i H x H'->g x σ H' λσ2 H2=>tb { D with nx:=N,ct:=N,bk:=D.nx} σ2 H2):=by
 refine⟨λi m σ H=>m=xs.length-i/\i≤xs.length/\Pv i σ H,⟨xs.length,by simp,Qu _,h0⟩,?_⟩;rintro i m σ H ⟨rfl,hi,p⟩;have q:=hl i σ H hi p;by_cases hlt:i<xs.length
 ·refine .inr ⟨⟨xs,xs[i],q,by simp[hlt]⟩,Pv (i+1),λσ' H' p'=>⟨xs.length-(i+1),by omega,Z,hlt,p'⟩,λx H' y=>?_⟩;obtain⟨e,y⟩:=y;subst e;exact hs i x σ _ (y xs q) p
 ·have e:i=xs.length:=by omega
  subst e;exact .inl ⟨⟨xs,q,P7 _⟩,hd σ H p⟩
theorem cJ{lo:Int}{n:Nat}{g:TG}{tb:TS}{D:jc}{σ:St}{H:Hp}(Pv:Nat->St->Hp->Prop)(h0:Pv 0 σ H)
  (hs:∀i σ H,i<n->Pv i σ H->g (.int (lo+i)) σ H λσ2 H2=>tb { D with nx:=Pv (i+1),ct:=Pv (i+1),bk:=D.nx} σ2 H2) (hd:∀σ H,Pv n σ H->D.nx σ H) :
  ∃W:Nat->Nat->St->Hp->Prop,(∃m,W 0 m σ H)/\∀i m σ H,W i m σ H→
   ((Gh lo n).stop i H/\D.nx σ H)∨((Gh lo n).go i H/\∃N:St->Hp->Prop,(∀σ' H',N σ' H'->∃m',m'<m/\W (i+1) m' σ' H')/\∀x H',(Gh lo n).yld i H x H'->g x σ H' λσ2 H2=>tb { D with nx:=N,ct:=N,bk:=D.nx} σ2 H2):=by
 refine⟨λi m σ H=>m=n-i/\i≤n/\Pv i σ H,⟨n,by simp,Qu _,h0⟩,?_⟩;rintro i m σ H ⟨rfl,hi,p⟩;by_cases hlt:i<n
 ·refine .inr ⟨hlt,Pv (i+1),λσ' H' p'=>⟨n-(i+1),by omega,Z,hlt,p'⟩,λx H' y=>?_⟩;obtain⟨e,y⟩:=y;subst e y;exact hs i σ _ hlt p
 ·have e:i=n:=by omega
  subst e;exact .inl ⟨P7 _,hd σ H p⟩
abbrev R2:=V->V->Hp->VK->Prop
def gH(X:Cx)(f:Value->Value->Sem Value)(r:R2):Prop:=
 ∀(pins:List (Addr×R9)) (s:Qc) (σ:St) (H:Hp) (x y:V) (v u:Value) (Q:VK),Inv X pins σ H s->RelV x v->RelV y u->r x y H Q→
  Qw (QK X.prog X.w) X.A (f v u) (EP X pins σ Q) X.xe s
def Me(X:Cx)(f:Value->Sem Value)(r:V->Hp->VK->Prop):Prop:=
 ∀(pins:List (Addr×R9)) (s:Qc) (σ:St) (H:Hp) (x:V) (v:Value) (Q:VK),Inv X pins σ H s->RelV x v->r x H Q→
  Qw (QK X.prog X.w) X.A (f v) (EP X pins σ Q) X.xe s
def dN(X:Cx)(f:Value)(r:List V->Hp->VK->Prop):Prop:=
 ∀(pins:List (Addr×R9)) (s:Qc) (σ:St) (H:Hp) (xs:List V) (us:List Value) (Q:VK),Inv X pins σ H s->bo xs us->r xs H Q→
  Qw (QK X.prog X.w) X.A (call f us) (EP X pins σ Q) X.xe s
def Pe(X:Cx)(r:V->Hp->(Bool->Hp->Prop)->Prop):Prop:=
 ∀(pins:List (Addr×R9)) (s:Qc) (σ:St) (H:Hp) (x:V) (v:Value) (Q:Bool->Hp->Prop),Inv X pins σ H s->RelV x v->r x H Q→
  Qw (QK X.prog X.w) X.A (truthy v) (TP X pins σ Q) X.xe s
def Dg(r:R2)(ta tb:TE):TE:=λσ H Q=>ta σ H λx H1=>tb σ H1 λy H2=>r x y H2 Q
def Nu(r:V->Hp->VK->Prop)(ta:TE):TE:=λσ H Q=>ta σ H λx H1=>r x H1 Q
def rI(C:Int->Int->Prop)(g:Int->Int->V):R2:=λx y H Q=>∃i j,x=.int i/\y=.int j/\C i j/\Q (g i j) H
def FT(g:Int->Int->V):R2:=λx y H Q=>∃i j,x=.int i/\y=.int j/\Q (g i j) H
def rU(g:Int->V):V->Hp->VK->Prop:=λx H Q=>∃i,x=.int i/\Q (g i) H
section
variable {X:Cx}{a b c:Re}{ta tb tc:TE}{pos:Uf}
theorem JA(ha:PE X a ta)(hb:PE X b tb){pins:List (Addr×R9)}{s:Qc}{σ:St}{H:Hp}{R:V->V->Hp->Prop}(I:Inv X pins σ H s)
  (h:ta σ H λx H1=>tb σ H1 λy H2=>R x y H2) {Q:Value->Qc->Prop} {f:Value->Value->Sem Value}
  (hf:∀v u s2 x y H2,Inv X pins σ H2 s2->RelV x v->RelV y u->R x y H2->Qw (QK X.prog X.w) X.A (f v u) Q X.xe s2) :
  Qw (QK X.prog X.w) X.A (eval a X.env) (λv s₁=>Qw (QK X.prog X.w) X.A (eval b X.env) (λu s₂=>Qw (QK X.prog X.w) X.A (f v u) Q X.xe s₂) X.xe s₁) X.xe s:=by
 refine bZ (ha pins s σ H _ I h) λv s1 ⟨x,H1,I1,r1,q1⟩=>?_
 refine bZ (hb pins s1 σ H1 _ I1 q1) λu s2 ⟨y,H2,I2,r2,q2⟩=>?_
 exact hf v u s2 x y H2 I2 r1 r2 q2
theorem KS(ho:gH X (TN op) r)(ha:PE X a ta)(hb:PE X b tb):PE X (.BinOp a op b pos) (Dg r ta tb):=by
 intro pins s σ H Q I h;exact wpAny_BinOp (JA ha hb I h λv u s2 x y H2 I2 rx ry q=>ho pins s2 σ H2 x y v u Q I2 rx ry q)
theorem KR(ho:Me X (unaryOp op) r)(ha:PE X a ta):PE X (.UnaryOp op a pos) (Nu r ta):=by
 intro pins s σ H Q I h;exact UnaryOp_ (bZ (ha pins s σ H _ I h) λv s1 ⟨x,H1,I1,r1,q1⟩=>ho pins s1 σ H1 x v Q I1 r1 q1)
theorem JX{f:Value->Value->Sem Value}{C:Int->Int->Prop}{g:Int->Int->Int}
  (rule:∀(i j:Int) (t u:Z5) (s:Qc) (Q:Value->Qc->Prop) (E:Value->Qc->Prop),C i j->Q (.int (g i j) s.toks) { s with toks:=s.toks+1}->Qw (QK X.prog X.w) X.A (f (.int i t) (.int j u)) Q E s) :
  gH X f (rI C λi j=>.int (g i j)):=by
 intro pins s σ H x y v u Q I rx ry h;obtain⟨i,j,rfl,rfl,hc,q⟩:=h;obtain⟨t,rfl⟩:=rx;obtain⟨t',rfl⟩:=ry;exact rule i j t t' s _ _ hc ⟨.int (g i j),H,I.tok _,⟨_,Z⟩,q⟩
theorem K1{f:Value->Value->Sem Value}{g:Int->Int->Int}
  (rule:∀(i j:Int) (t u:Z5) (s:Qc) (Q:Value->Qc->Prop) (E:Value->Qc->Prop),Q (.int (g i j) s.toks) { s with toks:=s.toks+1}->Qw (QK X.prog X.w) X.A (f (.int i t) (.int j u)) Q E s) :
  gH X f (FT λi j=>.int (g i j)):=by
 intro pins s σ H x y v u Q I rx ry h;obtain⟨i,j,rfl,rfl,q⟩:=h;obtain⟨t,rfl⟩:=rx;obtain⟨t',rfl⟩:=ry;exact rule i j t t' s _ _ ⟨.int (g i j),H,I.tok _,⟨_,Z⟩,q⟩
theorem Et{f:Value->Value->Sem Value}{g:Int->Int->Bool}
  (rule:∀(i j:Int) (t u:Z5) (s:Qc) (Q:Value->Qc->Prop) (E:Value->Qc->Prop),Q (.bool (g i j)) s->Qw (QK X.prog X.w) X.A (f (.int i t) (.int j u)) Q E s) :
  gH X f (FT λi j=>.bl (g i j)):=by
 intro pins s σ H x y v u Q I rx ry h;obtain⟨i,j,rfl,rfl,q⟩:=h;obtain⟨t,rfl⟩:=rx;obtain⟨t',rfl⟩:=ry;exact rule i j t t' s _ _ ⟨.bl (g i j),H,I,Z,q⟩
def Nq(i j:Int):Prop:=0<j/\j<1073741824
def Ot(i j:Int):Prop:=j≠0/\j.natAbs<1073741824
def Np(i j:Int):Prop:=0≤j/\j≤1000000/\i.natAbs<2^64
def JN(i j:Int):Prop:=(-(2^64)<i/\i<2^64)∨(-(2^64)<j/\j<2^64)
theorem JN.ok(h:JN i j):IntMulOk i j:=by
 rcases h with⟨h1,h2⟩ | ⟨h1,h2⟩
 ·exact .of_left (intBits_le_64 h1 h2)
 ·exact .of_right (intBits_le_64 h1 h2)
theorem dP:gH X (TN .Add) (FT λi j=>.int (i+j)):=K1 λ_ _ _ _ _ _ _ q=>add_int q
theorem g7:gH X (TN .Sub) (FT λi j=>.int (i-j)):=K1 λ_ _ _ _ _ _ _ q=>sub_int q
theorem g8:gH X (TN .Mult) (rI JN λi j=>.int (i*j)):=JX λ_ _ _ _ _ _ _ hc q=>mul_int q hc.ok
theorem vJ:gH X (TN .FloorDiv) (rI Nq λi j=>.int (i/j)):=JX λi j _ _ _ _ _ hc q=>by
 have h1:(0:Int)<j:=hc.1;have h2:j<1073741824:=hc.2;exact floordiv_int (by omega) (by rw[VR i (by omega)];exact q) (.inl (WQ (by omega)))
theorem g9:gH X (TN .Mod) (rI (λ_ j=>0<j) λi j=>.int (i%j)):=JX λi j _ _ _ _ _ hc q=>by
 have h1:(0:Int)<j:=hc;exact mod_int' (by omega) (by rw[Int.fmod_eq_emod_of_nonneg i (by omega)];exact q)
theorem Ic:gH X (TN .Pow) (rI Np λi j=>.int (i^j.toNat)):=JX λ_ _ _ _ _ _ _ hc q=>pow_int_small hc.1 hc.2.1 hc.2.2 q
theorem Oz{f:Value->Sem Value}{g:Int->Int}
  (rule:∀(i:Int) (t:Z5) (s:Qc) (Q:Value->Qc->Prop) (E:Value->Qc->Prop),Q (.int (g i) s.toks) { s with toks:=s.toks+1}->Qw (QK X.prog X.w) X.A (f (.int i t)) Q E s) :
  Me X f (rU λi=>.int (g i)):=by
 intro pins s σ H x v Q I rx h;obtain⟨i,rfl,q⟩:=h;obtain⟨t,rfl⟩:=rx;exact rule i t s _ _ ⟨.int (g i),H,I.tok _,⟨_,Z⟩,q⟩
theorem l7:Me X (unaryOp .USub) (rU λi=>.int (-i)):=Oz λ_ _ _ _ _ q=>neg_int q
end
def Kv:V->V->Bool
 | .non,.non=>true | .non,.int _=>true | .int _,.non=>true | .non,.bl _=>true | .bl _,.non=>true | .non,.str _=>true | .str _,.non=>true
 | .int _,.int _=>true | .bl _,.bl _=>true | .str _,.str _=>true | .byt _,.byt _=>true
 | .int _,.str _=>true | .str _,.int _=>true | .bl _,.str _=>true | .str _,.bl _=>true
 |_,_=>false
def O2:R2:=λx y H Q=>Kv x y=true/\Q (.bl (decide (x=y))) H
def OV:R2:=λx y H Q=>Kv x y=true/\Q (.bl (!decide (x=y))) H
theorem v8:decide (V.int i=V.int j)=(i==j):=by
 rw[Sw];simp
theorem Cz:decide (V.bl i=V.bl j)=(i==j):=by
 rw[Sw];simp
theorem v6:decide (V.str i=V.str j)=(i==j):=by
 rw[Sw];simp
theorem v9:decide (V.byt i=V.byt j)=(i.toList==j.toList):=by
 rw[Sw]
 cases i
 cases j
 simp
section
variable {X:Cx}{a b c:Re}{ta tb tc:TE}{pos:Uf}
theorem bR{pins:List (Addr×R9)}{σ:St}{H:Hp}{s:Qc}{Q:VK}{k k':Bool}(I:Inv X pins σ H s)(q:Q (.bl k) H)(e:k=k'):EP X pins σ Q (.bool k') s:=by
 subst e;exact⟨.bl k,H,I,Z,q⟩
theorem gS:gH X (RL .Eq) O2:=by
 intro pins s σ H x y v u Q I rx ry h;obtain⟨hs,q⟩:=h
 cases x with
 |non=>
  cases rx
  cases y with
  |non=>cases ry;exact PySem.EqNone.eq_none_none (bR I q (by simp))
  |bl j=>cases ry;exact PySem.EqNone.eq_none_bool (bR I q (by simp))
  |int j=>obtain⟨t',rfl⟩:=ry;exact PySem.EqNone.eq_none_int (bR I q (by simp))
  |str j=>obtain⟨t',rfl⟩:=ry;exact PySem.EqNone.eq_none_str (bR I q (by simp))
  |_=>exact aad (show false=true from hs) QB
 |bl i=>
  cases rx
  cases y with
  |non=>cases ry;exact PySem.EqNone.eq_bool_none (bR I q (by simp))
  |bl j=>cases ry;exact eq_bool (bR I q Cz)
  |str j=>obtain⟨t',rfl⟩:=ry;exact PySem.EqMixed.eq_bool_str (bR I q (by simp))
  |_=>exact aad (show false=true from hs) QB
 |int i=>
  obtain⟨t,rfl⟩:=rx
  cases y with
  |non=>cases ry;exact PySem.EqNone.eq_int_none (bR I q (by simp))
  |int j=>obtain⟨t',rfl⟩:=ry;exact eq_int (bR I q v8)
  |str j=>obtain⟨t',rfl⟩:=ry;exact PySem.EqMixed.eq_int_str (bR I q (by simp))
  |_=>exact aad (show false=true from hs) QB
 |str i=>
  obtain⟨t,rfl⟩:=rx
  cases y with
  |non=>cases ry;exact PySem.EqNone.eq_str_none (bR I q (by simp))
  |bl j=>cases ry;exact PySem.EqMixed.eq_str_bool (bR I q (by simp))
  |int j=>obtain⟨t',rfl⟩:=ry;exact PySem.EqMixed.eq_str_int (bR I q (by simp))
  |str j=>obtain⟨t',rfl⟩:=ry;exact eq_str (bR I q v6)
  |_=>exact aad (show false=true from hs) QB
 |byt i=>
  obtain⟨t,rfl⟩:=rx
  cases y with
  |byt j=>obtain⟨t',rfl⟩:=ry;exact PySem.W.eq_bytes (bR I q v9)
  |_=>exact aad (show false=true from hs) QB
 |_=>cases y<;>exact aad (show false=true from hs) QB
theorem vI:gH X (RL .NotEq) OV:=by
 intro pins s σ H x y v u Q I rx ry h;obtain⟨hs,q⟩:=h
 cases x with
 |non=>
  cases rx
  cases y with
  |non=>cases ry;exact PySem.EqNone.ne_none_none (bR I q (by simp))
  |bl j=>cases ry;exact PySem.EqNone.ne_none_bool (bR I q (by simp))
  |int j=>obtain⟨t',rfl⟩:=ry;exact PySem.EqNone.ne_none_int (bR I q (by simp))
  |str j=>obtain⟨t',rfl⟩:=ry;exact PySem.EqNone.ne_none_str (bR I q (by simp))
  |_=>exact aad (show false=true from hs) QB
 |bl i=>
  cases rx
  cases y with
  |non=>cases ry;exact PySem.EqNone.ne_bool_none (bR I q (by simp))
  |bl j=>cases ry;exact ne_bool (bR I q (congrArg not Cz))
  |str j=>obtain⟨t',rfl⟩:=ry;exact PySem.EqMixed.ne_bool_str (bR I q (by simp))
  |_=>exact aad (show false=true from hs) QB
 |int i=>
  obtain⟨t,rfl⟩:=rx
  cases y with
  |non=>cases ry;exact PySem.EqNone.ne_int_none (bR I q (by simp))
  |int j=>obtain⟨t',rfl⟩:=ry;exact ne_int (bR I q (congrArg not v8))
  |str j=>obtain⟨t',rfl⟩:=ry;exact PySem.EqMixed.ne_int_str (bR I q (by simp))
  |_=>exact aad (show false=true from hs) QB
 |str i=>
  obtain⟨t,rfl⟩:=rx
  cases y with
  |non=>cases ry;exact PySem.EqNone.ne_str_none (bR I q (by simp))
  |bl j=>cases ry;exact PySem.EqMixed.ne_str_bool (bR I q (by simp))
  |int j=>obtain⟨t',rfl⟩:=ry;exact PySem.EqMixed.ne_str_int (bR I q (by simp))
  |str j=>obtain⟨t',rfl⟩:=ry;exact ne_str (bR I q (congrArg not v6))
  |_=>exact aad (show false=true from hs) QB
 |byt i=>
  obtain⟨t,rfl⟩:=rx
  cases y with
  |byt j=>obtain⟨t',rfl⟩:=ry;exact PySem.W.ne_bytes (bR I q (congrArg not v9))
  |_=>exact aad (show false=true from hs) QB
 |_=>cases y<;>exact aad (show false=true from hs) QB
theorem mZ:gH X (RL .Lt) (FT λi j=>.bl (decide (i<j))):=Et λ_ _ _ _ _ _ _ q=>lt_int q
theorem jB:gH X (RL .LtE) (FT λi j=>.bl (decide (i≤j))):=Et λ_ _ _ _ _ _ _ q=>le_int q
theorem hG:gH X (RL .Gt) (FT λi j=>.bl (decide (j<i))):=Et λ_ _ _ _ _ _ _ q=>gt_int q
theorem Br:gH X (RL .GtE) (FT λi j=>.bl (decide (j≤i))):=Et λ_ _ _ _ _ _ _ q=>ge_int q
theorem Er:gH X (RL .IsNot) (λx y H Q=>y=.non/\Q (.bl (!decide (x=.non))) H):=by
 intro pins s σ H x y v u Q I rx ry h;obtain⟨rfl,q⟩:=h
 cases ry
 refine isnot_none_gen (bR I q ?_)
 cases x<;>first
  | (cases rx;rfl)
  | (obtain⟨t,rfl⟩:=rx;rfl)
def N5:HO->Bool
 | .lst _=>true
 | .ins _ _ _=>true
 |_=>false
theorem bb(b:Re){op:Zu}(h:op≠.In:=by decide)(h2:op≠.NotIn:=by decide):UE op b=false:=by
 have e1:(op==Zu.In)=false:=by cases op<;>first|rfl|exact aad Z h
 have e2:(op==Zu.NotIn)=false:=by cases op<;>first|rfl|exact aad Z h2
 cases b<;>simp[UE,e1,e2]
theorem Ek(ho:gH X (RL op) r)(ha:PE X a ta)(hb:PE X b tb)(hm:UE op b=false):PE X (.Compare a [op] [b] pos) (Dg r ta tb):=by
 intro pins s σ H Q I h;exact wpAny_Compare1 (JA ha hb I h λv u s2 x y H2 I2 rx ry q=>ho pins s2 σ H2 x y v u Q I2 rx ry q) hm
def va(t:TE):TT:=λσ H Q=>t σ H λx H'=>∃k,x=.bl k/\Q k H'
theorem DS(ho:gH X (RL op) r)(ha:PE X a ta)(hb:PE X b tb)(hm:UE op b=false):PT X (.Compare a [op] [b] pos) (va (Dg r ta tb)):=by
 intro pins s σ H Q I h;refine wpAny_isTrue_Compare1 (bZ (ha pins s σ H _ I h) λv s1 ⟨x,H1,I1,r1,q1⟩=>bZ (hb pins s1 σ H1 _ I1 q1) λu s2 ⟨y,H2,I2,r2,q2⟩=>
  bZ (ho pins s2 σ H2 x y v u _ I2 r1 r2 q2) λc s3 ⟨z,H3,I3,r3,k,e,q3⟩=>?_) hm
 subst e
 cases r3
 exact Sl ⟨H3,I3,q3⟩
def pK(r r':R2)(ta tb tc:TE):TE:=λσ H Q=>ta σ H λx H1=>tb σ H1 λy H2=>r x y H2 λz H3=>∃k,z=.bl k∧
 (if k=true then tc σ H3 λw' H4=>r' y w' H4 Q else Q (.bl false) H3)
theorem Bj{op op':Zu}{r r':R2}(ho:gH X (RL op) r)(ho':gH X (RL op') r')(ha:PE X a ta)(hb:PE X b tb)(hc:PE X c tc)
  (hm:YM [op,op'] [b,c]=false:=by with_unfolding_all rfl):PE X (.Compare a [op,op'] [b,c] pos) (pK r r' ta tb tc):=by
 intro pins s σ H Q I h;refine Compare_chain (bZ (ha pins s σ H _ I h) λv s1 ⟨x,H1,I1,r1,q1⟩=>chain_link (bZ (hb pins s1 σ H1 _ I1 q1) λu s2 ⟨y,H2,I2,r2,q2⟩=>
  bZ (ho pins s2 σ H2 x y v u _ I2 r1 r2 q2) λd s3 ⟨z,H3,I3,r3,k,e,q3⟩=>?_)) hm
 subst e
 cases r3
 refine Sl ?_
 cases k with
 |false=>exact ite_ff ⟨.bl false,H3,I3,Z,q3⟩
 |true=>exact ite_tt (chain_last (bZ (hc pins s3 σ H3 _ I3 q3) λw' s4 ⟨z',H4,I4,r4,q4⟩=>ho' pins s4 σ H4 y z' u w' Q I4 r2 r4 q4))
theorem AY{op op':Zu}{r r':R2}(ho:gH X (RL op) r)(ho':gH X (RL op') r')(ha:PE X a ta)(hb:PE X b tb)(hc:PE X c tc)
  (hm:YM [op,op'] [b,c]=false:=by with_unfolding_all rfl):PT X (.Compare a [op,op'] [b,c] pos) (va (pK r r' ta tb tc)):=by
 intro pins s σ H Q I h;refine isTrue_chain (bZ (ha pins s σ H _ I h) λv s1 ⟨x,H1,I1,r1,q1⟩=>test_link (bZ (hb pins s1 σ H1 _ I1 q1) λu s2 ⟨y,H2,I2,r2,q2⟩=>
  bZ (ho pins s2 σ H2 x y v u _ I2 r1 r2 q2) λd s3 ⟨z,H3,I3,r3,k,e,q3⟩=>?_)) hm
 subst e
 cases r3
 refine Sl ?_
 cases k with
 |false=>
  obtain⟨k',e',q'⟩:=q3
  cases e'
  exact ite_ff ⟨H3,I3,q'⟩
 |true=>
  refine ite_tt (test_last (bZ (hc pins s3 σ H3 _ I3 q3) λw' s4 ⟨z',H4,I4,r4,q4⟩=>bZ (ho' pins s4 σ H4 y z' u w' _ I4 r2 r4 q4) λd' s5 ⟨z2,H5,I5,r5,k2,e2,q5⟩=>?_));subst e2
  cases r5
  exact Sl ⟨H5,I5,q5⟩
def Pd(K:P4)(x:V)(H:Hp)(k:Bool):Prop:=
 match x with
 | .non=>k=false
 | .bl b=>k=b
 | .int i=>k=(i != 0)
 | .str y=>y.length≤sizeLine/\k=((y.length:Int) != 0)
 | .byt y=>y.size≤sizeLine/\k=((y.size:Int) != 0)
 | .ref p=>(∃xs,aX K H p xs/\k=!xs.isEmpty)∨(∃xs,bF K H p xs/\k=!xs.isEmpty)∨∃kvs,H p=some (.dK kvs)/\k=!kvs.isEmpty
 |_=>False
theorem qu:(sizeLine:Nat)<2^63:=by rw[Sz];decide
def LK(b:Re):Prop:=∀o i,Wb b false o i=Z2 [o,i] (UZ o i)
theorem gh(r:bo [x] us):∃u,us=[u]/\RelV x u:=by
 cases r with
 |cons r1 r2=>cases r2;exact⟨_,Z,r1⟩
theorem yM(r:bo [x,y] us):∃u w',us=[u,w']/\RelV x u/\RelV y w':=by
 cases r with
 |cons r1 r2=>
  cases r2 with
  |cons r3 r4=>cases r4;exact⟨_,_,Z,r1,r3⟩
theorem nQ:dN X (.builtin "abs") (λxs H Q=>∃i,xs=[.int i]/\Q (.int (if i<0 then -i else i)) H):=by
 intro pins s σ H xs us Q I r h;obtain⟨i,rfl,q⟩:=h;obtain⟨u,rfl,t,rfl⟩:=gh r;exact call_abs_int λu tk=>⟨.int (if i<0 then -i else i),H,I.tok _,⟨_,Z⟩,q⟩
def Pn(K:P4)(x:V)(H:Hp)(n:Nat):Prop:=
 match x with
 | .str y=>y.length≤sizeLine/\n=y.length
 | .byt y=>y.size≤sizeLine/\n=y.size
 | .ref p=>(∃xs,aX K H p xs/\n=xs.length)∨∃xs,bF K H p xs/\n=xs.length
 |_=>False
end
structure uY(h:Qo)(x dx C:Addr)(mA:QX->Option Value):Prop where
 obj:h.get? x=some (Ta C dx)
 ns:h.Ns1 dx mA
 ne:dx≠x
theorem xO{h:Qo}(n:h.Ns1 dx mA):∃od,h.get? dx=some od/\∀name,VS name od=some (mA name):=by
 obtain⟨o,es,ep,ho,hd,hk,_,hm⟩:=n;refine⟨o,ho,λname=>?_⟩;have e:=hm name;unfold nsFind findBy at e;rw[←Array.find?_toList] at e;unfold VS;rw[hd];dsimp only
 split
 ·rename_i y q;rw[q] at e;exact congrArg some e
 ·rename_i q;rw[q] at e;have a:es.toList.any (·.refKey)=false:=by
   rw[U1];intro y hy;obtain⟨z,t,hkey⟩:=hk y (Vq.mp hy);simp[XH.refKey,hkey]
  have a':¬es.toList.any (·.refKey)=true:=by rw[a];exact QB
  rw[aaa a'];exact congrArg some e
theorem uY.look(I:uY h x dx C mA):∃od,VT h x (Ta C dx) C (some od)/\∀name,VS name od=some (mA name):=
 let ⟨od,ho,hl⟩:=xO I.ns
 ⟨od,⟨I.obj,Z,Z,ho⟩,hl⟩
section
variable {prog:Q4}{w:Rm}{A:Rg}{E:Value->Qc->Prop}{s:Qc}{K:P4}{x dx C f:Addr}{mA:QX->Option Value}{name:QX}{v:Value}
theorem ET(X:K.In s.heap)(I:uY s.heap x dx C mA)(hg:Vk K C name=true)(hh:Uh K C=true)
  (ha:Rc K (.ref C) name=some none) (hv:mA name=some v) (hv':YN v=true) (h:Q v { s with toks:=s.toks+1}):
  Qw (QK prog w) A (getAttr (.ref x) name expr) Q E s:=by
 obtain⟨od,J,hl⟩:=I.look;exact PySem.W.get_value X J (VC hg).1 (PySem.W.findObj_own hh ha Z (by rw[hl,hv])) hv' h
theorem Ca(X:K.In s.heap)(I:uY s.heap x dx C mA)(hg:Vk K C name=true)
  (hf:Rc K (.ref C) name=some (some (.ref f))) (ht:VE K (.ref f)=true) (hv:mA name=none) (h:Q (.ref f,[.ref x]) s):
  Qw (QK prog w) A (Wu (.ref x) name pl) Q E s:=by
 obtain⟨od,J,hl⟩:=I.look;exact PySem.W.method_fn X J (VC hg).1 (VC hg).2 hf (beq_iff_eq.mp ht) (by show(VS name od).map (·.isSome)=some false;rw[hl,hv];rfl) h
theorem DE(X:K.In s.heap)(I:uY s.heap x dx C mA)
  (hs:Rc K (.ref C) "__setattr__"=some (some (.builtin "object.__setattr__"))) (hp:Yl K C=true) (ht:Xg K C name=some none) (hh:Uh K C=true)
  (hw:VD mA ns) (hsz:ns.length≤sizeLine)
  (h:∀h',uY h' x dx C (λy=>if y=name then some v else mA y)->T6 dx s.heap h'->Q () { s with heap:=h',toks:=s.toks+2}):
  Qw (QK prog w) A (Z3 (.ref x) name v) Q E s:=by
 obtain⟨od,J,hl⟩:=I.look;refine Wc X J hs (PySem.W.osa_open (s:={ s with toks:=s.toks+1}) (r:=none) X J hp ht λb=>?_);obtain⟨cd,hc,hd'⟩:=Wv hh;have hx:s.heap.get? x=some ⟨.ref C,some dx,.plain,#[]⟩:=I.obj;refine P9 (wpAny_pure (P9 (P9 (Xr hx (P9 (UP (s:={ s with toks:=s.toks+1}) (UA X hc) ?_))))));rw[hd'];refine wpAny_pure (a:=some dx) (P9 (wpAny_pure (P9 ?_)));refine Ym (s:={ s with toks:=s.toks+1}) I.ns λh' hn2 hs2=>?_
 obtain⟨oD,esD,epD,hoD,hdD,hcD⟩:=hn2.count (VD.cons name v hw);refine P9 (Ww hoD (by rw[hdD];exact Wx (QU hcD (by rw[Q2];omega))) ?_);exact wpAny_pure (h _ ⟨(hs2.2 _ (T5 I.ne)).trans I.obj,hn2,I.ne⟩ hs2)
theorem BN(X:K.In s.heap)(hm:Zi K C=true)
  (hi:Rc K (.ref C) "__init__"=some (some (.ref f))) (hf:U2 K (.ref f)=some (.type "function"))
  (h:Uu (QK prog w) (A.under (.builtin "type.__call__" ⟨.ref C:: vs,kw⟩)) (.call (.ref f) ⟨.ref (s.heap.objs.size+1):: vs,kw⟩) (PySem.W.InitBack (s.heap.objs.size+1) R)
   { s with heap:=(s.heap.push Sn).push (Ta C s.heap.objs.size)}):
  Uu (QK prog w) A (.call (.ref C) ⟨vs,kw⟩) R s:=by
 obtain⟨hh,g,d,t,os⟩:=s;exact PySem.W.make_core (PySem.W.makes_of X hm) (Vr X hi) (λself=>Zj X self hf) (.inl Z) h
end
def gW(f:QX)(v:V):List (QX×V)->List (QX×V)
 | []=>[(f,v)]
 | (g,x)::r=>if g=f then(g,v)::r else(g,x)::gW f v r
theorem kT(f g:QX)(v:V):∀fs:List (QX×V),(gW f v fs).lookup g=if g=f then some v else fs.lookup g
 | []=>by
  show UU g [(f,v)]=_;by_cases h:g=f
  ·have hb:(g==f)=true:=beq_iff_eq.mpr h;simp only[UU,hb,Z9 h]
  ·have hb:(g==f)=false:=beq_eq_false_iff_ne.mpr h;simp only[UU,hb,aaa h]
 | (k,x)::r=>by
  have ih:=kT f g v r;rw[show gW f v ((k,x)::r)=(if k=f then(k,v)::r else(k,x)::gW f v r) from Z];by_cases hk:k=f
  ·rw[Z9 hk];by_cases h:g=k
   ·have hb:(g==k)=true:=beq_iff_eq.mpr h;simp only[UU,hb,Z9 (h.trans hk)]
   ·have hb:(g==k)=false:=beq_eq_false_iff_ne.mpr h;simp only[UU,hb,aaa (λe:g=f=>h (e.trans hk.symm))]
  ·rw[aaa hk];by_cases h:g=k
   ·have hb:(g==k)=true:=beq_iff_eq.mpr h;simp only[UU,hb,aaa (λe:g=f=>hk (h.symm.trans e))]
   ·have hb:(g==k)=false:=beq_eq_false_iff_ne.mpr h;simp only[UU,hb];exact ih
theorem kC(f:QX)(v:V):∀fs:List (QX×V),f∈(gW f v fs).map (·.1)/\∀g,g∈fs.map (·.1)->g∈(gW f v fs).map (·.1)
 | []=>⟨by simp[gW],λg h=>by simp at h⟩
 | (k,x)::r=>by
  obtain⟨i1,i2⟩:=kC f v r;rw[show gW f v ((k,x)::r)=(if k=f then(k,v)::r else(k,x)::gW f v r) from Z];by_cases hk:k=f
  ·rw[Z9 hk];subst hk;exact⟨by simp,λg h=>by simpa using h⟩
  ·rw[aaa hk];refine⟨?_,λg h=>?_⟩
   ·rw[Q1];exact Qe _ i1
   ·rw[Q1] at h ⊢;rcases Qm.mp h with e|e
    ·exact Qm.mpr (.inl e)
    ·exact Qe _ (i2 g e)
theorem kU(f:QX)(v:V):∀fs:List (QX×V),(gW f v fs).length≤fs.length+1
 | []=>by simp[gW]
 | (k,x)::r=>by
  have ih:=kU f v r;rw[show gW f v ((k,x)::r)=(if k=f then(k,v)::r else(k,x)::gW f v r) from Z];by_cases hk:k=f
  ·rw[Z9 hk,Q2,Q2];omega
  ·rw[aaa hk,Q2,Q2];omega
theorem fE.some_of(r:fE (some v) o):∃u,o=some u/\RelV v u:=by
 cases o with
 |none=>exact(show False from r).elim
 |some u=>exact⟨u,Z,r⟩
theorem fE.none_of(r:fE none o):o=none:=by
 cases o with
 |none=>rfl
 |some u=>exact(show False from r).elim
theorem xZ(r:RelV v u):YN u=true:=by
 cases v with
 |non=>cases(show u=Sb from r);rfl
 |bl b=>cases(show u=UO b from r);rfl
 |int i=>obtain⟨t,e⟩:=(show ∃t,u=R1 i t from r);cases e;rfl
 |str x=>obtain⟨t,e⟩:=(show ∃t,u=VM x t from r);cases e;rfl
 |byt b=>obtain⟨t,e⟩:=(show ∃t,u=Value.bytes b t from r);cases e;rfl
 |flt b=>obtain⟨t,e⟩:=(show ∃t,u=Y5 b t from r);cases e;rfl
 |ref a=>cases(show u=QQ a from r);rfl
 |ty n=>cases(show u=TY n from r);rfl
section
variable {P:Q4}{w:Rm}{H H':Hp}{h h':Qo}{a C dx:Addr}{fs fs':List (QX×V)}
theorem lQ(hok:iO P w H h)(e:H a=some (.ins C dx fs)):∃mA,uY h a dx C mA/\(∀f,fE (fs.lookup f) (mA f))/\VD mA (fs.map (·.1))/\fs.length≤1000/\H dx=some (.own a):=by
 obtain⟨d,z,ne,ob,mA,n,r,q⟩:=(show ObjOk P w H h a (.ins C dx fs) from hok a _ e);exact⟨mA,⟨ob,n,ne⟩,r,q,z,d⟩
end
structure u4(K:P4)(C:Addr):Prop where
 pg:Vk K C QX.empty=true
 hd:Uh K C=true
 po:Yl K C=true
 sa:Rc K (.ref C) "__setattr__"=some (some (.builtin "object.__setattr__"))
theorem u4.get{K:P4}{C:Addr}(c:u4 K C)(f:QX):Vk K C f=true:=c.pg
def cZ(K:P4)(C:Addr)(f:QX):Prop:=Rc K (.ref C) f=some none
theorem cZ.taker{K:P4}{C:Addr}{f:QX}(n:cZ K C f):Xg K C f=some none:=by
 unfold Xg;rw[show Rc K (.ref C) f=some none from n];rfl
structure Pw(K:P4)(C:Addr)(f:QX)(v:V)(u:Value):Prop where
 at_:Rc K (.ref C) f=some (some u)
 rel:RelV v u
 get:Wd K u "__get__"=some none
 cp:PySem.W.copiedNames.contains f=false
structure tz(K:P4)(C:Addr)(m:QX)(f:Addr):Prop where
 at_:Rc K (.ref C) m=some (some (.ref f))
 fn:VE K (.ref f)=true
 kp:Sr K (.ref f)=true
section
variable {X:Cx}{pins:List (Addr×R9)}{σ:St}{H:Hp}{s:Qc}{a C dx:Addr}{fs:List (QX×V)}{f:QX}{v:V}{A:Rg}{E:Value->Qc->Prop}
theorem nJ(I:Inv X pins σ H s)(e:H a=some (.ins C dx fs))(c:u4 X.K C)(n:cZ X.K C f)(l:fs.lookup f=some v)
  (h:∀u s',Inv X pins σ H s'->RelV v u->Q u s'):Qw (QK X.prog X.w) A (getAttr (.ref a) f b) Q E s:=by
 obtain⟨mA,O,r,_,_,_⟩:=lQ I.hok e;obtain⟨u,hu,ru⟩:=fE.some_of (v:=v) (o:=mA f) (by rw[←l];exact r f);exact ET I.kIn O (c.get f) c.hd n hu (xZ ru) (h u _ (I.tok _) ru)
theorem nI(I:Inv X pins σ H s)(e:H a=some (.ins C dx fs))(c:u4 X.K C)(k:tz X.K C m g)(l:fs.lookup m=none)
  (h:Q (.ref g,[.ref a]) s):Qw (QK X.prog X.w) A (Wu (.ref a) m pl) Q E s:=by
 obtain⟨mA,O,r,_,_,_⟩:=lQ I.hok e;have hn:mA m=none:=fE.none_of (by rw[←l];exact r m);exact Ca I.kIn O (c.get m) k.at_ k.fn hn h
theorem mM(I:Inv X pins σ H s)(e:H a=some (.ins C dx fs))(c:u4 X.K C)(n:cZ X.K C f)(hl:fs.length<1000)(ry:RelV y u)
  (h:∀s',Inv X pins σ (upd H a (.ins C dx (gW f y fs))) s'->Q () s'):Qw (QK X.prog X.w) A (Z3 (.ref a) f u) Q E s:=by
 obtain⟨mA,O,r,wi,_,ho⟩:=lQ I.hok e;have hz:(fs.map (·.1)).length≤sizeLine:=by rw[P8,Sz];omega
 refine DE I.kIn O c.sa c.po n.taker c.hd wi hz λh' O' sb=>h _ ?_
 have hd:∃o,h'.get? dx=some o:=let ⟨o,_,_,e',_⟩:=O'.ns;⟨o,e'⟩;refine I.write (x:=a) (e:=dx) (by rw[e];exact SV) (.inr ho) (λb q hb z=>(sb.2 b hb).trans z) hd ?_;refine⟨by rw[ao O.ne];exact ho,?_,O.ne,O'.obj,_,O'.ns,λg=>?_,λg hg=>?_⟩
 ·have:=kU f y fs;omega
 ·show fE ((gW f y fs).lookup g) (if g=f then some u else mA g);rw[kT];by_cases q:g=f
  ·rw[Z9 q,Z9 q];exact ry
  ·rw[aaa q,aaa q];exact r g
 ·by_cases q:g=f
  ·rw[q];exact(kC f y fs).1
  ·refine(kC f y fs).2 g (wi g λz=>hg ?_);show(if g=f then some u else mA g)=none;rw[aaa q];exact z
theorem Inv.made(I:Inv X pins σ H s):Inv X pins σ (upd (upd H s.heap.objs.size (.own (s.heap.objs.size+1))) (s.heap.objs.size+1) (.ins C s.heap.objs.size []))
  { s with heap:=(s.heap.push Sn).push (Ta C s.heap.objs.size)}:=by
 have e1:(s.heap.push Sn).get? s.heap.objs.size=some Sn:=QD s.heap Z;have e2:((s.heap.push Sn).push (Ta C s.heap.objs.size)).get? (s.heap.objs.size+1)=some (Ta C s.heap.objs.size):=by
  have:=QD (s.heap.push Sn) (o:=Ta C s.heap.objs.size) Z
  rwa [S6] at this
 have e3:(s.heap.push Sn).Ns s.heap.objs.size (λ_=>none):=⟨Sn,#[],_,e1,Z,(λe he=>aad he (by simp)),λ_=>Z⟩;have I1:=I.laid (a:=s.heap.objs.size) (o:=.own (s.heap.objs.size+1)) (h':=s.heap.push Sn) (t':=s.toks) (λb u q=>Qb _ q) (P7 _) ⟨_,e1⟩;refine I1.laid (a:=s.heap.objs.size+1) (o:=.ins C s.heap.objs.size []) (t':=s.toks) (λb u q=>Qb _ q) (Tx (S6 _ _)) ?_;have ne:s.heap.objs.size≠s.heap.objs.size+1:=Rf (Wy _);refine⟨by rw[ao ne,ah],Qu _,ne,e2,λ_=>none,(Yn e3).at λo q=>Qb _ q,λ_=>SV,λy hy=>aad Z hy⟩
theorem Fg(hb:Tj e f env (eval e env)=eval e env)
  (h:Qw (QK prog w) A (eval e env) (λo s₁=>Qw (QK prog w) A (getAttr o f true) Q E s₁) E s):Qw (QK prog w) A (eval (.Attribute e f pos) env) Q E s:=
 Attribute_any_ h (by rw[arm_eval_Attribute,hb])
end
def Kl(K:P4)(ta:TE)(f:QX):TE:=λσ H Q=>ta σ H λx H1=>∃a C dx fs v,x=.ref a/\H1 a=some (.ins C dx fs)/\u4 K C/\cZ K C f/\fs.lookup f=some v/\Q v H1
def OK(K:P4)(ta:TE)(f:QX):TE:=λσ H Q=>ta σ H λx H1=>∃a C dx fs v u,x=.ref a/\H1 a=some (.ins C dx fs)/\u4 K C/\Pw K C f v u/\fs.lookup f=none/\Q v H1
def Kz(K:P4)(ta tv:TE)(f:QX):TS:=λD σ H=>tv σ H λy H1=>ta σ H1 λx H2=>∃a C dx fs,x=.ref a/\H2 a=some (.ins C dx fs)/\u4 K C/\cZ K C f/\fs.length<1000∧
 D.nx σ (upd H2 a (.ins C dx (gW f y fs)))
def JM(X:Cx)(op:Zv)(rd:V->V->Hp->VK->Prop):Prop:=
 ∀(pins:List (Addr×R9)) (s:Qc) (σ:St) (H:Hp) (x y:V) (u v:Value) (Q:VK),Inv X pins σ H s->RelV x u->RelV y v->rd x y H Q->Qw (QK X.prog X.w) X.A (ZV op u v) (EP X pins σ Q) X.xe s
def vy(K:P4)(ta tv:TE)(rd:V->V->Hp->VK->Prop)(f:QX):TS:=λD σ H=>ta σ H λx H1=>∃a C dx fs v,x=.ref a/\H1 a=some (.ins C dx fs)/\u4 K C/\cZ K C f/\fs.lookup f=some v∧
 tv σ H1 λy H2=>rd v y H2 λz H3=>∃dx' fs',H3 a=some (.ins C dx' fs')/\fs'.length<1000/\D.nx σ (upd H3 a (.ins C dx' (gW f z fs')))
section
variable {X:Cx}{o e value:Re}{f:QX}{pos pos' tpos:Uf}{ta tv:TE}
theorem HU(he:PE X e ta)(hb:Tj e f X.env (eval e X.env)=eval e X.env):PE X (.Attribute e f pos) (Kl X.K ta f):=by
 intro pins s σ H Q I h;refine Fg hb (bZ (he pins s σ H _ I h) λu s1 ⟨x,H1,I1,rx,a,C,dx,fs,v,ex,ea,c,n,l,q⟩=>?_);subst ex;obtain rfl:u=QQ a:=rx;exact nJ I1 ea c n l λu' s2 I2 ru=>⟨v,H1,I2,ru,q⟩
theorem Ht(ha:PE X o ta)(hv:PE X value tv)(hs:S9 value (some (.Attribute o f pos')) pos.line X.env=Sq false):PS X (.Assign [.Attribute o f pos'] value pos) (Kz X.K ta tv f):=by
 intro pins s σ H D I h;refine Vd (bZ (hv pins s σ H _ I h) λu s1 ⟨y,H1,I1,ry,q⟩=>bZ (ha pins s1 σ H1 _ I1 q) λov s2 ⟨x,H2,I2,rx,a,C,dx,fs,ex,ea,c,n,l,q2⟩=>?_) hs;subst ex;obtain rfl:ov=QQ a:=rx;exact mM I2 ea c n l ry λs3 I3=>⟨σ,_,I3,q2⟩
theorem xD(ha:PE X o ta)(hv:PE X value tv)(hop:JM X op rd):PS X (.AugAssign (.Attribute o f tpos) op value pos) (vy X.K ta tv rd f):=by
 intro pins s σ H D I h;refine wpAny_AugAssign_AttributeAny (bZ (ha pins s σ H _ I h) λov s1 ⟨x,H1,I1,rx,a,C,dx,fs,v,ex,ea,c,n,l,q⟩=>?_);subst ex;obtain rfl:ov=QQ a:=rx;refine nJ I1 ea c n l λu s2 I2 ru=>bZ (hv pins s2 σ H1 _ I2 q) λw3 s3 ⟨y,H2,I3,ry,q3⟩=>bZ (hop pins s3 σ H2 v y u w3 _ I3 ru ry q3) λw4 s4 ⟨z,H3,I4,rz,dx',fs',ea',l',q4⟩=>?_
 exact mM I4 ea' c n l' rz λs5 I5=>⟨σ,_,I5,q4⟩
def MM:V->V->Hp->VK->Prop:=λx y H Q=>∃i j,x=.int i/\y=.int j/\Q (.int (i+j)) H
def OR:V->V->Hp->VK->Prop:=λx y H Q=>∃i j,x=.int i/\y=.int j/\Q (.int (i-j)) H
theorem Jh:JM X .Add MM:=by
 rintro pins s σ H x y u v Q I rx ry ⟨i,j,rfl,rfl,q⟩;obtain⟨t,rfl⟩:=(show ∃t,u=R1 i t from rx);obtain⟨t',rfl⟩:=(show ∃t',v=R1 j t' from ry);exact PyProof.Rows.iadd_int ⟨.int (i+j),H,I.tok _,⟨_,Z⟩,q⟩
end
section
variable {X:Cx}{pins:List (Addr×R9)}{σ:St}{H:Hp}{s:Qc}{A:Rg}{E:Value->Qc->Prop}{Q:Value->Qc->Prop}{c:Value}{b:Bool}
inductive kL(K:P4)(H:Hp):V->Value->Prop where
 |non:kL K H .non (.type "NoneType")
 |bl (x:Bool):kL K H (.bl x) (.type "bool")
 |int (i:Int):kL K H (.int i) (.type "int")
 |str (x:QX):kL K H (.str x) (.type "str")
 |flt (x:UInt64):kL K H (.flt x) (.type "float")
 |lst {a:Addr} {xs:List V} (e:H a=some (.lst xs)):kL K H (.ref a) (.type "list")
 |frz {a:Addr} {o:R9} {xs:List V} (e:H a=some (.frz o (.lst xs))):kL K H (.ref a) (.type "list")
 |tup {a:Addr} {xs:List V} (e:H a=some (.tup xs)):kL K H (.ref a) (.type "tuple")
 |dK {a:Addr} {kvs:List (cM×V)} (e:H a=some (.dK kvs)):kL K H (.ref a) (.type "dict")
 |dT {a:Addr} {kvs:List (List cM×V)} (e:H a=some (.dT kvs)):kL K H (.ref a) (.type "dict")
 |ins {a C dx:Addr} {fs:List (QX×V)} (e:H a=some (.ins C dx fs)) (cl:u4 K C) (ha:Rc K (.ref C) "__class__"=some (some (.builtin "object.__class__")))
   (hn:Wd K (.builtin "object.__class__") "__get__"=some (some (.builtin "getset_descriptor.__get__"))) (htk:Zk K (.builtin "object.__class__")=some true)
   (hm:ZN K C (.type "object")=some true):kL K H (.ref a) (.ref C)
theorem xU(I:Inv X pins σ H s)(rx:RelV x u)(ty:kL X.K H x t)(e:Uj X.K t c=some b)(h:∀tk,Q (.bool b) { s with toks:=tk}):
  Qw (QK X.prog X.w) A (call (.builtin "isinstance") [u,c]) Q E s:=by
 cases ty with
 |non=>cases(show u=Sb from rx);exact RO PySem.W.kitx_none I.kIn SV e (λz=>nomatch z) h
 |bl y=>cases(show u=UO y from rx);exact RO PySem.W.kitx_bool I.kIn SV e (λz=>nomatch z) h
 |int i=>obtain⟨t,q⟩:=(show ∃t,u=R1 i t from rx);cases q;exact RO PySem.W.kitx_int I.kIn SV e (λz=>nomatch z) h
 |str y=>obtain⟨t,q⟩:=(show ∃t,u=VM y t from rx);cases q;exact RO PySem.W.kitx_str I.kIn SV e (λz=>nomatch z) h
 |flt y=>obtain⟨t,q⟩:=(show ∃t,u=Y5 y t from rx);cases q;exact RO PySem.W.kitx_float I.kIn SV e (λz=>nomatch z) h
 | @lst a xs ea=>
  cases(show u=QQ a from rx)
  obtain⟨_,_,n,_,h1⟩:=(show ObjOk X.prog X.w H s.heap a (.lst xs) from I.hok a _ ea);exact RO We I.kIn ⟨_,h1,Z⟩ e (λz=>nomatch z) h
 | @frz a ob xs ea=>
  cases(show u=QQ a from rx)
  obtain⟨_,_,_,n,_,h1⟩:=(show ObjOk X.prog X.w H s.heap a (.frz ob (.lst xs)) from I.hok a _ ea);exact RO We I.kIn ⟨_,h1,Z⟩ e (λz=>nomatch z) h
 | @tup a xs ea=>
  cases(show u=QQ a from rx)
  obtain⟨_,_,_,p⟩:=(show ObjOk X.prog X.w H s.heap a (.tup xs) from I.hok a _ ea);obtain⟨o,h1,h2,_⟩:=p;exact RO X8 I.kIn ⟨o,h1,h2⟩ e (λz=>nomatch z) h
 | @dK a kvs ea=>
  cases(show u=QQ a from rx)
  obtain⟨_,_,vs,_,p⟩:=(show ObjOk X.prog X.w H s.heap a (.dK kvs) from I.hok a _ ea);obtain⟨o,es,ep,h1,h2,_⟩:=p;exact RO Yo I.kIn ⟨o,h1,h2.1⟩ e (λz=>nomatch z) h
 | @dT a kvs ea=>
  cases(show u=QQ a from rx)
  obtain⟨_,_,xs,_,o,es,ep,h1,h2,_⟩:=(show ObjOk X.prog X.w H s.heap a (.dT kvs) from I.hok a _ ea);exact RO Yo I.kIn ⟨o,h1,h2.1⟩ e (λz=>nomatch z) h
 | @ins a C dx fs ea cl ha hn htk hm=>
  cases(show u=QQ a from rx)
  obtain⟨mA,O,_⟩:=lQ I.hok ea;obtain⟨od,J,_⟩:=O.look;exact RO (PySem.W.kitx_own (cl.get _) cl.hd ha hn htk hm) I.kIn J e (λz=>nomatch z) h
end
structure c9(k:Nat)(A:Rg):Prop where
 hd:A.handled=none
 dp:A.depth+3*k+5<recursionLimit
 un:A.units+16*k+200<cLine
 gd:A.guards=some []
theorem c9.mono(r:c9 k A)(h:j≤k):c9 j A:=⟨r.hd,by have:=r.dp;omega,by have:=r.un;omega,r.gd⟩
theorem c9.deeper(r:c9 (k+1) A)(env:Zq):c9 k (A.deeper env):=
 ⟨r.hd,by have:=r.dp;show A.depth+1+3*k+5<_;omega,by have:=r.un;show A.units+3+16*k+200<_;omega,r.gd⟩
theorem uz{A:Rg}:(A.under (.builtin "type.__call__" ⟨.ref C:: us,kw⟩)).depth=A.depth+1:=by
 first|rfl|simp[WR,Yp.weight,Yp.isCreation,Yp.isGuard,Yp.isCaller,Yp.frames,Yq,guardIds]
theorem uy{A:Rg}:(A.under (.builtin "type.__call__" ⟨.ref C:: us,kw⟩)).units=A.units+1:=by
 first|rfl|simp[WR,Yp.cUnits,Yp.frames,Yq]
theorem r8{A:Rg}:(A.under (.builtin "type.__call__" ⟨.ref C:: us,kw⟩)).guards=A.guards:=by
 first|rfl|simp[WR,Yp.guards,Yp.isGuard,guardIds,pushGuards]
theorem c9.make(r:c9 (k+1) A)(C:Addr)(us:List Value)(kw:List (QX×Value)):c9 k (A.under (.builtin "type.__call__" ⟨.ref C:: us,kw⟩)):=
 ⟨r.hd,by have:=r.dp;rw[uz];omega,by have:=r.un;rw[uy];omega,by rw[r8];exact r.gd⟩
theorem c9.depth(r:c9 k A):A.depth<recursionLimit:=by have:=r.dp;omega
theorem c9.units(r:c9 k A):A.units+64<cLine:=by have:=r.un;omega
def wV:TA:=λ_ H Q=>Q [] H
def FE(ta:TE)(tr:TA):TA:=λσ H Q=>ta σ H λx H1=>tr σ H1 λxs H2=>Q (x::xs) H2
section
variable {X:Cx}{e:Re}{es:List Re}{te:TE}{t:TA}{pos:Uf}
theorem HZ:PA X [] wV:=λ_ _ _ _ H Q I h=>Calls.spliced_nil ⟨[],H,I,.nil,h⟩
theorem Eo(ha:PE X e te)(hr:PA X es t)(hs:Qs (e::es) X.env=(false,eval e X.env)::Qs es X.env:=by rfl):PA X (e::es) (FE te t):=by
 intro pos pins s σ H Q I h;rw[hs];show Qw _ _ (spliced ((false,eval e X.env)::Tb pos (Qs es X.env))) _ _ s;refine Calls.spliced_cons (bZ (ha pins s σ H _ I h) λu s1 ⟨x,H1,I1,r1,q1⟩=>?_);exact bZ (hr pos pins s1 σ H1 _ I1 q1) λus s2 ⟨xs,H2,I2,r2,q2⟩=>⟨x::xs,H2,I2,.cons r1 r2,q2⟩
def Ke(t:TA):TE:=λσ H Q=>t σ H λxs H1=>xs.length≤sizeLine/\∀p,H1 p=none->Q (.ref p) (upd H1 p (.tup xs))
def Ki(t:TA):TE:=λσ H Q=>t σ H λxs H1=>xs.length≤sizeLine/\∀p,H1 p=none->Q (.ref p) (upd H1 p (.lst xs))
theorem HK{x1}(h:PA X es t):PE X (.Tuple es x1 pos) (Ke t):=by
 intro pins s σ H Q I hq;refine wpAny_Tuple_spliced (bZ (h pos pins s σ H _ I hq) λus s1 ⟨xs,H1,I1,r,z,q⟩=>⟨by rw[←r.length];exact z,?_⟩);have hf:H1 s1.heap.objs.size=none:=I1.hok.fresh (P7 _);refine⟨.ref s1.heap.objs.size,upd H1 s1.heap.objs.size (.tup xs),I1.laid (t':=s1.toks) (λb u e=>Qb _ e) (P7 _) ?_,Z,q _ hf⟩;exact⟨z,us,r,⟨_,QD _ Z,Z,_,Z⟩⟩
theorem HR(h:PA X es t):PE X (.List es pos) (Ki t):=by
 intro pins s σ H Q I hq;refine wpAny_List_spliced (bZ (h pos pins s σ H _ I hq) λus s1 ⟨xs,H1,I1,r,z,q⟩=>⟨by rw[←r.length];exact z,?_⟩);have hf:H1 s1.heap.objs.size=none:=I1.hok.fresh (P7 _);refine⟨.ref s1.heap.objs.size,upd H1 s1.heap.objs.size (.lst xs),I1.laid (t':=s1.toks) (λb u e=>Qb _ e) (P7 _) ?_,Z,q _ hf⟩;exact⟨z,us,0,r,QD _ Z⟩
end
abbrev Sp:=List V->Hp->VK->XK->Prop
abbrev tO:=List Zq->Hp->Qc->XK->Value->Qc->Prop
structure tD(P:Q4)(w:Rm)(K:P4)(mg:QX->Option Value)(base:Qo)(A:Rg)(outer:List Zq)(s:Qc)(H:Hp):Prop where
 frames:A.frames=some outer
 mod:Mod K mg base
 bs:∀b o,base.get? b=some o->s.heap.get? b=some o/\H b=none
 bsz:base.objs.size≤s.heap.objs.size
 funs:s.heap.FunFrames base outer
 frf:∀b∈qD outer,H b=none
 hok:iO P w H s.heap
 bare:Vp s.gens
def CE(outer:List Zq)(P:Q4)(w:Rm)(H:Hp)(s:Qc)(Q:VK)(u:Value)(s':Qc):Prop:=
 ∃v H',s'.os=s.os/\Vp s'.gens/\Un (qD outer) [] H H' s.heap s'.heap/\iO P w H' s'.heap/\RelV v u/\Q v H'
def CR(CX:tO)(outer:List Zq)(P:Q4)(w:Rm)(H:Hp)(s:Qc)(Q:VK)(E:XK)(r:YO)(s':Qc):Prop:=
 match r with
 | .ok (.ret u)=>CE outer P w H s Q u s'
 | .ok _=>False
 | .error e=>CX outer H s E e s'
structure bC(P:Q4)(w:Rm)(K:P4)(mg:QX->Option Value)(base:Qo)(CX:tO)(k:Nat)(f:Addr)(fd:Qh)(ps:List QX)(sp:Sp):Prop where
 len:∀vs H Q E,sp vs H Q E->vs.length=ps.length
 run:∀(A:Rg) (outer:List Zq) (s:Qc) (H:Hp) (args:Args) (us:List Value) (vs:List V) (Q:VK) (E:XK),c9 k A->tD P w K mg base A outer s H->WS s fd args (ps.zip us)->bo vs us->sp vs H Q E→
  Uu (QK P w) A (.call (.ref f) args) (CR CX outer P w H s Q E) s
theorem tD.make{P:Q4}{w:Rm}{K:P4}{mg:QX->Option Value}{base:Qo}{A:Rg}{outer:List Zq}{s:Qc}{H:Hp}(e:tD P w K mg base A outer s H)(C:Addr)(us:List Value)(kw:List (QX×Value)) :
  tD P w K mg base (A.under (.builtin "type.__call__" ⟨.ref C::us,kw⟩)) outer s H:=⟨by first|exact e.frames | (simpa [WR,Yp.envs,Yq,pushEnvs] using e.frames),e.mod,e.bs,e.bsz,e.funs,e.frf,e.hok,e.bare⟩
section
variable {X:Cx}{pins:List (Addr×R9)}{σ:St}{H:Hp}{s s':Qc}
theorem Inv.env0(I:Inv X pins σ H s):tD X.prog X.w X.K X.mg X.base X.A X.stack s H:=
 ⟨I.ok.frames,I.ok.mod,I.bs,QU I.ok.bsz I.sz,I.stack,I.stkFree,I.hok,I.bare⟩
theorem Inv.after(I:Inv X pins σ H s)(h:CE X.stack X.prog X.w H s Q u s'):EP X pins σ Q u s':=by
 obtain⟨v,H',os,bare,un,hok,r,q⟩:=h;obtain⟨hh,g,d,t,os'⟩:=s';obtain rfl:os'=s.os:=os;exact⟨v,H',I.call (h':=hh) (g':=g) (d':=d) (t':=t) (ch:=[]) un hok bare (λb z=>aad z (by simp)),r,q⟩
end
def yZ(sp:Sp)(dvs:List V)(E:XK)(t:TA):TE:=λσ H Q=>t σ H λvs H1=>sp (vs++dvs) H1 Q E
def ve(C:Addr)(m:QX)(sp:Sp)(dvs:List V)(E:XK)(ta:TE)(t:TA):TE:=λσ H Q=>ta σ H λx H1=>∃a dx fs,x=.ref a/\H1 a=some (.ins C dx fs)/\fs.lookup m=none∧
 t σ H1 λvs H2=>sp (x::(vs++dvs)) H2 Q E
def Fy(C:Addr)(sp:Sp)(dvs:List V)(E:XK)(t:TA):TE:=λσ H Q=>t σ H λvs H1=>∀x dx,H1 x=none->H1 dx=none->dx≠x→
 sp (.ref x::(vs++dvs)) (upd (upd H1 dx (.own x)) x (.ins C dx [])) (λv H2=>v=.non/\Q (.ref x) H2) E
def aN(K:P4)(fd:Qh)(ps:List QX)(ds:List Value):Prop:=
 ∀(s:Qc) (us:List Value),K.In s.heap->(us++ds).length=ps.length->WS s fd ⟨us,[]⟩ (ps.zip (us++ds))
theorem aN.all{K:P4}{fd:Qh}{ps:List QX}(h:∀us:List Value,us.length=ps.length->Yr fd ⟨us,[]⟩=Sq (ps.zip us)):aN K fd ps []:=λs us _ hl=>by
 rw[Rp] at hl ⊢;exact .of_eq (h us hl)
def fw(CX:tO)(X:Cx)(E:XK):Prop:=∀(pins:List (Addr×R9)) (σ:St) (H:Hp) (s:Qc) (e:Value) (s':Qc),Inv X pins σ H s->CX X.stack H s E e s'->X.xe e s'
section
variable {X:Cx}{CX:tO}{k:Nat}{f C:Addr}{fd:Qh}{ps:List QX}{sp:Sp}{dvs:List V}{ds:List Value}{E:XK}{x m:QX}{p pos apos:Uf}{e o:Re}{es:List Re}{ta:TE}{t:TA}
theorem uk{pins:List (Addr×R9)}{σ:St}{H:Hp}{s:Qc}{Q:VK}{us:List Value}{vs:List V}(F:bC X.prog X.w X.K X.mg X.base CX k f fd ps sp)(hr:c9 k X.A)(hb:aN X.K fd ps ds)(hd:bo dvs ds)(hx:fw CX X E)
  (I:Inv X pins σ H s) (r:bo vs us) (h:sp (vs++dvs) H Q E):Qw (QK X.prog X.w) X.A (call (.ref f) us) (EP X pins σ Q) X.xe s:=by
 have r2:bo (vs++dvs) (us++ds):=r.append hd;have hl:(us++ds).length=ps.length:=by rw[←r2.length];exact F.len _ _ _ _ h
 refine X9 (VF (F.run X.A X.stack s H ⟨us,[]⟩ (us++ds) (vs++dvs) Q E hr I.env0 (hb s us I.kIn hl) r2 h) λr s' hq=>?_)
 cases r with
 |error e=>exact hx pins σ H s e s' I hq
 |ok fl=>
  cases fl with
  |ret u=>exact I.after hq
  |next=>exact Sj hq
  |brk=>exact Sj hq
  |cont=>exact Sj hq
theorem El(F:bC X.prog X.w X.K X.mg X.base CX k f fd ps sp)(hr:c9 k X.A)(hg:Gl X x)(hm:X.mg x=some (.ref f))(hk:Sr X.K (.ref f)=true)(hb:aN X.K fd ps ds)(hd:bo dvs ds)(hx:fw CX X E)
  (ha:PA X (e::es) t) (hdb:(x==("__debug__" : QX))=false:=by decide) (he:Qs (e::es) X.env=(false,eval e X.env)::Qs es X.env:=by rfl) (hpl:(Tb pos (Qs es X.env)).any (·.1)=false:=by rfl) :
  PE X (.Call (.Name x p) (e::es) [] pos) (yZ sp dvs E t):=by
 intro pins s σ H Q I h;refine T8 (lN I hg hm ?_ hdb);refine VU (h₀:=X.base) I.ok.mod.kin hk (bZ (ha pos pins s σ H _ I h) λus s1 ⟨vs,H1,I1,r,q⟩=>⟨I1.kIn,?_⟩) he hpl;exact uk F hr hb hd hx I1 r q
theorem Eg{pl:Sem Bool}(he:PE X o ta)(c:u4 X.K C)(hm:tz X.K C m f)(F:bC X.prog X.w X.K X.mg X.base CX k f fd ps sp)(hr:c9 k X.A)(hb:aN X.K fd ps ds)(hd:bo dvs ds)(hx:fw CX X E)(ha:PA X (e::es) t)
  (hst:Qs (e::es) X.env=(false,eval e X.env)::Qs es X.env:=by rfl) (hpl:(Tb pos (Qs es X.env)).any (·.1)=false:=by rfl)
  (ht:eval (.Call (.Attribute o m apos) (e::es) [] pos) X.env=(do
   let ov ←eval o X.env
   WN apos.atName
   let (f,first) ←holding [ov] (Wu ov m pl)
   Ys pos f first (Tb pos (Qs (e::es) X.env)) (Vs pos (TW [] X.env))):=by rfl) :
  PE X (.Call (.Attribute o m apos) (e::es) [] pos) (ve C m sp dvs E ta t):=by
 intro pins s σ H Q I h;refine Xm (pl:=pl) (bZ (he pins s σ H _ I h) λu s1 ⟨x,H1,I1,rx,a,dx,fs,ex,ea,l,q⟩=>?_) ht;subst ex;obtain rfl:u=QQ a:=rx;refine nI I1 ea c hm l ?_;refine VU (first:=[.ref a]) (h₀:=X.base) I.ok.mod.kin hm.kp (bZ (ha pos pins s1 σ H1 _ I1 q) λus s2 ⟨vs,H2,I2,r,q2⟩=>⟨I2.kIn,?_⟩) hst hpl;exact uk (us:=.ref a::us) (vs:=.ref a::vs) F hr hb hd hx I2 (.cons Z r) q2
theorem Bc{pl:Sem Bool}(he:PE X o ta)(c:u4 X.K C)(hm:tz X.K C m f)(F:bC X.prog X.w X.K X.mg X.base CX k f fd ps sp)(hr:c9 k X.A)(hb:aN X.K fd ps ds)(hd:bo dvs ds)(hx:fw CX X E)
  (ht:eval (.Call (.Attribute o m apos) [] [] pos) X.env=(do
   let ov ←eval o X.env
   WN apos.atName
   let (f,first) ←holding [ov] (Wu ov m pl)
   Ys pos f first (Tb pos (Qs [] X.env)) (Vs pos (TW [] X.env))):=by rfl) :
  PE X (.Call (.Attribute o m apos) [] [] pos) (ve C m sp dvs E ta wV):=by
 intro pins s σ H Q I h;refine Xm (pl:=pl) (bZ (he pins s σ H _ I h) λu s1 ⟨x,H1,I1,rx,a,dx,fs,ex,ea,l,q⟩=>?_) ht;subst ex;obtain rfl:u=QQ a:=rx;refine nI I1 ea c hm l ?_;exact XO (first:=[.ref a]) I1.kIn hm.kp (uk (us:=[.ref a]) (vs:=[.ref a]) F hr hb hd hx I1 (.cons Z .nil) q)
structure Mk(K:P4)(C f:Addr):Prop where
 makes:Zi K C=true
 init:Rc K (.ref C) "__init__"=some (some (.ref f))
 fn:VE K (.ref f)=true
 kp:Sr K (.ref C)=true
theorem AC{pins:List (Addr×R9)}{σ:St}{H:Hp}{s:Qc}{Q:VK}{us:List Value}{vs:List V}(M:Mk X.K C f)(F:bC X.prog X.w X.K X.mg X.base CX k f fd ps sp)(hr:c9 (k+1) X.A)(hb:aN X.K fd ps ds)(hd:bo dvs ds)
  (hx:fw CX X E) (I:Inv X pins σ H s) (r:bo vs us)
  (h:∀x dx,H x=none->H dx=none->dx≠x->sp (.ref x::(vs++dvs)) (upd (upd H dx (.own x)) x (.ins C dx [])) (λv H2=>v=.non/\Q (.ref x) H2) E) :
  Qw (QK X.prog X.w) X.A (call (.ref C) us) (EP X pins σ Q) X.xe s:=by
 have hq:=h (s.heap.objs.size+1) s.heap.objs.size (I.hok.fresh (SQ _)) (I.hok.fresh (P7 _)) (Rf (Wy _));have I2:=Inv.made (C:=C) I;have r2:bo (V.ref (s.heap.objs.size+1)::(vs++dvs)) (QQ (s.heap.objs.size+1)::(us++ds)):=.cons Z (r.append hd);have hl:(QQ (s.heap.objs.size+1)::us++ds).length=ps.length:=by
  have e:=r2.length;rw[F.len _ _ _ _ hq] at e;exact e.symm
 refine X9 (BN (f:=f) I.kIn M.makes M.init (beq_iff_eq.mp M.fn) (VF (F.run _ X.stack _ _ ⟨QQ (s.heap.objs.size+1)::us,[]⟩ (QQ (s.heap.objs.size+1)::(us++ds)) _ _ E (hr.make C us []) (I2.env0.make C us []) (hb _ (QQ (s.heap.objs.size+1)::us) I2.kIn hl) r2 hq) λr s' hq'=>?_))
 cases r with
 |error e=>exact hx pins σ _ _ e s' I2 hq'
 |ok fl=>
  cases fl with
  |ret u=>
   obtain⟨v,H',I3,rv,ev,q3⟩:=I2.after hq';subst ev;exact⟨rv,⟨V.ref (s.heap.objs.size+1),H',I3,Z,q3⟩⟩
  |next=>exact Sj hq'
  |brk=>exact Sj hq'
  |cont=>exact Sj hq'
theorem Bd(M:Mk X.K C f)(F:bC X.prog X.w X.K X.mg X.base CX k f fd ps sp)(hr:c9 (k+1) X.A)(hg:Gl X x)(hm:X.mg x=some (.ref C))(hb:aN X.K fd ps ds)(hd:bo dvs ds)(hx:fw CX X E)
  (hdb:(x==("__debug__" : QX))=false:=by decide):PE X (.Call (.Name x p) [] [] pos) (Fy C sp dvs E wV):=by
 intro pins s σ H Q I h;refine T8 (lN I hg hm ?_ hdb);exact XO I.kIn M.kp (AC (us:=[]) M F hr hb hd hx I .nil h)
end
def PK(X:Cx)(kws:List VG)(t:TA):Prop:=
 ∀(pos:Uf) (pins:List (Addr×R9)) (s:Qc) (σ:St) (H:Hp) (Q:List V->Hp->Prop),Inv X pins σ H s->t σ H Q->Qw (QK X.prog X.w) X.A (evalAll ((Vs pos (TW kws X.env)).map (·.2))) (AP X pins σ Q) X.xe s
section
variable {X:Cx}{CX:tO}{k:Nat}{f C:Addr}{fd:Qh}{ps ks:List QX}{sp:Sp}{E:XK}{x m:QX}{p pos apos kpos:Uf}{e o:Re}{es:List Re}{kws:List VG}{te ta:TE}{t tk:TA}{nm:Option QX}
structure Nk(K:P4)(fd:Qh)(ps ks:List QX)(g:List Value->List Value->List Value)(gV:List V->List V->List V):Prop where
 to:∀(s:Qc) (us ws:List Value),K.In s.heap->(g us ws).length=ps.length->WS s fd ⟨us,ks.zip ws⟩ (ps.zip (g us ws))
 rel:∀{vs:List V} {us:List Value} {zs:List V} {ws:List Value},bo vs us->bo zs ws->bo (gV vs zs) (g us ws)
def MA(sp:Sp)(gV:List V->List V->List V)(E:XK)(t tk:TA):TE:=λσ H Q=>t σ H λvs H1=>tk σ H1 λzs H2=>sp (gV vs zs) H2 Q E
variable {g:List Value->List Value->List Value}{gV:List V->List V->List V}
end
structure aG(N P:List QX)(sc:Uw):Prop where
 kind:sc.kind=.function
 co:sc.isCoroutine=false
 gen:sc.isGenerator=false
 nd:N.Nodup
 pre:N.take P.length=P
 par:∀x∈P,sc.names.lookup x=some .local∨sc.names.lookup x=some .cell
 nofree:∀y∈sc.names,y.2≠.free
theorem o5{kindOf:QX->Option UG}{x:QX}:∀{binds:List (QX×Value)} {m:QX->Option Value},(∀v,(x,v)∉binds)->Zz kindOf binds m x=m x
 | [],_,_=>rfl
 | (n,v)::r,m,h=>by
  unfold Zz;rw[o5 λw hw=>h w (Qe _ hw)]
  split
  ·have:x≠n:=by rintro rfl;exact h v Qd
   simp[this]
  ·rfl
theorem o7{kindOf:QX->Option UG}{x:QX}:∀{binds:List (QX×Value)} {m:QX->Option Value},(∀v,(x,v)∉binds)->ZA kindOf binds m x=m x
 | [],_,_=>rfl
 | (n,v)::r,m,h=>by
  unfold ZA;rw[o7 λw hw=>h w (Qe _ hw)]
  split
  ·rfl
  ·have:x≠n:=by rintro rfl;exact h v Qd
   simp[this]
theorem o6{kindOf:QX->Option UG}{x:QX}{v:Value}:∀{P:List QX} {vs:List Value} {i:Nat} {m:QX->Option Value},P.Nodup->P[i]?=some x->vs[i]?=some v->kindOf x=some .local→
  Zz kindOf (P.zip vs) m x=some v
 | [],_,_,_,_,h,_,_=>by simp at h
 |_::_,[],_,_,_,_,h,_=>by simp at h
 |p::P,w::vs,0,m,nd,h1,h2,hk=>by
  simp at h1 h2;subst h1;subst h2;show Zz kindOf ((p,w)::P.zip vs) m p=_;unfold Zz;rw[o5 λv hv=>(Rq.mp nd).1 (Xh hv).1,Z9 hk];simp
 |p::P,w::vs,i+1,m,nd,h1,h2,hk=>by
  show Zz kindOf ((p,w)::P.zip vs) m x=_;unfold Zz;exact o6 (i:=i) (Rq.mp nd).2 (by simpa using h1) (by simpa using h2) hk
theorem o9{kindOf:QX->Option UG}{x:QX}{v:Value}:∀{P:List QX} {vs:List Value} {i:Nat} {m:QX->Option Value},P.Nodup->P[i]?=some x->vs[i]?=some v->kindOf x≠some .local→
  ZA kindOf (P.zip vs) m x=some v
 | [],_,_,_,_,h,_,_=>by simp at h
 |_::_,[],_,_,_,_,h,_=>by simp at h
 |p::P,w::vs,0,m,nd,h1,h2,hk=>by
  simp at h1 h2;subst h1;subst h2;show ZA kindOf ((p,w)::P.zip vs) m p=_;unfold ZA;rw[o7 λv hv=>(Rq.mp nd).1 (Xh hv).1,aaa hk];simp
 |p::P,w::vs,i+1,m,nd,h1,h2,hk=>by
  show ZA kindOf ((p,w)::P.zip vs) m x=_;unfold ZA;exact o9 (i:=i) (Rq.mp nd).2 (by simpa using h1) (by simpa using h2) hk
def jm(N:List QX)(vs:List V):St:=vs.map some++Qn (N.length-vs.length) none
def bL(CX:tO)(P:Q4)(w:Rm)(K:P4)(mg:QX->Option Value)(base:Qo)(N:List QX)(qual:QX)(scope:Uw)(f:Addr)(cd:Value)(A:Rg)(outer:List Zq)(s:Qc)(H:Hp)(E:XK):Cx where
 prog:=P
 w:=w
 K:=K
 mg:=mg
 base:=base
 A:=A.deeper (WT qual scope s.heap.objs.size f cd)
 N:=N
 s₀:=s
 H₀:=H
 env:=WT qual scope s.heap.objs.size f cd
 outer:=outer
 stack:=WT qual scope s.heap.objs.size f cd::outer
 ex:=[]
 calm:=true
 fn:=λ_=>true
 pn:=[]
 xe:=λe s'=>Qw (QK P w) (A.deeper (WT qual scope s.heap.objs.size f cd)) (leaving (WT qual scope s.heap.objs.size f cd) e) (λ_ s''=>CX outer H s E e s'') (λe' s''=>CX outer H s E e' s'') s'
theorem sR{sc:Uw}(h:sc.names.lookup x=some .cell):∃c,(VN n sc.names []).lookup x=some c:=by
 have q:=WU sc.names n [] (.inl h);exact Ss.mp q
theorem xV{CX:tO}{P:Q4}{w:Rm}{K:P4}{mg:QX->Option Value}{base:Qo}{N ps:List QX}{qual:QX}{scope:Uw}{f:Addr}{cd:Value}{A:Rg}{outer:List Zq}{s s1:Qc}{H:Hp}{E:XK}{us:List Value}{vs:List V}
  (S:aG N ps scope) (hd:A.handled=none) (e0:tD P w K mg base A outer s H) (hl:vs.length=ps.length) (r:bo vs us)
  (x:InCallC s s.heap.objs.size (Zz (WT qual scope s.heap.objs.size f cd).kindOf (ps.zip us) λ_=>none) (VN (s.heap.objs.size+1) scope.names []) (ZA (WT qual scope s.heap.objs.size f cd).kindOf (ps.zip us) λ_=>none) s1) :
  Inv (bL CX P w K mg base N qual scope f cd A outer s H E) [] (jm N vs) H s1:=by
 have hpl:ps.length≤N.length:=by have:=congrArg List.length S.pre;rw[Rv] at this;omega
 obtain⟨h1,tk,rfl,hk⟩:=x.done;have noA:∀b:Addr,b∉(bL CX P w K mg base N qual scope f cd A outer s H E).ex:=λb z=>aad (show b∈([]:List Addr) from z) (by simp)
 refine⟨⟨e0.mod,S.kind,Z,Z,P7 _,λy z c h1 h2=>?_,λy hy=>?_,λy c _ h=>?_,λ_=>hd,Rg.frames_deeper e0.frames,.inr ⟨Z,Z⟩,λb z=>aad z (noA b),e0.bs,e0.bsz,λb _ _=>noA b,λb z=>aad z (noA b),e0.funs,e0.frf⟩,
  rfl,e0.bare,Un.kept hk,⟨_,x.toInCall.ns,λi y v h1 h2 h3=>?_⟩,λy c h=>⟨_,x.cell y c h⟩,e0.hok.fresh (P7 _),λy c h=>?_,λp hp=>aad (show p∈([]:List (Addr×R9)) from hp) (by simp),e0.hok.kept hk,?_⟩
 ·exact name_of_addr x.apart (TK h1) (TK h2)
 ·have hy:scope.names.lookup y=some .cell∨scope.names.lookup y=some .free:=hy;rcases hy with hy|hy
  ·exact sR hy
  ·exact aad Z (S.nofree _ (TK hy))
 ·exact T0 (x.above y c (TK h))
 ·have hi:i<vs.length:=by
   unfold jm at h2;by_cases hi:i<vs.length
   ·exact hi
   ·rw[RG (by simpa using hi)] at h2;rw[UV] at h2
    split at h2<;>cases h2
  have ha:vs[i]?=some v:=by
   unfold jm at h2;rw[RB (by simpa using hi),Ql] at h2
   cases e:vs[i]? with
   |none=>rw[e] at h2;cases h2
   |some a=>rw[e] at h2;cases h2;rfl
  obtain⟨u,hu,rv⟩:=r.get ha;have hp:ps[i]?=some y:=by
   rw[←S.pre,Wm (by omega)];exact h1
  have ndP:ps.Nodup:=by rw[←S.pre];exact S.nd.sublist (List.take_sublist _ _)
  refine⟨u,rv,?_⟩;rcases S.par y (Qf hp) with k|k
  ·exact .inl ⟨k,o6 ndP hp hu k⟩
  ·obtain⟨c,e⟩:=sR (n:=s.heap.objs.size+1) k;refine .inr ⟨.inl k,c,e,?_⟩;have q:=x.cell y c e;rw[o9 ndP hp hu (by show scope.names.lookup y≠_;rw[k];decide)] at q;exact q
 ·exact e0.hok.fresh (T0 (x.above y c (TK h)))
 ·unfold jm;show _=N.length;rw[QC,P8,Ve];omega
theorem F7{CX:tO}{P:Q4}{w:Rm}{K:P4}{mg:QX->Option Value}{base:Qo}{k:Nat}{f:Addr}{name qual:QX}{params:Arguments}{body:List Stmt}{scope:Uw}{dV kV doc pm cdv ct oc:Value}{an od:Option Addr}
  {osl:Array (Option Value)} {N ps:List QX} {sp:Sp} (lk:K.lookup f=some ⟨oc,od,.func (Sx name qual params body scope dV kV doc pm an cdv ct),osl⟩) (hcd:U3 K cdv qual=true) (S:aG N ps scope)
  (len:∀vs H Q E,sp vs H Q E->vs.length=ps.length)
  (hbody:∀(A:Rg) (outer:List Zq) (s:Qc) (H:Hp) (vs:List V) (Q:VK) (E:XK),c9 k (A.deeper (WT qual scope s.heap.objs.size f cdv))->sp vs H Q E→
   ∃t,tM (bL CX P w K mg base N qual scope f cdv A outer s H E) body t/\t { nx:=λ_ H'=>Q .non H',rt:=Q} (jm N vs) H) :
  bC P w K mg base CX (k+1) f (Sx name qual params body scope dV kV doc pm an cdv ct) ps sp:=by
 refine⟨len,λA outer s H args us vs Q E hr e0 hb r hsp=>?_⟩;have hl:=len _ _ _ _ hsp;have KX:K.In s.heap:=e0.mod.kin.keeps λb o e=>(e0.bs b o e).1
 have lim:s.heap.NoLimit:=e0.mod.nolimit.keeps λb o e=>(e0.bs b o e).1
 have hkind:∀y∈ps.zip us,scope.names.lookup y.1=some .local∨(scope.names.lookup y.1=some .cell/\((VN (s.heap.objs.size+1) scope.names []).lookup y.1).isSome=true):=λ⟨n,v⟩ hy=>by
  rcases S.par n (Xh hy).1 with q|q
  ·exact .inl q
  ·exact .inr ⟨q,WU _ _ _ (.inl q)⟩
 refine codeAny_call_function hr.depth (KX _ _ lk) Z S.co S.gen Z (PySem.W.codeRec_of KX hcd) (hb _ _ _ _ ?_);refine wpAny_newFunctionEnv_cells S.kind hkind λenv he s1 x=>?_
 subst he;refine⟨lim.keeps x.toInCall.keep,codeAny_func ?_⟩;obtain⟨t,ht,hq⟩:=hbody A outer s H vs Q E (hr.deeper _) hsp;have I:Inv (bL CX P w K mg base N qual scope f cdv A outer s H E) [] (jm N vs) H s1:=xV S hr.hd e0 hl r x;refine Sd (ht [] s1 (jm N vs) H _ I hq) (λfl s' hs=>?_) λe s' hs=>hs
 have fin:∀{σ':St} {H':Hp} {v:V} {u:Value},Inv (bL CX P w K mg base N qual scope f cdv A outer s H E) [] σ' H' s'->RelV v u->Q v H'->CE outer P w H s Q u s':=
  λ{σ' H' v u} J rv q=>⟨v,H',J.os,J.bare,J.base,J.hok,rv,q⟩
 cases fl with
 |ret u=>
  obtain⟨v,σ',H',J,rv,q⟩:=hs;exact fin J rv q
 |next=>
  obtain⟨σ',H',J,q⟩:=hs;exact fin (v:=V.non) (u:=Sb) J Z q
 |brk=>
  obtain⟨_,_,_,q⟩:=hs;exact Sj q
 |cont=>
  obtain⟨_,_,_,q⟩:=hs;exact Sj q
section
variable {X:Cx}{x:QX}{p pos:Uf}{e:Re}{es:List Re}{t:TA}{id T:String}{r:List V->Hp->VK->Prop}
def LW(r:List V->Hp->VK->Prop)(t:TA):TE:=λσ H Q=>t σ H λvs H1=>r vs H1 Q
theorem Bl(hc:dN X (.builtin id) r)(hg:Gl X x)(hm:X.mg x=none)(hv:S0 x=some (.builtin id))(ha:PA X (e::es) t)(hn:x ≠ "__name__" := by decide)(hdb:(x==("__debug__" : QX))=false:=by decide)
  (he:Qs (e::es) X.env=(false,eval e X.env)::Qs es X.env:=by rfl) (hpl:(Tb pos (Qs es X.env)).any (·.1)=false:=by rfl):PE X (.Call (.Name x p) (e::es) [] pos) (LW r t):=by
 intro pins s σ H Q I h;refine T8 (hU I hg hm hv ?_ hn hdb);exact PyProof.Rows.callWith_builtin1 (bZ (ha pos pins s σ H _ I h) λus s1 ⟨vs,H1,I1,r1,q1⟩=>hc pins s1 σ H1 vs us Q I1 r1 q1) he hpl
theorem xI(hc:dN X (.type T) r)(hg:Gl X x)(hm:X.mg x=none)(hv:S0 x=some (.type T))(ha:PA X (e::es) t)(hn:x ≠ "__name__" := by decide)(hdb:(x==("__debug__" : QX))=false:=by decide)
  (he:Qs (e::es) X.env=(false,eval e X.env)::Qs es X.env:=by rfl) (hpl:(Tb pos (Qs es X.env)).any (·.1)=false:=by rfl):PE X (.Call (.Name x p) (e::es) [] pos) (LW r t):=by
 intro pins s σ H Q I h;refine T8 (hU I hg hm hv ?_ hn hdb);exact R4 (bZ (ha pos pins s σ H _ I h) λus s1 ⟨vs,H1,I1,r1,q1⟩=>hc pins s1 σ H1 vs us Q I1 r1 q1) he hpl
end
end L2
namespace HT
open PySem PyProof.Rows
def lexLt:List Int->List Int->Bool
 | [],[]=>false
 | [],_::_=>true
 |_::_,[]=>false
 |x::xs,y::ys=>if x=y then lexLt xs ys else decide (x<y)
section
open PySem.SeqAt
open PySem.AutoSeq1 (wpAny_loadPart')
open PySem.MeetsSeq PySem.MeetsSeq2 PySem.MeetsSeq3
end
section
variable {prog:Q4}{w:Rm}{A:Rg}{E:Value->Qc->Prop}{s:Qc}
def sIx(n d:Nat):Option Int->Nat
 |none=>d
 |some v=>if v<0 then(v+(n:Int)).toNat else min v.toNat n
theorem sIx_none(n d:Nat):sIx n d none=d:=Z
theorem sIx_nat(n d k:Nat):sIx n d (some (k:Int))=min k n:=by
 show(if(k:Int)<0 then((k:Int)+(n:Int)).toNat else min (k:Int).toNat n)=min k n;rw[aaa (by omega),SI]
theorem G8(n d:Nat)(hd:d≤n)(o:Option Int):sIx n d o≤n:=by
 cases o with
 |none=>exact hd
 |some v=>
  show(if v<0 then(v+(n:Int)).toNat else min v.toNat n)≤n;by_cases hv:v<0
  ·rw[Z9 hv];omega
  ·rw[aaa hv];exact Nat.min_le_right _ _
theorem wt(v:Int)(n d:Nat):(if v<0 then max (v+(n:Int)) 0 else min v (n:Int))=((sIx n d (some v):Nat):Int):=by
 show(if v<0 then max (v+(n:Int)) 0 else min v (n:Int))=(((if v<0 then(v+(n:Int)).toNat else min v.toNat n):Nat):Int);by_cases hv:v<0
 ·simp only[Z9 hv];omega
 ·simp only[aaa hv];omega
theorem uR(lo hi:Option Int)(n:Nat):Ux lo hi 1 (n:Int)=(((sIx n 0 lo:Nat):Int),((sIx n n hi:Nat):Int)):=by
 have h1:¬((1:Int)<0):=by omega
 unfold Ux;simp only[h1,if_false];refine ZB ?_ ?_
 ·cases lo with
  |none=>rfl
  |some v=>exact wt v n 0
 ·cases hi with
  |none=>rfl
  |some v=>exact wt v n n
theorem ur(i j:Nat):Tt (i:Int) (j:Int) 1=j-i:=by
 unfold Tt;have h1:(1:Int)>0:=by omega
 simp only[h1,if_true,WV]
 split<;>omega
theorem mL(p:WW v o)(h:Q o s):Qw (QK prog w) A (Q8.Slice.slicePartIndex v) Q E s:=by
 cases p with
 |none=>exact slicePart_none h
 |int i t=>exact slicePart_int h
theorem gm{sl:Addr}{vl vu:Value}{lo hi:Option Int}{n:Nat}{Q:Int×Int×Nat->Qc->Prop}(hs:s.heap.IsSliceOf sl vl vu .none)(pl:WW vl lo)(pu:WW vu hi)
  (h:Q (((sIx n 0 lo:Nat):Int),1,sIx n n hi-sIx n 0 lo) s):Qw (QK prog w) A (VW (.ref sl) (Sq (n:Int))) Q E s:=by
 obtain⟨os,hos,hcs,hds⟩:=id hs;unfold VW Q8.Slice.sliceFields;refine P9 (P9 (Tk hos hds (x:=vl) Z (P9 (Tk hos hds (x:=vu) Z (P9 (Tk hos hds (x:=.none) Z (wpAny_pure ?_)))))));refine P9 (slicePart_none ?_);show Qw _ _ (if((1:Int)==0)=true then _ else _) _ _ s;rw[aaa (by decide)];refine P9 (mL pl (P9 (mL pu (P9 (wpAny_pure ?_)))));show Qw _ _ (match Ux lo hi 1 (n:Int) with | (lo,hi)=>Sq (lo,(1:Int),Tt lo hi 1)) _ _ s;rw[uR lo hi n];show Qw _ _ (Sq (((sIx n 0 lo:Nat):Int),(1:Int),Tt ((sIx n 0 lo:Nat):Int) ((sIx n n hi:Nat):Int) 1)) _ _ s;rw[ur];exact wpAny_pure h
theorem A5(xs:Array Value)(i k:Nat):((P6 k).filterMap λ(m:Nat)=>xs[((i:Int)+(m:Int)*1).toNat]?).toArray=((xs.toList.drop i).take k).toArray:=by
 have e:(λ(m:Nat)=>xs[((i:Int)+(m:Int)*1).toNat]?)=λm=>xs[i+m]?:=by
  funext m
  have:((i:Int)+(m:Int)*1).toNat=i+m:=by omega
  rw[this]
 rw[e];have:=pick_run xs i k;rw[List.filterMap_map] at this;have e2:((λx=>xs[x]?)∘λx=>i+x)=λm=>xs[i+m]?:=Z
 rw[e2] at this;rw[this]
theorem getItem_tuple_cut{t sl:Addr}{items:Array Value}{vl vu:Value}{lo hi:Option Int}{Q:Value->Qc->Prop}(ht:Y6 s.heap t items)(hs:s.heap.IsSliceOf sl vl vu .none)(pl:WW vl lo)(pu:WW vu hi)
  (hw:¬(sIx items.size 0 lo=0/\sIx items.size items.size hi=items.size))
  (h:Q (.ref s.heap.objs.size) { s with heap:=s.heap.push { cls:=.type "tuple",data:=.seq ((items.toList.drop (sIx items.size 0 lo)).take (sIx items.size items.size hi-sIx items.size 0 lo)).toArray} })
  (hsz:items.size≤sizeLine):Qw (QK prog w) A (UZ (.ref t) (.ref sl)) Q E s:=by
 have htake:sizeOk (.seq ((items.toList.drop (sIx items.size 0 lo)).take (sIx items.size items.size hi-sIx items.size 0 lo)).toArray):=by
  show((items.toList.drop (sIx items.size 0 lo)).take (sIx items.size items.size hi-sIx items.size 0 lo)).toArray.size≤sizeLine;rw[QR,Rv,TQ,Si];omega
 have hj:sIx items.size items.size hi≤items.size:=G8 _ _ (P7 _) hi;obtain⟨os,hos,hcs,hds⟩:=id hs;have hTs:s.TypeIs (.ref sl) "slice" := ⟨os,hos,hcs⟩;unfold UZ
 try with_reducible refine wpAny_holding ?_
 first|refine P9 (wpAny_pure ?_)|skip
 refine P9 (Yt ht.typeIs (by decide) ?_);refine P9 (SC (name:=Qr "__getitem__") ht.typeIs RM (SW RM ht.typeIs XQ ?_ (Yb _ _)))
 show Qw _ _ (VX (.ref t) >>= _) _ _ s;refine P9 (tupleItemsOf_ ht ?_);refine P9 (WX hTs ?_);rw[Z9 (by decide)];refine P9 (gm hs pl pu ?_);have hno:¬((((sIx items.size 0 lo:Nat):Int)==0&&(1:Int)==1&&(sIx items.size items.size hi-sIx items.size 0 lo)==items.size)=true):=by
  intro q;rw[QM,QM] at q;have q1:((sIx items.size 0 lo:Nat):Int)=0:=VO q.1.1;have q2:sIx items.size items.size hi-sIx items.size 0 lo=items.size:=VO q.2;exact hw ⟨by omega,by omega⟩
 show Qw _ _ (if(((sIx items.size 0 lo:Nat):Int)==0&&(1:Int)==1&&(sIx items.size items.size hi-sIx items.size 0 lo)==items.size)=true then _ else _) _ _ s;rw[aaa hno,A5]
 first
  |exact P9 (m:=Su _) (RK (wpAny_pure ⟨_,rfl,wpAny_pure h⟩) htake)
  |exact P9 (m:=Su _) (RK (P9 (wpAny_pure (wpAny_pure ⟨_,rfl,wpAny_pure h⟩))) htake)
  |exact P9 (P9 (m:=Su _) (RK (wpAny_pure (wpAny_pure ⟨_,rfl,wpAny_pure h⟩)) htake))
  |exact P9 (P9 (m:=Su _) (RK (wpAny_pure ⟨_,rfl,wpAny_pure h⟩) htake))
end
end HT
namespace L2
open PySem PySem.Spec PyProof.Rows
abbrev TO:=St->Hp->(Option Int->Hp->Prop)->Prop
def PO(X:Cx)(e:Option Re)(t:TO):Prop:=
 ∀(pins:List (Addr×R9)) (s:Qc) (σ:St) (H:Hp) (Q:Option Int->Hp->Prop),Inv X pins σ H s->t σ H Q→
  Qw (QK X.prog X.w) X.A (evalPart e X.env) (λu s'=>∃o H',Inv X pins σ H' s'/\WW u o/\Q o H') X.xe s
def vd:TO:=λ_ H Q=>Q none H
def Fv(t:TE):TO:=λσ H Q=>t σ H λx H1=>∃i,x=.int i/\Q (some i) H1
section
variable {X:Cx}{e:Re}{te:TE}{lo hi:Option Re}{tl th:TO}{pos p2:Uf}
theorem D6:PO X none vd:=by
 intro pins s σ H Q I h;rw[evalPart_none];exact wpAny_pure ⟨none,H,I,.none,h⟩
theorem D5(h:PE X e te):PO X (some e) (Fv te):=by
 intro pins s σ H Q I hw;rw[evalPart_some];refine bZ (h pins s σ H _ I hw) λu s1 ⟨x,H1,I1,r1,q1⟩=>?_
 obtain⟨i,rfl,q⟩:=q1;obtain⟨t,rfl⟩:=r1;exact⟨some i,H1,I1,.int i t,q⟩
def CT(X:Cx)(r:V->Option Int->Option Int->Hp->VK->Prop):Prop:=
 ∀(pins:List (Addr×R9)) (s:Qc) (σ:St) (H:Hp) (x:V) (v vl vu:Value) (lo hi:Option Int) (sl:Addr) (Q:VK),Inv X pins σ H s->RelV x v->s.heap.IsSliceOf sl vl vu .none->WW vl lo->WW vu hi->r x lo hi H Q→
  ∃T id,ZC (.type T) "__getitem__"=Sq (some (.builtin id))/\s.TypeIs v T/\Qw (QK X.prog X.w) X.A (UZ v (.ref sl)) (EP X pins σ Q) X.xe s
theorem CT.or(h:CT X r)(h':CT X r'):CT X (λx lo hi H Q=>r x lo hi H Q∨r' x lo hi H Q):=by
 intro pins s σ H x v vl vu lo hi sl Q I rx hs pl pu q;rcases q with q|q
 ·exact h pins s σ H x v vl vu lo hi sl Q I rx hs pl pu q
 ·exact h' pins s σ H x v vl vu lo hi sl Q I rx hs pl pu q
def Nw(r:V->Option Int->Option Int->Hp->VK->Prop)(te:TE)(tl th:TO):TE:=λσ H Q=>te σ H λx H1=>tl σ H1 λl H2=>th σ H2 λu H3=>r x l u H3 Q
theorem Bb(hr:CT X r)(he:PE X e te)(hl:PO X lo tl)(hu:PO X hi th):PE X (.Subscript e (.Slice lo hi none p2) pos) (Nw r te tl th):=by
 intro pins s σ H Q I h;refine ZD (bZ (he pins s σ H _ I h) λv s1 ⟨x,H1,I1,r1,q1⟩=>?_);refine wpAny_Slice (bZ (hl pins s1 σ H1 _ I1 q1) λvl s2 ⟨l,H2,I2,pl,q2⟩=>bZ (hu pins s2 σ H2 _ I2 q2) λvu s3 ⟨u,H3,I3,pu,q3⟩=>?_);rw[evalPart_none];refine wpAny_pure ?_;have I4:Inv X pins σ H3 { s3 with heap:=s3.heap.push { cls:=.type "slice",data:=.fields #[vl,vu,.none]} }:=I3.kept (t':=s3.toks) λb ob q=>Qb _ q
 obtain⟨T,id,hT,ht,hg⟩:=hr pins { s3 with heap:=s3.heap.push { cls:=.type "slice",data:=.fields #[vl,vu,.none]} } σ H3 x v vl vu l u s3.heap.objs.size Q I4 r1 (Qo.IsSliceOf.new ..) pl pu q3;show Qw (QK X.prog X.w) X.A (XV e (.Slice lo hi none p2) v (.ref s3.heap.objs.size)) (EP X pins σ Q) X.xe { s3 with heap:=s3.heap.push { cls:=.type "slice",data:=.fields #[vl,vu,.none]} };exact tail_any (ops:=[.ref s3.heap.objs.size,v]) ht hT hg (by with_unfolding_all rfl)
def iH(xs:List V)(lo hi:Option Int):List V:=(xs.drop (HT.sIx xs.length 0 lo)).take (HT.sIx xs.length xs.length hi-HT.sIx xs.length 0 lo)
theorem sN(xs:List V)(lo hi:Option Int):(iH xs lo hi).length≤xs.length:=by
 unfold iH;rw[Rv,TQ];omega
def KD(K:P4):V->Option Int->Option Int->Hp->VK->Prop:=λx lo hi H Q=>∃a xs,x=.ref a/\bF K H a xs∧
 ¬(HT.sIx xs.length 0 lo=0/\HT.sIx xs.length xs.length hi=xs.length)/\∀p,H p=none->Q (.ref p) (upd H p (.tup (iH xs lo hi)))
theorem zy:CT X (KD X.K):=by
 intro pins s σ H x v vl vu lo hi sl Q I rx hs pl pu h;obtain⟨a,xs,rfl,hx,hw,q⟩:=h
 cases rx
 obtain⟨its,r,ht,hz⟩:=I.tuple hx;have hlen:its.toArray.size=xs.length:=by rw[QR];exact r.length.symm
 refine⟨"tuple",_,RM.lookup,ht.typeIs,?_⟩;refine HT.getItem_tuple_cut ht hs pl pu (by rw[hlen];exact hw) ?_ (by rw[hlen];exact hz);rw[hlen];refine⟨.ref s.heap.objs.size,_,I.laid (t':=s.toks) (o:=.tup (iH xs lo hi)) (λb ob q=>Qb _ q) (P7 _) ?_,Z,q _ (I.hok.fresh (P7 _))⟩;exact⟨QU (sN xs lo hi) hz,_,(r.drop (HT.sIx xs.length 0 lo)).take (HT.sIx xs.length xs.length hi-HT.sIx xs.length 0 lo),XE _ _⟩
def OW(K:P4):R2:=λx y H Q=>∃a b ns ms,x=.ref a/\y=.ref b/\bF K H a (ns.map V.int)/\bF K H b (ms.map V.int)/\Q (.bl (HT.lexLt ns ms)) H
def NV(K:P4):R2:=λx y H Q=>∃a b xs ys,x=.ref a/\y=.ref b/\bF K H a xs/\bF K H b ys/\xs≠[]/\xs.length+ys.length≤sizeLine∧
 (ys=[]->Q (.ref a) H)/\(ys≠[]->∀p,H p=none->Q (.ref p) (upd H p (.tup (xs++ys))))
end
def B2(n:Nat)(i:Int):Option Nat:=if 0≤i then(if i<n then some i.toNat else none) else if -(n:Int)≤i then some (i+n).toNat else none
def uP{α:Type}(xs:List α)(i:Int):Option α:=(B2 xs.length i).bind λj=>xs[j]?
theorem vU(h:B2 n i=some j):ZX i n=some j/\j<n/\-(n:Int)≤i/\i<n:=by
 unfold B2 at h;by_cases h0:0≤i
 ·rw[Z9 h0] at h;by_cases h1:i<n
  ·rw[Z9 h1] at h;have e:i.toNat=j:=RI h;exact⟨by rw[Y8 h0 h1,e],by omega,by omega,h1⟩
  ·rw[aaa h1] at h;cases h
 ·rw[aaa h0] at h;by_cases h1:-(n:Int)≤i
  ·rw[Z9 h1] at h;have e:(i+n).toNat=j:=RI h;exact⟨by rw[Yu (by omega) h1,e],by omega,h1,by omega⟩
  ·rw[aaa h1] at h;cases h
theorem wE{xs:List α}(h:uP xs i=some v):∃j,ZX i xs.length=some j/\xs[j]?=some v/\j<xs.length/\-(xs.length:Int)≤i/\i<xs.length:=by
 unfold uP at h
 cases e:B2 xs.length i with
 |none=>rw[e] at h;cases h
 |some j=>
  rw[e] at h;obtain⟨h1,h2,h3,h4⟩:=vU e;exact⟨j,h1,h,h2,h3,h4⟩
theorem be{α:Type}{xs:List α}{j:Nat}{v:α}(h:xs[j]?=some v):uP xs (j:Int)=some v:=by
 have hj:j<xs.length:=(Qq.mp h).1;have e:B2 xs.length (j:Int)=some j:=by
  unfold B2;rw[Z9 (by omega),Z9 (by omega)];simp
 unfold uP;rw[e];exact h
theorem CJ(xs:List α)(v:α):uP (xs++[v]) (-1)=some v:=by
 have hl:(xs++[v]).length=xs.length+1:=by simp
 have e:B2 (xs++[v]).length (-1)=some xs.length:=by
  unfold B2;rw[hl,aaa (by decide),Z9 (by omega)]
  congr 1
  omega
 unfold uP;rw[e];show(xs++[v])[xs.length]?=some v;simp
def qI(b:Re):Prop:=∀o i,Wb b false o i=Z2 [o,i] (UZ o i)
def JK(X:Cx)(r:R2):Prop:=
 ∀(value slice:Re) (pins:List (Addr×R9)) (s:Qc) (σ:St) (H:Hp) (x y:V) (v u:Value) (Q:VK),Inv X pins σ H s->RelV x v->RelV y u->r x y H Q→
  Wb slice false v u=Z2 [v,u] (UZ v u)->Qw (QK X.prog X.w) X.A (XV value slice v u) (EP X pins σ Q) X.xe s
def Nh(X:Cx)(id:String)(r:V->List V->Hp->VK->Prop):Prop:=
 ∀(pins:List (Addr×R9)) (s:Qc) (σ:St) (H:Hp) (x:V) (xs:List V) (v:Value) (us:List Value) (Q:VK),Inv X pins σ H s->RelV x v->bo xs us->r x xs H Q→
  Qw (QK X.prog X.w) X.A (call (.builtin id) (v::us)) (EP X pins σ Q) X.xe s
section
variable {X:Cx}{a b:Re}{ta tb:TE}{pos:Uf}
theorem KU(hr:JK X r)(ha:PE X a ta)(hb:PE X b tb)(hs:qI b):PE X (.Subscript a b pos) (Dg r ta tb):=by
 intro pins s σ H Q I h;exact ZD (JA ha hb I h λv u s2 x y H2 I2 rx ry q=>hr a b pins s2 σ H2 x y v u Q I2 rx ry q (hs _ _))
def Hf(K:P4):R2:=λx y H Q=>∃p xs i v,x=.ref p/\y=.int i/\aX K H p xs/\uP xs i=some v/\Q v H
def He(K:P4):R2:=λx y H Q=>∃p xs i v,x=.ref p/\y=.int i/\bF K H p xs/\uP xs i=some v/\Q v H
def MF:R2:=λx y H Q=>∃z i c,x=.str z/\y=.int i/\z.length≤sizeLine/\uP z.cps.toList i=some c/\Q (.str ⟨#[c]⟩) H
theorem cc:JK X (Hf X.K):=by
 intro value slice pins s σ H x y v u Q I rx ry h hs;obtain⟨p,xs,i,z,rfl,rfl,hq,he,q⟩:=h
 cases rx
 obtain⟨t,rfl⟩:=ry;obtain⟨its,r,pl,hz⟩:=I.list hq;obtain⟨j,h1,h2,h3,h4,h5⟩:=wE he;obtain⟨w,ew,rw'⟩:=r.get h2;have hl:=r.length;have hn:=qu;have fin:EP X pins σ Q w s:=⟨z,H,I,rw',q⟩;by_cases h0:0≤i
 ·have hj:i.toNat=j:=by
   rw[Y8 h0 h5] at h1;exact RI h1
  exact item_listR pl.isList h0 (by omega) (by rw[hj];simpa using ew) fin hs
 ·have hj:(i+(its.toArray.size:Int)).toNat=j:=by
   rw[Yu (by omega) h4] at h1;rw[QR,←hl];exact RI h1
  exact WY (x:=w) pl.isList.typeIs slot_list_getitem.lookup
   (wpAny_getItem_list_neg (Q:=λr s'=>r=w/\EP X pins σ Q r s') pl.isList (by omega) (by rw[QR]<;>omega) (by omega) (by rw[hj];simpa using ew) ⟨Z,fin⟩) hs
theorem aB:JK X (He X.K):=by
 intro value slice pins s σ H x y v u Q I rx ry h hs;obtain⟨p,xs,i,z,rfl,rfl,hq,he,q⟩:=h
 cases rx
 obtain⟨t,rfl⟩:=ry;obtain⟨its,r,pl,hz⟩:=I.tuple hq;obtain⟨j,h1,h2,h3,h4,h5⟩:=wE he;obtain⟨w,ew,rw'⟩:=r.get h2;have hl:=r.length;have hn:=qu;have fin:EP X pins σ Q w s:=⟨z,H,I,rw',q⟩;exact WY (x:=w) pl.typeIs slot_tuple_getitem.lookup
  (getItem_tuple (j:=j) (Q:=λr s'=>r=w/\EP X pins σ Q r s') pl (by omega) (by omega) (by rw[QR,←hl];exact h1) (by simpa using ew) ⟨Z,fin⟩) hs
def PL(K:P4):R2:=λx y H Q=>Hf K x y H Q∨He K x y H Q∨MF x y H Q
theorem ux(its:List Value)(n j:Nat)(u:Value):T9 (·.setIfInBounds j u) { cls:=.type "list",data:=.seq its.toArray n}={ cls:=.type "list",data:=.seq (its.set j u).toArray n}:=by
 simp[T9]
theorem Inv.lst{pins:List (Addr×R9)}{σ:St}{H:Hp}{s:Qc}{p:Addr}{xs:List V}(I:Inv X pins σ H s)(h:H p=some (.lst xs)) :
  ∃(its:List Value) (n:Nat),bo xs its/\s.heap.get? p=some { cls:=.type "list",data:=.seq its.toArray n}/\xs.length≤sizeLine:=by
 obtain⟨z,its,n,r,e⟩:=I.hok p _ h;exact⟨its,n,r,e,z⟩
theorem Inv.lstUpd{pins:List (Addr×R9)}{σ:St}{H:Hp}{s:Qc}{p:Addr}{xs ys:List V}{its its':List Value}{n n':Nat}{f:R9->R9}(I:Inv X pins σ H s)(h:H p=some (.lst xs))
  (ho:s.heap.get? p=some { cls:=.type "list",data:=.seq its.toArray n}) (hf:f { cls:=.type "list",data:=.seq its.toArray n}={ cls:=.type "list",data:=.seq its'.toArray n'}) (r:bo ys its') (hz:ys.length≤sizeLine) (t:Nat) :
  Inv X pins σ (upd H p (.lst ys)) { s with heap:=s.heap.update p f,toks:=t}:=by
 have e:(s.heap.update p f).get? p=some { cls:=.type "list",data:=.seq its'.toArray n'}:=by
  rw[Ts f ho (by rw[hf]<;>rfl),hf]
 refine I.write (x:=p) (e:=p) (by rw[h];trivial) (.inl Z) (λb u hb q=>(Ry _ _ (T5 hb)).trans q) ⟨_,e⟩ ?_;exact⟨hz,its',n',r,e⟩
def KF:V->V->V->Hp->(Hp->Prop)->Prop:=λo i v H Q=>∃p xs k j,o=.ref p/\i=.int k/\H p=some (.lst xs)/\B2 xs.length k=some j/\Q (upd H p (.lst (xs.set j v)))
theorem gs:JH X KF:=by
 intro pins s σ H o i v ov iv u Q I ro ri rv h;obtain⟨p,xs,k,j,rfl,rfl,hp,hj,q⟩:=h
 cases ro
 obtain⟨t,rfl⟩:=ri;obtain⟨its,n,r,ho,hz⟩:=I.lst hp;obtain⟨h1,h2,h3,h4⟩:=vU hj;have hl:=r.length;have hn:=qu;have I':Inv X pins σ (upd H p (.lst (xs.set j v))) { s with heap:=s.heap.update p (T9 (·.setIfInBounds j u))}:=
  I.lstUpd hp ho (ux its n j u) (r.set rv j) (by rw[Sf];exact hz) s.toks
 by_cases h0:0≤k
 ·have hk:k.toNat=j:=by
   rw[Y8 h0 h4] at h1;exact RI h1
  exact PySem.W.ki_setAt ho h0 (by omega) (by rw[QR,←hl];exact h4) (by rw[hk];exact⟨_,I',q⟩)
 ·have hk:(k+(its.toArray.size:Int)).toNat=j:=by
   rw[Yu (by omega) h3] at h1;rw[QR,←hl];exact RI h1
  exact PySem.W.ki_setBack ho (by omega) (by rw[QR,←hl];exact h3) (by omega) (by rw[hk];exact⟨_,I',q⟩)
def OS(K:P4):V->Option Int->Option Int->Hp->VK->Prop:=λx lo hi H Q=>∃a xs,x=.ref a/\aX K H a xs/\∀p,H p=none->Q (.ref p) (upd H p (.lst (iH xs lo hi)))
def jN:V->Bool
 | .non=>true
 | .bl _=>true
 | .int _=>true
 | .str _=>true
 |_=>false
def F8:V->V->Bool
 | .non,.non=>true
 | .bl a,.bl b=>a==b
 | .bl a,.int b=>(if a then 1 else 0)==b
 | .int a,.bl b=>a==(if b then 1 else 0)
 | .int a,.int b=>a==b
 | .str a,.str b=>a==b
 |_,_=>false
theorem Jn(ry:RelV y u)(rx:RelV x v)(fy:jN y=true)(fx:jN x=true):RZ A s u v (F8 y x):=by
 cases y with
 |non=>
  cases ry
  cases x with
  |non=>cases rx;exact RZ.same _
  |bl b=>cases rx;exact RZ.none_bool b
  |int b=>obtain⟨t,rfl⟩:=rx;exact RZ.none_int b t
  |str b=>obtain⟨t,rfl⟩:=rx;exact RZ.none_str b t
  |_=>exact aad (show false=true from fx) QB
 |bl a=>
  cases ry
  cases x with
  |non=>cases rx;exact RZ.bool_none a
  |bl b=>cases rx;exact RZ.bool_bool a b
  |int b=>obtain⟨t,rfl⟩:=rx;exact RZ.bool_int a b t
  |str b=>obtain⟨t,rfl⟩:=rx;exact RZ.bool_str a b t
  |_=>exact aad (show false=true from fx) QB
 |int a=>
  obtain⟨t',rfl⟩:=ry
  cases x with
  |non=>cases rx;exact RZ.int_none a t'
  |bl b=>cases rx;exact RZ.int_bool a t' b
  |int b=>obtain⟨t,rfl⟩:=rx;exact RZ.int_int a t' b t
  |str b=>obtain⟨t,rfl⟩:=rx;exact X4 a t' b t
  |_=>exact aad (show false=true from fx) QB
 |str a=>
  obtain⟨t',rfl⟩:=ry
  cases x with
  |non=>cases rx;exact RZ.str_none a t'
  |bl b=>cases rx;exact RZ.str_bool a t' b
  |int b=>obtain⟨t,rfl⟩:=rx;exact X5 a t' b t
  |str b=>obtain⟨t,rfl⟩:=rx;exact RZ.str_str a t' b t
  |_=>exact aad (show false=true from fx) QB
 |_=>exact aad (show false=true from fy) QB
def EX(x:V)(u:Value):Bool:=match u with
 | .none=>F8 .non x
 | .bool b=>F8 (.bl b) x
 | .int i _=>F8 (.int i) x
 | .str z _=>F8 (.str z) x
 |_=>false
theorem Ck(r:RelV y u)(f:jN y=true):EX x u=F8 y x:=by
 cases y with
 |non=>cases r;rfl
 |bl b=>cases r;rfl
 |int i=>obtain⟨t,rfl⟩:=r;rfl
 |str z=>obtain⟨t,rfl⟩:=r;rfl
 |_=>exact aad (show false=true from f) QB
theorem qF{x:V}:∀{xs:List V} {us:List Value},bo xs us->xs.all jN=true->us.any (EX x)=xs.any λy=>F8 y x
 |_,_,.nil,_=>rfl
 |y::xs,u::us,.cons r t,f=>by
  rw[Wo,QM] at f;rw[S1,S1,Ck r f.1,qF t f.2]
theorem m9{A:Rg}{s:Qc}{x:V}{v:Value}(rx:RelV x v)(fx:jN x=true):∀{xs:List V} {us:List Value},bo xs us->xs.all jN=true->∀u∈us,RZ A s u v (EX x u)
 |_,_,.nil,_=>λu hu=>by cases hu
 |y::xs,u::us,.cons r t,f=>λu' hu=>by
  rw[Wo,QM] at f;rcases Qm.mp hu with rfl|hu
  ·rw[Ck r f.1];exact Jn r rx f.1 fx
  ·exact m9 rx fx t f.2 u' hu
def Ji(x:V)(xs:List V):Bool:=xs.any λy=>F8 y x
def NS(K:P4)(neg:Bool):R2:=λx y H Q=>∃p xs,y=.ref p/\(aX K H p xs∨bF K H p xs)/\jN x=true/\xs.all jN=true/\Q (.bl (if neg then !Ji x xs else Ji x xs)) H
theorem ql:gH X (RL .NotIn) (NS X.K true):=by
 intro pins s σ H x y v u Q I rx ry h;obtain⟨p,xs,rfl,hq,fx,fs,q⟩:=h
 cases ry
 rcases hq with hq|hq
 ·obtain⟨its,r,pl,hz⟩:=I.list hq;refine SeqAt.notIn_listAt (EX x) pl.isList (λw hw=>m9 rx fx r fs w (by simpa using hw)) ⟨.bl _,H,I,Z,?_⟩;rw[show its.toArray.any (EX x)=its.any (EX x) by simp,qF r fs];exact q
 ·obtain⟨its,r,pl,hz⟩:=I.tuple hq;refine SeqAt.notIn_tupleAt (EX x) pl (λw hw=>m9 rx fx r fs w (by simpa using hw)) ⟨.bl _,H,I,Z,?_⟩;rw[show its.toArray.any (EX x)=its.any (EX x) by simp,qF r fs];exact q
theorem aU:dN X (.builtin "len") (λxs H Q=>∃p ys,xs=[.ref p]/\(aX X.K H p ys∨bF X.K H p ys)/\Q (.int ys.length) H):=by
 intro pins s σ H xs us Q I r h;obtain⟨p,ys,rfl,hq,q⟩:=h;obtain⟨u,rfl,rx⟩:=gh r
 cases rx
 have hn:=qu;rcases hq with hq|hq
 ·obtain⟨its,r',pl,hz⟩:=I.list hq;have hlen:=r'.length;exact Calls.call_len_list pl.isList (by simp only[QR]<;>omega) ⟨.int ys.length,H,I.tok _,⟨s.toks+1,by rw[QR,hlen]⟩,q⟩
 ·obtain⟨its,r',pl,hz⟩:=I.tuple hq;have hlen:=r'.length;exact len_tuple pl (by simp only[QR]<;>omega) ⟨.int ys.length,H,I.tok _,⟨s.toks+1,by rw[QR,hlen]⟩,q⟩
theorem bw:dN X (.type "tuple") (λxs H Q=>∃p ys,xs=[.ref p]/\((aX X.K H p ys/\∀l,H l=none->Q (.ref l) (upd H l (.tup ys)))∨(bF X.K H p ys/\Q (.ref p) H))):=by
 intro pins s σ H xs us Q I r h;obtain⟨p,ys,rfl,h⟩:=h;obtain⟨u,rfl,rx⟩:=gh r
 cases rx
 rcases h with⟨hq,q⟩ | ⟨hq,q⟩
 ·obtain⟨its,r',pl,hz⟩:=I.list hq;have hlen:=r'.length;refine call_tuple_list pl.isList (λh' kp=>?_) (by simp only[QR]<;>omega);have I1:Inv X pins σ H { s with heap:=h'}:=I.kept (t':=s.toks) kp;have I2:Inv X pins σ (upd H h'.objs.size (.tup ys)) { s with heap:=h'.push { cls:=.type "tuple",data:=.seq its.toArray} }:=
   I1.laid (t':=s.toks) (λb o e=>Qb _ e) (P7 _) (show ObjOk X.prog X.w _ _ _ (.tup ys) from⟨hz,its,r',XE _ _⟩)
  exact⟨.ref h'.objs.size,_,I2,Z,q _ (I1.hok.fresh (P7 _))⟩
 ·obtain⟨its,r',pl,hz⟩:=I.tuple hq;exact call_tuple_same pl ⟨.ref p,H,I,Z,q⟩
def Mq(K:P4)(T:String)(x:V)(H:Hp):Prop:=match x with
 | .str _=>T = "str"
 | .int _=>T = "int"
 | .ref p=>(T = "list"/\∃xs,aX K H p xs)∨(T = "tuple"/\∃o,K.lookup p=some o/\o.cls=.type "tuple"/\o.dict=none)∨
   (T = "dict"/\((∃kvs,H p=some (.dK kvs))∨∃kvs,H p=some (.dT kvs)))∨(T = "set"/\∃S n,H p=some (.set S n))
 |_=>False
theorem Gm{pins:List (Addr×R9)}{σ:St}{H:Hp}{s:Qc}{T:String}{x:V}{v:Value}(I:Inv X pins σ H s)(r:RelV x v)(ty:Mq X.K T x H) :
  s.TypeIs v T/\∀a,v=.ref a->∃ob,s.heap.get? a=some ob/\ob.dict=none:=by
 cases x with
 |str z=>
  obtain⟨t,rfl⟩:=r
  cases(show T = "str" from ty)
  exact⟨typeIs_str s z t,λ_ e=>nomatch e⟩
 |int i=>
  obtain⟨t,rfl⟩:=r
  cases(show T = "int" from ty)
  exact⟨Uk s i t,λ_ e=>nomatch e⟩
 |ref p=>
  cases r
  rcases ty with⟨rfl,xs,hq⟩ | ⟨rfl,o,hk,hc,hd⟩ | ⟨rfl,hk⟩ | ⟨rfl,S,n,hk⟩
  ·obtain⟨its,_,pl,_⟩:=I.list hq;refine⟨pl.isList.typeIs,λa e=>?_⟩
   cases e
   obtain⟨o,n,e,c,hd,_⟩:=pl;exact⟨o,e,hd⟩
  ·refine⟨⟨o,I.kIn p o hk,hc⟩,λa e=>?_⟩
   cases e
   exact⟨o,I.kIn _ o hk,hd⟩
  ·have z:∃o,s.heap.get? p=some o/\o.ExactDict:=by
    rcases hk with⟨kvs,hk⟩ | ⟨kvs,hk⟩
    ·obtain⟨_,_,_,_,o,_,_,e,ex,_⟩:=I.hok p _ hk;exact⟨o,e,ex⟩
    ·obtain⟨_,_,_,_,o,_,_,e,ex,_⟩:=I.hok p _ hk;exact⟨o,e,ex⟩
   obtain⟨o,e,ex⟩:=z;refine⟨⟨o,e,ex.1⟩,λa e2=>?_⟩
   cases e2
   exact⟨o,e,ex.2.1⟩
  ·obtain⟨o,_,_,_,e,ex,_⟩:=I.hok p _ hk;refine⟨⟨o,e,ex.1⟩,λa e2=>?_⟩
   cases e2
   exact⟨o,e,ex.2.1⟩
 |_=>exact Sj ty
def OL(K:P4)(T:String)(r:V->List V->Hp->VK->Prop)(to:TE):TE:=λσ H Q=>to σ H λx H1=>Mq K T x H1/\r x [] H1 Q
def NE(K:P4)(T:String)(r:V->List V->Hp->VK->Prop)(to:TE)(t:TA):TE:=λσ H Q=>to σ H λx H1=>Mq K T x H1/\t σ H1 λxs H2=>r x xs H2 Q
variable {o e:Re}{es:List Re}{to:TE}{t:TA}{name:QX}{apos cpos:Uf}{T id:String}{r:V->List V->Hp->VK->Prop}
theorem KW(pa:PlainAttrs T)(slot:Slot T name id)(hty:typeOf (.builtin id)=Sq (.type "method_descriptor"))(hm:Nh X id r)(ho:PE X o to)(ha:PA X (e::es) t)
  (hbase:Tj o name X.env (eval o X.env)=eval o X.env:=by rfl)
  (hfew:((Tb cpos (Qs (e::es) X.env)).all (λx=>!x.1)&&(Vs cpos (TW [] X.env)).all (λx=>x.1.isSome)
  &&decide ((e::es).length+([]:List VG).length+(if([]:List VG).isEmpty then 0 else 1)<30))=true:=by rfl)
  (hline:(apos.endLine==cpos.line)=true:=by rfl) (hs:Qs (e::es) X.env=(false,eval e X.env)::Qs es X.env:=by rfl) (hplain:(Tb cpos (Qs es X.env)).any (·.1)=false:=by rfl) :
  PE X (.Call (.Attribute o name apos) (e::es) [] cpos) (NE X.K T r to t):=by
 intro pins s σ H Q I h;refine wpAny_Call_method_late hbase hfew hline Z (bZ (ho pins s σ H _ I h) λv s1 ⟨x,H1,I1,r1,ty,q1⟩=>?_);obtain⟨h1,h2⟩:=Gm I1 r1 ty;refine⟨T,id,pa,slot,hty,h1,h2,?_⟩;have hA:=ha cpos pins s1 σ H1 _ I1 q1;rw[hs] at hA ⊢;refine Calls.callWith_builtin (by show(false||(Tb cpos (Qs es X.env)).any (·.1))=false;rw[hplain]<;>rfl) (Calls.evalArgs_plain ?_);exact bZ hA λus s2 ⟨vs,H2,I2,r2,q2⟩=>hm pins s2 σ H2 x vs v us Q I2 r1 r2 q2
end
def Op(X:Cx)(id:String)(r:V->List V->Hp->VK->Prop):Prop:=
 ∀(pins:List (Addr×R9)) (s:Qc) (σ:St) (H:Hp) (x:V) (xs:List V) (v:Value) (us:List Value) (Q:VK),Inv X pins σ H s->RelV x v->bo xs us->r x xs H Q→
  Qw (QK X.prog X.w) X.A (call (.builtin id) (v::us)) (EP X pins σ Q) X.xe s
theorem bo.one:∀{x:V} {us:List Value},bo [x] us->∃u,us=[u]/\RelV x u
 |_,_,.cons r .nil=>⟨_,Z,r⟩
theorem bo.eraseIdx:∀{xs:List V} {us:List Value} (i:Nat),bo xs us->bo (xs.eraseIdx i) (us.eraseIdx i)
 |_,_,_,.nil=>.nil
 |_,_,0,.cons _ t=>t
 |_,_,i+1,.cons r t=>.cons r (bo.eraseIdx i t)
section
variable {X:Cx}{pins:List (Addr×R9)}{σ:St}{H:Hp}{s:Qc}{l b:Addr}{xs ys zs:List V}
theorem Inv.lset{its its':List Value}(I:Inv X pins σ H s)(hH:H l=some (.lst xs))
  (e:s.heap.get? l=some { cls:=.type "list",data:=.seq its.toArray n}) (hf:f its.toArray=its'.toArray) (hv:bo ys its') (hz:ys.length≤sizeLine):
  Inv X pins σ (upd H l (.lst ys)) { s with heap:=s.heap.update l (T9 f),toks:=t'}:=by
 have q:=PySem.IsL.update e f;rw[hf] at q;refine I.write (x:=l) (e:=l) (by rw[hH];exact trivial) (.inl Z) (λb' u hb hu=>(Ry s.heap (T9 f) (T5 hb)).trans hu) ⟨_,q⟩ ?_;exact⟨hz,its',_,hv,q⟩
theorem Inv.lnew(I:Inv X pins σ H s)(hv:bo ys its)(hz:ys.length≤sizeLine):
  Inv X pins σ (upd H s.heap.objs.size (.lst ys)) { s with heap:=s.heap.push { cls:=.type "list",data:=.seq its.toArray},toks:=t'}:=
 I.laid (λ_ _ q=>Qb _ q) (P7 _) ⟨hz,its,0,hv,QD _ Z⟩
theorem Inv.fresh(I:Inv X pins σ H s):H s.heap.objs.size=none:=I.hok.fresh (P7 _)
theorem Inv.lstM(I:Inv X pins σ H s)(hH:H l=some (.lst xs)):xs.length≤sizeLine/\∃(its:List Value) (n:Nat),bo xs its/\xs.length=its.length/\s.heap.get? l=some { cls:=.type "list",data:=.seq its.toArray n}:=by
 obtain⟨z,its,n,r,e⟩:=I.hok l _ hH;exact⟨z,its,n,r,r.length,e⟩
end
section
variable {X:Cx}
def DL:V->List V->Hp->VK->Prop:=λx vs H Q=>∃l xs y,x=.ref l/\vs=[y]/\H l=some (.lst xs)/\xs.length<sizeLine/\Q .non (upd H l (.lst (xs++[y])))
theorem bA:Op X "list.append" DL:=by
 intro pins s σ H x vs v us Q I rx rv h;obtain⟨l,xs,y,rfl,rfl,hH,hz,q⟩:=h
 cases rx
 obtain⟨u,rfl,ru⟩:=rv.one;obtain⟨z,its,n,r,hl,e⟩:=I.lstM hH;refine Ul F.slot_list_append ⟨_,e,Z⟩ F.entry_list_append (F.args_list_append_2 _ _) (PySem.list_append l its.toArray n u (by rw[QR];omega)) ⟨e,?_⟩;refine⟨.non,_,I.lset (its':=its++[u]) hH e (by simp) (r.append (.cons ru .nil)) ?_,Z,q⟩;rw[QC,R3];omega
def Mb:V->List V->Hp->VK->Prop:=λx vs H Q=>∃l b xs zs,x=.ref l/\vs=[.ref b]/\H l=some (.lst xs)/\H b=some (.lst zs)/\xs.length+zs.length≤sizeLine/\Q .non (upd H l (.lst (xs++zs)))
def OU:V->List V->Hp->VK->Prop:=λx vs H Q=>∃l xs y,x=.ref l/\vs=[]/\H l=some (.lst xs)/\xs[xs.length-1]?=some y/\Q y (upd H l (.lst xs.dropLast))
def ME:V->List V->Hp->VK->Prop:=λx vs H Q=>∃l xs i k y,x=.ref l/\vs=[.int i]/\H l=some (.lst xs)/\-(2^63)≤i/\i<2^63/\ZX i xs.length=some k/\xs[k]?=some y/\Q y (upd H l (.lst (xs.eraseIdx k)))
def KG:V->List V->Hp->VK->Prop:=λx vs H Q=>∃l xs,x=.ref l/\vs=[]/\H l=some (.lst xs)/\Q .non (upd H l (.lst xs.reverse))
def MK:V->List V->Hp->VK->Prop:=λx vs H Q=>∃l xs,x=.ref l/\vs=[]/\H l=some (.lst xs)/\Q .non (upd H l (.lst []))
def ML:R2:=λx y H Q=>∃l b xs zs,x=.ref l/\y=.ref b/\H l=some (.lst xs)/\H b=some (.lst zs)/\xs.length+zs.length≤sizeLine/\∀p,H p=none->Q (.ref p) (upd H p (.lst (xs++zs)))
theorem Bs:gH X (TN .Add) ML:=by
 intro pins s σ H x y v u Q I rx ry h;obtain⟨l,b,xs,zs,rfl,rfl,hH,hB,hz,q⟩:=h
 cases rx
 cases ry
 obtain⟨z,its,n,r,hl,e⟩:=I.lstM hH;obtain⟨z2,its2,n2,r2,hl2,e2⟩:=I.lstM hB;refine PySem.P.add_list e e2 ?_ (by rw[QR,QR];omega);have ea:its.toArray++its2.toArray=(its++its2).toArray:=by simp
 rw[ea];exact⟨.ref _,_,I.lnew (t':=s.toks) (r.append r2) (by rw[QC];omega),Z,q _ I.fresh⟩
def OT:R2:=λx y H Q=>∃l k xs,x=.ref l/\y=.int k/\H l=some (.lst xs)/\-(2^63)≤k/\k<2^63/\xs.length*k.toNat≤sizeLine∧
 ∀p,H p=none->Q (.ref p) (upd H p (.lst (Qn k.toNat xs).flatten))
end
section
variable {prog:Q4}{w:Rm}{A:Rg}{E:Value->Qc->Prop}{s:Qc}
end
section
variable {X:Cx}
end
end L2
namespace Att
open PySem PySem.W PySem.Calls PyProof.Rows
theorem lA:∀(ns:List Int) (vs:List Value),WellAll P h vs (ns.map WData.int)->XI vs ns:=by
 intro ns
 induction ns with
 |nil=>
  intro vs w;rw[WZ] at w
  cases w
  exact .nil
 |cons n ns ih=>
  intro vs w;rw[Q1] at w
  cases w with
  |cons a b=>
   cases a
   exact .cons _ _ (ih _ b)
theorem xj{l:OpenLaw}(hn:l.most=some n){h:Qo} 
  (hpre:l.row.toRowW.claim.pre args=true) (hwl:WellAll P h vals args):
  ∃a vs ns,vals=[QQ a]/\args=[WData.list (ns.map WData.int)]/\h.get? a=some { cls:=.type "list",data:=.seq vs.toArray}/\XI vs ns/\ns.length≤n:=by
 have hsh:WShape.hasAll [] args [.list .int]=true:=(pre_splitW hpre).1;have hc:l.pre.holds [] { args:=args}=true:=(pre_splitW hpre).2;obtain⟨d,r,rfl,h1,h2⟩:=hasAllW_cons hsh;obtain rfl:=hasAllW_nil h2;obtain⟨xs,rfl,h3⟩:=hasW_list h1;obtain⟨ns,rfl⟩:=items_int h3;have hlen:ns.length≤n:=by
  unfold OpenLaw.pre at hc;have h4:(WTm.not (.lt (.lit (.int (n:Int))) (.len (.arg 0)))).holds [] { args:=[.list (ns.map .int)]}=true:=by
   have h4:=(holds_andW hc).1;rw[hn] at h4;exact h4
  have h5:=condW_of h4 (w_not (w_lt w_lit (w_len_list (w_arg Z))));rw[P8] at h5;refine Nat.le_of_not_lt λq=>?_
  have q':(n:Int)<((ns.length:Nat):Int):=by omega
  first
   | (rw[Q9 q'] at h5;exact aad h5 (by decide))
   | (simp at h5;omega)
 cases hwl with
 |cons w1 w2=>
  cases w2
  cases w1 with
  |list ho hall=>exact⟨_,_,ns,Z,Z,ho,lA ns _ hall,hlen⟩
theorem xF(l:OpenLaw)(args:List WData):l.row.toRowW.claim.post args (.bool true) args=true:=
 postW_of (r:=l.row.toRowW) (X:=(true==true))
  (show WShape.has [] (.bool true) .bool=true by first|rfl|decide|simp[WShape.has,WShape.arms,WShape.armsAll])
  (show(WTm.eq .res (.lit (.bool true))).value [] { args:=args,res:=some (.bool true),after:=args}=some (.bool (true==true)) from w_eq_bool (w_res Z) w_lit) Z
theorem attach_call{l:OpenLaw}{d:DefRec}
  (hn:l.most=some n) (hdf:d.params.defaults=[])
  (call:∀(w:Rm) (s₀ s₁:Qc) (mg mb:QX->Option Value) (fa:Addr) (o:R9) (pm cd doc:Value) (a:Addr) (vs:List Value) (ns:List Int),
   Ground q loose [] XP w s₀ mg mb s₁.heap->YP w s₁.heap→
   s₁.heap.get? fa=some o->o.data=.func (docDef d.name d.params d.body d.scope pm cd doc)->s₁.heap.CodeRec cd d.name->mg d.name=some (.ref fa)→
   s₁.heap.get? a=some { cls:=.type "list",data:=.seq vs.toArray}->XI vs ns->ns.length≤n->s₁.gens=#[]→
   Uu (QK l.prog w) XJ (.call (.ref fa) ⟨[.ref a],[]⟩) (λr s'=>r=.ok (.ret (.bool true))/\OldK s₁.heap s'.heap/\s'.os=s₁.os/\Vp s'.gens) s₁):
  WalkO q loose XP YP l.row.toRowW d [] (λf vs=>ZE f vs):=by
 intro w s₀ s₁ mg mb G Y fa o pm cd doc dV kV ho hd hcd hD hmg hg args vals as hpre hlay hrd hwl hlo;obtain rfl:dV=.none:=Dflts.none hD hdf;obtain rfl:kV=.none:=Dflts.noKw hD;obtain⟨a,vs,ns,rfl,rfl,hobj,hints,hlen⟩:=xj hn hpre hwl;refine enter_call (VF (call w s₀ s₁ mg mb fa o pm cd doc a vs ns G Y ho (fd_plain hd) hcd hmg hobj hints hlen hg) λr s' hq=>?_);obtain⟨rfl,h2,h3,h4⟩:=hq;exact⟨.inl ⟨.bool true,.bool true,[],Z,λ_=>Z,.bool true,xF l _,λ_=>⟨Sv.nil,λ_ hm=>(nomatch hm)⟩⟩,h2,h3,h4⟩
section
variable {prog:Q4}{w:Rm}{A:Rg}{E:Value->Qc->Prop}{s:Qc}{K:Frag}
def MP(h:Qo):Qo:={ h with objs:=#[]}
def MQ(h:Qo)(L d:Addr):List (Addr×R9):=(P6 h.objs.size).filterMap λa=>if a=L∨a=d then none else(h.get? a).map λo=>(a,o)
end
end Att
namespace L2
open PySem PySem.Spec PyProof.Rows
theorem oA:∀{vs:List Value} {ns:List Int},XI vs ns->bo (ns.map V.int) vs
 |_,_,.nil=>.nil
 |_,_,.cons n t h=>.cons ⟨t,Z⟩ (oA h)
def JI(H:Hp):Prop:=∀b,H b=none∨∃o xs,H b=some (.frz o (.lst xs))
theorem BX{K:P4}{s₁:Qc}{vs:List Value}{ns:List Int}
  (KX:K.In s₁.heap) (hns:s₁.heap.Ns QZ mg) (hb:s₁.heap.Ns Zs mb) (hbb:∀x:QX,x ≠ "__name__"->mb x=S0 x) (hlim:s₁.heap.NoLimit) (hg:s₁.gens=#[])
  (ha:s₁.heap.get? a=some { cls:=.type "list",data:=.seq vs.toArray}) (hi:XI vs ns) (hl:ns.length≤sizeLine) (hr:c9 k XJ)
  (F:∀base:Qo,K.In base->base.Ns QZ mg->bC P w K mg base CX k fa fd [x] sp) (hbind:∀(s:Qc) (u:Value),WS s fd ⟨[u],[]⟩ [(x,u)])
  (hsp:∀H:Hp,JI H->aX K H a (ns.map V.int)->sp [.ref a] H (λv _=>v=.bl true) λ_ _ _=>False)
  (hCX:∀H e s',CX [] H s₁ (λ_ _ _=>False) e s'->False):
  Uu (QK P w) XJ (.call (.ref fa) ⟨[.ref a],[]⟩) (λr s'=>r=.ok (.ret (.bool true))/\OldK s₁.heap s'.heap/\s'.os=s₁.os/\Vp s'.gens) s₁:=by
 have rv:=oA hi;have lenV:=hi.length;have core:∀H:Hp,JI H->aX K H a (ns.map V.int)->iO P w H s₁.heap->(∀b,H b≠none->b=a)->(H a≠none->K.lookup a=none)→
   Uu (QK P w) XJ (.call (.ref fa) ⟨[.ref a],[]⟩) (λr s'=>r=.ok (.ret (.bool true))/\OldK s₁.heap s'.heap/\s'.os=s₁.os/\Vp s'.gens) s₁:=by
  intro H hO hS hok hA hK;have base_of:∀{b:Addr} {o:R9},s₁.heap.get? b=some o->H b=none->(qz s₁.heap H).get? b=some o:=λe n=>B7 e n
  have noA:∀{b:Addr} {o:R9} {es:Array XH} {ep:Nat},s₁.heap.get? b=some o->o.data=.dict es ep->H b=none:=λ{b o es ep} e d=>by
   cases q:H b with
   |none=>rfl
   |some u=>
    have e':b=a:=hA b (by rw[q];simp);subst e';rw[ha] at e;cases e;have d':Zh.seq vs.toArray _=Zh.dict es ep:=d
    cases d'
  have nsK:∀{b:Addr} {m:QX->Option Value},s₁.heap.Ns b m->(qz s₁.heap H).Ns b m:=λ{b m} ⟨o,es,ep,e,d,r⟩=>⟨o,es,ep,base_of e (noA e d),d,r⟩
  have hKb:K.In (qz s₁.heap H):=λb o e=>base_of (KX b o e) (by
   cases q:H b with
   |none=>rfl
   |some u=>
    have e':b=a:=hA b (by rw[q];simp);subst e';rw[hK (by rw[q];simp)] at e;cases e)
  have hM:Mod K mg (qz s₁.heap H):=⟨hKb,nsK hns,⟨mb,nsK hb,hbb⟩,let ⟨mc,h1,h2⟩:=hlim;⟨mc,nsK h1,h2⟩⟩;have e0:tD P w K mg (qz s₁.heap H) XJ [] s₁ H:=⟨Z,hM,λb o e=>Eu e,Tx (xY _ _),trivial,λb hb=>aad (show b∈([]:List Addr) from hb) (by simp),hok,.of_eq hg⟩;refine VF ((F _ hKb (nsK hns)).run XJ [] s₁ H ⟨[.ref a],[]⟩ [.ref a] [.ref a] _ _ hr e0 (hbind s₁ (.ref a)) (.cons Z .nil) (hsp H hO hS)) λr s' h=>?_
  cases r with
  |error e=>exact(hCX H e s' h).elim
  |ok fl=>
   cases fl with
   |next=>exact Sj h
   |brk=>exact Sj h
   |cont=>exact Sj h
   |ret u=>
    obtain⟨v,H',os,bare,un,hok',r',q⟩:=h;have q':v=.bl true:=q;subst q';obtain rfl:u=UO true:=r';refine⟨Z,OldK.of_keep λb o e=>?_,os,bare⟩
    cases q:H b with
    |none=>exact un.keep b o e q (by intro z;exact aad (show b∈([]:List Addr) from z) (by simp)) (by simp)
    |some u=>
     rcases hO b with z | ⟨ob,xs,z⟩
     ·rw[q] at z;cases z
     ·have z2:=un.frzs b ob _ z;obtain⟨e1,_⟩:=hok b _ z;obtain⟨e2,_⟩:=hok' b _ z2;rw[e] at e1;cases e1;exact e2
 cases hk:K.lookup a with
 |some o=>
  have e:=KX a o hk;rw[ha] at e
  cases e
  refine core (λ_=>none) (λ_=>.inl Z) (.inr ⟨_,vs.toArray,_,hk,Z,Z,Z,by rw[QR,lenV];exact hl,by simpa using rv⟩) (λb u z=>by have z':(none:Option HO)=some u:=z;cases z') (λb z=>aad Z z) λz=>aad Z z
 |none=>
  refine core (λb=>if b=a then some (.frz { cls:=.type "list",data:=.seq vs.toArray} (.lst (ns.map V.int))) else none) (λb=>?_) (.inl (.inr ⟨{ cls:=.type "list",data:=.seq vs.toArray},Z9 Z⟩)) (λb u z=>?_) (λb z=>?_) λ_=>hk
  ·by_cases hb:b=a
   ·exact .inr ⟨_,_,Z9 hb⟩
   ·exact .inl (aaa hb)
  ·by_cases hb:b=a
   ·have z':=(Z9 hb).symm.trans z
    cases z'
    subst hb;exact⟨ha,by rw[P8];exact hl,vs,_,rv,ha⟩
   ·have z':=(aaa hb).symm.trans z
    cases z'
  ·by_cases hb:b=a
   ·exact hb
   ·exact aad (aaa hb) z
abbrev P2{K:P4}{h:Qo}(_:K.In h):P4:=K
theorem walk_of{l:Zl}{loose:List QX}{XP:(QX->Option Value)->Qo->Prop}{YP:Rm->Qo->Prop}{d:DefRec}{K:Params->P4}{CX:Rm->tO}{sp:Rm->Sp} 
  (hn:l.most=some n) (hn2:n≤sizeLine) (hdf:d.params.defaults=[]) (hr:c9 k XJ)
  (hY:∀(w:Rm) (h:Qo),YP w h->(K w.params).In h)
  (F:∀(w:Rm) (mg:QX->Option Value) (fa:Addr) (h:Qo),(K w.params).In h->h.Ns QZ mg->mg d.name=some (.ref fa)→
   ∃fd:Qh,(∀(s:Qc) (u:Value),WS s fd ⟨[u],[]⟩ [(x,u)])∧
    ∀base:Qo,(K w.params).In base->base.Ns QZ mg->bC l.prog w (K w.params) mg base (CX w) k fa fd [x] (sp w))
  (hsp:∀(w:Rm) (H:Hp) (a:Addr) (ns:List Int),ns.length≤n->JI H->aX (K w.params) H a (ns.map V.int)->sp w [.ref a] H (λv _=>v=.bl true) λ_ _ _=>False)
  (hCX:∀(w:Rm) (H:Hp) (s:Qc) (e:Value) (s':Qc),CX w [] H s (λ_ _ _=>False) e s'->False):
  ZO q loose XP YP l.row.toRowW d [] (λf vs=>ZE f vs):=by
 refine Att.attach_call hn hdf λw s₀ s₁ mg mb fa o pm cd doc a vs ns G Y ho hd hcd hmg hobj hints hlen hg=>?_
 have KX:=hY w _ Y;obtain⟨fd,hb,hF⟩:=F w mg fa _ KX G.T.g hmg;exact BX KX G.T.g G.T.b G.T.builtins G.T.nolimit hg hobj hints (QU hlen hn2) hr hF hb (λH hO hS=>hsp w H a ns hlen hO hS) λH e s'=>hCX w H s₁ e s'
def jK(s:Stmt)(j:Nat):Stmt:=match s with
 | .ClassDef _ _ _ body _ _ _ _ _ _ _=>body.getD j (.Pass ⟨0,0,0,0⟩)
 |_=>.Pass ⟨0,0,0,0⟩
def dG(s:Stmt):Arguments:=match s with
 | .FunctionDef _ a _ _ _ _ _ _ _ _=>a
 |_=>{ posonlyargs:=[],args:=[],vararg:=none,kwonlyargs:=[],kw_defaults:=[],kwarg:=none,defaults:=[]}
def cY(s:Stmt):List Stmt:=match s with
 | .FunctionDef _ _ b _ _ _ _ _ _ _=>b
 |_=>[]
def aA(s:Stmt):Uw:=match s with
 | .FunctionDef _ _ _ _ _ _ sc _ _ _=>sc
 |_=>{ kind:=.function,names:=[],isGenerator:=false,isCoroutine:=false}
abbrev dU:tO:=λ_ _ _ _ _ _=>False
abbrev E0:XK:=λ_ _ _=>False
theorem Bm:fw dU X E0:=λ_ _ _ _ _ _ _ h=>h.elim
structure Fun(K:P4)(x qual:QX)(st:Stmt)(f:Addr)(fd:Qh):Prop where
 ex:∃(oc:Value) (od:Option Addr) (kV doc pm:Value) (an:Option Addr) (cdv ct:Value) (osl:Array (Option Value)),
  fd=Sx x qual (dG st) (cY st) (aA st) .none kV doc pm an cdv ct/\K.lookup f=some ⟨oc,od,.func fd,osl⟩/\U3 K cdv qual=true
 kp:Sr K (.ref f)=true
section
variable {P:Q4}{w:Rm}{K:P4}{mg:QX->Option Value}{base:Qo}
theorem Fun.ok{x qual:QX}{st:Stmt}{f:Addr}{fd:Qh}{N ps:List QX}{k:Nat}{sp:Sp}(F:Fun K x qual st f fd)(S:aG N ps (aA st))(len:∀vs H Q E,sp vs H Q E->vs.length=ps.length)
  (hbody:∀(cdv:Value) (A:Rg) (outer:List Zq) (s:Qc) (H:Hp) (vs:List V) (Q:VK) (E:XK),c9 k (A.deeper (WT qual (aA st) s.heap.objs.size f cdv))->sp vs H Q E→
   ∃t,tM (bL dU P w K mg base N qual (aA st) f cdv A outer s H E).nox (cY st) t/\t { nx:=λ_ H'=>Q .non H',rt:=Q} (jm N vs) H):bC P w K mg base dU (k+1) f fd ps sp:=by
 obtain⟨oc,od,kV,doc,pm,an,cdv,ct,osl,rfl,lk,hcd⟩:=F.ex;refine F7 lk hcd S len λA outer s H vs Q E hr hsp=>?_
 obtain⟨t,h,q⟩:=hbody cdv A outer s H vs Q E hr hsp;exact⟨t,h.nox,q⟩
theorem Fun.binds{x qual:QX}{st:Stmt}{f:Addr}{fd:Qh}{ps:List QX}(F:Fun K x qual st f fd)
  (h:∀(kV doc pm:Value) (an:Option Addr) (cdv ct:Value) (us:List Value),us.length=ps.length->Yr (Sx x qual (dG st) (cY st) (aA st) .none kV doc pm an cdv ct) ⟨us,[]⟩=Sq (ps.zip us)):aN K fd ps []:=by
 obtain⟨oc,od,kV,doc,pm,an,cdv,ct,osl,rfl,lk,hcd⟩:=F.ex;exact .all (h kV doc pm an cdv ct)
theorem qC{x qual:QX}{st:Stmt}{f:Addr}{oc:Value}{od an:Option Addr}{osl:Array (Option Value)}{kV doc pm cdv ct:Value}(l:K.lookup f=some ⟨oc,od,.func (Sx x qual (dG st) (cY st) (aA st) .none kV doc pm an cdv ct),osl⟩)
  (c:U3 K cdv qual=true) (k:Sr K (.ref f)=true):Fun K x qual st f (Sx x qual (dG st) (cY st) (aA st) .none kV doc pm an cdv ct):=⟨⟨oc,od,kV,doc,pm,an,cdv,ct,osl,Z,l,c⟩,k⟩
end
theorem fQ(hr:c9 k A):A.units+1<cLine:=Rn (Nat.add_le_add_left (by decide:1≤64) _) hr.units
theorem aQ(h:n≤1000):n<sizeLine:=Rn h (by decide)
section
variable {X:Cx}
theorem pv(i:Nat){x:QX}{pos:Uf}(hN:X.N[i]?=some x:=by rfl)(hv:LC X.env.scope x:=by first|exact Q0 Z|exact QV (Q0 Z)|exact QV (QV Z))(hd:(x==("__debug__" : QX))=false:=by decide)
  (hcd:(x==("__classdict__" : QX))=false:=by decide):PE X (.Name x pos) (yV i):=Hy hN hv hd hcd
end
theorem fC{A B:Prop}(h:B):if false=true then A else B:=by
 rw[aaa QB];exact h
theorem iG{A B:Prop}(h:A):if true=true then A else B:=by
 rw[Z9 Z];exact h
theorem Je{c A B:Prop}[Decidable c](h1:c->A)(h2:¬c->B):if c then A else B:=by
 by_cases h:c
 ·rw[Z9 h];exact h1 h
 ·rw[aaa h];exact h2 h
theorem vV{c A B:Prop}[Decidable c](hc:c)(h:B):if(!decide c)=true then A else B:=by
 rw[Q9 hc];exact fC h
def aH(H H':Hp):Prop:=∀b o,H b=some o->H' b=some o
theorem aH.refl(H:Hp):aH H H:=λ_ _ h=>h
theorem aH.trans(a:aH H H1)(b:aH H1 H2):aH H H2:=λc o h=>b c o (a c o h)
theorem aH.seq{K:P4}{H H':Hp}{a:Addr}{xs:List V}(e:aH H H')(h:aX K H a xs):aX K H' a xs:=by
 rcases h with(h | ⟨o,h⟩)|h
 ·exact .inl (.inl (e _ _ h))
 ·exact .inl (.inr ⟨o,e _ _ h⟩)
 ·exact .inr h
end L2
set_option maxHeartbeats 4000000
namespace B
open PySem L2 PyProof.Rows
theorem Lg{c A B:Prop}[Decidable c](hc:¬c)(h:A):if(!decide c)=true then A else B:=by
 have e:(!decide c)=true:=by rw[Sy hc];rfl
 rw[Z9 e];exact h
theorem cW{c A B:Prop}[Decidable c](hc:c)(h:A):if decide c=true then A else B:=by
 rw[Z9 (Q9 hc)];exact h
theorem cG{c A B:Prop}[Decidable c](hc:¬c)(h:B):if decide c=true then A else B:=by
 have e:¬decide c=true:=by rw[Sy hc];intro z;cases z
 rw[aaa e];exact h
theorem kX{b:Bool}{A B:Prop}(hb:b=true)(h:A):if b=true then A else B:=by rw[Z9 hb];exact h
theorem jJ{b:Bool}{A B:Prop}(hb:b=false)(h:B):if b=true then A else B:=by
 rw[aaa (by rw[hb];intro z;cases z)];exact h
def kW(A B:String):Option Bool:=if(TY A==TY B)=true then some true else if PySem.W.kitMeta B=true then(fastBuiltinMro A).map (·.contains (.type B)) else none
theorem uB{K:P4}{A B:String}{b:Bool}(h:kW A B=some b):Uj K (.type A) (.type B)=some b:=h
inductive Ty(H:Hp):V->String->Prop where
 |non:Ty H .non "NoneType"
 |bl (b:Bool):Ty H (.bl b) "bool"
 |int (i:Int):Ty H (.int i) "int"
 |str (x:QX):Ty H (.str x) "str"
 |lst {a:Addr} {xs:List V} (e:H a=some (.lst xs)):Ty H (.ref a) "list"
 |tup {a:Addr} {xs:List V} (e:H a=some (.tup xs)):Ty H (.ref a) "tuple"
theorem Ty.of(K:P4)(h:Ty H v n):kL K H v (.type n):=by
 cases h with
 |non=>exact .non
 |bl b=>exact .bl b
 |int i=>exact .int i
 |str x=>exact .str x
 |lst e=>exact .lst e
 |tup e=>exact .tup e
def MG:List V->Hp->VK->Prop:=λxs H Q=>∃x n m b,xs=[x,.ty n]/\Ty H x m/\kW m n=some b/\Q (.bl b) H
theorem jV:dN X (.builtin "isinstance") MG:=by
 intro pins s σ H xs us Q I r h;obtain⟨x,n,m,b,rfl,ty,e,q⟩:=h;obtain⟨u,u2,rfl,rx,ry⟩:=yM r;obtain rfl:u2=TY n:=ry;exact xU I rx (ty.of X.K) (uB e) λtk=>⟨.bl b,H,I.tok tk,Z,q⟩
def Mo:V->Bool
 | .int _=>true
 |_=>false
def OA(n:String):Bool:=n == "tuple"
structure eI(t:Addr)(H H':Hp):Prop where
 keep:∀b o,b≠t->H b=some o->H' b=some o
 tp:∃xs,H t=some (.lst xs)
 tp':∃xs,H' t=some (.lst xs)
theorem eI.trans(a:eI t H H1)(b:eI t H1 H2):eI t H H2:=⟨λc o n e=>b.keep c o n (a.keep c o n e),a.tp,b.tp'⟩
theorem eI.up(h:H t=some (.lst xs)):eI t H (upd H t (.lst ys)):=⟨λc o n e=>by rw[ao n];exact e,⟨_,h⟩,⟨_,ah⟩⟩
theorem au(h:H p=none)(o:HO):aH H (upd H p o):=λb u q=>by rw[ao (aC q h)];exact q
theorem eI.same(s:aH H H')(h:∃xs,H t=some (.lst xs)):eI t H H':=⟨λc o _ e=>s c o e,h,let ⟨xs,e⟩:=h;⟨xs,s _ _ e⟩⟩
theorem eI.refl(h:∃xs,H t=some (.lst xs)):eI t H H:=⟨λ_ _ _ e=>e,h,h⟩
def Th(H:Hp)(v:V):Prop:=∃n,Ty H v n/\∀a xs,v=.ref a->H a=some (.tup xs)->∀x∈xs,∃m,Ty H x m
theorem MN{xs:List V}(h0:0≤r)(h1:r<(xs.length:Int)):∃v,uP xs r=some v/\v∈xs:=by
 have hk:r.toNat<xs.length:=by omega
 have ek:r=((r.toNat:Nat):Int):=by omega
 have q:uP xs ((r.toNat:Nat):Int)=some xs[r.toNat]:=be (P5 hk);rw[←ek] at q;exact⟨_,q,Qx hk⟩
theorem FU{ns:List Int}(h0:0≤r)(h1:r<(ns.length:Int)):∃z:Int,uP (ns.map V.int) r=some (.int z):=by
 obtain⟨v,h,hv⟩:=MN (xs:=ns.map V.int) h0 (by rw[P8];exact h1);obtain⟨z,_,rfl⟩:=Qg.mp hv;exact⟨z,h⟩
structure JD(H:Hp)(t s:Addr):Prop where
 ex:∃(ns:List Int) (p q r:Int),H t=some (.lst [.ref s,.int p,.int q,.int r])/\H s=some (.lst (ns.map V.int))/\s≠t/\ns.length≤63/\0≤p/\0≤q/\0≤r
def LY(K:P4):Sp:=λvs H Q _=>∃(a:Addr) (ns:List Int),vs=[.ref a]/\aX K H a (ns.map V.int)/\∀(t s:Addr) (H':Hp),aH H H'->H t=none->H s=none->JD H' t s->Q (.ref t) H'
def L1:Sp:=λvs H Q _=>∃(t s:Addr) (m:Int),vs=[.ref t,.int m]/\JD H t s/\0<m/\m<1073741824/\∀(r:Int) (xs:List V),0≤r->r<m->JD (upd H t (.lst xs)) t s->Q (.int r) (upd H t (.lst xs))
def LZ(K:P4):Sp:=λvs H Q _=>∃(a:Addr) (ns:List Int),vs=[.ref a]/\aX K H a (ns.map V.int)/\ns.length≤63/\∀H',Q (.bl true) H'
theorem si(ha:0≤a)(hb:0<b):Qz b (a%b)=Qz a b:=by
 obtain⟨n,rfl⟩:=Rz ha;obtain⟨m,rfl⟩:=Rz (R5 hb);rw[←Int.natCast_emod];show Nat.gcd m (n%m)=Nat.gcd n m;rw[Nat.gcd_comm m,←Nat.gcd_rec,Nat.gcd_comm]
theorem uS(i:Int):(if i<0 then -i else i)=(i.natAbs:Int):=by split<;>omega
end B
namespace B
open PySem PySem.Spec L2 PyProof.Rows
mutual
inductive bD(K:P4)(H:Hp):V->PyData->Prop where
 |non:bD K H .non .none
 |bl (b:Bool):bD K H (.bl b) (.bool b)
 |int (i:Int):bD K H (.int i) (.int i)
 |str (x:QX):bD K H (.str x) (.str x)
 |lst {a:Addr} {xs:List V} {ds:List PyData} (e:aX K H a xs) (h:bu K H xs ds):bD K H (.ref a) (.list ds)
 |tup {a:Addr} {xs:List V} {ds:List PyData} (e:bF K H a xs) (h:bu K H xs ds):bD K H (.ref a) (.tuple ds)
inductive bu(K:P4)(H:Hp):List V->List PyData->Prop where
 |nil:bu K H [] []
 |cons {x:V} {d:PyData} {xs:List V} {ds:List PyData} (h:bD K H x d) (t:bu K H xs ds):bu K H (x::xs) (d::ds)
end
mutual
theorem bD.reads{X:Cx}{pins:List (Addr×R9)}{σ:L2.St}{H:Hp}{s:Qc}(I:Inv X pins σ H s):∀{v:V} {d:PyData} {u:Value},bD X.K H v d->RelV v u->∃as,Reads s.heap u d as
 |_,_,u,.non,r=>by cases(show u=Sb from r);exact⟨_,.none⟩
 |_,_,u,.bl b,r=>by cases(show u=UO b from r);exact⟨_,.bool b⟩
 |_,_,u,.int i,r=>by obtain⟨t,q⟩:=(show ∃t,u=R1 i t from r);cases q;exact⟨_,.int i t⟩
 |_,_,u,.str x,r=>by obtain⟨t,q⟩:=(show ∃t,u=VM x t from r);cases q;exact⟨_,.str x t⟩
 |_,_,u,.lst (a:=a) e h,r=>by
  cases(show u=QQ a from r)
  obtain⟨its,rv,⟨o,n,ho,hc,_,hd⟩,_⟩:=I.list e;obtain⟨as,q⟩:=bu.reads I h rv;exact⟨_,.list ho hc hd (by simpa using q)⟩
 |_,_,u,.tup (a:=a) e h,r=>by
  cases(show u=QQ a from r)
  obtain⟨its,rv,⟨o,ho,hc,n,hd⟩,_⟩:=I.tuple e;obtain⟨as,q⟩:=bu.reads I h rv;exact⟨_,.tuple ho hc hd (by simpa using q)⟩
theorem bu.reads{X:Cx}{pins:List (Addr×R9)}{σ:L2.St}{H:Hp}{s:Qc}(I:Inv X pins σ H s):∀{vs:List V} {ds:List PyData} {us:List Value},bu X.K H vs ds->bo vs us->∃as,ReadsAll s.heap us ds as
 |_,_,_,.nil,.nil=>⟨_,.nil⟩
 |_,_,_,.cons h t,.cons r q=>
  let ⟨_,a⟩:=bD.reads I h r;let ⟨_,b⟩:=bu.reads I t q
  ⟨_,.cons a b⟩
end
structure wM(d:PyData):Prop where
 sh:d.showable=true
 nd:d.hasDict=false
 sz:d.shown.length≤sizeLine
 dp:d.depth≤16
def KH(K:P4):List V->Hp->VK->Prop:=λxs H Q=>∃v d,xs=[v]/\bD K H v d/\wM d/\Q (.str d.shown) H
theorem iC(hr:c9 k X.A):dN X (.builtin "repr") (KH X.K):=by
 intro pins s σ H xs us Q I r h;obtain⟨v,d,rfl,dp,sh,q⟩:=h;obtain⟨u,rfl,ru⟩:=gh r
 cases dp with
 |non=>cases(show u=Sb from ru);exact PySem.P.repr_of_none ⟨.str "None",H,I.tok _,⟨_,Z⟩,q⟩
 |bl b=>cases(show u=UO b from ru);exact PySem.P.repr_of_bool ⟨.str _,H,I.tok _,⟨_,Z⟩,q⟩
 |int i=>
  obtain⟨t,e⟩:=(show ∃t,u=R1 i t from ru)
  cases e
  exact PySem.P.repr_of_int (aab sh.sh) ⟨.str _,H,I.tok _,⟨_,Z⟩,q⟩
 |str x=>
  obtain⟨t,e⟩:=(show ∃t,u=VM x t from ru)
  cases e
  exact PySem.P.repr_of_str ⟨.str _,H,I.tok _,⟨_,Z⟩,q⟩ sh.sz
 | @lst a ys ds e h=>
  cases(show u=QQ a from ru)
  obtain⟨as,rd⟩:=bD.reads I (.lst e h) (show RelV (.ref a) (.ref a) from Z);exact repr_of_reads' rd sh.sh (λz=>by rw[sh.nd] at z;cases z) hr.gd (by have:=hr.units;have:=sh.dp;omega) (λ_ _ z=>z) (λh' u tk hk=>⟨.str _,H,I.kept hk,⟨_,Z⟩,q⟩) sh.sz
 | @tup a ys ds e h=>
  cases(show u=QQ a from ru)
  obtain⟨as,rd⟩:=bD.reads I (.tup e h) (show RelV (.ref a) (.ref a) from Z);exact repr_of_reads' rd sh.sh (λz=>by rw[sh.nd] at z;cases z) hr.gd (by have:=hr.units;have:=sh.dp;omega) (λ_ _ z=>z) (λh' u tk hk=>⟨.str _,H,I.kept hk,⟨_,Z⟩,q⟩) sh.sz
def kG(X:Cx)(N':List QX)(scope:Uw)(cl:List (QX×Addr))(C:Addr)(fp:List Addr)(pins:List (Addr×R9))(s:Qc)(H:Hp):Cx:=
 { X with N:=N',s₀:=s,H₀:=H,env:=U4 scope cl C X.env,outer:=X.stack,stack:=X.stack,ex:=fp,fn:=λ_=>false,pn:=X.pn++pins,xe:=λ_ _=>False}
def cN(X:Cx)(scope:Uw)(cl:List (QX×Addr)):List QX->List (Option Nat)->Prop
 | [],[]=>True
 |_::N,none::r=>cN X scope cl N r
 |x::N,some j::r=>X.N[j]?=some x/\X.env.kindOf x=some .cell/\(U4 scope cl 0 X.env).kindOf x=some .cell/\cl.lookup x=X.env.cells.lookup x/\cN X scope cl N r
 |_,_=>False
def cf(src:List (Option Nat))(σ:L2.St):L2.St:=src.map λo=>o.bind λj=>(σ[j]?).getD none
theorem cN.len{X:Cx}{scope:Uw}{cl:List (QX×Addr)}:∀{N:List QX} {src:List (Option Nat)},cN X scope cl N src->N.length=src.length
 | [],[],_=>rfl
 |_::_,none::_,h=>congrArg (·+1) (cN.len (X:=X) (scope:=scope) (cl:=cl) h)
 |_::_,some _::_,h=>congrArg (·+1) (cN.len (X:=X) (scope:=scope) (cl:=cl) h.2.2.2.2)
theorem cN.at{X:Cx}{scope:Uw}{cl:List (QX×Addr)}{σ:L2.St}:∀{N:List QX} {src:List (Option Nat)} {i:Nat} {x:QX} {v:V},cN X scope cl N src->N[i]?=some x->(cf src σ)[i]?=some (some v)→
  ∃j:Nat,X.N[j]?=some x/\σ[j]?=some (some v)/\X.env.kindOf x=some .cell/\(U4 scope cl 0 X.env).kindOf x=some .cell/\cl.lookup x=X.env.cells.lookup x
 |y::N,none::r,0,x,v,h,e,q=>by cases q
 |y::N,none::r,i+1,x,v,h,e,q=>cN.at (N:=N) (src:=r) (i:=i) h e q
 |y::N,some j::r,0,x,v,h,e,q=>by
  cases e
  refine⟨j,h.1,?_,h.2.1,h.2.2.1,h.2.2.2.1⟩;have q':some ((σ[j]?).getD none)=some (some v):=q;injection q' with q'
  cases z:σ[j]? with
  |none=>rw[z] at q';cases q'
  |some o=>rw[z] at q';exact congrArg some q'
 |y::N,some j::r,i+1,x,v,h,e,q=>cN.at (N:=N) (src:=r) (i:=i) h.2.2.2.2 e q
def fG(X:Cx)(scope:Uw)(cl:List (QX×Addr)):Prop:=
 (∀x,((U4 scope cl 0 X.env).kindOf x=some .cell∨(U4 scope cl 0 X.env).kindOf x=some .free)->∃c,cl.lookup x=some c)/\∀x c,cl.lookup x=some c->X.env.cells.lookup x=some c
def iD(X:Cx):List (QX×Addr)->Prop
 | []=>True
 |y::r=>X.env.cells.lookup y.1=some y.2/\iD X r
theorem iD.mem{X:Cx}:∀{cl:List (QX×Addr)},iD X cl->∀y∈cl,X.env.cells.lookup y.1=some y.2
 | [],_,y,h=>by cases h
 |z::r,k,y,h=>by
  rcases Qm.mp h with e|h
  ·rw[e];exact k.1
  ·exact iD.mem k.2 y h
theorem mem_of_lookup{α:Type}{x:QX}{v:α}:∀{l:List (QX×α)},l.lookup x=some v->(x,v)∈l
 | [],h=>by cases h
 | (y,w)::r,h=>by
  rw[Uv] at h
  cases e:x==y with
  |true=>
   rw[e] at h;have e':x=y:=VO e
   cases h
   rw[e'];exact Qd
  |false=>
   rw[e] at h;exact Qe _ (mem_of_lookup h)
theorem bG(h1:((Yv scope X.env).names.all λy=>!(y.2==.cell||y.2==.free)||(cl.lookup y.1).isSome)=true)(h2:iD X cl):fG X scope cl:=by
 refine⟨λx h=>?_,λx c e=>h2.mem _ (mem_of_lookup e)⟩;have h3:=Sg.mp h1;have key:∀k:UG,(k=.cell∨k=.free)->(Yv scope X.env).names.lookup x=some k->∃c,cl.lookup x=some c:=λk hk e=>by
  have q:=h3 _ (mem_of_lookup e);have z:(k==XW||k==ZP)=true:=by rcases hk with rfl|rfl<;>rfl
  simp only[z,XX,Wp] at q;exact Ss.mp q
 rcases h with h|h
 ·exact key _ (.inl Z) h
 ·exact key _ (.inr Z) h
def gD(σ σ':L2.St):Prop:=σ'.length=σ.length/\∀(i:Nat) (v:V),σ[i]?=some (some v)->σ'[i]?=some (some v)
theorem gD.set(h:σ[i]?=some none):gD σ (σ.set i (some v)):=by
 refine⟨Sf,λj u e=>?_⟩;have ne:i≠j:=λz=>by subst z;rw[h] at e;cases e
 rw[RJ ne];exact e
theorem gD.set'(e:gD σ τ)(h:σ[i]?=some none):gD σ (τ.set i (some v)):=by
 refine⟨by rw[Sf];exact e.1,λj u q=>?_⟩;have ne:i≠j:=λz=>by subst z;rw[h] at q;cases q
 rw[RJ ne];exact e.2 j u q
section
variable {X:Cx}{N':List QX}{scope:Uw}{cl:List (QX×Addr)}{src:List (Option Nat)}{pins:List (Addr×R9)}{σ:L2.St}{H:Hp}{s:Qc}{fp:List Addr}
theorem Cx.comp_ok{C:Addr}(I:Inv X pins σ H s)(hC:s.heap.objs.size≤C)(hk:scope.kind=.function)(hf:∀b∈fp,gX X pins H b)(hfs:∀b∈fp,b<s.heap.objs.size)(hc:fG X scope cl) :
  (kG X N' scope cl C fp pins s H).Ok where
 mod:=I.ok.mod
 kind:=hk
 glob:=I.ok.glob
 blt:=I.ok.blt
 above:=hC
 inj:=λx y c e1 e2=>I.ok.inj x y c (hc.2 x c e1) (hc.2 y c e2)
 has:=λx h=>hc.1 x h
 cab:=λx c z=>nomatch z
 hd:=I.ok.hd
 frames:=I.ok.frames
 stk:=.inl Z
 exf:=λb hb=>⟨λz=>by have:=hfs b hb;rw[show b=C from z] at this;exact aad (QJ this hC) (Ri _),λx c e=>(hf b hb).2.2.2.2.1 x c (hc.2 x c e)⟩
 bs:=I.bs
 bsz:=QU I.ok.bsz I.sz
 noex:=λb o e hb=>by
  rcases(hf b hb).2.2.2.1 with z|z
  ·exact I.ok.noex b o e z
  ·rw[(I.ok.bs b o e).1] at z;cases z
 exfs:=λb hb z=>by
  rcases Qm.mp (I.stkSub b z) with q|q
  ·exact(hf b hb).2.1 q
  ·exact(hf b hb).2.2.1 q
 funs:=I.stack
 frf:=I.stkFree
theorem Inv.comp{C:Addr}{h₁:Qo}{m:QX->Option Value}{tk:Nat}(I:Inv X pins σ H s)(hC:C=s.heap.objs.size)(hns:h₁.Ns C m)(keep:∀b o,s.heap.get? b=some o->h₁.get? b=some o)
  (hk:scope.kind=.function) (hf:∀b∈fp,gX X pins H b) (hfs:∀b∈fp,b<s.heap.objs.size) (hc:fG X scope cl) (hfree:cN X scope cl N' src) :
  Inv (kG X N' scope cl C fp pins s H) [] (cf src σ) H { s with heap:=h₁,toks:=tk} where
 ok:=Cx.comp_ok I (Tx hC.symm) hk hf hfs hc
 os:=Z
 bare:=I.bare
 base:=Un.kept keep
 loc:=⟨m,hns,λi x v e1 e2 _=>by
  obtain⟨j,hj,hσ,kc,kc',hl⟩:=hfree.at e1 e2;obtain⟨m0,hn0,hl0⟩:=I.loc;obtain⟨u,r,l⟩:=hl0 j x v hj hσ (QV (Q0 kc));rcases l with⟨k,_⟩ | ⟨k,c,e,o,ho,hd⟩
  ·rw[kc] at k;cases k
  ·exact⟨u,r,.inr ⟨.inl kc',c,hl.trans e,o,keep c o ho,hd⟩⟩⟩
 cell:=λx c e=>let ⟨v,o,ho,hd⟩:=I.cell x c (hc.2 x c e);⟨v,o,keep _ _ ho,hd⟩
 free:=I.hok.fresh (Tx hC.symm)
 freeC:=λx c e=>I.freeC x c (hc.2 x c e)
 pin:=λp hp=>by
  have hp':p∈X.pn++pins:=by
   have z:p∈(X.pn++pins)++[]:=hp;rw[Rp] at z;exact z
  obtain⟨e,n,ne,nf,d⟩:=I.pin p hp';refine⟨keep _ _ e,n,λz=>?_,λz=>?_,d⟩
  ·have:=Qt e;rw[show p.1=C from z,hC] at this;exact Ri _ this
  ·rcases Qm.mp (I.stkSub _ z) with q|q
   ·exact ne q
   ·exact nf q
 hok:=I.hok.kept keep
 len:=by show(cf src σ).length=N'.length;unfold cf;rw[P8,hfree.len]
end
def Ge(X:Cx)(ifs:List Re)(t:TT):Prop:=
 ∀(pins:List (Addr×R9)) (s:Qc) (σ:L2.St) (H:Hp) (Q:Bool->Hp->Prop),Inv X pins σ H s->t σ H Q→
  Qw (QK X.prog X.w) X.A (forIn ifs true λc r=>if r=true then do let ok ←isTrue c X.env (eval c X.env);Sq (Vy ok) else Sq (Vy r)) (TP X pins σ Q) X.xe s
def Kd:TT:=λ_ H Q=>Q true H
theorem DR:Ge X [] Kd:=λ_ _ _ H _ I h=>wpAny_tests_nil ⟨H,I,h⟩
theorem DQ(h:PT X c t):Ge X [c] t:=λpins s σ H Q I q=>wpAny_tests_one (h pins s σ H Q I q)
section
variable {prog:Q4}{w:Rm}{A:Rg}{R:YO->Qc->Prop}{s:Qc}
theorem oX(I:Nat->Qc->Prop)
  (turn:∀n s,I n s->Qw (QK prog w) A (Z0 it) (λr s₁=>match r with
   |none=>R (.ok .next) s₁
   |some v=>Qw (QK prog w) A (Vx target it v) (λ_ s₁'=>Qw (QK prog w) A (Vj target env v) (λ_ s₂=>
     Qw (QK prog w) A (forIn ifs true λc r=>if r=true then do let ok ←isTrue c env (eval c env);Sq (Vy ok) else Sq (Vy r)) (λok s₃=>
      if ok=true then Qw (QK prog w) A (eval elt env) (λx s₄=>
       Qw (QK prog w) A (call (.builtin "list.append") [acc,x]) (λ_ s₅=>∃m,m<n/\I m s₅) (λ_ _=>False) s₄) (λ_ _=>False) s₃
      else ∃m,m<n/\I m s₃) (λ_ _=>False) s₂) (λ_ _=>False) s₁') (λ_ _=>False) s₁) (λ_ _=>False) s)
  (n:Nat) (h:I n s):Uu (QK prog w) A (.compLoop (.ListComp elt [⟨target,iter,ifs,0⟩] scope pos) 0 it acc env) R s:=by
 refine codeAny_loop Z I (λn s hI=>?_) n h;show Qw _ A ((compTurn (.ListComp elt [⟨target,iter,ifs,0⟩] scope pos) 0 it acc env).onRaise (λx=>do YQ x env;theTreesLotGoes x)) _ _ s;refine wpAny_noted ?_;rw[compTurn_list];refine P9 (Ug (P9 (Sd (turn n s hI) (λr s₁ h₁=>?_) λ_ _ h'=>h'.elim)))
 cases r with
 |none=>exact wpAny_pure h₁
 |some v=>
  refine P9 (Sd h₁ (λ_ s₁' h₁'=>?_) λ_ _ h'=>h'.elim);refine P9 (Sd h₁' (λ_ s₂ h₂=>P9 (Sd h₂ (λok s₃ h₃=>?_) λ_ _ h'=>h'.elim)) λ_ _ h'=>h'.elim)
  cases ok with
  |false=>exact wpAny_pure ⟨Z,h₃⟩
  |true=>
   exact P9 (P9 (Sd h₃ (λx s₄ h₄=>P9 (Sd h₄ (λ_ s₅ h₅=>wpAny_pure (wpAny_pure ⟨Z,h₅⟩)) λ_ _ h'=>h'.elim)) λ_ _ h'=>h'.elim))
end
structure yz(X:Cx)(pins:List (Addr×R9))(H:Hp)(C:Addr):Prop where
 no:H C=none
 lo:C≠X.env.locals
 fs:C∉X.fs
 old:X.s₀.heap.get? C=none
 ce:∀x c,X.env.cells.lookup x=some c->c≠C
 pn:∀p∈X.pn++pins,p.1≠C
theorem yz.turned{X:Cx}{pins:List (Addr×R9)}{σ:L2.St}{H:Hp}{C:Addr}{s:Qc}(o:yz X pins H C)(I:Inv X pins σ H s){h':Qo}(sb:T6 C s.heap h'):Inv X pins σ H { s with heap:=h'}:=
 I.turned (it:=C) (t':=s.toks) (λb u hb e=>sb.extBut b u hb e) o.no o.lo (.inr o.old) o.ce o.pn
def jj(wi:TI)(src:List (Option Nat))(g:TG)(tt:TT)(te:TE):TE:=λσ H Q=>wi σ H λJ H1=>∀D,H1 D=none->∃W:Nat->Nat->List V->Hp->Prop,
 (∃m,W 0 m [] (upd H1 D (.lst [])))/\∀i m ys H,W i m ys H->(J.stop i H/\Q (.ref D) H)∨(J.go i H/\∀x H',J.yld i H x H'->g x (cf src σ) H' λσ2 H2=>gD (cf src σ) σ2/\tt σ2 H2 λok H3=>
  if ok=true then te σ2 H3 λy H4=>H4 D=some (.lst ys)/\ys.length<sizeLine/\∃m',m'<m/\W (i+1) m' (ys++[y]) (upd H4 D (.lst (ys++[y]))) else ∃m',m'<m/\W (i+1) m' ys H3)
section
variable {X:Cx}{N':List QX}{scope:Uw}{cl:List (QX×Addr)}{src:List (Option Nat)}{tg iter elt:Re}{ifs:List Re}{wi:TI}{g:TG}{tt:TT}{te:TE}{pos:Uf}
theorem sO(hc:X.calm=true)(hi:PI X tg iter wi)(hg:∀C fp pins s H,PG (kG X N' scope cl C fp pins s H) tg g)(ht:∀C fp pins s H,Ge (kG X N' scope cl C fp pins s H) ifs tt)
  (he:∀C fp pins s H,PE (kG X N' scope cl C fp pins s H) elt te) (hfree:cN X scope cl N' src) (hcell:∀x∈scope.names,x.2≠.cell) (hkind:scope.kind=.function) (hcl:fG X scope cl)
  {RR:Value->Addr->YO->Qc->Prop} {pins:List (Addr×R9)} {s:Qc} {σ:L2.St} {H:Hp} {Q:VK} (I:Inv X pins σ H s) (h:jj wi src g tt te σ H Q)
  (hRR:∀D C H' s',Q (.ref D) H'->(∃m,s'.heap.Ns C m)->Inv X pins σ H' s'->yz X pins H' C->RR (.ref D) C (.ok .next) s') :
  Qw (QK X.prog X.w) X.A (eval iter X.env) (λx s₁=>Qw (QK X.prog X.w) X.A (Z1 x) (λitv s₂=>Qw (QK X.prog X.w) X.A (Zr []) (λacc s₃=>
   Qw (QK X.prog X.w) X.A (VY scope X.env.globals cl [] X.env.qual none .none (some X.env)) (λcenv s₄=>
    Uu (QK X.prog X.w) X.A (.compStart (.ListComp elt [⟨tg,iter,ifs,0⟩] scope pos) 0 itv acc { cenv with scope:=Yv scope X.env}) (RR acc cenv.locals) s₄) X.xe s₃) X.xe s₂) X.xe s₁) X.xe s:=by
 refine bZ (hi pins s σ H _ I h) λv s1 h1=>bZ h1 λitv s2 h2=>?_
 obtain⟨it,fp,tn,J,H2,e,I2,T,st2,f2,h2⟩:=h2;subst e;refine RK ?_ (by show 0≤sizeLine;exact Qu _);have hD:H2 s2.heap.objs.size=none:=I2.fresh;have I3:Inv X pins σ (upd H2 s2.heap.objs.size (.lst [])) { s2 with heap:=s2.heap.push { cls:=.type "list",data:=.seq ([]:List Value).toArray} }:=I2.lnew (t':=s2.toks) (its:=[]) .nil (Qu _);obtain⟨W,⟨m0,w0⟩,turn⟩:=h2 s2.heap.objs.size hD;generalize hDe:s2.heap.objs.size=D at I3 turn w0 hD ⊢;have st3:tn 0 (s2.heap.push { cls:=.type "list",data:=.seq ([]:List Value).toArray}):=T.keep _ _ _ st2 λb _ o e=>Qb _ e
 have f3:∀b∈fp,gX X pins (upd H2 D (.lst [])) b/\b<(s2.heap.push { cls:=.type "list",data:=.seq ([]:List Value).toArray}).objs.size:=λb hb=>by
  obtain⟨o,e,_⟩:=T.obj _ _ st2 b hb;have l:=Qt e;rw[hDe] at l;refine⟨⟨?_,(f2 b hb).2⟩,by rw[S6,hDe];exact U5 l⟩;rw[ao (Rf l)];exact(f2 b hb).1
 generalize (s2.heap.push { cls:=.type "list",data:=.seq ([]:List Value).toArray})=h3 at I3 st3 f3 ⊢;refine wpAny_newFunctionEnv hcell (by intro y hy;simp at hy) (λh₄ hns₄ hsb₄=>?_) hkind;have keep:∀b o,h3.get? b=some o->h₄.get? b=some o:=λb o e=>hsb₄.extBut b o (Rf (Qt e)) (Qb _ e)
 have I4:=Inv.comp (C:=h3.objs.size) (fp:=fp) (tk:=s2.toks+([]:List (QX×Value)).length) I3 Z hns₄ keep hkind (λb hb=>(f3 b hb).1) (λb hb=>(f3 b hb).2) hcl hfree;have st4:tn 0 h₄:=T.keep _ _ _ st3 λb _ o e=>keep b o e
 have fpn:∀b∈fp,(upd H2 D (.lst [])) b=none:=λb hb=>(f3 b hb).1.1
 have hn3:∀b∈fp,b≠h3.objs.size:=λb hb=>Rf (f3 b hb).2
 have stat:∀{H':Hp},(∀b∈fp,H' b=none)->∀b∈fp,gX (kG X N' scope cl h3.objs.size fp pins { s2 with heap:=h3} (upd H2 D (.lst []))) [] H' b:=λhn b hb=>
  ⟨hn b hb,hn3 b hb,I4.ok.exfs b hb,.inl hb,λx c e=>(f3 b hb).1.2.2.2.2.1 x c (hcl.2 x c e),λp hp=>(f3 b hb).1.2.2.2.2.2 p (by
   have z:p∈(X.pn++pins)++[]:=hp;rw[Rp] at z;exact z)⟩
 have back:∀{H':Hp} {s':Qc},Inv (kG X N' scope cl h3.objs.size fp pins { s2 with heap:=h3} (upd H2 D (.lst []))) [] (cf src σ) H' s'->(∃m,s'.heap.Ns h3.objs.size m)/\Inv X pins σ H' s'/\yz X pins H' h3.objs.size:=λ{H' s'} I'=>by
  have Ib:Inv X pins σ H' s':=I3.call' I'.os I'.base I'.hok I'.bare λb hb=>⟨(f3 b hb).1.2.2.2.1,(f3 b hb).1.2.1,(f3 b hb).1.2.2.2.2.1,(f3 b hb).1.2.2.2.2.2⟩
  refine⟨let ⟨m,hm,_⟩:=I'.loc;⟨m,hm⟩,Ib,⟨I'.free,λz=>?_,I3.nofs (P7 _),Sc I3.sz,λx c e z=>?_,λp hp z=>?_⟩⟩
  ·have:=I3.lt;rw[←z] at this;exact Ri _ this
  ·obtain⟨v,o,ho,_⟩:=I3.cell x c e;have:=Qt ho;rw[z] at this;exact Ri _ this
  ·obtain⟨e,_⟩:=I3.pin p hp;have:=Qt e;rw[z] at this;exact Ri _ this
 have loop:Uu (QK X.prog X.w) X.A (.compLoop (.ListComp elt [⟨tg,iter,ifs,0⟩] scope pos) 0 (.ref it) (.ref D) (U4 scope cl h3.objs.size X.env)) (RR (.ref D) h3.objs.size) { s2 with heap:=h₄,toks:=s2.toks+([]:List (QX×Value)).length}:=by
  refine oX (λn s'=>∃i ys H',Inv (kG X N' scope cl h3.objs.size fp pins { s2 with heap:=h3} (upd H2 D (.lst []))) [] (cf src σ) H' s'/\tn i s'.heap/\(∀b∈fp,H' b=none)/\W i n ys H') ?_ m0 ⟨0,[],_,I4,st4,fpn,w0⟩;rintro n s5 ⟨i,ys,H5,I5,st5,fr5,w5⟩;rcases turn i n ys H5 w5 with⟨stop,qn⟩ | ⟨go,step⟩
  ·refine bZ (T.done (kG X N' scope cl h3.objs.size fp pins { s2 with heap:=h3} (upd H2 D (.lst []))) rfl rfl rfl hc i [] s5 _ H5 _ I5 (stat fr5) st5 stop) λr s6 ⟨hr,I6⟩=>?_
   subst hr;obtain⟨b1,b2,b3⟩:=back I6;exact hRR D _ H5 s6 qn b1 b2 b3
  ·refine bZ (T.item (kG X N' scope cl h3.objs.size fp pins { s2 with heap:=h3} (upd H2 D (.lst []))) rfl rfl rfl hc i [] s5 _ H5 _ I5 (stat fr5) st5 go) λr s6 ⟨u,hr,h6⟩=>?_
   subst hr;refine bZ h6 λ_ s7 ⟨x,H7,I7,r7,y7,st7,fr7⟩=>?_
   have I7':=I7.pinned (stat fr7) (T.obj _ _ st7);refine bZ (hg _ _ _ _ _ _ s7 _ H7 x u _ I7' r7 (step x H7 y7)) λ_ s8 ⟨σ8,H8,I8,ex8,q8⟩=>?_
   refine bZ (ht _ _ _ _ _ _ s8 σ8 H8 _ I8 q8) λok s9 ⟨H9,I9,q9⟩=>?_
   have again:∀{ys':List V} {Ha:Hp} {sa:Qc},Inv (kG X N' scope cl h3.objs.size fp pins { s2 with heap:=h3} (upd H2 D (.lst []))) ([]++kr fp s7.heap) σ8 Ha sa->(∃m',m'<n/\W (i+1) m' ys' Ha)→
     ∃m,m<n/\∃i ys H',Inv (kG X N' scope cl h3.objs.size fp pins { s2 with heap:=h3} (upd H2 D (.lst []))) [] (cf src σ) H' sa/\tn i sa.heap/\(∀b∈fp,H' b=none)/\W i m ys H':=λ{ys' Ha sa} Ia ⟨m',hm,wa⟩=>by
    refine⟨m',hm,i+1,ys',Ha,(Ia.unpinned).weak ex8.1.symm ex8.2,T.keep _ _ _ st7 λb hb o e=>(Ia.pin (b,o) (Qv _ (Qv _ (eU hb e)))).1,λb hb=>?_,wa⟩;obtain⟨o,e,_⟩:=T.obj _ _ st7 b hb;exact(Ia.pin (b,o) (Qv _ (Qv _ (eU hb e)))).2.1
   cases ok with
   |false=>exact again I9 q9
   |true=>
    refine bZ (he _ _ _ _ _ _ s9 σ8 H9 _ I9 q9) λy s10 ⟨yv,H10,I10,r10,q10,hz,wn⟩=>?_
    refine bZ (bA _ s10 σ8 H10 (.ref D) [yv] (.ref D) [y] (λ_ Hz=>∃m',m'<n/\W (i+1) m' (ys++[yv]) Hz) I10 Z (.cons r10 .nil) ⟨D,ys,yv,Z,Z,q10,hz,wn⟩) λ_ s11 ⟨_,H11,I11,_,q11⟩=>?_
    exact again I11 q11
 exact W0 loop (T.self _ 0 _ _ _ st4 loop)
theorem Be(hc:X.calm=true)(hi:PI X tg iter wi)(hg:∀C fp pins s H,PG (kG X N' scope cl C fp pins s H) tg g)(ht:∀C fp pins s H,Ge (kG X N' scope cl C fp pins s H) ifs tt)
  (he:∀C fp pins s H,PE (kG X N' scope cl C fp pins s H) elt te) (hfree:cN X scope cl N' src) (hclos:Vl scope X.env=Sq cl) (hcell:∀x∈scope.names,x.2≠.cell) (hkind:scope.kind=.function)
  (hnames:∀x∈scope.names,x.2=.local->scope.names.lookup x.1=some .local) (hcl:fG X scope cl) (hs:∀x,Sm iter X.env x=Sq x:=by intro _;rfl) :
  PE X (.ListComp elt [⟨tg,iter,ifs,0⟩] scope pos) (jj wi src g tt te):=by
 intro pins s σ H Q I h;rw[eval_ListComp];refine UH (use:=none) Z hs hclos hkind hnames (sO hc hi hg ht he hfree hcell hkind hcl (RR:=λacc C=>compPost (QK X.prog X.w) X.A X.xe none (EP X pins σ Q) acc C) I h λD C H' s' q hm hI hb=>?_);obtain⟨m,hm⟩:=hm;exact⟨m,hm,λh' sb=>⟨.ref D,H',hb.turned hI sb,Z,q⟩⟩
theorem DV{i:Nat}{x:QX}{pos' pos2:Uf}(hN:X.N.Nodup)(hi':X.N[i]?=some x)(hx:yA X.env.scope x)(hc:X.calm=true)(hi:PI X tg iter wi)(hg:∀C fp pins s H,PG (kG X N' scope cl C fp pins s H) tg g)(ht:∀C fp pins s H,Ge (kG X N' scope cl C fp pins s H) ifs tt)
  (he:∀C fp pins s H,PE (kG X N' scope cl C fp pins s H) elt te) (hfree:cN X scope cl N' src) (hclos:Vl scope X.env=Sq cl) (hcell:∀x∈scope.names,x.2≠.cell) (hkind:scope.kind=.function)
  (hnames:∀x∈scope.names,x.2=.local->scope.names.lookup x.1=some .local) (hcl:fG X scope cl) (hs:∀x,Sm iter X.env x=Sq x:=by intro _;rfl)
  (hsw:S9 (.ListComp elt [⟨tg,iter,ifs,0⟩] scope pos) (some (.Name x pos')) pos2.line X.env=Sq true:=by rfl) (hf:X.fn x=true∨X.env.scope.names.lookup x=some .local:=by first|exact .inl Z|exact .inr Z|assumption) :
  PS X (.Assign [.Name x pos'] (.ListComp elt [⟨tg,iter,ifs,0⟩] scope pos) pos2) (pM (jj wi src g tt te) (jL i)):=by
 intro pins s σ H D I h;rw[Xn _ _ _ _ hsw];refine P9 (Ug ?_);show Qw _ _ ((comprehension (.ListComp elt [⟨tg,iter,ifs,0⟩] scope pos) scope X.env _ (Zr []) false (eval iter X.env) (some (Vj (.Name x pos') X.env)) >>= λ_=>Sq ()) >>= λ_=>Sq YL) _ _ s;refine P9 (P9 (Sd (UH (use:=some (Vj (.Name x pos') X.env)) (Q:=λ_ s''=>SP X pins D .next s'') Z hs hclos hkind hnames (sO hc hi hg ht he hfree hcell hkind hcl (RR:=λacc C=>compPost (QK X.prog X.w) X.A X.xe (some (Vj (.Name x pos') X.env)) (λ_ s''=>SP X pins D .next s'') acc C) I h λE C H' s' q hm hI hb=>?_)) (λ_ s'' h''=>wpAny_pure (wpAny_pure h'')) λ_ _ e=>e));obtain⟨m,o,es,ep,ho,hd,r1,r2⟩:=hm;have I':Inv X (pins++[(C,o)]) σ H' s':=hI.pins_of λp hp=>by
  rcases QP.mp hp with h|h
  ·exact hI.pin p (Qv _ h)
  ·rw[Qj] at h;rw[h];exact⟨ho,hb.no,hb.lo,hb.fs,λv z=>by rw[hd] at z;cases z⟩
 refine V9 (fM I' hN hi' hx (show RelV (.ref E) (.ref E) from Z) (λs'' I''=>?_) hf);have hC:=(I''.pin (C,o) (Qv _ (Qv _ Qd))).1;have I3:Inv X pins (σ.set i (some (.ref E))) H' s'':=I''.pins_of λp hp=>I''.pin p (Qv _ (RD _ hp))
 exact⟨m,⟨o,es,ep,hC,hd,r1,r2⟩,λh' sb=>⟨_,H',hb.turned I3 sb,q⟩⟩
end
def KK(K:P4):R2:=λx y H Q=>∃d d',bD K H x d/\bD K H y d'/\d.canLay0=true/\d'.canLay0=true/\d.depth≤32/\Q (.bl (!PyData.eqv d d')) H
theorem kx(hr:c9 k X.A):gH X (RL .NotEq) (KK X.K):=by
 intro pins s σ H x y v u Q I rx ry h;obtain⟨d,d',hd,hd',c,c',dp,q⟩:=h;obtain⟨as,ra⟩:=bD.reads I hd rx;obtain⟨bs,rb⟩:=bD.reads I hd' ry;exact SeqAt.compareNe_reads ra rb c c' (by have:=hr.units;omega) ⟨.bl _,H,I,Z,q⟩
noncomputable def Ob (h:Qo) (x:Value) (d:PyData) (y:Value):Bool:=
 open Classical in if y=x then true else if z:∃d',d'.canLay0=true/\d'.depth≤32/\∃as,Reads h y d' as then RQ z.choose d else false
def Gg(K:P4)(H:Hp)(xs:List V):Prop:=∀x∈xs,∃d,bD K H x d/\d.canLay0=true/\d.depth≤32
def L5(K:P4):R2:=λx y H Q=>∃a p xs,x=.ref a/\y=.ref p/\aX K H p xs/\V.ref a∈xs/\Gg K H xs/\Q (.bl false) H
def L9(K:P4):V->List V->Hp->VK->Prop:=λx vs H Q=>∃p xs a d,x=.ref p/\vs=[.ref a]/\aX K H p xs/\V.ref a∈xs/\Gg K H xs/\bD K H (.ref a) d/\d.canLay0=true/\d.depth≤32∧
 ∀(j:Nat) (v':V),xs[j]?=some v'->(v'=.ref a∨∀d',bD K H v' d'->d'.canLay0=true->RQ d' d=true)->Q (.int j) H
abbrev R:=Int×Int
def fo(a b:Int):R:=(a/(Qz a b:Int),b/(Qz a b:Int))
structure Wf(n:Nat)(r:R):Prop where
 pos:0<r.2
 top:r.1.natAbs<2^n
 bot:r.2.natAbs<2^n
 cop:Qz r.1 r.2=1
theorem Wf.mono(h:Wf n r)(l:n≤m):Wf m r:=⟨h.pos,QJ h.top (SD (by decide) l),QJ h.bot (SD (by decide) l),h.cop⟩
theorem cr(hb:0<b):0<(Qz a b:Int):=by
 have h:Qz a b≠0:=λz=>by
  have:=(Int.gcd_eq_zero_iff.mp z).2;omega
 omega
theorem f9(a:Int)(hg:0<g):(a/g).natAbs≤a.natAbs:=by
 have h1:=Int.ediv_mul_le a (show g≠0 by omega);have h2:=Int.lt_ediv_add_one_mul_self a hg;rcases Int.le_total 0 a with h|h
 ·have h3:=Ub h (show 0≤g by omega);have h4:a/g≤a/g*g:=by
   have:a/g*1≤a/g*g:=TX (by omega) h3;omega
  omega
 ·have h3:a/g≤0:=by
   have:=Int.ediv_le_ediv hg h;rw[Int.zero_ediv] at this;exact this
  have h5:a≤a/g:=by
   have:a/1≤a/g:=by
    have q:(a/g+1)*g≤(a/g+1)*1∨0<a/g+1:=by
     rcases Int.le_total (a/g+1) 0 with z|z
     ·left;have:=TX (a:=1) (b:=g) (c:=-(a/g+1)) (by omega) (by omega);have e1:-(a/g+1)*1=-((a/g+1)*1):=Y9 _ _;have e2:-(a/g+1)*g=-((a/g+1)*g):=Y9 _ _;omega
     ·rcases Int.lt_or_eq_of_le z with z|z
      ·right;exact z
      ·left;rw[←z];simp
    rw[WV];rcases q with q|q
    ·omega
    ·omega
   rw[WV] at this;exact this
  omega
theorem IW(hb:0<b)(h1:a.natAbs<2^n)(h2:b.natAbs<2^n):Wf n (fo a b):=
 ⟨Um hb (R5 (cr hb)) (Tz a b),Rn (f9 _ (cr hb)) h1,Rn (f9 _ (cr hb)) h2,Uy (by have:=cr (a:=a) hb;omega)⟩
def bP(r q:R):R:=fo (r.1*q.2+q.1*r.2) (r.2*q.2)
def fZ(r q:R):R:=fo (r.1*q.1) (r.2*q.2)
def cP(r q:R):Bool:=decide (r.1*q.2<q.1*r.2)
theorem uw{x y:Int}(h1:x.natAbs<2^n)(h2:y.natAbs<2^m):(x*y).natAbs<2^(n+m):=by
 rw[S7,Xs];exact Nat.mul_lt_mul'' h1 h2
def Nr(i j:Int):Prop:=i.natAbs<2^4000/\j.natAbs<2^4000
def No(_ j:Int):Prop:=0<j/\j.natAbs<2^4000
theorem wB(h:i.natAbs<2^4000):XR i≤2^20:=by
 unfold XR
 split
 ·exact Qu _
 ·rename_i z;have hz:i.natAbs≠0:=λq=>z (by
   have:i=0:=by omega
   rw[this];rfl)
  have:=(Xu hz).mpr h;have e:(2:Nat)^20=1048576:=by decide
  omega
section
variable {X:Cx}
theorem cu:gH X (TN .Mult) (rI Nr λi j=>.int (i*j)):=JX λ_ _ _ _ _ _ _ hc q=>mul_int q (IntMulOk.of_bits (wB hc.1) (wB hc.2))
theorem d0:gH X (TN .FloorDiv) (rI No λi j=>.int (i/j)):=JX λi j _ _ _ _ _ hc q=>by
 have h1:(0:Int)<j:=hc.1;have h2:j.natAbs<2^4000:=hc.2;refine floordiv_int (by omega) (by rw[VR i (by omega)];exact q) (.inl (PyProof.noPylong_of_log2 ?_));exact Yw ((Xu (show j.natAbs≠0 by omega)).mpr h2) (by decide)
end
def aK(K:P4)(H H':Hp):Prop:=∀p xs,bF K H p xs->bF K H' p xs
theorem aK.trans{K:P4}{H H1 H2:Hp}(a:aK K H H1)(b:aK K H1 H2):aK K H H2:=λp xs h=>b p xs (a p xs h)
theorem aK.same{K:P4}{H H':Hp}(s:aH H H'):aK K H H':=λp xs h=>by
 rcases h with(h | ⟨o,h⟩)|h
 ·exact .inl (.inl (s _ _ h))
 ·exact .inl (.inr ⟨o,s _ _ h⟩)
 ·exact .inr h
theorem aK.new{K:P4}{H:Hp}{p:Addr}(h:H p=none)(o:HO):aK K H (upd H p o):=aK.same (au h o)
theorem aK.step{K:P4}{t:Addr}{H H':Hp}(S:eI t H H'):aK K H H':=λp xs h=>by
 obtain⟨ys,ht⟩:=S.tp;rcases h with(h | ⟨o,h⟩)|h
 ·exact .inl (.inl (S.keep _ _ (λz=>by subst z;rw[h] at ht;cases ht) h))
 ·exact .inl (.inr ⟨o,S.keep _ _ (λz=>by subst z;rw[h] at ht;cases ht) h⟩)
 ·exact .inr h
theorem aK.up{K:P4}{H:Hp}{l:Addr}{xs:List V}(h:H l=some (.lst xs))(ys:List V):aK K H (upd H l (.lst ys)):=aK.step (eI.up h)
def RV(K:P4)(H:Hp)(v:V)(r:R):Prop:=∃p,v=.ref p/\bF K H p [.int r.1,.int r.2]
theorem RV.mono{K:P4}{H H':Hp}{v:V}{r:R}(h:RV K H v r)(t:aK K H H'):RV K H' v r:=let ⟨p,e,q⟩:=h;⟨p,e,t _ _ q⟩
theorem RV.of{K:P4}{H:Hp}{p:Addr}{a b:Int}(h:H p=some (.tup [.int a,.int b])):RV K H (.ref p) (a,b):=⟨p,Z,bF.of h⟩
def Mg(K:P4)(H:Hp)(xs:List V)(rs:List R):Prop:=xs.length=rs.length/\∀(i:Nat) (x:V) (r:R),xs[i]?=some x->rs[i]?=some r->RV K H x r
theorem Mg.at{K:P4}{H:Hp}{xs:List V}{rs:List R}{i:Nat}{x:V}(h:Mg K H xs rs)(e:xs[i]?=some x):∃r,rs[i]?=some r/\RV K H x r:=by
 have hi:=(Qq.mp e).1;have hj:i<rs.length:=by rw[←h.1];exact hi
 exact⟨rs[i],P5 hj,h.2 i x _ e (P5 hj)⟩
def KQ(r:R):Nat->R
 |0=>(1,1)
 |k+1=>fZ (KQ r k) r
theorem Da:Wf 1 (0,1):=⟨by decide,by decide,by decide,by decide⟩
def eK(rs:List R):R:=rs.foldl bP (0,1)
theorem za(rs:List R)(r:R):eK (rs++[r])=bP (eK rs) r:=by unfold eK;rw[RS];rfl
def dR(r:R):PyData:=.tuple [.int r.1,.int r.2]
theorem RV.deep{K:P4}{H:Hp}{v:V}{r:R}(h:RV K H v r):bD K H v (dR r):=by
 obtain⟨p,rfl,q⟩:=h;exact .tup q (.cons (.int _) (.cons (.int _) .nil))
theorem jS(r:R):(dR r).depth≤32:=by show max 0 (max 0 0)+1≤32;decide
theorem IY{i:Int}(h:i.natAbs<2^n)(hn:n≤1900):i.natAbs.log2<1920:=by
 by_cases z:i.natAbs=0
 ·rw[z];decide
 ·have:=(Xu z).mpr (QJ h (SD (by decide) hn));omega
theorem IZ(h:i.natAbs<2^n)(hn:n≤1900):(ZF i).shown.length≤1921:=by
 have q:=int_text_length_le (a:=i) (k:=1920) (by decide) (IY h hn);have e:(ZF i).shown.length=(toString i).length:=by
  show(Qr (toString i)).length=_;exact PySem.ofString_length _
 omega
theorem Jm(h:RQ (dR r) (dR q)=true):r=q:=by
 have z:(r.1==q.1&&(r.2==q.2&&true))=true:=h;simp only[XY,QM,beq_iff_eq] at z;exact ZB z.1 z.2
theorem Cj(r:R):RQ (dR r) (dR r)=true:=by
 show(r.1==r.1&&(r.2==r.2&&true))=true;simp
def dL(rs:List R):PyData:=.list (rs.map dR)
def Lh(K:P4)(tl:TE):TI:=λσ H R=>tl σ H λx H1=>(∃a,x=.ref a/\(∃xs,aX K H1 a xs)/\R (yC K a) H1)∨(∃a,x=.ref a/\(∃xs,bF K H1 a xs)/\R (C8 K a) H1)
theorem Hw(hl:PE X l tl):PI X tg l (Lh X.K tl):=by
 intro pins s σ H R I h;refine bZ (hl pins s σ H _ I h) λv s1 ⟨x,H1,I1,r1,q1⟩=>?_
 rcases q1 with⟨a,e,⟨xs,hq⟩,q⟩ | ⟨a,e,⟨xs,hq⟩,q⟩
 ·subst e;cases r1;obtain⟨its,rv,p,hz⟩:=I1.list hq;refine U0 p.isList ?_;refine⟨s1.heap.objs.size,[s1.heap.objs.size],_,_,H1,Z,I1.kept (t':=s1.toks) λb o e=>Qb _ e,oB a _,⟨_,QD _ Z,Z,Z⟩,λb hb=>?_,q⟩;have e:b=s1.heap.objs.size:=by simpa using hb
  subst e;exact I1.fpOk (P7 _) (I1.hok.fresh (P7 _))
 ·subst e;cases r1;obtain⟨its,rv,p,hz⟩:=I1.tuple hq;refine T7 (show s1.heap.IsTuple a its.toArray from p) ?_;refine⟨s1.heap.objs.size,[s1.heap.objs.size],_,_,H1,Z,I1.kept (t':=s1.toks) λb o e=>Qb _ e,me a _,⟨_,QD _ Z,Z,Z⟩,λb hb=>?_,q⟩;have e:b=s1.heap.objs.size:=by simpa using hb
  subst e;exact I1.fpOk (P7 _) (I1.hok.fresh (P7 _))
structure gf(r:R):Prop where
 pos:0<r.2
 cop:Qz r.1 r.2=1
theorem iu(hb:0<b):gf (fo a b):=
 ⟨Um hb (R5 (cr hb)) (Tz a b),Uy (by have:=cr (a:=a) hb;omega)⟩
theorem fc(hb:0<b)(hy:0<y)(g:Qz x y=1)(e:x*b=a*y):fo a b=(x,y):=by
 have h1:Qz (a*y) (b*y)=Qz a b*y.natAbs:=Yx a y b;have h2:Qz (x*b) (y*b)=Qz x y*b.natAbs:=Yx x b y;rw[e,TB y b,h1,g,Nat.one_mul] at h2;have h3:(Qz a b:Int)*y=b:=by
  have z:((Qz a b*y.natAbs:Nat):Int)=(b.natAbs:Int):=congrArg _ h2;rw[UL,Xv (by omega),Xv (by omega)] at z;exact z
 have gp:=cr (a:=a) hb;have h4:a=x*(Qz a b:Int):=by
  have z:x*(Qz a b:Int)*y=a*y:=by rw[XZ,h3];exact e
  exact(To (by omega) z).symm
 unfold fo;generalize (Qz a b:Int)=G at h3 h4 gp;subst h4;subst h3;rw[Int.mul_ediv_cancel _ (by omega),QY _ (by omega)]
theorem ib(h:Qz a b=1)(d:c∣a):Qz c b=1:=
 Yc.mpr λz h1 h2=>Yc.mp h z (UI h1 d) h2
theorem iB(h:Qz a b=1)(d:c∣b):Qz a c=1:=by
 rw[Tf];exact ib (by rw[Tf];exact h) d
theorem lU(h:Qz a b=1)(k:Qz a c=1):Qz a (b*c)=1:=by
 rw[Int.gcd_mul_right_right_of_gcd_eq_one h];exact k
theorem jT(h:Qz a c=1)(k:Qz b c=1):Qz (a*b) c=1:=by
 rw[Tf];exact lU (by rw[Tf];exact h) (by rw[Tf];exact k)
theorem fJ(hb:0<b):∃g x y:Int,(Qz a b:Int)=g/\0<g/\a=g*x/\b=g*y/\Qz x y=1:=by
 have gp:=cr (a:=a) hb;obtain⟨x,hx⟩:=YR a b;obtain⟨y,hy⟩:=Tz a b;refine⟨_,x,y,Z,gp,hx,hy,?_⟩;have z:=Uy (i:=a) (j:=b) (by omega);have e1:a/(Qz a b:Int)=x:=by
  conv=>lhs;lhs;rw[hx]
  exact QY _ (by omega)
 have e2:b/(Qz a b:Int)=y:=by
  conv=>lhs;lhs;rw[hy]
  exact QY _ (by omega)
 rw[e1,e2] at z;exact z
theorem i6{g y b:Int}(hb:0<b)(hg:0<g)(e:b=g*y):0<y:=by
 rcases Int.lt_or_le 0 y with h|h
 ·exact h
 ·have:=TX h (R5 hg);rw[Int.mul_zero] at this;omega
def rT(r q:R):R:=
 let d:Int:=(Qz r.2 q.2:Nat);let t:=r.1*(q.2/d)+q.1*(r.2/d);let e:Int:=(Qz t d:Nat)
 (t/e,r.2/d*(q.2/e))
theorem A4(hr:gf r)(hq:gf q):rT r q=bP r q:=by
 obtain⟨d,u,v,e0,dp,e1,e2,cuv⟩:=fJ (a:=r.2) hq.pos;have up:=i6 hr.pos dp e1;have vp:=i6 hq.pos dp e2;obtain⟨e,x,w,f0,ep,f1,f2,cxw⟩:=fJ (a:=r.1*v+q.1*u) dp;have wp:=i6 dp ep f2;have du:r.2/d=u:=by rw[e1];exact QY _ (by omega)
 have dv:q.2/d=v:=by rw[e2];exact QY _ (by omega)
 have te:(r.1*v+q.1*u)/e=x:=by rw[f1];exact QY _ (by omega)
 have qe:q.2/e=w*v:=by rw[e2,f2,XZ];exact QY _ (by omega)
 have c1:Qz r.1 u=1:=iB hr.cop ⟨d,by rw[e1,TB]⟩;have c2:Qz q.1 v=1:=iB hq.cop ⟨d,by rw[e2,TB]⟩;have xd:x∣(r.1*v+q.1*u):=⟨e,by rw[f1,TB]⟩;have t1:Qz (r.1*v+q.1*u) u=1:=by
  rw[Tf,VH,Tf];exact jT c1 (by rw[Tf];exact cuv)
 have t2:Qz (r.1*v+q.1*u) v=1:=by
  rw[Int.add_comm,Tf,VH,Tf];exact jT c2 cuv
 have cx:Qz x (u*(w*v))=1:=lU (ib t1 xd) (lU cxw (ib t2 xd));have z:rT r q=(x,u*(w*v)):=by
  unfold rT;simp only[e0,du,dv,f0,te,qe]
 rw[z];unfold bP;refine(fc (RT hr.pos hq.pos) (RT up (RT wp vp)) cx ?_).symm;have k:r.1*q.2+q.1*r.2=d*(e*x):=by
  rw[e1,e2,←f1,Int.mul_add];rw[U6 r.1 d v,U6 q.1 d u]
 rw[k,e1,e2];have k2:d*u*(d*v)=d*u*(e*w*v):=by rw[←f2]
 rw[k2]
 ac_rfl
def mf(r q:R):R:=
 let l:Int:=(Qz r.1 q.2:Nat);let m:Int:=(Qz q.1 r.2:Nat)
 (r.1/l*(q.1/m),r.2/m*(q.2/l))
theorem wU(hr:gf r)(hq:gf q):mf r q=fZ r q:=by
 obtain⟨l,a,b,e0,lp,e1,e2,cab⟩:=fJ (a:=r.1) hq.pos;obtain⟨m,c,d,f0,mp,f1,f2,ccd⟩:=fJ (a:=q.1) hr.pos;have bp:=i6 hq.pos lp e2;have dp:=i6 hr.pos mp f2;have z:mf r q=(a*c,d*b):=by
  unfold mf;simp only[e0,f0];rw[show r.1/l=a by rw[e1];exact QY _ (by omega),show q.2/l=b by rw[e2];exact QY _ (by omega),
   show q.1/m=c by rw[f1];exact QY _ (by omega),show r.2/m=d by rw[f2];exact QY _ (by omega)]
 have cad:Qz a d=1:=ib (iB hr.cop ⟨m,by rw[f2,TB]⟩) ⟨l,by rw[e1,TB]⟩;have ccb:Qz c b=1:=ib (iB hq.cop ⟨l,by rw[e2,TB]⟩) ⟨m,by rw[f1,TB]⟩;rw[z];unfold fZ;refine(fc (RT hr.pos hq.pos) (RT dp bp) (lU (jT cad ccd) (jT cab ccb)) ?_).symm;rw[e1,e2,f1,f2]
 ac_rfl
theorem A3(hr:gf r)(hq:gf q):gf (bP r q):=iu (RT hr.pos hq.pos)
def Os(_ j:Int):Prop:=j≠0/\j.natAbs<2^4000
def O4(a b:Int):R:=if b<0 then fo (-a) (-b) else fo a b
def bn(r q:R):R:=fo (r.1*q.2-q.1*r.2) (r.2*q.2)
def K0(r q:R):R:=O4 (r.1*q.2) (r.2*q.1)
structure Oj(d:PyData):Prop where
 sh:d.showable=true
 nd:d.hasDict=false
 sz:d.shown.length≤5000
 dp:d.depth≤8
theorem oQ(hb:0<b):(fo a b).1*b=a*(fo a b).2:=by
 obtain⟨g,x,y,_,gp,e1,e2,c⟩:=fJ (a:=a) hb;have yp:=i6 hb gp e2;have e:x*b=a*y:=by rw[e1,e2];ac_rfl
 rw[fc hb yp c e];exact e
theorem rZ(r q:R):bP r (-q.1,q.2)=bn r q:=by
 unfold bP bn;rw[Y9,←Int.sub_eq_add_neg]
section
variable {prog:Q4}{w:Rm}{A:Rg}{E:Value->Qc->Prop}{h:Qo}{g:Array GenState}{d:Drawn}{t:Nat}{os:OsState}{K:P4}
variable {nm q:QX}{C N:Addr}{bs bm bmB:List Value}{hdct:Bool}{sn:List QX}{sub:List Value}{ab:Bool}{col:Option Bool}{dd:Option Addr}{k0 k1 k2 k3 k5:Option Value}{bN newId initId:String}
theorem qE(F:ExcBaseFacts bN newId initId bmB)(T:Yy h bmB bm){c6:List Value}(X:K.In h)
  (hC:h.get? C=some (Tl nm q C N bs bm hdct sn sub ab col dd k0 k1 k2 k3 k5 newId)) (hi:Rc K (.ref C) "__init__"=some (some (.ref fI))) (hf:U2 K (.ref fI)=some (.type "function"))
  (hq:∀h' e,ZG h h' e (.ref C) c6->Qw (QK prog w) A (call (.ref fI) (.ref e:: c6)) (λr s'=>r=.none/\Q (.done (.ret (.ref e))) s') E ⟨h',g,d,t,os⟩) (hz:c6.length≤sizeLine):
  Qw (QK prog w) A (Q8.«type.__call__» ⟨.ref C:: c6,[]⟩) Q E ⟨h,g,d,t,os⟩:=by
 repeat(first
  |with_reducible refine wpAny_loadPart_at hC ?_
  |with_reducible refine wpAny_madeBy_exc hC ?_
  |wp_step)
 refine codeAny_call_builtin_code (Yd _ F.quiet)
  (wpAny_check_new_subT F T hC ?_)
 refine codeAny_exc_new_subT F T hC ?_ hz;show Qw _ _ _ _ _ _;have up:∀b o,h.get? b=some o->((h.push { cls:=.type "tuple",data:=.seq c6.toArray}).push
   { cls:=.ref C,data:=.fields #[.ref h.objs.size,.none,.none,.none,.bool false,.none]}).get? b=some o:=λb o e=>
  Qb _ (Qb _ e)
 have hC₁:=up _ _ hC;have X₁:=X.keeps up;have hx:((h.push { cls:=.type "tuple",data:=.seq c6.toArray}).push
   { cls:=.ref C,data:=.fields #[.ref h.objs.size,.none,.none,.none,.bool false,.none]}).get? (h.objs.size+1)=
   some { cls:=.ref C,data:=.fields #[.ref h.objs.size,.none,.none,.none,.bool false,.none]}:=by heap_get
 have hcC:(QQ C::bm).contains (.ref C)=true:=by simp
 unfold isInstance
 repeat(first
  |with_reducible refine wpAny_loadPart_at hx ?_
  | (with_reducible refine wpAny_isSubtype_exc hC₁ ?_
     rw[hcC])
  |wp_step)
 show Qw _ _ (ZC (.ref C) _) _ _ _;refine(Vr X₁ hi) _ _ _ _ (λ_ _ e=>e) ?_;refine wpAny_holding (P9 ?_);refine(Zj X₁ _ hf) _ _ _ _ (λ_ _ e=>e) ?_;refine P9 (Sd (hq _ (h.objs.size+1)
  ⟨up,Sc (SQ _),h.objs.size,hx,Sc (P7 _),?_⟩) (λr s' hr=>?_) λ_ _ y=>y)
 ·exact Qb _ (Qo.get?_push_at Z Z)
 ·obtain⟨rfl,hQ⟩:=hr
  wp_walk
  exact hQ
theorem Ch(F:ExcBaseFacts bN newId initId bmB)(T:Yy h bmB bm){c6:List Value}(X:K.In h)
  (hC:h.get? C=some (Tl nm q C N bs bm hdct sn sub ab col dd k0 k1 k2 k3 k5 newId)) (hi:Rc K (.ref C) "__init__"=some (some (.ref fI))) (hf:U2 K (.ref fI)=some (.type "function"))
  (hq:∀h' e,ZG h h' e (.ref C) c6->Qw (QK prog w) (A.under (.builtin "type.__call__" ⟨.ref C:: c6,[]⟩)) (call (.ref fI) (.ref e:: c6)) (λr s'=>r=.none/\Q (.ref e) s') E ⟨h',g,d,t,os⟩) (hz:c6.length≤sizeLine):
  Qw (QK prog w) A (call (.ref C) c6) Q E ⟨h,g,d,t,os⟩:=by
 have f1:=tc_lookup;have f2:=tc_bind (.ref C);have hT:(⟨h,g,d,t,os⟩:Qc).TypeIs (.ref C) "type" := ⟨_,hC,Z⟩;refine X9 (codeAny_of_tree ?_);show Qw _ _ (callAny (.ref C) _) _ _ _
 repeat(any_goals(first
  |assumption
  |with_reducible refine wpAny_loadPart_at hC ?_
  |wp_step))
 refine⟨Z,?_⟩;refine codeAny_call_builtin_at (Yd _ (by decide +kernel)) entry_typeCall
  (wpAny_check_type_call_sub hC (qE F T X hC hi hf (λh' e hm=>?_) hz))
 exact hq h' e hm
end
def l6:List Value:=[.type "ValueError",.type "Exception",.type "BaseException",.type "object"]
structure oq(K:P4)(C:Addr)(bm:List Value):Prop where
 ob:∃nm q N bs hdct sn sub ab col dd k0 k1 k2 k3 k5,K.lookup C=some (Tl nm q C N bs bm hdct sn sub ab col dd k0 k1 k2 k3 k5 "ValueError.__new__")
 tl:∀h:Qo,K.In h->Yy h l6 bm
 hd:Uh K C=true
 sa:Rc K (.ref C) "__setattr__"=some (some (.builtin "object.__setattr__"))
theorem EK(T:Yy h l6 tl)(self:Value):refuseLoop self "__setattr__" tl=Sq ():=by
 induction T with
 |base=>exact PySem.F.store_ValueError.passes self
 |own _ _ _ _ ih=>rw[refuseLoop_ref];exact ih
theorem CG{K:P4}{C:Addr}{bm:List Value}(c:oq K C bm):∃cd,ZQ K C=some cd/\cd.mro=.ref C::bm:=by
 obtain⟨nm,q,N,bs,hdct,sn,sub,ab,col,dd,k0,k1,k2,k3,k5,lk⟩:=c.ob;unfold ZQ;rw[lk];exact⟨_,Z,Z⟩
section
variable {prog:Q4}{w:Rm}{A:Rg}{s:Qc}{K:P4}{x C:Addr}{R:YO->Qc->Prop}
theorem oF(X:K.In s.heap)(I:VT s.heap x ox C od)(c:oq K C bm)(n:cZ K C name)
  (h:∀b,Qw (QK prog w) A.in1 (Q8.ObjectAttr.storeInOwnDict (.ref x) (.ref C) (.str name tk) name v b) (λfin s'=>match fin with
   | .done f=>R (.ok f) s'
   | .again c'=>c'.quiet=true/\Uu (QK prog w) A c' R s') (λe s'=>R (.error e) s') s):
  Uu (QK prog w) A (.call (.builtin "object.__setattr__") ⟨[.ref x,.str name tk,v],[]⟩) R s:=by
 have sf:=PySem.F.store_object;obtain⟨cd,hc,hm⟩:=CG c;have T:=c.tl _ X;have hob:(QQ C::bm).contains (.type "object")=true:=by
  rw[Ua,T.hasType (X := "object") (b:=true) (by decide +kernel),VI]
 have isO:UF (QK prog w) s.heap (isInstance (.ref x) (.type "object")) true:=by
  refine I.type.andThen (PySem.W.looks_mroIn X ?_);unfold ZN;rw[hc];show(if cd.mro.isEmpty=true then none else some (cd.mro.contains (.type "object")))=some true;rw[hm,hob];rfl
 have ms:UF (QK prog w) s.heap (mroOf (.ref C)) (.ref C::bm):=by
  rw[←hm];exact(UA X hc).andThen .now
 refine codeAny_call_builtin sf.slot.plain sf.entry (PySem.W.check_slot (i := "object.__setattr__") (owner := "object") (n := "__setattr__") sf.kind sf.split isO (sf.args _ _ _) ?_);rw[PySem.W.osa_eq,refuse_eq];refine P9 (P9 (I.type.here (P9 (ms.here ?_))));rw[refuseLoop_ref,EK T];refine wpAny_pure (P9 (I.type.here (P9 ((Vr X n).here (P9 ?_)))));exact UP (r:=none) .now (h _)
end
def LS(a C:Addr)(dx:Option Addr):Qo->Prop:=λh=>∃t:Addr,h.get? a=some { cls:=.ref C,dict:=dx,data:=.fields #[.ref t,.none,.none,.none,.bool false,.none]}
def jO(a C:Addr)(dx:Option Addr):HO:=.ext (LS a C dx)
theorem Ci(e:LS a C dx h):ObjOk P w H h a (jO a C dx):=
 ⟨e,let ⟨_,q⟩:=e;⟨_,q⟩,λ_ _ ⟨t,q⟩ k=>⟨t,k _ q⟩⟩
def Cv(H:Hp)(a:Addr):Hp:=λb=>if b=a then none else H b
theorem jR:Cv H a a=none:=by unfold Cv;rw[Z9 Z]
theorem ia(h:b≠a):Cv H a b=H b:=by unfold Cv;rw[aaa h]
section
variable {X:Cx}{pins:List (Addr×R9)}{σ:L2.St}{H:Hp}{s:Qc}{a C:Addr}{dx:Option Addr}
theorem Inv.forget(I:L2.Inv X pins σ H s)(e:H a=some (.ext φ))(new:X.s₀.heap.get? a=none):L2.Inv X pins σ (Cv H a) s:=by
 have none_of:∀b,H b=none->Cv H a b=none:=λb h=>by
  by_cases z:b=a
  ·rw[z];exact jR
  ·rw[ia z];exact h
 refine⟨I.ok,I.os,I.bare,⟨I.base.keep,I.base.slot,λb o q n hx=>none_of b (I.base.free b o q n hx),I.base.there,λb xs q=>?_,λb o u q=>?_,λb ps q=>?_⟩,I.loc,I.cell,none_of _ I.free,λx c q=>none_of _ (I.freeC x c q),λp hp=>?_,λb o q=>?_,I.len⟩
 ·have z:=I.base.tups b xs q;rw[ia (λk=>by rw[k,e] at z;cases z)];exact z
 ·have z:=I.base.frzs b o u q;rw[ia (λk=>by rw[k,e] at z;cases z)];exact z
 ·obtain⟨m,z⟩:=I.base.tbls b ps q;exact⟨m,by rw[ia (λk=>by rw[k,e] at z;cases z)];exact z⟩
 ·obtain⟨p1,p2,p3⟩:=I.pin p hp;exact⟨p1,none_of _ p2,p3⟩
 ·have nb:b≠a:=λz=>by rw[z,jR] at q;cases q
  rw[ia nb] at q;refine(I.hok b o q).stay (λc u _ z=>z) (λc z=>?_) (λc xs z=>?_)
  ·rw[ia (λk=>by rw[k,e] at z;cases z)];exact z
  ·rw[ia (λk=>by rw[k,e] at z;cases z)];exact z
end
theorem ObjOk.get(x:L2.ObjOk P w H h a o):∃u,h.get? a=some u:=by
 cases o with
 |lst xs=>obtain⟨_,_,_,_,e⟩:=x;exact⟨_,e⟩
 |tup xs=>obtain⟨_,_,_,o,e,_⟩:=x;exact⟨_,e⟩
 |dK kvs=>obtain⟨_,_,_,_,o,_,_,e,_⟩:=x;exact⟨_,e⟩
 |dT kvs=>obtain⟨_,_,_,_,o,_,_,e,_⟩:=x;exact⟨_,e⟩
 |set S n=>obtain⟨o,_,_,_,e,_⟩:=x;exact⟨_,e⟩
 |ins C dx fs=>obtain⟨_,_,_,e,_⟩:=x;exact⟨_,e⟩
 |own y=>exact x
 |xd fs=>obtain⟨_,⟨_,_,_,e,_⟩,_⟩:=x;exact⟨_,e⟩
 |rng lo hi=>obtain⟨_,_,_,e⟩:=x;exact⟨_,e⟩
 |frz ob u=>obtain⟨e,_⟩:=x;exact⟨_,e⟩
 |tbl ps=>exact⟨_,show h.get? a=some _ from x⟩
 |met f y=>exact⟨_,show h.get? a=some _ from x⟩
 |ext φ=>exact x.2.1
def Oh(h:Qo)(H:Hp)(x C T:Addr)(a0:Value):Prop:=
 ∃oe vs oT ts,h.get? x=some oe/\oe.cls=.ref C/\vs[0]?=some a0/\oe.data=.fields vs/\vs[1]?=some (.ref T)/\H T=none/\T≠x/\h.get? T=some oT/\oT.data=.fields ts/\ts[3]?=some .none
def P3(P:Q4)(w:Rm):tO:=λouter H s E e s'=>∃(x C T:Addr) (a0:Value) (H':Hp),e=.ref x/\s'.os=s.os/\Vp s'.gens/\Un (qD outer) [] H H' s.heap s'.heap/\iO P w H' s'.heap/\s.heap.get? x=none/\s.heap.get? T=none/\H' x=none∧
 Oh s'.heap H' x C T a0/\E (.ref C) none H'
structure gC(X:Cx)(pins:List (Addr×R9))(a:Addr):Prop where
 st:X.s₀.heap.get? a=none
 lo:a≠X.env.locals
 ce:∀x c,X.env.cells.lookup x=some c->c≠a
 pi:∀p∈X.pn++pins,p.1≠a
 fr:a∉qD X.stack
section
variable {X:Cx}{pins:List (Addr×R9)}{σ:L2.St}{H H':Hp}{s:Qc}{a:Addr}
theorem Inv.newAt(I:L2.Inv X pins σ H s)(hex:X.ex=[])(h:s.heap.get? a=none):gC X pins a where
 st:=by
  cases e:X.s₀.heap.get? a with
  |none=>rfl
  |some o=>
   obtain⟨o',q⟩:=I.base.there a o e (by rw[hex];simp);rw[h] at q;cases q
 lo:=λz=>by
  obtain⟨m,⟨o,_,_,q,_⟩,_⟩:=I.loc;rw[←z,h] at q;cases q
 ce:=λx c e z=>by
  obtain⟨v,o,q,_⟩:=I.cell x c e;rw[z,h] at q;cases q
 pi:=λp hp z=>by
  obtain⟨q,_⟩:=I.pin p hp;rw[z,h] at q;cases q
 fr:=λz=>by
  obtain⟨_,o,q,_⟩:=I.stack.mem z;rw[h] at q;cases q
end
section
variable {X:Cx}{pins:List (Addr×R9)}{σ:L2.St}{H:Hp}{s:Qc}{a:Addr}{o:HO}
theorem Inv.adopt(I:L2.Inv X pins σ H s)(na:gC X pins a)(ha:H a=none)(hex:X.ex=[])(new:L2.ObjOk X.prog X.w (upd H a o) s.heap a o):L2.Inv X pins σ (upd H a o) s:=by
 have keep:∀b u,H b=some u->upd H a o b=some u:=λb u q=>by rw[ao (aC q ha)];exact q
 have nn:∀b,b≠a->H b=none->upd H a o b=none:=λb nb q=>by rw[ao nb];exact q
 refine⟨I.ok,I.os,I.bare,⟨I.base.keep,I.base.slot,λb u q n hx=>nn b (λz=>by rw[z,na.st] at q;cases q) (I.base.free b u q n hx),I.base.there,λb xs q=>keep _ _ (I.base.tups b xs q),λb u v q=>keep _ _ (I.base.frzs b u v q),λb ps q=>?_⟩,I.loc,I.cell,nn _ na.lo.symm I.free,λx c q=>nn _ (na.ce x c q) (I.freeC x c q),λp hp=>?_,λb u q=>?_,I.len⟩
 ·obtain⟨m,z⟩:=I.base.tbls b ps q;exact⟨m,keep _ _ z⟩
 ·obtain⟨p1,p2,p3⟩:=I.pin p hp;exact⟨p1,nn _ (na.pi p hp) p2,p3⟩
 ·by_cases z:b=a
  ·subst z;rw[ah] at q;cases q;exact new
  ·rw[ao z] at q;exact(I.hok b u q).stay (λc v _ w=>w) (λc w=>keep _ _ w) (λc xs w=>keep _ _ w)
theorem Inv.none_of(I:L2.Inv X pins σ H s)(h:s.heap.get? a=none):H a=none:=by
 cases q:H a with
 |none=>rfl
 |some o=>obtain⟨u,z⟩:=ObjOk.get (I.hok a o q);rw[h] at z;cases z
end
structure XC(K:P4)(C f:Addr)(bm:List Value):Prop where
 ob:∃nm q N bs hdct sn sub ab col dd k0 k1 k2 k3 k5,K.lookup C=some (Tl nm q C N bs bm hdct sn sub ab col dd k0 k1 k2 k3 k5 "ValueError.__new__")
 tl:∀h:Qo,K.In h->Yy h l6 bm
 init:Rc K (.ref C) "__init__"=some (some (.ref f))
 fn:U2 K (.ref f)=some (.type "function")
 kp:Sr K (.ref C)=true
 cl:oq K C bm
section
variable {X:Cx}{k:Nat}{f C:Addr}{fd:Qh}{ps:List QX}{sp:Sp}{bm:List Value}
theorem DG{pins:List (Addr×R9)}{σ:L2.St}{H:Hp}{s:Qc}{Q:Addr->Hp->Prop}{us:List Value}{vs:List V}{E':Value->Qc->Prop}(M:XC X.K C f bm)(hex:X.ex=[])(F:bC X.prog X.w X.K X.mg X.base dU k f fd ps sp)(hr:c9 (k+1) X.A)(hb:aN X.K fd ps [])
  (I:L2.Inv X pins σ H s) (r:bo vs us) (hz:us.length≤sizeLine) (h:∀a,H a=none->sp (.ref a::vs) (upd H a (jO a C none)) (λv H2=>v=.non/\Q a H2) E0) :
  Qw (QK X.prog X.w) X.A (call (.ref C) us) (λv s'=>∃a H',v=.ref a/\gC X pins a/\L2.Inv X pins σ H' s'/\Q a H') E' s:=by
 obtain⟨nm,q,N,bs,hdct,sn,sub,ab,col,dd,k0,k1,k2,k3,k5,lk⟩:=M.ob;obtain⟨hp,g,d,t,os⟩:=s;refine Ch PySem.F.excBase_ValueError (M.tl hp I.kIn) I.kIn (I.kIn _ _ lk) M.init M.fn (λh' e hm=>?_) hz;have na:=B.Inv.newAt I hex hm.new;have he:=B.Inv.none_of I hm.new;obtain⟨tt,ho,_⟩:=hm.there;have I1:L2.Inv X pins σ H ⟨h',g,d,t,os⟩:=I.kept (t':=t) hm.keeps;have I2:L2.Inv X pins σ (upd H e (jO e C none)) ⟨h',g,d,t,os⟩:=B.Inv.adopt I1 na he hex (Ci ⟨tt,ho⟩);have hq:=h e he;have r2:bo (V.ref e::vs) (QQ e::us):=.cons Z r;have hl:(QQ e::us).length=ps.length:=by
  have z:=r2.length;rw[F.len _ _ _ _ hq] at z;exact z.symm
 have hbd:=hb ⟨h',g,d,t,os⟩ (QQ e::us) I2.kIn (by rw[Rp];exact hl);rw[Rp] at hbd;refine X9 (VF (F.run _ X.stack _ _ ⟨QQ e::us,[]⟩ (QQ e::us) _ _ E0 (hr.make C us []) (I2.env0.make C us []) hbd r2 hq) λr s' hq'=>?_)
 cases r with
 |error e=>exact Sj hq'
 |ok fl=>
  cases fl with
  |ret u=>
   obtain⟨v,H',I3,rv,ev,q3⟩:=I2.after hq';subst ev;exact⟨rv,e,H',Z,na,I3,q3⟩
  |next=>exact Sj hq'
  |brk=>exact Sj hq'
  |cont=>exact Sj hq'
def Oi(X:Cx)(E:XK):Prop:=∀(pins:List (Addr×R9)) (σ:L2.St) (H:Hp) (s:Qc) (a C:Addr) (oe:R9) (vs:Array Value) (a0:Value),L2.Inv X pins σ H s->H a=none->gC X pins a->s.heap.get? a=some oe->oe.data=.fields vs→
 vs[0]?=some a0->vs[1]?=some .none->oe.cls=.ref C->E (.ref C) none H->X.xe (.ref a) s
theorem xq 
  (hbase:bm.contains (.type "BaseException")=true) (hh:A.handled=none)
  (h:Qw M A x (λv s₁=>∃e t dx,v=.ref e/\s₁.heap.get? C=some (Tl nm q C N bs bm hdct sn sub ab col dd k0 k1 k2 k3 k5 newId)∧
   s₁.heap.get? e=some { cls:=.ref C,dict:=dx,data:=.fields #[.ref t,.none,.none,.none,.bool false,.none]}/\E (.ref e) s₁) E s):
  Qw M A (raiseStmt env (some x) none) Q E s:=by
 have hcB:(QQ C::bm).contains (.type "BaseException")=true:=by rw[Ua,hbase,VI]
 unfold raiseStmt;refine P9 (Sd h (λv s₁ h₁=>?_) λ_ _ y=>y);obtain⟨e,t,dx,rfl,hC,he,hE⟩:=h₁;obtain⟨hp,g,d,tk,os⟩:=s₁
 repeat(first
  |with_reducible refine wpAny_loadPart_at he ?_
  |with_reducible refine wpAny_loadPart_at hC ?_
  | (with_reducible refine wpAny_isSubtype_exc hC ?_
     rw[hcB])
  |wp_step)
 exact wpAny_raiseNew_none hh hE
def Mv(C:Addr)(sp:Sp)(E:XK)(t:TA):TS:=λ_ σ H=>t σ H λvs H1=>vs.length≤sizeLine/\∀a,H1 a=none->sp (.ref a::vs) (upd H1 a (jO a C none)) (λv H2=>v=.non/\(∃dx,H2 a=some (jO a C dx))/\E (.ref C) none (Cv H2 a)) E0
end
section
variable {X:Cx}{pins:List (Addr×R9)}{σ:L2.St}{H:Hp}{s:Qc}{a C T:Addr}{a0:Value}
end
def Lk(N:List QX):L2.St:=Qn N.length none
def Pq(X:Cx)(pins:List (Addr×R9))(R:Addr->Hp->Prop):Value->Qc->Prop:=λe s=>∃(x C T:Addr) (a0:Value) (H:Hp),e=.ref x/\L2.Inv X pins (Lk X.N) H s/\H x=none/\gC X pins x/\gC X pins T/\Oh s.heap H x C T a0/\R C H
def N6(X:Cx)(pins:List (Addr×R9))(R:Addr->Hp->Prop):Cx:={ X with pn:=X.pn++pins,xe:=Pq X pins R}
def N7(X:Cx)(e:Addr):Cx:={ X with A:=X.A.mark (some (.ref e)),calm:=false,xe:=λ_ _=>False}
section
variable {X:Cx}{pins pins':List (Addr×R9)}{σ:L2.St}{H:Hp}{s:Qc}{R:Addr->Hp->Prop}{e:Addr}
end
def OB(N:List QX)(R:Addr->Hp->Prop)(Ok:Addr->Prop)(tb:TS)(th:TS):TS:=λD σ H=>tb D σ H/\∀C H',R C H'->Ok C/\th D (Lk N) H'
section
variable {X:Cx}{R:Addr->Hp->Prop}{body:List Stmt}{b₀:Stmt}{suite:List Stmt}{x:QX}{p hpos pos:Uf}{u:Value}{tb th:TS}
end
section
variable {X:Cx}{o value:Re}{f:QX}{ta tv:TE}{pos' pos:Uf}
def NJ(K:P4)(ta tv:TE)(f:QX):TS:=λD σ H=>tv σ H λ_ H1=>ta σ H1 λx H2=>∃a C bm,x=.ref a/\H2 a=some (jO a C none)/\oq K C bm/\cZ K C f/\∀d,D.nx σ (upd H2 a (jO a C (some d)))
end
def Pt(R:Addr->Hp->Prop):XK:=λv _ H=>∃C,v=.ref C/\R C H
theorem tP(a:Addr):(QQ a::l6).contains (.type "BaseException")=true:=by rw[Ua,(by decide +kernel:l6.contains (.type "BaseException")=true),VI]
def mz(es:Array XH):Bool:=es.toList.all λe=>match e.key with
 | .str _ _=>true
 |_=>false
theorem tY(h:mz es=true):StrKeys es:=λe he=>by
 have z:=Sg.mp h e (Vq.mpr he)
 revert z
 cases e.key<;>intro z<;>first|exact⟨_,_,Z⟩ | (cases z)
theorem Ft{K:P4}{bs bsB:List Value}{sn snB:List QX}{sub subB:List Value} 
  
  (lc:K.lookup C=some (Tl nm q C N bs (.ref B0:: [.type "ValueError",.type "Exception",.type "BaseException",.type "object"]) hdct sn sub ab col dd k0 k1 k2 k3 k5 "ValueError.__new__"))
  (lb:K.lookup B0=some (Tl nmB qB B0 NB bsB [.type "ValueError",.type "Exception",.type "BaseException",.type "object"] hdctB snB subB abB colB ddB j0 j1 j2 j3 j5 "ValueError.__new__"))
  (ln:K.lookup NB=some ⟨oc,od,.dict es n,sl⟩) (hs:mz es=true) (hn:(nsFind es "__init__").isNone=true)
  (fi:Rc K (.ref C) "__init__"=some (some (.ref f))) (ti:U2 K (.ref f)=some (.type "function")) (kc:Sr K (.ref C)=true) (hh:Uh K C=true) (sa:Rc K (.ref C) "__setattr__"=some (some (.builtin "object.__setattr__"))):XC K C f (.ref B0:: l6):=
 have ob:∃nm q N bs hdct sn sub ab col dd k0 k1 k2 k3 k5,K.lookup C=some (Tl nm q C N bs (.ref B0::l6) hdct sn sub ab col dd k0 k1 k2 k3 k5 "ValueError.__new__"):=⟨_,_,_,_,_,_,_,_,_,_,_,_,_,_,_,lc⟩;have tl:∀h:Qo,K.In h->Yy h l6 (.ref B0::l6):=λh X=>.own (X _ _ lb) ⟨_,es,n,X _ _ ln,Z,tY hs,λ_=>Z⟩ (Option.isNone_iff_eq_none.mp hn) .base
 ⟨ob,tl,fi,ti,kc,ob,tl,hh,sa⟩
structure CV(K:P4)(C:Addr):Prop where
 ga:Rc K (.ref C) "__getattribute__"=some (some (.builtin "BaseException.__getattribute__"))
 gn:Rc K (.ref C) "__getattr__"=some none
 cl:Rc K (.ref C) "__class__"=some (some (.builtin "object.__class__"))
 cg:Wd K (.builtin "object.__class__") "__get__"=some (some (.builtin "getset_descriptor.__get__"))
 ct:Zk K (.builtin "object.__class__")=some true
section
variable {prog:Q4}{w:Rm}{A:Rg}{E:Value->Qc->Prop}{s:Qc}{K:P4}{x C:Addr}{ox:R9}{odo:Option R9}{bm:List Value}{name:QX}{tk:Z5}{R:YO->Qc->Prop}
end
section
variable {K:P4}{x C:Addr}{ox od:R9}{bm:List Value}
end
structure jX(S ch:List Addr)(h h':Qo):Prop where
 same:∀b o,b∉S->b∉ch->h.get? b=some o->h'.get? b=some o
 slot:∀b o,b∉ch->h.get? b=some o->∃sl,h'.get? b=some { o with slots:=sl}
theorem jX.trans(a:jX S c1 h h1)(b:jX S c2 h1 h2):jX S (c1++c2) h h2 where
 same:=λx o n1 n2 q=>b.same x o n1 (λz=>n2 (Qv _ z)) (a.same x o n1 (λz=>n2 (RD _ z)) q)
 slot:=λx o n2 q=>by
  obtain⟨sl,z⟩:=a.slot x o (λz=>n2 (RD _ z)) q;obtain⟨sl',z'⟩:=b.slot x _ (λz=>n2 (Qv _ z)) z;exact⟨sl',z'⟩
theorem jX.upd:jX S [T] h (h.update T f) where
 same:=λb o _ n q=>by rw[Ry _ _ (λz=>n (by rw[z];exact Qj.mpr Z))];exact q
 slot:=λb o n q=>⟨o.slots,by rw[Ry _ _ (λz=>n (by rw[z];exact Qj.mpr Z))];exact q⟩
def uU(h:Qo)(x C T:Addr)(dx:Option Addr)(fl:Value):Prop:=
 ∃oe vs oT ts,h.get? x=some oe/\oe.cls=.ref C/\oe.dict=dx/\oe.data=.fields vs/\vs[1]?=some (.ref T)/\T≠x/\h.get? T=some oT/\oT.data=.fields ts/\ts[3]?=some fl
section
variable {M:Model}{A:Rg}{E:Value->Qc->Prop}{s:Qc}{base:Qo}{env:Zq}{outer:List Zq}{L e C T:Addr}{oe:R9}{vs:Array Value}{dx:Option Addr}{fl:Value}
theorem ye(f:Array Value->Array Value)(o:R9):(ZR f o).dict=o.dict:=by
 unfold ZR;split<;>rfl
theorem Jo(hfr:A.frames=some (env:: outer))(hl:s.heap.FunFrames base (env:: outer))(hf:env.frame=some L)
  (he:s.heap.get? e=some oe) (hd:oe.data=.fields vs) (hsz:1<vs.size) (hc:oe.cls=.ref C) (hx:oe.dict=dx)
  (h:∀h' T,jX (qD (env:: outer)) [e] s.heap h'->s.heap.get? T=none->uU h' e C T dx (rawInt L)->Q () { s with heap:=h'}):
  Qw M A (do let a ←frameOf env;let pl ←entryPlaceOf L hadNext;let b ←EntryCells.newEntry head a .none (rawInt L) .none pl;setField (.ref e) 1 b) Q E s:=by
 have hene:e∉qD (env::outer):=λhm=>by
  obtain⟨_,o,ho,hnf⟩:=hl.mem hm;rw[he] at ho;cases ho;exact hnf vs hd
 refine P9 (wpAny_frameOf_fun hfr hl hf λh1 s1=>P9 (wpAny_entryPlaceOf λpl hpl=>?_));unfold EntryCells.newEntry newFields;refine P9 (RK ?_ (hpl.sizeOk5 _ _ _ _ _));have he1:h1.get? e=some oe:=(s1.2.1 e hene).trans he;generalize hob:({ cls:=.type "traceback",dict:=none,data:=.fields ([head,.ref L,.none,rawInt L,.none]++(if pl.isEmpty then Qn 6 Sb else pl)).toArray}:R9)=ob;have he2:=Qb (h:=h1) ob he1;refine VZ he2 hd hsz (h _ h1.objs.size ⟨λb o n1 n2 q=>?_,λb o n2 q=>?_⟩ ?_ ?_)
 ·rw[Ry _ _ (λz=>n2 (by rw[z];exact Qj.mpr Z))];exact Qb _ ((s1.2.1 b n1).trans q)
 ·obtain⟨sl,z⟩:=s1.2.2 b o q;refine⟨sl,?_⟩;rw[Ry _ _ (λz=>n2 (by rw[z];exact Qj.mpr Z))];exact Qb _ z
 ·exact Sc (Tx s1.1.symm)
 ·have nT:h1.objs.size≠e:=Tw (Qt he1);have d3:=UQ hd (·.setIfInBounds 1 (QQ h1.objs.size));refine⟨_,_,ob,_,Ts _ he2 (Vf d3),(Yz _ _).trans hc,(ye _ _).trans hx,d3,by simp[hsz],nT,?_,by rw[←hob],?_⟩
  ·rw[Ry _ _ (T5 nT)];exact QD h1 (by rw[←hob];rfl)
  ·first | (simp;done) | (rcases hpl with rfl | ⟨_,_,_,_,_,_,_,rfl⟩<;>simp)
theorem EW(t:uU s.heap e C T dx fl)(h:∀h',jX [] [T] s.heap h'->uU h' e C T dx .none->Q () { s with heap:=h'}):Qw M A (ZY (.ref e) none) Q E s:=by
 obtain⟨oe,vs,oT,ts,q1,q2,q3,q4,q5,q6,q7,q8,q9⟩:=t;have z3:3<ts.size:=(V0.mp q9).1;unfold ZY;refine P9 (Tk q1 q4 q5 ?_);rw[Z9 (by simp)];refine VZ q7 q8 z3 (h _ jX.upd ?_);have d3:=UQ q8 (·.setIfInBounds 3 ((none:Option Addr).elim Sb λf=>rawInt f));exact⟨oe,vs,_,_,(Ry _ _ q6).trans q1,q2,q3,q4,q5,q6,Ts _ q7 (Vf d3),d3,by simp[z3]⟩
theorem K9(hfr:A.frames=some (env:: outer))(hl:s.heap.FunFrames base (env:: outer))(hf:env.frame=some L)(he:s.heap.get? e=some oe)(hd:oe.data=.fields vs)(h1:vs[1]?=some .none)(hc:oe.cls=.ref C)(hx:oe.dict=dx)
  (h:∀h' T,jX (qD (env:: outer)) [e] s.heap h'->s.heap.get? T=none->uU h' e C T dx (rawInt L)->Q () { s with heap:=h'}):Qw M A (YQ (.ref e) env) Q E s:=by
 unfold YQ;simp only[hf];refine P9 (Tk he hd h1 ?_);rw[aaa (by decide)];exact Jo hfr hl hf he hd (V0.mp h1).1 hc hx h
end
def LT(d:Addr)(fs:List (QX×V)):Qo->Prop:=λh=>∃mA,h.Ns1 d mA/\∀f,fE (fs.lookup f) (mA f)
def dO(d:Addr)(fs:List (QX×V)):HO:=.ext (LT d fs)
theorem Gb(e:LT d fs h):ObjOk P w H h d (dO d fs):=
 ⟨e,let ⟨_,⟨_,_,_,q,_⟩,_⟩:=e;⟨_,q⟩,λ_ _ ⟨mA,n,r⟩ k=>⟨mA,n.at k,r⟩⟩
theorem xo(r:fE a b)(h:b≠none):a≠none:=λz=>by
 subst z
 cases b with
 |none=>exact h Z
 |some _=>exact r.elim
theorem oM{fs:List (QX×V)}{mA:QX->Option Value}(r:∀g,fE (fs.lookup g) (mA g))(q:RelV y u):∀g,fE (((f,y):: fs).lookup g) (if g=f then some u else mA g):=λg=>by
 by_cases z:g=f
 ·subst z;rw[Z9 Z,List.lookup_cons_self];exact q
 ·rw[aaa z,Uv,beq_eq_false_iff_ne.mpr z];exact r g
theorem ou{fs:List (QX×V)}(r:∀g,fE (fs.lookup g) (mA g)):VD mA (fs.map (·.1)):=λg hg=>by
 have z:=xo (r g) hg
 cases q:fs.lookup g with
 |none=>exact aad q z
 |some v=>
  obtain⟨l1,l2,e,_⟩:=List.lookup_eq_some_iff.mp q;rw[e];simp
section
variable {X:Cx}{pins:List (Addr×R9)}{σ:L2.St}{H:Hp}{s:Qc}{a C:Addr}
theorem setX1(hex:X.ex=[])(I:L2.Inv X pins σ H s)(e:H a=some (jO a C none))(c:oq X.K C bm)(n:cZ X.K C f)(ry:RelV y u)
  (h:∀d s',H d=none->d≠a->L2.Inv X pins σ (upd (upd H a (jO a C (some d))) d (dO d [(f,y)])) s'->Q () s'):Qw (QK X.prog X.w) A (Z3 (.ref a) f u) Q E s:=by
 obtain⟨t,hx⟩:=(show ObjOk X.prog X.w H s.heap a (jO a C none) from I.hok a _ e).1;have J:VT s.heap a _ C none:=⟨hx,Z,Z,trivial⟩;refine Wc I.kIn J c.sa (oF (s:={ s with toks:=s.toks+1}) I.kIn J c n λb=>?_);obtain⟨cd,hc,hd'⟩:=Wv c.hd;refine P9 (wpAny_pure (P9 (P9 (Xr hx (P9 (UP (s:={ s with toks:=s.toks+1}) (UA I.kIn hc) ?_))))));rw[hd'];show Qw _ _ (alloc { cls:=.type "dict",data:=.dict #[]} >>= λd=>update a (λo=>{ o with dict:=some d}) >>= λ_=>dictMade (.ref C) a d) _ _ _;have la:a<s.heap.objs.size:=Qt hx;have nad:s.heap.objs.size≠a:=Tw la;have g1:=Qb (h:=s.heap) { cls:=.type "dict",data:=.dict #[]} hx;refine P9 (wpAny_alloc (P9 (wpAny_update g1 ?_)));have g2:=Ts (λo=>{ o with dict:=some s.heap.objs.size}) g1 rfl;have e1:((s.heap.push { cls:=.type "dict",data:=.dict #[]}).update a λo=>{ o with dict:=some s.heap.objs.size}).get? s.heap.objs.size=some { cls:=.type "dict",data:=.dict #[]}:=by
  rw[Ry _ _ nad.symm];exact QD s.heap Z
 have e3:((s.heap.push { cls:=.type "dict",data:=.dict #[]}).update a λo=>{ o with dict:=some s.heap.objs.size}).Ns s.heap.objs.size (λ_=>none):=
  ⟨_,#[],_,e1,Z,(λe he=>aad he (by simp)),λ_=>Z⟩
 have keep:∀b o,b≠a->s.heap.get? b=some o->((s.heap.push { cls:=.type "dict",data:=.dict #[]}).update a λo=>{ o with dict:=some s.heap.objs.size}).get? b=some o:=λb o nb q=>by
  rw[Ry _ _ (T5 nb)];exact Qb _ q
 refine wpAny_pure (a:=some s.heap.objs.size) (P9 (wpAny_pure (P9 ?_)));refine Ym (Yn e3) λh' hn2 hs2=>?_
 have rel:∀g,fE ([(f,y)].lookup g) (if g=f then some u else none):=oM (fs:=[]) (mA:=λ_=>none) (λ_=>trivial) ry;obtain⟨oD,esD,epD,hoD,hdD,hcD⟩:=hn2.count (ou rel);refine P9 (Ww hoD (by rw[hdD];exact Wx (QU hcD (Nat.le_add_left _ _))) ?_);have hno:s.heap.get? s.heap.objs.size=none:=Sc (P7 _);have hH:H s.heap.objs.size=none:=B.Inv.none_of I hno;refine wpAny_pure (h s.heap.objs.size _ hH nad ?_);have ga:h'.get? a=some { cls:=.ref C,dict:=some s.heap.objs.size,data:=.fields #[.ref t,.none,.none,.none,.bool false,.none]}:=(hs2.2 a nad.symm).trans g2;have I2:L2.Inv X pins σ (upd H a (jO a C (some s.heap.objs.size))) { s with heap:=h',toks:=s.toks+1+1}:=I.write (x:=a) (e:=a) (o:=jO a C (some s.heap.objs.size)) (h':=h') (by rw[e];trivial) (.inl rfl) (λb o nb q=>by
  have nb2:b≠s.heap.objs.size:=Rf (Qt q);exact(hs2.2 b nb2).trans (keep b o nb q)) ⟨_,ga⟩ (Ci ⟨t,ga⟩)
 exact B.Inv.adopt I2 (B.Inv.newAt I hex hno) (by rw[ao nad];exact hH) hex (Gb ⟨_,hn2,rel⟩)
theorem setX2(I:L2.Inv X pins σ H s)(e:H a=some (jO a C (some d)))(ed:H d=some (dO d fs))(hl:fs.length≤100)(c:oq X.K C bm)(n:cZ X.K C f)(ry:RelV y u)
  (h:∀s',L2.Inv X pins σ (upd H d (dO d ((f,y):: fs))) s'->Q () s'):Qw (QK X.prog X.w) A (Z3 (.ref a) f u) Q E s:=by
 obtain⟨t,hx⟩:=(show ObjOk X.prog X.w H s.heap a (jO a C (some d)) from I.hok a _ e).1;obtain⟨mA,hn,rel0⟩:=(show ObjOk X.prog X.w H s.heap d (dO d fs) from I.hok d _ ed).1;obtain⟨od,_,_,hod,_⟩:=id hn;have J:VT s.heap a _ C (some od):=⟨hx,Z,Z,hod⟩;refine Wc I.kIn J c.sa (oF (s:={ s with toks:=s.toks+1}) I.kIn J c n λb=>?_);obtain⟨cd,hc,hd'⟩:=Wv c.hd;refine P9 (wpAny_pure (P9 (P9 (Xr hx (P9 (UP (s:={ s with toks:=s.toks+1}) (UA I.kIn hc) ?_))))));rw[hd'];refine wpAny_pure (a:=some d) (P9 (wpAny_pure (P9 ?_)));refine Ym (s:={ s with toks:=s.toks+1}) hn λh' hn2 hs2=>?_
 have rel:=oM (f:=f) rel0 ry;obtain⟨oD,esD,epD,hoD,hdD,hcD⟩:=hn2.count (ou rel);have hz:esD.size≤101:=by rw[P8,Q2] at hcD;omega
 refine P9 (Ww hoD (by rw[hdD];exact Wx (QU hz (by decide))) ?_);refine wpAny_pure (h _ ?_);exact I.write (x:=d) (e:=d) (o:=dO d ((f,y)::fs)) (h':=h') (by rw[ed];trivial) (.inl Z) (λb o nb q=>(hs2.2 b nb).trans q) ⟨_,hoD⟩ (Gb ⟨_,hn2,rel⟩)
end
section
variable {X:Cx}{o value:Re}{f:QX}{ta tv:TE}{pos' pos:Uf}
def FO(K:P4)(ta tv:TE)(f:QX):TS:=λD σ H=>tv σ H λy H1=>ta σ H1 λx H2=>∃a C bm,x=.ref a/\oq K C bm/\cZ K C f∧
 ((H2 a=some (jO a C none)/\∀d,H2 d=none->d≠a->D.nx σ (upd (upd H2 a (jO a C (some d))) d (dO d [(f,y)])))∨
  ∃d fs,H2 a=some (jO a C (some d))/\H2 d=some (dO d fs)/\fs.length≤100/\D.nx σ (upd H2 d (dO d ((f,y)::fs))))
theorem DW(hex:X.ex=[])(ha:PE X o ta)(hv:PE X value tv)(hs:S9 value (some (.Attribute o f pos')) pos.line X.env=Sq false):PS X (.Assign [.Attribute o f pos'] value pos) (FO X.K ta tv f):=by
 intro pins s σ H D I h;refine Vd (bZ (hv pins s σ H _ I h) λu s1 ⟨y,H1,I1,ry,q⟩=>bZ (ha pins s1 σ H1 _ I1 q) λov s2 ⟨x,H2,I2,rx,a,C,bm,ex,c,n,q2⟩=>?_) hs;subst ex;obtain rfl:ov=QQ a:=rx;rcases q2 with⟨ea,k⟩ | ⟨d,fs,ea,ed,hl,k⟩
 ·exact B.setX1 hex I2 ea c n ry λd s' hd nd I'=>⟨σ,_,I',k d hd nd⟩
 ·exact B.setX2 I2 ea ed hl c n ry λs' I'=>⟨σ,_,I',k⟩
end
theorem jX.any(k:jX [] ch h h'):jX S ch h h':=⟨λb o _ n q=>k.same b o (λz=>by cases z) n q,k.slot⟩
section
variable {X:Cx}{pins:List (Addr×R9)}{σ:L2.St}{H:Hp}{s:Qc}{a C T:Addr}{dx:Option Addr}{fl:Value}
theorem Inv.leftK(I:L2.Inv X pins σ H s)(hch:∀b∈ch,H b=none/\gC X pins b)(k:jX (qD X.stack) ch s.heap h'):L2.Inv X pins σ H { s with heap:=h',toks:=tk}:=by
 have Gn:∀b o,H b=some o->b∉qD X.stack/\b∉ch:=λb o q=>
  ⟨(λz=>by rw[I.stkFree b z] at q;cases q),(λz=>by rw[(hch b z).1] at q;cases q)⟩
 refine I.call' (s':={ s with heap:=h',toks:=tk}) (ch:=ch) rfl ⟨λb o q _ n1 n2=>k.same b o n1 n2 q,λb o q _ n1 n2=>k.slot b o n2 q,λb o _ n _=>n,λb o q n2=>?_,λb xs q=>q,λb o u q=>q,λb ps q=>⟨#[],by rw[Array.append_empty];exact q⟩⟩ (λb o q=>?_) I.bare
  (λb hb=>⟨.inr (hch b hb).2.st,(hch b hb).2.lo,(hch b hb).2.ce,(hch b hb).2.pi⟩)
 ·obtain⟨sl,z⟩:=k.slot b o n2 q;exact⟨_,z⟩
 ·refine(I.hok b o q).stay (λc u hc z=>?_) (λc z=>z) (λc xs z=>z);rcases hc with rfl|hc
  ·obtain⟨n1,n2⟩:=Gn _ _ q;exact k.same _ _ n1 n2 z
  ·obtain⟨n1,n2⟩:=Gn _ _ hc;exact k.same _ _ n1 n2 z
theorem IR{A:Rg}{E':Value->Qc->Prop}{Q:Qc->Prop}{oe:R9}(hA:A.frames=X.A.frames)(I:L2.Inv X pins σ H s)(hex:X.ex=[])(hst:X.stack=X.env:: X.outer)(hfr:X.env.frame=some X.env.locals)
  (ha:H a=none) (na:gC X pins a) (hx:s.heap.get? a=some oe) (hd:oe.data=.fields vs) (h1:vs[1]?=some .none) (hc:oe.cls=.ref C) (hdx:oe.dict=dx)
  (h:∀(s':Qc) (T:Addr),L2.Inv X pins σ H s'->gC X pins T->H T=none->uU s'.heap a C T dx .none->Q s'):
  Qw (QK X.prog X.w) A (YQ (.ref a) X.env) (λ_ s2=>Qw (QK X.prog X.w) A (ZY (.ref a) none) (λ_ s3=>Q s3) E' s2) E' s:=by
 have hfrm:A.frames=some (X.env::X.outer):=by rw[hA,I.ok.frames,hst]
 refine K9 (base:=X.base) hfrm (by rw[←hst];exact I.stack) hfr hx hd h1 hc hdx λh1 T k1 nT t1=>?_
 refine EW (s:={ s with heap:=h1}) t1 λh2 k2 t2=>?_
 have nt:=B.Inv.newAt I hex nT;have hT:=B.Inv.none_of I nT;rw[←hst] at k1;refine h { s with heap:=h2} T (B.Inv.leftK (tk:=s.toks) I (λb hb=>?_) (k1.trans k2.any)) nt hT t2;simp only[List.cons_append,Zm,Qm,Rb,or_false] at hb;rcases hb with rfl|rfl
 ·exact⟨ha,na⟩
 ·exact⟨hT,nt⟩
end
def J5(P:Q4)(w:Rm):tO:=λouter H s E e s'=>∃(x C T:Addr) (dx:Option Addr) (H':Hp),e=.ref x/\s'.os=s.os/\Vp s'.gens/\Un (qD outer) [] H H' s.heap s'.heap/\iO P w H' s'.heap/\s.heap.get? x=none/\s.heap.get? T=none/\H' x=none/\H' T=none∧
 uU s'.heap x C T dx .none/\E (.ref C) dx H'
section
variable {P:Q4}{w:Rm}{K:P4}{mg:QX->Option Value}{base:Qo}{N:List QX}{qual:QX}{scope:Uw}{f:Addr}{cd:Value}{A:Rg}{outer:List Zq}{s:Qc}{H:Hp}{E:XK}
def uV(X:Cx)(E:XK):Prop:=∀(pins:List (Addr×R9)) (σ:L2.St) (H:Hp) (s:Qc) (a C:Addr) (dx:Option Addr) (oe:R9) (vs:Array Value),L2.Inv X pins σ H s->H a=none->gC X pins a->s.heap.get? a=some oe->oe.data=.fields vs→
 vs[1]?=some .none->oe.cls=.ref C->oe.dict=dx->E (.ref C) dx H->X.xe (.ref a) s
theorem tW:uV (bL (J5 P w) P w K mg base N qual scope f cd A outer s H E) E:=by
 intro pins σ H1 s1 a C dx oe vs I ha na hx hd h1 hc hdx hE;show Qw (QK P w) _ (leaving _ _) _ _ s1;unfold leaving;refine P9 (IR Z I Z Z Z ha na hx hd h1 hc hdx λs3 T' I3 nT' hT' tr'=>?_);exact⟨a,C,T',dx,H1,Z,I3.os,I3.bare,I3.base,I3.hok,na.st,nT'.st,ha,hT',tr',hE⟩
theorem Fun.okD{x:QX}{st:Stmt}{fd:Qh}{ps:List QX}{k:Nat}{sp:Sp}(F:Fun K x qual st f fd)(S:aG N ps (aA st))(len:∀vs H Q E,sp vs H Q E->vs.length=ps.length)
  (hbody:∀(cdv:Value) (A:Rg) (outer:List Zq) (s:Qc) (H:Hp) (vs:List V) (Q:VK) (E:XK),c9 k (A.deeper (WT qual (aA st) s.heap.objs.size f cdv))->sp vs H Q E→
   ∃t,tM (bL (J5 P w) P w K mg base N qual (aA st) f cdv A outer s H E) (cY st) t/\t { nx:=λ_ H'=>Q .non H',rt:=Q} (jm N vs) H):bC P w K mg base (J5 P w) (k+1) f fd ps sp:=by
 obtain⟨oc,od,kV,doc,pm,an,cdv,ct,osl,rfl,lk,hcd⟩:=F.ex;exact F7 lk hcd S len λA outer s H vs Q E hr hsp=>hbody cdv A outer s H vs Q E hr hsp
end
section
variable {X:Cx}{k:Nat}{f C:Addr}{fd:Qh}{ps:List QX}{sp:Sp}{bm:List Value}
def vc(C:Addr)(sp:Sp)(E:XK)(t:TA):TS:=λ_ σ H=>t σ H λvs H1=>vs.length≤sizeLine/\∀a,H1 a=none->sp (.ref a::vs) (upd H1 a (jO a C none)) (λv H2=>v=.non/\∃dx,H2 a=some (jO a C dx)/\E (.ref C) dx (Cv H2 a)) E0
theorem xC{x:QX}{p cpos pos:Uf}{e:Re}{es:List Re}{t:TA}{E:XK}(M:XC X.K C f bm)(hbase:bm.contains (.type "BaseException")=true)(hex:X.ex=[])(tk:uV X E)(F:bC X.prog X.w X.K X.mg X.base dU k f fd ps sp)(hr:c9 (k+1) X.A)(hb:aN X.K fd ps [])
  (hg:Gl X x) (hm:X.mg x=some (.ref C)) (ha:PA X (e::es) t) (hdb:(x==("__debug__" : QX))=false:=by decide) (he:Qs (e::es) X.env=(false,eval e X.env)::Qs es X.env:=by rfl) (hpl:(Tb cpos (Qs es X.env)).any (·.1)=false:=by rfl) :
  PS X (.Raise (some (.Call (.Name x p) (e::es) [] cpos)) none pos) (vc C sp E t):=by
 intro pins s σ H D I h;obtain⟨nm,q,N,bs,hdct,sn,sub,ab,col,dd,k0,k1,k2,k3,k5,lk⟩:=M.ob;rw[arm_exec_Raise];refine P9 (Ug (xq (C:=C) (bm:=bm) (nm:=nm) (q:=q) (N:=N) (bs:=bs) (hdct:=hdct) (sn:=sn) (sub:=sub) (ab:=ab) (col:=col) (dd:=dd) (k0:=k0) (k1:=k1) (k2:=k2) (k3:=k3) (k5:=k5) (newId := "ValueError.__new__") hbase hr.hd ?_));refine P9 (Sd (Q:=λv s'=>∃a H',v=.ref a/\gC X pins a/\L2.Inv X pins σ H' s'/\∃dx,H' a=some (jO a C dx)/\E (.ref C) dx (Cv H' a)) ?_ (λv s1 h1=>P9 (Ug (wpAny_pure ?_))) λ_ _ y=>y)
 ·refine T8 (lN I hg hm ?_ hdb);refine VU (h₀:=X.base) I.ok.mod.kin M.kp (bZ (ha cpos pins s σ H _ I h) λus s1 ⟨vs,H1,I1,r,hz,q⟩=>⟨I1.kIn,?_⟩) he hpl;exact DG M hex F hr hb I1 (us:=[]++us) r (by rw[Zm,←r.length];exact hz) q
 ·obtain⟨a,H',rfl,na,I1,dx,hx,hE⟩:=h1;obtain⟨tt,ho⟩:=(show L2.ObjOk X.prog X.w H' s1.heap a (jO a C dx) from I1.hok a _ hx).1;exact⟨a,tt,dx,Z,I1.kIn _ _ lk,ho,tk pins σ (Cv H' a) s1 a C dx _ _ (B.Inv.forget I1 hx na.st) jR na ho Z Z Z Z hE⟩
end
abbrev RX:=Addr->Option Addr->Hp->Prop
def Nn(X:Cx)(pins:List (Addr×R9))(R:RX):Value->Qc->Prop:=λe s=>∃(x C T:Addr) (dx:Option Addr) (H:Hp),e=.ref x/\L2.Inv X pins (Lk X.N) H s/\H x=none/\gC X pins x/\H T=none/\gC X pins T/\uU s.heap x C T dx .none/\R C dx H
def MY(X:Cx)(pins:List (Addr×R9))(R:RX):Cx:={ X with pn:=X.pn++pins,xe:=Nn X pins R}
section
variable {X:Cx}{pins pins':List (Addr×R9)}{σ:L2.St}{H:Hp}{s:Qc}{R:RX}{e:Addr}
def Pu(R:RX):XK:=λv dx H=>∃C,v=.ref C/\R C dx H
end
def Ps(a C d:Addr):Qo->Prop:=λh=>∃oe,h.get? a=some oe/\oe.cls=.ref C/\oe.dict=some d/\PySem.W.notCls oe=true
def Lu(a C d:Addr):HO:=.ext (Ps a C d)
def M3(i:Nat)(D:jc):jc:={ nx:=λσ H=>D.nx (σ.set i none) H,rt:=D.rt,bk:=λσ H=>D.bk (σ.set i none) H,ct:=λσ H=>D.ct (σ.set i none) H}
def Nv(N:List QX)(R:RX)(Ok:Addr->Prop)(tb th:TS):TS:=λD σ H=>tb D σ H/\∀C dx H',R C dx H'->Ok C/\th D (Lk N) H'
def Mt(N:List QX)(i:Nat)(R:RX)(Ok:Addr->Prop)(tb th:TS):TS:=λD σ H=>tb D σ H/\∀C dx H',R C dx H'->Ok C/\∃d,dx=some d/\∀a,H' a=none->th (M3 i D) ((Lk N).set i (some (.ref a))) (upd H' a (Lu a C d))
section
variable {X:Cx}{R:RX}{body:List Stmt}{b₀:Stmt}{suite:List Stmt}{x:QX}{p hpos pos:Uf}{u:Value}{tb th:TS}
end
def O0(K:P4):List V->Hp->VK->Prop:=λxs H Q=>∃(a C d:Addr) (fs:List (QX×V)) (bm:List Value) (c:V) (b:Bool),xs=[.ref a,c]/\H a=some (Lu a C d)/\H d=some (dO d fs)/\oq K C bm/\CV K C∧
 ((∃n,c=.ty n/\Uj K (.ref C) (.type n)=some b)∨(∃D,c=.ref D/\Uj K (.ref C) (.ref D)=some b)∨
  ∃(p:Addr) (cs:List Addr),c=.ref p/\H p=some (.tup (cs.map V.ref))/\ZH K (.ref C) (cs.map QQ)=some b)/\Q (.bl b) H
theorem nM(h:H a=none)(n:d≠a):Cv (upd (upd (upd H a o) a u) d q) a=upd H d q:=by
 funext b
 by_cases z:b=a
 ·subst z;rw[jR,ao n.symm,h]
 ·rw[ia z];by_cases y:b=d
  ·subst y;rw[ah,ah]
  ·rw[ao y,ao y,ao z,ao z]
def Gi(H:Hp)(a C d:Addr):Prop:=H a=some (Lu a C d)∨H a=some (jO a C (some d))
section
variable {X:Cx}{pins:List (Addr×R9)}{σ:L2.St}{H:Hp}{s:Qc}{a C d:Addr}{fs:List (QX×V)}
end
def ND(K:P4)(ta:TE)(f:QX):TE:=λσ H Q=>ta σ H λx H1=>∃a C d fs bm v,x=.ref a/\Gi H1 a C d/\H1 d=some (dO d fs)/\oq K C bm/\CV K C/\cZ K C f/\fs.lookup f=some v/\Q v H1
def OZ(K:P4):List V->Hp->VK->Prop:=λxs H Q=>∃(a C d:Addr) (fs:List (QX×V)) (bm:List Value) (c:V) (b:Bool),xs=[.ref a,c]/\Gi H a C d/\H d=some (dO d fs)/\oq K C bm/\CV K C∧
 ((∃n,c=.ty n/\Uj K (.ref C) (.type n)=some b)∨(∃D,c=.ref D/\Uj K (.ref C) (.ref D)=some b)∨
  ∃(p:Addr) (cs:List Addr),c=.ref p/\H p=some (.tup (cs.map V.ref))/\ZH K (.ref C) (cs.map QQ)=some b)/\Q (.bl b) H
def Mw(C:Addr)(sp:Sp)(t:TA):TE:=λσ H Q=>t σ H λvs H1=>vs.length≤sizeLine/\∀a,H1 a=none->sp (.ref a::vs) (upd H1 a (jO a C none)) (λv H2=>v=.non/\Q (.ref a) H2) E0
theorem pG{X:Cx}{pins:List (Addr×R9)}{σ:L2.St}{H:Hp}{s:Qc}{h':Qo}{t':Nat}{fp:List Addr}(I:Inv X pins σ H s)
  (k:∀b o,b∉fp->s.heap.get? b=some o->h'.get? b=some o) (hf:∀b∈fp,gX X pins H b):Inv X pins σ H { s with heap:=h',toks:=t'}:=by
 have off:∀b u,H b=some u->b∉fp:=λb u e z=>by rw[(hf b z).1] at e;cases e
 refine I.step (g':=s.gens) (d':=s.drawn) (ch:=fp) (λb hb=>?_) (λb o _ _ hc e _=>k b o hc e) (λb o _ _ hc e _=>⟨o.slots,k b o hc e⟩) (λ_ _ _ _ n=>n)
  (λb o hc e=>⟨o,k b o hc e⟩) (λ_ _ e=>e) (λ_ _ _ e=>e) (λb ps e=>⟨#[],by rw[e];simp⟩) (λm hm=>?_) (λb u e=>?_) I.bare
 ·obtain⟨_,f1,_,f3,f4,f5⟩:=hf b hb;exact⟨f3,f1,f4,f5⟩
 ·obtain⟨o,es,ep,ho,r⟩:=hm;exact⟨o,es,ep,k _ o (λz=>(hf _ z).2.1 Z) ho,r⟩
 ·refine(I.hok b u e).stay (λc v hc q=>k c v ?_ q) (λ_ q=>q) λ_ _ q=>q
  rcases hc with z|z
  ·rw[z];exact off b u e
  ·exact off c _ z
section
variable {prog:Q4}{w:Rm}{A:Rg}{E:Value->Qc->Prop}{s:Qc}
theorem Ev(a:s.heap.IsTupleIter j t k)(b:s.heap.IsTuple t ys)(c:ys[k]?=some v)
  (g:∀h',h'.IsTupleIter j t (k+1)->T6 j s.heap h'->G v { s with heap:=h'}):Qw (QK prog w) A (Tu (.ref j)) G E s:=by
 obtain⟨o,e1,e2,e3⟩:=id a;obtain⟨q,f1,_,n,f2⟩:=b;unfold Tu;refine P9 (SC (name:=Qr "__next__") a.typeIs F.slot_tuple_iterator_next (SW F.slot_tuple_iterator_next a.typeIs F.entry_tuple_iterator_next ?_ (F.args_tuple_iterator_next_1 _)))
 show Qw (QK prog w) _ (Z6 (.ref j) 0 >>= _) _ _ s;refine P9 (Tk e1 e3 (x:=.ref t) Z ?_);show Qw (QK prog w) _ (if(QQ t==Sb)=true then _ else _) _ _ s;rw[aaa (λz=>YS z:¬((QQ t==Sb)=true))];show Qw (QK prog w) _ (Z6 (.ref j) 1 >>= _) _ _ s;refine P9 (Tk e1 e3 (x:=.int k 0) Z ?_);show Qw (QK prog w) _ (seqItems? (.ref t) >>= _) _ _ s;refine P9 (wpAny_seqItems f1 f2 ?_);simp only[c,SI];refine P9 (VZ e1 e3 (by simp) (wpAny_pure ⟨v,Z,wpAny_pure (g _ ?_ (XS ..))⟩));refine⟨_,Ts _ e1 (Vf (UQ e3 _)),(Yz ..).trans e2,?_⟩;rw[UQ e3];simp[rawInt]
theorem BG(hh:A.handled=none)(a:s.heap.IsTupleIter j t k)(b:s.heap.IsTuple t ys)(c:ys[k]?=none)
  (g:∀h' e,Qo.ExtBut j s.heap h'->(∃o,h'.get? e=some o/\o.cls=.type "StopIteration")->E (.ref e) { s with heap:=h'}):Qw (QK prog w) A (Tu (.ref j)) G E s:=by
 obtain⟨o,e1,e2,e3⟩:=id a;obtain⟨q,f1,_,n,f2⟩:=b;unfold Tu;refine P9 (SC (name:=Qr "__next__") a.typeIs F.slot_tuple_iterator_next (SW F.slot_tuple_iterator_next a.typeIs F.entry_tuple_iterator_next ?_ (F.args_tuple_iterator_next_1 _)))
 show Qw (QK prog w) _ (Z6 (.ref j) 0 >>= _) _ _ s;refine P9 (Tk e1 e3 (x:=.ref t) Z ?_);show Qw (QK prog w) _ (if(QQ t==Sb)=true then _ else _) _ _ s;rw[aaa (λz=>YS z:¬((QQ t==Sb)=true))];show Qw (QK prog w) _ (Z6 (.ref j) 1 >>= _) _ _ s;refine P9 (Tk e1 e3 (x:=.int k 0) Z ?_);show Qw (QK prog w) _ (seqItems? (.ref t) >>= _) _ _ s;refine P9 (wpAny_seqItems f1 f2 ?_);simp only[c,SI];refine P9 (Zx (P9 (VZ e1 e3 (by simp) ?_)));show Qw (QK prog w) _ (newExc (.type "StopIteration") [] >>= _) _ _ _;refine P9 ?_;simp only[newTuple,newExc];refine P9 (RK ?_ (by size_fits));refine P9 (m:=firstArgMember _ _) (wpAny_of_eq (a:=Sb) (by first|rfl | (simp only[firstArgMember]<;>rfl)) ?_);refine RK ?_ (by size_fits);simp only[raiseNew];refine P9 (wpAny_handled ?_)
 first|rw[hh]|rw[show A.in1.handled=none from hh]
 refine P9 (wpAny_pure (wpAny_throw (g _ _ (((XS ..).extBut.push _).push _) ⟨_,QD _ Z,Z⟩)))
structure Pr(z TI TO i1 i2:Addr):Prop where
 a1:TI≠z
 a2:TO≠z
 a3:i1≠z
 a4:i2≠z
 a5:TI≠TO
 a6:TI≠i1
 a7:TI≠i2
 a8:TO≠i1
 a9:TO≠i2
 b1:i1≠i2
end
theorem pE{X:Cx}{pins:List (Addr×R9)}{σ:L2.St}{H:Hp}{s:Qc}{h':Qo}{t':Nat}{fp:List Addr}{p:Addr}{v:HO}(I:Inv X pins σ H s)
  (k:∀b o,b∉fp->s.heap.get? b=some o->h'.get? b=some o) (hf:∀b∈fp,gX X pins H b) (hp:s.heap.objs.size≤p) (new:ObjOk X.prog X.w (upd H p v) h' p v) :
  Inv X pins σ (upd H p v) { s with heap:=h',toks:=t'}:=by
 have off:∀b u,H b=some u->b∉fp:=λb u e z=>by rw[(hf b z).1] at e;cases e
 have hn:H p=none:=I.hok.fresh hp;have old:∀b u,H b=some u->upd H p v b=some u:=λb u e=>by rw[ao (aC e hn)];exact e
 refine I.step (g':=s.gens) (d':=s.drawn) (ch:=fp) (λb hb=>?_) (λb o _ _ hc e _=>k b o hc e) (λb o _ _ hc e _=>⟨o.slots,k b o hc e⟩) (λb o _ e n=>?_)
  (λb o hc e=>⟨o,k b o hc e⟩) (λb xs e=>old b _ e) (λb o u e=>old b _ e) (λb ps e=>⟨#[],by rw[old b _ e];simp⟩) (λm hm=>?_) (λb u e=>?_) I.bare
 ·obtain⟨_,f1,_,f3,f4,f5⟩:=hf b hb;exact⟨f3,f1,f4,f5⟩
 ·rw[ao (Rf (QJ (Qt e) hp))];exact n
 ·obtain⟨o,es,ep,ho,r⟩:=hm;exact⟨o,es,ep,k _ o (λz=>(hf _ z).2.1 Z) ho,r⟩
 ·by_cases hb:b=p
  ·subst hb;rw[ah] at e;cases e;exact new
  ·rw[ao hb] at e;refine(I.hok b u e).stay (λc v hc q=>k c v ?_ q) (λc q=>old c _ q) λc xs q=>old c _ q
   rcases hc with z|z
   ·rw[z];exact off b u e
   ·exact off c _ z
theorem vi{X:Cx}{pins:List (Addr×R9)}{σ:L2.St}{H:Hp}{s:Qc}{a b:Addr}{xs:List V}(I:Inv X pins σ H s)(h:bF X.K H a xs)(f:gX X pins H b):a≠b:=λz=>by
 subst z;rcases h with(h | ⟨o,h⟩) | ⟨o,its,n,hk,_⟩
 ·rw[f.1] at h;cases h
 ·rw[f.1] at h;cases h
 ·have e:=I.ok.mod.kin a o hk;rcases f.2.2.2.1 with z|z
  ·exact I.ok.noex a o e z
  ·rw[(I.ok.bs a o e).1] at z;cases z
def Po(K:P4)(a b:Addr):It:=
 ⟨λi H=>∃xs ys x y,bF K H a xs/\bF K H b ys/\xs[i]?=some x/\ys[i]?=some y,
  λi H v H'=>∃p x y,H p=none/\v=.ref p/\H'=upd H p (.tup [x,y])/\(∀xs,bF K H a xs->xs[i]?=some x)/\∀ys,bF K H b ys->ys[i]?=some y,
  λi H=>∃xs ys,bF K H a xs/\bF K H b ys/\(xs.length≤i∨ys.length≤i)⟩
def PV(z TI TO i1 i2 a b:Addr)(i:Nat)(h:Qo):Prop:=IsZip h z TI TO .none/\ZI h TI (.ref i1) (.ref i2)/\(∃u v,ZI h TO u v)/\h.IsTupleIter i1 a i/\h.IsTupleIter i2 b i
theorem iS{h h':Qo}(x:h.IsTupleIter i a n)(k:∀o,h.get? i=some o->h'.get? i=some o):h'.IsTupleIter i a n:=let ⟨o,e,r⟩:=x;⟨o,k o e,r⟩
theorem yS{h h':Qo}(x:h.IsTuple a ys)(k:∀o,h.get? a=some o->h'.get? a=some o):h'.IsTuple a ys:=let ⟨o,e,r⟩:=x;⟨o,k o e,r⟩
abbrev zA(h:Qo)(a:Addr):Qo:=h.push { cls:=.type "tuple_iterator",data:=.fields #[.ref a,.int 0 0]}
abbrev zB(h:Qo)(a b:Addr):Qo:=zA (zA h a) b
abbrev zC(h:Qo)(a b:Addr):Qo:=(zB h a b).push { cls:=.type "tuple",data:=.seq #[.ref h.objs.size,.ref (zA h a).objs.size]}
abbrev zD(h:Qo)(a b:Addr):Qo:=(zC h a b).push { cls:=.type "tuple",data:=.seq #[.none,.none]}
abbrev zE(h:Qo)(a b:Addr):Qo:=(zD h a b).push { cls:=.type "zip",data:=.fields #[.none,.bool false,.bool false,.ref (zB h a b).objs.size,.ref (zC h a b).objs.size]}
def O6(K:P4)(ta:TA):TI:=λσ H R=>ta σ H λvs H1=>∃a b,vs=[.ref a,.ref b]/\(∃xs,bF K H1 a xs)/\(∃ys,bF K H1 b ys)/\R (Po K a b) H1
theorem yd(hh:A.handled=none)(it a:Addr)(ne:a≠it)(items:Array Value):
  Draws prog w A it [it,a] items.size (λi v=>items[i]?=some v) (λi h=>h.IsTupleIter it a i/\h.IsTuple a items) where
 live:=λ_ _ st=>let ⟨o,ho,_⟩:=st.1;⟨o,ho⟩
 frame:=λ_ _ _ st hk=>⟨iS st.1 λo e=>hk it (by simp) o e,yS st.2 λo e=>hk a (by simp) o e⟩
 item:=λi s Q E hi st hQ=>by
  have hx:items[i]?=some (items[i]'hi):=Array.getElem?_eq_getElem hi;exact Ev st.1 st.2 hx λh' i' sb=>hQ _ h' s.toks hx ⟨i',yS st.2 λo e=>sb.extBut _ _ ne e⟩ sb
 done:=λs Q E st hE=>BG hh st.1 st.2 (by simp) hE
theorem yc(a:Addr)(xs:Array Value):Meets (Q8.«enumerate.__new__» ⟨[.type "enumerate",.ref a],[]⟩) (λ_ R s=>s.heap.IsTuple a xs∧
   R (.ok (.ret (.ref (zA s.heap a).objs.size))) { s with heap:=(zA s.heap a).push { cls:=.type "enumerate",data:=.fields #[.none,.bool false,.ref s.heap.objs.size,rawInt 0,.none,.none]} }):=
 .of_wp λprog w A R s h=>by
  obtain⟨hp,g,d,tk,os⟩:=s;obtain⟨hl,h⟩:=h;obtain⟨⟨c,dct,dt,sl⟩,ho,hc,n,hd⟩:=id hl
  replace hc:c=.type "tuple" := hc
  replace hd:dt=.seq xs n:=hd
  subst hc hd;have hsub:=sub_enumerate;have L:Qo.IsTuple (Qc.heap ⟨hp,g,d,tk,os⟩) a xs:=hl
  wp_walk using TF ho
  refine wpAny_stack_any λst=>wpAny_pure ?_
  split
  ·rename_i c _ _ _ _ _
   cases(c==TY "enumerate")
   ·wp_walk using TF ho,T7 L
    exact⟨_,Z,h⟩
   ·wp_walk using TF ho,T7 L
    exact⟨_,Z,h⟩
  ·wp_walk using TF ho,T7 L
   exact⟨_,Z,h⟩
theorem uN(hL:s.heap.IsTuple a items)
  (h:∀h',IsEnum h' (s.heap.objs.size+1) s.heap.objs.size 0 .none->h'.IsTupleIter s.heap.objs.size a 0->h'.objs.size=s.heap.objs.size+2→ (∀b o,s.heap.get? b=some o->h'.get? b=some o)->Q (.ref (s.heap.objs.size+1)) { s with heap:=h'}):
  Qw (QK prog w) A (call (.type "enumerate") [.ref a]) Q E s:=by
 refine callType_new F.called_enumerate (by decide) (F.typeCall_enumerate_1 _) (F.newCall_enumerate_1 _) (λobj=>F.args_object_init_2 obj _) F.entry_enumerate_new
  (yc a items) ⟨hL,?_⟩
 have hz:(zA s.heap a).objs.size=s.heap.objs.size+1:=S6 ..;show _/\_;rw[hz];have he:IsEnum ((zA s.heap a).push { cls:=.type "enumerate",data:=.fields #[.none,.bool false,.ref s.heap.objs.size,rawInt 0,.none,.none]}) (s.heap.objs.size+1) s.heap.objs.size 0 .none:=by
  have:=QD (zA s.heap a) (o:={ cls:=.type "enumerate",data:=.fields #[.none,.bool false,.ref s.heap.objs.size,rawInt 0,.none,.none]}) Z;rw[hz] at this;exact this
 refine⟨⟨_,he,Z⟩,h _ he ⟨_,Qb _ (QD _ Z),Z,Z⟩ (by rw[S6,hz]) λb o x=>Qb _ (Qb _ x)⟩
theorem vj{X:Cx}{pins:List (Addr×R9)}{σ:L2.St}{H:Hp}{s:Qc}{a b:Addr}{xs:List V}(I:Inv X pins σ H s)(h:aX X.K H a xs)(f:gX X pins H b):a≠b:=λz=>by
 subst z;rcases h with(h | ⟨o,h⟩) | ⟨o,its,n,hk,_⟩
 ·rw[f.1] at h;cases h
 ·rw[f.1] at h;cases h
 ·have e:=I.ok.mod.kin a o hk;rcases f.2.2.2.1 with z|z
  ·exact I.ok.noex a o e z
  ·rw[(I.ok.bs a o e).1] at z;cases z
theorem nw{h h':Qo}(x:h.IsListIter i a n)(k:∀o,h.get? i=some o->h'.get? i=some o):h'.IsListIter i a n:=x.at k
def yD(K:P4)(a:Addr):It:=
 ⟨λi H=>∃xs x,bF K H a xs/\xs[i]?=some x,
  λi H v H'=>∃p x,H p=none/\v=.ref p/\H'=upd H p (.tup [.int i,x])/\∀xs,bF K H a xs->xs[i]?=some x,
  λi H=>∃xs,bF K H a xs/\xs.length≤i⟩
theorem yQ{P:Q4}{w:Rm}{K:P4}{elts:List Re}{x1}{pos:Uf}{e it a:Addr}(hei:e≠it) :
  tj P w K (.Tuple elts x1 pos) (yD K a) [e,it] e (λi h=>(∃old,IsEnum h e it (i:Nat) old)/\h.IsTupleIter it a i) where
 mem:=by simp
 obj:=λi h st c hc=>by
  obtain⟨⟨old,h1⟩,⟨o2,h2,c2,d2⟩⟩:=st;simp only[Qm,Rb,or_false] at hc;rcases hc with rfl|rfl
  ·exact⟨_,h1,λv q=>by cases(show Wa _=XF v from q)⟩
  ·exact⟨o2,h2,λv q=>by rw[d2] at q;cases q⟩
 keep:=λi h h' st k=>by
  obtain⟨⟨old,h1⟩,h2⟩:=st;exact⟨⟨old,k e (by simp) _ h1⟩,iS h2 λo q=>k it (by simp) o q⟩
 item:=by
  intro X hP hw hK hc i pins s σ H E I hf st hg;subst hP hw hK;obtain⟨xs,x,q1,hx⟩:=hg;obtain⟨its,rv,p1,z1⟩:=I.tuple q1;obtain⟨u,hu,ru⟩:=rv.get hx;have off:∀c∈[e,it],a≠c:=λc hc=>vi I q1 (hf c hc)
  obtain⟨⟨old,h1⟩,h2⟩:=st;have hh:X.A.in1.handled=none:=I.ok.hd hc;have na:a≠it:=off it (by simp);have ne:e∉[it,a]:=λq=>by
   simp only[Qm,Rb,or_false] at q;rcases q with q|q
   ·exact hei q
   ·exact off e (by simp) q.symm
  have hi:i<its.toArray.size:=by have:=(Qq.mp hu).1;simpa using this
  have el:e<s.heap.objs.size:=Qt h1;have il:it<s.heap.objs.size:=by obtain⟨o2,q2,_⟩:=h2;exact Qt q2
  refine Wz (yd hh it a na its.toArray) h1 ⟨h2,p1⟩ hi hei ne λv h' tk hv eo st' tup hz hk=>⟨_,Z,V1 eo λh'' e2 sb=>?_⟩
  have ev:v=u:=by
   have:its.toArray[i]?=some u:=by simpa using hu
   rw[this] at hv;exact(RI hv).symm
  subst ev;have nt:s.heap.objs.size≠e:=Tw el;have ni:s.heap.objs.size≠it:=Tw il;have P:ObjOk X.prog X.w (upd H s.heap.objs.size (.tup [.int i,x])) h'' s.heap.objs.size (.tup [.int i,x]):=
   ⟨by show 2≤sizeLine;decide,[.int i tk,v],.cons ⟨_,Z⟩ (.cons ru .nil),⟨_,sb.extBut _ _ nt tup,Z,_,Z⟩⟩
  have I2:Inv X pins σ (upd H s.heap.objs.size (.tup [.int i,x])) { s with heap:=h'',toks:=tk+1}:=pE I (λc o' n q=>by
   have n1:c≠e:=λr=>n (by simp[r])
   have n2:c≠it:=λr=>n (by simp[r])
   exact sb.extBut _ _ n1 (hk c o' n1 n2 q)) hf (P7 _) P
  refine⟨.ref s.heap.objs.size,_,I2,Z,⟨_,x,I.fresh,Z,Z,λys hy=>by rw[I.tuple_inj hy q1];exact hx⟩,⟨⟨_,by simpa using e2⟩,iS st'.1 λo q=>sb.extBut _ _ hei.symm q⟩,λc hc=>?_⟩;have lt:c<s.heap.objs.size:=by
   simp only[Qm,Rb,or_false] at hc;rcases hc with rfl|rfl
   ·exact el
   ·exact il
  rw[ao (Rf lt)];exact(hf c hc).1
 done:=by
  intro X hP hw hK hc i pins s σ H E I hf st hg;subst hP hw hK;obtain⟨xs,q1,hx⟩:=hg;obtain⟨its,rv,p1,z1⟩:=I.tuple q1;have off:∀c∈[e,it],a≠c:=λc hc=>vi I q1 (hf c hc)
  obtain⟨⟨old,h1⟩,h2⟩:=st;have hh:X.A.in1.handled=none:=I.ok.hd hc;have hl:=rv.length;have nn:its.toArray[i]?=none:=by rw[V2];simp;omega
  have hT:s.TypeIs (.ref e) "enumerate" := ⟨_,h1,Z⟩;unfold Z0;refine P9 (wpAny_attempt (SC (name:=Qr "__next__") hT F.slot_enumerate_next (SW F.slot_enumerate_next hT F.entry_enumerate_next ?_ (F.args_enumerate_next_1 _))))
  show Qw _ _ (Z6 (.ref e) 2 >>= _) _ _ _;refine P9 (Tk h1 Z (x:=.ref it) Z ?_);refine P9 (BG hh h2 p1 nn λh' x he' hx'=>?_);obtain⟨o,ho,hcl⟩:=hx';refine P9 (YT (T := "StopIteration") (b:=true) ⟨o,ho,hcl⟩ isSubtype_stop ?_);refine wpAny_pure ⟨Z,?_⟩;exact pG (t':=s.toks) I (λc o' n q=>he' c o' (λr=>n (by simp[r])) q) hf
 self:=λA i s Q E st h=>by
  obtain⟨⟨old,h1⟩,_⟩:=st;exact U7 h1 h
def Li(K:P4)(ta:TA):TI:=λσ H R=>ta σ H λvs H1=>∃a,vs=[.ref a]/\(∃xs,bF K H1 a xs)/\R (yD K a) H1
theorem Eb{X:Cx}{elts:List Re}{x1}{tp p pos:Uf}{a:Re}{ta:TA}(hg:Gl X "enumerate")(hm:X.mg "enumerate"=none)(ha:PA X [a] ta)(hs:Qs [a] X.env=[(false,eval a X.env)]:=by rfl) :
  PI X (.Tuple elts x1 tp) (.Call (.Name "enumerate" p) [a] [] pos) (Li X.K ta):=by
 intro pins s σ H R I h;refine Call_ (hU I hg hm (show S0 "enumerate"=some (.type "enumerate") by kernel_rfl) (R4 (bZ (ha pos pins s σ H _ I h) λus s1 ⟨vs,H1,I1,r1,q1⟩=>?_) hs Z));obtain⟨a,e,⟨xs,hx⟩,q⟩:=q1;subst e;obtain⟨u,rfl,ru⟩:=r1.one
 cases ru
 obtain⟨its,_,p1,_⟩:=I1.tuple hx;refine uN p1 λh' he hi sz kk=>U7 he ?_
 have I2:Inv X pins σ H1 { s1 with heap:=h'}:=I1.kept (t':=s1.toks) kk;refine⟨_,[s1.heap.objs.size+1,s1.heap.objs.size],_,_,H1,rfl,I2,yQ (a:=a) (YU _),⟨⟨_,he⟩,hi⟩,λc hc=>?_,q⟩;have le:s1.heap.objs.size≤c:=by
  simp only[Qm,Rb,or_false] at hc;rcases hc with h|h
  ·rw[h];exact SQ _
  ·rw[h];exact P7 _
 exact I1.fpOk le (I1.hok.fresh le)
theorem sj{K:P4}{a:Addr}{xs:List V}{g:TG}{tb:TS}{D:jc}{σ:L2.St}{H:Hp}(Pv:Nat->L2.St->Hp->Prop)(h0:Pv 0 σ H)
  (hl:∀i σ H,i≤xs.length->Pv i σ H->bF K H a xs)
  (hs:∀i x p σ H,xs[i]?=some x->Pv i σ H->H p=none->g (.ref p) σ (upd H p (.tup [.int i,x])) λσ2 H2=>tb { D with nx:=Pv (i+1),ct:=Pv (i+1),bk:=D.nx} σ2 H2) (hd:∀σ H,Pv xs.length σ H->D.nx σ H) :
  ∃W:Nat->Nat->L2.St->Hp->Prop,(∃m,W 0 m σ H)/\∀i m σ H,W i m σ H→
   ((yD K a).stop i H/\D.nx σ H)∨((yD K a).go i H/\∃N:L2.St->Hp->Prop,(∀σ' H',N σ' H'->∃m',m'<m/\W (i+1) m' σ' H')/\∀x H',(yD K a).yld i H x H'->g x σ H' λσ2 H2=>tb { D with nx:=N,ct:=N,bk:=D.nx} σ2 H2):=by
 refine⟨λi m σ H=>m=xs.length-i/\i≤xs.length/\Pv i σ H,⟨_,Z,Qu _,h0⟩,?_⟩;rintro i m σ H ⟨rfl,hi,p⟩;have q:=hl i σ H hi p;by_cases hlt:i<xs.length
 ·refine .inr ⟨⟨xs,_,q,P5 hlt⟩,Pv (i+1),λσ' H' p'=>⟨xs.length-(i+1),by omega,Z,hlt,p'⟩,λx H' y=>?_⟩;obtain⟨pp,v,hp,rfl,rfl,hv⟩:=y;exact hs i v pp σ _ (hv xs q) p hp
 ·have e:i=xs.length:=by omega
  subst e;exact .inl ⟨⟨xs,q,P7 _⟩,hd σ H p⟩
def yE(K:P4)(a:Addr):It:=
 ⟨λi H=>∃xs x,aX K H a xs/\xs[i]?=some x,
  λi H v H'=>∃p x,H p=none/\v=.ref p/\H'=upd H p (.tup [.int i,x])/\∀xs,aX K H a xs->xs[i]?=some x,
  λi H=>∃xs,aX K H a xs/\xs.length≤i⟩
theorem yR{P:Q4}{w:Rm}{K:P4}{elts:List Re}{x1}{pos:Uf}{e it a:Addr}(hei:e≠it) :
  tj P w K (.Tuple elts x1 pos) (yE K a) [e,it] e (λi h=>(∃old,IsEnum h e it (i:Nat) old)/\h.IsListIter it a i) where
 mem:=by simp
 obj:=λi h st c hc=>by
  obtain⟨⟨old,h1⟩,⟨o2,h2,c2,d2⟩⟩:=st;simp only[Qm,Rb,or_false] at hc;rcases hc with rfl|rfl
  ·exact⟨_,h1,λv q=>by cases(show Wa _=XF v from q)⟩
  ·exact⟨o2,h2,λv q=>by rw[d2] at q;cases q⟩
 keep:=λi h h' st k=>by
  obtain⟨⟨old,h1⟩,h2⟩:=st;exact⟨⟨old,k e (by simp) _ h1⟩,nw h2 λo q=>k it (by simp) o q⟩
 item:=by
  intro X hP hw hK hc i pins s σ H E I hf st hg;subst hP hw hK;obtain⟨xs,x,q1,hx⟩:=hg;obtain⟨its,rv,p1,z1⟩:=I.list q1;obtain⟨u,hu,ru⟩:=rv.get hx;have off:∀c∈[e,it],a≠c:=λc hc=>vj I q1 (hf c hc)
  obtain⟨⟨old,h1⟩,h2⟩:=st;have hh:X.A.in1.handled=none:=I.ok.hd hc;have na:a≠it:=off it (by simp);have ne:e∉[it,a]:=λq=>by
   simp only[Qm,Rb,or_false] at q;rcases q with q|q
   ·exact hei q
   ·exact off e (by simp) q.symm
  have hi:i<its.toArray.size:=by have:=(Qq.mp hu).1;simpa using this
  have el:e<s.heap.objs.size:=Qt h1;have il:it<s.heap.objs.size:=by obtain⟨o2,q2,_⟩:=h2;exact Qt q2
  refine Wz (Draws.list hh it a na its.toArray) h1 ⟨h2,p1.isList⟩ hi hei ne λv h' tk hv eo st' tup hz hk=>⟨_,Z,V1 eo λh'' e2 sb=>?_⟩
  have ev:v=u:=by
   have:its.toArray[i]?=some u:=by simpa using hu
   rw[this] at hv;exact(RI hv).symm
  subst ev;have nt:s.heap.objs.size≠e:=Tw el;have ni:s.heap.objs.size≠it:=Tw il;have P:ObjOk X.prog X.w (upd H s.heap.objs.size (.tup [.int i,x])) h'' s.heap.objs.size (.tup [.int i,x]):=
   ⟨by show 2≤sizeLine;decide,[.int i tk,v],.cons ⟨_,Z⟩ (.cons ru .nil),⟨_,sb.extBut _ _ nt tup,Z,_,Z⟩⟩
  have I2:Inv X pins σ (upd H s.heap.objs.size (.tup [.int i,x])) { s with heap:=h'',toks:=tk+1}:=pE I (λc o' n q=>by
   have n1:c≠e:=λr=>n (by simp[r])
   have n2:c≠it:=λr=>n (by simp[r])
   exact sb.extBut _ _ n1 (hk c o' n1 n2 q)) hf (P7 _) P
  refine⟨.ref s.heap.objs.size,_,I2,Z,⟨_,x,I.fresh,Z,Z,λys hy=>by rw[I.list_inj hy q1];exact hx⟩,⟨⟨_,by simpa using e2⟩,nw st'.1 λo q=>sb.extBut _ _ hei.symm q⟩,λc hc=>?_⟩;have lt:c<s.heap.objs.size:=by
   simp only[Qm,Rb,or_false] at hc;rcases hc with rfl|rfl
   ·exact el
   ·exact il
  rw[ao (Rf lt)];exact(hf c hc).1
 done:=by
  intro X hP hw hK hc i pins s σ H E I hf st hg;subst hP hw hK;obtain⟨xs,q1,hx⟩:=hg;obtain⟨its,rv,p1,z1⟩:=I.list q1;have off:∀c∈[e,it],a≠c:=λc hc=>vj I q1 (hf c hc)
  obtain⟨⟨old,h1⟩,h2⟩:=st;have hh:X.A.in1.handled=none:=I.ok.hd hc;have hl:=rv.length;have nn:its.toArray[i]?=none:=by rw[V2];simp;omega
  have hT:s.TypeIs (.ref e) "enumerate" := ⟨_,h1,Z⟩;unfold Z0;refine P9 (wpAny_attempt (SC (name:=Qr "__next__") hT F.slot_enumerate_next (SW F.slot_enumerate_next hT F.entry_enumerate_next ?_ (F.args_enumerate_next_1 _))))
  show Qw _ _ (Z6 (.ref e) 2 >>= _) _ _ _;refine P9 (Tk h1 Z (x:=.ref it) Z ?_);refine P9 (wpAny_nextOf_list_end hh h2 p1.isList nn λh' x he' hx'=>?_);obtain⟨o,ho,hcl⟩:=hx';refine P9 (YT (T := "StopIteration") (b:=true) ⟨o,ho,hcl⟩ isSubtype_stop ?_);refine wpAny_pure ⟨Z,?_⟩;exact pG (t':=s.toks) I (λc o' n q=>he' c o' (λr=>n (by simp[r])) q) hf
 self:=λA i s Q E st h=>by
  obtain⟨⟨old,h1⟩,_⟩:=st;exact U7 h1 h
def Lj(K:P4)(ta:TA):TI:=λσ H R=>ta σ H λvs H1=>∃a,vs=[.ref a]/\(∃xs,aX K H1 a xs)/\R (yE K a) H1
theorem A8{X:Cx}{elts:List Re}{x1}{tp p pos:Uf}{a:Re}{ta:TA}(hg:Gl X "enumerate")(hm:X.mg "enumerate"=none)(ha:PA X [a] ta)(hs:Qs [a] X.env=[(false,eval a X.env)]:=by rfl) :
  PI X (.Tuple elts x1 tp) (.Call (.Name "enumerate" p) [a] [] pos) (Lj X.K ta):=by
 intro pins s σ H R I h;refine Call_ (hU I hg hm (show S0 "enumerate"=some (.type "enumerate") by kernel_rfl) (R4 (bZ (ha pos pins s σ H _ I h) λus s1 ⟨vs,H1,I1,r1,q1⟩=>?_) hs Z));obtain⟨a,e,⟨xs,hx⟩,q⟩:=q1;subst e;obtain⟨u,rfl,ru⟩:=r1.one
 cases ru
 obtain⟨its,_,p1,_⟩:=I1.list hx;refine call_enumerate_list p1.isList λh' he hi sz kk=>U7 he ?_
 have I2:Inv X pins σ H1 { s1 with heap:=h'}:=I1.kept (t':=s1.toks) kk;refine⟨_,[s1.heap.objs.size+1,s1.heap.objs.size],_,_,H1,rfl,I2,yR (a:=a) (YU _),⟨⟨_,he⟩,hi⟩,λc hc=>?_,q⟩;have le:s1.heap.objs.size≤c:=by
  simp only[Qm,Rb,or_false] at hc;rcases hc with h|h
  ·rw[h];exact SQ _
  ·rw[h];exact P7 _
 exact I1.fpOk le (I1.hok.fresh le)
theorem ya{K:P4}{a:Addr}{xs:List V}{g:TG}{tb:TS}{D:jc}{σ:L2.St}{H:Hp}(Pv:Nat->L2.St->Hp->Prop)(h0:Pv 0 σ H)
  (hl:∀i σ H,i≤xs.length->Pv i σ H->aX K H a xs)
  (hs:∀i x p σ H,xs[i]?=some x->Pv i σ H->H p=none->g (.ref p) σ (upd H p (.tup [.int i,x])) λσ2 H2=>tb { D with nx:=Pv (i+1),ct:=Pv (i+1),bk:=D.nx} σ2 H2) (hd:∀σ H,Pv xs.length σ H->D.nx σ H) :
  ∃W:Nat->Nat->L2.St->Hp->Prop,(∃m,W 0 m σ H)/\∀i m σ H,W i m σ H→
   ((yE K a).stop i H/\D.nx σ H)∨((yE K a).go i H/\∃N:L2.St->Hp->Prop,(∀σ' H',N σ' H'->∃m',m'<m/\W (i+1) m' σ' H')/\∀x H',(yE K a).yld i H x H'->g x σ H' λσ2 H2=>tb { D with nx:=N,ct:=N,bk:=D.nx} σ2 H2):=by
 refine⟨λi m σ H=>m=xs.length-i/\i≤xs.length/\Pv i σ H,⟨_,Z,Qu _,h0⟩,?_⟩;rintro i m σ H ⟨rfl,hi,p⟩;have q:=hl i σ H hi p;by_cases hlt:i<xs.length
 ·refine .inr ⟨⟨xs,_,q,P5 hlt⟩,Pv (i+1),λσ' H' p'=>⟨xs.length-(i+1),by omega,Z,hlt,p'⟩,λx H' y=>?_⟩;obtain⟨pp,v,hp,rfl,rfl,hv⟩:=y;exact hs i v pp σ _ (hv xs q) p hp
 ·have e:i=xs.length:=by omega
  subst e;exact .inl ⟨⟨xs,q,P7 _⟩,hd σ H p⟩
section
variable {prog:Q4}{w:Rm}{A:Rg}{E:Value->Qc->Prop}
end
def O7(K:P4)(n:Nat)(t:yy):TG:=λv σ H Q=>∃a xs,v=.ref a/\aX K H a xs/\xs.length=n/\t xs σ H Q
section
variable {prog:Q4}{w:Rm}{A:Rg}{E:Value->Qc->Prop}{s:Qc}
open HT in
theorem qU{t sl:Addr}{items:Array Value}{vl vu:Value}{lo hi:Option Int}{Q:Value->Qc->Prop}(ht:Y6 s.heap t items)(hs:s.heap.IsSliceOf sl vl vu .none)(pl:WW vl lo)(pu:WW vu hi)
  (h1:sIx items.size 0 lo=0) (h2:sIx items.size items.size hi=items.size) (h:Q (.ref t) s):Qw (QK prog w) A (UZ (.ref t) (.ref sl)) Q E s:=by
 obtain⟨os,hos,hcs,hds⟩:=id hs;have hTs:s.TypeIs (.ref sl) "slice" := ⟨os,hos,hcs⟩;unfold UZ
 try with_reducible refine wpAny_holding ?_
 first|refine P9 (wpAny_pure ?_)|skip
 refine P9 (Yt ht.typeIs (by decide) ?_);refine P9 (SC (name:=Qr "__getitem__") ht.typeIs RM (SW RM ht.typeIs XQ ?_ (Yb _ _)))
 show Qw _ _ (VX (.ref t) >>= _) _ _ s;refine P9 (tupleItemsOf_ ht ?_);refine P9 (WX hTs ?_);rw[Z9 (by decide)];refine P9 (gm hs pl pu ?_);have hyes:((((sIx items.size 0 lo:Nat):Int)==0&&(1:Int)==1&&(sIx items.size items.size hi-sIx items.size 0 lo)==items.size)=true):=by
  rw[h1,h2];simp
 show Qw _ _ (if(((sIx items.size 0 lo:Nat):Int)==0&&(1:Int)==1&&(sIx items.size items.size hi-sIx items.size 0 lo)==items.size)=true then _ else _) _ _ s;rw[Z9 hyes];refine P9 ?_;unfold Q8.Tuple.tupleIsExact;refine P9 (WX ht.typeIs ?_);refine wpAny_pure ?_;rw[Z9 (by decide)];exact P9 (Zx (wpAny_pure ⟨_,Z,wpAny_pure h⟩))
end
def KC(K:P4):V->Option Int->Option Int->Hp->VK->Prop:=λx lo hi H Q=>∃a xs,x=.ref a/\bF K H a xs/\HT.sIx xs.length 0 lo=0/\HT.sIx xs.length xs.length hi=xs.length/\Q (.ref a) H
theorem DC:CT X (KC X.K):=by
 intro pins s σ H x v vl vu lo hi sl Q I rx hs pl pu h;obtain⟨a,xs,rfl,hx,h1,h2,q⟩:=h
 cases rx
 obtain⟨its,r,ht,hz⟩:=I.tuple hx;have hlen:its.toArray.size=xs.length:=by rw[QR];exact r.length.symm
 refine⟨"tuple",_,RM.lookup,ht.typeIs,?_⟩;exact qU ht hs pl pu (by rw[hlen];exact h1) (by rw[hlen];exact h2) ⟨.ref a,H,I,Z,q⟩
theorem DD:CT X (λx lo hi H Q=>KC X.K x lo hi H Q∨KD X.K x lo hi H Q):=CT.or DC zy
theorem IX(hb:0<b)(hd:0<d)(e:a*d=c*b):fo a b=fo c d:=by
 have hr:=iu (a:=c) hd;have hc:=oQ (a:=c) hd;generalize fo c d=m at hr hc ⊢;refine fc hb hr.pos hr.cop ?_;refine To (show d≠0 by omega) ?_;have e1:m.1*b*d=m.1*d*b:=by ac_rfl
 have e2:a*m.2*d=a*d*m.2:=by ac_rfl
 rw[e1,hc,e2,e]
 ac_rfl
structure Bq(D N:Nat)(r:R):Prop where
 pos:0<r.2
 cop:Qz r.1 r.2=1
 dvd:r.2∣(D:Int)
 le:r.1.natAbs≤N*r.2.natAbs
theorem Bq.red(h:Bq D N r):gf r:=⟨h.pos,h.cop⟩
theorem wA{D N:Nat}{a b:Int}(hb:0<b)(hd:b∣(D:Int))(hl:a.natAbs≤N*b.natAbs):Bq D N (fo a b):=by
 obtain⟨g,x,y,e0,gp,e1,e2,c⟩:=fJ (a:=a) hb;have yp:=i6 hb gp e2;have e:fo a b=(x,y):=by
  unfold fo;rw[e0,show a/g=x by rw[e1];exact QY _ (by omega),show b/g=y by rw[e2];exact QY _ (by omega)]
 rw[e];refine⟨yp,c,UI ⟨g,by rw[e2,TB]⟩ hd,?_⟩;rw[e1,e2,S7,S7] at hl;have gn:0<g.natAbs:=by omega
 refine Nat.le_of_mul_le_mul_left (c:=g.natAbs) ?_ gn;show g.natAbs*x.natAbs≤g.natAbs*(N*y.natAbs);rw[Nat.mul_left_comm];exact hl
theorem Bq.mono(h:Bq D N r)(hd:D∣D')(hn:N≤N'):Bq D' N' r:=
 ⟨h.pos,h.cop,UI h.dvd (Int.ofNat_dvd.mpr hd),QU h.le (S8 _ hn)⟩
theorem Bq.plus(hD:0<D)(h:Bq D N r)(k:Bq D M q):Bq D (N+M) (bP r q):=by
 obtain⟨y,ey⟩:=h.dvd;obtain⟨v,ev⟩:=k.dvd;have dp:(0:Int)<(D:Int):=by omega
 have e:bP r q=fo (r.1*y+q.1*v) (D:Int):=by
  unfold bP;refine IX (RT h.pos k.pos) dp ?_;rw[Xw,Xw];have a1:r.1*q.2*(D:Int)=r.1*y*(r.2*q.2):=by rw[ey];ac_rfl
  have a2:q.1*r.2*(D:Int)=q.1*v*(r.2*q.2):=by rw[ev];ac_rfl
  rw[a1,a2]
 rw[e];refine wA dp (W4 _) ?_;have b1:(r.1*y).natAbs≤N*D:=by
  have:(D:Int).natAbs=r.2.natAbs*y.natAbs:=by rw[ey,S7]
  rw[S7];have z:=S8 y.natAbs h.le;rw[X0,←this] at z
  simpa using z
 have b2:(q.1*v).natAbs≤M*D:=by
  have:(D:Int).natAbs=q.2.natAbs*v.natAbs:=by rw[ev,S7]
  rw[S7];have z:=S8 v.natAbs k.le;rw[X0,←this] at z
  simpa using z
 have b3:=Int.natAbs_add_le (r.1*y) (q.1*v);have b4:(D:Int).natAbs=D:=UR D;rw[b4,Za];omega
theorem Bq.neg(h:Bq D N r):Bq D N (-r.1,r.2):=⟨h.pos,by show Qz (-r.1) r.2=1;rw[Int.neg_gcd];exact h.cop,h.dvd,by show(-r.1).natAbs≤_;rw[ZJ];exact h.le⟩
theorem Bq.minus(hD:0<D)(h:Bq D N r)(k:Bq D M q):Bq D (N+M) (bn r q):=by
 rw[←rZ];exact h.plus hD k.neg
theorem Bq.times(h:Bq D N r)(k:Bq E M q):Bq (D*E) (N*M) (fZ r q):=by
 refine wA (RT h.pos k.pos) ?_ ?_
 ·rw[UL];exact Int.mul_dvd_mul h.dvd k.dvd
 ·rw[S7,S7];have z:=Nat.mul_le_mul h.le k.le
  calc r.1.natAbs*q.1.natAbs≤N*r.2.natAbs*(M*q.2.natAbs):=z
   _=N*M*(r.2.natAbs*q.2.natAbs):=by ac_rfl
theorem EC(ha:0<a)(hb:0<b):0<(fo a b).1:=Um ha (R5 (cr hb)) (YR a b)
theorem Bq.bot(hD:0<D)(h:Bq D N r):r.2.natAbs≤D:=by
 have:=Vg.mpr h.dvd;rw[UR] at this;exact X1 hD this
theorem Bq.wf(h:Bq D N r)(hD:0<D)(h1:D<2^n)(h2:N*D<2^n):Wf n r:=
 ⟨h.pos,Rn (QU h.le (UB _ (h.bot hD))) h2,Rn (h.bot hD) h1,h.cop⟩
theorem BR:cP r q=true↔r.1*q.2<q.1*r.2:=by unfold cP;exact Z8
theorem sd:cP r q=false↔q.1*r.2≤r.1*q.2:=by unfold cP;rw[decide_eq_false_iff_not,Int.not_lt]
theorem BL(ha:0≤a):0≤(fo a b).1:=Ub ha (by omega)
theorem D7(hr:gf r)(hq:gf q)(h1:0≤r.1)(h2:0≤q.1):0≤(bP r q).1:=
 BL (Int.add_nonneg (Xx h1 (R5 hq.pos)) (Xx h2 (R5 hr.pos)))
inductive Rl where
 |pow (k:Int)
 |tab (rows:List (R×R))
def ul:R×R:=((0,1),(0,1))
def Gz(lo hi:R×R):R:=K0 (bn hi.2 lo.2) (bn hi.1 lo.1)
def L3(rows:List (R×R))(k:Nat):R:=Gz (rows.getD k ul) (rows.getD (k+1) ul)
def KZ(rows:List (R×R))(s:R):Nat:=rows.countP λr=>cP r.1 s
def KM(rows:List (R×R))(s:R):Nat:=rows.countP λr=>!cP s r.1
def Ld(rows:List (R×R))(s:R):R:=if KZ rows s=0 then(0,1) else L3 rows (KZ rows s-1)
def G9(rows:List (R×R))(s:R):Option R:=if KM rows s<rows.length then some (L3 rows (KM rows s-1)) else none
def KP(k:Int)(s:R):R:=fZ (k,1) (KQ s (k-1).toNat)
def L4:Rl->R->R×Option R
 | .pow k,s=>(KP k s,some (KP k s))
 | .tab rows,s=>(Ld rows s,G9 rows s)
def Pp(rows:List (R×R)):Prop:=rows.Pairwise λa b=>cP a.1 b.1=true
def Px(rows:List (R×R)):Prop:=∀r∈rows,0<r.1.2
abbrev D0:Nat:=5822723907000000000
abbrev N0:Nat:=1000000007
abbrev N1:Nat:=17179869184
abbrev NR:Nat:=11000000077
abbrev N2:Nat:=1180591620717411303424
structure JF(rows:List (R×R)):Prop where
 n2:2≤rows.length
 n12:rows.length≤12
 inc:Pp rows
 zero:∃y,rows[0]?=some ((0,1),y)
 sp:∀r∈rows,Bq D0 NR r.1
 pw:∀r∈rows,Bq (D0*D0) N2 r.2
def Pj:Rl->Prop
 | .pow k=>2≤k/\k≤4
 | .tab rows=>JF rows
structure Ph(s:R):Prop where
 bq:Bq (D0*2) N1 s
 nn:0≤s.1
def Ov:Rl->R->Prop
 | .pow _,_=>True
 | .tab rows,s=>∃r,rows[rows.length-1]?=some r/\cP r.1 s=false
def PP(rows:List (R×R))(s:R)(i:Nat):R:=if 0<KZ rows s/\KZ rows s-1<i then L3 rows (KZ rows s-1) else(0,1)
def PM(rows:List (R×R))(s:R)(i:Nat):Option R:=if 0<KM rows s/\KM rows s-1<i then some (L3 rows (KM rows s-1)) else none
def NW(k:Int)(s:R)(j:Nat):R:=fo (k*s.1^j) (s.2^j)
def Od(l:R)(r:Option R)(g:R):Bool:=!cP g l&&(match r with|none=>true|some x=>!cP x g)
def val(r:R):Rat:=(r.1:Rat)/(r.2:Rat)
theorem cU{b:Int}(h:0<b):(b:Rat)≠0:=λz=>by
 have:b=0:=Xi.mp (by rw[z];rfl);omega
theorem Gk{r:R}{a b:Int}(hr:0<r.2)(hb:(b:Rat)≠0)(h:r.1*b=a*r.2):val r=(a:Rat)/(b:Rat):=by
 have h2:(r.1:Rat)*(b:Rat)=(a:Rat)*(r.2:Rat):=by rw[←Rj,←Rj,h]
 have h1:=cU hr;unfold val;generalize (r.1:Rat)=x at *;generalize (r.2:Rat)=y at *;generalize (a:Rat)=u at *;generalize (b:Rat)=v at *;grind
theorem j6(hb:0<b):val (fo a b)=(a:Rat)/(b:Rat):=Gk (iu hb).pos (cU hb) (oQ hb)
theorem jf(hr:0<r.2)(hq:0<q.2):val (bP r q)=val r+val q:=by
 unfold bP;rw[j6 (RT hr hq)];have h1:=cU hr;have h2:=cU hq;unfold val;rw[Vz,Rj,Rj,Rj];generalize (r.1:Rat)=x at *;generalize (r.2:Rat)=y at *;generalize (q.1:Rat)=u at *;generalize (q.2:Rat)=v at *;grind
theorem d8(hr:0<r.2)(hq:0<q.2):val (bn r q)=val r-val q:=by
 unfold bn;rw[j6 (RT hr hq)];have h1:=cU hr;have h2:=cU hq;unfold val;rw[Rat.intCast_sub,Rj,Rj,Rj];generalize (r.1:Rat)=x at *;generalize (r.2:Rat)=y at *;generalize (q.1:Rat)=u at *;generalize (q.2:Rat)=v at *;grind
theorem wS(hr:0<r.2)(hq:0<q.2):val (fZ r q)=val r*val q:=by
 unfold fZ;rw[j6 (RT hr hq)];have h1:=cU hr;have h2:=cU hq;unfold val;rw[Rj,Rj];generalize (r.1:Rat)=x at *;generalize (r.2:Rat)=y at *;generalize (q.1:Rat)=u at *;generalize (q.2:Rat)=v at *;grind
theorem fS(hr:gf r)(hq:gf q)(h:val r=val q):r=q:=by
 have h1:=cU hr.pos;have h2:=cU hq.pos;have e:r.1*q.2=q.1*r.2:=by
  refine Xi.mp ?_;rw[Rj,Rj];unfold val at h;generalize (r.1:Rat)=x at *;generalize (r.2:Rat)=y at *;generalize (q.1:Rat)=u at *;generalize (q.2:Rat)=v at *;grind
 have e1:fo r.1 r.2=(r.1,r.2):=fc hr.pos hr.pos hr.cop Z;have e2:fo r.1 r.2=(q.1,q.2):=fc hr.pos hq.pos hq.cop e.symm;exact e1.symm.trans e2
theorem eY(hr:0<r.2):val r=0↔r.1=0:=by
 have h1:=cU hr;unfold val;constructor
 ·intro h;refine Xi.mp ?_;show(r.1:Rat)=((0:Int):Rat);rw[show((0:Int):Rat)=0 from Z];generalize (r.1:Rat)=x at *;generalize (r.2:Rat)=y at *;grind
 ·intro h;rw[h];show((0:Int):Rat)/_=0;rw[show((0:Int):Rat)=0 from Z];generalize (r.2:Rat)=y at *;grind
def PJ(rows:List (R×R))(i:Nat):Rat:=(val (rows.getD (i+1) ul).2-val (rows.getD i ul).2)/(val (rows.getD (i+1) ul).1-val (rows.getD i ul).1)
section
variable {s p:Nat->Rat}{n:Nat}
def sl(s p:Nat->Rat)(i:Nat):Rat:=(p (i+1)-p i)/(s (i+1)-s i)
end
structure QE(X:Cx)(e:Re)(t:TE):Prop where
 p:PE X e t
structure QT(X:Cx)(e:Re)(t:TT):Prop where
 p:PT X e t
structure QW(X:Cx)(e:Re)(t:TT):Prop where
 p:PW X e t
structure QA(X:Cx)(es:List Re)(t:TA):Prop where
 p:PA X es t
structure QS(X:Cx)(st:Stmt)(t:TS):Prop where
 p:PS X st t
structure dM(X:Cx)(st:List Stmt)(t:TS):Prop where
 p:tM X st t
structure QI(X:Cx)(tg iter:Re)(wi:TI):Prop where
 p:PI X tg iter wi
structure QG(X:Cx)(target:Re)(t:TG):Prop where
 p:PG X target t
structure LJ(X:Cx)(ts:List Re)(t:yy):Prop where
 p:J3 X ts t
theorem dM.ok(h:dM X b t)(r:t D σ H):∃t:TS,tM X b t/\t D σ H:=⟨t,h.p,r⟩
structure QO(X:Cx)(o:Option Re)(t:L2.TO):Prop where
 p:PO X o t
section
set_option autoImplicit true
set_option relaxedAutoImplicit true
theorem qv(i:Nat){x:QX}{pos:Uf}(hN:X.N[i]?=some x:=by rfl)(hv:LC X.env.scope x:=by first|exact Q0 Z|exact QV (Q0 Z)|exact QV (QV Z))(hd:(x==("__debug__" : QX))=false:=by decide)(hcd:(x==("__classdict__" : QX))=false:=by decide):QE X (.Name x pos) (yV i):=⟨pv i hN hv hd hcd⟩
theorem aj{i j pos}:QE X (.Constant (.int i) j pos) (tC (.int i)):=⟨HS ⟩
theorem iL{b j pos}:QE X (.Constant (.bool b) j pos) (tC (.bl b)):=⟨KY ⟩
theorem AR{j pos}:QE X (.Constant .none j pos) (tC .non):=⟨HQ ⟩
theorem cV{x j pos}:QE X (.Constant (.str x) j pos) (tC (.str x)):=⟨HM ⟩
theorem dC{x:QX}{v:V}{u:Value}{pos:Uf}(hg:Gl X x)(hm:X.mg x=some u)(r:RelV v u)(hd:(x==("__debug__" : QX))=false:=by decide):QE X (.Name x pos) (tC v):=⟨Eh hg hm r hd⟩
theorem jx{x:QX}{v:V}{u:Value}{pos:Uf}(hg:Gl X x)(hm:X.mg x=none)(hv:S0 x=some u)(r:RelV v u)(hn:x ≠ "__name__" := by decide)(hd:(x==("__debug__" : QX))=false:=by decide):QE X (.Name x pos) (tC v):=⟨Em hg hm hv r hn hd⟩
theorem rP(ho:Me X (unaryOp op) r)(ha:QE X a ta):QE X (.UnaryOp op a pos) (Nu r ta):=⟨KR ho ha.p⟩
theorem Hj(ha:QE X a ta):QE X (.UnaryOp .Not a pos) (Fw ta):=⟨HP ha.p⟩
theorem aM(ho:gH X (TN op) r)(ha:QE X a ta)(hb:QE X b tb):QE X (.BinOp a op b pos) (Dg r ta tb):=⟨KS ho ha.p hb.p⟩
theorem mW{op}(h:QE X a t):QE X (.BoolOp op [a] pos) t:=⟨HN h.p⟩
theorem mX{c6:List Re}(ha:QE X a ta)(hb:QE X (.BoolOp .And (b::c6) pos) tb):QE X (.BoolOp .And (a::b::c6) pos) (FF ta tb):=⟨HV ha.p hb.p⟩
theorem gP(ho:gH X (RL op) r)(ha:QE X a ta)(hb:QE X b tb)(hm:UE op b=false):QE X (.Compare a [op] [b] pos) (Dg r ta tb):=⟨Ek ho ha.p hb.p hm⟩
theorem rR{op op':Zu}{r r':R2}(ho:gH X (RL op) r)(ho':gH X (RL op') r')(ha:QE X a ta)(hb:QE X b tb)(hc:QE X c tc)(hm:YM [op,op'] [b,c]=false:=by with_unfolding_all rfl):QE X (.Compare a [op,op'] [b,c] pos) (pK r r' ta tb tc):=⟨Bj ho ho' ha.p hb.p hc.p hm⟩
theorem rQ(hc:QT X c tA)(ha:QE X a ta)(hb:QE X b tb):QE X (.IfExp c a b pos) (NC tA ta tb):=⟨Bf hc.p ha.p hb.p⟩
theorem bW(h:QA X es t):QE X (.List es pos) (Ki t):=⟨HR h.p⟩
theorem bV{x1}(h:QA X es t):QE X (.Tuple es x1 pos) (Ke t):=⟨HK h.p⟩
theorem mV{lo hi:Option Re}{r:V->Option Int->Option Int->Hp->VK->Prop}(hr:CT X r)(he:QE X e te)(hl:QO X lo tl)(hu:QO X hi th):QE X (.Subscript e (.Slice lo hi none p2) pos) (Nw r te tl th):=⟨Bb hr he.p hl.p hu.p⟩
theorem vB   : QO X none vd:=⟨D6 ⟩
theorem lK(h:QE X e te):QO X (some e) (Fv te):=⟨D5 h.p⟩
theorem bv(hr:JK X r)(ha:QE X a ta)(hb:QE X b tb)(hs:qI b):QE X (.Subscript a b pos) (Dg r ta tb):=⟨KU hr ha.p hb.p hs⟩
theorem vD(F:bC X.prog X.w X.K X.mg X.base CX k f fd ps sp)(hr:c9 k X.A)(hg:Gl X x)(hm:X.mg x=some (.ref f))(hk:Sr X.K (.ref f)=true)(hb:aN X.K fd ps ds)(hd:bo dvs ds)(hx:fw CX X E)(ha:QA X (e::es) t)(hdb:(x==("__debug__" : QX))=false:=by decide)(he:Qs (e::es) X.env=(false,eval e X.env)::Qs es X.env:=by rfl)(hpl:(Tb pos (Qs es X.env)).any (·.1)=false:=by rfl):QE X (.Call (.Name x p) (e::es) [] pos) (yZ sp dvs E t):=⟨El F hr hg hm hk hb hd hx ha.p hdb he hpl⟩
theorem aO{id:String}(hc:dN X (.builtin id) r)(hg:Gl X x)(hm:X.mg x=none)(hv:S0 x=some (.builtin id))(ha:QA X (e::es) t)(hn:x ≠ "__name__" := by decide)(hdb:(x==("__debug__" : QX))=false:=by decide)(he:Qs (e::es) X.env=(false,eval e X.env)::Qs es X.env:=by rfl)(hpl:(Tb pos (Qs es X.env)).any (·.1)=false:=by rfl):QE X (.Call (.Name x p) (e::es) [] pos) (LW r t):=⟨Bl hc hg hm hv ha.p hn hdb he hpl⟩
theorem bY(hc:dN X (.type T) r)(hg:Gl X x)(hm:X.mg x=none)(hv:S0 x=some (.type T))(ha:QA X (e::es) t)(hn:x ≠ "__name__" := by decide)(hdb:(x==("__debug__" : QX))=false:=by decide)(he:Qs (e::es) X.env=(false,eval e X.env)::Qs es X.env:=by rfl)(hpl:(Tb pos (Qs es X.env)).any (·.1)=false:=by rfl):QE X (.Call (.Name x p) (e::es) [] pos) (LW r t):=⟨xI hc hg hm hv ha.p hn hdb he hpl⟩
theorem dJ{id:String}(pa:PlainAttrs T)(slot:Slot T name id)(hty:typeOf (.builtin id)=Sq (.type "method_descriptor"))(hm:Nh X id r)(ho:QE X o to)(ha:QA X (e::es) t)(hbase:Tj o name X.env (eval o X.env)=eval o X.env:=by rfl) (hfew:((Tb cpos (Qs (e::es) X.env)).all (λx=>!x.1)&&(Vs cpos (TW [] X.env)).all (λx=>x.1.isSome)
  &&decide ((e::es).length+([]:List VG).length+(if([]:List VG).isEmpty then 0 else 1)<30))=true:=by rfl) (hline:(apos.endLine==cpos.line)=true:=by rfl) (hs:Qs (e::es) X.env=(false,eval e X.env)::Qs es X.env:=by rfl) (hplain:(Tb cpos (Qs es X.env)).any (·.1)=false:=by rfl):QE X (.Call (.Attribute o name apos) (e::es) [] cpos) (NE X.K T r to t):=⟨KW pa slot hty hm ho.p ha.p hbase hfew hline hs hplain⟩
theorem ai   : QA X [] wV:=⟨HZ ⟩
theorem ae(ha:QE X e te)(hr:QA X es t)(hs:Qs (e::es) X.env=(false,eval e X.env)::Qs es X.env:=by rfl):QA X (e::es) (FE te t):=⟨Eo ha.p hr.p hs⟩
theorem aT(ho:gH X (RL op) r)(ha:QE X a ta)(hb:QE X b tb)(hm:UE op b=false):QT X (.Compare a [op] [b] pos) (va (Dg r ta tb)):=⟨DS ho ha.p hb.p hm⟩
theorem AK{op op':Zu}{r r':R2}(ho:gH X (RL op) r)(ho':gH X (RL op') r')(ha:QE X a ta)(hb:QE X b tb)(hc:QE X c tc)(hm:YM [op,op'] [b,c]=false:=by with_unfolding_all rfl):QT X (.Compare a [op,op'] [b,c] pos) (va (pK r r' ta tb tc)):=⟨AY ho ho' ha.p hb.p hc.p hm⟩
theorem dg{e:Re}{t:TE}(h:QE X e t)(he:∀whole,isTrue e X.env whole=(do let v ←whole;WN e.pos;holding [v] (truthy v)):=by intro _;rfl):QT X e (tB t):=⟨Hm h.p he⟩
theorem eS(ha:QT X a tA):QT X (.UnaryOp .Not a pos) (Kh tA):=⟨Hn ha.p⟩
theorem mT{c6:List Re}(ha:QT X a tA)(hb:QW X (.BoolOp .And (b::c6) pos) tB'):QW X (.BoolOp .And (a::b::c6) pos) (Kn tA tB'):=⟨Hl ha.p hb.p⟩
theorem lJ(ha:QT X a tA):QW X (.BoolOp .And [a] pos) tA:=⟨DO ha.p⟩
theorem js{c6:List Re}(ha:QT X a tA)(hb:QW X (.BoolOp .Or (b::c6) pos) tB'):QW X (.BoolOp .Or (a::b::c6) pos) (Nz tA tB'):=⟨KN ha.p hb.p⟩
theorem km(ha:QT X a tA):QW X (.BoolOp .Or [a] pos) tA:=⟨Hk ha.p⟩
theorem iK(h:QW X e t):QT X e t:=⟨PW.pt h.p⟩
theorem Hg{i:Nat}{x:QX}{e:Re}{te:TE}{pos':Uf}(hN:X.N.Nodup)(hi:X.N[i]?=some x)(hx:yA X.env.scope x)(he:QE X e te)(hs:S9 e (some (.Name x pos')) pos.line X.env=Sq false:=by rfl)(hf:X.fn x=true∨X.env.scope.names.lookup x=some .local:=by first|exact .inl Z|exact .inr Z|assumption):QS X (.Assign [.Name x pos'] e pos) (pM te (jL i)):=⟨Ho hN hi hx he.p hs hf⟩
theorem AN{i j:Nat}{x y:QX}{a b:Re}{ta:TA}{px py pt:Uf}{kt k2 pt2}(hc:X.calm=true)(hN:X.N.Nodup)(hi:X.N[i]?=some x)(hj:X.N[j]?=some y)(hij:i≠j)(hx:X.env.scope.names.lookup x=some .local)(hy:X.env.scope.names.lookup y=some .local)(ha:QA X [a,b] ta)(hw:Wj [.Tuple [.Name x px,.Name y py] kt pt] (.Tuple [a,b] k2 pt2) X.env=Sq (some [x,y]))(hs:Wi [.Tuple [.Name x px,.Name y py] kt pt] (.Tuple [a,b] k2 pt2) pos.line X.env=Sq false:=by rfl):QS X (.Assign [.Tuple [.Name x px,.Name y py] kt pt] (.Tuple [a,b] k2 pt2) pos) (Kg i j ta):=⟨Hr hc hN hi hj hij hx hy ha.p hw hs⟩
theorem i5{tg e:Re}{te:TE}{g:TG}(he:QE X e te)(hg:QG X tg g)(hs:Wi [tg] e pos.line X.env=Sq false:=by rfl)(hw:Wj [tg] e X.env=Sq none:=by rfl)(h1:(SH [tg] X.env).map (·.2)=[Vj tg X.env]:=by rfl):QS X (.Assign [tg] e pos) (pM te g):=⟨Hv he.p hg.p hs hw h1⟩
theorem Hh{i:Nat}{x:QX}{e:Re}{te:TE}{op:Zv}{ti:J1}{pos':Uf}(hN:X.N.Nodup)(hi:X.N[i]?=some x)(hx:yA X.env.scope x)(he:QE X e te)(ho:Ng X op ti)(hf:X.fn x=true∨X.env.scope.names.lookup x=some .local:=by first|exact .inl Z|exact .inr Z|assumption):QS X (.AugAssign (.Name x pos') op e pos) (Km i te ti):=⟨Hu hN hi hx he.p ho hf⟩
theorem cA(hc:QT X c tc)(ha:dM X a t)(hb:dM X b u):QS X (.If c a b pos) (Kj tc t u):=⟨KO hc.p ha.p hb.p⟩
theorem jt(hp:Ra (QK X.prog X.w) X.A X.env X.xe)(hc:QT X c tc)(hb:dM X body tb):QS X (.While c body [] pos) (yU tc tb):=⟨A0 hp hc.p hb.p⟩
theorem bT{iter:Re}{body:List Stmt}{wi:TI}{g:TG}{tb:TS}{pos:Uf}(hp:Ra (QK X.prog X.w) X.A X.env X.xe)(hc:X.calm=true)(hi:QI X tg iter wi)(hg:QG X tg g)(hb:dM X body tb)(hs:∀x,Sm iter X.env x=Sq x:=by intro _;rfl):QS X (.For tg iter body [] pos) (Kk wi g tb):=⟨Hs hp hc hi.p hg.p hb.p hs⟩
theorem aL(he:QE X e te):QS X (.Return (some e) pos) (Kf te):=⟨Hq he.p⟩
theorem bS(he:QE X e te)(hs:S9 e none pos.line X.env=Sq false:=by rfl):QS X (.Expr e pos) (Fz te):=⟨DX he.p hs⟩
theorem rO   : QS X (.Continue pos) FD:=⟨rS ⟩
theorem jv{st:Stmt}  : QS X st yW:=⟨A2 ⟩
theorem bB   : dM X [] Fx:=⟨DU ⟩
theorem av{st:Stmt}(h1:QS X st t):dM X [st] t:=⟨DT h1.p⟩
theorem AL{st:Stmt}{c6:List Stmt}(h1:QS X st t)(h2:dM X c6 u):dM X (st::c6) (Gp t u):=⟨AZ h1.p h2.p⟩
theorem cI{a:Re}{ta:TA}{p pos:Uf}(hg:Gl X "range")(hm:X.mg "range"=none)(ha:QA X [a] ta)(hs:Qs [a] X.env=[(false,eval a X.env)]:=by rfl):QI X tg (.Call (.Name "range" p) [a] [] pos) (F4 ta):=⟨xH hg hm ha.p hs⟩
theorem cS(hl:QE X l tl):QI X tg l (B5 X.K tl):=⟨Ea hl.p⟩
theorem dZ(hl:QE X l tl):QI X tg l (ER X.K tl):=⟨A6 hl.p⟩
theorem aD{i:Nat}{x:QX}(hN:X.N.Nodup)(hi:X.N[i]?=some x)(hx:yA X.env.scope x)(hf:X.fn x=true∨X.env.scope.names.lookup x=some .local:=by first|exact .inl Z|exact .inr Z|assumption):QG X (.Name x pos) (jL i):=⟨Ee hN hi hx hf⟩
theorem gO{es:List Re}{k:Nat}{t:yy}{n:Nat}(hc:X.calm=true)(h:LJ X es t)(hn:(SH es X.env).length=n:=by rfl)(hst:(SH es X.env).findIdx? (·.1)=none:=by rfl):QG X (.Tuple es k pos) (EU X.K n t):=⟨Ba hc h.p hn hst⟩
theorem kq{o i:Re}{to ti:TE}{t:CS}(ho:QE X o to)(hi:QE X i ti)(hs:JH X t) (ha:∀v,Vj (.Subscript o i pos) X.env v=(do
   let ov ←holding [v] (eval o X.env);let iv ←holding [v,ov] (eval i X.env)
   WN pos
   holding [v,ov,iv] (ZZ ov iv v)
   release [v,ov,iv] []):=by intro _;rfl):QG X (.Subscript o i pos) (Lp to ti t):=⟨Hx ho.p hi.p hs ha⟩
theorem cX   : LJ X [] Lq:=⟨Ec ⟩
theorem aY{e:Re}{es:List Re}{t:TG}{u:yy}(h1:QG X e t)(h2:LJ X es u)(hs:(SH (e::es) X.env).map (·.2)=Vj e X.env::(SH es X.env).map (·.2):=by rfl):LJ X (e::es) (F6 t u):=⟨A9 h1.p h2.p hs⟩
end
structure J2(X:Cx)(ifs:List Re)(t:TT):Prop where
 p:Ge X ifs t
section
set_option autoImplicit true
set_option relaxedAutoImplicit true
theorem cR:J2 X [] Kd:=⟨DR ⟩
theorem fB(h:QT X c t):J2 X [c] t:=⟨DQ h.p⟩
theorem bX(hc:X.calm=true)(hi:QI X tg iter wi)(hg:∀C fp pins s H,QG (kG X N' scope cl C fp pins s H) tg g)(ht:∀C fp pins s H,J2 (kG X N' scope cl C fp pins s H) ifs tt)(he:∀C fp pins s H,QE (kG X N' scope cl C fp pins s H) elt te)(hfree:cN X scope cl N' src)(hclos:Vl scope X.env=Sq cl)(hcell:∀x∈scope.names,x.2≠.cell)(hkind:scope.kind=.function)(hnames:∀x∈scope.names,x.2=.local->scope.names.lookup x.1=some .local)(hcl:fG X scope cl)(hs:∀x,Sm iter X.env x=Sq x:=by intro _;rfl):QE X (.ListComp elt [⟨tg,iter,ifs,0⟩] scope pos) (jj wi src g tt te):=⟨Be hc hi.p (λz0 z1 z2 z3 z4=>(hg z0 z1 z2 z3 z4).p) (λz0 z1 z2 z3 z4=>(ht z0 z1 z2 z3 z4).p) (λz0 z1 z2 z3 z4=>(he z0 z1 z2 z3 z4).p) hfree hclos hcell hkind hnames hcl hs⟩
theorem ju{i:Nat}{x:QX}{pos' pos2:Uf}(hN:X.N.Nodup)(hi':X.N[i]?=some x)(hx:yA X.env.scope x)(hc:X.calm=true)(hi:QI X tg iter wi)(hg:∀C fp pins s H,QG (kG X N' scope cl C fp pins s H) tg g)(ht:∀C fp pins s H,J2 (kG X N' scope cl C fp pins s H) ifs tt)(he:∀C fp pins s H,QE (kG X N' scope cl C fp pins s H) elt te)(hfree:cN X scope cl N' src)(hclos:Vl scope X.env=Sq cl)(hcell:∀x∈scope.names,x.2≠.cell)(hkind:scope.kind=.function)(hnames:∀x∈scope.names,x.2=.local->scope.names.lookup x.1=some .local)(hcl:fG X scope cl)(hs:∀x,Sm iter X.env x=Sq x:=by intro _;rfl)(hsw:S9 (.ListComp elt [⟨tg,iter,ifs,0⟩] scope pos) (some (.Name x pos')) pos2.line X.env=Sq true:=by rfl)(hf:X.fn x=true∨X.env.scope.names.lookup x=some .local:=by first|exact .inl Z|exact .inr Z|assumption):QS X (.Assign [.Name x pos'] (.ListComp elt [⟨tg,iter,ifs,0⟩] scope pos) pos2) (pM (jj wi src g tt te) (jL i)):=⟨DV hN hi' hx hc hi.p (λz0 z1 z2 z3 z4=>(hg z0 z1 z2 z3 z4).p) (λz0 z1 z2 z3 z4=>(ht z0 z1 z2 z3 z4).p) (λz0 z1 z2 z3 z4=>(he z0 z1 z2 z3 z4).p) hfree hclos hcell hkind hnames hcl hs hsw hf⟩
end
section
variable {X:Cx}{K:P4}
theorem Ed{es:List Re}{k:Nat}{t:yy}{n:Nat}{pos:Uf}(hK:X.K=K)(hc:X.calm=true)(h:J3 X es t)
  (hn:(SH es X.env).length=n:=by rfl) (hst:(SH es X.env).findIdx? (·.1)=none:=by rfl):PG X (.Tuple es k pos) (EU K n t):=hK▸Ba hc h hn hst
theorem D9(hK:X.K=K)(hl:PE X l tl):PI X tg l (ER K tl):=hK▸A6 hl
theorem bO(hK:X.K=K):JK X (He K):=hK▸aB
theorem dA(hK:X.K=K):JK X (Hf K):=hK▸cc
def OY(K:P4):List V->Hp->VK->Prop:=λxs H Q=>∃p ys,xs=[.ref p]/\(aX K H p ys∨bF K H p ys)/\Q (.int ys.length) H
end
theorem bz:Qs (.BinOp a op b pos:: es) env=(false,eval (.BinOp a op b pos) env):: Qs es env:=Z
section
variable {es:List Re}{env:Zq}
theorem dm{a b c}:Qs (.Tuple a b c::es) env=(false,eval (.Tuple a b c) env)::Qs es env:=Z
theorem zh{a b}:Qs (.List a b::es) env=(false,eval (.List a b) env)::Qs es env:=Z
theorem aF{a b c}:Qs (.Subscript a b c::es) env=(false,eval (.Subscript a b c) env)::Qs es env:=Z
theorem ba{a b c d}:Qs (.Call a b c d::es) env=(false,eval (.Call a b c d) env)::Qs es env:=Z
theorem af{a b}:Qs (.Name a b::es) env=(false,eval (.Name a b) env)::Qs es env:=Z
theorem aP{a b c}:Qs (.Constant a b c::es) env=(false,eval (.Constant a b c) env)::Qs es env:=Z
theorem vh{a b c}:Qs (.UnaryOp a b c::es) env=(false,eval (.UnaryOp a b c) env)::Qs es env:=Z
theorem gl{a b c}:Qs (.Attribute a b c::es) env=(false,eval (.Attribute a b c) env)::Qs es env:=Z
theorem dB{a b c d}:Qs (.ListComp a b c d::es) env=(false,eval (.ListComp a b c d) env)::Qs es env:=Z
theorem Dj{a b c d}:Qs (.IfExp a b c d::es) env=(false,eval (.IfExp a b c d) env)::Qs es env:=Z
end
inductive b8{α:Type}(P:V->α->Prop):List V->List α->Prop where
 |nil:b8 P [] []
 |cons {x:V} {d:α} {xs:List V} {ds:List α} (h:P x d) (t:b8 P xs ds):b8 P (x::xs) (d::ds)
theorem b8.len{α:Type}{P:V->α->Prop}:∀{xs:List V} {ds:List α},b8 P xs ds->xs.length=ds.length
 |_,_,.nil=>rfl
 |_,_,.cons _ t=>congrArg (·+1) t.len
theorem b8.mono{α:Type}{P P':V->α->Prop}(m:∀v d,P v d->P' v d):∀{xs:List V} {ds:List α},b8 P xs ds->b8 P' xs ds
 |_,_,.nil=>.nil
 |_,_,.cons h t=>.cons (m _ _ h) (t.mono m)
theorem b8.snoc{α:Type}{P:V->α->Prop}{x:V}{d:α}(k:P x d):∀{xs:List V} {ds:List α},b8 P xs ds->b8 P (xs++[x]) (ds++[d])
 |_,_,.nil=>.cons k .nil
 |_,_,.cons h t=>.cons h (t.snoc k)
theorem b8.at{α:Type}{P:V->α->Prop}:∀{xs:List V} {ds:List α},b8 P xs ds->∀{i:Nat} {x:V},xs[i]?=some x->∃d,ds[i]?=some d/\P x d
 |_,_,.cons h _,0,x,e=>by
  rw[UW] at e
  cases e
  exact⟨_,Z,h⟩
 |_,_,.cons _ t,i+1,x,e=>t.at (i:=i) (by rw[UX] at e;exact e)
 |_,_,.nil,_,_,e=>by cases e
theorem b8.deep{α:Type}{K:P4}{H:Hp}{P:V->α->Prop}{f:α->PyData}(m:∀v d,P v d->bD K H v (f d)):∀{xs:List V} {ds:List α},b8 P xs ds->bu K H xs (ds.map f)
 |_,_,.nil=>.nil
 |_,_,.cons h t=>.cons (m _ _ h) (t.deep m)
section
set_option autoImplicit true
set_option relaxedAutoImplicit true
theorem Hi(hl:QE X l tl):QI X tg l (Lh X.K tl):=⟨Hw hl.p⟩
theorem ir{K:P4}{es:List Re}{k:Nat}{t:yy}{n:Nat}{pos:Uf}(hK:X.K=K)(hc:X.calm=true)(h:LJ X es t)(hn:(SH es X.env).length=n:=by rfl)(hst:(SH es X.env).findIdx? (·.1)=none:=by rfl):QG X (.Tuple es k pos) (EU K n t):=⟨Ed hK hc h.p hn hst⟩
theorem DM{K:P4}{l tg:Re}{tl:TE}(hK:X.K=K)(hl:QE X l tl):QI X tg l (ER K tl):=⟨D9 hK hl.p⟩
end
def MH(K:P4):R2:=λx y H Q=>∃d d',bD K H x d/\bD K H y d'/\d.canLay0=true/\d'.canLay0=true/\d.depth≤32/\Q (.bl (RQ d d')) H
theorem Ie(hr:c9 k X.A):gH X (RL .Eq) (MH X.K):=by
 intro pins s σ H x y v u Q I rx ry h;obtain⟨d,d',hd,hd',c,c',dp,q⟩:=h;obtain⟨as,ra⟩:=bD.reads I hd rx;obtain⟨bs,rb⟩:=bD.reads I hd' ry;exact SeqAt.compareEq_reads ra rb c c' (by have:=hr.units;omega) ⟨.bl _,H,I,Z,q⟩
theorem jP:RQ (dR r) (dR q)=decide (r=q):=by
 by_cases h:r=q
 ·rw[Q9 h,h];exact Cj q
 ·rw[Sy h]
  cases c:RQ (dR r) (dR q) with
  |false=>rfl
  |true=>exact aad (Jm c) h
def KL(K:P4):List V->Hp->VK->Prop:=λxs H Q=>∃a ys n b,xs=[.ref a,.ty n]/\bF K H a ys/\kW "tuple" n=some b/\Q (.bl b) H
theorem yo:dN X (.builtin "isinstance") (KL X.K):=by
 intro pins s σ H xs us Q I r h;obtain⟨a,ys,n,b,rfl,hS,e,q⟩:=h;obtain⟨u,u2,rfl,rx,ry⟩:=yM r;obtain rfl:u2=TY n:=ry
 cases(show u=QQ a from rx)
 obtain⟨its,_,⟨o,h1,h2,_⟩,_⟩:=I.tuple hS;exact RO X8 I.kIn ⟨o,h1,h2⟩ (uB e) (λz=>nomatch z) λtk=>⟨.bl b,H,I.tok tk,Z,q⟩
section
set_option autoImplicit true
set_option relaxedAutoImplicit true
theorem vz(hex:X.ex=[])(ha:QE X o ta)(hv:QE X value tv)(hs:S9 value (some (.Attribute o f pos')) pos.line X.env=Sq false):QS X (.Assign [.Attribute o f pos'] value pos) (FO X.K ta tv f):=⟨DW hex ha.p hv.p hs⟩
theorem ko{x:QX}{p cpos pos:Uf}{e:Re}{es:List Re}{t:TA}{E:XK}(M:XC X.K C f bm)(hbase:bm.contains (.type "BaseException")=true)(hex:X.ex=[])(tk:uV X E)(F:bC X.prog X.w X.K X.mg X.base dU k f fd ps sp)(hr:c9 (k+1) X.A)(hb:aN X.K fd ps [])(hg:Gl X x)(hm:X.mg x=some (.ref C))(ha:QA X (e::es) t)(hdb:(x==("__debug__" : QX))=false:=by decide)(he:Qs (e::es) X.env=(false,eval e X.env)::Qs es X.env:=by rfl)(hpl:(Tb cpos (Qs es X.env)).any (·.1)=false:=by rfl):QS X (.Raise (some (.Call (.Name x p) (e::es) [] cpos)) none pos) (vc C sp E t):=⟨xC M hbase hex tk F hr hb hg hm ha.p hdb he hpl⟩
end
end B
namespace L2
open PySem PySem.Spec PyProof.Rows
section
variable {κ:Type} [DecidableEq κ]
def iR(kvs:List (κ×V))(k:κ):Option V:=(kvs.find? λkv=>decide (kv.1=k)).map (·.2)
def dD(kvs:List (κ×V))(k:κ)(v:V):List (κ×V):=
 if(kvs.any λkv=>decide (kv.1=k))=true then kvs.map (λkv=>if kv.1=k then(kv.1,v) else kv) else kvs++[(k,v)]
def Oc(kvs:List (κ×V))(k:κ):List (κ×V):=kvs.filter λkv=>decide (kv.1≠k)
theorem ji{k:κ}:iR ([]:List (κ×V)) k=none:=Z
theorem eZ{p:κ×V}{r:List (κ×V)}{k:κ}(e:p.1=k):iR (p::r) k=some p.2:=by simp[iR,Uc,e]
theorem cm{p:κ×V}{r:List (κ×V)}{k:κ}(e:¬p.1=k):iR (p::r) k=iR r k:=by simp[iR,Uc,e]
theorem l5(k:κ):∀kvs:List (κ×V),(kvs.any λkv=>decide (kv.1=k))=(iR kvs k).isSome
 | []=>rfl
 |p::r=>by
  rw[S1];by_cases e:p.1=k
  ·simp only[eZ e,Q9 e,Bool.true_or,US]
  ·rw[cm e,Sy e,Wp];exact l5 k r
theorem hJ(kvs:List (κ×V))(k:κ)(v:V):(dD kvs k v).length≤kvs.length+1:=by
 unfold dD
 split
 ·rw[P8];omega
 ·rw[QC,Q2,Xj];omega
theorem jy{kvs:List (κ×V)}{k:κ}(v:V)(h:iR kvs k=none):dD kvs k v=kvs++[(k,v)]:=by
 unfold dD;rw[l5,h];exact aaa (by decide)
theorem fE.isSome_eq(r:fE o u):o.isSome=u.isSome:=by
 cases o with
 |none=>cases u with
  |none=>rfl
  |some _=>exact(show False from r).elim
 |some _=>cases u with
  |none=>exact(show False from r).elim
  |some _=>rfl
theorem fE.getD(r:fE o u)(rd:RelV d d'):RelV (o.getD d) (u.getD d'):=by
 cases o with
 |none=>cases u with
  |none=>exact rd
  |some _=>exact(show False from r).elim
 |some _=>cases u with
  |none=>exact(show False from r).elim
  |some _=>exact r
theorem KV.val{kvs:List (κ×V)}{vs:List (κ×Value)}(r:KV kvs vs)(k:κ):fE (iR kvs k) (XM vs k):=by
 unfold KV at r
 induction r with
 |nil=>exact SV
 | @cons p q ps qs h t ih=>
  obtain⟨h1,h2⟩:=h;by_cases e:p.1=k
  ·have e':q.1=k:=h1.symm.trans e;have b:XM (q::qs) k=some q.2:=by simp[XM,Uc,e']
   rw[eZ e,b];exact h2
  ·have e':¬q.1=k:=λz=>e (h1.trans z)
   have b:XM (q::qs) k=XM qs k:=by simp[XM,Uc,e']
   rw[cm e,b];exact ih
theorem KV.any{kvs:List (κ×V)}{vs:List (κ×Value)}(r:KV kvs vs)(k:κ):(kvs.any λkv=>decide (kv.1=k))=vs.any λkv=>decide (kv.1=k):=by
 unfold KV at r
 induction r with
 |nil=>rfl
 |cons h t ih=>rw[S1,S1,ih,h.1]
theorem KV.repl{kvs:List (κ×V)}{vs:List (κ×Value)}(r:KV kvs vs)(k:κ){y:V}{u:Value}(ry:RelV y u) :
  KV (kvs.map λkv=>if kv.1=k then(kv.1,y) else kv) (vs.map λkv=>if kv.1=k then(kv.1,u) else kv):=by
 unfold KV at r ⊢
 induction r with
 |nil=>exact .nil
 | @cons p q ps qs h t ih=>
  rw[Q1,Q1];refine .cons ?_ ih;obtain⟨h1,h2⟩:=h;by_cases e:p.1=k
  ·rw[Z9 e,Z9 (h1.symm.trans e)];exact⟨h1,ry⟩
  ·rw[aaa e,aaa (λz=>e (h1.trans z))];exact⟨h1,h2⟩
theorem KV.put{kvs:List (κ×V)}{vs:List (κ×Value)}(r:KV kvs vs)(k:κ){y:V}{u:Value}(ry:RelV y u):KV (dD kvs k y) (stored vs k u):=by
 unfold dD stored;rw[r.any k];by_cases e:(vs.any λkv=>decide (kv.1=k))=true
 ·rw[Z9 e,Z9 e];exact r.repl k ry
 ·rw[aaa e,aaa e];exact Paired.snoc r ⟨Z,ry⟩
theorem KV.length{kvs:List (κ×V)}{vs:List (κ×Value)}(r:KV kvs vs):kvs.length=vs.length:=Paired.length r
end
theorem se(r:RelV (kV k) u):(ca P w).is k u=true:=by
 cases k with
 |inl i=>obtain⟨t,e⟩:=(show ∃t,u=R1 i t from r);subst e;exact rY P w i t
 |inr x=>obtain⟨t,e⟩:=(show ∃t,u=VM x t from r);subst e;exact rX P w x t
theorem oR{P:Q4}{w:Rm}:∀{ks:List cM} {us:List Value},bo (ks.map kV) us->ItemsAre (ca P w) ks us
 | [],_,r=>by rw[WZ] at r;cases r;exact .nil
 |k::ks,_,r=>by
  rw[Q1] at r
  cases r with
  |cons h t=>exact .cons (se h) (oR t)
abbrev KT(H:Hp):List (List cM×V)->List (List cM×Addr×Value)->Prop:=Paired λp q=>p.1=q.1/\H q.2.1=some (.tup (p.1.map kV))/\RelV p.2 q.2.2
theorem KT.val(r:KT H kvs xs)(k:List cM):fE (iR kvs k) ((Zb xs k).map (·.2)):=by
 induction r with
 |nil=>exact SV
 | @cons p q ps qs h t ih=>
  obtain⟨h1,_,h2⟩:=h;by_cases e:p.1=k
  ·have e':q.1=k:=h1.symm.trans e;have b:Zb (q::qs) k=some q.2:=by simp[Zb,Uc,e']
   rw[eZ e,b];exact h2
  ·have e':¬q.1=k:=λz=>e (h1.trans z)
   have b:Zb (q::qs) k=Zb qs k:=by simp[Zb,Uc,e']
   rw[cm e,b];exact ih
theorem KT.repl(r:KT H kvs xs)(k:List cM)(ry:RelV y u):
  KT H (kvs.map λkv=>if kv.1=k then(kv.1,y) else kv) (xs.map (putAt k u)):=by
 induction r with
 |nil=>exact .nil
 | @cons p q ps qs h t ih=>
  rw[Q1,Q1];refine .cons ?_ ih;obtain⟨h1,h2,h3⟩:=h;unfold putAt;by_cases e:p.1=k
  ·rw[Z9 e,Z9 (h1.symm.trans e)];exact⟨h1,h2,ry⟩
  ·rw[aaa e,aaa (λz=>e (h1.trans z))];exact⟨h1,h2,h3⟩
theorem KT.put(r:KT H kvs xs)(k:List cM)(hb:H b=some (.tup (k.map kV)))(ry:RelV y u):
  KT H (dD kvs k y) (storedH xs k b u):=by
 have e:(kvs.any λkv=>decide (kv.1=k))=(Zb xs k).isSome:=by
  rw[l5,(r.val k).isSome_eq,Option.isSome_map]
 unfold dD storedH;rw[e];by_cases q:(Zb xs k).isSome=true
 ·rw[Z9 q,Z9 q];exact r.repl k ry
 ·rw[aaa q,aaa q];exact Paired.snoc r ⟨Z,hb,ry⟩
theorem KT.keeps(r:KT H kvs xs)(ht:∀b ys,H b=some (.tup ys)->H' b=some (.tup ys)):KT H' kvs xs:=
 Paired.mapP r λ_ _ z=>⟨z.1,ht _ _ z.2.1,z.2.2⟩
section
variable {P:Q4}{w:Rm}{H:Hp}{h:Qo}{a:Addr}
theorem FQ(ok:iO P w H h)(e:Rd H a u):ObjOk P w H h a u:=e.ok ok
theorem sK(ok:iO P w H h)(e:Rd H a (.dK kvs)):kvs.length≤sizeLine/\(a==TZ)=false/\∃vs,KV kvs vs/\h.DictOf (ca P w) a vs:=
 show ObjOk P w H h a (.dK kvs) from FQ ok e
theorem Cq(ok:iO P w H h)(e:H a=some (.dK kvs)):kvs.length≤sizeLine/\(a==TZ)=false/\∃vs,KV kvs vs/\h.DictOf (ca P w) a vs:=sK ok (.inl e)
theorem qx(ok:iO P w H h)(e:H a=some (.tup (ks.map kV))):(Ws (ca P w)).is h ks a:=by
 obtain⟨_,its,r,o,h1,h2,n,h3⟩:=(show ObjOk P w H h a (.tup (ks.map kV)) from ok a _ e);exact⟨o,its.toArray,n,h1,h2,h3,by simpa using oR r⟩
theorem sE(ok:iO P w H h)(e:Rd H a (.dT kvs)):kvs.length≤sizeLine/\(a==TZ)=false∧
  ∃xs,KT H kvs xs/\h.DictOfH (Ws (ca P w)) a xs:=by
 obtain⟨z,y,xs,r,o,es,ep,h1,h2,h3,h4,h5⟩:=(show ObjOk P w H h a (.dT kvs) from FQ ok e);refine⟨z,y,xs,r,o,es,ep,h1,h2,h3,h4,λx hx=>?_,h5⟩;have all:∀{l:List (List cM×V)} {m:List (List cM×Addr×Value)},KT H l m->∀x∈m,(Ws (ca P w)).is h x.1 x.2.1:=by
  intro l m q
  induction q with
  |nil=>intro x hx;exact nomatch hx
  | @cons p q ps qs hq t ih=>
   intro x hx;rcases Qm.mp hx with e|hx
   ·subst e;exact qx ok (by rw[←hq.1];exact hq.2.1)
   ·exact ih x hx
 exact all r x hx
theorem Lv(ok:iO P w H h)(e:H a=some (.dT kvs)):kvs.length≤sizeLine/\(a==TZ)=false∧
  ∃xs,KT H kvs xs/\h.DictOfH (Ws (ca P w)) a xs:=sE ok (.inl e)
end
def gg(H:Hp)(a:Addr)(y:V)(r:Option V):Prop:=
 (∃kvs k,Rd H a (.dK kvs)/\y=kV k/\r=iR kvs k)∨∃kvs k b,Rd H a (.dT kvs)/\y=.ref b/\H b=some (.tup (k.map kV))/\r=iR kvs k
def qK(H:Hp)(a:Addr)(y v:V)(H':Hp):Prop:=
 (∃kvs k,H a=some (.dK kvs)/\y=kV k/\kvs.length<sizeLine/\H'=upd H a (.dK (dD kvs k v)))∨
 ∃kvs k b,H a=some (.dT kvs)/\y=.ref b/\H b=some (.tup (k.map kV))/\kvs.length<sizeLine/\H'=upd H a (.dT (dD kvs k v))
theorem gg.k{H:Hp}{a:Addr}{kvs:List (cM×V)}{k:cM}(e:H a=some (.dK kvs)):gg H a (kV k) (iR kvs k):=.inl ⟨kvs,k,.inl e,Z,Z⟩
theorem qK.k{H:Hp}{a:Addr}{kvs:List (cM×V)}{k:cM}{v:V}(e:H a=some (.dK kvs))(hl:kvs.length<sizeLine):qK H a (kV k) v (upd H a (.dK (dD kvs k v))):=.inl ⟨kvs,k,e,Z,hl,Z⟩
section
variable {X:Cx}{pins:List (Addr×R9)}{σ:St}{H:Hp}{s:Qc}{a:Addr}{y v:V}{u r:Value}{o:Option V}{A:Rg}{E:Value->Qc->Prop}
theorem Inv.big(I:Inv X pins σ H s):TZ<s.heap.objs.size:=by
 have h:QZ<s.heap.objs.size:=(I.mod.glob.keeps I.bk).lt;exact Yw (by decide) h
theorem yh(hu:A.units+1<cLine)(I:Inv X pins σ H s)(g:gg H a y (some v))(ry:RelV y u)(h:∀w' s',Inv X pins σ H s'->RelV v w'->Q w' s'):
  Qw (QK X.prog X.w) A (UZ (.ref a) u) Q E s:=by
 rcases g with⟨kvs,k,e,ey,l⟩ | ⟨kvs,k,b,e,ey,eb,l⟩
 ·subst ey;obtain⟨z,hd,vs,rel,dd⟩:=sK I.hok e;obtain⟨w',hw,rw'⟩:=fE.some_of (v:=v) (o:=XM vs k) (by rw[l];exact rel.val k);exact wpAny_getItem_of (se ry) dd.mapOf hw (h w' _ (I.tok _) rw')
 ·subst ey
  cases(show u=QQ b from ry)
  obtain⟨z,hd,xs,rel,dd⟩:=sE I.hok e;obtain⟨w',hw,rw'⟩:=fE.some_of (v:=v) (o:=(Zb xs k).map (·.2)) (by rw[l];exact rel.val k);obtain⟨p,hp,hp2⟩:=Ro.mp hw;refine wpAny_getItem_heap (V3 hu) (qx I.hok eb) dd hp ?_;rw[hp2];exact h w' _ (I.tok _) rw'
theorem lT(I:Inv X pins σ H s)(mu:LL (H a))(hs:T6 a s.heap h')(he:∃q,h'.get? a=some q)(new:ObjOk X.prog X.w (upd H a ob) h' a ob):
  Inv X pins σ (upd H a ob) { s with heap:=h',toks:=t'}:=
 I.write (x:=a) (e:=a) mu (.inl Z) (λb q hb z=>(hs.2 b hb).trans z) he new
theorem Cr(z:kvs.length≤sizeLine)(hd:(a==TZ)=false)(rel:KV kvs vs)(dd:h'.DictOf (ca P w) a vs):
  ObjOk P w H' h' a (.dK kvs):=⟨z,hd,vs,rel,dd⟩
theorem yg(hu:A.units+1<cLine)(I:Inv X pins σ H s)(g:qK H a y v H')(ry:RelV y u)(rv:RelV v r)(h:∀s',Inv X pins σ H' s'->Q () s'):
  Qw (QK X.prog X.w) A (ZZ (.ref a) u r) Q E s:=by
 rcases g with⟨kvs,k,e,ey,l,eH⟩ | ⟨kvs,k,b,e,ey,eb,l,eH⟩
 ·subst ey eH;obtain⟨z,hd,vs,rel,dd⟩:=Cq I.hok e;have hz:vs.length≤sizeLine:=by rw[←rel.length];exact z
  have hl:(dD kvs k v).length≤sizeLine:=by have:=hJ kvs k v;omega
  refine wpAny_setItem_pairs (hsz:=hz) (se ry) dd λh' dd' hs=>h _ ?_
  have he:∃q,h'.get? a=some q:=let ⟨q,_,_,hq,_⟩:=dd';⟨q,hq⟩;exact lT I (by rw[e];exact SV) hs he (Cr hl hd (rel.put k rv) dd')
 ·subst ey eH
  cases(show u=QQ b from ry)
  obtain⟨z,hd,xs,rel,dd⟩:=Lv I.hok e;have hz:xs.length≤sizeLine:=by rw[←Paired.length rel];exact z
  have hl:(dD kvs k v).length≤sizeLine:=by have:=hJ kvs k v;omega
  refine wpAny_setItem_heap (hsz:=hz) (V3 hu) (qx I.hok eb) dd λh' dd' hs=>h _ ?_
  obtain⟨q,es,ep,hq,h2,h3,h4,_,h5⟩:=dd';refine lT I (by rw[e];exact SV) hs ⟨q,hq⟩ ⟨hl,hd,_,(rel.put k eb rv).keeps λc ys ec=>?_,q,es,ep,hq,h2,h3,h4,h5⟩;rw[ao (La ec e (λz=>nomatch z))];exact ec
end
section
variable {X:Cx}{pins:List (Addr×R9)}{σ:St}{H:Hp}{s:Qc}{a:Addr}{kvs:List (cM×V)}{k:cM}{u:Value}{A:Rg}{E:Value->Qc->Prop}
end
def JJ(i:Re):Prop:=∀ov iv,Wb i false ov iv=Z2 [ov,iv] (UZ ov iv)
theorem Di{prog:Q4}{w:Rm}{A:Rg}{E:Value->Qc->Prop}{s:Qc}{env:Zq}{value slice:Re}{pos:Uf}{T id:String}{Q:Value->Qc->Prop}
  (hl:ZC (.type T) "__getitem__"=Sq (some (.builtin id))) (hs:JJ slice)
  (h:Qw (QK prog w) A (eval value env) (λo s₁=>Qw (QK prog w) A (eval slice env) (λi s₂=>s₂.TypeIs o T/\Qw (QK prog w) A (UZ o i) Q E s₂) E s₁) E s) :
  Qw (QK prog w) A (eval (.Subscript value slice pos) env) Q E s:=by
 refine ZD (Sd h (λo s₁ h₁=>Sd h₁ (λi s₂ h₂=>?_) λ_ _ x=>x) λ_ _ x=>x);obtain⟨hT,h₂⟩:=h₂;unfold XV;refine P9 ?_;rw[getitemInPython_of_ne hT.not_modules];refine P9 (wpAny_specialOf hT hl ?_);have fin:Qw (QK prog w) A (Wb slice false o i) (λr s₃=>Qw (QK prog w) A (letTemporaryGo value o r >>= λ_=>Sq r) Q E s₃) E s₂:=by
  rw[hs o i];exact wpAny_operating (Sd h₂ (λr s₃ h₃=>P9 (wpAny_letTemporaryGo (wpAny_pure h₃))) λ_ _ x=>x)
 first
  |exact wpAny_pure (P9 fin)
  |exact P9 (wpAny_pure (P9 fin))
  |exact P9 fin
theorem sM{X:Cx}{pins:List (Addr×R9)}{σ:St}{H:Hp}{s:Qc}{a:Addr}{y:V}{o:Option V}(I:Inv X pins σ H s)(g:gg H a y o):s.TypeIs (.ref a) "dict" := by
 rcases g with⟨kvs,k,e,_,_⟩ | ⟨kvs,k,b,e,_,_,_⟩
 ·obtain⟨_,_,vs,_,dd⟩:=sK I.hok e;exact dd.typeIs
 ·obtain⟨_,_,xs,_,dd⟩:=sE I.hok e;exact dd.typeIs
def FC(td ty:TE):TE:=λσ H Q=>td σ H λx H1=>ty σ H1 λy H2=>∃a v,x=.ref a/\gg H2 a y (some v)/\Q v H2
def OJ(ty td:TE):TE:=λσ H Q=>ty σ H λy H1=>td σ H1 λx H2=>∃a o,x=.ref a/\gg H2 a y o/\Q (.bl o.isSome) H2
def LU(ty td:TE):TE:=λσ H Q=>ty σ H λy H1=>td σ H1 λx H2=>∃a o,x=.ref a/\gg H2 a y o/\Q (.bl (!o.isSome)) H2
def FP(td ty tv:TE):TS:=λD σ H=>tv σ H λv H1=>td σ H1 λx H2=>ty σ H2 λy H3=>∃a H4,x=.ref a/\qK H3 a y v H4/\D.nx σ H4
def NK(td ty tv:TE)(rd:V->V->Hp->VK->Prop):TS:=λD σ H=>td σ H λx H1=>ty σ H1 λy H2=>∃a v,x=.ref a/\gg H2 a y (some v)∧
 tv σ H2 λy2 H3=>rd v y2 H3 λz H4=>∃H5,qK H4 a y z H5/\D.nx σ H5
section
variable {X:Cx}{o i e value:Re}{pos pos' tpos:Uf}{td ty tv:TE}
theorem Ej(hu:X.A.units+1<cLine)(ho:PE X o td)(hi:PE X i ty)(hs:JJ i):PE X (.Subscript o i pos) (FC td ty):=by
 intro pins s σ H Q I h;refine Di PySem.F.slot_dict_getitem.lookup hs (bZ (ho pins s σ H _ I h) λu s1 ⟨x,H1,I1,rx,q1⟩=>bZ (hi pins s1 σ H1 _ I1 q1) λiv s2 ⟨y,H2,I2,ry,a,v,ex,g,q2⟩=>?_);subst ex;obtain rfl:u=QQ a:=rx;exact⟨sM I2 g,yh hu I2 g ry λw' s3 I3 rw'=>⟨v,H2,I3,rw',q2⟩⟩
theorem DY(hu:X.A.units+1<cLine)(ho:PE X o td)(hi:PE X i ty)(hv:PE X value tv)(hs:S9 value (some (.Subscript o i pos')) pos.line X.env=Sq false) :
  PS X (.Assign [.Subscript o i pos'] value pos) (FP td ty tv):=by
 intro pins s σ H D I h;refine wpAny_Assign_Subscript (bZ (hv pins s σ H _ I h) λr s1 ⟨v,H1,I1,rv,q1⟩=>bZ (ho pins s1 σ H1 _ I1 q1) λu s2 ⟨x,H2,I2,rx,q2⟩=>bZ (hi pins s2 σ H2 _ I2 q2) λiv s3 ⟨y,H3,I3,ry,a,H4,ex,g,q3⟩=>?_) hs;subst ex;obtain rfl:u=QQ a:=rx;exact yg hu I3 g ry rv λs4 I4=>⟨σ,H4,I4,q3⟩
end
theorem sL(h:Qo)(hb:TZ<h.objs.size):ObjOk P w H (h.push { cls:=.type "dict",data:=.dict #[]}) h.objs.size (.dK []):=
 ⟨Qu _,beq_eq_false_iff_ne.mpr (T5 (Rf hb)),[],.nil,Qo.DictOf.new h⟩
def yX:TE:=λ_ H Q=>∀p,H p=none->Q (.ref p) (upd H p (.dK []))
section
variable {X:Cx}{pos:Uf}
theorem Bg:PE X (.Dict [] [] pos) yX:=λpins s σ H Q I h=>
 wpAny_Dict_empty ⟨.ref s.heap.objs.size,_,I.laid (a:=s.heap.objs.size) (o:=.dK []) (t':=s.toks) (λ_ _ q=>Qb _ q) (P7 _) (sL s.heap I.big),Z,h _ (I.hok.fresh (P7 _))⟩
end
def tX:List (TE×TE)->St->Hp->(List (V×V)->Hp->Prop)->Prop
 | [],_,H,Q=>Q [] H
 | (tk,tv)::r,σ,H,Q=>tk σ H λx H1=>tv σ H1 λy H2=>tX r σ H2 λps H3=>Q ((x,y)::ps) H3
abbrev VV:List (V×V)->List (Value×Value)->Prop:=Paired λp q=>RelV p.1 q.1/\RelV p.2 q.2
def Mh(X:Cx)(pos:Uf)(keys:List (Option Re))(values:List Re)(trs:List (TE×TE)):Prop:=
 ∀(pins:List (Addr×R9)) (s:Qc) (σ:St) (H:Hp) (Q:List (V×V)->Hp->Prop),Inv X pins σ H s->tX trs σ H Q→
  Qw (QK X.prog X.w) X.A (evalPairs (pairTrees keys values X.env pos)) (λvs s'=>∃ps H',Inv X pins σ H' s'/\VV ps vs/\Q ps H') X.xe s
theorem DZ:Mh X pos [] [] []:=λpins s σ H Q I h=>pairTrees_nil_walk ⟨[],H,I,.nil,h⟩
theorem jz(hk:PE X k tk)(hv:PE X v tv)(hr:Mh X pos ks vs trs):
  Mh X pos (some k:: ks) (v:: vs) ((tk,tv):: trs):=λpins s σ H Q I h=>
 pairTrees_cons_walk (bZ (hk pins s σ H _ I h) λu s1 ⟨x,H1,I1,rx,q1⟩=>bZ (hv pins s1 σ H1 _ I1 q1) λw2 s2 ⟨y,H2,I2,ry,q2⟩=>
  bZ (hr pins s2 σ H2 _ I2 q2) λws s3 ⟨ps,H3,I3,rel,q3⟩=>⟨(x,y)::ps,H3,I3,.cons ⟨rx,ry⟩ rel,q3⟩)
def ky(kvs more:List (cM×V)):List (cM×V):=more.foldl (λacc kv=>dD acc kv.1 kv.2) kvs
theorem KV.merge:∀{more:List (cM×V)} {rs:List (cM×Value)} {kvs:List (cM×V)} {vs:List (cM×Value)},KV more rs->KV kvs vs->KV (ky kvs more) (merged vs rs):=by
 intro more rs kvs vs r;unfold KV at r
 induction r generalizing kvs vs with
 |nil=>intro q;exact q
 | @cons p q ps qs h t ih=>
  intro r0;have e:KV (dD kvs p.1 p.2) (stored vs q.1 q.2):=by
   have:=r0.put p.1 h.2;rw[←h.1];exact this
  exact ih e
theorem iM:∀(more kvs:List (cM×V)),(ky kvs more).length≤kvs.length+more.length
 | [],kvs=>by show kvs.length≤kvs.length+0;omega
 |p::r,kvs=>by
  have h1:=iM r (dD kvs p.1 p.2);have h2:=hJ kvs p.1 p.2;show(ky (dD kvs p.1 p.2) r).length≤_;rw[Q2];omega
theorem nO{P:Q4}{w:Rm}:∀{kvs:List (cM×V)} {ws:List (Value×Value)},VV (kvs.map λkv=>(kV kv.1,kv.2)) ws->∃rs,Carries (ca P w) ws rs/\KV kvs rs
 | [],_,r=>by rw[WZ] at r;cases r;exact⟨[],SV,.nil⟩
 |p::kvs,_,r=>by
  rw[Q1] at r
  cases r with
  | @cons a b as bs h t=>
   obtain⟨rs,c,q⟩:=nO (P:=P) (w:=w) t;obtain⟨b1,b2⟩:=b;exact⟨(p.1,b2)::rs,⟨se h.1,Z,c⟩,.cons ⟨Z,h.2⟩ q⟩
def FA(trs:List (TE×TE)):TE:=λσ H Q=>∀p,H p=none->tX trs σ (upd H p (.dK [])) λps H2=>H2 p=some (.dK [])/\∃kvs:List (cM×V),ps=kvs.map (λkv=>(kV kv.1,kv.2))/\kvs.length≤15/\Q (.ref p) (upd H2 p (.dK (ky [] kvs)))
theorem Ei(h:Mh X pos keys values trs)(hall:keys.all (·.isSome)=true)(hl:keys.length=values.length)(h0:keys≠[])
  (h15:keys.length≤15):PE X (.Dict keys values pos) (FA trs):=by
 intro pins s σ H Q I q;have hn:=I.hok.fresh (P7 s.heap.objs.size);have I1:=I.laid (a:=s.heap.objs.size) (o:=.dK []) (h':=s.heap.push { cls:=.type "dict",data:=.dict #[]}) (t':=s.toks) (λ_ _ q=>Qb _ q) (P7 _) (sL s.heap I.big);refine wpAny_Dict_walk (knd:=ca X.prog X.w) hall hl h0 h15 (bZ (h pins _ σ _ _ I1 (q _ hn)) λws s2 ⟨ps,H2,I2,rel,e,kvs,ep,lk,q2⟩=>?_);subst ep;obtain⟨rs,c,rk⟩:=nO (P:=X.prog) (w:=X.w) rel;obtain⟨z,hd,vs0,r0,dd⟩:=Cq I2.hok e
 cases r0
 refine⟨rs,c,dd,λh' dd' hs=>⟨.ref s.heap.objs.size,_,?_,Z,q2⟩⟩;have hz:(ky [] kvs).length≤sizeLine:=by
  have h1:=iM kvs [];rw[Xj] at h1;rw[Sz];omega
 have he:∃q,h'.get? s.heap.objs.size=some q:=let ⟨q,_,_,hq,_⟩:=dd';⟨q,hq⟩;exact lT I2 (by rw[e];exact SV) hs he (Cr hz hd (rk.merge .nil) dd')
structure M1(X:Cx)(o:Re)(m:QX)(apos:Uf)(e:Re)(cpos:Uf):Prop where
 base:Tj o m X.env (eval o X.env)=eval o X.env
 few:((Tb cpos (Qs [e] X.env)).all (λx=>!x.1)&&(Vs cpos (TW [] X.env)).all (λx=>x.1.isSome)
 &&decide (([e]:List Re).length+([]:List VG).length+(if([]:List VG).isEmpty then 0 else 1)<30))=true
 line:(apos.endLine==cpos.line)=true
 trees:Tb cpos (Qs [e] X.env)=[(false,eval e X.env)]
structure M2(X:Cx)(o:Re)(m:QX)(apos:Uf)(e f:Re)(cpos:Uf):Prop where
 base:Tj o m X.env (eval o X.env)=eval o X.env
 few:((Tb cpos (Qs [e,f] X.env)).all (λx=>!x.1)&&(Vs cpos (TW [] X.env)).all (λx=>x.1.isSome)
 &&decide (([e,f]:List Re).length+([]:List VG).length+(if([]:List VG).isEmpty then 0 else 1)<30))=true
 line:(apos.endLine==cpos.line)=true
 trees:Tb cpos (Qs [e,f] X.env)=[(false,eval e X.env),(false,eval f X.env)]
def Nl(H:Hp)(a:Addr):Prop:=(∃kvs,Rd H a (.dK kvs))∨∃kvs,Rd H a (.dT kvs)
theorem B4{X:Cx}{pins:List (Addr×R9)}{σ:St}{H:Hp}{s:Qc}{a:Addr}(I:Inv X pins σ H s)(d:Nl H a) :
  s.TypeIs (.ref a) "dict"/\(∀b,QQ a=.ref b->∃ob,s.heap.get? b=some ob/\ob.dict=none)/\(a==TZ)=false:=by
 rcases d with⟨kvs,e⟩ | ⟨kvs,e⟩
 ·obtain⟨_,hd,vs,_,dd⟩:=sK I.hok e;refine⟨dd.typeIs,λb q=>?_,hd⟩
  cases q
  obtain⟨ob,_,_,h1,h2,_⟩:=dd;exact⟨ob,h1,h2.2.1⟩
 ·obtain⟨_,hd,xs,_,dd⟩:=sE I.hok e;refine⟨dd.typeIs,λb q=>?_,hd⟩
  cases q
  obtain⟨ob,_,_,h1,h2,_⟩:=dd;exact⟨ob,h1,h2.2.1⟩
section
variable {X:Cx}{pins:List (Addr×R9)}{σ:St}{H:Hp}{s:Qc}{a:Addr}{y d:V}{u r:Value}{o:Option V}{A:Rg}{E:Value->Qc->Prop}
theorem Jt(hu:A.units+1<cLine)(I:Inv X pins σ H s)(g:gg H a y o)(ry:RelV y u)(rd:RelV d r)(h:∀w' s',Inv X pins σ H s'->RelV (o.getD d) w'->Q w' s'):
  Qw (QK X.prog X.w) A (call (.builtin "dict.get") [.ref a,u,r]) Q E s:=by
 rcases g with⟨kvs,k,e,ey,l⟩ | ⟨kvs,k,b,e,ey,eb,l⟩
 ·subst ey;obtain⟨z,hd,vs,rel,dd⟩:=sK I.hok e;refine call_meetsIn Vh dd.typeIs Xa (WA _ _ _) (meets_dict_get_default (ca X.prog X.w) a (se ry) hd r) ⟨_,dd.mapOf,h _ _ (I.tok _) ?_⟩;rw[l];exact(rel.val k).getD rd
 ·subst ey
  cases(show u=QQ b from ry)
  obtain⟨z,hd,xs,rel,dd⟩:=sE I.hok e;refine call_meetsIn Vh dd.typeIs Xa (WA _ _ _) (meetsH_dict_get_default (Ws (ca X.prog X.w)) a b hd r) ⟨V3 hu,k,xs,qx I.hok eb,dd,h _ _ (I.tok _) ?_⟩;rw[l];exact(rel.val k).getD rd
end
def Mx(td ty:TE):TE:=λσ H Q=>td σ H λx H1=>∃a,x=.ref a/\Nl H1 a/\ty σ H1 λy H2=>∃o,gg H2 a y o/\Q (o.getD .non) H2
def yY(td ty tx:TE):TE:=λσ H Q=>td σ H λx H1=>∃a,x=.ref a/\Nl H1 a/\ty σ H1 λy H2=>tx σ H2 λz H3=>∃o,gg H3 a y o/\Q (o.getD z) H3
section
variable {X:Cx}{o e f:Re}{apos cpos:Uf}{td ty tx:TE}
theorem Bi(hu:X.A.units+1<cLine)(ho:PE X o td)(he:PE X e ty)(hf:PE X f tx)(m:M2 X o "get" apos e f cpos):PE X (.Call (.Attribute o "get" apos) [e,f] [] cpos) (yY td ty tx):=by
 intro pins s σ H Q I h;refine YA m.base m.few m.line WB Vh PySem.F.type_dict_get (bZ (ho pins s σ H _ I h) λu s1 ⟨x,H1,I1,rx,a,ex,d,q1⟩=>?_);subst ex;obtain rfl:u=QQ a:=rx;obtain⟨t1,t2,_⟩:=B4 I1 d;refine⟨t1,t2,?_⟩;rw[m.trees];refine Calls.callWith_builtin Z (Calls.evalArgs_plain (Calls.spliced_cons (bZ (he pins s1 σ H1 _ I1 q1) λiv s2 ⟨y,H2,I2,ry,q2⟩=>
  Calls.spliced_cons (bZ (hf pins s2 σ H2 _ I2 q2) λfv s3 ⟨z,H3,I3,rz,ov,g,q3⟩=>Calls.spliced_nil ?_))))
 exact Jt hu I3 g ry rz λw' s4 I4 rw'=>⟨_,H3,I4,rw',q3⟩
end
end L2
namespace B
open PySem PySem.Spec L2 PyProof.Rows
theorem d9{α β:Type}{K:P4}{H:Hp}{D a:Addr}{xs:List V}{ds:List α}{P:Hp->V->β->Prop}{f:α->β}{src:List (Option Nat)}{σ:L2.St}{g:TG}{tt:TT}{te:TE}{Q:Hp->Prop}
  (mono:∀H H' v d,aK K H H'->P H v d->P H' v d) (hD:H D=none) (hS:bF K H a xs) (hl:xs.length=ds.length) (hn:ds.length≤1000)
  (turn:∀(i:Nat) (x:V) (d:α) (H':Hp),xs[i]?=some x->ds[i]?=some d->aH H H'->∀(R:VK) (E:Hp->Prop),(∀v H'',aH H' H''->P H'' v (f d)->R v H'')→
   g x (cf src σ) H' λσ2 H2=>gD (cf src σ) σ2/\tt σ2 H2 λok H3=>if ok=true then te σ2 H3 R else E H3)
  (fin:∀H' ys,aH H H'->H' D=some (.lst ys)->b8 (P H') ys (ds.map f)->Q H') :
  ∃W:Nat->Nat->List V->Hp->Prop,(∃m,W 0 m [] (upd H D (.lst [])))/\∀i m ys H,W i m ys H->((C8 K a).stop i H/\Q H)∨((C8 K a).go i H/\∀x H',(C8 K a).yld i H x H'→
   g x (cf src σ) H' λσ2 H2=>gD (cf src σ) σ2/\tt σ2 H2 λok H3=>
    if ok=true then te σ2 H3 λy H4=>H4 D=some (.lst ys)/\ys.length<sizeLine/\∃m',m'<m/\W (i+1) m' (ys++[y]) (upd H4 D (.lst (ys++[y]))) else ∃m',m'<m/\W (i+1) m' ys H3):=by
 refine⟨λi m ys H'=>i≤ds.length/\m=ds.length-i/\H' D=some (.lst ys)/\aH H H'/\b8 (P H') ys ((ds.take i).map f),⟨_,Qu _,Z,ah,au hD _,.nil⟩,?_⟩;rintro i m ys H1 ⟨hi,rfl,d1,s1,al1⟩;have hS1:bF K H1 a xs:=aK.same s1 _ _ hS;by_cases hix:i<ds.length
 ·have hx0:xs[i]?=some (xs[i]'(by omega)):=P5 _;refine .inr ⟨⟨xs,_,hS1,hx0⟩,?_⟩;rintro x H2 ⟨rfl,hy⟩;have hx:=hy xs hS1;obtain⟨d,hd⟩:∃d,ds[i]?=some d:=⟨_,P5 hix⟩;refine turn i x d _ hx hd s1 _ _ λv H3 s3 p3=>?_
  have d3:H3 D=some (.lst ys):=s3 _ _ d1;have tm:aK K H2 (upd H3 D (.lst (ys++[v]))):=(aK.same s3).trans (aK.up d3 _);refine⟨d3,aQ (by rw[al1.len,P8,Rv];omega),ds.length-(i+1),by omega,hix,Z,ah,λb o q=>?_,?_⟩
  ·rw[ao (aC q hD)];exact s3 _ _ (s1 _ _ q)
  ·rw[Q3,hd,Rh];exact(al1.mono λv d p=>mono _ _ _ _ tm p).snoc (mono _ _ _ _ (aK.up d3 _) p3)
 ·have e:i=ds.length:=by omega
  subst e;rw[Q6] at al1;exact .inl ⟨⟨xs,hS1,by omega⟩,fin H1 ys s1 d1 al1⟩
def ma:PyData->String
 | .none => "NoneType"
 | .bool _ => "bool"
 | .int _ => "int"
 | .str _ => "str"
 | .list _ => "list"
 | .tuple _ => "tuple"
 | .dict _ => "dict"
def FR(K:P4):List V->Hp->VK->Prop:=λxs H Q=>∃v d n b,xs=[v,.ty n]/\bD K H v d/\kW (ma d) n=some b/\Q (.bl b) H
theorem gz:dN X (.builtin "isinstance") (FR X.K):=by
 intro pins s σ H xs us Q I r h;obtain⟨v,d,n,b,rfl,hD,e,q⟩:=h
 cases hD with
 |non=>exact jV pins s σ H _ us Q I r ⟨_,n,_,b,Z,.non,e,q⟩
 |bl c=>exact jV pins s σ H _ us Q I r ⟨_,n,_,b,Z,.bl c,e,q⟩
 |int i=>exact jV pins s σ H _ us Q I r ⟨_,n,_,b,Z,.int i,e,q⟩
 |str x=>exact jV pins s σ H _ us Q I r ⟨_,n,_,b,Z,.str x,e,q⟩
 | @tup a ys ds hS hA=>exact yo pins s σ H _ us Q I r ⟨a,ys,n,b,Z,hS,e,q⟩
 | @lst a ys ds hS hA=>
  obtain⟨u,u2,rfl,rx,ry⟩:=yM r;obtain rfl:u2=TY n:=ry
  cases(show u=QQ a from rx)
  obtain⟨its,_,⟨o,k,h1,h2,_⟩,_⟩:=I.list hS;exact RO We I.kIn ⟨o,h1,h2⟩ (uB e) (λz=>nomatch z) λtk=>⟨.bl b,H,I.tok tk,Z,q⟩
def gI:PyData->Bool
 | .int _=>true
 |_=>false
def pI(n:Nat):PyData->Bool
 | .tuple xs=>decide (xs.length=n)
 |_=>false
def kj:PyData->Bool
 | .tuple [.int a,.int b]=>decide (1≤b)&&decide (Qz a b=1)
 |_=>false
def NY:PyData->Bool
 | .tuple [x,y]=>kj x&&kj y
 |_=>false
theorem EO{K:P4}{H:Hp}{v:V}{d:PyData}(h:bD K H v d):∃b c,kW (ma d) "int"=some b/\kW (ma d) "bool"=some c/\gI d=(b&&!c):=by
 cases h with
 |non=>exact⟨false,false,by simp only[ma];decide +kernel,by simp only[ma];decide +kernel,Z⟩
 |bl b=>exact⟨true,true,by simp only[ma];decide +kernel,by simp only[ma];decide +kernel,Z⟩
 |int i=>exact⟨true,false,by simp only[ma];decide +kernel,by simp only[ma];decide +kernel,Z⟩
 |str x=>exact⟨false,false,by simp only[ma];decide +kernel,by simp only[ma];decide +kernel,Z⟩
 |lst e t=>exact⟨false,false,by simp only[ma];decide +kernel,by simp only[ma];decide +kernel,Z⟩
 |tup e t=>exact⟨false,false,by simp only[ma];decide +kernel,by simp only[ma];decide +kernel,Z⟩
theorem EN{K:P4}{H:Hp}{v:V}{d:PyData}(h:bD K H v d):(kW (ma d) "tuple"=some true/\∃a xs ds,v=.ref a/\d=.tuple ds/\bF K H a xs/\bu K H xs ds)∨(kW (ma d) "tuple"=some false/\∀ds,d≠.tuple ds):=by
 cases h with
 |non=>exact .inr ⟨by simp only[ma];decide +kernel,λ_ z=>nomatch z⟩
 |bl b=>exact .inr ⟨by simp only[ma];decide +kernel,λ_ z=>nomatch z⟩
 |int i=>exact .inr ⟨by simp only[ma];decide +kernel,λ_ z=>nomatch z⟩
 |str x=>exact .inr ⟨by simp only[ma];decide +kernel,λ_ z=>nomatch z⟩
 |lst e t=>exact .inr ⟨by simp only[ma];decide +kernel,λ_ z=>nomatch z⟩
 |tup e t=>exact .inl ⟨by simp only[ma];decide +kernel,_,_,_,Z,Z,e,t⟩
theorem Df(h:∀ds,d≠.tuple ds):pI n d=false:=by
 cases d<;>first|rfl|exact aad Z (h _)
theorem bu.len{K:P4}{H:Hp}:∀{xs:List V} {ds:List PyData},bu K H xs ds->xs.length=ds.length
 |_,_,.nil=>rfl
 |_,_,.cons _ t=>congrArg Nat.succ t.len
theorem bD.two{K:P4}{H:Hp}{v:V}{d:PyData}(h:bD K H v d)(c:pI 2 d=true):∃a x y dx dy,v=.ref a/\d=.tuple [dx,dy]/\bF K H a [x,y]/\bD K H x dx/\bD K H y dy:=by
 cases h with
 | @tup a xs ds e t=>
  have l:ds.length=2:=aab c
  cases t with
  |nil=>cases l
  |cons hx t=>cases t with
   |nil=>cases l
   |cons hy t=>cases t with
    |nil=>exact⟨a,_,_,_,_,Z,Z,e,hx,hy⟩
    |cons hz t=>simp at l
 |_=>cases c
theorem DJ(h:pI 2 d=false):kj d=false:=by
 cases c:kj d with
 |false=>rfl
 |true=>
  unfold kj at c
  split at c
  ·cases h
  ·cases c
structure Sh(k n:Nat)(d:PyData):Prop where
 sh:d.showable=true
 nd:d.hasDict=false
 dp:d.depth≤k
 sz:d.shown.length≤n
theorem Sh.mono(h:Sh k n d)(hk:k≤k')(hn:n≤n'):Sh k' n' d:=⟨h.sh,h.nd,QU h.dp hk,QU h.sz hn⟩
theorem Sh.all{k n:Nat}:∀{ds:List PyData},(∀d∈ds,Sh k n d)->Ye ds=true/\YB ds=false/\UM ds≤k/\((Ud ds).map (·.length)).sum≤n*ds.length/\(Ud ds).length=ds.length
 | [],_=>⟨Z,Z,Qu _,Qu _,Z⟩
 |d::ds,h=>by
  obtain⟨a,b,c,e,f⟩:=Sh.all (ds:=ds) λx hx=>h x (Qe _ hx)
  have z:=h d Qd;refine⟨?_,?_,?_,?_,?_⟩
  ·show(d.showable&&Ye ds)=true;rw[z.sh,a];rfl
  ·show(d.hasDict||YB ds)=false;rw[z.nd,b];rfl
  ·show max d.depth (UM ds)≤k;exact Nat.max_le.mpr ⟨z.dp,c⟩
  ·show d.shown.length+((Ud ds).map (·.length)).sum≤n*(ds.length+1);have:=z.sz;rw[Xb];omega
  ·show(Ud ds).length+1=ds.length+1;rw[f]
theorem Sh.tup(h:∀d∈ds,Sh k n d)(hm:ds.length≤m)(hN:(n+3)*m+8≤N):Sh (k+1) N (.tuple ds):=by
 obtain⟨a,b,c,e,f⟩:=Sh.all h;refine⟨a,b,Vm c,?_⟩;show(tupleText (Ud ds)).length≤N;have q:=tupleText_len_le (Ud ds);have l:n*ds.length+3*ds.length≤(n+3)*m:=by
  rw[←Za];exact UB _ hm
 omega
theorem Sh.shows(h:Sh k n d)(hk:k≤16)(hn:n≤16777216):wM d:=⟨h.sh,h.nd,QU h.sz (QU hn (by decide)),QU h.dp hk⟩
mutual
theorem bD.same{K:P4}{H H':Hp}(s:aH H H'):∀{v:V} {d:PyData},bD K H v d->bD K H' v d
 |_,_,.non=>.non
 |_,_,.bl b=>.bl b
 |_,_,.int i=>.int i
 |_,_,.str x=>.str x
 |_,_,.lst e t=>.lst (s.seq e) (bu.same s t)
 |_,_,.tup e t=>.tup (aK.same s _ _ e) (bu.same s t)
theorem bu.same{K:P4}{H H':Hp}(s:aH H H'):∀{vs:List V} {ds:List PyData},bu K H vs ds->bu K H' vs ds
 |_,_,.nil=>.nil
 |_,_,.cons h t=>.cons (bD.same s h) (bu.same s t)
end
def NU(K:P4):R2:=λx y H Q=>∃a b xs ys,x=.ref a/\y=.ref b/\bF K H a xs/\bF K H b ys/\xs.length+ys.length≤sizeLine/\∀p H',aH H H'->bF K H' p (xs++ys)->Q (.ref p) H'
def MD(K:P4):V->Option Int->Option Int->Hp->VK->Prop:=λx lo hi H Q=>∃a xs,x=.ref a/\bF K H a xs/\∀p H',aH H H'->bF K H' p (iH xs lo hi)->Q (.ref p) H'
theorem vo:CT X (MD X.K):=by
 intro pins s σ H x v vl vu lo hi sl Q I rx hs pl pu h;obtain⟨a,xs,rfl,hx,q⟩:=h;refine DD pins s σ H _ v vl vu lo hi sl Q I rx hs pl pu ?_;by_cases c:HT.sIx xs.length 0 lo=0/\HT.sIx xs.length xs.length hi=xs.length
 ·refine .inl ⟨a,xs,Z,hx,c.1,c.2,q a H (aH.refl H) ?_⟩;have e:iH xs lo hi=xs:=by
   unfold iH;rw[c.1,c.2,Xy,YC,Q6]
  rw[e];exact hx
 ·exact .inr ⟨a,xs,Z,hx,c,λp hp=>q p _ (au hp _) (bF.of ah)⟩
theorem Jy{xs:List V}(h:n≤xs.length):iH xs none (some (n:Int))=xs.take n:=by
 unfold iH;rw[HT.sIx_nat,HT.sIx_none,Xk h,YC,Xy]
def Pf(K:P4)(s:Addr):Prop:=∃ns:List Int,ns.length≤63/\∀H:Hp,aX K H s (ns.map V.int)
structure wL(K:P4)(H:Hp)(t s:Addr):Prop where
 ex:∃(ns:List Int) (p q:Int),H t=some (.lst [.ref s,.int p,.int q])/\((Rd H s (.lst (ns.map V.int))/\s≠t)∨∀H',aX K H' s (ns.map V.int))/\ns.length≤63/\0≤p/\0≤q
def Ko(K:P4):Sp:=λvs H Q _=>∃(a:Addr) (ns:List Int),vs=[.ref a]/\aX K H a (ns.map V.int)/\ns.length≤63/\∀(t:Addr) (H':Hp),aH H H'->H t=none->wL K H' t a->Q (.ref t) H'
def Kq(K:P4):Sp:=λvs H Q _=>∃(t s:Addr) (m:Int),vs=[.ref t,.int m]/\wL K H t s/\0<m/\m<1073741824/\∀(r:Int) (xs:List V),0≤r->r<m->wL K (upd H t (.lst xs)) t s->Q (.int r) (upd H t (.lst xs))
section
set_option autoImplicit true
set_option relaxedAutoImplicit true
theorem jw{X:Cx}{elts:List Re}{x1}{tp p pos:Uf}{a:Re}{ta:TA}(hg:Gl X "enumerate")(hm:X.mg "enumerate"=none)(ha:QA X [a] ta)(hs:Qs [a] X.env=[(false,eval a X.env)]:=by rfl):QI X (.Tuple elts x1 tp) (.Call (.Name "enumerate" p) [a] [] pos) (Li X.K ta):=⟨Eb hg hm ha.p hs⟩
theorem mU{X:Cx}{elts:List Re}{x1}{tp p pos:Uf}{a:Re}{ta:TA}(hg:Gl X "enumerate")(hm:X.mg "enumerate"=none)(ha:QA X [a] ta)(hs:Qs [a] X.env=[(false,eval a X.env)]:=by rfl):QI X (.Tuple elts x1 tp) (.Call (.Name "enumerate" p) [a] [] pos) (Lj X.K ta):=⟨A8 hg hm ha.p hs⟩
end
theorem lP:∀{ns:List Int} {us:List Value},bo (ns.map V.int) us->XI us ns
 | [],_,.nil=>.nil
 |n::ns,_,.cons r t=>by
  obtain⟨tk,rfl⟩:=(show ∃t,_=R1 n t from r);exact .cons _ _ (lP t)
theorem ym(hc:X.calm=true):dN X (.builtin "sum") (λxs H Q=>∃(p:Addr) (ns:List Int),xs=[.ref p]/\aX X.K H p (ns.map V.int)/\Q (.int ns.sum) H):=by
 intro pins s σ H xs us Q I r h;obtain⟨p,ns,rfl,hq,q⟩:=h;obtain⟨u,rfl,rx⟩:=gh r
 cases rx
 obtain⟨its,rv,pl,hz⟩:=I.list hq;have hi:=lP rv;obtain⟨zs,ez⟩:=hi.allInts.items;have hl:=pl.isList;rw[ez] at hl;have en:numsOf its=ns:=hi.numsOf;rw[show its=its.toArray.toList from Z,ez,X2] at en;refine sum_intListG (I.ok.hd hc) hl λh' tk t' hk=>?_
 rw[preSum_eq,Tg (by simp),en];exact⟨.int ns.sum,H,I.kept (t':=tk) hk,⟨_,Z⟩,q⟩
theorem sV:∀{bs:List Bool} {us:List Value},bo (bs.map V.bl) us->∀{i:Nat} {v:Value},us[i]?=some v->v=.bool (bs.getD i true)
 | [],_,.nil,i,v,e=>by cases e
 |b::bs,_,.cons r t,0,v,e=>by
  rw[UW] at e
  cases e
  exact(show _=UO b from r)
 |b::bs,_,.cons r t,i+1,v,e=>by
  rw[UX] at e;exact sV t e
theorem ph:∀(bs:List Bool),(P6 bs.length).all (λi=>bs.getD i true)=bs.all id
 | []=>rfl
 |b::bs=>by
  rw[Q2,U8,Wo,List.all_map,Wo];have:=ph bs;show(b&&(P6 bs.length).all (λi=>bs.getD i true))=(id b&&bs.all id);rw[this];rfl
theorem yr(hc:X.calm=true):dN X (.builtin "all") (λxs H Q=>∃(p:Addr) (bs:List Bool),xs=[.ref p]/\aX X.K H p (bs.map V.bl)/\Q (.bl (bs.all id)) H):=by
 intro pins s σ H xs us Q I r h;obtain⟨p,bs,rfl,hq,q⟩:=h;obtain⟨u,rfl,rx⟩:=gh r
 cases rx
 obtain⟨its,rv,pl,hz⟩:=I.list hq;have ne:p≠s.heap.objs.size:=by
  obtain⟨o,ho,_⟩:=pl.isList;exact Rf (Qt ho)
 have hlen:its.toArray.size=bs.length:=by rw[QR,←rv.length,P8]
 refine call_all_walk (U0 pl.isList ?_);refine⟨_,_,_,_,_,_,λi=>bs.getD i true,Z,Walks.list (A:=X.A.in1) (I.ok.hd hc) _ p ne its.toArray,⟨⟨_,QD _ Z,Z,Z⟩,pl.isList.push _⟩,λi v s' Q' E' hv hQ=>?_,λh' tk hk=>?_⟩
 ·have e:=sV rv (i:=i) (v:=v) (by simpa using hv);subst e;exact Sl hQ
 ·rw[hlen,ph];refine⟨.bl _,H,I.kept (t':=tk) λb o e=>hk b o (λz=>?_) (Qb _ e),Z,q⟩;rw[Qj.mp z] at e;exact aad (Qt e) (Ri _)
section
variable {prog:Q4}{w:Rm}{A:Rg}{E:Value->Qc->Prop}{s:Qc}
theorem oh{a b c:Int}{n:Nat}(hh:A.handled=none)(hr:XG s.heap r a b c t u v)(hsmall:TL a b c=true)
  (hn:RP a b c=n) (hlen:n≤2^24)
  (hQ:∀h' tk acc,(∀b o,s.heap.get? b=some o->h'.get? b=some o)->Z4 (λi v=>∃t,v=.int (a+i*c) t) acc n->Q acc.toList { s with heap:=h',toks:=tk}):
  Qw (QK prog w) A (collect (.ref r)) Q E s:=by
 unfold collect;refine P9 (wpAny_runValue (codeAny_builtin F.entry_proto_collect ?_));rw[Xz F.plain_proto_collect _];show Qw _ A.in1 (Zr [] >>= λl=>again (.builtin "list.__iadd__" ⟨[l,.ref r],[]⟩)) _ _ s;refine P9 (RK ?_);refine wpAny_pure ⟨plainId_quiet F.plain_list_iadd _,codeAny_builtin F.entry_list_iadd ?_⟩;rw[Xz F.plain_list_iadd _];show Qw _ A.in1 (Q8.List.listExtendWith (.ref s.heap.objs.size) (.ref r) (.ref s.heap.objs.size)) _ _ { s with heap:=s.heap.push { cls:=.type "list",data:=.seq ([]:List Value).toArray} };refine wpAny_extend_range (R:=wants (λv s'=>Qw (QK prog w) A (match v with | .ref a=>(do match (←load a).data with | .seq xs _=>Sq xs.toList|_=>unsupported "internal:collect")|_=>unsupported "internal:collect") Q E s') E) (s:={ s with heap:=s.heap.push { cls:=.type "list",data:=.seq ([]:List Value).toArray} }) hh (Qb _ hr) hsmall hn hlen s.heap.objs.size _ _ (QD _ rfl) λh' tk acc' c' hk hS hI=>?_
 show Qw _ A (load s.heap.objs.size >>= _) _ _ _;refine P9 (wpAny_load hS ?_);exact wpAny_pure (hQ h' tk acc' (λb o e=>hk b o (Rf (Qt e)) (Qb _ e)) hI)
theorem jF{a b c:Int}{n:Nat}(hsmall:TL a b c=true)(hn:RP a b c=n)(hlen:n≤2^24):
  Meets (Q8.«tuple.__new__» ⟨[.type "tuple",.ref r],[]⟩)
   (λA R s=>A.handled=none/\XG s.heap r a b c t u v/\∀(h':Qo) (tk:Nat) (acc:Array Value),(∀b o,s.heap.get? b=some o->h'.get? b=some o)->Z4 (λi v=>∃t,v=.int (a+i*c) t) acc n→
    R (.ok (.ret (.ref h'.objs.size))) { s with heap:=h'.push { cls:=.type "tuple",data:=.seq acc},toks:=tk}):=
 .of_wp λprog w A R s h=>by
  obtain⟨hh,hr,h⟩:=h;have hsub:=sub_tuple_self;have hinit:=init_tuple_lookup;have hmh:=madeHere_tuple;have hT:s.TypeIs (.ref r) "range" := ⟨_,hr,Z⟩;have hh1:A.in1.handled=none:=hh
  wp_walk using WX hT,oh hh1 hr hsmall hn hlen
  intro h' tk acc hk hacc;show Qw _ _ (Su acc.toList.toArray >>= λv=>ret v) _ _ _;unfold Su;refine P9 (RK ?_ (show acc.toList.toArray.size≤sizeLine by simp only[Array.toArray_toList];rw[hacc.1,Sz];exact hlen));refine wpAny_pure ⟨_,Z,?_⟩;have e:acc.toList.toArray=acc:=by simp
  rw[e];exact h h' tk acc hk hacc
theorem kJ{a b c:Int}{n:Nat}(hh:A.handled=none)(hr:XG s.heap r a b c t u v)(hsmall:TL a b c=true)
  (hn:RP a b c=n) (hlen:n≤2^24)
  (hQ:∀(h':Qo) (tk:Nat) (acc:Array Value),(∀b o,s.heap.get? b=some o->h'.get? b=some o)->Z4 (λi v=>∃t,v=.int (a+i*c) t) acc n->Q (.ref h'.objs.size) { s with heap:=h'.push { cls:=.type "tuple",data:=.seq acc},toks:=tk}):
  Qw (QK prog w) A (call (.type "tuple") [.ref r]) Q E s:=by
 refine callType_new F.called_tuple (by decide) (F.typeCall_tuple_1 _) (F.newCall_tuple_1 _) (λobj=>F.args_object_init_2 obj _) F.entry_tuple_new
  (jF hsmall hn hlen) ⟨hh,hr,λh' tk acc hk hacc=>⟨⟨_,QD _ Z,Z⟩,hQ h' tk acc hk hacc⟩⟩
end
def upTo(n:Nat):List Int:=(P6 n).map λi:Nat=>(i:Int)
theorem lZ(h:Z4 (λi v=>∃t,v=.int ((0:Int)+i*1) t) acc n):bo ((upTo n).map V.int) acc.toList:=by
 obtain⟨hl,ha⟩:=h;have key:∀m,m≤n->bo ((upTo m).map V.int) (acc.toList.take m):=by
  intro m
  induction m with
  |zero=>intro _;rw[XA];exact .nil
  |succ m ih=>
   intro hm;have hlt:m<acc.size:=by omega
   have e1:acc.toList.take (m+1)=acc.toList.take m++[acc[m]]:=by
    rw[Q3];simp[hlt]
   have e2:(upTo (m+1)).map V.int=(upTo m).map V.int++[V.int m]:=by
    unfold upTo;rw[Rr];simp
   rw[e1,e2];refine(ih (by omega)).append (.cons ?_ .nil);obtain⟨t,e⟩:=ha m acc[m] (by simp[hlt]);exact⟨t,by rw[e];simp⟩
 have:=key n (P7 _)
 rwa [Tg (by simp[hl])] at this
def Fu(ta:TA):TE:=λσ H Q=>ta σ H λvs H1=>∃j:Int,vs=[.int j]/\∀p,H1 p=none->Q (.ref p) (upd H1 p (.rng 0 j))
theorem Ef{X:Cx}{a:Re}{ta:TA}{p pos:Uf}(hg:Gl X "range")(hm:X.mg "range"=none)(ha:PA X [a] ta)(hs:Qs [a] X.env=[(false,eval a X.env)]:=by rfl) :
  PE X (.Call (.Name "range" p) [a] [] pos) (Fu ta):=by
 intro pins s σ H Q I h;refine Call_ (hU I hg hm Zy (R4 (bZ (ha pos pins s σ H _ I h) λus s1 ⟨vs,H1,I1,r1,q1⟩=>?_) hs Z));obtain⟨j,e,q⟩:=q1;subst e;obtain⟨u,rfl,t,rfl⟩:=gh r1;refine call_range_1 ?_;exact⟨.ref s1.heap.objs.size,_,I1.laid (o:=.rng 0 j) (λb o e=>Qb _ e) (P7 _) ⟨_,t,_,QD _ Z⟩,Z,q _ (I1.hok.fresh (P7 _))⟩
theorem vq(n:Nat):RP 0 n 1=n:=by rw[rangeSize_one];split<;>omega
theorem sT(hc:X.calm=true):dN X (.type "tuple") (λxs H Q=>∃p,∃n:Nat,xs=[.ref p]/\H p=some (.rng 0 n)/\n≤1000/\∀l,H l=none->Q (.ref l) (upd H l (.tup ((upTo n).map V.int)))):=by
 intro pins s σ H xs us Q I r h;obtain⟨p,n,rfl,hp,hn,q⟩:=h;obtain⟨u,rfl,rx⟩:=gh r
 cases rx
 obtain⟨t,u,w,e⟩:=(show ObjOk X.prog X.w H s.heap p (.rng 0 n) from I.hok p _ hp);refine kJ (I.ok.hd hc) (show XG s.heap p 0 n 1 t u w from e) (ZW (by omega) (by omega) (by omega) (by omega)) (vq n) (by omega) λh' tk acc hk hi=>?_
 have rv:=lZ hi;have I1:Inv X pins σ H { s with heap:=h',toks:=tk}:=I.kept (t':=tk) hk;have hl:(upTo n).length=n:=by unfold upTo;simp
 have I2:Inv X pins σ (upd H h'.objs.size (.tup ((upTo n).map V.int))) { s with heap:=h'.push { cls:=.type "tuple",data:=.seq acc},toks:=tk}:=
  I1.laid (t':=tk) (λb o e=>Qb _ e) (P7 _) (show ObjOk X.prog X.w _ _ _ (.tup ((upTo n).map V.int)) from⟨by rw[P8,hl,Sz];omega,acc.toList,rv,by have:=XE h' acc;simpa using this⟩)
 exact⟨.ref h'.objs.size,_,I2,Z,q _ (I1.hok.fresh (P7 _))⟩
def LP(hi:Int)(n:Nat):It:=⟨λi _=>i<n,λi H x H'=>H'=H/\x=.int (hi-i),λi _=>n≤i⟩
theorem wT{P:Q4}{w:Rm}{K:P4}{tg:Re}(it:Addr)(lo:Int)(n:Nat):tj P w K tg (LP lo n) [it] it (λi h=>Xq h it (lo+(i:Nat)*(-1)) ((n:Int)-(i:Nat)) (-1)) where
 mem:=by simp
 obj:=λi h st b hb=>by
  have e:b=it:=by simpa using hb
  subst e;exact⟨_,st,λv z=>by
   have z':Wa _=XF v:=z
   cases z'⟩
 keep:=λi h h' st k=>k it (by simp) _ st
 item:=by
  intro X hP hw hK hc i pins s σ H E I hf st hg;subst hP hw hK;obtain⟨f0,f1,f2,f3,f4,f5⟩:=hf it (by simp);have W:=Walks.range (prog:=X.prog) (w:=X.w) (I.ok.hd hc) it lo (-1) n;refine W.item i s _ _ hg st λv h' tk hv st' kk=>?_
  obtain⟨t,rfl⟩:=hv;have I1:Inv X pins σ H { s with heap:=h',toks:=tk}:=I.turned (λb o hb e=>kk b o (by simpa using hb) e) f0 f1 f3 f4 f5;refine⟨_,rfl,vY (s:={ s with heap:=h',toks:=tk}) (n := "range_iterator") st' rfl rfl (by decide) ⟨.int (lo-i),H,I1,⟨t,?_⟩,⟨rfl,rfl⟩,st',λb hb=>(hf b hb).1⟩⟩;rw[show lo+(i:Int)*(-1)=lo-i by omega]
 done:=by
  intro X hP hw hK hc i pins s σ H E I hf st hg;subst hP hw hK;obtain⟨f0,f1,f2,f3,f4,f5⟩:=hf it (by simp);exact WO (I.ok.hd hc) st (by have:n≤i:=hg;omega) λh' eb=>⟨Z,I.turned (t':=s.toks) (λb o hb e=>eb b o hb e) f0 f1 f3 f4 f5⟩
 self:=λ_ _ _ _ _ st h=>WP st h
theorem oG(a b:Int):RP a b (-1)=((a-b).toNat:Nat):=by
 unfold RP;rw[aaa (by decide)]
 split
 ·rw[show(-(-1):Int)=1 by decide,WV];omega
 ·omega
theorem t0(ha:-1000≤a)(ha':a≤1000)(hb:-1000≤b)(hb':b≤1000):TL a b (-1)=true:=by
 unfold TL;rw[oG];simp only[Q8.Range.rangeFitsLong,QM,Zn,decide_eq_true_eq,beq_iff_eq,show ¬(-1:Int)>0 by decide,if_false];omega
def F3(ta:TA):TI:=λσ H R=>ta σ H λvs H1=>∃i j:Int,vs=[.int i,.int j,.int (-1)]/\(-1000≤i/\i≤1000/\-1000≤j/\j≤1000)/\R (LP i (i-j).toNat) H1
theorem xG{X:Cx}{tg:Re}{a b c:Re}{ta:TA}{p pos:Uf}(hg:Gl X "range")(hm:X.mg "range"=none)(ha:PA X [a,b,c] ta)(hs:Qs [a,b,c] X.env=[(false,eval a X.env),(false,eval b X.env),(false,eval c X.env)]:=by rfl)(hs2:Qs [b,c] X.env=[(false,eval b X.env),(false,eval c X.env)]:=by rfl) :
  PI X tg (.Call (.Name "range" p) [a,b,c] [] pos) (F3 ta):=by
 intro pins s σ H R I h;refine Call_ (hU I hg hm Zy (R4 (bZ (ha pos pins s σ H _ I h) λus s1 ⟨vs,H1,I1,r1,q1⟩=>?_) (by rw[hs,hs2]) (by rw[hs2];rfl)));obtain⟨i,j,e,⟨q1,q2,q3,q4⟩,q⟩:=q1;subst e
 cases r1 with
 |cons r rr=>
  cases rr with
  |cons r' rr=>
   cases rr with
   |cons r'' rr=>
    cases rr
    obtain⟨t,rfl⟩:=r;obtain⟨t',rfl⟩:=r';obtain⟨t'',rfl⟩:=r'';refine call_range_3 (by decide) ?_ (.inl (WQ (by decide)));refine X6 (XG.new ..) (t0 q1 q2 q3 q4) ?_;have I2:Inv X pins σ H1 { s1 with heap:=s1.heap.push { cls:=.type "range",data:=.fields #[.int i t,.int j t',.int (-1) t'']},toks:=s1.toks}:=I1.kept λb o e=>Qb _ e
    refine⟨(s1.heap.push { cls:=.type "range",data:=.fields #[.int i t,.int j t',.int (-1) t'']}).objs.size,[(s1.heap.push { cls:=.type "range",data:=.fields #[.int i t,.int j t',.int (-1) t'']}).objs.size],_,_,H1,Z,
     I2.kept (t':=s1.toks) λb o e=>Qb _ e,wT _ i (i-j).toNat,?_,λb hb=>?_,q⟩
    ·have e1:i+((0:Nat):Int)*(-1)=i:=by simp
     have e2:(((i-j).toNat:Nat):Int)-((0:Nat):Int)=RP i j (-1):=by rw[oG];omega
     show Xq _ _ (i+((0:Nat):Int)*(-1)) ((((i-j).toNat:Nat):Int)-((0:Nat):Int)) (-1);rw[e1,e2];exact QD _ Z
    ·have e:b=(s1.heap.push { cls:=.type "range",data:=.fields #[.int i t,.int j t',.int (-1) t'']}).objs.size:=by simpa using hb
     subst e;exact I2.fpOk (P7 _) (I2.hok.fresh (P7 _))
theorem Cd{hi:Int}{n:Nat}{g:TG}{tb:TS}{D:jc}{σ:L2.St}{H:Hp}(Pv:Nat->L2.St->Hp->Prop)(h0:Pv 0 σ H)
  (hs:∀i σ H,i<n->Pv i σ H->g (.int (hi-i)) σ H λσ2 H2=>tb { D with nx:=Pv (i+1),ct:=Pv (i+1),bk:=D.nx} σ2 H2) (hd:∀σ H,Pv n σ H->D.nx σ H) :
  ∃W:Nat->Nat->L2.St->Hp->Prop,(∃m,W 0 m σ H)/\∀i m σ H,W i m σ H→
   ((LP hi n).stop i H/\D.nx σ H)∨((LP hi n).go i H/\∃N:L2.St->Hp->Prop,(∀σ' H',N σ' H'->∃m',m'<m/\W (i+1) m' σ' H')/\∀x H',(LP hi n).yld i H x H'->g x σ H' λσ2 H2=>tb { D with nx:=N,ct:=N,bk:=D.nx} σ2 H2):=by
 refine⟨λi m σ H=>m=n-i/\i≤n/\Pv i σ H,⟨_,Z,Qu _,h0⟩,?_⟩;rintro i m σ H ⟨rfl,hi',p⟩;by_cases hlt:i<n
 ·refine .inr ⟨hlt,Pv (i+1),λσ' H' p'=>⟨n-(i+1),by omega,Z,hlt,p'⟩,λx H' y=>?_⟩;obtain⟨rfl,rfl⟩:=y;exact hs i σ _ hlt p
 ·have e:i=n:=by omega
  subst e;exact .inl ⟨P7 _,hd σ H p⟩
section
set_option autoImplicit true
set_option relaxedAutoImplicit true
theorem vC{X:Cx}{a:Re}{ta:TA}{p pos:Uf}(hg:Gl X "range")(hm:X.mg "range"=none)(ha:QA X [a] ta)(hs:Qs [a] X.env=[(false,eval a X.env)]:=by rfl):QE X (.Call (.Name "range" p) [a] [] pos) (Fu ta):=⟨Ef hg hm ha.p hs⟩
theorem xz{X:Cx}{tg:Re}{a b c:Re}{ta:TA}{p pos:Uf}(hg:Gl X "range")(hm:X.mg "range"=none)(ha:QA X [a,b,c] ta)(hs:Qs [a,b,c] X.env=[(false,eval a X.env),(false,eval b X.env),(false,eval c X.env)]:=by rfl)(hs2:Qs [b,c] X.env=[(false,eval b X.env),(false,eval c X.env)]:=by rfl):QI X tg (.Call (.Name "range" p) [a,b,c] [] pos) (F3 ta):=⟨xG hg hm ha.p hs hs2⟩
end
structure LA(J:It)(H:Hp)(n:Nat)(P:Nat->V->Hp->Prop):Prop where
 go:∀i H',i<n->aH H H'->J.go i H'
 stop:∀H',aH H H'->J.stop n H'
 yld:∀i H' x H'',i<n->aH H H'->J.yld i H' x H''->aH H' H''/\P i x H''
theorem ii{K:P4}{H:Hp}{a:Addr}{xs:List V}(h:aX K H a xs):LA (yC K a) H xs.length (λi x _=>xs[i]?=some x) where
 go:=λi H' hi s=>⟨xs,_,s.seq h,P5 hi⟩
 stop:=λH' s=>⟨xs,s.seq h,P7 _⟩
 yld:=λi H' x H'' hi s y=>by obtain⟨rfl,hy⟩:=y;exact⟨aH.refl _,hy xs (s.seq h)⟩
theorem Db{K:P4}{H:Hp}{a:Addr}{xs:List V}(h:bF K H a xs):LA (C8 K a) H xs.length (λi x _=>xs[i]?=some x) where
 go:=λi H' hi s=>⟨xs,_,aK.same s _ _ h,P5 hi⟩
 stop:=λH' s=>⟨xs,aK.same s _ _ h,P7 _⟩
 yld:=λi H' x H'' hi s y=>by obtain⟨rfl,hy⟩:=y;exact⟨aH.refl _,hy xs (aK.same s _ _ h)⟩
theorem pC{K:P4}{H:Hp}{a:Addr}{xs:List V}(h:bF K H a xs):LA (yD K a) H xs.length (λi v H'=>∃p x,v=.ref p/\xs[i]?=some x/\H' p=some (.tup [.int i,x])) where
 go:=λi H' hi s=>⟨xs,_,aK.same s _ _ h,P5 hi⟩
 stop:=λH' s=>⟨xs,aK.same s _ _ h,P7 _⟩
 yld:=λi H' x H'' hi s y=>by obtain⟨p,v,hp,rfl,rfl,hy⟩:=y;exact⟨au hp _,p,v,Z,hy xs (aK.same s _ _ h),ah⟩
theorem u5{K:P4}{H:Hp}{a:Addr}{xs:List V}(h:aX K H a xs):LA (yE K a) H xs.length (λi v H'=>∃p x,v=.ref p/\xs[i]?=some x/\H' p=some (.tup [.int i,x])) where
 go:=λi H' hi s=>⟨xs,_,s.seq h,P5 hi⟩
 stop:=λH' s=>⟨xs,s.seq h,P7 _⟩
 yld:=λi H' x H'' hi s y=>by obtain⟨p,v,hp,rfl,rfl,hy⟩:=y;exact⟨au hp _,p,v,Z,hy xs (s.seq h),ah⟩
theorem dX{J:It}{H:Hp}{D:Addr}{n:Nat}{P:Nat->V->Hp->Prop}(w:LA J H n P)(c:Nat->Bool)(f:Nat->V){src:List (Option Nat)}{σ:L2.St}{g:TG}{tt:TT}{te:TE}{Q:Hp->Prop}(hD:H D=none)(hn:n≤1000)
  (turn:∀(i:Nat) (x:V) (H':Hp),i<n->aH H H'->P i x H'->∀(R:VK) (E:Hp->Prop),(c i=true->∀H'',aH H' H''->R (f i) H'')->(c i=false->∀H'',aH H' H''->E H'')→
   g x (cf src σ) H' λσ2 H2=>gD (cf src σ) σ2/\tt σ2 H2 λok H3=>if ok=true then te σ2 H3 R else E H3)
  (fin:∀H',aH H H'->H' D=some (.lst (((P6 n).filter c).map f))->Q H') :
  ∃W:Nat->Nat->List V->Hp->Prop,(∃m,W 0 m [] (upd H D (.lst [])))/\∀i m ys H,W i m ys H->(J.stop i H/\Q H)∨(J.go i H/\∀x H',J.yld i H x H'→
   g x (cf src σ) H' λσ2 H2=>gD (cf src σ) σ2/\tt σ2 H2 λok H3=>
    if ok=true then te σ2 H3 λy H4=>H4 D=some (.lst ys)/\ys.length<sizeLine/\∃m',m'<m/\W (i+1) m' (ys++[y]) (upd H4 D (.lst (ys++[y]))) else ∃m',m'<m/\W (i+1) m' ys H3):=by
 refine⟨λi m ys H'=>i≤n/\m=n-i/\ys=((P6 i).filter c).map f/\aH H H'/\H' D=some (.lst ys),⟨_,Qu _,Z,Z,au hD _,ah⟩,?_⟩;rintro i m ys H1 ⟨hi,rfl,rfl,s1,d1⟩;by_cases hix:i<n
 ·refine .inr ⟨w.go i H1 hix s1,λx H2 y=>?_⟩;obtain⟨s2,p⟩:=w.yld i H1 x H2 hix s1 y;have d2:=s2 _ _ d1;have len:(((P6 i).filter c).map f).length≤i:=by
   rw[P8];exact QU (Q5 _ _) (by rw[QN];exact P7 _)
  refine turn i x H2 hix (s1.trans s2) p _ _ (λhc H3 s3=>?_) λhc H3 s3=>?_
  ·have d3:=s3 _ _ d2;refine⟨d3,aQ (by omega),n-(i+1),by omega,hix,Z,?_,λb o q=>?_,ah⟩
   ·rw[Rr,R0,Rh];simp[hc]
   ·rw[ao (aC q hD)];exact s3 _ _ (s2 _ _ (s1 _ _ q))
  ·refine⟨n-(i+1),by omega,hix,Z,?_,(s1.trans s2).trans s3,s3 _ _ d2⟩;rw[Rr,R0,Rh];simp[hc]
 ·have e:i=n:=by omega
  subst e;exact .inl ⟨w.stop H1 s1,fin H1 s1 d1⟩
theorem fk{α β:Type}(d:α)(p:α->Bool)(f:α->β):∀l:List α,((P6 l.length).filter λi=>p (l.getD i d)).map (λi=>f (l.getD i d))=(l.filter p).map f
 | []=>rfl
 |x::l=>by
  have ih:=fk d p f l;rw[Q2,U8,YV,YV];have e:(((P6 l.length).map Nat.succ).filter λi=>p ((x::l).getD i d)).map (λi=>f ((x::l).getD i d))=(l.filter p).map f:=by
   rw[List.filter_map,R6];exact ih
  show(if p x=true then _ else _:List Nat).map _=_
  cases hp:p x with
  |true=>
   simp only[if_true,Q1];rw[e];rfl
  |false=>
   simp only[Tp,if_false];exact e
theorem eE{α β:Type}(d:α)(f:α->β)(l:List α):((P6 l.length).filter λ_=>true).map (λi=>f (l.getD i d))=l.map f:=by
 have:=fk d (λ_=>true) f l;rw[this,SN.mpr (by intros;rfl)]
theorem ay{α:Type}{l:List α}{i:Nat}{x:α}(d:α)(h:l[i]?=some x):l.getD i d=x:=by rw[Qa,h];rfl
section
variable {prog:Q4}{w:Rm}{A:Rg}{E:Value->Qc->Prop}{s:Qc}
theorem AF(hl:s.heap.get? l=some { cls:=.type "list",dict:=none,data:=.seq items k,slots:=#[]})
  (hlo:-(2^63:Int)≤x) (hhi:x<2^63) (hsz:items.size*x.toNat≤2^24)
  (h:Q (.ref s.heap.objs.size) { s with heap:=s.heap.push { cls:=.type "list",data:=.seq (Vn (λx1 x2=>x1++x2) #[] (Qn (if items.isEmpty=true then 0 else x.toNat) items))} }):
  Qw (QK prog w) A (TN .Mult (.ref l) (.int x u)) Q E s:=
 Uz (T := "list") (U := "int") (by decide) ⟨_,hl,Z⟩ (λs'=>Uk s' x u) noFill_list_mul F.fills_int_mul F.slot_int_rmul repeat_list F.slot_int_index.lookup
  (Ul F.slot_int_rmul (Uk s x u) F.entry_int_rmul (F.args_int_rmul_2 _ _) (int___rmul___int_list x u l items k)
   ⟨hl,Z,⟨_,hl,Z⟩,Ul F.slot_list_mul ⟨_,hl,Z⟩ F.entry_list_mul (F.args_list_mul_2 _ _)
    (AutoListH.list___mul___list_int_3 l items k x u (by simp[Q8.List.listFitsIndex];omega) (by omega) (by simp[Q8.List.listTooLong,sizeLine];omega))
    ⟨hl,h⟩⟩)
end
theorem su(u:Value):∀(n:Nat) (acc:Array Value),(Vn (λx1 x2=>x1++x2) acc (Qn n #[u])).toList=acc.toList++Qn n u
 |0,acc=>by simp
 |n+1,acc=>by
  rw[SO,Rs,su u n,SO];simp
theorem qP{v:V}{u:Value}(r:RelV v u):∀n:Nat,bo (Qn n v) (Qn n u)
 |0=>.nil
 |n+1=>.cons r (qP r n)
theorem qk:gH X (TN .Mult) (λx y H Q=>∃(p:Addr) (v:V) (n:Nat),x=.ref p/\y=.int n/\H p=some (.lst [v])/\n≤1000/\∀l,H l=none->Q (.ref l) (upd H l (.lst (Qn n v)))):=by
 intro pins s σ H x y xv yv Q I rx ry h;obtain⟨p,v,n,rfl,rfl,hp,hn,q⟩:=h
 cases(show xv=QQ p from rx)
 obtain⟨t,rfl⟩:=(show ∃t,yv=R1 n t from ry);obtain⟨_,its,c,rv,e⟩:=(show ObjOk X.prog X.w H s.heap p (.lst [v]) from I.hok p _ hp)
 cases rv with
 | @cons _ u _ _ r0 rr=>
 cases rr
 refine AF e (by omega) (by omega) (by simp;omega) ?_;have el:(Vn (λx1 x2=>x1++x2) #[] (Qn (if([u]:List Value).toArray.isEmpty=true then 0 else(n:Int).toNat) [u].toArray))=(Qn n u).toArray:=by
  apply Array.ext';have:=su u n #[]
  simpa using this
 rw[el];have I2:Inv X pins σ (upd H s.heap.objs.size (.lst (Qn n v))) { s with heap:=s.heap.push { cls:=.type "list",data:=.seq (Qn n u).toArray} }:=
  I.laid (t':=s.toks) (λb o e=>Qb _ e) (P7 _) (show ObjOk X.prog X.w _ _ _ (.lst (Qn n v)) from⟨by rw[Ve,Sz];omega,Qn n u,_,qP r0 n,QD _ Z⟩)
 exact⟨.ref s.heap.objs.size,_,I2,Z,q _ (I.hok.fresh (P7 _))⟩
theorem uL(hc:X.calm=true):dN X (.type "list") (λxs H Q=>∃p,∃n:Nat,xs=[.ref p]/\H p=some (.rng 0 n)/\n≤1000/\∀l,H l=none->Q (.ref l) (upd H l (.lst ((upTo n).map V.int)))):=by
 intro pins s σ H xs us Q I r h;obtain⟨p,n,rfl,hp,hn,q⟩:=h;obtain⟨u,rfl,rx⟩:=gh r
 cases rx
 obtain⟨t,u,w,e⟩:=(show ObjOk X.prog X.w H s.heap p (.rng 0 n) from I.hok p _ hp);refine call_list_range (I.ok.hd hc) (show XG s.heap p 0 n 1 t u w from e) (ZW (by omega) (by omega) (by omega) (by omega)) (vq n) (by omega) λh' tk acc c' hk hS hi=>?_
 have rv:=lZ hi;have hl:(upTo n).length=n:=by unfold upTo;simp
 have I2:Inv X pins σ (upd H s.heap.objs.size (.lst ((upTo n).map V.int))) { s with heap:=h',toks:=tk}:=
  I.laid (t':=tk) hk (P7 _) (show ObjOk X.prog X.w _ _ _ (.lst ((upTo n).map V.int)) from⟨by rw[P8,hl,Sz];omega,acc.toList,c',rv,by simpa using hS⟩)
 exact⟨.ref s.heap.objs.size,_,I2,Z,q _ (I.hok.fresh (P7 _))⟩
theorem n8{X:Cx}{K:P4}(hK:X.K=K):gH X (RL .NotIn) (NS K true):=hK▸ql
theorem EQ(t:Nat)(ls:List Nat):Ji (.int t) (ls.map λn:Nat=>V.int n)=ls.contains t:=by
 unfold Ji;rw[YD]
 induction ls with
 |nil=>rfl
 |cons a r ih=>
  rw[S1,Ua,ih]
  congr 1
  show decide (((a:Nat):Int)=(t:Nat))=(t==a);by_cases h:t=a
  ·subst h;simp
  ·rw[beq_eq_false_iff_ne.mpr h];exact Sy (by omega)
theorem Ce(ls:List Nat):(ls.map λn:Nat=>V.int n).all jN=true:=by
 rw[List.all_map,Sg];intro x _;rfl
def Fp(ds:List PyData):Prop:=∀e∈ds,e.canLay0=true/\e.depth≤32
def O1(K:P4):R2:=λx y H Q=>∃p xs ds d,y=.ref p/\aX K H p xs/\bu K H xs ds/\Fp ds/\bD K H x d/\d.canLay0=true/\RQ d d=true/\Q (.bl (ds.any λe=>RQ e d)) H
def L7(K:P4):R2:=λx y H Q=>∃p xs ds d,y=.ref p/\aX K H p xs/\bu K H xs ds/\Fp ds/\bD K H x d/\d.canLay0=true/\RQ d d=true/\Q (.bl (!ds.any λe=>RQ e d)) H
def NQ(K:P4):R2:=λx y H Q=>∃p xs ds d,y=.ref p/\bF K H p xs/\bu K H xs ds/\Fp ds/\bD K H x d/\d.canLay0=true/\RQ d d=true/\Q (.bl (ds.any λe=>RQ e d)) H
def Ma(K:P4):V->List V->Hp->VK->Prop:=λx vs H Q=>∃p xs ds w d,x=.ref p/\vs=[w]/\aX K H p xs/\bu K H xs ds/\Fp ds/\bD K H w d/\d.canLay0=true/\RQ d d=true/\(∃e∈ds,RQ e d=true)∧
 ∀(j:Nat) (e:PyData),ds[j]?=some e->RQ e d=true->(∀m f,m<j->ds[m]?=some f->RQ f d=false)->Q (.int j) H
def L8:V->List V->Hp->VK->Prop:=λx vs H Q=>∃(l:Addr) (xs:List V) (j:Nat) (y:V),x=.ref l/\vs=[.int j,y]/\H l=some (.lst xs)/\j≤xs.length/\xs.length<sizeLine/\Q .non (upd H l (.lst (xs.take j++y::xs.drop j)))
mutual
def N8:PyData->Bool
 | .int i=>decide (i.natAbs<2^230)
 | .tuple ds=>uE ds
 | .list ds=>uE ds
 | .dict _=>false
 |_=>true
def uE:List PyData->Bool
 | []=>true
 |d::ds=>N8 d&&uE ds
end
theorem kB:∀{ds:List PyData},(∀d∈ds,d.canLay0=true)->YE ds=true
 | [],_=>rfl
 |d::ds,h=>by
  show(d.canLay0&&YE ds)=true;rw[h d Qd,kB λe he=>h e (Qe _ he)];rfl
structure Gd(k n:Nat)(d:PyData):Prop where
 sh:Sh k n d
 lay:d.canLay0=true
 bd:N8 d=true
def Lz:PyData->R
 | .tuple [.int a,.int b]=>(a,b)
 |_=>(0,1)
def M6:PyData->R×R
 | .tuple [x,y]=>(Lz x,Lz y)
 |_=>ul
theorem yn(hc:X.calm=true):dN X (.builtin "max") (λxs H Q=>∃(p:Addr) (ns:List Int),xs=[.ref p]/\aX X.K H p (ns.map V.int)/\0<ns.length/\∀M,M∈ns->(∀a∈ns,a≤M)->Q (.int M) H):=by
 intro pins s σ H xs us Q I r h;obtain⟨p,ns,rfl,hq,hne,q⟩:=h;obtain⟨u,rfl,rx⟩:=gh r
 cases rx
 obtain⟨its,rv,pl,hz⟩:=I.list hq;have hi:=lP rv;obtain⟨zs,ez⟩:=hi.allInts.items;have hl:=pl.isList;rw[ez] at hl;have en:numsOf its=ns:=hi.numsOf;rw[show its=its.toArray.toList from Z,ez,X2] at en;have hlen:zs.size=ns.length:=by rw[←en,P8,Si]
 refine max_intList (I.ok.hd hc) hl (by omega) λv h' tk hv hk=>?_
 obtain⟨t,rfl⟩:=intItems_at hv;obtain⟨h1,h2⟩:=argBest_gt (numAt zs) (zs.size-1);refine⟨.int _,H,I.kept (t':=tk) hk,⟨_,Z⟩,q _ ?_ λa ha=>?_⟩
 ·rw[ZK,en];exact getD_mem (by omega)
 ·rw[←en] at ha;obtain⟨j,hj,rfl⟩:=mem_getD ha;rw[P8,Si] at hj;rw[←ZK];exact h2 j (by omega)
theorem o0(hc:X.calm=true):dN X (.builtin "min") (λxs H Q=>∃(p:Addr) (ns:List Int),xs=[.ref p]/\aX X.K H p (ns.map V.int)/\0<ns.length/\∀M,M∈ns->(∀a∈ns,M≤a)->Q (.int M) H):=by
 intro pins s σ H xs us Q I r h;obtain⟨p,ns,rfl,hq,hne,q⟩:=h;obtain⟨u,rfl,rx⟩:=gh r
 cases rx
 obtain⟨its,rv,pl,hz⟩:=I.list hq;have hi:=lP rv;obtain⟨zs,ez⟩:=hi.allInts.items;have hl:=pl.isList;rw[ez] at hl;have en:numsOf its=ns:=hi.numsOf;rw[show its=its.toArray.toList from Z,ez,X2] at en;have hlen:zs.size=ns.length:=by rw[←en,P8,Si]
 refine min_intList (I.ok.hd hc) hl (by omega) λv h' tk hv hk=>?_
 obtain⟨t,rfl⟩:=intItems_at hv;obtain⟨h1,h2⟩:=argBest_lt (numAt zs) (zs.size-1);refine⟨.int _,H,I.kept (t':=tk) hk,⟨_,Z⟩,q _ ?_ λa ha=>?_⟩
 ·rw[ZK,en];exact getD_mem (by omega)
 ·rw[←en] at ha;obtain⟨j,hj,rfl⟩:=mem_getD ha;rw[P8,Si] at hj;rw[←ZK];exact h2 j (by omega)
theorem CC{J:It}{H:Hp}{D:Addr}{n:Nat}(Pv:Nat->List V->Hp->Prop){src:List (Option Nat)}{σ:L2.St}{g:TG}{tt:TT}{te:TE}{Q:Hp->Prop}(h0:Pv 0 [] (upd H D (.lst [])))
  (go:∀i ys H',i<n->Pv i ys H'->J.go i H') (stop:∀ys H',Pv n ys H'->J.stop n H'/\Q H')
  (turn:∀i ys H' x H'',i<n->Pv i ys H'->J.yld i H' x H''->∀(R:VK) (E:Hp->Prop),(∀y H4,H4 D=some (.lst ys)->ys.length<sizeLine->Pv (i+1) (ys++[y]) (upd H4 D (.lst (ys++[y])))->R y H4)->(∀H3,Pv (i+1) ys H3->E H3)→
   g x (cf src σ) H'' λσ2 H2=>gD (cf src σ) σ2/\tt σ2 H2 λok H3=>if ok=true then te σ2 H3 R else E H3) :
  ∃W:Nat->Nat->List V->Hp->Prop,(∃m,W 0 m [] (upd H D (.lst [])))/\∀i m ys H,W i m ys H->(J.stop i H/\Q H)∨(J.go i H/\∀x H',J.yld i H x H'→
   g x (cf src σ) H' λσ2 H2=>gD (cf src σ) σ2/\tt σ2 H2 λok H3=>
    if ok=true then te σ2 H3 λy H4=>H4 D=some (.lst ys)/\ys.length<sizeLine/\∃m',m'<m/\W (i+1) m' (ys++[y]) (upd H4 D (.lst (ys++[y]))) else ∃m',m'<m/\W (i+1) m' ys H3):=by
 refine⟨λi m ys H'=>i≤n/\m=n-i/\Pv i ys H',⟨_,Qu _,Z,h0⟩,?_⟩;rintro i m ys H1 ⟨hi,rfl,p⟩;by_cases hix:i<n
 ·refine .inr ⟨go i ys H1 hix p,λx H2 y=>?_⟩;refine turn i ys H1 x H2 hix p y _ _ (λy H4 a b c=>⟨a,b,n-(i+1),by omega,hix,Z,c⟩) λH3 c=>⟨n-(i+1),by omega,hix,Z,c⟩
 ·have e:i=n:=by omega
  subst e;exact .inl (stop ys H1 p)
def Mz(t:TS):TS:=λD σ H=>∃M:L2.St->Hp->Prop,t { D with nx:=M} σ H/\∀σ' H',M σ' H'->D.nx σ' H'
theorem qh{X:Cx}{st:Stmt}{t:TS}(h:QS X st t):QS X st (Mz t):=⟨by
 intro pins s σ H D I q;obtain⟨M,q,k⟩:=q;refine bZ (h.p pins s σ H _ I q) λf s' z=>?_
 cases f with
 |next=>obtain⟨σ',H',I',m⟩:=z;exact⟨σ',H',I',k _ _ m⟩
 |brk=>exact z
 |cont=>exact z
 |ret u=>exact z⟩
abbrev Ln:=Nat×Nat
inductive iN(es:List Ln):Nat->Nat->Prop where
 |one {a b:Nat} (h:(a,b)∈es):iN es a b
 |step {a b c:Nat} (h:(a,b)∈es) (t:iN es b c):iN es a c
theorem iN.trans(x:iN es a b)(y:iN es b c):iN es a c:=by
 induction x with
 |one h=>exact .step h y
 |step h _ ih=>exact .step h (ih y)
def uZ(n:Nat)(es:List Ln):Prop:=∀e∈es,e.1<n/\e.2<n
def Ml(n:Nat)(es:List Ln)(L:Nat->Nat->Bool):Prop:=∀i j,i<n->j<n->(L i j=true↔iN es j i)
def O9(L:Nat->Nat->Bool)(a b:Nat):Nat->Nat->Bool:=λi j=>L i j||((decide (i=b)||L i b)&&(decide (j=a)||L a j))
theorem Fe(n:Nat):Ml n [] (λ_ _=>false):=λi j _ _=>by
 constructor
 ·intro h;cases h
 ·intro h
  cases h with
  |one m=>cases m
  |step m _=>cases m
structure Rx(n:Nat)(es:List Ln)(v:Nat->Int)(ps:Nat->Nat)(r k:Nat)(F:Nat->Int):Prop where
 bas:∀i,i<n->v i≤F i
 att:∀i,i<n->∃j,j<n/\(j=i∨iN es j i)/\F i=v j
 don:∀i,i<n->ps i<r->∀j,j<n->(j=i∨iN es j i)->v j≤F i
 cur:∀m a b,m<k->es[m]?=some (a,b)->ps b≤r->∀j,j<n->(j=a∨iN es j a)->v j≤F b
def OO(F:Nat->Int)(a b:Nat):Nat->Int:=λi=>if i=b then max (F b) (F a) else F i
structure J0(n:Nat)(es:List Ln)(v:Nat->Int)(F:Nat->Int):Prop where
 up:∀i j,i<n->j<n->(j=i∨iN es j i)->v j≤F i
 att:∀i,i<n->∃j,j<n/\(j=i∨iN es j i)/\F i=v j
def Dh(es:List Ln):List Ln:=es.map λe=>(e.2,e.1)
theorem vg:(a,b)∈Dh es↔(b,a)∈es:=by
 unfold Dh;rw[Qg];constructor
 ·rintro⟨⟨x,y⟩,m,e⟩
  cases e
  exact m
 ·exact λm=>⟨_,m,Z⟩
theorem vf:iN (Dh es) a b↔iN es b a:=by
 have f:∀{fs:List Ln} {a b:Nat},iN fs a b->iN (Dh fs) b a:=λ{fs a b} h=>by
  induction h with
  |one m=>exact .one (vg.mpr m)
  |step m _ ih=>exact ih.trans (.one (vg.mpr m))
 have ss:Dh (Dh es)=es:=by unfold Dh;rw[R6];exact List.map_id' _
 exact⟨λh=>by have:=f h;rw[ss] at this;exact this,f⟩
def LV(r r' r'':R2)(ta tb tc td:TE):TE:=λσ H Q=>ta σ H λx H1=>tb σ H1 λy H2=>r x y H2 λz H3=>∃k,z=.bl k∧
 (if k=true then tc σ H3 λw' H4=>r' y w' H4 λz' H5=>∃k',z'=.bl k'/\(if k'=true then td σ H5 λu' H6=>r'' w' u' H6 Q else Q (.bl false) H5) else Q (.bl false) H3)
theorem gx:fillsNumberSlot (.type "tuple") "mul"=Sq false:=
 PySem.fillsNumberSlot_seq (id := "tuple.__mul__") (r:=some (.builtin "tuple.__rmul__")) F.slot_tuple_mul.lookup (by decide +kernel) F.slot_tuple_rmul.lookup (by decide +kernel)
theorem jr:seqRepeat? (.type "tuple")=Sq (some (.builtin "tuple.__mul__")):=by
 unfold seqRepeat?;rw[YW (T := "tuple") (name := "__mul__") (id := "tuple.__mul__") F.slot_tuple_mul.lookup (by decide +kernel),YW (T := "tuple") (name := "__rmul__") (id := "tuple.__rmul__") F.slot_tuple_rmul.lookup (by decide +kernel)];rfl
theorem hV(a:Int)(t:Z5)(l:Addr)(items:Array Value)(n:Nat)(dd:Option Addr)(sl:Array (Option Value)) :
  Meets (Q8.«int.__rmul__» ⟨[.int a t,.ref l],[]⟩) (λ_ R s=>s.heap.get? l=some { cls:=.type "tuple",dict:=dd,data:=.seq items n,slots:=sl}/\R (.ok (.ret Value.notImplemented)) s):=
 .of_wp λprog w A R s h=>by obtain⟨hp,g,d,tk,os⟩:=s;obtain⟨hl,h⟩:=h;wp_walk;exact⟨_,Z,h⟩
theorem tS(l:Addr)(items:Array Value)(n:Nat)(dd:Option Addr)(sl:Array (Option Value))(x:Int)(u:Z5)(hc0:¬(decide (x < -(2^63))||decide (x≥2^63))=true)(hc1:¬(items.isEmpty||x==1)=true)(hc2:¬(decide (x≤0)||items.isEmpty)=true)(hc3:¬(items.size:Int)*x>(2^63-1)/8)(hc4:¬V4 (items.size*x)=true)(hsz:(Vn (λx1 x2=>x1++x2) #[] (Qn x.toNat items)).size≤sizeLine) :
  Meets (Q8.«tuple.__mul__» ⟨[.ref l,.int x u],[]⟩) (λ_ R s=>s.heap.get? l=some { cls:=.type "tuple",dict:=dd,data:=.seq items n,slots:=sl}/\R (.ok (.ret (QQ s.heap.objs.size))) { s with heap:=s.heap.push { cls:=TY "tuple",data:=Zh.seq (Vn (λx1 x2=>x1++x2) #[] (Qn x.toNat items))},toks:=s.toks}):=
 .of_wp λprog w A R s h=>by
  obtain⟨hp,g,d,tk,os⟩:=s;obtain⟨hl,h⟩:=h;have f1:=YX;have f2:=Wq;have f3:=Xc;have f4:=WC;have f5:=WD
  wp_walk using wpAny_loadPart' hl
  refine Xl (Sy hc0) ?_
  wp_walk using wpAny_loadPart' hl
  refine Xl (Sy hc3) ?_
  wp_walk using wpAny_loadPart' hl
  exact⟨_,Z,h⟩
theorem we{xs:List V}{n:Nat}:iH xs none (some (n:Int))=xs.take n:=by
 by_cases h:n≤xs.length
 ·exact Jy h
 ·unfold iH;rw[HT.sIx_nat,HT.sIx_none,YC,Xy,Nat.min_eq_right (by omega),Tg (P7 _),Tg (by omega)]
section
variable {prog:Q4}{w:Rm}{A:Rg}{E:Value->Qc->Prop}{s:Qc}
end
def OD(K:P4)(te:TE):TE:=λσ H Q=>te σ H λx H1=>∃a xs,x=.ref a/\bF K H1 a xs/\∀p,H1 p=none->Q (.ref p) (upd H1 p (.tup xs.reverse))
theorem sS{b:Int}(h:0<b):(0:Rat)<(b:Rat):=by
 have:=RC.mpr h;exact this
theorem jh(hr:0<r.2)(hq:0<q.2):cP r q=true↔val r<val q:=by
 rw[BR,←RC,Rj,Rj];have h1:=sS hr;have h2:=sS hq;have e1:(r.1:Rat)=val r*(r.2:Rat):=by
  have:=cU hr;unfold val;generalize (r.1:Rat)=x at *;generalize (r.2:Rat)=y at *;grind
 have e2:(q.1:Rat)=val q*(q.2:Rat):=by
  have:=cU hq;unfold val;generalize (q.1:Rat)=x at *;generalize (q.2:Rat)=y at *;grind
 rw[e1,e2];generalize val r=x at *;generalize val q=y at *;generalize (r.2:Rat)=u at *;generalize (q.2:Rat)=v at *;have c:0<u*v:=Zc h1 h2;constructor
 ·intro h;have h':x*(u*v)<y*(u*v):=by grind
  by_cases w:x<y
  ·exact w
  ·have z:y≤x:=Rat.not_lt.mp w;have:=SX z (R7 c);grind
 ·intro h;have:=Ti h c;grind
theorem jg(hr:0<r.2)(hq:0<q.2):cP r q=false↔val q≤val r:=by
 have a:=jh hr hq
 cases c:cP r q with
 |true=>
  have:=a.mp c;constructor
  ·intro z;cases z
  ·intro z;grind
 |false=>
  constructor
  ·intro _;by_cases w:val r<val q
   ·rw[a.mpr w] at c;cases c
   ·exact Rat.not_lt.mp w
  ·intro _;rfl
def P1(zs:List R):Prop:=zs.Pairwise λa b=>cP a b=true
end B
namespace L2
open PySem PySem.Spec PyProof.Rows
structure LI(k:Nat)(A:Rg):Prop where
 dp:A.depth+3*k+5<recursionLimit
 un:A.units+16*k+200<cLine
 gd:A.guards=some []
structure Oq(P:Q4)(w:Rm)(K:P4)(mg:QX->Option Value)(base:Qo)(CX:tO)(k:Nat)(f:Addr)(fd:Qh)(ps:List QX)(sp:Sp):Prop where
 len:∀vs H Q E,sp vs H Q E->vs.length=ps.length
 run:∀(A:Rg) (outer:List Zq) (s:Qc) (H:Hp) (args:Args) (us:List Value) (vs:List V) (Q:VK) (E:XK),LI k A->tD P w K mg base A outer s H->WS s fd args (ps.zip us)->bo vs us->sp vs H Q E→
  Uu (QK P w) A (.call (.ref f) args) (CR CX outer P w H s Q E) s
def PR(CX:tO)(P:Q4)(w:Rm)(K:P4)(mg:QX->Option Value)(base:Qo)(N:List QX)(qual:QX)(scope:Uw)(f:Addr)(cd:Value)(A:Rg)(outer:List Zq)(s:Qc)(H:Hp)(E:XK):Cx:={ bL CX P w K mg base N qual scope f cd A outer s H E with calm:=false}
section
variable {X:Cx}{CX:tO}{k:Nat}{f C:Addr}{fd:Qh}{ps:List QX}{sp:Sp}{dvs:List V}{ds:List Value}{E:XK}{x m:QX}{p pos apos:Uf}{e o:Re}{es:List Re}{ta:TE}{t:TA}
end
section
variable {P:Q4}{w:Rm}{K:P4}{mg:QX->Option Value}{base:Qo}
end
end L2
namespace B
open PySem PySem.Spec L2 PyProof.Rows
section
set_option autoImplicit true
set_option relaxedAutoImplicit true
end
def LO(d:Addr)(ob:R9)(kvs:List (cM×V)):It:=
 ⟨λi H=>H d=some (.frz ob (.dK kvs))/\i<kvs.length,
  λi H x H'=>∃p k v,H p=none/\x=.ref p/\kvs[i]?=some (k,v)/\H'=upd H p (.tup [kV k,v]),
  λi H=>H d=some (.frz ob (.dK kvs))/\kvs.length≤i⟩
theorem KV.get:∀{kvs:List (cM×V)} {vs:List (cM×Value)},KV kvs vs->∀{i:Nat} {k:cM} {v:V},kvs[i]?=some (k,v)->∃u,vs[i]?=some (k,u)/\RelV v u
 |_,_,.nil,i,k,v,h=>by simp at h
 | (a,b)::r,(c,d)::t,.cons h z,0,k,v,e=>by
  have e':(a,b)=(k,v):=by simpa using e
  cases e'
  obtain⟨h1,h2⟩:=h;have h1':a=c:=h1;subst h1';exact⟨d,Z,h2⟩
 |_::r,_::t,.cons h z,i+1,k,v,e=>by
  obtain⟨u,q,w⟩:=KV.get z (i:=i) (by simpa using e);exact⟨u,by simpa using q,w⟩
theorem Le(h:nA k u=true):RelV (kV k) u:=by
 rcases cD h with⟨i,t,rfl,rfl⟩ | ⟨x,t,rfl,rfl⟩
 ·exact⟨t,Z⟩
 ·exact⟨t,Z⟩
theorem Jp:entryFor table "dict_itemiterator.__iter__"=some Q8.«dict_keyiterator.__iter__»:=
 entryFor_alias (by kernel_rfl) (by first|rfl|decide +kernel | (unfold String.splitOn;simp +decide [String.splitOnAux])) (by decide +kernel) (by kernel_rfl) (id' := "dict_keyiterator.__iter__")
theorem tR{P:Q4}{w:Rm}{K:P4}{elts:List Re}{x1}{pos:Uf}{it d:Addr}{ob:R9}{kvs:List (cM×V)}{es:Array XH}{ep:Nat}(hob:ob.data=.dict es ep) :
  tj P w K (.Tuple elts x1 pos) (LO d ob kvs) [it] it (λi h=>∃ok ov,IsItemIter h it d i kvs.length ep ok ov) where
 mem:=by simp
 obj:=λi h st c hc=>by
  obtain⟨ok,ov,e⟩:=st;rw[Qj] at hc;subst hc;exact⟨_,e,λv q=>by cases(show Wa _=XF v from q)⟩
 keep:=λi h h' ⟨ok,ov,e⟩ k=>⟨ok,ov,k it (by simp) _ e⟩
 item:=by
  intro X hP hw hK hc i pins s σ H E I hf st hg;subst hP hw hK;obtain⟨hd,hi⟩:=hg;obtain⟨ok,ov,e⟩:=st;obtain⟨q0,z,hds,vs,rel,o,es',ep',d1,d2,d3,d4⟩:=(show ObjOk X.prog X.w H s.heap d (.frz ob (.dK kvs)) from I.hok d _ hd);have eo:o=ob:=RI (d1.symm.trans q0);subst eo;rw[hob] at d3
  cases d3
  have dat:s.heap.DictAt (ca X.prog X.w) d vs ep:=⟨o,es,d1,d2,hob,d4⟩;obtain⟨k,v,hkv'⟩:∃k v,kvs[i]?=some (k,v):=⟨(kvs[i]'hi).1,(kvs[i]'hi).2,P5 hi⟩;obtain⟨u,hu,ru⟩:=KV.get rel hkv';have ndi:it≠d:=λq=>by rw[q] at hf;have:=(hf d (by simp)).1;rw[hd] at this;cases this
  have itl:it<s.heap.objs.size:=Qt e;rw[rel.length] at e;refine wpAny_pyNext_items_item e dat hu λkey h1 hkey eo tup hz hk=>⟨_,Z,wpAny_letOwnedTupleGo_items eo λh2 e2 sb=>?_⟩
  have nt:s.heap.objs.size≠it:=Tw itl;have P:ObjOk X.prog X.w (upd H s.heap.objs.size (.tup [kV k,v])) h2 s.heap.objs.size (.tup [kV k,v]):=
   ⟨by show 2≤sizeLine;decide,[key,u],.cons (Le hkey) (.cons ru .nil),⟨_,sb.extBut _ _ nt tup,Z,_,Z⟩⟩
  have I2:Inv X pins σ (upd H s.heap.objs.size (.tup [kV k,v])) { s with heap:=h2,toks:=s.toks}:=pE I (λc o' n q=>by
   have n':c≠it:=λr=>n (by simp[r])
   exact sb.extBut _ _ n' (hk c o' n' q)) hf (P7 _) P
  refine⟨.ref s.heap.objs.size,_,I2,Z,⟨_,k,v,I.fresh,Z,hkv',Z⟩,⟨key,u,by rw[rel.length];exact e2⟩,λc hc=>?_⟩;have hc':c=it:=by simpa using hc
  rw[hc',ao (T5 nt)];exact(hf it (by simp)).1
 done:=by
  intro X hP hw hK hc i pins s σ H E I hf st hg;subst hP hw hK;obtain⟨hd,hi⟩:=hg;obtain⟨ok,ov,e⟩:=st;obtain⟨q0,z,hds,vs,rel,o,es',ep',d1,d2,d3,d4⟩:=(show ObjOk X.prog X.w H s.heap d (.frz ob (.dK kvs)) from I.hok d _ hd);have eo:o=ob:=RI (d1.symm.trans q0);subst eo;rw[hob] at d3
  cases d3
  have dat:s.heap.DictAt (ca X.prog X.w) d vs ep:=⟨o,es,d1,d2,hob,d4⟩;have hh:X.A.in1.handled=none:=I.ok.hd hc;rw[rel.length] at e hi;refine wpAny_pyNext_items_end hh e dat (Ru hi) λh1 ex=>⟨Z,?_⟩
  exact pG (t':=s.toks) I (λc o' n q=>ex c o' (λr=>n (by simp[r])) q) hf
 self:=λA i s Q E st h=>by
  obtain⟨ok,ov,e⟩:=st;have hT:s.TypeIs (.ref it) "dict_itemiterator" := ⟨_,e,Z⟩;refine wpAny_pyIter_slot hT UJ (SW UJ hT Jp ?_ (PySem.F.args_dict_itemiterator_iter_1 _));show Qw _ _ (ret (.ref it)) _ _ s;exact wpAny_pure ⟨_,Z,"dict_itemiterator",_,hT,PySem.F.slot_dict_itemiterator_next.lookup,h⟩
def B6(td:TE):TI:=λσ H R=>td σ H λx H1=>∃d kvs,x=.ref d/\H1 d=some (.dK kvs)/\∀ob,R (LO d ob kvs) (upd H1 d (.frz ob (.dK kvs)))
theorem A7{X:Cx}{elts:List Re}{x1}{tp apos pos:Uf}{o:Re}{td:TE}(ho:PE X o td)(hb:Tj o "items" X.env (eval o X.env)=eval o X.env:=by rfl)(hl:(apos.endLine==pos.line)=true:=by rfl) :
  PI X (.Tuple elts x1 tp) (.Call (.Attribute o "items" apos) [] [] pos) (B6 td):=by
 intro pins s σ H R I h;refine YA (T := "dict") (id := "dict.items") hb Z hl WB WH PySem.F.type_dict_items (bZ (ho pins s σ H _ I h) λu s1 ⟨x,H1,I1,rx,d,kvs,ex,e,q⟩=>?_);subst ex;obtain rfl:u=QQ d:=rx;obtain⟨z,hds,vs,rel,dd⟩:=Cq I1.hok e;obtain⟨t1,t2,_⟩:=B4 I1 (.inl ⟨kvs,.inl e⟩);refine⟨t1,t2,?_⟩;show Qw _ _ (Ys pos (.builtin "dict.items") [.ref d] [] []) _ _ _;refine method_meetsIn WH PySem.F.entry_dict_items Z (PySem.evalArgs_none ⟨Z,t1,PySem.F.args_dict_items_1 _,_,meets_dict_items (ca X.prog X.w) d hds,⟨vs,dd⟩,?_⟩);obtain⟨o',es,ep,d1,d2,d3,d4⟩:=id dd;have dat:s1.heap.DictAt (ca X.prog X.w) d vs ep:=⟨o',es,d1,d2,d3,d4⟩;refine wpAny_pyIter_items (d:=d) (kvs:=vs) (ep:=ep) ⟨_,QD _ Z,Z,Z⟩ (dat.push _) ?_;have sz:(s1.heap.push { cls:=.type "dict_items",data:=.fields #[.ref d]}).objs.size=s1.heap.objs.size+1:=S6 ..;have I2:=I1.kept (t':=s1.toks) (h':=(s1.heap.push { cls:=.type "dict_items",data:=.fields #[.ref d]}).push { cls:=.type "dict_itemiterator",data:=.fields #[.none,.bool false,.ref d,.int 0 0,.int vs.length 0,.int ep 0,.none,.none]}) λb o q=>Qb _ (Qb _ q)
 have hit:=QD (s1.heap.push { cls:=.type "dict_items",data:=.fields #[.ref d]}) (o:={ cls:=.type "dict_itemiterator",data:=.fields #[.none,.bool false,.ref d,.int 0 0,.int vs.length 0,.int ep 0,.none,.none]}) Z;have dl:d<s1.heap.objs.size:=Qt d1;have k2:∀b o,s1.heap.get? b=some o->((s1.heap.push { cls:=.type "dict_items",data:=.fields #[.ref d]}).push { cls:=.type "dict_itemiterator",data:=.fields #[.none,.bool false,.ref d,.int 0 0,.int vs.length 0,.int ep 0,.none,.none]}).get? b=some o:=λb o q=>Qb _ (Qb _ q)
 generalize (s1.heap.push { cls:=.type "dict_items",data:=.fields #[.ref d]}).push { cls:=.type "dict_itemiterator",data:=.fields #[.none,.bool false,.ref d,.int 0 0,.int vs.length 0,.int ep 0,.none,.none]}=hE at I2 hit k2 ⊢;rw[sz] at hit ⊢;have I3:=lT (h':=hE) (t':=s1.toks) (ob:=.frz o' (.dK kvs)) I2 (by rw[e];exact SV) ⟨Z,λ_ _=>Z⟩ ⟨_,k2 _ _ d1⟩ ⟨k2 _ _ d1,z,hds,vs,rel,o',es,ep,k2 _ _ d1,d2,d3,d4⟩;have nd:s1.heap.objs.size+1≠d:=Tw (U5 dl);refine⟨_,[s1.heap.objs.size+1],_,_,_,Z,I3,tR d3,⟨.none,.none,by rw[rel.length];exact hit⟩,λc hc=>?_,q o'⟩;have hc':c=s1.heap.objs.size+1:=by simpa using hc
 subst hc';exact I1.fpOk (SQ _) (by rw[ao nd];exact I1.hok.fresh (SQ _))
theorem oS{d:Addr}{ob:R9}{kvs:List (cM×V)}{g:TG}{tb:TS}{D:jc}{σ:L2.St}{H:Hp}(Pv:Nat->L2.St->Hp->Prop)(h0:Pv 0 σ H)
  (hl:∀i σ H,Pv i σ H->H d=some (.frz ob (.dK kvs)))
  (hs:∀i k v p σ H,kvs[i]?=some (k,v)->Pv i σ H->H p=none->g (.ref p) σ (upd H p (.tup [kV k,v])) λσ2 H2=>tb { D with nx:=Pv (i+1),ct:=Pv (i+1),bk:=D.nx} σ2 H2) (hd:∀σ H,Pv kvs.length σ H->D.nx σ H) :
  ∃W:Nat->Nat->L2.St->Hp->Prop,(∃m,W 0 m σ H)/\∀i m σ H,W i m σ H→
   ((LO d ob kvs).stop i H/\D.nx σ H)∨((LO d ob kvs).go i H/\∃N:L2.St->Hp->Prop,(∀σ' H',N σ' H'->∃m',m'<m/\W (i+1) m' σ' H')/\∀x H',(LO d ob kvs).yld i H x H'->g x σ H' λσ2 H2=>tb { D with nx:=N,ct:=N,bk:=D.nx} σ2 H2):=by
 refine⟨λi m σ H=>m=kvs.length-i/\i≤kvs.length/\Pv i σ H,⟨_,Z,Qu _,h0⟩,?_⟩;rintro i m σ H ⟨rfl,hi,p⟩;have q:=hl i σ H p;by_cases hlt:i<kvs.length
 ·refine .inr ⟨⟨q,hlt⟩,Pv (i+1),λσ' H' p'=>⟨kvs.length-(i+1),by omega,Z,hlt,p'⟩,λx H' y=>?_⟩;obtain⟨pp,k,v,hp,rfl,hkv,rfl⟩:=y;exact hs i k v pp σ _ hkv p hp
 ·have e:i=kvs.length:=by omega
  subst e;exact .inl ⟨⟨q,P7 _⟩,hd σ H p⟩
def n9(ps:List (Int×Int)):List (cM×V):=ps.map λp=>(SG p.1,V.int p.2)
def tV:List (Int×Int)->Int->Int
 | [],_=>0
 | (c,u)::r,b=>if c=b then u else tV r b
def gc:List (Int×Int)->Int->Int->List (Int×Int)
 | [],b,t=>[(b,0+t)]
 | (c,u)::r,b,t=>if c=b then(c,u+t)::r else(c,u)::gc r b t
theorem AX{p:cM×V}(e:p.1=k)(n:∀q∈r,q.1≠k):dD (p:: r) k v=(k,v):: r:=by
 unfold dD;rw[Z9 (by simp[e]),Q1,Z9 e,e]
 congr 1
 exact(UC (g:=id) (λq hq=>by rw[aaa (n q hq)];rfl)).trans (Zd r)
theorem xB{p:cM×V}(e:¬p.1=k):dD (p:: r) k v=p:: dD r k v:=by
 unfold dD;rw[S1,Sy e,Wp]
 split
 ·rw[Q1,aaa e]
 ·rfl
theorem qA:∀(ps:List (Int×Int)) (b:Int),(iR (n9 ps) (SG b)).getD (V.int 0)=V.int (tV ps b)
 | [],b=>rfl
 | (c,u)::r,b=>by
  show(iR ((SG c,V.int u)::n9 r) (SG b)).getD (V.int 0)=V.int (if c=b then u else tV r b);by_cases e:c=b
  ·rw[Z9 e,eZ (by rw[e])];rfl
  ·rw[aaa e,cm (λz=>e (by injection z)),qA r b]
theorem qi:∀(ps:List (Int×Int)) (b t:Int),(ps.map (·.1)).Nodup->dD (n9 ps) (SG b) (V.int (tV ps b+t))=n9 (gc ps b t)
 | [],b,t,_=>rfl
 | (c,u)::r,b,t,nd=>by
  have nd':=Rq.mp nd;show dD ((SG c,V.int u)::n9 r) (SG b) (V.int ((if c=b then u else tV r b)+t))=n9 (if c=b then(c,u+t)::r else(c,u)::gc r b t);by_cases e:c=b
  ·rw[Z9 e,Z9 e,AX (by rw[e]) (λq hq z=>?_)]
   ·show _=(SG c,V.int (u+t))::n9 r;rw[e]
   ·obtain⟨p,hp,rfl⟩:=Qg.mp hq;have z':p.1=b:=by injection z
    exact nd'.1 (Qg.mpr ⟨p,hp,z'.trans e.symm⟩)
  ·rw[aaa e,aaa e,xB (λz=>e (by injection z)),qi r b t nd'.2];rfl
def iT:List (Int×Int)->Rat
 | []=>0
 |p::r=>(p.2:Rat)/(p.1:Rat)+iT r
theorem Fl{a b c:Rat}:(a+b)/c=a/c+b/c:=by rw[Ze,Ze,Ze,Rat.add_mul]
theorem mj:∀(ps:List (Int×Int)) (b t:Int),iT (gc ps b t)=iT ps+(t:Rat)/(b:Rat)
 | [],b,t=>by
  show((0+t:Int):Rat)/(b:Rat)+0=0+(t:Rat)/(b:Rat);rw[TC];grind
 | (c,u)::r,b,t=>by
  show iT (if c=b then(c,u+t)::r else(c,u)::gc r b t)=(u:Rat)/(c:Rat)+iT r+(t:Rat)/(b:Rat);by_cases e:c=b
  ·rw[Z9 e];show((u+t:Int):Rat)/(c:Rat)+iT r=_;rw[Vz,Fl,e];grind
  ·rw[aaa e];show(u:Rat)/(c:Rat)+iT (gc r b t)=_;rw[mj r b t];grind
theorem j7:∀(ps:List (Int×Int)) (p:Int×Int),iT (ps++[p])=iT ps+(p.2:Rat)/(p.1:Rat)
 | [],p=>by show(p.2:Rat)/(p.1:Rat)+0=0+_;grind
 |q::r,p=>by
  show(q.2:Rat)/(q.1:Rat)+iT (r++[p])=(q.2:Rat)/(q.1:Rat)+iT r+_;rw[j7 r p];grind
structure lE(n i:Nat)(ps:List (Int×Int)):Prop where
 nd:(ps.map (·.1)).Nodup
 len:ps.length≤i
 bot:∀p∈ps,0<p.1/\p.1.natAbs<2^n
 top:∀p∈ps,p.2.natAbs≤i*2^n
theorem jW:∀(ps:List (Int×Int)) (b t:Int) (c:Int),c∈(gc ps b t).map (·.1)↔c∈ps.map (·.1)∨c=b
 | [],b,t,c=>by simp[gc]
 | (d,u)::r,b,t,c=>by
  show c∈(if d=b then(d,u+t)::r else(d,u)::gc r b t).map (·.1)↔_;by_cases e:d=b
  ·rw[Z9 e];constructor
   ·intro h;exact .inl h
   ·rintro (h|h)
    ·exact h
    ·exact Qm.mpr (.inl (h.trans e.symm))
  ·rw[aaa e,Q1,Q1,Qm,Qm,jW r b t c];exact or_assoc.symm
theorem CP:∀(ps:List (Int×Int)) (b t:Int),(ps.map (·.1)).Nodup->((gc ps b t).map (·.1)).Nodup
 | [],b,t,_=>by simp[gc]
 | (d,u)::r,b,t,nd=>by
  have nd':=Rq.mp nd;show((if d=b then(d,u+t)::r else(d,u)::gc r b t).map (·.1)).Nodup;by_cases e:d=b
  ·rw[Z9 e];exact nd
  ·rw[aaa e,Q1,Rq];refine⟨λz=>?_,CP r b t nd'.2⟩;rcases(jW r b t d).mp z with h|h
   ·exact nd'.1 h
   ·exact e h
theorem wI:∀(ps:List (Int×Int)) (b t:Int),(gc ps b t).length≤ps.length+1
 | [],b,t=>P7 1
 | (d,u)::r,b,t=>by
  show(if d=b then(d,u+t)::r else(d,u)::gc r b t).length≤_
  split
  ·exact SQ _
  ·exact Vm (wI r b t)
theorem wH:∀(ps:List (Int×Int)) (b t:Int) (M N:Nat),(∀p∈ps,p.2.natAbs≤M)->t.natAbs≤N->∀p∈gc ps b t,p.2.natAbs≤M+N
 | [],b,t,M,N,_,ht,p,hp=>by
  have e:p=(b,0+t):=by simpa [gc] using hp
  rw[e];show(0+t).natAbs≤M+N;omega
 | (d,u)::r,b,t,M,N,h,ht,p,hp=>by
  have hu:u.natAbs≤M:=h (d,u) Qd;have hr:∀q∈r,q.2.natAbs≤M:=λq hq=>h q (Qe _ hq)
  have hp':p∈(if d=b then(d,u+t)::r else(d,u)::gc r b t):=hp
  split at hp'
  ·rcases Qm.mp hp' with e|e
   ·rw[e];show(u+t).natAbs≤M+N;omega
   ·have:=hr p e;omega
  ·rcases Qm.mp hp' with e|e
   ·rw[e];show u.natAbs≤M+N;omega
   ·exact wH r b t M N hr ht p e
theorem lE.add(h:lE n i ps)(w:Wf n r):lE n (i+1) (gc ps r.2 r.1) where
 nd:=CP ps r.2 r.1 h.nd
 len:=QU (wI ps r.2 r.1) (Vm h.len)
 bot:=λp hp=>by
  rcases(jW ps r.2 r.1 p.1).mp (Qg.mpr ⟨p,hp,Z⟩) with z|z
  ·obtain⟨q,hq,e⟩:=Qg.mp z;rw[←e];exact h.bot q hq
  ·rw[z];exact⟨w.pos,w.bot⟩
 top:=λp hp=>by
  have:=wH ps r.2 r.1 (i*2^n) (2^n) h.top (T0 w.top) p hp;rw[Za,Nat.one_mul];exact this
theorem lE.nil(n:Nat):lE n 0 []:=⟨TR,P7 _,(λ_ h=>nomatch h),(λ_ h=>nomatch h)⟩
theorem lE.wf(h:lE n i ps)(hi:i≤255)(hp:p∈ps):Wf (n+8) (fo p.2 p.1):=by
 refine IW (h.bot p hp).1 ?_ (QJ (h.bot p hp).2 (SD (by decide) (by omega)));have a:=h.top p hp;have b:i*2^n≤255*2^n:=S8 _ hi;have c:0<2^n:=Zf (by decide);rw[Xs];omega
def iQ:List R->Rat
 | []=>0
 |r::t=>val r+iQ t
theorem j4:∀(rs:List R) (r:R),iQ (rs++[r])=iQ rs+val r
 | [],r=>by show val r+0=0+val r;grind
 |q::t,r=>by show val q+iQ (t++[r])=val q+iQ t+val r;rw[j4 t r];grind
theorem qQ:∀(rs:List R) (acc:R),gf acc->(∀r∈rs,gf r)->gf (rs.foldl bP acc)/\val (rs.foldl bP acc)=val acc+iQ rs
 | [],acc,ha,_=>⟨ha,by show val acc=val acc+0;grind⟩
 |r::t,acc,ha,h=>by
  have hr:=h r Qd;obtain⟨a,b⟩:=qQ t (bP acc r) (A3 ha hr) λq hq=>h q (Qe _ hq)
  refine⟨a,?_⟩;rw[Rs,b,jf ha.pos hr.pos];show val acc+val r+iQ t=val acc+(val r+iQ t);grind
theorem gJ:val (0,1)=0:=by decide +kernel
theorem um:gf (0,1):=⟨by decide,by decide⟩
theorem je(h:∀r∈rs,gf r):gf (eK rs)/\val (eK rs)=iQ rs:=by
 obtain⟨a,b⟩:=qQ rs (0,1) um h;refine⟨a,b.trans ?_⟩;rw[gJ];grind
theorem zb(h:∀r∈rs,gf r)(hx:gf x)(e:val x=iQ rs):x=eK rs:=
 fS hx (je h).1 (e.trans (je h).2.symm)
theorem Wf.red(h:Wf n r):gf r:=⟨h.pos,h.cop⟩
section
set_option autoImplicit true
set_option relaxedAutoImplicit true
theorem AU   : QE X (.Dict [] [] pos) yX:=⟨Bg ⟩
theorem AW(hu:X.A.units+1<cLine)(ho:QE X o td)(he:QE X e ty)(hf:QE X f tx)(m:M2 X o "get" apos e f cpos):QE X (.Call (.Attribute o "get" apos) [e,f] [] cpos) (yY td ty tx):=⟨Bi hu ho.p he.p hf.p m⟩
theorem vA(hu:X.A.units+1<cLine)(ho:QE X o td)(hi:QE X i ty)(hv:QE X value tv)(hs:S9 value (some (.Subscript o i pos')) pos.line X.env=Sq false):QS X (.Assign [.Subscript o i pos'] value pos) (FP td ty tv):=⟨DY hu ho.p hi.p hv.p hs⟩
theorem AQ{X:Cx}{elts:List Re}{x1}{tp apos pos:Uf}{o:Re}{td:TE}(ho:QE X o td)(hb:Tj o "items" X.env (eval o X.env)=eval o X.env:=by rfl)(hl:(apos.endLine==pos.line)=true:=by rfl):QI X (.Tuple elts x1 tp) (.Call (.Attribute o "items" apos) [] [] pos) (B6 td):=⟨A7 ho.p hb hl⟩
end
abbrev Pl:=Nat×Nat
def bK(p:Pl):Int:=(p.2:Int)-p.1+1
def nU(p q:Pl):Prop:=p.1<q.1∨(p.1=q.1/\q.2≤p.2)
structure ot(S:Pl->Prop)(L:Pl->Int)(p:Pl):Prop where
 inn:S p
 all:∀q,S q->L q*bK p<L p*bK q∨(L q*bK p=L p*bK q/\nU p q)
def gU(n:Nat)(p:Pl):Prop:=p.1≤p.2/\p.2<n
theorem gU.pos(h:gU n p):0<bK p:=by unfold bK;have:=h.1;omega
theorem ot.scale(ha:0<a)(hb:0<b)(e:∀q,M q*a=L q*b)(h:ot S L p):ot S M p:=by
 refine⟨h.inn,λq hq=>?_⟩;have k1:(M q*bK p)*a=(L q*bK p)*b:=by rw[RA,e,RA]
 have k2:(M p*bK q)*a=(L p*bK q)*b:=by rw[RA,e,RA]
 rcases h.all q hq with z | ⟨z,o⟩
 ·refine .inl (Uo (a:=a) ?_ (R5 ha));rw[k1,k2];exact Ui z hb
 ·refine .inr ⟨To (Int.ne_of_gt ha) ?_,o⟩;rw[k1,k2,z]
theorem v5{l p q lr lp lq:Int}(hr:0<lr)(hp:0<lp)(hq:0<lq)(h1:l*lp≤p*lr)(h2:p*lq<q*lp):l*lq<q*lr:=by
 refine Uo (a:=lp) ?_ (R5 hp);have a1:l*lq*lp=l*lp*lq:=RA _ _ _;have a2:q*lr*lp=q*lp*lr:=RA _ _ _;have b1:l*lp*lq≤p*lr*lq:=TU h1 (R5 hq);have b2:p*lr*lq=p*lq*lr:=RA _ _ _;have b3:p*lq*lr<q*lp*lr:=Ui h2 hr;omega
theorem E3{l p q lr lp lq:Int}(hr:0<lr)(hp:0<lp)(hq:0<lq)(h1:l*lp<p*lr)(h2:p*lq≤q*lp):l*lq<q*lr:=by
 refine Uo (a:=lp) ?_ (R5 hp);have a1:l*lq*lp=l*lp*lq:=RA _ _ _;have a2:q*lr*lp=q*lp*lr:=RA _ _ _;have b1:l*lp*lq<p*lr*lq:=Ui h1 hq;have b2:p*lr*lq=p*lq*lr:=RA _ _ _;have b3:p*lq*lr≤q*lp*lr:=TU h2 (R5 hr);omega
theorem E4{l p q lr lp lq:Int}(hp:0<lp)(h1:l*lp=p*lr)(h2:p*lq=q*lp):l*lq=q*lr:=by
 refine To (a:=lp) (Int.ne_of_gt hp) ?_;have a1:l*lq*lp=l*lp*lq:=RA _ _ _;have a2:q*lr*lp=q*lp*lr:=RA _ _ _;have b2:p*lr*lq=p*lq*lr:=RA _ _ _;rw[a1,a2,h1,b2,h2]
theorem ot.more(h:ot S L p)(st:∀r,S' r->gU n r)(e:∀r,S' r↔S r∨r=q)(gt:L p*bK q<L q*bK p):ot S' L q:=by
 have iq:S' q:=(e q).mpr (.inr Z);have ip:S' p:=(e p).mpr (.inl h.inn);refine⟨iq,λr hr=>?_⟩;rcases(e r).mp hr with z|z
 ·refine .inl (v5 (st r hr).pos (st p ip).pos (st q iq).pos ?_ gt);rcases h.all r z with z | ⟨z,_⟩
  ·exact R5 z
  ·exact Int.le_of_eq z
 ·subst z;exact .inr ⟨Z,.inr ⟨Z,P7 _⟩⟩
theorem ot.stay(h:ot S L p)(e:∀r,S' r↔S r∨r=q)(le:L q*bK p≤L p*bK q)(o:nU p q∨L q*bK p≠L p*bK q):ot S' L p:=by
 refine⟨(e p).mpr (.inl h.inn),λr hr=>?_⟩;rcases(e r).mp hr with z|z
 ·exact h.all r z
 ·subst z;by_cases c:L r*bK p=L p*bK r
  ·rcases o with o|o
   ·exact .inr ⟨c,o⟩
   ·exact aad c o
  ·exact .inl (by omega)
theorem ot.congr(h:ot S L p)(e:∀r,S' r↔S r):ot S' L p:=⟨(e p).mpr h.inn,λq hq=>h.all q ((e q).mp hq)⟩
def gA(n b e:Nat)(p:Pl):Prop:=gU n p/\(p.1<b∨(p.1=b/\e≤p.2))
def Om(n b e:Nat)(p:Pl):Prop:=gU n p/\(p.1<b∨(p.1=b/\p.2<e))
theorem ua(h1:b≤e)(h2:e<n)(r:Pl):gA n b e r↔gA n b (e+1) r∨r=(b,e):=by
 obtain⟨x,y⟩:=r;unfold gA gU;rw[Prod.mk.injEq];show(x≤y/\y<n)/\_↔((x≤y/\y<n)/\_)∨_;simp only;omega
theorem ub(r:Pl):gA n (b+1) n r↔gA n b b r:=by
 obtain⟨x,y⟩:=r;unfold gA gU;simp only;omega
theorem xi(r:Pl):gU n r↔gA n n n r:=by
 obtain⟨x,y⟩:=r;unfold gA gU;simp only;omega
abbrev Wn:=Option (Nat×Nat)
def gT(b e:Nat):Wn->Bool
 |none=>false
 |some (x,y)=>decide (b≤x)&&decide (y≤e)
def cK(ws:List Wn)(p:Pl):List Nat:=(P6 ws.length).filter λi=>gT p.1 p.2 (ws.getD i none)
def dr(ws:List Wn)(A:Nat->Int)(p:Pl):Int:=((cK ws p).map A).sum
theorem iU{A:Nat->Int}(h:∀i,0≤A i):∀l:List Nat,0≤(l.map A).sum
 | []=>Vt _
 |x::l=>by
  rw[Q1,UK];have:=h x;have:=iU h l;omega
theorem oE{A C:Nat->Int}{a b:Int}:∀l:List Nat,(∀i∈l,C i*a=A i*b)->(l.map C).sum*a=(l.map A).sum*b
 | [],_=>by simp
 |x::l,h=>by
  rw[Q1,UK,Q1,UK,Xw,Xw,h x Qd,oE l λi hi=>h i (Qe _ hi)]
def qm(ns:List Int):List Int:=ns.foldl step_dedup []
def NO(K:P4):List V->Hp->VK->Prop:=λxs H Q=>∃p ns,xs=[.ref p]/\aX K H p (ns.map V.int)/\ns.length≤1000/\∀l,H l=none->Q (.ref l) (upd H l (.set (λk=>(qm ns).any (·==k)) (qm ns).length))
def NP:List V->Hp->VK->Prop:=λxs H Q=>∃p S n,xs=[.ref p]/\H p=some (.set S n)/\Q (.int n) H
def Nd(xs:Array Nat):Prop:=∀i j (_:i<j) (hj:j<xs.size),xs[i]'(by omega)<xs[j]
def Nc(t:SetTable):Prop:=t.plain=true->t.dummies=#[]/\Nd t.place
section
variable {prog:Q4}{w:Rm}{A:Rg}{E:Value->Qc->Prop}{s:Qc}
def Mp:Value->Int
 | .int n _=>n
 |_=>0
def JL(w:Rm)(h:Qo)(a:Addr)(ks:List Int):Prop:=∃o es ep t,h.get? a=some o/\o.ExactSet/\o.data=.set es ep t/\(∀e∈es.toList,∃n u,e=(hashInt n,R1 n u))∧
 (es.toList.map λe=>Mp e.2).Perm ks/\t.fits es.size=true/\Nc t/\t.led=!w.params.followText "set-order"
end
section
variable {prog:Q4}{w:Rm}{A:Rg}{E:Value->Qc->Prop}{s:Qc}
def JY(w:Rm):R9:={ cls:=.type "set",dict:=none,data:=.set #[] 0 (.fresh 0 0 (!w.params.followText "set-order"))}
variable {R:YO->Qc->Prop}{I:Addr}{fp wr:List Addr}{G:Array GenState->Array GenState->Prop}{n:Nat}{P:Nat->Value->Prop}{St:Nat->Qc->Prop}
end
section
variable {prog:Q4}{w:Rm}{A:Rg}{E:Value->Qc->Prop}{s:Qc}
end
namespace FS
end FS
section
variable {prog:Q4}{w:Rm}{A:Rg}{E:Value->Qc->Prop}{s:Qc}
def ON(first:Value)(i:Nat)(a:Addr)(n ep:Nat):R9:={ cls:=.type "set_iterator",data:=.fields #[first,.int i 0,.ref a,.int n 0,.int ep 0]}
end
end B
namespace B
open PySem PySem.Spec L2 PyProof.Rows
section
variable {prog:Q4}{w:Rm}{A:Rg}{E:Value->Qc->Prop}{s:Qc}
end
section
variable {prog:Q4}{w:Rm}{A:Rg}{E:Value->Qc->Prop}{s:Qc}
def Nb(prog:Q4)(w:Rm)(a:Addr)(ks:List Int)(s:Qc)(It:Addr)(s1:Qc):Prop:=
 ∃(fp:List Addr) (items:Array Value) (St:Nat->Qc->Prop),(∀A':Rg,A'.handled=none->WalksS prog w A' It fp [It] (λa b=>b=a) items.size (λi v=>items[i]?=some v) St)/\St 0 s1/\It∈fp/\(∀b∈fp,b<s1.heap.objs.size/\(b=a∨s.heap.objs.size≤b))∧
  s.heap.objs.size≤It/\∃ms,XI items.toList ms/\ms.Perm ks
def NI(t:SetTable):Nat->Nat
 |0=>0
 |k+1=>t.place.getD k 0+1
end
def NT(K:P4):V->List V->Hp->VK->Prop:=λx vs H Q=>∃l b xs zs,x=.ref l/\vs=[.ref b]/\H l=some (.lst xs)/\bF K H b zs/\xs.length+zs.length≤1000/\Q .non (upd H l (.lst (xs++zs)))
def NM(K:P4):List V->Hp->VK->Prop:=λxs H Q=>∃p ns,xs=[.ref p]/\(aX K H p (ns.map V.int)∨bF K H p (ns.map V.int))/\ns.length<64/\∀(l:Addr) (ms:List Int),ms.Perm ns->ms.Pairwise (·≤·)->H l=none->Q (.ref l) (upd H l (.lst (ms.map V.int)))
section
variable {prog:Q4}{w:Rm}{A:Rg}{E:Value->Qc->Prop}{s:Qc}
end
def Ku(w:Rm)(a:Addr)(ks:List Int):HO:=.ext λh=>JL w h a ks
def NN(w:Rm)(K:P4):List V->Hp->VK->Prop:=λxs H Q=>∃p ns,xs=[.ref p]/\(aX K H p (ns.map V.int)∨bF K H p (ns.map V.int))/\ns.length≤1000/\∀l,H l=none->Q (.ref l) (upd H l (Ku w l (qm ns)))
def MC(w:Rm):List V->Hp->VK->Prop:=λxs H Q=>∃p ks,xs=[.ref p]/\H p=some (Ku w p ks)/\ks.length<64/\∀(l:Addr) (ms:List Int),ms.Perm ks->ms.Pairwise (·≤·)->H l=none->Q (.ref l) (upd H l (.lst (ms.map V.int)))
def Nx(ta:TA):TE:=λσ H Q=>ta σ H λvs H1=>∃i j:Int,vs=[.int i,.int j]/\∀p,H1 p=none->Q (.ref p) (upd H1 p (.rng i j))
def L6:R2:=λx y H Q=>∃(i:Int) (p:Addr) (lo hi:Int),x=.int i/\y=.ref p/\H p=some (.rng lo hi)/\Q (.bl (!(decide (lo≤i)&&decide (i<hi)))) H
section
set_option autoImplicit true
set_option relaxedAutoImplicit true
end
def Lr(lo n:Nat):List Nat:=(P6 n).map λi=>lo+i
def OX:List V->Hp->VK->Prop:=λxs H Q=>∃p,∃lo n:Nat,xs=[.ref p]/\H p=some (.rng (lo:Int) ((lo+n:Nat):Int))/\lo+n≤1000/\∀l,H l=none->Q (.ref l) (upd H l (.lst ((Lr lo n).map λi:Nat=>V.int i)))
theorem kH{α β:Type}{K:P4}{H:Hp}{D a:Addr}{xs:List V}{ds:List α}{P:Hp->V->β->Prop}{f:α->β}{src:List (Option Nat)}{σ:L2.St}{g:TG}{tt:TT}{te:TE}{Q:Hp->Prop}
  (mono:∀H H' v d,aK K H H'->P H v d->P H' v d) (hD:H D=none) (hS:aX K H a xs) (hl:xs.length=ds.length) (hn:ds.length≤1000)
  (turn:∀(i:Nat) (x:V) (d:α) (H':Hp),xs[i]?=some x->ds[i]?=some d->aH H H'->∀(R:VK) (E:Hp->Prop),(∀v H'',aH H' H''->P H'' v (f d)->R v H'')→
   g x (cf src σ) H' λσ2 H2=>gD (cf src σ) σ2/\tt σ2 H2 λok H3=>if ok=true then te σ2 H3 R else E H3)
  (fin:∀H' ys,aH H H'->H' D=some (.lst ys)->b8 (P H') ys (ds.map f)->Q H') :
  ∃W:Nat->Nat->List V->Hp->Prop,(∃m,W 0 m [] (upd H D (.lst [])))/\∀i m ys H,W i m ys H->((yC K a).stop i H/\Q H)∨((yC K a).go i H/\∀x H',(yC K a).yld i H x H'→
   g x (cf src σ) H' λσ2 H2=>gD (cf src σ) σ2/\tt σ2 H2 λok H3=>
    if ok=true then te σ2 H3 λy H4=>H4 D=some (.lst ys)/\ys.length<sizeLine/\∃m',m'<m/\W (i+1) m' (ys++[y]) (upd H4 D (.lst (ys++[y]))) else ∃m',m'<m/\W (i+1) m' ys H3):=by
 refine⟨λi m ys H'=>i≤ds.length/\m=ds.length-i/\H' D=some (.lst ys)/\aH H H'/\b8 (P H') ys ((ds.take i).map f),⟨_,Qu _,Z,ah,au hD _,.nil⟩,?_⟩;rintro i m ys H1 ⟨hi,rfl,d1,s1,al1⟩;have hS1:aX K H1 a xs:=s1.seq hS;by_cases hix:i<ds.length
 ·have hx0:xs[i]?=some (xs[i]'(by omega)):=P5 _;refine .inr ⟨⟨xs,_,hS1,hx0⟩,?_⟩;rintro x H2 ⟨rfl,hy⟩;have hx:=hy xs hS1;obtain⟨d,hd⟩:∃d,ds[i]?=some d:=⟨_,P5 hix⟩;refine turn i x d _ hx hd s1 _ _ λv H3 s3 p3=>?_
  have d3:H3 D=some (.lst ys):=s3 _ _ d1;have tm:aK K H2 (upd H3 D (.lst (ys++[v]))):=(aK.same s3).trans (aK.up d3 _);refine⟨d3,aQ (by rw[al1.len,P8,Rv];omega),ds.length-(i+1),by omega,hix,Z,ah,λb o q=>?_,?_⟩
  ·rw[ao (aC q hD)];exact s3 _ _ (s1 _ _ q)
  ·rw[Q3,hd,Rh];exact(al1.mono λv d p=>mono _ _ _ _ tm p).snoc (mono _ _ _ _ (aK.up d3 _) p3)
 ·have e:i=ds.length:=by omega
  subst e;rw[Q6] at al1;exact .inl ⟨⟨xs,hS1,by omega⟩,fin H1 ys s1 d1 al1⟩
theorem o4:∀{bs:List Bool} {us:List Value},bo (bs.map V.bl) us->∀{i:Nat} {v:Value},us[i]?=some v->v=.bool (bs.getD i false)
 | [],_,.nil,i,v,e=>by cases e
 |b::bs,_,.cons r t,0,v,e=>by
  rw[UW] at e
  cases e
  exact(show _=UO b from r)
 |b::bs,_,.cons r t,i+1,v,e=>by
  rw[UX] at e;exact o4 t e
theorem pf:∀(bs:List Bool),(P6 bs.length).any (λi=>bs.getD i false)=bs.any id
 | []=>rfl
 |b::bs=>by
  rw[Q2,U8,S1,YD,S1];have:=pf bs;show(b||(P6 bs.length).any (λi=>bs.getD i false))=(id b||bs.any id);rw[this];rfl
theorem yq(hc:X.calm=true):dN X (.builtin "any") (λxs H Q=>∃(p:Addr) (bs:List Bool),xs=[.ref p]/\aX X.K H p (bs.map V.bl)/\Q (.bl (bs.any id)) H):=by
 intro pins s σ H xs us Q I r h;obtain⟨p,bs,rfl,hq,q⟩:=h;obtain⟨u,rfl,rx⟩:=gh r
 cases rx
 obtain⟨its,rv,pl,hz⟩:=I.list hq;have ne:p≠s.heap.objs.size:=by
  obtain⟨o,ho,_⟩:=pl.isList;exact Rf (Qt ho)
 have hlen:its.toArray.size=bs.length:=by rw[QR,←rv.length,P8]
 refine call_any_walk (U0 pl.isList ?_);refine⟨_,_,_,_,_,_,λi=>bs.getD i false,Z,Walks.list (A:=X.A.in1) (I.ok.hd hc) _ p ne its.toArray,⟨⟨_,QD _ Z,Z,Z⟩,pl.isList.push _⟩,λi v s' Q' E' hv hQ=>?_,λh' tk hk=>?_⟩
 ·have e:=o4 rv (i:=i) (v:=v) (by simpa using hv);subst e;exact Sl hQ
 ·rw[hlen,pf];refine⟨.bl _,H,I.kept (t':=tk) λb o e=>hk b o (λz=>?_) (Qb _ e),Z,q⟩;rw[Qj.mp z] at e;exact aad (Qt e) (Ri _)
def NG(te:TE)(i:Nat):TS:=λD σ H=>te σ H λx H1=>∃σ',σ.set i (some x)=σ'/\D.nx σ' H1
section
variable {prog:Q4}{w:Rm}{A:Rg}{E:Value->Qc->Prop}{s:Qc}
end
section
variable {X:Cx}{pins:List (Addr×R9)}{σ:L2.St}{H:Hp}{A:Rg}{E:Value->Qc->Prop}{a kS:Addr}{vs:List Value}{kz:List Int}{f:Value}{e1:Nat}
def Mj(X:Cx)(σ:L2.St)(H:Hp)(A:Rg)(f:Value)(vs:List Value)(kz:List Int):Prop:=
 ∀(i:Nat) (v:Value) (k:Int),vs[i]?=some v->kz[i]?=some k->∀(pins:List (Addr×R9)) (s:Qc),Inv X pins σ H s→
  Qw (QK X.prog X.w) A (call f [v]) (λu s2=>(∃t,u=.int k t)/\Inv X pins σ H s2) (λ_ _=>False) s
end
def Hd(sp:Sp)(key:Nat->Int):List V->Hp->VK->Prop:=λxs H Q=>∃(p:Addr) (n:Nat),xs=[.ref p]/\H p=some (.rng 0 n)/\n<64/\(∀i<n,∀(Qk:VK),Qk (.int (key i)) H->sp [.int (i:Nat)] H Qk λ_ _ _=>False)∧
 ∀(l:Addr) (ms:List Nat),ms.Perm (P6 n)->ms.Pairwise (λa b=>key a≤key b)->H l=none->Q (.ref l) (upd H l (.lst (ms.map λi:Nat=>V.int i)))
def Mu(sp:Sp)(key:Nat->Int)(t:TA):TE:=λσ H Q=>t σ H λvs H1=>Hd sp key vs H1 Q
def KJ:V->List V->Hp->VK->Prop:=λx vs H Q=>∃(l:Addr) (ns:List Nat) (j k:Nat),x=.ref l/\vs=[.int (k:Int)]/\H l=some (.lst (ns.map λi:Nat=>V.int i))/\ns[j]?=some k/\(∀m,m<j->ns[m]?≠some k)/\Q .non (upd H l (.lst ((ns.eraseIdx j).map λi:Nat=>V.int i)))
def MW(k:Int):Value->Bool
 | .int i _=>i==k
 |_=>false
theorem EB:Op X "list.remove" KJ:=by
 intro pins s σ H x vs v us Q I rx rv h;obtain⟨l,ns,j,k,rfl,rfl,hH,hj,hno,q⟩:=h
 cases rx
 obtain⟨u,rfl,ru⟩:=rv.one;obtain⟨t,rfl⟩:=ru;obtain⟨z,its,n,r,hl,e⟩:=I.lstM hH;rw[P8] at z hl;have at_:∀(m:Nat) (w:Value),its[m]?=some w->∃i t',ns[m]?=some i/\w=.int (i:Int) t':=λm w hw=>by
  have hm:m<its.length:=(Qq.mp hw).1;obtain⟨i,hi⟩:∃i,ns[m]?=some i:=⟨_,P5 (by omega)⟩;obtain⟨w',hw',t',e'⟩:=r.get (show(ns.map λi:Nat=>V.int i)[m]?=some (V.int i) by rw[Ql,hi];rfl);rw[hw] at hw'
  cases hw'
  exact⟨i,t',hi,e'⟩
 have jl:j<ns.length:=(Qq.mp hj).1;have mem:∀y,y∈its.toArray->YY y (.int (k:Int) t) (MW k y):=λy hy=>by
  obtain⟨m,hm⟩:=RU (by simpa using hy);obtain⟨i,t',_,rfl⟩:=at_ m y hm;exact YY.int _ _ _ _
 have val:∀m (hm:m<its.toArray.size) (i:Nat),ns[m]?=some i->MW k its.toArray[m]=((i:Int)==(k:Int)):=λm hm i hi=>by
  have e1:its[m]?=some (its.toArray[m]):=by simp only[List.getElem_toArray];exact P5 (by simpa using hm)
  obtain⟨i',t',h1,h2⟩:=at_ m _ e1;rw[hi] at h1
  cases h1
  rw[h2];rfl
 refine Ul F.slot_list_remove ⟨_,e,Z⟩ F.entry_list_remove (F.args_list_remove_2 _ _)
  (MeetsSeq.list_remove l its.toArray n _ (MW k) mem j (by simpa [←hl] using jl) (by rw[val j _ k hj];simp) (λm hm lt=>?_) (by rw[QR];omega)) ⟨e,?_⟩
 ·obtain⟨i,hi⟩:∃i,ns[m]?=some i:=⟨_,P5 (by omega)⟩;rw[val m hm i hi];refine beq_eq_false_iff_ne.mpr λz=>hno m lt ?_
  rw[hi];exact congrArg some (by omega)
 refine⟨.non,_,I.lset (its':=its.eraseIdx j) hH e ?_ ?_ ?_,Z,q⟩
 ·show its.toArray.eraseIdxIfInBounds j=(its.eraseIdx j).toArray;rw[List.eraseIdxIfInBounds_toArray]
 ·have:=r.eraseIdx j;have e2:∀(l:List Nat) (j:Nat),(l.map λi:Nat=>V.int i).eraseIdx j=(l.eraseIdx j).map λi:Nat=>V.int i:=by
   intro l
   induction l with
   |nil=>intro j;rfl
   |cons a l ih=>
    intro j
    cases j with
    |zero=>rfl
    |succ j=>simp only[Q1,WI,ih]
  rw[e2] at this;exact this
 ·rw[P8];have:=List.length_eraseIdx_le ns j;omega
def qM(X:Cx)(N':List QX)(scope:Uw)(y:QX)(cl:List (QX×Addr))(C:Addr)(fp:List Addr)(pins:List (Addr×R9))(s:Qc)(H:Hp):Cx:=
 { X with N:=N',s₀:=s,H₀:=H,env:=U4 scope ((y,C+1)::cl) C X.env,outer:=X.stack,stack:=X.stack,ex:=fp,fn:=λz=>z==y,pn:=X.pn++pins,xe:=λ_ _=>False}
structure kO(X:Cx)(scope:Uw)(y:QX)(cl:List (QX×Addr)):Prop where
 has:∀x,((U4 scope cl 0 X.env).kindOf x=some .cell∨(U4 scope cl 0 X.env).kindOf x=some .free)->x=y∨∃c,cl.lookup x=some c
 up:∀x c,cl.lookup x=some c->X.env.cells.lookup x=some c
 no:cl.lookup y=none
theorem yl(h1:((Yv scope X.env).names.all λz=>!(z.2==.cell||z.2==.free)||(z.1==y)||(cl.lookup z.1).isSome)=true)(h2:iD X cl)(h3:cl.lookup y=none):kO X scope y cl:=by
 refine⟨λx h=>?_,λx c e=>h2.mem _ (mem_of_lookup e),h3⟩;have h4:=Sg.mp h1;have key:∀k:UG,(k=.cell∨k=.free)->(Yv scope X.env).names.lookup x=some k->x=y∨∃c,cl.lookup x=some c:=λk hk e=>by
  have q:=h4 _ (mem_of_lookup e);have z:(k==XW||k==ZP)=true:=by rcases hk with rfl|rfl<;>rfl
  simp only[z,XX,Wp,Zn] at q;rcases q with q|q
  ·exact .inl (VO q)
  ·exact .inr (Ss.mp q)
 rcases h with h|h
 ·exact key _ (.inl Z) h
 ·exact key _ (.inr Z) h
theorem ff{cl:List (QX×Addr)}(h:((y,a):: cl).lookup x=some c):(x=y/\c=a)∨(x≠y/\cl.lookup x=some c):=by
 rw[Uv] at h
 cases e:x==y with
 |true=>
  rw[e] at h;injection h with h;exact .inl ⟨VO e,h.symm⟩
 |false=>
  rw[e] at h;refine .inr ⟨λz=>?_,h⟩;rw[z,beq_self_eq_true] at e
  cases e
theorem vP{cl:List (QX×Addr)}(n:cl.lookup y=none)(h:cl.lookup x=some c):((y,a):: cl).lookup x=some c:=by
 have ne:(x==y)=false:=by
  cases e:x==y with
  |true=>rw[VO e,n] at h;cases h
  |false=>rfl
 rw[Uv,ne];exact h
section
variable {M:Model}{A:Rg}{E:Value->Qc->Prop}{s:Qc}
theorem Ey(hs:∀n:Nat,VN n scope.names cl=(y,n):: cl)(hp:∀h:Qo,YZ h scope.names=h.push { cls:=.type "cell",data:=.cell none})
  (hQ:Q { scope,locals:=s.heap.objs.size,globals,cells:=(y,s.heap.objs.size+1):: cl,qual,func:=none,code:=outer.code,frame:=outer.frame,builtins:=outer.builtins} { s with heap:=(s.heap.push { cls:=.type "dict",data:=.dict #[]}).push { cls:=.type "cell",data:=.cell none} }):
  Qw M A (VY scope globals cl [] qual none .none (some outer)) Q E s:=by
 simp only[VY,US,if_true];refine P9 (wpAny_alloc (P9 (wpAny_layCells _ (λname kind cells=>by cases hkc:kind==XW<;>simp[hkc]) _ _ _ _ ?_)));rw[hs,hp];refine P9 (wpAny_pure (wpAny_pure ?_));rw[show({ s with heap:=s.heap.push { cls:=.type "dict",data:=.dict #[]} }:Qc).heap.objs.size=s.heap.objs.size+1 from S6 ..];exact hQ
end
section
variable {X:Cx}{N':List QX}{scope:Uw}{y:QX}{cl:List (QX×Addr)}{src:List (Option Nat)}{pins:List (Addr×R9)}{σ:L2.St}{H:Hp}{s:Qc}{fp:List Addr}
theorem Cx.compD_ok{C:Addr}(I:Inv X pins σ H s)(hC:s.heap.objs.size≤C)(hk:scope.kind=.function)(hf:∀b∈fp,gX X pins H b)(hfs:∀b∈fp,b<s.heap.objs.size)(hc:kO X scope y cl) :
  (qM X N' scope y cl C fp pins s H).Ok where
 mod:=I.ok.mod
 kind:=hk
 glob:=I.ok.glob
 blt:=I.ok.blt
 above:=hC
 inj:=λa b c e1 e2=>by
  have old:∀z,cl.lookup z=some (C+1)->False:=λz e=>by
   obtain⟨v,o,ho,_⟩:=I.cell z _ (hc.up z _ e);have q:=Qt ho;exact Ri _ (QJ (Rn (SQ C) q) hC)
  rcases ff e1 with⟨h1,h2⟩ | ⟨_,h2⟩
  ·rcases ff e2 with⟨h3,_⟩ | ⟨_,h4⟩
   ·rw[h1,h3]
   ·rw[h2] at h4;exact(old b h4).elim
  ·rcases ff e2 with⟨_,h4⟩ | ⟨_,h4⟩
   ·rw[h4] at h2;exact(old a h2).elim
   ·exact I.ok.inj a b c (hc.up a c h2) (hc.up b c h4)
 has:=λx h=>by
  rcases hc.has x h with z | ⟨c,z⟩
  ·exact⟨C+1,by show((y,C+1)::cl).lookup x=_;rw[z,Uv,beq_self_eq_true]⟩
  ·exact⟨c,vP hc.no z⟩
 cab:=λx c z e=>by
  have zx:x=y:=VO z;rcases ff e with⟨_,h2⟩ | ⟨h1,_⟩
  ·rw[h2];exact QU hC (SQ C)
  ·exact aad zx h1
 hd:=I.ok.hd
 frames:=I.ok.frames
 stk:=.inl Z
 exf:=λb hb=>⟨λz=>by have:=hfs b hb;rw[show b=C from z] at this;exact aad (QJ this hC) (Ri _),λx c e=>by
  rcases ff e with⟨_,h2⟩ | ⟨_,h2⟩
  ·have q:=hfs b hb;intro z;rw[show b=C+1 from z.symm.trans h2] at q;exact Ri _ (QJ (Rn (SQ C) q) hC)
  ·exact(hf b hb).2.2.2.2.1 x c (hc.up x c h2)⟩
 bs:=I.bs
 bsz:=QU I.ok.bsz I.sz
 noex:=λb o e hb=>by
  rcases(hf b hb).2.2.2.1 with z|z
  ·exact I.ok.noex b o e z
  ·rw[(I.ok.bs b o e).1] at z;cases z
 exfs:=λb hb z=>by
  rcases Qm.mp (I.stkSub b z) with q|q
  ·exact(hf b hb).2.1 q
  ·exact(hf b hb).2.2.1 q
 funs:=I.stack
 frf:=I.stkFree
theorem Inv.compD{C:Addr}{h₁:Qo}{m:QX->Option Value}{tk:Nat}(I:Inv X pins σ H s)(hC:C=s.heap.objs.size)(hns:h₁.Ns C m)(hcl1:h₁.IsCell (C+1) none)(keep:∀b o,s.heap.get? b=some o->h₁.get? b=some o)
  (hk:scope.kind=.function) (hf:∀b∈fp,gX X pins H b) (hfs:∀b∈fp,b<s.heap.objs.size) (hc:kO X scope y cl) (hfree:cN X scope cl N' src) :
  Inv (qM X N' scope y cl C fp pins s H) [] (cf src σ) H { s with heap:=h₁,toks:=tk} where
 ok:=Cx.compD_ok I (Tx hC.symm) hk hf hfs hc
 os:=Z
 bare:=I.bare
 base:=Un.kept keep
 loc:=⟨m,hns,λi x v e1 e2 _=>by
  obtain⟨j,hj,hσ,kc,kc',hl⟩:=hfree.at e1 e2;obtain⟨m0,hn0,hl0⟩:=I.loc;obtain⟨u,r,l⟩:=hl0 j x v hj hσ (QV (Q0 kc));rcases l with⟨k,_⟩ | ⟨k,c,e,o,ho,hd⟩
  ·rw[kc] at k;cases k
  ·exact⟨u,r,.inr ⟨.inl kc',c,vP hc.no (hl.trans e),o,keep c o ho,hd⟩⟩⟩
 cell:=λx c e=>by
  rcases ff e with⟨_,h2⟩ | ⟨_,h2⟩
  ·rw[h2];exact⟨none,hcl1⟩
  ·obtain⟨v,o,ho,hd⟩:=I.cell x c (hc.up x c h2);exact⟨v,o,keep _ _ ho,hd⟩
 free:=I.hok.fresh (Tx hC.symm)
 freeC:=λx c e=>by
  rcases ff e with⟨_,h2⟩ | ⟨_,h2⟩
  ·rw[h2];exact I.hok.fresh (by rw[hC];exact SQ _)
  ·exact I.freeC x c (hc.up x c h2)
 pin:=λp hp=>by
  have hp':p∈X.pn++pins:=by
   have z:p∈(X.pn++pins)++[]:=hp;rw[Rp] at z;exact z
  obtain⟨e,n,ne,nf,d⟩:=I.pin p hp';refine⟨keep _ _ e,n,λz=>?_,λz=>?_,d⟩
  ·have:=Qt e;rw[show p.1=C from z,hC] at this;exact Ri _ this
  ·rcases Qm.mp (I.stkSub _ z) with q|q
   ·exact ne q
   ·exact nf q
 hok:=I.hok.kept keep
 len:=by show(cf src σ).length=N'.length;unfold cf;rw[P8,hfree.len]
end
section
variable {X:Cx}{N':List QX}{scope:Uw}{y:QX}{cl:List (QX×Addr)}{src:List (Option Nat)}{tg iter elt:Re}{ifs:List Re}{wi:TI}{g:TG}{tt:TT}{te:TE}{pos:Uf}
theorem yj(hc:X.calm=true)(hi:PI X tg iter wi)(hg:∀C fp pins s H,PG (qM X N' scope y cl C fp pins s H) tg g)(ht:∀C fp pins s H,Ge (qM X N' scope y cl C fp pins s H) ifs tt)
  (he:∀C fp pins s H,PE (qM X N' scope y cl C fp pins s H) elt te) (hfree:cN X scope cl N' src) (hcf:∀n:Nat,VN n scope.names cl=(y,n)::cl) (hcp:∀h:Qo,YZ h scope.names=h.push { cls:=.type "cell",data:=.cell none}) (hkind:scope.kind=.function) (hcl:kO X scope y cl)
  {RR:Value->Addr->YO->Qc->Prop} {pins:List (Addr×R9)} {s:Qc} {σ:L2.St} {H:Hp} {Q:VK} (I:Inv X pins σ H s) (h:jj wi src g tt te σ H Q)
  (hRR:∀D C H' s',Q (.ref D) H'->(∃m,s'.heap.Ns C m)->Inv X pins σ H' s'->yz X pins H' C->RR (.ref D) C (.ok .next) s') :
  Qw (QK X.prog X.w) X.A (eval iter X.env) (λx s₁=>Qw (QK X.prog X.w) X.A (Z1 x) (λitv s₂=>Qw (QK X.prog X.w) X.A (Zr []) (λacc s₃=>
   Qw (QK X.prog X.w) X.A (VY scope X.env.globals cl [] X.env.qual none .none (some X.env)) (λcenv s₄=>
    Uu (QK X.prog X.w) X.A (.compStart (.ListComp elt [⟨tg,iter,ifs,0⟩] scope pos) 0 itv acc { cenv with scope:=Yv scope X.env}) (RR acc cenv.locals) s₄) X.xe s₃) X.xe s₂) X.xe s₁) X.xe s:=by
 refine bZ (hi pins s σ H _ I h) λv s1 h1=>bZ h1 λitv s2 h2=>?_
 obtain⟨it,fp,tn,J,H2,e,I2,T,st2,f2,h2⟩:=h2;subst e;refine RK ?_ (by show 0≤sizeLine;exact Qu _);have hD:H2 s2.heap.objs.size=none:=I2.fresh;have I3:Inv X pins σ (upd H2 s2.heap.objs.size (.lst [])) { s2 with heap:=s2.heap.push { cls:=.type "list",data:=.seq ([]:List Value).toArray} }:=I2.lnew (t':=s2.toks) (its:=[]) .nil (Qu _);obtain⟨W,⟨m0,w0⟩,turn⟩:=h2 s2.heap.objs.size hD;generalize hDe:s2.heap.objs.size=D at I3 turn w0 hD ⊢;have st3:tn 0 (s2.heap.push { cls:=.type "list",data:=.seq ([]:List Value).toArray}):=T.keep _ _ _ st2 λb _ o e=>Qb _ e
 have f3:∀b∈fp,gX X pins (upd H2 D (.lst [])) b/\b<(s2.heap.push { cls:=.type "list",data:=.seq ([]:List Value).toArray}).objs.size:=λb hb=>by
  obtain⟨o,e,_⟩:=T.obj _ _ st2 b hb;have l:=Qt e;rw[hDe] at l;refine⟨⟨?_,(f2 b hb).2⟩,by rw[S6,hDe];exact U5 l⟩;rw[ao (Rf l)];exact(f2 b hb).1
 generalize (s2.heap.push { cls:=.type "list",data:=.seq ([]:List Value).toArray})=h3 at I3 st3 f3 ⊢;refine Ey hcf hcp ?_;have sz:(h3.push { cls:=.type "dict",data:=.dict #[]}).objs.size=h3.objs.size+1:=S6 ..;have hns₄:=(Qo.Ns.new h3 (.type "dict")).keeps λb o e=>Qb { cls:=.type "cell",data:=.cell none} e
 have hce₄:((h3.push { cls:=.type "dict",data:=.dict #[]}).push { cls:=.type "cell",data:=.cell none}).IsCell (h3.objs.size+1) none:=⟨_,by rw[←sz];exact QD _ Z,Z⟩;have keep:∀b o,h3.get? b=some o->((h3.push { cls:=.type "dict",data:=.dict #[]}).push { cls:=.type "cell",data:=.cell none}).get? b=some o:=λb o e=>Qb _ (Qb _ e)
 generalize (h3.push { cls:=.type "dict",data:=.dict #[]}).push { cls:=.type "cell",data:=.cell none}=h₄ at hns₄ hce₄ keep ⊢;have I4:=Inv.compD (C:=h3.objs.size) (fp:=fp) (tk:=s2.toks) I3 Z hns₄ hce₄ keep hkind (λb hb=>(f3 b hb).1) (λb hb=>(f3 b hb).2) hcl hfree;have st4:tn 0 h₄:=T.keep _ _ _ st3 λb _ o e=>keep b o e
 have fpn:∀b∈fp,(upd H2 D (.lst [])) b=none:=λb hb=>(f3 b hb).1.1
 have hn3:∀b∈fp,b≠h3.objs.size:=λb hb=>Rf (f3 b hb).2
 have stat:∀{H':Hp},(∀b∈fp,H' b=none)->∀b∈fp,gX (qM X N' scope y cl h3.objs.size fp pins { s2 with heap:=h3} (upd H2 D (.lst []))) [] H' b:=λhn b hb=>
  ⟨hn b hb,hn3 b hb,I4.ok.exfs b hb,.inl hb,λx c e=>(by
   rcases ff e with⟨_,h2⟩ | ⟨_,h2⟩
   ·intro z;have q:=(f3 b hb).2;rw[show b=h3.objs.size+1 from z.symm.trans h2] at q;exact Ri _ (Rn (SQ _) q)
   ·exact(f3 b hb).1.2.2.2.2.1 x c (hcl.up x c h2)),λp hp=>(f3 b hb).1.2.2.2.2.2 p (by
   have z:p∈(X.pn++pins)++[]:=hp;rw[Rp] at z;exact z)⟩
 have back:∀{H':Hp} {s':Qc},Inv (qM X N' scope y cl h3.objs.size fp pins { s2 with heap:=h3} (upd H2 D (.lst []))) [] (cf src σ) H' s'->(∃m,s'.heap.Ns h3.objs.size m)/\Inv X pins σ H' s'/\yz X pins H' h3.objs.size:=λ{H' s'} I'=>by
  have Ib:Inv X pins σ H' s':=I3.call' I'.os I'.base I'.hok I'.bare λb hb=>⟨(f3 b hb).1.2.2.2.1,(f3 b hb).1.2.1,(f3 b hb).1.2.2.2.2.1,(f3 b hb).1.2.2.2.2.2⟩
  refine⟨let ⟨m,hm,_⟩:=I'.loc;⟨m,hm⟩,Ib,⟨I'.free,λz=>?_,I3.nofs (P7 _),Sc I3.sz,λx c e z=>?_,λp hp z=>?_⟩⟩
  ·have:=I3.lt;rw[←z] at this;exact Ri _ this
  ·obtain⟨v,o,ho,_⟩:=I3.cell x c e;have:=Qt ho;rw[z] at this;exact Ri _ this
  ·obtain⟨e,_⟩:=I3.pin p hp;have:=Qt e;rw[z] at this;exact Ri _ this
 have loop:Uu (QK X.prog X.w) X.A (.compLoop (.ListComp elt [⟨tg,iter,ifs,0⟩] scope pos) 0 (.ref it) (.ref D) (U4 scope ((y,h3.objs.size+1)::cl) h3.objs.size X.env)) (RR (.ref D) h3.objs.size) { s2 with heap:=h₄,toks:=s2.toks}:=by
  refine oX (λn s'=>∃i ys H',Inv (qM X N' scope y cl h3.objs.size fp pins { s2 with heap:=h3} (upd H2 D (.lst []))) [] (cf src σ) H' s'/\tn i s'.heap/\(∀b∈fp,H' b=none)/\W i n ys H') ?_ m0 ⟨0,[],_,I4,st4,fpn,w0⟩;rintro n s5 ⟨i,ys,H5,I5,st5,fr5,w5⟩;rcases turn i n ys H5 w5 with⟨stop,qn⟩ | ⟨go,step⟩
  ·refine bZ (T.done (qM X N' scope y cl h3.objs.size fp pins { s2 with heap:=h3} (upd H2 D (.lst []))) rfl rfl rfl hc i [] s5 _ H5 _ I5 (stat fr5) st5 stop) λr s6 ⟨hr,I6⟩=>?_
   subst hr;obtain⟨b1,b2,b3⟩:=back I6;exact hRR D _ H5 s6 qn b1 b2 b3
  ·refine bZ (T.item (qM X N' scope y cl h3.objs.size fp pins { s2 with heap:=h3} (upd H2 D (.lst []))) rfl rfl rfl hc i [] s5 _ H5 _ I5 (stat fr5) st5 go) λr s6 ⟨u,hr,h6⟩=>?_
   subst hr;refine bZ h6 λ_ s7 ⟨x,H7,I7,r7,y7,st7,fr7⟩=>?_
   have I7':=I7.pinned (stat fr7) (T.obj _ _ st7);refine bZ (hg _ _ _ _ _ _ s7 _ H7 x u _ I7' r7 (step x H7 y7)) λ_ s8 ⟨σ8,H8,I8,ex8,q8⟩=>?_
   refine bZ (ht _ _ _ _ _ _ s8 σ8 H8 _ I8 q8) λok s9 ⟨H9,I9,q9⟩=>?_
   have again:∀{ys':List V} {Ha:Hp} {sa:Qc},Inv (qM X N' scope y cl h3.objs.size fp pins { s2 with heap:=h3} (upd H2 D (.lst []))) ([]++kr fp s7.heap) σ8 Ha sa->(∃m',m'<n/\W (i+1) m' ys' Ha)→
     ∃m,m<n/\∃i ys H',Inv (qM X N' scope y cl h3.objs.size fp pins { s2 with heap:=h3} (upd H2 D (.lst []))) [] (cf src σ) H' sa/\tn i sa.heap/\(∀b∈fp,H' b=none)/\W i m ys H':=λ{ys' Ha sa} Ia ⟨m',hm,wa⟩=>by
    refine⟨m',hm,i+1,ys',Ha,(Ia.unpinned).weak ex8.1.symm ex8.2,T.keep _ _ _ st7 λb hb o e=>(Ia.pin (b,o) (Qv _ (Qv _ (eU hb e)))).1,λb hb=>?_,wa⟩;obtain⟨o,e,_⟩:=T.obj _ _ st7 b hb;exact(Ia.pin (b,o) (Qv _ (Qv _ (eU hb e)))).2.1
   cases ok with
   |false=>exact again I9 q9
   |true=>
    refine bZ (he _ _ _ _ _ _ s9 σ8 H9 _ I9 q9) λy s10 ⟨yv,H10,I10,r10,q10,hz,wn⟩=>?_
    refine bZ (bA _ s10 σ8 H10 (.ref D) [yv] (.ref D) [y] (λ_ Hz=>∃m',m'<n/\W (i+1) m' (ys++[yv]) Hz) I10 Z (.cons r10 .nil) ⟨D,ys,yv,Z,Z,q10,hz,wn⟩) λ_ s11 ⟨_,H11,I11,_,q11⟩=>?_
    exact again I11 q11
 exact W0 loop (T.self _ 0 _ _ _ st4 loop)
theorem A1{i:Nat}{x:QX}{pos' pos2:Uf}(hN:X.N.Nodup)(hi':X.N[i]?=some x)(hx:yA X.env.scope x)(hc:X.calm=true)(hi:PI X tg iter wi)(hg:∀C fp pins s H,PG (qM X N' scope y cl C fp pins s H) tg g)(ht:∀C fp pins s H,Ge (qM X N' scope y cl C fp pins s H) ifs tt)
  (he:∀C fp pins s H,PE (qM X N' scope y cl C fp pins s H) elt te) (hfree:cN X scope cl N' src) (hclos:Vl scope X.env=Sq cl) (hcf:∀n:Nat,VN n scope.names cl=(y,n)::cl) (hcp:∀h:Qo,YZ h scope.names=h.push { cls:=.type "cell",data:=.cell none}) (hkind:scope.kind=.function)
  (hnames:∀x∈scope.names,x.2=.local->scope.names.lookup x.1=some .local) (hcl:kO X scope y cl) (hs:∀x,Sm iter X.env x=Sq x:=by intro _;rfl)
  (hsw:S9 (.ListComp elt [⟨tg,iter,ifs,0⟩] scope pos) (some (.Name x pos')) pos2.line X.env=Sq true:=by rfl) (hf:X.fn x=true∨X.env.scope.names.lookup x=some .local:=by first|exact .inl Z|exact .inr Z|assumption) :
  PS X (.Assign [.Name x pos'] (.ListComp elt [⟨tg,iter,ifs,0⟩] scope pos) pos2) (pM (jj wi src g tt te) (jL i)):=by
 intro pins s σ H D I h;rw[Xn _ _ _ _ hsw];refine P9 (Ug ?_);show Qw _ _ ((comprehension (.ListComp elt [⟨tg,iter,ifs,0⟩] scope pos) scope X.env _ (Zr []) false (eval iter X.env) (some (Vj (.Name x pos') X.env)) >>= λ_=>Sq ()) >>= λ_=>Sq YL) _ _ s;refine P9 (P9 (Sd (UH (use:=some (Vj (.Name x pos') X.env)) (Q:=λ_ s''=>SP X pins D .next s'') Z hs hclos hkind hnames (yj hc hi hg ht he hfree hcf hcp hkind hcl (RR:=λacc C=>compPost (QK X.prog X.w) X.A X.xe (some (Vj (.Name x pos') X.env)) (λ_ s''=>SP X pins D .next s'') acc C) I h λE C H' s' q hm hI hb=>?_)) (λ_ s'' h''=>wpAny_pure (wpAny_pure h'')) λ_ _ e=>e));obtain⟨m,o,es,ep,ho,hd,r1,r2⟩:=hm;have I':Inv X (pins++[(C,o)]) σ H' s':=hI.pins_of λp hp=>by
  rcases QP.mp hp with h|h
  ·exact hI.pin p (Qv _ h)
  ·rw[Qj] at h;rw[h];exact⟨ho,hb.no,hb.lo,hb.fs,λv z=>by rw[hd] at z;cases z⟩
 refine V9 (fM I' hN hi' hx (show RelV (.ref E) (.ref E) from Z) (λs'' I''=>?_) hf);have hC:=(I''.pin (C,o) (Qv _ (Qv _ Qd))).1;have I3:Inv X pins (σ.set i (some (.ref E))) H' s'':=I''.pins_of λp hp=>I''.pin p (Qv _ (RD _ hp))
 exact⟨m,⟨o,es,ep,hC,hd,r1,r2⟩,λh' sb=>⟨_,H',hb.turned I3 sb,q⟩⟩
end
section
variable {X:Cx}{N':List QX}{scope:Uw}{y:QX}{cl:List (QX×Addr)}{src:List (Option Nat)}{tg iter elt:Re}{ifs:List Re}{wi:TI}{g:TG}{tt:TT}{te:TE}{pos:Uf}
theorem AM{i:Nat}{x:QX}{pos' pos2:Uf}(hN:X.N.Nodup)(hi':X.N[i]?=some x)(hx:yA X.env.scope x)(hc:X.calm=true)(hi:QI X tg iter wi)(hg:∀C fp pins s H,QG (qM X N' scope y cl C fp pins s H) tg g)(ht:∀C fp pins s H,J2 (qM X N' scope y cl C fp pins s H) ifs tt)(he:∀C fp pins s H,QE (qM X N' scope y cl C fp pins s H) elt te)(hfree:cN X scope cl N' src)(hclos:Vl scope X.env=Sq cl)(hcf:∀n:Nat,VN n scope.names cl=(y,n)::cl)(hcp:∀h:Qo,YZ h scope.names=h.push { cls:=.type "cell",data:=.cell none})(hkind:scope.kind=.function)(hnames:∀x∈scope.names,x.2=.local->scope.names.lookup x.1=some .local)(hcl:kO X scope y cl)(hs:∀x,Sm iter X.env x=Sq x:=by intro _;rfl)(hsw:S9 (.ListComp elt [⟨tg,iter,ifs,0⟩] scope pos) (some (.Name x pos')) pos2.line X.env=Sq true:=by rfl)(hf:X.fn x=true∨X.env.scope.names.lookup x=some .local:=by first|exact .inl Z|exact .inr Z|assumption):QS X (.Assign [.Name x pos'] (.ListComp elt [⟨tg,iter,ifs,0⟩] scope pos) pos2) (pM (jj wi src g tt te) (jL i)):=⟨A1 hN hi' hx hc hi.p (λz0 z1 z2 z3 z4=>(hg z0 z1 z2 z3 z4).p) (λz0 z1 z2 z3 z4=>(ht z0 z1 z2 z3 z4).p) (λz0 z1 z2 z3 z4=>(he z0 z1 z2 z3 z4).p) hfree hclos hcf hcp hkind hnames hcl hs hsw hf⟩
theorem xA(hclos:Vl scope X.env=Sq cl)(hc:X.calm=true)(hi:QI X tg iter wi)(hg:∀C fp pins s H,QG (kG X N' scope cl C fp pins s H) tg g)(ht:∀C fp pins s H,J2 (kG X N' scope cl C fp pins s H) ifs tt)(he:∀C fp pins s H,QE (kG X N' scope cl C fp pins s H) elt te)(hfree:cN X scope cl N' src)(hcell:∀x∈scope.names,x.2≠.cell)(hkind:scope.kind=.function)(hnames:∀x∈scope.names,x.2=.local->scope.names.lookup x.1=some .local)(hcl:fG X scope cl)(hs:∀x,Sm iter X.env x=Sq x:=by intro _;rfl):QE X (.ListComp elt [⟨tg,iter,ifs,0⟩] scope pos) (jj wi src g tt te):=bX hc hi hg ht he hfree hclos hcell hkind hnames hcl hs
theorem AO{K:P4}{l tg:Re}{tl:TE}(hK:X.K=K)(hl:QE X l tl):QI X tg l (B5 K tl):=by subst hK;exact cS hl
theorem Es{K:P4}{k:Nat}(hK:X.K=K)(hr:c9 k X.A):gH X (RL .NotEq) (KK K):=hK▸kx hr
theorem uO{X:Cx}{K:P4}(hK:X.K=K)(hc:X.calm=true):dN X (.builtin "any") (λxs H Q=>∃p bs,xs=[V.ref p]/\aX K H p (Z7 V.bl bs)/\Q (V.bl (bs.any id)) H):=by subst hK;exact yq hc
end
structure ef(K:P4)(n:QX)(st:Stmt)(f:Addr)(d:Qh):Prop where
 p:PySem.W.nsIn K QZ n=some (some (.ref f))
 F:Fun K n n st f d
section
variable {K:P4}{n:QX}{st:Stmt}{f:Addr}{d:Qh}
theorem isF{oc:Value}{od an:Option Addr}{sl:Array (Option Value)}{kV dc pm cd ct:Value}(p:PySem.W.nsIn K QZ n=some (some (.ref f)))
  (l:K.lookup f=some ⟨oc,od,.func (Sx n n (dG st) (cY st) (aA st) .none kV dc pm an cd ct),sl⟩) (c:U3 K cd n=true) (k:Sr K (.ref f)=true) :
  ef K n st f (Sx n n (dG st) (cY st) (aA st) .none kV dc pm an cd ct):=⟨p,qC l c k⟩
abbrev BA(n:QX)(st:Stmt)(us:List Value)(ps:List QX):Prop:=∀(kV dc pm:Value) (an:Option Addr) (cd ct:Value),Yr (Sx n n (dG st) (cY st) (aA st) .none kV dc pm an cd ct) ⟨us,[]⟩=Sq (ps.zip us)
theorem ef.b1{x:QX}(I:ef K n st f d)(h:∀u,BA n st [u] [x]:=by exact λ_ _ _ _ _ _ _=>Z):aN K d [x] []:=I.F.binds λa b c e g i us hl=>match us,hl with | [u],_=>h u a b c e g i
theorem ef.b2{x y:QX}(I:ef K n st f d)(h:∀u v,BA n st [u,v] [x,y]:=by exact λ_ _ _ _ _ _ _ _=>Z):aN K d [x,y] []:=I.F.binds λa b c e g i us hl=>match us,hl with | [u,v],_=>h u v a b c e g i
theorem ef.b3{x y z:QX}(I:ef K n st f d)(h:∀u v w,BA n st [u,v,w] [x,y,z]:=by exact λ_ _ _ _ _ _ _ _ _=>Z):aN K d [x,y,z] []:=I.F.binds λa b c e g i us hl=>match us,hl with | [u,v,w],_=>h u v w a b c e g i
theorem ef.b5{x y z t s:QX}(I:ef K n st f d)(h:∀u v w r q,BA n st [u,v,w,r,q] [x,y,z,t,s]:=by exact λ_ _ _ _ _ _ _ _ _ _ _=>Z):aN K d [x,y,z,t,s] []:=I.F.binds λa b c e g i us hl=>match us,hl with | [u,v,w,r,q],_=>h u v w r q a b c e g i
end
theorem ag{X:Cx}{st:Stmt}{c6:List Stmt}{t u:TS}(h1:QS X st t)(h2:dM X c6 u):dM X (st::c6) (let Uq:=u;Gp t Uq):=AL h1 h2
def LM(K:P4)(a b:Addr):It:=
 ⟨λi H=>∃xs ys x y,aX K H a xs/\bF K H b ys/\xs[i]?=some x/\ys[i]?=some y,
  λi H v H'=>∃p x y,H p=none/\v=.ref p/\H'=upd H p (.tup [x,y])/\(∀xs,aX K H a xs->xs[i]?=some x)/\∀ys,bF K H b ys->ys[i]?=some y,
  λi H=>∃xs ys,aX K H a xs/\bF K H b ys/\(xs.length≤i∨ys.length≤i)⟩
def Of(z TI TO i1 i2 a b:Addr)(i:Nat)(h:Qo):Prop:=IsZip h z TI TO .none/\ZI h TI (.ref i1) (.ref i2)/\(∃u v,ZI h TO u v)/\h.IsListIter i1 a i/\h.IsTupleIter i2 b i
abbrev Ka(h:Qo)(a:Addr):Qo:=h.push { cls:=.type "list_iterator",data:=.fields #[.ref a,.int 0 0]}
abbrev J8(h:Qo)(a b:Addr):Qo:=(Ka h a).push { cls:=.type "tuple_iterator",data:=.fields #[.ref b,.int 0 0]}
abbrev J6(h:Qo)(a b:Addr):Qo:=(J8 h a b).push { cls:=.type "tuple",data:=.seq #[.ref h.objs.size,.ref (Ka h a).objs.size]}
abbrev Mm(h:Qo)(a b:Addr):Qo:=(J6 h a b).push { cls:=.type "tuple",data:=.seq #[.none,.none]}
abbrev Ox(h:Qo)(a b:Addr):Qo:=(Mm h a b).push { cls:=.type "zip",data:=.fields #[.none,.bool false,.bool false,.ref (J8 h a b).objs.size,.ref (J6 h a b).objs.size]}
def MZ(K:P4)(ta:TA):TI:=λσ H R=>ta σ H λvs H1=>∃a b,vs=[.ref a,.ref b]/\(∃xs,aX K H1 a xs)/\(∃ys,bF K H1 b ys)/\R (LM K a b) H1
def LN(K:P4)(a b:Addr):It:=
 ⟨λi H=>∃xs ys x y,aX K H a xs/\aX K H b ys/\xs[i]?=some x/\ys[i]?=some y,
  λi H v H'=>∃p x y,H p=none/\v=.ref p/\H'=upd H p (.tup [x,y])/\(∀xs,aX K H a xs->xs[i]?=some x)/\∀ys,aX K H b ys->ys[i]?=some y,
  λi H=>∃xs ys,aX K H a xs/\aX K H b ys/\(xs.length≤i∨ys.length≤i)⟩
def Og(z TI TO i1 i2 a b:Addr)(i:Nat)(h:Qo):Prop:=IsZip h z TI TO .none/\ZI h TI (.ref i1) (.ref i2)/\(∃u v,ZI h TO u v)/\h.IsListIter i1 a i/\h.IsListIter i2 b i
abbrev Kb(h:Qo)(a:Addr):Qo:=h.push { cls:=.type "list_iterator",data:=.fields #[.ref a,.int 0 0]}
abbrev J9(h:Qo)(a b:Addr):Qo:=(Kb h a).push { cls:=.type "list_iterator",data:=.fields #[.ref b,.int 0 0]}
abbrev J7(h:Qo)(a b:Addr):Qo:=(J9 h a b).push { cls:=.type "tuple",data:=.seq #[.ref h.objs.size,.ref (Kb h a).objs.size]}
abbrev Mn(h:Qo)(a b:Addr):Qo:=(J7 h a b).push { cls:=.type "tuple",data:=.seq #[.none,.none]}
abbrev Oy(h:Qo)(a b:Addr):Qo:=(Mn h a b).push { cls:=.type "zip",data:=.fields #[.none,.bool false,.bool false,.ref (J9 h a b).objs.size,.ref (J7 h a b).objs.size]}
def M0(K:P4)(ta:TA):TI:=λσ H R=>ta σ H λvs H1=>∃a b,vs=[.ref a,.ref b]/\(∃xs,aX K H1 a xs)/\(∃ys,aX K H1 b ys)/\R (LN K a b) H1
section
variable {prog:Q4}{w:Rm}{A:Rg}{E:Value->Qc->Prop}
end
section
variable {prog:Q4}{w:Rm}{A:Rg}{E:Value->Qc->Prop}{s:Qc}
end
structure LH(K:P4)(H:Hp)(ys:List V)(kvs:List (List cM×V)):Prop where
 len:ys.length=kvs.length
 row:∀(i:Nat) (kv:List cM×V),kvs[i]?=some kv->∃r b,ys[i]?=some (.ref r)/\bF K H r [.ref b,kv.2]/\H b=some (.tup (kv.1.map kV))
 nd:(kvs.map (·.1)).Nodup
def MI(K:P4):List V->Hp->VK->Prop:=λvs H Q=>∃(p:Addr) (ob:R9) (ys:List V) (kvs:List (List cM×V)),vs=[.ref p]/\H p=some (.frz ob (.tup ys))/\ob.dict=none/\LH K H ys kvs/\∀l,H l=none->Q (.ref l) (upd H l (.dT kvs))
def NL(K:P4):List V->Hp->VK->Prop:=λvs H Q=>∃(p:Addr) (ys:List V),vs=[.ref p]/\aX K H p ys/\∀(l:Addr) (ob:R9),H l=none->ob.dict=none->Q (.ref l) (upd H l (.frz ob (.tup ys)))
section
variable {X:Cx}{K:P4}
theorem c7(hu:X.A.units+1<cLine)(ho:QE X o td)(hi:QE X i ty)(hs:JJ i):QE X (.Subscript o i pos) (FC td ty):=⟨Ej hu ho.p hi.p hs⟩
end
section
set_option autoImplicit true
set_option relaxedAutoImplicit true
theorem eT(he:QE X e ta)(hb:Tj e f X.env (eval e X.env)=eval e X.env):QE X (.Attribute e f pos) (Kl X.K ta f):=⟨HU he.p hb⟩
theorem qg(ha:QE X o ta)(hv:QE X value tv)(hs:S9 value (some (.Attribute o f pos')) pos.line X.env=Sq false):QS X (.Assign [.Attribute o f pos'] value pos) (Kz X.K ta tv f):=⟨Ht ha.p hv.p hs⟩
theorem xx(ha:QE X o ta)(hv:QE X value tv)(hop:JM X op rd):QS X (.AugAssign (.Attribute o f tpos) op value pos) (vy X.K ta tv rd f):=⟨xD ha.p hv.p hop⟩
theorem DN{pl:Sem Bool}(he:QE X o ta)(c:u4 X.K C)(hm:tz X.K C m f)(F:bC X.prog X.w X.K X.mg X.base CX k f fd ps sp)(hr:c9 k X.A)(hb:aN X.K fd ps ds)(hd:bo dvs ds)(hx:fw CX X E)(ha:QA X (e::es) t)(hst:Qs (e::es) X.env=(false,eval e X.env)::Qs es X.env:=by rfl)(hpl:(Tb pos (Qs es X.env)).any (·.1)=false:=by rfl) (ht:eval (.Call (.Attribute o m apos) (e::es) [] pos) X.env=(do
   let ov ←eval o X.env
   WN apos.atName
   let (f,first) ←holding [ov] (Wu ov m pl)
   Ys pos f first (Tb pos (Qs (e::es) X.env)) (Vs pos (TW [] X.env))):=by rfl):QE X (.Call (.Attribute o m apos) (e::es) [] pos) (ve C m sp dvs E ta t):=⟨Eg he.p c hm F hr hb hd hx ha.p hst hpl ht⟩
theorem AS{pl:Sem Bool}(he:QE X o ta)(c:u4 X.K C)(hm:tz X.K C m f)(F:bC X.prog X.w X.K X.mg X.base CX k f fd ps sp)(hr:c9 k X.A)(hb:aN X.K fd ps ds)(hd:bo dvs ds)(hx:fw CX X E) (ht:eval (.Call (.Attribute o m apos) [] [] pos) X.env=(do
   let ov ←eval o X.env
   WN apos.atName
   let (f,first) ←holding [ov] (Wu ov m pl)
   Ys pos f first (Tb pos (Qs [] X.env)) (Vs pos (TW [] X.env))):=by rfl):QE X (.Call (.Attribute o m apos) [] [] pos) (ve C m sp dvs E ta wV):=⟨Bc he.p c hm F hr hb hd hx ht⟩
theorem AT(M:Mk X.K C f)(F:bC X.prog X.w X.K X.mg X.base CX k f fd ps sp)(hr:c9 (k+1) X.A)(hg:Gl X x)(hm:X.mg x=some (.ref C))(hb:aN X.K fd ps ds)(hd:bo dvs ds)(hx:fw CX X E)(hdb:(x==("__debug__" : QX))=false:=by decide):QE X (.Call (.Name x p) [] [] pos) (Fy C sp dvs E wV):=⟨Bd M F hr hg hm hb hd hx hdb⟩
end
structure C9(K:P4)(C:Addr)(n q:QX)(st:Stmt)(f:Addr)(d:Qh):Prop where
 p:Rc K (.ref C) n=some (some (.ref f))
 fn:VE K (.ref f)=true
 F:Fun K n q st f d
section
variable {K:P4}{C:Addr}{n q:QX}{st:Stmt}{f:Addr}{d:Qh}
theorem isM{oc:Value}{od an:Option Addr}{sl:Array (Option Value)}{kV dc pm cd ct:Value}(p:Rc K (.ref C) n=some (some (.ref f)))(fn:VE K (.ref f)=true)
  (l:K.lookup f=some ⟨oc,od,.func (Sx n q (dG st) (cY st) (aA st) .none kV dc pm an cd ct),sl⟩) (c:U3 K cd q=true) (k:Sr K (.ref f)=true) :
  C9 K C n q st f (Sx n q (dG st) (cY st) (aA st) .none kV dc pm an cd ct):=⟨p,fn,qC l c k⟩
theorem C9.meth(I:C9 K C n q st f d):tz K C n f:=⟨I.p,I.fn,I.F.kp⟩
abbrev BM(n q:QX)(st:Stmt)(us:List Value)(ps:List QX):Prop:=∀(kV dc pm:Value) (an:Option Addr) (cd ct:Value),Yr (Sx n q (dG st) (cY st) (aA st) .none kV dc pm an cd ct) ⟨us,[]⟩=Sq (ps.zip us)
theorem C9.b1{x:QX}(I:C9 K C n q st f d)(h:∀u,BM n q st [u] [x]:=by exact λ_ _ _ _ _ _ _=>Z):aN K d [x] []:=I.F.binds λa b c e g i us hl=>match us,hl with | [u],_=>h u a b c e g i
theorem C9.b3{x y z:QX}(I:C9 K C n q st f d)(h:∀u v w,BM n q st [u,v,w] [x,y,z]:=by exact λ_ _ _ _ _ _ _ _ _=>Z):aN K d [x,y,z] []:=I.F.binds λa b c e g i us hl=>match us,hl with | [u,v,w],_=>h u v w a b c e g i
end
def EF:XK:=λ_ _ _=>False
theorem FV:fw (J5 P w) X EF:=by
 intro pins σ H1 s1 e s2 I hx;obtain⟨x,C,T,dx,H2,rfl,ho,hb,un,hok,nx,nT,hx2,hT2,tr,hE⟩:=hx;exact hE.elim
theorem AV(h1:QE X k1 t1)(h2:QE X v1 t2)(h3:QE X k2 t3)(h4:QE X v2 t4)(h5:QE X k3 t5)(h6:QE X v3 t6)(h7:QE X k4 t7)(h8:QE X v4 t8):QE X (.Dict [some k1,some k2,some k3,some k4] [v1,v2,v3,v4] pos) (FA [(t1,t2),(t3,t4),(t5,t6),(t7,t8)]):=
 ⟨Ei (jz h1.p h2.p (jz h3.p h4.p (jz h5.p h6.p (jz h7.p h8.p DZ)))) Z Z (by simp) (by show 4≤15;decide)⟩
theorem CD{α β:Type}{K:P4}{H:Hp}{D a:Addr}{xs:List V}{ds:List α}{P:Hp->V->β->Prop}{f:α->β}{p:α->Bool}{src:List (Option Nat)}{σ:L2.St}{g:TG}{tt:TT}{te:TE}{Q:Hp->Prop}
  (mono:∀H H' v d,aK K H H'->P H v d->P H' v d) (hD:H D=none) (hS:aX K H a xs) (hl:xs.length=ds.length) (hn:ds.length≤1000)
  (turn:∀(i:Nat) (x:V) (d:α) (H':Hp),xs[i]?=some x->ds[i]?=some d->aH H H'->∀(R:VK) (E:Hp->Prop),(p d=true->∀v H'',aH H' H''->P H'' v (f d)->R v H'')->(p d=false->∀H'',aH H' H''->E H'')→
   g x (cf src σ) H' λσ2 H2=>gD (cf src σ) σ2/\tt σ2 H2 λok H3=>if ok=true then te σ2 H3 R else E H3)
  (fin:∀H' ys,aH H H'->H' D=some (.lst ys)->b8 (P H') ys ((ds.filter p).map f)->Q H') :
  ∃W:Nat->Nat->List V->Hp->Prop,(∃m,W 0 m [] (upd H D (.lst [])))/\∀i m ys H,W i m ys H->((yC K a).stop i H/\Q H)∨((yC K a).go i H/\∀x H',(yC K a).yld i H x H'→
   g x (cf src σ) H' λσ2 H2=>gD (cf src σ) σ2/\tt σ2 H2 λok H3=>
    if ok=true then te σ2 H3 λy H4=>H4 D=some (.lst ys)/\ys.length<sizeLine/\∃m',m'<m/\W (i+1) m' (ys++[y]) (upd H4 D (.lst (ys++[y]))) else ∃m',m'<m/\W (i+1) m' ys H3):=by
 refine⟨λi m ys H'=>i≤ds.length/\m=ds.length-i/\H' D=some (.lst ys)/\aH H H'/\b8 (P H') ys (((ds.take i).filter p).map f),⟨_,Qu _,Z,ah,au hD _,.nil⟩,?_⟩;rintro i m ys H1 ⟨hi,rfl,d1,s1,al1⟩;have hS1:aX K H1 a xs:=s1.seq hS;by_cases hix:i<ds.length
 ·have hx0:xs[i]?=some (xs[i]'(by omega)):=P5 _;refine .inr ⟨⟨xs,_,hS1,hx0⟩,?_⟩;rintro x H2 ⟨rfl,hy⟩;have hx:=hy xs hS1;obtain⟨d,hd⟩:∃d,ds[i]?=some d:=⟨_,P5 hix⟩;have tk:ds.take (i+1)=ds.take i++[d]:=by rw[Q3,hd];rfl
  refine turn i x d _ hx hd s1 _ _ (λo3 v H3 s3 p3=>?_) λn3 H3 s3=>?_
  ·have d3:H3 D=some (.lst ys):=s3 _ _ d1;have tm:aK K H2 (upd H3 D (.lst (ys++[v]))):=(aK.same s3).trans (aK.up d3 _);have ly:ys.length≤1000:=by
    rw[al1.len,P8];exact QU (Q5 _ _) (by rw[Rv];omega)
   refine⟨d3,aQ ly,ds.length-(i+1),by omega,hix,Z,ah,λb o q=>?_,?_⟩
   ·rw[ao (aC q hD)];exact s3 _ _ (s1 _ _ q)
   ·rw[tk,R0,SE o3,Tc,Rh];exact(al1.mono λv d p=>mono _ _ _ _ tm p).snoc (mono _ _ _ _ (aK.up d3 _) p3)
  ·refine⟨ds.length-(i+1),by omega,hix,Z,s3 _ _ d1,s1.trans s3,?_⟩;rw[tk,R0,SF (by rw[n3];decide),Tc,Rp];exact al1.mono λv d p=>mono _ _ _ _ (aK.same s3) p
 ·have e:i=ds.length:=by omega
  subst e;rw[Q6] at al1;exact .inl ⟨⟨xs,hS1,by omega⟩,fin H1 ys s1 d1 al1⟩
def vW(k:Int):Value->Bool
 | .int n _=>n==k
 |_=>false
theorem sP(k:Int):∀{ns:List Int} {us:List Value},bo (ns.map V.int) us->us.countP (vW k)=ns.count k
 | [],[],_=>rfl
 |n::ns,u::us,h=>by
  cases h with
  |cons a t=>
   obtain⟨tk,rfl⟩:=(show ∃k,u=R1 n k from a);rw[Vo,List.count_cons,sP k t];rfl
 | [],_::_,h=>by cases h
 |_::_,[],h=>by cases h
def MJ(K:P4):V->List V->Hp->VK->Prop:=λx vs H Q=>∃(l:Addr) (ns:List Int) (n:Int),x=.ref l/\vs=[.int n]/\aX K H l (ns.map V.int)/\Q (.int (ns.count n:Nat)) H
theorem xN:Nh X "list.count" (MJ X.K):=by
 intro pins s σ H x vs v us Q I rx rv h;obtain⟨l,ns,n,rfl,rfl,hq,q⟩:=h
 cases rx
 obtain⟨u,rfl,ru⟩:=rv.one;obtain⟨tk,rfl⟩:=(show ∃k,u=R1 n k from ru);obtain⟨its,r,pl,hz⟩:=I.list hq;obtain⟨⟨cls,dd,data,sl⟩,ho,hc,m,hdt⟩:=id pl.isList;simp only at hc hdt;subst hc hdt;have all:∀y,y∈its->∃a t,y=R1 a t:=λy hy=>by
  obtain⟨i,hi⟩:=RU hy;have il:=(Qq.mp hi).1;have lr:=r.length;rw[P8] at lr;obtain⟨a,ha⟩:∃a,ns[i]?=some a:=⟨_,P5 (by omega)⟩;obtain⟨u1,e4,ru1⟩:=bo.get r (show(ns.map V.int)[i]?=some (V.int a) by rw[Ql,ha];rfl);rw[hi] at e4
  cases e4
  obtain⟨t,e⟩:=(show ∃k,y=R1 a k from ru1);exact⟨a,t,e⟩
 refine Ul WJ ⟨_,ho,Z⟩ PySem.F.entry_list_count (PySem.F.args_list_count_2 _ _) (SeqAt.list_countAt l its.toArray m dd sl (.int n tk) (vW n)) ⟨ho,λy hy=>?_,?_⟩
 ·obtain⟨a,t,rfl⟩:=all y (by simpa using hy);exact λprog w E Q hq=>Vi hq
 ·rw[show its.toArray.toList=its from Z,sP n r];exact⟨.int _,H,I.tok _,⟨_,Z⟩,q⟩
theorem oU(us:List Value):∀(n:Nat) (acc:Array Value),(Vn (λx1 x2=>x1++x2) acc (Qn n us.toArray)).toList=acc.toList++(Qn n us).flatten
 |0,acc=>by simp
 |n+1,acc=>by
  rw[SO,Rs,oU us n,SO];simp
theorem oy{vs:List V}{us:List Value}(r:bo vs us):∀n:Nat,bo (Qn n vs).flatten (Qn n us).flatten
 |0=>.nil
 |n+1=>by
  rw[SO,SO,U9,U9];exact r.append (oy r n)
theorem tT(l:Addr)(n:Nat)(dd:Option Addr)(sl:Array (Option Value))(x:Int)(u:Z5)(hc0:¬(decide (x < -(2^63))||decide (x≥2^63))=true) :
  Meets (Q8.«tuple.__mul__» ⟨[.ref l,.int x u],[]⟩) (λ_ R s=>s.heap.get? l=some { cls:=.type "tuple",dict:=dd,data:=.seq #[] n,slots:=sl}/\R (.ok (.ret (QQ l))) s):=
 .of_wp λprog w A R s h=>by
  obtain⟨hp,g,d,tk,os⟩:=s;obtain⟨hl,h⟩:=h;have f1:=YX;have f2:=Wq;have f3:=Xc;have f4:=WC;have f5:=WD
  wp_walk using wpAny_loadPart' hl
  refine Xl (Sy hc0) ?_
  wp_walk using wpAny_loadPart' hl
  exact⟨_,Z,h⟩
theorem Bp:gH X (TN .Mult) (λx y H Q=>∃(p:Addr) (xs:List V) (n:Nat),x=.ref p/\y=.int n/\bF X.K H p xs/\2≤n/\n≤1000/\xs.length*n≤1000/\(xs=[]->Q (.ref p) H)/\(xs≠[]->∀l,H l=none->Q (.ref l) (upd H l (.tup (Qn n xs).flatten)))):=by
 intro pins s σ H x y xv yv Q I rx ry h;obtain⟨p,xs,n,rfl,rfl,hp,h2,n1,hn,q0,q⟩:=h
 cases(show xv=QQ p from rx)
 obtain⟨t,rfl⟩:=(show ∃t,yv=R1 n t from ry);obtain⟨its,rv,p1,_⟩:=I.tuple hp;obtain⟨⟨cls,dd,data,sl⟩,ho,hc,k,hd⟩:=id p1;simp only at hc hd;subst hc hd;have l1:=rv.length;by_cases e0:xs=[]
 ·subst e0
  cases rv
  refine Uz (T := "tuple") (U := "int") (by decide) ⟨_,ho,Z⟩ (λs'=>Uk s' _ t) gx F.fills_int_mul F.slot_int_rmul jr F.slot_int_index.lookup
   (Ul F.slot_int_rmul (Uk s _ t) F.entry_int_rmul (F.args_int_rmul_2 _ _) (hV _ t p _ k dd sl)
    ⟨ho,Z,⟨_,ho,Z⟩,Ul F.slot_tuple_mul ⟨_,ho,Z⟩ F.entry_tuple_mul (F.args_tuple_mul_2 _ _)
     (tT p k dd sl n t (by simp;omega)) ⟨ho,?_⟩⟩)
  exact⟨.ref p,H,I,Z,q0 Z⟩
 have lp:0<xs.length:=UD.mpr e0;have ie:its≠[]:=λz=>by rw[z,Xj] at l1;omega
 have el:(Vn (λx1 x2=>x1++x2) #[] (Qn (n:Int).toNat its.toArray))=((Qn n its).flatten).toArray:=by
  apply Array.ext';rw[SI,oU its n #[]];simp
 have lf:((Qn n its).flatten).length≤1000:=by
  rw[XT,Yg,Xd,←l1,Nat.mul_comm];exact hn
 have li:its.length≤1000:=by rw[←l1];exact QU (UY _ (by omega)) hn
 have lin:its.length*n≤1000:=by rw[←l1];exact hn
 have lin':(its.length:Int)*n≤1000:=by rw[←UL];exact Int.ofNat_le.mpr lin
 refine Uz (T := "tuple") (U := "int") (by decide) ⟨_,ho,Z⟩ (λs'=>Uk s' _ t) gx F.fills_int_mul F.slot_int_rmul jr F.slot_int_index.lookup
  (Ul F.slot_int_rmul (Uk s _ t) F.entry_int_rmul (F.args_int_rmul_2 _ _) (hV _ t p _ k dd sl)
   ⟨ho,Z,⟨_,ho,Z⟩,Ul F.slot_tuple_mul ⟨_,ho,Z⟩ F.entry_tuple_mul (F.args_tuple_mul_2 _ _)
    (tS p _ k dd sl n t (by simp;omega) (by simp[ie];omega) (by simp[ie];omega) (by simp;omega) (by simp[V4,sizeLine];omega) (by rw[el,Sz,QR];omega))
    ⟨ho,?_⟩⟩)
 rw[el];have ln:((Qn n xs).flatten).length≤1000:=by
  rw[XT,Yg,Xd,Nat.mul_comm];exact hn
 have I2:Inv X pins σ (upd H s.heap.objs.size (.tup (Qn n xs).flatten)) { s with heap:=s.heap.push { cls:=.type "tuple",data:=.seq ((Qn n its).flatten).toArray} }:=
  I.laid (t':=s.toks) (λb o e=>Qb _ e) (P7 _) (show ObjOk X.prog X.w _ _ _ (.tup (Qn n xs).flatten) from⟨by rw[Sz];omega,(Qn n its).flatten,oy rv n,XE _ _⟩)
 exact⟨.ref s.heap.objs.size,_,I2,Z,q e0 _ (I.hok.fresh (P7 _))⟩
end B
namespace B
open PySem PySem.Spec PySem.W L2 PyProof.Rows
def kR(f:Nat->Nat->Bool)(n:Nat){α:Type}:KasT α->(α->Prop)->Prop
 | .ret a,Q=>Q a
 | .ask i j k,Q=>i<n/\j<n/\i≠j/\kR f n (k (f i j)) Q
theorem iz{f:Nat->Nat->Bool}{n:Nat}{α β:Type}{g:α->KasT β}{Q:β->Prop}:∀{t:KasT α},kR f n t (λa=>kR f n (g a) Q)->kR f n (t.bind g) Q
 | .ret a,h=>h
 | .ask i j k,⟨h1,h2,h3,h⟩=>⟨h1,h2,h3,iz h⟩
theorem F1{f:Nat->Nat->Bool}{n:Nat}{α:Type}{Q:α->Prop}{s:Qc}{cmp:Nat->Nat->(Bool->Qc->Prop)->Qc->Prop}(hc:∀i j C,i<n->j<n->i≠j->C (f i j) s->cmp i j C s):∀{t:KasT α},kR f n t Q->t.kasWp cmp (λa s'=>Q a/\s'=s) s
 | .ret a,h=>⟨h,Z⟩
 | .ask i j k,⟨h1,h2,h3,h⟩=>hc i j _ h1 h2 h3 (F1 hc h)
section
variable {g:Nat->Int}{n:Nat}
def gK(g:Nat->Int)(p:Array Nat)(i:Nat):Int:=g (p.getD i 0)
structure qH(n:Nat)(p:Array Nat):Prop where
 perm:p.toList.Perm (P6 n)
theorem qH.size(h:qH n p):p.size=n:=by
 have:=h.perm.length_eq;rw[QN,Si] at this;exact this
theorem nR{p:Array Nat}(h:i<p.size):p.getD i 0=p[i]:=by simp[ZL,h]
theorem qH.lt(h:qH n p)(i:Nat)(hi:i<n):p.getD i 0<n:=by
 have hi':i<p.size:=by rw[h.size];exact hi
 rw[nR hi'];exact Qi.mp (h.perm.mem_iff.mp (Vq.mpr (Array.getElem_mem hi')))
theorem qH.of(h:qH n p)(e:q.Perm p):qH n q:=⟨(Array.perm_iff_toList_perm.mp e).trans h.perm⟩
theorem qH.ne(h:qH n p)(inj:∀i j,i<n->j<n->g i=g j->i=j)(hi:i<n)(hj:j<n)(hij:i≠j):gK g p i≠gK g p j:=λe=>by
 have z:=inj _ _ (h.lt i hi) (h.lt j hj) e;have hi':i<p.size:=by rw[h.size];exact hi
 have hj':j<p.size:=by rw[h.size];exact hj
 rw[nR hi',nR hj'] at z;have nd:p.toList.Nodup:=h.perm.nodup_iff.mpr Tn;have e2:p.toList[i]'(by simpa using hi')=p.toList[j]'(by simpa using hj'):=by simpa using z
 exact hij ((TM nd).mp e2)
def Up(g:Nat->Int)(p:Array Nat)(k:Nat):Prop:=∀i j,i<j->j<k->gK g p i<gK g p j
def Dn(g:Nat->Int)(p:Array Nat)(k:Nat):Prop:=∀i j,i<j->j<k->gK g p j<gK g p i
theorem Up.succ(h:Up g p k)(e:0<k->gK g p (k-1)<gK g p k):Up g p (k+1):=λi j hij hj=>by
 by_cases c:j<k
 ·exact h i j hij c
 ·obtain rfl:j=k:=by omega
  by_cases d:i=j-1
  ·rw[d];exact e (by omega)
  ·exact YF (h i (j-1) (by omega) (by omega)) (e (by omega))
theorem Dn.succ(h:Dn g p k)(e:0<k->gK g p k<gK g p (k-1)):Dn g p (k+1):=λi j hij hj=>by
 by_cases c:j<k
 ·exact h i j hij c
 ·obtain rfl:j=k:=by omega
  by_cases d:i=j-1
  ·rw[d];exact e (by omega)
  ·exact YF (e (by omega)) (h i (j-1) (by omega) (by omega))
variable (inj:∀i j,i<n->j<n->g i=g j->i=j)
include inj
theorem uC{p:Array Nat}(hp:qH n p){Q:Nat->Prop}:∀(f m:Nat),1≤m->f+m=n->Up g p m->(∀m',m≤m'->m'≤n->Up g p m'->(m'<n->gK g p m'<gK g p (m'-1))->Q m')->kR (λi j=>decide (g i<g j)) n (kas_asc p f m) Q
 |0,m,h1,h2,u,k=>k m (P7 _) (by omega) u (λz=>by omega)
 |f+1,m,h1,h2,u,k=>by
  refine⟨hp.lt m (by omega),hp.lt (m-1) (by omega),(λz=>hp.ne inj (show m<n by omega) (show m-1<n by omega) (by omega) (congrArg g z)),?_⟩;show kR _ n (if decide (gK g p m<gK g p (m-1))=true then _ else _) Q;by_cases c:gK g p m<gK g p (m-1)
  ·rw[Z9 (Q9 c)];exact k m (P7 _) (by omega) u λ_=>c
  ·rw[aaa (λz=>c (aab z))];have ne:=hp.ne inj (show m<n by omega) (show m-1<n by omega) (by omega);exact uC hp f (m+1) (by omega) (by omega) (u.succ λ_=>by omega) λm' a b=>k m' (by omega) b
theorem vT{p:Array Nat}(hp:qH n p){Q:Array Nat×Nat×Nat->Prop}:∀(f m:Nat),1≤m->f+m=n->Dn g p m->(∀m',m≤m'->m'≤n->Dn g p m'->Q (p,m',0))->kR (λi j=>decide (g i<g j)) n (kas_desc f p m 0) Q
 |0,m,h1,h2,u,k=>k m (P7 _) (by omega) u
 |f+1,m,h1,h2,u,k=>by
  refine⟨hp.lt m (by omega),hp.lt (m-1) (by omega),(λz=>hp.ne inj (show m<n by omega) (show m-1<n by omega) (by omega) (congrArg g z)),?_⟩;show kR _ n (if decide (gK g p m<gK g p (m-1))=true then _ else _) Q;by_cases c:gK g p m<gK g p (m-1)
  ·rw[Z9 (Q9 c),aaa (by omega)];exact vT hp f (m+1) (by omega) (by omega) (u.succ λ_=>c) λm' a b=>k m' (by omega) b
  ·rw[aaa (λz=>c (aab z))];have ne:=hp.ne inj (show m<n by omega) (show m-1<n by omega) (by omega);refine⟨hp.lt (m-1) (by omega),hp.lt m (by omega),(λz=>ne (congrArg g z.symm)),?_⟩;show kR _ n (if decide (gK g p (m-1)<gK g p m)=true then _ else _) Q;rw[Z9 (Q9 (by omega))];exact k m (P7 _) (by omega) u
omit inj in
theorem AE{p:Array Nat}{m:Nat}(hm:m≤p.size)(k:Nat):gK g (kas_rev p 0 m) k=if k<m then gK g p (m-1-k) else gK g p k:=by
 have e:=getElem?_mirror_all (xs:=p) (i:=0) hm k;have a:∀(q:Array Nat) (i:Nat),gK g q i=g (q[i]?.getD 0):=λq i=>by unfold gK;congr 1;simp[ZL];split<;>simp_all
 rw[a,a,a];show g ((mirror p 0 m ((m-0)/2))[k]?.getD 0)=_;rw[e];by_cases c:k<m
 ·rw[Z9 ⟨Qu _,c⟩,Z9 c,VJ]
 ·rw[aaa (λz=>c z.2),aaa c]
omit inj in
theorem AD(hp:qH n p)(m:Nat):qH n (kas_rev p 0 m):=hp.of (mirror_perm _ _ _ _)
omit inj in
theorem Hb(hm:m≤p.size)(d:Dn g p m):Up g (kas_rev p 0 m) m:=λi j hij hj=>by
 rw[AE hm,AE hm,Z9 (by omega),Z9 hj];exact d _ _ (by omega) (by omega)
theorem BZ(h1:1≤n)(hp:qH n p)(k:∀m q,1≤m->m≤n->qH n q->Up g q m->Q (m,q)):kR (λi j=>decide (g i<g j)) n (kas_count n p) Q:=by
 unfold kas_count;refine iz (uC inj hp (n-1) 1 (P7 _) (by omega) (λi j h1 h2=>by omega) λm a b u st=>?_);by_cases c:m=n
 ·rw[Z9 (by rw[c];exact beq_self_eq_true _)];exact k m p a b hp u
 ·rw[aaa (λz=>c (beq_iff_eq.mp z))];by_cases d:m>1
  ·rw[Z9 d];refine⟨hp.lt 0 (by omega),hp.lt (m-1) (by omega),(λz=>hp.ne inj (show 0<n by omega) (show m-1<n by omega) (by omega) (congrArg g z)),?_⟩;show kR _ n (if decide (gK g p 0<gK g p (m-1))=true then _ else _) Q;rw[Z9 (Q9 (u 0 (m-1) (by omega) (by omega)))];exact k m p a b hp u
  ·rw[aaa d];obtain rfl:m=1:=by omega
   have s1:=st (by omega);unfold kas_descPart;refine iz (vT inj hp (n-(1+1)) (1+1) (by omega) (by omega) (λi j x y=>by
    obtain rfl:i=0:=by omega
    obtain rfl:j=1:=by omega
    exact s1) λm' a' b' dn=>?_)
   rw[aaa (show ¬(0:Nat)>0 by omega)];show kR _ n (kas_tail3 m' n p) Q;unfold kas_tail3;have hz:m'≤p.size:=by rw[hp.size];exact b'
   exact iz (uC inj (AD hp m') (n-m') m' (by omega) (by omega) (Hb hz dn) λm2 a2 b2 u2 _=>k m2 _ (by omega) b2 (AD hp m') u2)
theorem nG{p:Array Nat}(hp:qH n p){k:Nat}(hk:k<n)(u:Up g p k){Q:Nat->Prop}(q:∀l,l≤k->(∀i,i<l->gK g p i<gK g p k)->(∀i,l≤i->i<k->gK g p k<gK g p i)->Q l):∀(f l r:Nat),r≤l+f->l≤r->r≤k->(∀i,i<l->gK g p i<gK g p k)->(∀i,r≤i->i<k->gK g p k<gK g p i)->kR (λi j=>decide (g i<g j)) n (kas_place p k f l r) Q
 |0,l,r,h1,h2,h3,a,b=>q l (by omega) a λi x y=>b i (by omega) y
 |f+1,l,r,h1,h2,h3,a,b=>by
  unfold kas_place;by_cases c:l≥r
  ·rw[Z9 c];exact q l (by omega) a λi x y=>b i (by omega) y
  ·rw[aaa c];refine⟨hp.lt k hk,hp.lt ((l+r)/2) (by omega),(λz=>hp.ne inj hk (show(l+r)/2<n by omega) (by omega) (congrArg g z)),?_⟩;show kR _ n (if decide (gK g p k<gK g p ((l+r)/2))=true then _ else _) Q;by_cases d:gK g p k<gK g p ((l+r)/2)
   ·rw[Z9 (Q9 d)];refine nG hp hk u q f l ((l+r)/2) (by omega) (by omega) (by omega) a λi x y=>?_
    by_cases e:i=(l+r)/2
    ·rw[e];exact d
    ·exact YF d (u _ _ (by omega) y)
   ·rw[aaa (λz=>d (aab z))];have ne:=hp.ne inj hk (show(l+r)/2<n by omega) (by omega);refine nG hp hk u q f ((l+r)/2+1) r (by omega) (by omega) h3 (λi x=>?_) b;by_cases e:i=(l+r)/2
    ·rw[e];omega
    ·have:=u i ((l+r)/2) (by omega) (by omega);omega
omit inj in
theorem CH{p:Array Nat}{k d:Nat}(hk:k<p.size)(hd:d≤k)(i:Nat):gK g (bubble p k d) i=if i=k-d then gK g p k else if k-d<i/\i≤k then gK g p (i-1) else gK g p i:=by
 have e:=getElem?_bubble hk d hd i;have a:∀(q:Array Nat) (i:Nat),gK g q i=g (q[i]?.getD 0):=λq i=>by unfold gK;congr 1;simp[ZL];split<;>simp_all
 rw[a,a,a,a,e]
 split
 ·rfl
 ·split<;>rfl
theorem B1{Q:Array Nat->Prop}(q:∀p,qH n p->Up g p n->Q p):∀(f:Nat) (p:Array Nat) (k:Nat),f+k=n->qH n p->Up g p k->kR (λi j=>decide (g i<g j)) n (kas_bin f p k) Q
 |0,p,k,h,hp,u=>q p hp (by rw[show k=n by omega] at u;exact u)
 |f+1,p,k,h,hp,u=>by
  unfold kas_bin;refine iz (nG inj hp (k:=k) (by omega) u (λl hl a b=>?_) k 0 k (by omega) (by omega) (P7 _) (λi z=>by omega) (λi x y=>by omega));refine B1 q f _ (k+1) (by omega) (hp.of (bubble_perm _ _ _)) λi j hij hj=>?_
  have hz:k<p.size:=by rw[hp.size];omega
  rw[CH hz (by omega),CH hz (by omega),show k-(k-l)=l by omega];by_cases c1:i=l
  ·rw[Z9 c1,aaa (by omega),Z9 (by omega)];exact b _ (by omega) (by omega)
  ·rw[aaa c1];by_cases c2:l<i/\i≤k
   ·rw[Z9 c2,aaa (by omega),Z9 (by omega)];exact u _ _ (by omega) (by omega)
   ·rw[aaa c2];by_cases c3:j=l
    ·rw[Z9 c3];exact a i (by omega)
    ·rw[aaa c3];by_cases c4:l<j/\j≤k
     ·rw[Z9 c4];by_cases c5:i=j-1
      ·omega
      ·exact u _ _ (by omega) (by omega)
     ·rw[aaa c4];exact u _ _ hij (by omega)
theorem EM(h1:1≤n)(q:∀p,qH n p->Up g p n->Q p):kR (λi j=>decide (g i<g j)) n (kas_sort n) Q:=by
 unfold kas_sort;refine iz (BZ inj h1 ⟨by simp⟩ λm p a b hp u=>?_);by_cases c:m<n
 ·rw[Z9 c];exact B1 inj q _ p _ (by show n-max m 1+max m 1=n;omega) hp (by rw[show max m 1=m by omega];exact u)
 ·rw[aaa c];obtain rfl:m=n:=by omega
  exact q p hp u
end
def T3(K:P4)(H:Hp)(v:V)(k:Int×Int):Prop:=∃a z,v=.ref a/\bF K H a [.int k.1,.int k.2,z]
def k3(k:Int×Int):Int:=k.1*1000+k.2
section
variable {prog:Q4}{w:Rm}{A:Rg}{E:Value->Qc->Prop}{s:Qc}{a b:Addr}{x y:Int×Int}{t1 t2 t3 t4:Z5}{z1 z2:Value}
def J4(h:Qo)(v:Value)(k:Int×Int):Prop:=∃b o t1 t2 z m,v=.ref b/\h.get? b=some o/\o.cls=.type "tuple"/\o.data=.seq #[.int k.1 t1,.int k.2 t2,z] m
theorem Go(hu:J4 s.heap u x)(hv:J4 s.heap v y)(ne:k3 x≠k3 y)(h1:0≤x.2/\x.2<1000)(h2:0≤y.2/\y.2<1000)(h:Q (decide (k3 x<k3 y)) s):Qw (QK prog w) A (keyLt' (tuples' true) u v) Q E s:=by
 obtain⟨a,oa,t1,t2,z1,m1,rfl,ha,_,da⟩:=hu;obtain⟨b,ob,t3,t4,z2,m2,rfl,hb,_,db⟩:=hv;refine kat_lt ha da hb db ?_;show KatLex _ _ _ _ _ _ [(R1 x.1 t1,R1 y.1 t3),(R1 x.2 t2,R1 y.2 t4),(z1,z2)] 0 s;refine kat_cons (Vi ?_);unfold k3 at h ne;by_cases c:x.1=y.1
 ·rw[show(x.1==y.1)=true from beq_iff_eq.mpr c];refine kat_yes (kat_cons (Vi ?_));rw[show(x.2==y.2)=false from beq_eq_false_iff_ne.mpr (by omega)];refine kat_no ?_;show Qw _ _ (oneLt' false _ _) _ _ _;refine kat_one _ _ ?_;refine richCompare_gives (op:=.Lt) (Uk s _ t2) (Uk s _ t4) F.slot_int_lt F.entry_int_lt (F.args_int_lt_2 _ _) (gives_int_lt _ _ t2 t4) (λx=>nomatch x) ?_;show Q (decide (x.2<y.2)) s;rw[show decide (x.2<y.2)=decide (x.1*1000+x.2<y.1*1000+y.2) from decide_eq_decide.mpr (by omega)];exact h
 ·rw[show(x.1==y.1)=false from beq_eq_false_iff_ne.mpr c];refine kat_no ?_;show Qw _ _ (oneLt' true _ _) _ _ _;refine oneLt_int ?_;rw[show decide (x.1<y.1)=decide (x.1*1000+x.2<y.1*1000+y.2) from decide_eq_decide.mpr (by omega)];exact h
theorem nE{h:Qo}:∀{vs:List Value} {ks:List (Int×Int)},ks.length=vs.length->(∀i v,vs[i]?=some v->J4 h v (ks.getD i (0,0)))->∃fs,KatTups h vs fs/\fs.length=vs.length/\∀f∈fs,∃n t,f=R1 n t
 | [],_,_,_=>⟨[],.nil,Z,λf hf=>by cases hf⟩
 |v::vs,[],e,_=>by cases e
 |v::vs,k::ks,e,hh=>by
  obtain⟨fs,h1,h2,h3⟩:=nE (vs:=vs) (ks:=ks) (by simpa using e) λi u hu=>by simpa using hh (i+1) u (by simpa using hu)
  obtain⟨b,o,t1,t2,z,m,rfl,ho,hc,hd⟩:=hh 0 v Z;refine⟨_::fs,KatTups.cons ho hc hd Z h1,by rw[Q2,h2,Q2],λf hf=>?_⟩;rcases Qm.mp hf with z|z
  ·exact⟨_,_,z⟩
  ·exact h3 f z
def oP(vs:List Value)(is:List Nat):Array Value:=(is.map λi=>vs.getD i Sb).toArray
theorem zw(ho:s.heap.get? a=some (Va "list" vs.toArray n))(ks:List (Int×Int))(lk:ks.length=vs.length)(hT:∀i v,vs[i]?=some v->J4 s.heap v (ks.getD i (0,0))/\v≠.ref a)
  (inj:∀i j,i<vs.length->j<vs.length->k3 (ks.getD i (0,0))=k3 (ks.getD j (0,0))->i=j) (bd:∀i,i<vs.length->0≤(ks.getD i (0,0)).2/\(ks.getD i (0,0)).2<1000) (h64:vs.length<64)
  (h:∀is:List Nat,is.Perm (P6 vs.length)->(is.map λi=>k3 (ks.getD i (0,0))).Pairwise (· < ·)->P (.done (.ret .none)) { s with heap:=sortedHeap s.heap a vs (oP vs is)}):
  Qw (QK prog w) A (Q8.«list.sort» ⟨[.ref a],[]⟩) P E s:=by
 rw[list_sort_plain];have ha:a<s.heap.objs.size:=Qt ho;have hsl:vs.toArray.size≤sizeLine:=by rw[QR,Sz];omega
 refine P9 (listItems_at ho Z ?_);refine P9 (X3 ho Z ?_ hsl (Qu _));obtain⟨e1,ho1⟩:∃e1,(s.heap.update a (T9 λ_=>#[])).get? a=some (Va "list" #[] e1):=⟨_,get?_update_seq ho (λ_=>#[])⟩;refine P9 (Zg ho1 Z ?_);refine P9 (wpAny_newTuple ?_ (by show vs.length≤_;rw[Sz];omega));refine P9 (wpAny_newList ?_ (Qu _));refine wpAny_holding ?_;have ho6:(((s.heap.update a (T9 λ_=>#[])).push (Va "tuple" vs.toArray 0)).push (Va "list" #[] 0)).get? a=some (Va "list" #[] e1):=Qb _ (Qb _ ho1);have hT6:∀i v,vs[i]?=some v->J4 (((s.heap.update a (T9 λ_=>#[])).push (Va "tuple" vs.toArray 0)).push (Va "list" #[] 0)) v (ks.getD i (0,0)):=λi v hv=>by
  obtain⟨⟨b,o,t1,t2,z,m,rfl,hb,hc,hd⟩,nv⟩:=hT i v hv;have nb:b≠a:=λq=>nv (by rw[q])
  exact⟨b,o,t1,t2,z,m,Z,Qb _ (Qb _ ((Ry _ _ (T5 nb)).trans hb)),hc,hd⟩
 show Qw (QK prog w) A _ P E { s with heap:=((s.heap.update a (T9 λ_=>#[])).push (Va "tuple" vs.toArray 0)).push (Va "list" #[] 0)};dsimp only;have hsz:vs.toArray.size=vs.length:=by simp
 have osz:∀is:List Nat,is.Perm (P6 vs.length)->(oP vs is).size≤sizeLine+1:=λis hp=>by
  unfold oP;have:=hp.length_eq;rw[QN] at this;rw[QR,P8,this,Sz];omega
 by_cases h2:vs.toArray.size<2
 ·rw[Z9 h2,Z9 h2];refine P9 (wpAny_pure ?_);rw[StateT.run_pure];refine P9 (wpAny_pure ?_);dsimp only;have eo:(arrOf (SortSt.mk' general' (vs.toArray.zip vs.toArray) #[] 7 none)).map (·.2)=oP vs (P6 vs.length):=by
   apply Array.toList_inj.mp;show((vs.toArray.zip vs.toArray).map (·.2)).toList=(Z7 _ _);refine WK (by simp) λi h1 h2=>?_
   have hi:i<vs.length:=by simpa using h2
   simp[hi]
  refine P9 (Zg ho6 Z ?_);rw[eo];refine P9 (X3 ho6 Z ?_ (Qu _) (osz _ (.refl _)));simp only[bne_self_eq_false,Tp,if_false];refine wpAny_pure (h _ (.refl _) ?_);rw[So,RH];intro i j hi hj hij;rw[QN] at hi hj;omega
 ·rw[aaa h2,aaa h2];obtain⟨fs,f1,f2,f3⟩:=nE lk hT6;refine P9 (kat_kind (T:=TY "int") f1 (by omega) (λv hv=>by obtain⟨n,t,rfl⟩:=f3 v hv;exact .now) (by decide) ?_);have key:=EM (g:=λi=>k3 (ks.getD i (0,0))) inj (show 1≤vs.length by omega) (Q:=λp=>p.toList.Perm (P6 vs.length)/\(p.toList.map λi=>k3 (ks.getD i (0,0))).Pairwise (· < ·)) λp hp up=>by
   refine⟨hp.perm,?_⟩;rw[So,RH];intro i j hi hj hij;have hi':i<p.size:=by simpa using hi
   have hj':j<p.size:=by simpa using hj
   have:=up i j hij (by rw[←hp.size];exact hj');unfold gK at this;rw[nR hi',nR hj'] at this
   simpa using this
  have tree:=F1 (s:={ s with heap:=((s.heap.update a (T9 λ_=>#[])).push (Va "tuple" vs.toArray 0)).push (Va "list" #[] 0)}) (cmp:=kas_ask prog w A (tuples' true) vs) (λi j C hi hj hij hC=>by
   have e1:vs[i]?=some (vs.getD i Sb):=by rw[Qa,P5 hi];rfl
   have e2:vs[j]?=some (vs.getD j Sb):=by rw[Qa,P5 hj];rfl
   exact Go (hT6 i _ e1) (hT6 j _ e2) (λz=>hij (inj i j hi hj z)) (bd i hi) (bd j hj) hC) key
  refine P9 (Sd (kat_run (ks:=vs) (vs:=vs) (Q:=λst' s'=>∃p:Array Nat,arrOf st'=p.map (kas_item (vs.toArray.zip vs.toArray))/\failedOf st'=none/\(p.toList.Perm (P6 vs.length)/\(p.toList.map λi=>k3 (ks.getD i (0,0))).Pairwise (· < ·))/\s'=_)
   rfl (by omega) h64 (λp' st' s' a1 a2 a3 a4=>⟨p',a2,a3,a4.1,a4.2⟩) tree) ?_ λ_ _ e=>e)
  rintro⟨⟨⟩,st'⟩ s' ⟨p,har,hf,⟨hp,hs⟩,rfl⟩;dsimp only;have hout:(arrOf st').map (·.2)=oP vs p.toList:=kat_snds Z har;refine P9 (Zg ho6 Z ?_);rw[hout];refine P9 (X3 ho6 Z ?_ (Qu _) (osz _ hp));rw[hf];simp only[bne_self_eq_false,Tp,if_false];exact wpAny_pure (h _ hp hs)
end
def Hc(K:P4):List V->Hp->VK->Prop:=λxs H Q=>∃(p:Addr) (vs:List V) (ks:List (Int×Int)),xs=[.ref p]/\aX K H p vs/\b8 (T3 K H) vs ks/\vs.length<64/\(ks.map k3).Nodup/\(∀k∈ks,0≤k.2/\k.2<1000)/\∀(l:Addr) (is:List Nat),is.Perm (P6 vs.length)->(is.map λi=>k3 (ks.getD i (0,0))).Pairwise (· < ·)->H l=none->Q (.ref l) (upd H l (.lst (is.map λi=>vs.getD i .non)))
theorem oz{vs:List V}{us:List Value}(h:bo vs us):∀{is:List Nat},(∀i∈is,i<vs.length)->bo (is.map λi=>vs.getD i .non) (is.map λi=>us.getD i Sb)
 | [],_=>.nil
 |i::is,hl=>by
  refine .cons ?_ (oz h λj hj=>hl j (Qe _ hj));have hi:=hl i Qd;obtain⟨u,e,r⟩:=bo.get h (P5 hi);show L2.RelV (vs.getD i V.non) (us.getD i Sb);rw[Qa,Qa,P5 hi,e];exact r
theorem uK:dN X (.builtin "sorted") (Hc X.K):=by
 intro pins s σ H xs us Q I r h;obtain⟨p,vs,ks,rfl,hq,al,h64,nd,bd,q⟩:=h;obtain⟨u,rfl,rx⟩:=gh r
 cases rx
 obtain⟨its,rv,pl,_⟩:=I.list hq;obtain⟨o,ho,hc,n,hd⟩:=pl.isList;have hlen:its.length=vs.length:=rv.length.symm;have lk:ks.length=its.length:=by rw[hlen,al.len]
 have sz:its.toArray.size≤sizeLine:=by rw[QR,Sz];omega
 refine Calls.call_function_entry kind_sorted plain_sorted entry_sorted (args_sorted1 (.ref p)) ?_;unfold Q8.«sorted»;refine P9 (m:=checkCount "sorted" 1 1 _) (wpAny_pure (P9 (wpAny_collect_seq p (.inl Z) ho hc hd (λh1 kp=>P9 (wpAny_newList ?_)) sz)));have hoL:(h1.push (Va "list" its.toArray 0)).get? h1.objs.size=some (Va "list" its.toArray 0):=QD _ Z;show Qw _ _ _ _ _ { s with heap:=h1.push (Va "list" its.toArray 0)};have I1:L2.Inv X pins σ H { s with heap:=h1}:=I.kept (t':=s.toks) kp;have tri:∀i v,its[i]?=some v->J4 (h1.push (Va "list" its.toArray 0)) v (ks.getD i (0,0))/\v≠.ref h1.objs.size:=λi v hv=>by
  have il:=(Qq.mp hv).1;obtain⟨x,hx⟩:∃x,vs[i]?=some x:=⟨_,P5 (by omega)⟩;obtain⟨k,hk,b,z,rfl,hS⟩:=al.at hx;obtain⟨u1,e4,ru1⟩:=bo.get rv hx;rw[hv] at e4
  cases e4
  obtain rfl:v=.ref b:=ru1;obtain⟨it3,rv3,⟨o3,g1,g2,m3,g3⟩,_⟩:=I1.tuple hS;rw[Qa,hk]
  cases rv3 with
  |cons w1 w2=>
   obtain⟨t1,rfl⟩:=w1
   cases w2 with
   |cons w3 w4=>
    obtain⟨t2,rfl⟩:=w3
    cases w4 with
    |cons w5 w6=>
     cases w6
     have lt:b<h1.objs.size:=Qt g1;exact⟨⟨b,o3,t1,t2,_,m3,Z,Qb _ g1,g2,g3⟩,λz=>by injection z with z;rw[z] at lt;exact Ri _ lt⟩
 have inj:∀i j,i<its.length->j<its.length->k3 (ks.getD i (0,0))=k3 (ks.getD j (0,0))->i=j:=λi j hi hj e=>by
  have hi':i<(ks.map k3).length:=by rw[P8,lk];exact hi
  have hj':j<(ks.map k3).length:=by rw[P8,lk];exact hj
  refine(TM nd (h₀:=hi') (h₁:=hj')).mp ?_;rw[TV,TV];rw[Qa,Qa,P5 (by omega),P5 (by omega)] at e;exact e
 have bd':∀i,i<its.length->0≤(ks.getD i (0,0)).2/\(ks.getD i (0,0)).2<1000:=λi hi=>by
  rw[Qa,P5 (by omega)];exact bd _ (Qx _)
 refine P9 (wpAny_holding (SW slot_list_sort ⟨_,hoL,Z⟩ entry_list_sort (zw hoL ks lk tri inj bd' (by omega) λis a2 a3=>⟨_,Z,wpAny_pure ⟨_,Z,?_⟩⟩) (args_list_sort _)));obtain⟨ep,he⟩:=sortedHeap_at (out:=oP its is) hoL;have li:is.length=vs.length:=by rw[a2.length_eq,QN,hlen]
 have lm:(is.map λi=>vs.getD i .non).length≤sizeLine:=by rw[P8,li,Sz];omega
 have vp:=oz rv (is:=is) λi hi=>by rw[←hlen];exact Qi.mp (a2.mem_iff.mp hi)
 refine⟨.ref h1.objs.size,_,I1.laid (a:=h1.objs.size) (o:=.lst (is.map λi=>vs.getD i .non)) (t':=s.toks) (λb u hb=>?_) (P7 _) ⟨lm,_,ep,vp,he⟩,Z,q _ is (by rw[←hlen];exact a2) a3 (I1.hok.fresh (P7 _))⟩;have hlt:b<h1.objs.size:=Qt hb;rw[sortedHeap_old (Rf hlt) (by rw[size_push'];exact U5 hlt)];exact Qb _ hb
end B
local macro_rules
 | `(tactic| nofun)=>`(tactic| (extract_lets +lift;try dsimp -zeta -zetaDelta only[L2.Cx.nox,L2.Cx.wish,L2.bL]))
namespace My
open PySem L2 B PyProof.Rows
theorem cC{X:Cx}{pos:Uf}(i:Nat){x:QX}{e:Re}{te:TE}{pos':Uf}(hN:X.N.Nodup)(he:QE X e te)(hi:X.N[i]?=some x:=by rfl)(hx:yA X.env.scope x:=by first|exact Q0 Z|exact QV Z)(hs:S9 e (some (.Name x pos')) pos.line X.env=Sq false:=by rfl)(hf:X.fn x=true∨X.env.scope.names.lookup x=some .local:=by first|exact .inl Z|exact .inr Z|assumption):QS X (.Assign [.Name x pos'] e pos) (pM te (jL i)):=Hg hN hi hx he hs hf
theorem eN{N P:List QX}{sc:Uw}(a:sc.kind=.function:=by rfl)(b:sc.isCoroutine=false:=by rfl)(c:sc.isGenerator=false:=by rfl)(d:N.Nodup:=by decide +kernel)(e:N.take P.length=P:=by rfl)(f:∀x∈P,sc.names.lookup x=some .local∨sc.names.lookup x=some .cell:=by decide +kernel)(g:∀y∈sc.names,y.2≠.free:=by decide +kernel):aG N P sc:=⟨a,b,c,d,e,f,g⟩
theorem cT{X:Cx}{k j:Nat}{f:Addr}{fd:Qh}{ps:List QX}{sp:Sp}{x:QX}{p pos:Uf}{e:Re}{es:List Re}{t:TA}(F:bC X.prog X.w X.K X.mg X.base dU k f fd ps sp)(hr:c9 j X.A)(hm:X.mg x=some (.ref f))(hk:Sr X.K (.ref f)=true)(hb:aN X.K fd ps [])(ha:QA X (e::es) t)(hl:k≤j:=by decide)(hg:Gl X x:=by rfl)(hdb:(x==("__debug__" : QX))=false:=by decide)(he:Qs (e::es) X.env=(false,eval e X.env)::Qs es X.env:=by rfl)(hpl:(Tb pos (Qs es X.env)).any (·.1)=false:=by rfl):QE X (.Call (.Name x p) (e::es) [] pos) (yZ sp [] E0 t):=vD F (hr.mono hl) hg hm hk hb .nil Bm ha hdb he hpl
theorem ci{X:Cx}{a b:Re}{ta tb:TE}{pos:Uf}{r:R2}(hr:JK X r)(ha:QE X a ta)(hb:QE X b tb)(hs:qI b:=by exact λ_ _=>Z):QE X (.Subscript a b pos) (Dg r ta tb):=bv hr ha hb hs
theorem Oe{K:P4}{x qual:QX}{st:Stmt}{f:Addr}{fd:Qh}{ps:List QX}(F:Fun K x qual st f fd) (h:∀(kV doc pm:Value) (an:Option Addr) (cdv ct:Value) (us:List Value),us.length=ps.length->Yr (Sx x qual (dG st) (cY st) (aA st) .none kV doc pm an cdv ct) ⟨us,[]⟩=Sq (ps.zip us):=by
 intro _ _ _ _ _ _ us hl
 match us,hl with
 | [],h2=>first|rfl | (simp at h2)
 | [_],h2=>first|rfl | (simp at h2)
 | [_,_],h2=>first|rfl | (simp at h2)
 | [_,_,_],h2=>first|rfl | (simp at h2)
 | [_,_,_,_],h2=>first|rfl | (simp at h2)
 |_::_::_::_::_::_,h2=>simp at h2):aN K fd ps []:=F.binds h
def top(i:Nat):Stmt:=PySem.Challenge.pw_paceplan_k66_kept_plans.main.body.getD i (.Pass ⟨0,0,0,0⟩)
abbrev Ah:Stmt:=top 1
abbrev Az:Stmt:=top 2
abbrev GZ:Stmt:=top 3
abbrev G6:Stmt:=top 13
abbrev Ag:Stmt:=top 14
abbrev G5:Stmt:=top 15
abbrev zS:Stmt:=top 16
abbrev zN:Stmt:=top 17
abbrev zR:Stmt:=top 18
abbrev zQ:Stmt:=top 19
abbrev zM:Stmt:=top 20
abbrev zX:Stmt:=top 21
abbrev zV:Stmt:=top 22
abbrev zP:Stmt:=top 23
abbrev Ay:Stmt:=top 24
abbrev zW:Stmt:=top 28
abbrev Ap:Stmt:=top 29
abbrev Ax:Stmt:=top 30
abbrev Af:Stmt:=top 31
abbrev GY:Stmt:=top 32
abbrev Ae:Stmt:=top 33
abbrev GX:Stmt:=top 35
abbrev zL:Stmt:=top 36
abbrev G4:Stmt:=top 37
abbrev Ac:Stmt:=top 38
abbrev zU:Stmt:=top 39
abbrev G2:Stmt:=top 40
abbrev AA:Stmt:=top 41
abbrev G1:Stmt:=top 43
abbrev Ab:Stmt:=top 44
abbrev Ao:Stmt:=top 45
abbrev zO:Stmt:=top 46
abbrev As:Stmt:=top 47
abbrev G0:Stmt:=top 49
abbrev Ar:Stmt:=top 50
abbrev An:Stmt:=top 52
abbrev Aw:Stmt:=top 54
abbrev Am:Stmt:=top 55
abbrev Aa:Stmt:=top 56
abbrev z9:Stmt:=top 57
abbrev z7:Stmt:=top 58
abbrev Al:Stmt:=top 59
abbrev zT:Stmt:=top 60
abbrev Av:Stmt:=top 61
abbrev Ak:Stmt:=top 62
abbrev z6:Stmt:=top 63
abbrev Aj:Stmt:=top 64
abbrev Aq:Stmt:=top 65
abbrev zZ:Stmt:=top 66
abbrev zY:Stmt:=top 67
abbrev G3:Stmt:=top 68
abbrev zK:Stmt:=top 69
abbrev Au:Stmt:=jK (top 51) 0
abbrev At:Stmt:=jK (top 51) 1
abbrev Ai:Stmt:=jK (top 51) 2
abbrev oJ:Stmt:=jK (top 9) 0
abbrev oI:Stmt:=jK (top 10) 0
set_option genInjectivity false in
structure Ad where
 a_Q30:Addr
 d_Q30:Qh
 a_Q11:Addr
 d_Q11:Qh
 a_Q7:Addr
 d_Q7:Qh
 a_Q0:Addr
 d_Q0:Qh
 a_Q31:Addr
 d_Q31:Qh
 a_Q1:Addr
 d_Q1:Qh
 a_Q51:Addr
 d_Q51:Qh
 a_Q56:Addr
 d_Q56:Qh
 a_Q52:Addr
 d_Q52:Qh
 a_Q53:Addr
 d_Q53:Qh
 a_Q57:Addr
 d_Q57:Qh
 a_Q42:Addr
 d_Q42:Qh
 a_Q45:Addr
 d_Q45:Qh
 a_Q54:Addr
 d_Q54:Qh
 a_Q12:Addr
 d_Q12:Qh
 a_Q43:Addr
 d_Q43:Qh
 a_Q21:Addr
 d_Q21:Qh
 a_Q13:Addr
 d_Q13:Qh
 a_Q32:Addr
 d_Q32:Qh
 a_Q8:Addr
 d_Q8:Qh
 a_Q33:Addr
 d_Q33:Qh
 a_Q9:Addr
 d_Q9:Qh
 a_Q58:Addr
 d_Q58:Qh
 a_Q2:Addr
 d_Q2:Qh
 a_Q34:Addr
 d_Q34:Qh
 a_Q46:Addr
 d_Q46:Qh
 a_Q4:Addr
 d_Q4:Qh
 a_Q10:Addr
 d_Q10:Qh
 a_Q5:Addr
 d_Q5:Qh
 a_Q35:Addr
 d_Q35:Qh
 a_Q22:Addr
 d_Q22:Qh
 a_Q55:Addr
 d_Q55:Qh
 a_Q18:Addr
 d_Q18:Qh
 a_Q6:Addr
 d_Q6:Qh
 a_Q19:Addr
 d_Q19:Qh
 a_Q23:Addr
 d_Q23:Qh
 a_Q14:Addr
 d_Q14:Qh
 a_Q24:Addr
 d_Q24:Qh
 a_Q36:Addr
 d_Q36:Qh
 a_Q37:Addr
 d_Q37:Qh
 a_Q38:Addr
 d_Q38:Qh
 a_Q25:Addr
 d_Q25:Qh
 a_Q47:Addr
 d_Q47:Qh
 a_Q15:Addr
 d_Q15:Qh
 a_Q26:Addr
 d_Q26:Qh
 a_Q39:Addr
 d_Q39:Qh
 a_Q27:Addr
 d_Q27:Qh
 a_Q20:Addr
 d_Q20:Qh
 a_Q40:Addr
 d_Q40:Qh
 a_Q41:Addr
 d_Q41:Qh
 a_Q3:Addr
 d_Q3:Qh
 a_Q59:Addr
 d_Q59:Qh
 a_Q16:Addr
 d_Q16:Qh
 a_Q17:Addr
 d_Q17:Qh
 a_Q28:Addr
 d_Q28:Qh
 c_Keeper:Addr
 c_NOUGHT:Addr
 k_TURNS:Z5
 k_MOST_WORKS:Z5
 c_base:Addr
 c_Q48:Addr
 a_Q48:Addr
 d_Q48:Qh
 c_Q49:Addr
 a_Q49:Addr
 d_Q49:Qh
 c_Q29:Addr
 c_Q50:Addr
 c_Q44:Addr
structure eJ(K:P4)(mg:QX->Option Value)(t:Ad):Prop where
 F_Q30:Fun K "is_whole" "is_whole" Ah t.a_Q30 t.d_Q30
 b_Q30:aN K t.d_Q30 ["thing"] []
 m_Q30:mg "is_whole"=some (.ref t.a_Q30)
 F_Q11:Fun K "is_tuple_of" "is_tuple_of" Az t.a_Q11 t.d_Q11
 b_Q11:aN K t.d_Q11 ["thing","length"] []
 m_Q11:mg "is_tuple_of"=some (.ref t.a_Q11)
 F_Q7:Fun K "is_number_of" "is_number_of" GZ t.a_Q7 t.d_Q7
 b_Q7:aN K t.d_Q7 ["thing","count"] []
 m_Q7:mg "is_number_of"=some (.ref t.a_Q7)
 F_Q0:Fun K "greatest_divisor" "greatest_divisor" G6 t.a_Q0 t.d_Q0
 b_Q0:aN K t.d_Q0 ["one","other"] []
 m_Q0:mg "greatest_divisor"=some (.ref t.a_Q0)
 F_Q31:Fun K "is_ratio" "is_ratio" Ag t.a_Q31 t.d_Q31
 b_Q31:aN K t.d_Q31 ["thing"] []
 m_Q31:mg "is_ratio"=some (.ref t.a_Q31)
 F_Q1:Fun K "is_above_nought" "is_above_nought" G5 t.a_Q1 t.d_Q1
 b_Q1:aN K t.d_Q1 ["thing"] []
 m_Q1:mg "is_above_nought"=some (.ref t.a_Q1)
 F_Q51:Fun K "ratio" "ratio" zS t.a_Q51 t.d_Q51
 b_Q51:aN K t.d_Q51 ["top","bottom"] []
 m_Q51:mg "ratio"=some (.ref t.a_Q51)
 F_Q56:Fun K "plus" "plus" zN t.a_Q56 t.d_Q56
 b_Q56:aN K t.d_Q56 ["one","other"] []
 m_Q56:mg "plus"=some (.ref t.a_Q56)
 F_Q52:Fun K "minus" "minus" zR t.a_Q52 t.d_Q52
 b_Q52:aN K t.d_Q52 ["one","other"] []
 m_Q52:mg "minus"=some (.ref t.a_Q52)
 F_Q53:Fun K "times" "times" zQ t.a_Q53 t.d_Q53
 b_Q53:aN K t.d_Q53 ["one","other"] []
 m_Q53:mg "times"=some (.ref t.a_Q53)
 F_Q57:Fun K "over" "over" zM t.a_Q57 t.d_Q57
 b_Q57:aN K t.d_Q57 ["one","other"] []
 m_Q57:mg "over"=some (.ref t.a_Q57)
 F_Q42:Fun K "is_less" "is_less" zX t.a_Q42 t.d_Q42
 b_Q42:aN K t.d_Q42 ["one","other"] []
 m_Q42:mg "is_less"=some (.ref t.a_Q42)
 F_Q45:Fun K "lesser" "lesser" zV t.a_Q45 t.d_Q45
 b_Q45:aN K t.d_Q45 ["one","other"] []
 m_Q45:mg "lesser"=some (.ref t.a_Q45)
 F_Q54:Fun K "total" "total" zP t.a_Q54 t.d_Q54
 b_Q54:aN K t.d_Q54 ["some"] []
 m_Q54:mg "total"=some (.ref t.a_Q54)
 F_Q12:Fun K "whole_parts" "whole_parts" Ay t.a_Q12 t.d_Q12
 b_Q12:aN K t.d_Q12 ["some"] []
 m_Q12:mg "whole_parts"=some (.ref t.a_Q12)
 F_Q43:Fun K "is_work" "is_work" zW t.a_Q43 t.d_Q43
 b_Q43:aN K t.d_Q43 ["thing"] []
 m_Q43:mg "is_work"=some (.ref t.a_Q43)
 F_Q21:Fun K "in_window" "in_window" Ap t.a_Q21 t.d_Q21
 b_Q21:aN K t.d_Q21 ["work","turn"] []
 m_Q21:mg "in_window"=some (.ref t.a_Q21)
 F_Q13:Fun K "no_leanings" "no_leanings" Ax t.a_Q13 t.d_Q13
 b_Q13:aN K t.d_Q13 ["count"] []
 m_Q13:mg "no_leanings"=some (.ref t.a_Q13)
 F_Q32:Fun K "add_lean" "add_lean" Af t.a_Q32 t.d_Q32
 b_Q32:aN K t.d_Q32 ["leanings","lean"] []
 m_Q32:mg "add_lean"=some (.ref t.a_Q32)
 F_Q8:Fun K "all_leanings" "all_leanings" GY t.a_Q8 t.d_Q8
 b_Q8:aN K t.d_Q8 ["count","leans"] []
 m_Q8:mg "all_leanings"=some (.ref t.a_Q8)
 F_Q33:Fun K "drawn_in" "drawn_in" Ae t.a_Q33 t.d_Q33
 b_Q33:aN K t.d_Q33 ["sheet"] []
 m_Q33:mg "drawn_in"=some (.ref t.a_Q33)
 F_Q9:Fun K "kept_windows" "kept_windows" GX t.a_Q9 t.d_Q9
 b_Q9:aN K t.d_Q9 ["works","left"] []
 m_Q9:mg "kept_windows"=some (.ref t.a_Q9)
 F_Q58:Fun K "held" "held" zL t.a_Q58 t.d_Q58
 b_Q58:aN K t.d_Q58 ["windows","begin","end"] []
 m_Q58:mg "held"=some (.ref t.a_Q58)
 F_Q2:Fun K "tightest_places" "tightest_places" G4 t.a_Q2 t.d_Q2
 b_Q2:aN K t.d_Q2 ["windows","amounts","count"] []
 m_Q2:mg "tightest_places"=some (.ref t.a_Q2)
 F_Q34:Fun K "tightest" "tightest" Ac t.a_Q34 t.d_Q34
 b_Q34:aN K t.d_Q34 ["works","left"] []
 m_Q34:mg "tightest"=some (.ref t.a_Q34)
 F_Q46:Fun K "layers" "layers" zU t.a_Q46 t.d_Q46
 b_Q46:aN K t.d_Q46 ["works"] []
 m_Q46:mg "layers"=some (.ref t.a_Q46)
 F_Q4:Fun K "layer_density" "layer_density" G2 t.a_Q4 t.d_Q4
 b_Q4:aN K t.d_Q4 ["works","layer"] []
 m_Q4:mg "layer_density"=some (.ref t.a_Q4)
 F_Q10:Fun K "layer_speeds" "layer_speeds" AA t.a_Q10 t.d_Q10
 b_Q10:aN K t.d_Q10 ["works"] []
 m_Q10:mg "layer_speeds"=some (.ref t.a_Q10)
 F_Q5:Fun K "first_to_come" "first_to_come" G1 t.a_Q5 t.d_Q5
 b_Q5:aN K t.d_Q5 ["works","leanings","waiting"] []
 m_Q5:mg "first_to_come"=some (.ref t.a_Q5)
 F_Q35:Fun K "order_of" "order_of" Ab t.a_Q35 t.d_Q35
 b_Q35:aN K t.d_Q35 ["works","leans"] []
 m_Q35:mg "order_of"=some (.ref t.a_Q35)
 F_Q22:Fun K "deal_turn" "deal_turn" Ao t.a_Q22 t.d_Q22
 b_Q22:aN K t.d_Q22 ["works","order","left","turn","speed"] []
 m_Q22:mg "deal_turn"=some (.ref t.a_Q22)
 F_Q55:Fun K "dealt" "dealt" zO t.a_Q55 t.d_Q55
 b_Q55:aN K t.d_Q55 ["works","leans","speeds"] []
 m_Q55:mg "dealt"=some (.ref t.a_Q55)
 F_Q18:Fun K "least_plan" "least_plan" As t.a_Q18 t.d_Q18
 b_Q18:aN K t.d_Q18 ["sheet"] []
 m_Q18:mg "least_plan"=some (.ref t.a_Q18)
 F_Q6:Fun K "waiting_works" "waiting_works" G0 t.a_Q6 t.d_Q6
 b_Q6:aN K t.d_Q6 ["works","amounts","turn"] []
 m_Q6:mg "waiting_works"=some (.ref t.a_Q6)
 F_Q19:Fun K "renumbered" "renumbered" Ar t.a_Q19 t.d_Q19
 b_Q19:aN K t.d_Q19 ["pieces","numbers"] []
 m_Q19:mg "renumbered"=some (.ref t.a_Q19)
 F_Q23:Fun K "kept_plan" "kept_plan" An t.a_Q23 t.d_Q23
 b_Q23:aN K t.d_Q23 ["works"] []
 m_Q23:mg "kept_plan"=some (.ref t.a_Q23)
 F_Q14:Fun K "_law_cell_at" "_law_cell_at" Aw t.a_Q14 t.d_Q14
 b_Q14:aN K t.d_Q14 ["_law_script","_law_k"] []
 m_Q14:mg "_law_cell_at"=some (.ref t.a_Q14)
 F_Q24:Fun K "_law_draws" "_law_draws" Am t.a_Q24 t.d_Q24
 b_Q24:aN K t.d_Q24 ["_law_cell","_law_many"] []
 m_Q24:mg "_law_draws"=some (.ref t.a_Q24)
 F_Q36:Fun K "_law_take" "_law_take" Aa t.a_Q36 t.d_Q36
 b_Q36:aN K t.d_Q36 ["_law_tape","_law_many"] []
 m_Q36:mg "_law_take"=some (.ref t.a_Q36)
 F_Q37:Fun K "_law_made" "_law_made" z9 t.a_Q37 t.d_Q37
 b_Q37:aN K t.d_Q37 ["_law_top","_law_bottom"] []
 m_Q37:mg "_law_made"=some (.ref t.a_Q37)
 F_Q38:Fun K "_law_plus" "_law_plus" z7 t.a_Q38 t.d_Q38
 b_Q38:aN K t.d_Q38 ["_law_one","_law_other"] []
 m_Q38:mg "_law_plus"=some (.ref t.a_Q38)
 F_Q25:Fun K "_law_minus" "_law_minus" Al t.a_Q25 t.d_Q25
 b_Q25:aN K t.d_Q25 ["_law_one","_law_other"] []
 m_Q25:mg "_law_minus"=some (.ref t.a_Q25)
 F_Q47:Fun K "_law_by" "_law_by" zT t.a_Q47 t.d_Q47
 b_Q47:aN K t.d_Q47 ["_law_one","_law_other"] []
 m_Q47:mg "_law_by"=some (.ref t.a_Q47)
 F_Q15:Fun K "_law_is_less" "_law_is_less" Av t.a_Q15 t.d_Q15
 b_Q15:aN K t.d_Q15 ["_law_one","_law_other"] []
 m_Q15:mg "_law_is_less"=some (.ref t.a_Q15)
 F_Q26:Fun K "_law_total" "_law_total" Ak t.a_Q26 t.d_Q26
 b_Q26:aN K t.d_Q26 ["_law_some"] []
 m_Q26:mg "_law_total"=some (.ref t.a_Q26)
 F_Q39:Fun K "_law_most" "_law_most" z6 t.a_Q39 t.d_Q39
 b_Q39:aN K t.d_Q39 ["_law_some"] []
 m_Q39:mg "_law_most"=some (.ref t.a_Q39)
 F_Q27:Fun K "_law_works" "_law_works" Aj t.a_Q27 t.d_Q27
 b_Q27:aN K t.d_Q27 ["_law_tape","_law_most_here","_law_turns"] []
 m_Q27:mg "_law_works"=some (.ref t.a_Q27)
 F_Q20:Fun K "_law_pieces" "_law_pieces" Aq t.a_Q20 t.d_Q20
 b_Q20:aN K t.d_Q20 ["_law_turn","_law_some"] []
 m_Q20:mg "_law_pieces"=some (.ref t.a_Q20)
 F_Q40:Fun K "_law_gone" "_law_gone" zZ t.a_Q40 t.d_Q40
 b_Q40:aN K t.d_Q40 ["_law_house"] []
 m_Q40:mg "_law_gone"=some (.ref t.a_Q40)
 F_Q41:Fun K "_law_kept" "_law_kept" zY t.a_Q41 t.d_Q41
 b_Q41:aN K t.d_Q41 ["_law_works_here"] []
 m_Q41:mg "_law_kept"=some (.ref t.a_Q41)
 F_Q3:Fun K "_law_plan_right" "_law_plan_right" G3 t.a_Q3 t.d_Q3
 b_Q3:aN K t.d_Q3 ["_law_works_here","_law_plan"] []
 m_Q3:mg "_law_plan_right"=some (.ref t.a_Q3)
 F_Q59:Fun K "law" "law" zK t.a_Q59 t.d_Q59
 b_Q59:aN K t.d_Q59 ["_law_script"] []
 m_Q59:mg "law"=some (.ref t.a_Q59)
 F_Q16:Fun K "__init__" "Keeper.__init__" Au t.a_Q16 t.d_Q16
 b_Q16:aN K t.d_Q16 ["self"] []
 K_Keeper:L2.Mk K t.c_Keeper t.a_Q16
 F_Q17:Fun K "come" "Keeper.come" At t.a_Q17 t.d_Q17
 b_Q17:aN K t.d_Q17 ["self","last","amount"] []
 M_Keeper_come:tz K t.c_Keeper "come" t.a_Q17
 F_Q28:Fun K "go" "Keeper.go" Ai t.a_Q28 t.d_Q28
 b_Q28:aN K t.d_Q28 ["self"] []
 M_Keeper_go:tz K t.c_Keeper "go" t.a_Q28
 m_Keeper:mg "Keeper"=some (.ref t.c_Keeper)
 cl_Keeper:u4 K t.c_Keeper
 n_Keeper_turn:cZ K t.c_Keeper "turn"
 n_Keeper_known:cZ K t.c_Keeper "known"
 n_Keeper_rest:cZ K t.c_Keeper "rest"
 n_Keeper_done:cZ K t.c_Keeper "done"
 m_NOUGHT:mg "NOUGHT"=some (.ref t.c_NOUGHT)
 q_NOUGHT:∀H,bF K H t.c_NOUGHT [.int (0),.int (1)]
 m_TURNS:mg "TURNS"=some (.int (24) t.k_TURNS)
 m_MOST_WORKS:mg "MOST_WORKS"=some (.int (20) t.k_MOST_WORKS)
 X_Q48:XC K t.c_Q48 t.a_Q48 (.ref t.c_base::l6)
 F_Q48:Fun K "__init__" "NoWork.__init__" oJ t.a_Q48 t.d_Q48
 b_Q48:aN K t.d_Q48 ["self","text"] []
 m_Q48:mg "NoWork"=some (.ref t.c_Q48)
 n_Q48_text:cZ K t.c_Q48 "text"
 g_Q48:CV K t.c_Q48
 X_Q49:XC K t.c_Q49 t.a_Q49 (.ref t.c_base::l6)
 F_Q49:Fun K "__init__" "NoTurn.__init__" oI t.a_Q49 t.d_Q49
 b_Q49:aN K t.d_Q49 ["self","text"] []
 m_Q49:mg "NoTurn"=some (.ref t.c_Q49)
 n_Q49_text:cZ K t.c_Q49 "text"
 g_Q49:CV K t.c_Q49
 m_Q29:mg "PaceError"=some (.ref t.c_Q29)
 m_Q50:mg "NoRoom"=some (.ref t.c_Q50)
 m_Q44:mg "NoRatio"=some (.ref t.c_Q44)
 z_abs:mg "abs"=none
 z_all:mg "all"=none
 z_any:mg "any"=none
 z_bool:mg "bool"=none
 z_enumerate:mg "enumerate"=none
 z_int:mg "int"=none
 z_isinstance:mg "isinstance"=none
 z_len:mg "len"=none
 z_list:mg "list"=none
 z_max:mg "max"=none
 z_min:mg "min"=none
 z_range:mg "range"=none
 z_repr:mg "repr"=none
 z_sorted:mg "sorted"=none
 z_sum:mg "sum"=none
 z_tuple:mg "tuple"=none
def iE(_:P4):Sp:=λvs H Q _=>∃a b:Int,vs=[.int a,.int b]/\Q (.int (Qz a b:Nat)) H
theorem BU(hB:0<B)(hb:0<b)(h1:B∣⋯)(h2:b∣⋯):0<B*(b/(Qz B b:Int))/\B*(b/(Qz B b:Int))∣⋯/\B∣B*(b/(Qz B b:Int))/\b∣B*(b/(Qz B b:Int)):=by
 obtain⟨m,rfl⟩:=Rz (R5 hB);obtain⟨n,rfl⟩:=Rz (R5 hb);have e:(m:Int)*((n:Int)/(Qz m n:Int))=((Nat.lcm m n:Nat):Int):=by
  show(m:Int)*((n:Int)/((Nat.gcd m n:Nat):Int))=_;rw[←Int.natCast_ediv,←UL];unfold Nat.lcm;rw[Nat.mul_div_assoc _ (Nat.gcd_dvd_right m n)]
 rw[e];have p:=Nat.lcm_pos (show 0<m by omega) (show 0<n by omega);refine⟨by omega,?_,Sa.mpr (Nat.dvd_lcm_left m n),Sa.mpr (Nat.dvd_lcm_right m n)⟩;have a1:m∣⋯:=Sa.mp h1;have a2:n∣⋯:=Sa.mp h2;exact Sa.mpr (Nat.lcm_dvd a1 a2)
def qo(H:Hp)(Q:VK)(r:R):Prop:=∀p,H p=none->Q (.ref p) (upd H p (.tup [.int r.1,.int r.2]))
def Mr(K:P4)(H:Hp)(Q:VK)(r:R):Prop:=∀(v:V) (H':Hp),aH H H'->RV K H' v r->Q v H'
def zn(_:P4):Sp:=λvs H Q _=>∃a b:Int,vs=[.int a,.int b]/\0<b/\b.natAbs<2^4000/\qo H Q (fo a b)
def Dp(K:P4):Sp:=λvs H Q _=>∃(v w:V) (r q:R) (n m:Nat),vs=[v,w]/\RV K H v r/\RV K H w q/\Wf n r/\Wf m q/\n+m+1≤3000/\qo H Q (bP r q)
def zm(K:P4):Sp:=λvs H Q _=>∃(v w:V) (r q:R) (n m:Nat),vs=[v,w]/\RV K H v r/\RV K H w q/\Wf n r/\Wf m q/\n+m+1≤3000/\qo H Q (fZ r q)
def Pi(K:P4)(H:Hp)(a:Addr)(xs:List V):Prop:=aX K H a xs∨bF K H a xs
def zk(K:P4):Sp:=λvs H Q _=>∃(a:Addr) (xs:List V) (rs:List R) (n D:Nat),vs=[.ref a]/\Pi K H a xs/\Mg K H xs rs/\(∀r∈rs,Wf n r/\r.2∣(D:Int))/\0<D/\D<2^n/\rs.length≤64/\n≤900/\∀(v':V) (H':Hp),aH H H'->RV K H' v' (eK rs)->Q v' H'
theorem wJ{D i n:Nat}{r:R}(h:∀p∈ps,p.1∣(D:Int))(hr:r.2∣(D:Int)):∀p∈gc ps r.2 r.1,p.1∣(D:Int):=λp hp=>by
 rcases(jW ps r.2 r.1 p.1).mp (Qg.mpr ⟨p,hp,Z⟩) with z|z
 ·obtain⟨q,hq,e⟩:=Qg.mp z;rw[←e];exact h q hq
 ·rw[z];exact hr
theorem B8{D n i:Nat}(ok:lE n i ps)(hd:∀p∈ps,p.1∣(D:Int))(hi:i≤64){q:Int×Int}(hq:q∈ps):Bq D (64*2^n) (fo q.2 q.1):=by
 have b:=(ok.bot q hq).1;refine wA b (hd q hq) (QU (ok.top q hq) ?_);refine QU (S8 _ hi) (UY _ (by omega))
theorem CQ(h:Bq D (64*2^n*j) r)(hj:j≤64)(h0:0<D)(hD:D<2^n):Wf (2*n+12) r:=by
 refine h.wf h0 (QJ hD (SD (by decide) (by omega))) ?_;have a:64*2^n*j≤64*2^n*64:=UB _ hj;have b:64*2^n*j*D<64*2^n*64*2^n:=Rn (S8 _ a) (Nat.mul_lt_mul_of_pos_left hD (XB (XB (by decide) (Zf (by decide))) (by decide)));refine QJ b ?_;rw[show 2*n+12=n+(n+12) by omega,Xs,Xs,show(2:Nat)^12=4096 by decide];rw[show 64*2^n*64*2^n=2^n*(2^n*4096) by rw[show(4096:Nat)=64*64 by decide];ac_rfl];exact P7 _
theorem hZ{a g:Int}(hg:0<g)(h:a.natAbs<2^4000):(a/g).natAbs<2^4000:=Rn (f9 a hg) h
theorem nK(hb:0<b)(h:b.natAbs<2^4000):((Qz a b:Nat):Int).natAbs<2^4000:=by
 have z:Qz a b≤b.natAbs:=X1 (by omega) (by have:=Tz a b;exact Vg.mpr this);have e:((Qz a b:Nat):Int).natAbs=Qz a b:=UR _;omega
theorem bM{i:Int}(h:i.natAbs<2^n)(hn:n≤4000):i.natAbs<2^4000:=QJ h (SD (by decide) hn)
def Dq(K:P4):Sp:=λvs H Q _=>∃(v w:V) (r:R) (n m:Nat),vs=[v,w]/\RV K H v r/\RV K H w ((m:Int),1)/\Wf n r/\0<m/\m≤24/\n≤2000/\Mr K H Q (fZ r (1,(m:Int)))
theorem IV{m:Nat}(h:0<m):fo 1 (m:Int)=(1,(m:Int)):=fc (by omega) (by omega) (by simp) (by omega)
theorem Ig{m:Nat}(h:0<m)(h':m≤24):Wf 5 ((1,(m:Int)):R):=⟨by show(0:Int)<m;omega,by show(1:Int).natAbs<2^5;decide,by show((m:Int)).natAbs<32;omega,by simp⟩
theorem Fj{K:P4}{H:Hp}{xs:List V}{rs:List R}(h:b8 (RV K H) xs rs):Mg K H xs rs:=⟨h.len,λi x r hx hr=>by obtain⟨d,hd,p⟩:=h.at hx;rw[hr] at hd;cases hd;exact p⟩
theorem b8.setI{α:Type}{P:V->α->Prop}{v:V}{d:α}(k:P v d):∀{xs:List V} {ds:List α} (i:Nat),b8 P xs ds->b8 P (xs.set i v) (ds.set i d)
 |_,_,_,.nil=>.nil
 |_,_,0,.cons _ t=>.cons k t
 |_,_,i+1,.cons h t=>.cons h (b8.setI k i t)
theorem b8.rep{α:Type}{P:V->α->Prop}{v:V}{d:α}(k:P v d):∀n:Nat,b8 P (Qn n v) (Qn n d)
 |0=>.nil
 |n+1=>.cons k (b8.rep k n)
theorem jI(h:t<n):B2 n (t:Int)=some t:=by
 unfold B2;simp;omega
abbrev Wk:=Nat×Nat×R
def tf(K:P4)(H:Hp)(v:V)(w:Wk):Prop:=∃p x,v=.ref p/\bF K H p [.int w.1,.int w.2.1,x]/\RV K H x w.2.2
theorem tf.mono{K:P4}{H H':Hp}{v:V}{w:Wk}(h:tf K H v w)(t:aK K H H'):tf K H' v w:=let ⟨p,x,e,s,r⟩:=h;⟨p,x,e,t _ _ s,r.mono t⟩
structure JO(r:R):Prop where
 top:1≤r.1
 top':r.1≤12*r.2
 bot:1≤r.2
 dvd:r.2∣⋯
 wf:Wf 760 r
structure bH(w:Wk):Prop where
 le:w.1≤w.2.1
 lt:w.2.1<24
 am:JO w.2.2
def fu(K:P4)(H:Hp)(v:V)(ws:List Wk):Prop:=∃p xs,v=.ref p/\bF K H p xs/\b8 (tf K H) xs ws
theorem fu.mono{K:P4}{H H':Hp}{v:V}{ws:List Wk}(h:fu K H v ws)(t:aK K H H'):fu K H' v ws:=let ⟨p,xs,e,s,a⟩:=h;⟨p,xs,e,t _ _ s,a.mono λ_ _ q=>q.mono t⟩
def bt(ls:List Nat):List V:=ls.map λn:Nat=>V.int n
def cE(ws:List Wk):List Int:=ws.map λw=>w.2.2.1*⋯/w.2.2.2
def ft(B:Int)(ws:List Wk):List Int:=ws.map λw=>w.2.2.1*(B/w.2.2.2)
def mC(K:P4):Sp:=λvs H Q _=>∃(a:Addr) (xs:List V) (ws:List Wk),vs=[.ref a]/\aX K H a xs/\b8 (RV K H) xs (ws.map λw=>w.2.2)/\ws.length≤64/\(∀w∈ws,bH w)/\∀(l:Addr) (B:Int) (H':Hp),aH H H'->H l=none->0<B->B∣⋯->(∀w∈ws,w.2.2.2∣B)->H' l=some (.lst ((ft B ws).map V.int))->Q (.ref l) H'
def fD(w:Wk)(t:Nat):Bool:=decide (w.1≤t)&&decide (t≤w.2.1)
def pU(K:P4):Sp:=λvs H Q _=>∃(v:V) (w:Wk) (t:Nat),vs=[v,.int t]/\tf K H v w/\Q (.bl (fD w t)) H
def gu(ls:List Nat)(w:Wk):List Nat:=(P6 ls.length).filter λi=>fD w (ls.getD i 0)
def bI(ls:List Nat)(w:Wk):Wn:=match gu ls w with
 | []=>none
 |x::r=>some (x,(x::r).getLast (by simp))
def uX(K:P4)(H:Hp)(v:V):Wn->Prop
 |none=>v=.non
 |some q=>∃p,v=.ref p/\bF K H p [.int q.1,.int q.2]
theorem uX.mono{K:P4}{H H':Hp}{v:V}{o:Wn}(h:uX K H v o)(t:aK K H H'):uX K H' v o:=by
 cases o with
 |none=>exact h
 |some q=>obtain⟨p,e,s⟩:=h;exact⟨p,e,t _ _ s⟩
def lg(K:P4):Sp:=λvs H Q _=>∃(v:V) (q:Addr) (ws:List Wk) (ls:List Nat),vs=[v,.ref q]/\fu K H v ws/\ws.length≤64/\bF K H q (bt ls)/\ls.length≤24/\∀(l:Addr) (xs:List V) (H':Hp),aH H H'->H l=none->H' l=some (.lst xs)->b8 (uX K H') xs (ws.map (bI ls))->Q (.ref l) H'
def Dt(K:P4):Sp:=λvs H Q _=>∃(l:Addr) (xs:List V) (os:List Wn) (p:Pl),vs=[.ref l,.int p.1,.int p.2]/\aX K H l xs/\b8 (uX K H) xs os/\os.length≤64/\∀(D:Addr) (H':Hp),aH H H'->H D=none->H' D=some (.lst (bt (cK os p)))->Q (.ref D) H'
def gZ(as:List Int)(i:Nat):Int:=as.getD i 0
theorem EI{os:List Wn}(hb:∀x∈as,0≤x/\x≤12*⋯)(hn:os.length≤64)(q:Pl):0≤dr os (gZ as) q/\dr os (gZ as) q≤768*⋯:=by
 have h0:∀i,0≤gZ as i/\gZ as i≤12*⋯:=λi=>by
  unfold gZ;rw[Qa]
  cases e:as[i]? with
  |none=>exact⟨by decide,by decide⟩
  |some x=>exact hb x (Qf e)
 have key:∀l:List Nat,0≤(l.map (gZ as)).sum/\(l.map (gZ as)).sum≤12*⋯*(l.length:Int):=by
  intro l
  induction l with
  |nil=>exact⟨by simp,by simp⟩
  |cons x l ih=>
   rw[Q1,UK,Q2];have:=h0 x;omega
 have k:=key (cK os q);have l:(cK os q).length≤os.length:=by
  unfold cK;exact QU (Q5 _ _) (by rw[QN];exact P7 _)
 unfold dr;omega
def nS(K:P4)(H:Hp)(S:Pl->Prop)(L:Pl->Int)(vb:Addr)(ld ln:Int):Prop:=(ld=-1/\ln=1/\∀r,¬S r)∨∃q:Pl,bF K H vb [.int q.1,.int q.2]/\ld=L q/\ln=bK q/\ot S L q
theorem nS.mono{K:P4}{H H':Hp}{S S':Pl->Prop}{L:Pl->Int}{vb:Addr}{ld ln:Int}(h:nS K H S L vb ld ln)(t:aK K H H')(e:∀r,S' r↔S r):nS K H' S' L vb ld ln:=by
 rcases h with⟨a,b,c⟩ | ⟨q,hq,a,b,c⟩
 ·exact .inl ⟨a,b,λr hr=>c r ((e r).mp hr)⟩
 ·exact .inr ⟨q,t _ _ hq,a,b,c.congr e⟩
theorem yt(e:∀r,S r↔r=q):ot S L q:=⟨(e q).mpr Z,λr hr=>by rw[(e r).mp hr];exact .inr ⟨Z,.inr ⟨Z,P7 _⟩⟩⟩
def iV(K:P4):Sp:=λvs H Q _=>∃(l a:Addr) (xs:List V) (os:List Wn) (as:List Int) (n:Nat),vs=[.ref l,.ref a,.int n]/\aX K H l xs/\b8 (uX K H) xs os/\os.length≤64/\aX K H a (as.map V.int)/\as.length=os.length/\(∀x∈as,0≤x/\x≤12*⋯)/\1≤n/\n≤24/\∀(p:Addr) (q:Pl) (H':Hp),aH H H'->bF K H' p [.int q.1,.int q.2]->ot (gU n) (dr os (gZ as)) q->Q (.ref p) H'
def EA(ls:List Nat):PyData:=.tuple (ls.map λn:Nat=>ZF n)
def M7(ls:List Nat)(os:List Wn)(q:Pl):PyData:=.tuple [EA ((ls.drop q.1).take (q.2+1-q.1)),EA (cK os q)]
theorem Bn(ok:∀w∈ws,bH w)(b0:0<B)(bd:B∣⋯):∀x∈ft B ws,0≤x/\x≤12*⋯:=by
 intro x hx;obtain⟨w,hw,rfl⟩:=Qg.mp hx;have o:=(ok w hw).am;have B84:=TH (by decide) bd;have q0:0≤B/w.2.2.2:=Ub (by omega) (by have:=o.bot;omega);have q1:B/w.2.2.2≤B:=WL _ (by omega);have t1:=o.top;have t2:=o.top';refine⟨Xx (by omega) q0,?_⟩;have h1:w.2.2.1*(B/w.2.2.2)≤12*w.2.2.2*(B/w.2.2.2):=TU t2 q0;have h2:w.2.2.2*(B/w.2.2.2)≤B:=Int.mul_ediv_self_le (by have:=o.bot;omega);rw[XZ] at h1;omega
theorem yN(ok:∀w∈ws,bH w):∀x∈cE ws,0≤x/\x≤12*⋯:=by
 intro x hx;obtain⟨w,hw,rfl⟩:=Qg.mp hx;have o:=(ok w hw).am;have t1:=o.top;have t2:=o.top';refine⟨Ub (by omega) (by have:=o.bot;omega),?_⟩;refine Int.le_of_lt_add_one (Int.ediv_lt_of_lt_mul (by have:=o.bot;omega) ?_);have:=o.bot;omega
theorem qR(ok:∀w∈ws,bH w)(dv:∀w∈ws,w.2.2.2∣B)(i:Nat):gZ (cE ws) i*B=gZ (ft B ws) i*⋯:=by
 unfold gZ cE ft;rw[Qa,Qa,Ql,Ql]
 cases e:ws[i]? with
 |none=>simp
 |some w=>
  have hw:=Qf e;have o:=(ok w hw).am;obtain⟨m,hm⟩:=dv w hw;obtain⟨n,hn⟩:=o.dvd;have nz:w.2.2.2≠0:=by have:=o.bot;omega
  show w.2.2.1*⋯/w.2.2.2*B=w.2.2.1*(B/w.2.2.2)*⋯;have e1:w.2.2.1*⋯/w.2.2.2=w.2.2.1*n:=by
   rw[hn,U6];exact QY _ nz
  have e2:B/w.2.2.2=m:=by
   rw[hm];exact QY _ nz
  rw[e1,e2,hm,hn]
  ac_rfl
theorem E9{ls:List Nat}(h1:a≤b)(h2:b≤ls.length):iH (bt ls) (some (a:Int)) (some (b:Int))=bt ((ls.drop a).take (b-a)):=by
 unfold iH bt;rw[HT.sIx_nat,HT.sIx_nat,P8,show min b ls.length=b from Xk h2,show min a ls.length=a from Xk (by omega),List.map_take,List.map_drop]
def Gf(K:P4)(H:Hp)(v:V)(y:List Nat×List Nat):Prop:=∃p a b,v=.ref p/\bF K H p [.ref a,.ref b]/\bF K H a (bt y.1)/\bF K H b (bt y.2)
theorem Gf.mono{K:P4}{H H':Hp}{v:V}{y:List Nat×List Nat}(h:Gf K H v y)(t:aK K H H'):Gf K H' v y:=let ⟨p,a,b,e,h1,h2,h3⟩:=h;⟨p,a,b,e,t _ _ h1,t _ _ h2,t _ _ h3⟩
def dQ(ls:List Nat)(q:Pl):List Nat:=(ls.drop q.1).take (q.2+1-q.1)
def dI(ls:List Nat)(q:Pl):List Nat:=ls.filter λt=>!(dQ ls q).contains t
def tE(ws:List Wk)(ls:List Nat):Nat:=ws.countP λw=>(bI ls w).isSome
theorem eX:i∈gu ls w↔i<ls.length/\fD w (ls.getD i 0)=true:=by
 unfold gu;rw[Qp,Qi]
theorem u7(h:gu ls w=[]):bI ls w=none:=by unfold bI;rw[h]
theorem qO(h:gu ls w=x:: r):bI ls w=some (x,(x:: r).getLast (by simp)):=by unfold bI;rw[h]
theorem fK:(bI ls w).isSome=true↔∃t∈ls,fD w t=true:=by
 cases c:gu ls w with
 |nil=>
  rw[u7 c];refine⟨λh=>(by cases h),λ⟨t,ht,e⟩=>?_⟩;obtain⟨i,hi,rfl⟩:=Rt.mp ht;have m:i∈gu ls w:=eX.mpr ⟨hi,by rw[ay 0 (P5 hi)];exact e⟩;rw[c] at m
  cases m
 |cons x r=>
  rw[qO c];refine⟨λ_=>?_,λ_=>Z⟩;have m:x∈gu ls w:=by rw[c];exact Qd
  obtain⟨hi,e⟩:=eX.mp m;rw[ay 0 (P5 hi)] at e;exact⟨_,Qx hi,e⟩
theorem uo(ls:List Nat)(w:Wk):(gu ls w).Pairwise (· < ·):=RE _ SJ
theorem ik(h:bI ls w=some (a,b)):a∈gu ls w/\b∈gu ls w/\∀i∈gu ls w,a≤i/\i≤b:=by
 cases c:gu ls w with
 |nil=>rw[u7 c] at h;cases h
 |cons x r=>
  rw[qO c] at h;have srt:=uo ls w;rw[c] at srt;injection h with h;injection h with h1 h2;subst h1 h2;refine⟨Qd,List.getLast_mem _,λi hi=>⟨?_,?_⟩⟩
  ·rcases Qm.mp hi with z|z
   ·omega
   ·have:=(SY.mp srt).1 i z;omega
  ·have e:=VA (show(x::r)≠[] by simp);rw[←e] at srt hi;rcases QP.mp hi with z|z
   ·have:=(Ur.mp srt).2.2 i z _ (Qj.mpr Z);omega
   ·have:=Qj.mp z;omega
theorem IS{ls:List Nat}(nd:ls.Nodup){i j:Nat}{hi:i<ls.length}{hj:j<ls.length}(e:ls[i]=ls[j]):i=j:=by
 have h:=RH.mp nd;rcases Nat.lt_trichotomy i j with z|z|z
 ·exact aad e (h i j hi hj z)
 ·exact z
 ·exact aad e.symm (h j i hj hi z)
theorem qr(nd:ls.Nodup)(hp:gU ls.length p)(hi:i<ls.length):ls[i]∈dQ ls p↔p.1≤i/\i≤p.2:=by
 have h1:=hp.1;have h2:=hp.2;unfold dQ;constructor
 ·intro h;obtain⟨j,hj,e⟩:=Rt.mp h;rw[Rv,TQ] at hj;rw[Wg,YG] at e;have:=IS nd e;omega
 ·rintro⟨a,b⟩;refine Rt.mpr ⟨i-p.1,by rw[Rv,TQ];omega,?_⟩;rw[Wg,YG]
  congr 1
  omega
theorem oK(nd:ls.Nodup)(hp:gU ls.length p):(bI (dI ls p) w).isSome=((bI ls w).isSome&&!gT p.1 p.2 (bI ls w)):=by
 have key:(bI (dI ls p) w).isSome=true↔∃i,∃hi:i<ls.length,fD w ls[i]=true/\¬(p.1≤i/\i≤p.2):=by
  rw[fK];constructor
  ·rintro⟨t,ht,e⟩;unfold dI at ht;obtain⟨m,c⟩:=Qp.mp ht;obtain⟨i,hi,rfl⟩:=Rt.mp m;refine⟨i,hi,e,λz=>?_⟩;rw[SU.mpr ((qr nd hp hi).mpr z)] at c
   cases c
  ·rintro⟨i,hi,e,n⟩;refine⟨ls[i],Qp.mpr ⟨Qx hi,?_⟩,e⟩
   cases c:(dQ ls p).contains ls[i] with
   |false=>rfl
   |true=>exact aad ((qr nd hp hi).mp (SU.mp c)) n
 have pm:∀i,i∈gu ls w↔∃hi:i<ls.length,fD w ls[i]=true:=λi=>by
  rw[eX];constructor
  ·rintro⟨hi,e⟩;rw[ay 0 (P5 hi)] at e;exact⟨hi,e⟩
  ·rintro⟨hi,e⟩;exact⟨hi,by rw[ay 0 (P5 hi)];exact e⟩
 cases c:bI ls w with
 |none=>
  have n:¬(bI (dI ls p) w).isSome=true:=λh=>by
   obtain⟨i,hi,e,_⟩:=key.mp h;have:=fK.mpr ⟨ls[i],Qx hi,e⟩;rw[c] at this
   cases this
  simpa using n
 |some q=>
  obtain⟨a,b⟩:=q;obtain⟨m1,m2,bd⟩:=ik c;show(bI (dI ls p) w).isSome=(true&&!(decide (p.1≤a)&&decide (b≤p.2)));by_cases h:p.1≤a/\b≤p.2
  ·rw[Q9 h.1,Q9 h.2];have n:¬(bI (dI ls p) w).isSome=true:=λh'=>by
    obtain⟨i,hi,e,n⟩:=key.mp h';have:=bd i ((pm i).mpr ⟨hi,e⟩);exact n (by omega)
   simpa using n
  ·have y:(bI (dI ls p) w).isSome=true:=key.mpr (by
    by_cases z:p.1≤a
    ·obtain⟨hi,e⟩:=(pm b).mp m2;exact⟨b,hi,e,by omega⟩
    ·obtain⟨hi,e⟩:=(pm a).mp m1;exact⟨a,hi,e,by omega⟩)
   rw[y];by_cases z:p.1≤a
   ·rw[Sy (show ¬b≤p.2 from λq=>h ⟨z,q⟩),Tq];rfl
   ·rw[Sy z];rfl
theorem sg(os:List Wn)(p:Pl):(cK os p).length=os.countP (gT p.1 p.2):=by
 have:=congrArg List.length (fk (none:Wn) (gT p.1 p.2) id os);rw[P8,P8] at this;rw[List.countP_eq_length_filter];exact this
theorem vK(nd:ls.Nodup)(hp:gU ls.length p):tE ws (dI ls p)+(cK (ws.map (bI ls)) p).length=tE ws ls:=by
 rw[sg,List.countP_map];unfold tE
 induction ws with
 |nil=>rfl
 |cons w ws ih=>
  rw[Vo,Vo,Vo,oK nd hp,show(gT p.1 p.2∘bI ls) w=gT p.1 p.2 (bI ls w) from Z]
  cases c:bI ls w with
  |none=>
   have:gT p.1 p.2 none=false:=Z;rw[this];simp only[Option.isSome_none,S2,Tp,if_false,Xe];exact ih
  |some q=>
   cases gT p.1 p.2 (some q) with
   |true=>
    simp only[US,XX,Tq,Tp,if_false,if_true,Xe];omega
   |false=>
    simp only[US,Bool.not_false,XY,Tp,if_false,if_true,Xe];omega
theorem DH(nd:ls.Nodup)(p:Pl):(dI ls p).Nodup:=RE _ nd
theorem BT{A:Nat->Int}(h:∀i,0≤A i):∀{l:List Nat} {i:Nat},i∈l->A i≤(l.map A).sum
 |x::l,i,hi=>by
  rw[Q1,UK];rcases Qm.mp hi with z|z
  ·subst z;have:=iU h l;omega
  ·have:=BT h z;have:=h x;omega
theorem qS(ok:∀w∈ws,bH w)(i:Nat):0≤gZ (cE ws) i:=by
 unfold gZ;rw[Qa]
 cases e:(cE ws)[i]? with
 |none=>decide
 |some x=>exact(yN ok x (Qf e)).1
theorem EH(ok:∀w∈ws,bH w)(h:∀r,gU ls.length r->dr (ws.map (bI ls)) (gZ (cE ws)) r=0):tE ws ls=0:=by
 refine Td.mpr λw hw n=>?_
 obtain⟨q,hq⟩:=Ss.mp n;obtain⟨a,b⟩:=q;obtain⟨m1,m2,bd⟩:=ik hq;have sec:gU ls.length (a,b):=⟨(bd b m2).1,(eX.mp m2).1⟩;obtain⟨i,hi,rfl⟩:=Rt.mp hw;have mi:i∈cK (ws.map (bI ls)) (a,b):=by
  unfold cK;refine Qp.mpr ⟨Qi.mpr (by rw[P8];exact hi),?_⟩;rw[ay none (show(ws.map (bI ls))[i]?=some (some (a,b)) by rw[Ql,P5 hi];exact congrArg some hq)];show(decide (a≤a)&&decide (b≤b))=true;simp
 have l:=BT (qS ok) mi;have z:=h _ sec;unfold dr at z;rw[z] at l;have o:=(ok _ hw).am;have eu:gZ (cE ws) i=ws[i].2.2.1*⋯/ws[i].2.2.2:=ay 0 (by unfold cE;rw[Ql,P5 hi];rfl);rw[eu] at l;have t1:=o.top;have b1:=o.bot;have b2:=TH (by decide) o.dvd;have:1≤ws[i].2.2.1*⋯/ws[i].2.2.2:=(Int.le_ediv_iff_mul_le (by omega)).mpr (by omega);omega
def wO(ws:List Wk)(ls:List Nat)(p:Pl):Prop:=ot (gU ls.length) (dr (ws.map (bI ls)) (gZ (cE ws))) p/\0<dr (ws.map (bI ls)) (gZ (cE ws)) p
theorem B3(ok:∀w∈ws,bH w)(b:ot (gU ls.length) (dr (ws.map (bI ls)) (gZ (cE ws))) p)(h:tE ws ls≠0):wO ws ls p:=by
 refine⟨b,?_⟩;have nn:∀r,0≤dr (ws.map (bI ls)) (gZ (cE ws)) r:=λr=>iU (qS ok) _
 by_cases c:0<dr (ws.map (bI ls)) (gZ (cE ws)) p
 ·exact c
 ·refine aad (EH ok λr hr=>?_) h;have z:dr (ws.map (bI ls)) (gZ (cE ws)) p=0:=by have:=nn p;omega
  have q:=b.all r hr;have pp:=(show gU ls.length p from b.inn).pos;rw[z,Int.zero_mul] at q;by_cases e:dr (ws.map (bI ls)) (gZ (cE ws)) r=0
  ·exact e
  ·have:=RT (show 0<dr (ws.map (bI ls)) (gZ (cE ws)) r by have:=nn r;omega) pp;omega
theorem wO.held(h:wO ws ls p):0<(cK (ws.map (bI ls)) p).length:=by
 have:=h.2;unfold dr at this
 cases c:cK (ws.map (bI ls)) p with
 |nil=>rw[c] at this;exact aad this (by simp)
 |cons x r=>exact Nat.succ_pos _
abbrev Ly:=List Nat×List Nat
def gF(ws:List Wk)(ls:List Nat)(p:Pl):Ly:=(dQ ls p,cK (ws.map (bI ls)) p)
inductive ig(ws:List Wk):List Nat->List Ly->Prop where
 |nil {ls:List Nat} (h:tE ws ls=0):ig ws ls []
 |cons {ls:List Nat} {p:Pl} {r:List Ly} (h:wO ws ls p) (t:ig ws (dI ls p) r):ig ws ls (gF ws ls p::r)
structure kN(n:Nat)(y:Ly):Prop where
 pos:0<y.1.length
 few:y.1.length≤24
 lt:∀t∈y.1,t<24
 num:∀i∈y.2,i<n
 len:y.2.length≤n
theorem BQ(hp:gU ls.length p)(hl:ls.length≤24)(hb:∀t∈ls,t<24):kN ws.length (gF ws ls p):=by
 have h1:=hp.1;have h2:=hp.2;have e:(dQ ls p).length=min (p.2+1-p.1) (ls.length-p.1):=by unfold dQ;rw[Rv,TQ]
 refine⟨by show 0<(dQ ls p).length;omega,by show(dQ ls p).length≤24;omega,λt ht=>hb t (Vu (RW ht)),λi hi=>?_,?_⟩
 ·have:i∈cK (ws.map (bI ls)) p:=hi;unfold cK at this;have:=Qi.mp (Qp.mp this).1;rw[P8] at this;exact this
 ·show(cK (ws.map (bI ls)) p).length≤ws.length;rw[sg];exact QU List.countP_le_length (by rw[P8];exact P7 _)
def qY(K:P4):Sp:=λvs H Q _=>∃(v:V) (q:Addr) (ws:List Wk) (ls:List Nat),vs=[v,.ref q]/\fu K H v ws/\ws.length≤64/\(∀w∈ws,bH w)/\bF K H q (bt ls)/\1≤ls.length/\ls.length≤24/\∀(x:V) (B:Int) (p:Pl) (H':Hp),aH H H'->0<B->B∣⋯->(∀w∈ws,w.2.2.2∣B)->ot (gU ls.length) (dr (ws.map (bI ls)) (gZ (ft B ws))) p->Gf K H' x (gF ws ls p)->Q x H'
def P0(K:P4)(H:Hp)(v:V)(s:Nat×Nat×Nat):Prop:=∃p,v=.ref p/\bF K H p [.int s.1,.int s.2.1,.int s.2.2]
def PH(os:List Wn)(i:Nat):List (Nat×Nat×Nat):=(P6 i).filterMap λj=>(os.getD j none).map λq=>(q.1,q.2,j)
def Oa(p:Pl)(s:Nat×Nat×Nat):Bool:=decide (p.1≤s.1)&&decide (s.2.1≤p.2)
def Ou(K:P4)(H:Hp)(os:List Wn)(S:Pl->Prop)(L:Pl->Int)(pb:Addr):Prop:=∃(mn ln bg:Int) (lb:Addr),bF K H pb [.int mn,.int ln,.int bg,.ref lb]/\((mn=0/\ln=1/\bg=0/\∀r,S r->L r=0)∨∃q:Pl,0<L q/\mn=L q/\ln=bK q/\bg=(q.1:Int)/\aX K H lb (bt (cK os q))/\ot S L q)
mutual
def NH:PyData->Bool
 | .int _=>true
 | .str _=>true
 | .bool _=>true
 | .none=>true
 | .tuple ds=>decide (ds.length≤1000)&&FJ ds
 |_=>false
def FJ:List PyData->Bool
 | []=>true
 |d::ds=>NH d&&FJ ds
end
theorem h9{k:Nat}:∀{ds:List PyData},(∀d∈ds,d.depth≤k)->UM ds≤k
 | [],_=>Qu _
 |d::ds,h=>Nat.max_le.mpr ⟨h d Qd,h9 λe he=>h e (Qe _ he)⟩
def rJ(k:Nat)(K:P4):Sp:=λvs H Q _=>∃(v w:V) (d:PyData),vs=[v,w]/\bD K H v d/\bD K H w d/\d.depth≤k/\NH d=true/\∀H',aH H H'->Q (.bl true) H'
abbrev JV:=rJ 0
abbrev JU:=rJ 1
abbrev JT:=rJ 2
abbrev JS:=rJ 3
abbrev Ds:=rJ 4
def C4(w:Wk):PyData:=.tuple [.int w.1,.int w.2.1,dR w.2.2]
def Ju(ws:List Wk):PyData:=.tuple (ws.map C4)
theorem tf.deep{K:P4}{H:Hp}{v:V}{w:Wk}(h:tf K H v w):bD K H v (C4 w):=by
 obtain⟨p,x,rfl,hS,rx⟩:=h;exact .tup hS (.cons (.int _) (.cons (.int _) (.cons rx.deep .nil)))
theorem fu.deep{K:P4}{H:Hp}{v:V}{ws:List Wk}(h:fu K H v ws):bD K H v (Ju ws):=by
 obtain⟨p,xs,rfl,hS,al⟩:=h;exact .tup hS (al.deep λ_ _ q=>q.deep)
def PQ(y:List Nat×List Nat):PyData:=.tuple [EA y.1,EA y.2]
def bc:Wk:=(0,0,(0,1))
def ic(ws:List Wk)(y:List Nat×List Nat):List R:=y.2.map λi=>(ws.getD i bc).2.2
def dj(ws:List Wk)(y:List Nat×List Nat):R:=fZ (eK (ic ws y)) (1,(y.1.length:Int))
def iF(r:R)(ss:List R)(ts:List Nat):List R:=ts.foldl (λs t=>s.set t r) ss
def aV(ws:List Wk)(lys:List (List Nat×List Nat)):List R:=lys.foldl (λss y=>iF (dj ws y) ss y.1) (Qn 24 (0,1))
theorem mN(r:R):∀(ts:List Nat) (ss:List R),(iF r ss ts).length=ss.length
 | [],_=>rfl
 |t::ts,ss=>by
  show(iF r (ss.set t r) ts).length=_;rw[mN r ts,Sf]
theorem lG(ws:List Wk):∀(lys:List (List Nat×List Nat)) (ss:List R),(lys.foldl (λss y=>iF (dj ws y) ss y.1) ss).length=ss.length
 | [],_=>rfl
 |y::r,ss=>by rw[Rs,lG ws r,mN]
theorem JC{ws:List Wk}{n:Nat}{y:List Nat×List Nat}(ok:∀w∈ws,bH w)(h:kN ws.length y):∀r∈ic ws y,Wf 760 r:=by
 intro r hr;obtain⟨i,hi,rfl⟩:=Qg.mp hr;have hl:=h.num i hi;rw[ay bc (P5 hl)];exact(ok _ (Qx hl)).am.wf
theorem Ew(ok:∀w∈ws,bH w):tE ws (P6 24)=ws.length:=by
 refine List.countP_eq_length.mpr λw hw=>fK.mpr ⟨w.1,Qi.mpr ?_,?_⟩
 ·have:=(ok w hw).le;have:=(ok w hw).lt;omega
 ·unfold fD;rw[Q9 (P7 _),Q9 (ok w hw).le];rfl
theorem BH(ws:List Wk):tE ws []=0:=Td.mpr λw _ h=>by
 obtain⟨t,ht,_⟩:=fK.mp h
 cases ht
theorem iA(h:wO ws ls p):gU ls.length p:=h.1.inn
def Ni(K:P4)(H:Hp)(v:V)(lys:List (List Nat×List Nat)):Prop:=∃p xs,v=.ref p/\bF K H p xs/\b8 (Gf K H) xs lys
def xb(K:P4):Sp:=λvs H Q _=>∃(v:V) (ws:List Wk),vs=[v]/\fu K H v ws/\ws.length≤64/\(∀w∈ws,bH w)/\∀(x:V) (lys:List (List Nat×List Nat)) (H':Hp),aH H H'->Ni K H' x lys->ig ws (P6 24) lys->(∀y∈lys,kN ws.length y)->lys.length≤64->Q x H'
def ka(K:P4):Sp:=λvs H Q _=>∃(v x:V) (ws:List Wk) (y:List Nat×List Nat),vs=[v,x]/\fu K H v ws/\ws.length≤64/\(∀w∈ws,bH w)/\Gf K H x y/\kN ws.length y/\Mr K H Q (dj ws y)
def k9(K:P4):Sp:=λvs H Q _=>∃(v:V) (ws:List Wk),vs=[v]/\fu K H v ws/\ws.length≤64/\(∀w∈ws,bH w)/\∀(p:Addr) (xs:List V) (lys:List (List Nat×List Nat)) (H':Hp),aH H H'->bF K H' p xs->b8 (RV K H') xs (aV ws lys)->ig ws (P6 24) lys->Q (.ref p) H'
def CZ(K:P4):Sp:=λvs H Q _=>∃(v:V) (ws:List Wk),vs=[v]/\fu K H v ws/\ws.length≤64/\(∀w∈ws,bH w)/\∀(l:Addr) (xs:List V) (lys:List (List Nat×List Nat)) (H':Hp),aH H H'->H' l=some (.lst xs)->b8 (RV K H') xs (aV ws lys)->ig ws (P6 24) lys->Q (.ref l) H'
def Mi(K:P4)(H:Hp)(v:V)(e:Ln):Prop:=∃p,v=.ref p/\bF K H p [.int (e.1:Nat),.int (e.2:Nat)]
theorem Mi.mono{K:P4}{H H':Hp}{v:V}{e:Ln}(h:Mi K H v e)(t:aK K H H'):Mi K H' v e:=let ⟨p,q,s⟩:=h;⟨p,q,t _ _ s⟩
def yB(K:P4)(H:Hp)(v:V)(es:List Ln):Prop:=∃p xs,v=.ref p/\bF K H p xs/\b8 (Mi K H) xs es
theorem yB.mono{K:P4}{H H':Hp}{v:V}{es:List Ln}(h:yB K H v es)(t:aK K H H'):yB K H' v es:=let ⟨p,xs,e,s,a⟩:=h;⟨p,xs,e,t _ _ s,a.mono λ_ _ q=>q.mono t⟩
def xm(n:Nat)(f:Nat->Bool):List V:=(P6 n).map λj=>V.bl (f j)
theorem qb(h:j<n):(xm n f)[j]?=some (.bl (f j)):=by
 unfold xm;rw[Ql,Sk h];rfl
structure C6(H:Hp)(l:Addr)(rows:List Addr)(n:Nat)(L:Nat->Nat->Bool):Prop where
 top:H l=some (.lst (rows.map V.ref))
 len:rows.length=n
 nd:rows.Nodup
 ne:l∉rows
 row:∀i r,rows[i]?=some r->H r=some (.lst (xm n (L i)))
theorem C6.same(h:C6 H l rows n L)(s:aH H H'):C6 H' l rows n L:=⟨s _ _ h.top,h.len,h.nd,h.ne,λi r e=>s _ _ (h.row i r e)⟩
structure Kp(rows:List Addr)(H H':Hp):Prop where
 keep:∀b o,b∉rows->H b=some o->H' b=some o
 ls:∀r∈rows,∃xs,H r=some (.lst xs)
 ls':∀r∈rows,∃xs,H' r=some (.lst xs)
theorem Kp.trans(a:Kp rows H H1)(b:Kp rows H1 H2):Kp rows H H2:=⟨λc o n e=>b.keep c o n (a.keep c o n e),a.ls,b.ls'⟩
theorem Kp.same(s:aH H H')(h:∀r∈rows,∃xs,H r=some (.lst xs)):Kp rows H H':=⟨λc o _ e=>s _ _ e,h,λr m=>let ⟨xs,e⟩:=h r m;⟨xs,s _ _ e⟩⟩
theorem Kp.up(m:r∈rows)(h:∀r∈rows,∃xs,H r=some (.lst xs))(ys:List V):Kp rows H (upd H r (.lst ys)):=⟨λc o n e=>by rw[ao (show c≠r from λz=>n (by rw[z];exact m))];exact e,h,λq mq=>by
 by_cases c:q=r
 ·subst c;exact⟨_,ah⟩
 ·rw[ao c];exact h q mq⟩
theorem C6.ls(h:C6 H l rows n L):∀r∈rows,∃xs,H r=some (.lst xs):=λr m=>by
 obtain⟨i,hi,e⟩:=Rt.mp m;exact⟨_,h.row i r (by rw[P5 hi,e])⟩
theorem aK.kp{K:P4}{rows:List Addr}{H H':Hp}(k:Kp rows H H'):aK K H H':=λp xs h=>by
 rcases h with h|h
 ·have n:p∉rows:=λm=>by
   obtain⟨ys,e⟩:=k.ls p m;rcases h with h | ⟨o,h⟩<;>rw[e] at h<;>cases h
  rcases h with h | ⟨o,h⟩
  ·exact .inl (.inl (k.keep _ _ n h))
  ·exact .inl (.inr ⟨o,k.keep _ _ n h⟩)
 ·exact .inr h
def mD(_:P4):Sp:=λvs H Q _=>∃n:Nat,vs=[.int n]/\n≤64/\∀(l:Addr) (rows:List Addr) (H':Hp),aH H H'->H l=none->(∀r∈rows,H r=none)->C6 H' l rows n (λ_ _=>false)->Q (.ref l) H'
def uZ(_:Nat)(es:List Ln):Prop:=es=[]
def rK(_:P4):Sp:=λ_ _ _ _=>False
def lu(K:P4):Sp:=λvs H Q _=>∃(n:Nat) (v:V) (es:List Ln),vs=[.int n,v]/\yB K H v es/\uZ n es/\n≤64/\∀(l:Addr) (rows:List Addr) (L:Nat->Nat->Bool) (H':Hp),aH H H'->C6 H' l rows n L->Ml n es L->Q (.ref l) H'
structure Pb(w:Wk):Prop where
 l1:w.1<24
 l2:w.2.1<24
 am:Wf 900 w.2.2
def vF(ws:List Wk)(j:Nat):Int:=((ws.getD j bc).1:Nat)
def vL(ws:List Wk)(j:Nat):Int:=-((ws.getD j bc).2.1:Nat)
structure iI(ws:List Wk)(es:List Ln)(f l:Nat->Int):Prop where
 a:J0 ws.length es (vF ws) f
 b:J0 ws.length (Dh es) (vL ws) (λi=>- l i)
theorem yT{n:Nat}{v:Nat->Int}{P:Nat->Prop}:∀k,k≤n->(∀j,j<k->¬P j)∨∃M,(∀j,j<k->P j->v j≤M)/\∃j,j<k/\P j/\M=v j
 |0,_=>.inl λj hj=>aad hj (Ue _)
 |k+1,hk=>by
  rcases yT (n:=n) (v:=v) (P:=P) k (by omega) with h | ⟨M,h1,j,h2,h3,h4⟩
  ·by_cases c:P k
   ·refine .inr ⟨v k,λj hj pj=>?_,k,by omega,c,Z⟩;by_cases z:j=k
    ·subst z;exact Vt _
    ·exact aad pj (h j (by omega))
   ·refine .inl λj hj pj=>?_
    by_cases z:j=k
    ·subst z;exact c pj
    ·exact h j (by omega) pj
  ·by_cases c:P k/\M<v k
   ·refine .inr ⟨v k,λi hi pi=>?_,k,by omega,c.1,Z⟩;by_cases z:i=k
    ·subst z;exact Vt _
    ·have:=h1 i (by omega) pi;have:=c.2;omega
   ·refine .inr ⟨M,λi hi pi=>?_,j,by omega,h3,h4⟩;by_cases z:i=k
    ·subst z;by_cases y:v i≤M
     ·exact y
     ·exact aad ⟨pi,by omega⟩ c
    ·exact h1 i (by omega) pi
theorem J0.ex(n:Nat)(es:List Ln)(v:Nat->Int):∃F,J0 n es v F:=by
 have h:∀i,∃M:Int,i<n->(∀j,j<n->(j=i∨iN es j i)->v j≤M)/\∃j,j<n/\(j=i∨iN es j i)/\M=v j:=λi=>by
  rcases yT (n:=n) (v:=v) (P:=λj=>j=i∨iN es j i) n (P7 _) with h | ⟨M,h1,h2⟩
  ·exact⟨0,λhi=>aad (.inl Z) (h i hi)⟩
  ·exact⟨M,λ_=>⟨h1,h2⟩⟩
 exact⟨λi=>Classical.choose (h i),⟨λi j hi hj z=>(Xo (h i) hi).1 j hj z,λi hi=>(Xo (h i) hi).2⟩⟩
theorem iI.ex(ws:List Wk)(es:List Ln):∃f l,iI ws es f l:=by
 obtain⟨f,hf⟩:=J0.ex ws.length es (vF ws);obtain⟨g,hg⟩:=J0.ex ws.length (Dh es) (vL ws);refine⟨f,λi=>- g i,hf,?_⟩;have:(λi=>- - g i)=g:=funext λi=>Int.neg_neg _
 rw[this];exact hg
def yi(ws:List Wk)(f l:Nat->Int)(i:Nat):PyData:=.tuple [.int (f i),.int (l i),dR (ws.getD i bc).2.2]
def jb(n:Nat)(f l:Nat->Int):Option Nat:=(P6 n).find? λi=>decide (l i<f i)
def OP(ws:List Wk)(f l:Nat->Int):PyData:=match jb ws.length f l with
 |some i=>.int i
 |none=>.tuple ((P6 ws.length).map (yi ws f l))
theorem CI(hi:i<n)(h:l i<f i)(b:∀j,j<i->f j≤l j):jb n f l=some i:=by
 unfold jb;rw[Wr];refine⟨Q9 h,Qi.mpr hi,λj hj=>?_⟩;have:=b j hj;rw[Sy (by omega)];rfl
theorem sW(b:∀j,j<n->f j≤l j):jb n f l=none:=by
 unfold jb;rw[V5];intro j hj;have:=b j (Qi.mp hj);rw[Sy (by omega)];simp
theorem CA{K:P4}{H H':Hp}(t:aK K H H'){ws:List Wk}{f l:Nat->Int}{i:Nat}{v:V}(h:bD K H v (yi ws f l i)):bD K H' v (yi ws f l i):=by
 unfold yi at h ⊢
 cases h with
 |tup e h=>
  cases h with
  |cons h1 h=>
   cases h with
   |cons h2 h=>
    cases h with
    |cons h3 h=>
     cases h
     cases h1
     cases h2
     refine .tup (t _ _ e) (.cons (.int _) (.cons (.int _) (.cons ?_ .nil)))
     cases h3 with
     |tup e3 h3=>
      cases h3 with
      |cons a h3=>
       cases h3 with
       |cons b h3=>cases h3;cases a;cases b;exact .tup (t _ _ e3) (.cons (.int _) (.cons (.int _) .nil))
theorem tU{K:P4}{H H':Hp}(t:aK K H H'){ws:List Wk}{f l:Nat->Int}:∀{zs:List Nat} {vs:List V},bu K H vs (zs.map (yi ws f l))->bu K H' vs (zs.map (yi ws f l))
 | [],_,.nil=>.nil
 |_::_,_,.cons h r=>.cons (CA t h) (tU t r)
theorem kY{K:P4}{H:Hp}:∀{xs ys:List V} {ds es:List PyData},bu K H xs ds->bu K H ys es->bu K H (xs++ys) (ds++es)
 |_,_,_,_,.nil,h=>h
 |_,_,_,_,.cons a t,h=>.cons a (kY t h)
def Ol(K:P4)(H:Hp)(v:V)(ws:List Wk)(es:List Ln):Prop:=∃p a b,v=.ref p/\bF K H p [a,b]/\fu K H a ws/\yB K H b es
def JR(_:P4):Sp:=λvs H Q _=>∃i:Int,vs=[.int i]/\Q (.int i) H
def JW(_:P4)(C:Addr):Sp:=λvs H Q _=>∃(a:Addr) (n:Int),vs=[.ref a,.int n]/\H a=some (jO a C none)/\∀d,H d=none->d≠a->Q .non (upd (upd H a (jO a C (some d))) d (dO d [("work",.int n)]))
structure LF(ws:List Wk)(es:List Ln):Prop where
 few:ws.length≤20
 ok:∀w∈ws,Pb w
 es:uZ ws.length es
def pA(n:Nat)(es:List Ln):Prop:=∃ps:Nat->Nat,(∀i,i<n->ps i<n)/\∀a b,(a,b)∈es->ps a<ps b
def O8(es:List Ln):PyData:=.tuple (es.map λe=>.tuple [.int (e.1:Nat),.int (e.2:Nat)])
theorem sY(h:JO r):Bq ⋯ 12 r:=by
 have a:=h.top;have b:=h.top';have c:=h.bot;refine⟨by omega,h.wf.cop,h.dvd,?_⟩;have:12*1≤12*r.2.natAbs:=UB _ (by omega);omega
theorem zc{D N:Nat}(hD:0<D):∀{rs:List R},(∀r∈rs,Bq D N r)->∀{a:R} {M:Nat},Bq D M a->Bq D (M+N*rs.length) (rs.foldl bP a)
 | [],_,a,M,h=>by simpa using h
 |r::rs,hr,a,M,h=>by
  have:=zc hD (λq hq=>hr q (Qe _ hq)) (h.plus hD (hr r Qd));rw[Rs,Q2,Xb];refine this.mono (RN _) (by omega)
theorem Ff:Bq D 0 ((0,1):R):=⟨by decide,by decide,⟨(D:Int),by show(D:Int)=1*D;omega⟩,by show 0≤_;exact Qu _⟩
theorem gL(hD:0<D)(h:∀r∈rs,Bq D N r):Bq D (N*rs.length) (eK rs):=by
 have:=zc hD h (Ff (D:=D));rw[VJ] at this;exact this
theorem DI(ok:∀w∈ws,bH w)(hw:ws.length≤20)(lok:kN ws.length y):Bq (⋯*y.1.length) 240 (dj ws y):=by
 have am:∀r∈ic ws y,Bq ⋯ 12 r:=λr hr=>by
  obtain⟨i,hi,rfl⟩:=Qg.mp hr;have hl:=lok.num i hi;rw[ay bc (P5 hl)];exact sY (ok _ (Qx hl)).am
 have la:(ic ws y).length=y.2.length:=P8 _;have len:=lok.len;have pos:=lok.pos;have s:=(gL (by decide) am).mono (RN _) (show 12*(ic ws y).length≤240 by omega);have o:Bq y.1.length 1 ((1,(y.1.length:Int)):R):=⟨by show(0:Int)<_;omega,by simp,W4 _,by show(1:Int).natAbs≤1*((y.1.length:Int)).natAbs;omega⟩;exact s.times o
def zo(K:P4):Sp:=λvs H Q _=>∃(v w:V) (r q:R) (n m:Nat),vs=[v,w]/\RV K H v r/\RV K H w q/\Wf n r/\Wf m q/\n+m+1≤3000/\Mr K H Q (bn r q)
def mH(K:P4):Sp:=λvs H Q _=>∃(v w:V) (r q:R) (n m:Nat),vs=[v,w]/\RV K H v r/\RV K H w q/\Wf n r/\Wf m q/\n+m+1≤3000/\Q (.bl (cP r q)) H
theorem CB(h:Qz a b=1):Qz (-a) b=1:=by rw[Int.neg_gcd];exact h
theorem Jx:∀m,m<25->0<m->⋯*m∣decl_name%:=by decide
def aZ(ws:List Wk)(i:Nat):Nat:=(ws.getD i bc).2.1
def fh(ws:List Wk)(l:List Nat):List Nat:=l.filter λi=>l.all λj=>decide (aZ ws i≤aZ ws j)
open Classical in
noncomputable def fV (es:List Ln) (i j:Nat):Bool:=decide (iN es j i)
open Classical in
theorem ix:fV es i j=true↔iN es j i:=by unfold fV;exact Z8
noncomputable def hX (ws:List Wk) (es:List Ln) (l:List Nat):List Nat:=(fh ws l).filter λi=>!(fh ws l).any (fV es i)
noncomputable def fO (ws:List Wk) (es:List Ln) (l:List Nat):Nat:=(hX ws es l).getD 0 0
def cv(n:Nat)(come:List Nat):List Nat:=(P6 n).filter λi=>!come.contains i
noncomputable def aJ (ws:List Wk) (es:List Ln):Nat->List Nat
 |0=>[]
 |k+1=>aJ ws es k++[fO ws es (cv ws.length (aJ ws es k))]
theorem Ez{i:Nat}(h:(bt ls)[i]?=some x):∃n,ls[i]?=some n/\x=.int (n:Nat):=by
 unfold bt at h;rw[Ql] at h;obtain⟨n,hn,rfl⟩:=Ro.mp h;exact⟨n,hn,Z⟩
theorem jH(f:Nat->Nat):∀(l:List Nat),l≠[]->∃i∈l,∀j∈l,f i≤f j
 | [],h=>aad Z h
 | [a],_=>⟨a,Qd,λj hj=>by rw[Qj] at hj;rw[hj];exact P7 _⟩
 |a::b::l,_=>by
  obtain⟨i,hi,m⟩:=jH f (b::l) (by simp);by_cases c:f a≤f i
  ·refine⟨a,Qd,λj hj=>?_⟩;rcases Qm.mp hj with z|z
   ·rw[z];exact P7 _
   ·exact QU c (m j z)
  ·refine⟨i,Qe _ hi,λj hj=>?_⟩;rcases Qm.mp hj with z|z
   ·rw[z];omega
   ·exact m j z
theorem fe:i∈fh ws l↔i∈l/\∀j∈l,aZ ws i≤aZ ws j:=by
 unfold fh;rw[Qp,Sg];exact and_congr_right λ_=>forall_congr' λj=>forall_congr' λ_=>Z8
theorem iN.rank{es:List Ln}{ps:Nat->Nat}(h:∀a b,(a,b)∈es->ps a<ps b)(r:iN es a b):ps a<ps b:=by
 induction r with
 |one m=>exact h _ _ m
 |step m _ ih=>exact Yw (h _ _ m) ih
theorem EV(rk:pA n es)(h:l≠[]):hX ws es l≠[]:=by
 obtain⟨ps,_,hp⟩:=rk;obtain⟨i,hi,m⟩:=jH (aZ ws) l h;have hl:fh ws l≠[]:=λz=>by
  have:=fe.mpr ⟨hi,m⟩;rw[z] at this;cases this
 obtain⟨j,hj,q⟩:=jH ps _ hl;intro z;have:j∈hX ws es l:=by
  unfold hX;rw[Qp];refine⟨hj,?_⟩;rw[SK,U1];intro b hb c;have:=iN.rank hp (ix.mp c);have:=q b hb;omega
 rw[z] at this;cases this
theorem jE(rk:pA n es)(h:l≠[]):(hX ws es l)[0]?=some (fO ws es l):=by
 have:=EV (ws:=ws) rk h;unfold fO
 cases e:hX ws es l with
 |nil=>exact aad e this
 |cons a r=>rfl
theorem jD(rk:pA n es)(h:l≠[]):fO ws es l∈l:=by
 have a:=Qf (jE (ws:=ws) rk h);exact(fe.mp (Qp.mp a).1).1
theorem u8(n:Nat)(c:List Nat):(cv n c).Nodup:=RE _ Tn
theorem dq:i∈cv n c↔i<n/\i∉c:=by
 unfold cv;rw[Qp,Qi,SK,Vv,decide_eq_false_iff_not]
theorem wR(n:Nat)(c:List Nat)(x:Nat):cv n (c++[x])=(cv n c).filter λi=>decide (i≠x):=by
 unfold cv;rw[Yh];refine YH λi _=>?_
 rw[Sw,QM,SK,SK,Vv,Vv,decide_eq_false_iff_not,decide_eq_false_iff_not,Z8,QP,Qj];exact⟨λh=>⟨λz=>h (.inr z),λz=>h (.inl z)⟩,λh z=>z.elim h.2 h.1⟩
theorem sx:∀{l:List Nat} {j x:Nat},l.Nodup->l[j]?=some x->l.eraseIdx j=l.filter (λi=>decide (i≠x))/\(l.eraseIdx j).length+1=l.length
 | [],j,x,_,h=>by simp at h
 |a::l,0,x,nd,h=>by
  have e:a=x:=by simpa using h
  subst e;obtain⟨n1,n2⟩:=Rq.mp nd;refine⟨?_,Z⟩;have e1:(a::l).filter (λi=>decide (i≠a))=l.filter (λi=>decide (i≠a)):=SF (by simp);have e2:l.filter (λi=>decide (i≠a))=l:=SN.mpr λi hi=>Q9 λz=>n1 (by rw[←z];exact hi)
  rw[e1,e2];rfl
 |a::l,j+1,x,nd,h=>by
  obtain⟨n1,n2⟩:=Rq.mp nd;have h':l[j]?=some x:=by simpa using h
  obtain⟨e1,e2⟩:=sx n2 h';have ne:a≠x:=λz=>n1 (by rw[z];exact Qf h')
  have e3:(a::l).filter (λi=>decide (i≠x))=a::l.filter (λi=>decide (i≠x)):=SE (Q9 ne);rw[WI,e3,←e1];refine⟨Z,?_⟩;rw[Q2,Q2,e2]
theorem Cg{l:List Nat}{j x:Nat}(nd:l.Nodup)(h:l[j]?=some x):∀m,m<j->l[m]?≠some x:=λm hm e=>by
 obtain⟨h1,e1⟩:=Qq.mp e;obtain⟨h2,e2⟩:=Qq.mp h;exact RH.mp nd m j h1 h2 hm (e1.trans e2.symm)
structure uW(ws:List Wk)(es:List Ln)(k:Nat):Prop where
 len:(aJ ws es k).length=k
 lt:∀i∈aJ ws es k,i<ws.length
 wl:(cv ws.length (aJ ws es k)).length+k=ws.length
theorem Bo(ws:List Wk)(es:List Ln):uW ws es 0:=by
 refine⟨Z,λi hi=>aad (show i∈([]:List Nat) from hi) (by simp),?_⟩;show(cv ws.length []).length+0=_;unfold cv;have e:(P6 ws.length).filter (λi=>!([]:List Nat).contains i)=P6 ws.length:=SN.mpr λi _=>Z
 rw[e,QN];rfl
theorem uW.ne(h:uW ws es k)(hk:k<ws.length):cv ws.length (aJ ws es k)≠[]:=λz=>by
 have:=h.wl;rw[z] at this;have e:0+k=ws.length:=this;omega
theorem uW.step(h:uW ws es k)(rk:pA ws.length es)(hk:k<ws.length):uW ws es (k+1)/\∃j:Nat,(cv ws.length (aJ ws es k))[j]?=some (fO ws es (cv ws.length (aJ ws es k)))/\(cv ws.length (aJ ws es k)).eraseIdx j=cv ws.length (aJ ws es (k+1)):=by
 have m:=jD (ws:=ws) rk (h.ne hk);obtain⟨j,hj⟩:=RU m;obtain⟨e1,e2⟩:=sx (u8 _ _) hj;have e3:(cv ws.length (aJ ws es k)).eraseIdx j=cv ws.length (aJ ws es (k+1)):=by
  rw[e1];exact(wR _ _ _).symm
 refine⟨⟨?_,λi hi=>?_,?_⟩,j,hj,e3⟩
 ·show(aJ ws es k++[_]).length=k+1;rw[QC,h.len];rfl
 ·rcases QP.mp (show i∈aJ ws es k++[_] from hi) with z|z
  ·exact h.lt i z
  ·rw[Qj.mp z];exact(dq.mp m).1
 ·rw[←e3];have:=h.wl;omega
theorem dE{ws:List Wk}{es:List Ln}(rk:pA ws.length es):∀k,k≤ws.length->uW ws es k
 |0,_=>Bo ws es
 |k+1,h=>((dE rk k (Nat.le_of_succ_le h)).step rk h).1
def Pa(es:List Ln)(w:Nat)(fd:List Nat)(i:Nat):Bool:=decide ((es.getD i (0,0)).2=w)&&!fd.contains (es.getD i (0,0)).1
def PU(es:List Ln)(w:Nat)(fd:List Nat):List Nat:=(P6 es.length).filter (Pa es w fd)
def Mc(es:List Ln)(is:List Nat):List Nat:=is.map λi=>(es.getD i (0,0)).1
structure Py(es:List Ln)(w n:Nat)(is:List Nat):Prop where
 nd:is.Nodup
 lt:∀i∈is,i<es.length
 sound:∀x∈Mc es is,iN es x w
 base:∀a,(a,w)∈es->a∈Mc es is
 done:∀j x,j<n->(Mc es is)[j]?=some x->∀a,(a,x)∈es->a∈Mc es is
structure dW(r:R):Prop where
 bq:Bq decl_name% 256 r
 nn:0≤r.1
theorem dW.wf(h:dW r):Wf 800 r:=h.bq.wf (by decide) (by decide) (by decide)
theorem dW.red(h:dW r):gf r:=h.bq.red
theorem wF:dW (0,1):=⟨Ff.mono (RN _) (by decide),Vt _⟩
theorem fY(h:0<r.2):0≤val r↔0≤r.1:=by
 have zz:val ((0,1):R)=0:=(eY (r:=(0,1)) (by decide)).mpr Z;rw[←zz,←jg (r:=r) (q:=(0,1)) h (by decide),sd];show 0*r.2≤r.1*1↔_;omega
theorem qw{r:R}(hp:0<r.2)(hn:0≤r.1):r.1.natAbs≤N*r.2.natAbs↔val r≤(N:Rat):=by
 have e:val (((N:Nat):Int),1)=(N:Rat):=by
  show(((N:Nat):Int):Rat)/((1:Int):Rat)=_;rw[show((1:Int):Rat)=1 from Z];have:(((N:Nat):Int):Rat)=(N:Rat):=Z;rw[this];grind
 rw[←e,←jg (r:=(((N:Nat):Int),1)) (q:=r) (by show(0:Int)<1;decide) hp,sd];show _↔r.1*1≤(N:Int)*r.2;have h1:((r.1.natAbs:Nat):Int)=r.1:=by omega
 have h2:((r.2.natAbs:Nat):Int)=r.2:=by omega
 rw[←Int.ofNat_le,UL,h1,h2,Y7]
def dF(a b:R):R:=if cP b a=true then b else a
theorem i7(ha:dW a)(hb:dW b):dW (dF a b):=by
 unfold dF
 split
 ·exact hb
 ·exact ha
theorem uA(ha:dW a)(hb:dW b):val (dF a b)≤val a/\val (dF a b)≤val b:=by
 unfold dF
 cases c:cP b a with
 |true=>
  rw[Z9 Z];have:=(jh hb.bq.pos ha.bq.pos).mp c;exact⟨R7 this,RF⟩
 |false=>
  rw[aaa QB];exact⟨RF,(jg hb.bq.pos ha.bq.pos).mp c⟩
theorem mr(hx:dW x)(ha:dW a)(h:val a≤val x):dW (bn x a):=by
 have b:=Bq.minus (by decide) hx.bq ha.bq;have ev:val (bn x a)=val x-val a:=d8 hx.bq.pos ha.bq.pos;have na:=(fY ha.bq.pos).mpr ha.nn;have nn:0≤(bn x a).1:=(fY b.pos).mp (by rw[ev];grind);refine⟨⟨b.pos,b.cop,b.dvd,(qw b.pos nn).mpr ?_⟩,nn⟩;have:=(qw hx.bq.pos hx.nn).mp hx.bq.le;rw[ev];grind
abbrev Pc:=Nat×R
abbrev tN:=List R×R×List Pc
def bU(ws:List Wk)(t:Nat)(st:tN)(i:Nat):tN:=
 if fD (ws.getD i bc) t=true/\dF (st.1.getD i (0,1)) st.2.1≠(0,1) then(st.1.set i (bn (st.1.getD i (0,1)) (dF (st.1.getD i (0,1)) st.2.1)),bn st.2.1 (dF (st.1.getD i (0,1)) st.2.1),st.2.2++[(i,dF (st.1.getD i (0,1)) st.2.1)]) else st
def dH(ws:List Wk)(ord:List Nat)(t:Nat)(lf:List R)(sp:R):tN:=ord.foldl (bU ws t) (lf,sp,[])
def aR(ws:List Wk)(ord:List Nat)(ss:List R):Nat->List R×List (List Pc)
 |0=>(ws.map λw=>w.2.2,[])
 |t+1=>((dH ws ord t (aR ws ord ss t).1 (ss.getD t (0,1))).1,(aR ws ord ss t).2++[(dH ws ord t (aR ws ord ss t).1 (ss.getD t (0,1))).2.2])
structure wQ(n:Nat)(st:tN):Prop where
 len:st.1.length=n
 lf:∀r∈st.1,dW r
 rm:dW st.2.1
 pc:∀p∈st.2.2,p.1<n/\dW p.2
theorem cL{n:Nat}{l:List R}(h:∀r∈l,dW r)(i:Nat):dW (l.getD i (0,1)):=by
 rw[Qa]
 cases e:l[i]? with
 |none=>exact wF
 |some r=>exact h r (Qf e)
theorem wQ.step{st:tN}(h:wQ n st)(hi:i<n):wQ n (bU ws t st i)/\(bU ws t st i).2.2.length≤st.2.2.length+1:=by
 unfold bU
 split
 ·have a:=cL (n:=n) h.lf i;have le:=uA a h.rm;have la:=i7 a h.rm;refine⟨⟨by rw[Sf];exact h.len,λr hr=>?_,mr h.rm la le.2,λp hp=>?_⟩,by rw[QC];exact P7 _⟩
  ·rcases SS hr with z|z
   ·exact h.lf r z
   ·rw[z];exact mr a la le.1
  ·rcases QP.mp hp with z|z
   ·exact h.pc p z
   ·rw[Qj.mp z];exact⟨hi,la⟩
 ·exact⟨h,SQ _⟩
theorem wQ.fold{ws:List Wk}{n t:Nat}:∀{ord:List Nat} {st:tN},wQ n st->(∀i∈ord,i<n)->wQ n (ord.foldl (bU ws t) st)/\(ord.foldl (bU ws t) st).2.2.length≤st.2.2.length+ord.length
 | [],st,h,_=>⟨h,P7 _⟩
 |i::ord,st,h,hl=>by
  obtain⟨h1,l1⟩:=h.step (ws:=ws) (t:=t) (hl i Qd);obtain⟨h2,l2⟩:=h1.fold (ws:=ws) (t:=t) (ord:=ord) λj hj=>hl j (Qe _ hj)
  refine⟨h2,?_⟩;rw[Rs,Q2];omega
structure Pk(n m:Nat)(p:List R×List (List Pc)):Prop where
 len:p.1.length=n
 lf:∀r∈p.1,dW r
 pc:∀q∈p.2,q.length≤m/\∀x∈q,x.1<n/\dW x.2
theorem eW{ws:List Wk}{ord:List Nat}{ss:List R}(okw:∀w∈ws,bH w)(ho:∀i∈ord,i<ws.length)(hs:∀r∈ss,dW r):∀t,Pk ws.length ord.length (aR ws ord ss t)/\(aR ws ord ss t).2.length=t
 |0=>by
  refine⟨⟨P8 _,λr hr=>?_,λq hq=>by cases hq⟩,Z⟩;obtain⟨w,hw,rfl⟩:=Qg.mp hr;have a:=(okw w hw).am;exact⟨(sY a).mono ⟨5354228880,by decide⟩ (by decide),by have:=a.top;omega⟩
 |t+1=>by
  obtain⟨h,hl⟩:=eW okw ho hs t;obtain⟨d,dl⟩:=wQ.fold (ws:=ws) (t:=t) (ord:=ord) (st:=((aR ws ord ss t).1,ss.getD t (0,1),[])) ⟨h.len,h.lf,cL (n:=0) hs t,λp hp=>by cases hp⟩ ho;refine⟨⟨d.len,d.lf,λq hq=>?_⟩,?_⟩
  ·rcases QP.mp (show q∈(aR ws ord ss t).2++[_] from hq) with z|z
   ·exact h.pc q z
   ·rw[Qj.mp z];refine⟨?_,d.pc⟩;have:(dH ws ord t (aR ws ord ss t).1 (ss.getD t (0,1))).2.2.length≤0+ord.length:=dl;omega
  ·show((aR ws ord ss t).2++[_]).length=t+1;rw[QC,hl];rfl
def ny(lf:List R):Option Nat:=(P6 lf.length).find? λi=>decide (lf.getD i (0,1)≠(0,1))
theorem xQ(hi:i<lf.length)(h:lf.getD i (0,1)≠(0,1))(b:∀j,j<i->lf.getD j (0,1)=(0,1)):ny lf=some i:=by
 unfold ny;rw[Wr];exact⟨Q9 h,Qi.mpr hi,λj hj=>by rw[Sy (λz=>z (b j hj))];rfl⟩
theorem xR(b:∀j,j<lf.length->lf.getD j (0,1)=(0,1)):ny lf=none:=by
 unfold ny;rw[V5];intro j hj z;exact(aab z) (b j (Qi.mp hj))
noncomputable def c8 (ws:List Wk) (es:List Ln) (ss:List R):List R×List (List Pc):=aR ws (aJ ws es ws.length) ss 24
def yJ(K:P4)(H:Hp)(v:V)(c:Pc):Prop:=∃p x,v=.ref p/\bF K H p [.int (c.1:Nat),x]/\RV K H x c.2
theorem yJ.mono{K:P4}{H H':Hp}{v:V}{c:Pc}(h:yJ K H v c)(t:aK K H H'):yJ K H' v c:=let ⟨p,x,e,s,r⟩:=h;⟨p,x,e,t _ _ s,r.mono t⟩
def nV(K:P4)(H:Hp)(v:V)(q:List Pc):Prop:=∃p xs,v=.ref p/\bF K H p xs/\b8 (yJ K H) xs q
theorem nV.mono{K:P4}{H H':Hp}{v:V}{q:List Pc}(h:nV K H v q)(t:aK K H H'):nV K H' v q:=let ⟨p,x,e,s,r⟩:=h;⟨p,x,e,t _ _ s,r.mono λ_ _ z=>z.mono t⟩
def M8(c:Pc):PyData:=.tuple [.int (c.1:Nat),dR c.2]
def Md(q:List Pc):PyData:=.tuple (q.map M8)
def Jw(ps:List (List Pc)):PyData:=.tuple (ps.map Md)
theorem yJ.deep{K:P4}{H:Hp}{v:V}{c:Pc}(h:yJ K H v c):bD K H v (M8 c):=by
 obtain⟨p,x,rfl,hS,hx⟩:=h;exact .tup hS (.cons (.int _) (.cons hx.deep .nil))
theorem nV.deep{K:P4}{H:Hp}{v:V}{q:List Pc}(h:nV K H v q):bD K H v (Md q):=by
 obtain⟨p,xs,rfl,hS,al⟩:=h;exact .tup hS (al.deep λ_ _ z=>z.deep)
noncomputable def OQ (ws:List Wk) (es:List Ln) (ss:List R):PyData:=match ny (c8 ws es ss).1 with
 |some i=>.int (i:Nat)
 |none=>Jw (c8 ws es ss).2
def On(K:P4)(H:Hp)(v:V)(rs:List R):Prop:=∃p xs,v=.ref p/\bF K H p xs/\b8 (RV K H) xs rs
structure JP(N:Nat)(r:R):Prop where
 bq:Bq decl_name% N r
 nn:0≤r.1
theorem JP.am(h:JP N r)(hN:N≤256):dW r:=⟨h.bq.mono (RN _) hN,h.nn⟩
theorem Gs(ok:∀w∈ws,bH w)(hw:ws.length≤20)(lok:kN ws.length y):JP 240 (dj ws y):=by
 have b:=DI ok hw lok;refine⟨b.mono (Jx _ (by have:=lok.few;omega) lok.pos) (P7 _),?_⟩;have nn:0≤(eK (ic ws y)).1:=by
  have go:∀(l:List R) (a:R),gf a->0≤a.1->(∀r∈l,JO r)->0≤(l.foldl bP a).1:=by
   intro l
   induction l with
   |nil=>intro a _ na _;exact na
   |cons r l ih=>
    intro a ra na hl;have h:=hl r Qd;have hr:gf r:=⟨by have:=h.bot;omega,h.wf.cop⟩;exact ih (bP a r) (iu (RT ra.pos hr.pos)) (D7 ra hr na (by have:=h.top;omega)) λq hq=>hl q (Qe _ hq)
  refine go _ (0,1) ⟨by decide,by decide⟩ (by decide) λr hr=>?_
  obtain⟨i,hi,rfl⟩:=Qg.mp hr;have hl:=lok.num i hi;rw[ay bc (P5 hl)];exact(ok _ (Qx hl)).am
 show 0≤(fo ((eK (ic ws y)).1*1) _).1;exact BL (by omega)
theorem zi{ws:List Wk}(ok:∀w∈ws,bH w)(hw:ws.length≤20):∀{lys:List Ly} {ss:List R},(∀y∈lys,kN ws.length y)->(∀r∈ss,JP 240 r)->∀r∈lys.foldl (λss y=>iF (dj ws y) ss y.1) ss,JP 240 r
 | [],ss,_,h=>h
 |y::lys,ss,hl,h=>by
  refine zi (lys:=lys) ok hw (λz hz=>hl z (Qe _ hz)) ?_;have sp:=Gs ok hw (hl y Qd);have go:∀(ts:List Nat) (ss:List R),(∀r∈ss,JP 240 r)->∀r∈iF (dj ws y) ss ts,JP 240 r:=by
   intro ts
   induction ts with
   |nil=>intro ss h;exact h
   |cons t ts ih=>
    intro ss h;refine ih (ss.set t (dj ws y)) λr hr=>?_
    rcases SS hr with z|z
    ·exact h r z
    ·rw[z];exact sp
  exact go y.1 ss h
def wZ(K:P4):Sp:=λvs H Q _=>∃(v w:V) (r q:R),vs=[v,w]/\RV K H v r/\RV K H w q/\dW r/\dW q/\∀u,RV K H u (dF r q)->Q u H
structure Nt(K:P4)(H:Hp)(v u:V)(ws:List Wk)(es:List Ln):Prop where
 wv:fu K H v ws
 w8:ws.length≤20
 ok:∀w∈ws,bH w
 lv:yB K H u es
 eok:uZ ws.length es
 rk:pA ws.length es
 e8:es.length≤20
def kd(K:P4):Sp:=λvs H Q _=>∃(v:V) (l wl:Addr) (ws:List Wk) (es:List Ln) (rows:List Addr) (L:Nat->Nat->Bool) (ls:List Nat),vs=[v,.ref l,.ref wl]/\fu K H v ws/\ws.length≤20/\C6 H l rows ws.length L/\Ml ws.length es L/\aX K H wl (bt ls)/\(∀i∈ls,i<ws.length)/\ls≠[]/\ls.length≤20/\pA ws.length es/\∀H',aH H H'->Q (.int (fO ws es ls:Nat)) H'
def qZ(K:P4):Sp:=λvs H Q _=>∃(v u:V) (ws:List Wk) (es:List Ln),vs=[v,u]/\Nt K H v u ws es/\∀(l:Addr) (H':Hp),aH H H'->H l=none->H' l=some (.lst (bt (aJ ws es ws.length)))->Q (.ref l) H'
def pV(K:P4):Sp:=λvs H Q _=>∃(v u:V) (o lf:Addr) (ws:List Wk) (ord:List Nat) (xs:List V) (rs:List R) (t:Nat) (sp:R),vs=[v,.ref o,.ref lf,.int (t:Nat),u]/\fu K H v ws/\H o=some (.lst (bt ord))/\H lf=some (.lst xs)/\o≠lf/\b8 (RV K H) xs rs/\rs.length=ws.length/\(∀r∈rs,dW r)/\RV K H u sp/\dW sp/\(∀i∈ord,i<ws.length)/\ord.length≤20∧
 ∀(w:V) (ys:List V) (H':Hp),eI lf H H'->H' lf=some (.lst ys)->b8 (RV K H') ys (dH ws ord t rs sp).1->nV K H' w (dH ws ord t rs sp).2.2->Q w H'
def zp(K:P4):Sp:=λvs H Q _=>∃(v u s:V) (ws:List Wk) (es:List Ln) (ss:List R),vs=[v,u,s]/\Nt K H v u ws es/\On K H s ss/\ss.length=24/\(∀r∈ss,dW r)/\ny (c8 ws es ss).1=none/\∀(w:V) (H':Hp),aH H H'->bD K H' w (Jw (c8 ws es ss).2)->Q w H'
def Dr(K:P4)(C:Addr):Sp:=λvs H Q _=>∃(x dd:Addr) (fs:List (QX×V)),vs=[.ref x]/\H x=some (Lu x C dd)/\H dd=some (dO dd fs)/\∀(l:Addr) (H':Hp),aH H H'->H' l=some (.lst [.bl true,.bl true,.bl true,.bl false])->Q (.ref l) H'
def cj(b:Bool)(x:Rat):Rat:=if b=true then x else 0
theorem di(x:Rat):cj true x=x:=Z
theorem ck(x:Rat):cj false x=0:=Z
def sQ{α:Type}(f:α->Rat):List α->Rat
 | []=>0
 |x::l=>f x+sQ f l
theorem iJ{α:Type}{f g:α->Rat}:∀{l:List α},(∀x∈l,f x≤g x)->sQ f l≤sQ g l
 | [],_=>RF
 |x::l,h=>by
  have a:=h x Qd;have b:=iJ (l:=l) λy hy=>h y (Qe _ hy)
  show f x+sQ f l≤g x+sQ g l;grind
theorem aI{α:Type}{f g:α->Rat}:∀{l:List α},(∀x∈l,f x=g x)->sQ f l=sQ g l
 | [],_=>rfl
 |x::l,h=>by
  show f x+sQ f l=g x+sQ g l;rw[h x Qd,aI λy hy=>h y (Qe _ hy)]
theorem fq{α:Type}{f g:α->Rat}:∀l:List α,sQ (λx=>f x+g x) l=sQ f l+sQ g l
 | []=>by show(0:Rat)=0+0;grind
 |x::l=>by
  show f x+g x+sQ (λx=>f x+g x) l=(f x+sQ f l)+(g x+sQ g l);rw[fq l];grind
theorem df{α:Type}(c:Rat){f:α->Rat}:∀l:List α,sQ (λx=>c*f x) l=c*sQ f l
 | []=>by show(0:Rat)=c*0;grind
 |x::l=>by
  show c*f x+sQ (λx=>c*f x) l=c*(f x+sQ f l);rw[df c l];grind
theorem eh{α:Type}{f:α->Rat}:∀a b:List α,sQ f (a++b)=sQ f a+sQ f b
 | [],b=>by show sQ f b=0+sQ f b;grind
 |x::a,b=>by
  show f x+sQ f (a++b)=(f x+sQ f a)+sQ f b;rw[eh a b];grind
theorem fH{α:Type}{f:α->Rat}(c:α->Bool):∀l:List α,sQ f (l.filter c)=sQ (λx=>cj (c x) (f x)) l
 | []=>rfl
 |x::l=>by
  have ih:=fH (f:=f) c l
  cases e:c x with
  |true=>
   rw[SE e];show f x+sQ f (l.filter c)=cj (c x) (f x)+sQ _ l;rw[ih,e];rfl
  |false=>
   rw[SF (by rw[e];simp)];show sQ f (l.filter c)=cj (c x) (f x)+sQ _ l;rw[ih,e,ck];grind
theorem f8{α β:Type}{f:β->Rat}(m:α->β):∀l:List α,sQ f (l.map m)=sQ (λx=>f (m x)) l
 | []=>rfl
 |x::l=>by
  show f (m x)+sQ f (l.map m)=f (m x)+sQ _ l;rw[f8 m l]
theorem mR{f:α->Rat}{l:List α}(h:∀x∈l,0≤f x):0≤sQ f l:=by
 have:=iJ (f:=λ_:α=>(0:Rat)) (g:=f) (l:=l) h;have z:∀l:List α,sQ (λ_:α=>(0:Rat)) l=0:=λl=>by
  induction l with
  |nil=>rfl
  |cons x l ih=>show(0:Rat)+_=0;rw[ih];grind
 rw[z] at this;exact this
theorem jq(d:α)(l:List α):sQ f l=sQ (λi=>f (l.getD i d)) (P6 l.length):=by
 have e:=eE (β:=α) d id l;have e':(P6 l.length).filter (λ_=>true)=P6 l.length:=by simp
 rw[e',Zd] at e;have:=f8 (f:=f) (λi=>id (l.getD i d)) (P6 l.length);rw[e] at this;exact this
def C5(P:Nat->Bool):Rat:=sQ (λt=>cj (P t) 1) (P6 24)
theorem eV(b:Bool)(h:0≤x):0≤cj b x:=by cases b with|true=>exact h|false=>exact RF
theorem yk(h:∀t,t<24->P t=Q t):C5 P=C5 Q:=aI λt ht=>by rw[h t (Qi.mp ht)]
theorem uj{P:Nat->Bool}{x:Nat}:∀d,(∀i,x≤i->i<x+d->P i=true)->sQ (λt=>cj (P t) 1) (P6 (x+d))=sQ (λt=>cj (P t) 1) (P6 x)+(d:Rat)
 |0,_=>by show sQ _ (P6 x)=sQ _ (P6 x)+((0:Nat):Rat);rw[show((0:Nat):Rat)=0 from Z];grind
 |d+1,h=>by
  have ih:=uj (P:=P) (x:=x) d λi a b=>h i a (by omega)
  rw[←ZS,Rr,eh,ih];show _+(cj (P (x+d)) 1+0)=_;rw[h (x+d) (by omega) (by omega),di,show((d+1:Nat):Rat)=(d:Rat)+1 from Rat.natCast_add d 1];grind
theorem qa{P:Nat->Bool}{x:Nat}:∀d,(∀i,x≤i->i<x+d->P i=false)->sQ (λt=>cj (P t) 1) (P6 (x+d))=sQ (λt=>cj (P t) 1) (P6 x)
 |0,_=>rfl
 |d+1,h=>by
  have ih:=qa (P:=P) (x:=x) d λi a b=>h i a (by omega)
  rw[←ZS,Rr,eh,ih];show _+(cj (P (x+d)) 1+0)=_;rw[h (x+d) (by omega) (by omega),ck];grind
theorem mS(P:Nat->Bool):∀k,∃x,x≤k/\(∀i,x≤i->i<k->P i=true)/\(x=0∨P (x-1)=false)
 |0=>⟨0,P7 _,λi a b=>by omega,.inl Z⟩
 |k+1=>by
  cases c:P k with
  |false=>exact⟨k+1,P7 _,λi a b=>by omega,.inr c⟩
  |true=>
   obtain⟨x,h1,h2,h3⟩:=mS P k;refine⟨x,by omega,λi a b=>?_,h3⟩;by_cases z:i=k
   ·rw[z];exact c
   ·exact h2 i a (by omega)
def gY(A:Nat->Bool)(w:Wk):Bool:=(P6 24).all λt=>!fD w t||A t
theorem eC:gY A w=true↔∀t,t<24->fD w t=true->A t=true:=by
 unfold gY;rw[Sg];constructor
 ·intro h t ht e;have:=h t (Qi.mpr ht);rw[e] at this
  simpa using this
 ·intro h t ht
  cases e:fD w t with
  |false=>rfl
  |true=>rw[h t (Qi.mp ht) e];rfl
theorem gy(h:∀t,t<24->A t=true->A' t=true)(q:gY A w=true):gY A' w=true:=eC.mpr λt ht e=>h t ht (eC.mp q t ht e)
def lV(w:Wk):Rat:=val w.2.2
def FM(ws:List Wk)(A:Nat->Bool):Rat:=sQ (λw=>cj (gY A w) (lV w)) ws
theorem uQ(h:bH w):0<lV w:=by
 have a:=h.am;show 0<val w.2.2;unfold val;have h1:(0:Rat)<(w.2.2.1:Rat):=RC.mpr (show(0:Int)<w.2.2.1 by have:=a.top;omega);have h2:(0:Rat)<(w.2.2.2:Rat):=RC.mpr (show(0:Int)<w.2.2.2 by have:=a.bot;omega);generalize (w.2.2.1:Rat)=x at *;generalize (w.2.2.2:Rat)=y at *;exact(Rat.lt_div_iff h2).mpr (by grind)
theorem sX{ws:List Wk}(ok:∀w∈ws,bH w):∀w∈ws,0≤lV w:=λw hw=>R7 (uQ (ok w hw))
theorem uD(hx:0≤x)(h:b=true->c=true):cj b x≤cj c x:=by
 cases b with
 |false=>exact eV c hx
 |true=>rw[h Z];exact RF
theorem Fq(nn:∀w∈ws,0≤lV w)(h:∀t,t<24->A t=true->A' t=true):FM ws A≤FM ws A':=iJ λw hw=>uD (nn w hw) (gy h)
theorem CW(nn:∀w∈ws,0≤lV w)(A B:Nat->Bool):FM ws A+FM ws B≤FM ws (λt=>A t||B t)+FM ws (λt=>A t&&B t):=by
 unfold FM;rw[←fq,←fq];refine iJ λw hw=>?_
 have x:=nn w hw;have o1:gY A w=true->gY (λt=>A t||B t) w=true:=gy λt _ e=>by rw[e];rfl
 have o2:gY B w=true->gY (λt=>A t||B t) w=true:=gy λt _ e=>by rw[e,VI]
 have o3:gY A w=true->gY B w=true->gY (λt=>A t&&B t) w=true:=λa b=>eC.mpr λt ht e=>by rw[eC.mp a t ht e,eC.mp b t ht e];rfl
 have n3:=eV (gY (λt=>A t&&B t) w) x
 cases a:gY A w with
 |true=>
  cases b:gY B w with
  |true=>rw[o1 a,o3 a b];exact RF
  |false=>rw[o1 a,di,ck];grind
 |false=>
  cases b:gY B w with
  |true=>rw[o2 b,di,ck];grind
  |false=>
   have n4:=eV (gY (λt=>A t||B t) w) x;rw[ck];grind
theorem jY:(bI ((P6 24).filter q) w).isSome=!gY (λt=>!q t) w:=by
 rw[Sw,fK];constructor
 ·rintro⟨t,ht,e⟩;obtain⟨h1,h2⟩:=Qp.mp ht
  cases c:gY (λt=>!q t) w with
  |false=>rfl
  |true=>
   have:=eC.mp c t (Qi.mp h1) e;rw[h2] at this
   cases this
 ·intro h;apply RY;intro n;have:gY (λt=>!q t) w=true:=eC.mpr λt ht e=>by
   cases c:q t with
   |false=>rfl
   |true=>exact aad ⟨t,Qp.mpr ⟨Qi.mpr ht,c⟩,e⟩ n
  rw[this] at h
  cases h
def dS(ls:List Nat)(p:Pl)(w:Wk):Bool:=gT p.1 p.2 (bI ls w)
def SM(ws:List Wk)(ls:List Nat)(p:Pl):Rat:=sQ (λw=>cj (dS ls p w) (lV w)) ws
theorem vX(ws:List Wk)(ls:List Nat)(p:Pl):cK (ws.map (bI ls)) p=(P6 ws.length).filter λi=>dS ls p (ws.getD i bc):=by
 unfold cK dS;rw[P8];refine YH λi hi=>?_
 have hl:=Qi.mp hi;have h:=P5 hl;rw[ay bc h,ay none (show(ws.map (bI ls))[i]?=some (bI ls ws[i]) by rw[Ql,h];rfl)]
theorem CK(ws:List Wk)(ls:List Nat)(p:Pl):ic ws (gF ws ls p)=(ws.filter (dS ls p)).map λw=>w.2.2:=by
 unfold ic gF;rw[vX];exact fk bc (dS ls p) (λw:Wk=>w.2.2) ws
theorem lF:∀rs:List R,iQ rs=sQ val rs
 | []=>rfl
 |r::rs=>by
  show val r+iQ rs=val r+sQ val rs;rw[lF rs]
theorem Dd(ws:List Wk)(ls:List Nat)(p:Pl):iQ (ic ws (gF ws ls p))=SM ws ls p:=by
 rw[CK,lF,f8];exact fH _ ws
theorem yO(h:bH w):((w.2.2.1*⋯/w.2.2.2:Int):Rat)=⋯*lV w:=by
 obtain⟨n,hn⟩:=h.am.dvd;have b:=h.am.bot;have e:w.2.2.1*⋯/w.2.2.2=w.2.2.1*n:=by
  rw[hn,U6];exact QY _ (by omega)
 have e2:(⋯:Rat)=(w.2.2.2:Rat)*(n:Rat):=by
  rw[←Rj,←hn];rfl
 have nz:(w.2.2.2:Rat)≠0:=cU (by omega);rw[e,Rj,e2];show _=_*val w.2.2;unfold val;generalize (w.2.2.1:Rat)=x at *;generalize (w.2.2.2:Rat)=y at *;generalize (n:Rat)=z at *;grind
theorem qW:∀l:List Int,((l.sum:Int):Rat)=sQ (λx:Int=>(x:Rat)) l
 | []=>rfl
 |x::l=>by
  rw[UK,Vz,qW l];rfl
theorem qt(ok:∀w∈ws,bH w)(ls:List Nat)(p:Pl):((dr (ws.map (bI ls)) (gZ (cE ws)) p:Int):Rat)=⋯*SM ws ls p:=by
 unfold dr;have e:(cK (ws.map (bI ls)) p).map (gZ (cE ws))=(ws.filter (dS ls p)).map λw=>w.2.2.1*⋯/w.2.2.2:=by
  rw[vX,←fk bc (dS ls p) (λw:Wk=>w.2.2.1*⋯/w.2.2.2) ws];refine UC λi hi=>?_
  have h:=P5 (Qi.mp (Qp.mp hi).1);rw[ay bc h];exact ay 0 (by unfold cE;rw[Ql,h];rfl)
 rw[e,qW,f8,fH];unfold SM;rw[←df];refine aI λw hw=>?_
 rw[yO (ok w hw)]
 cases dS ls p w with
 |true=>rfl
 |false=>show(0:Rat)=⋯*0;grind
theorem fP(h:gU n p):(0:Rat)<(bK p:Rat):=RC.mpr h.pos
theorem mh(ok:∀w∈ws,bH w)(h:wO ws ls p)(hr:gU ls.length r):SM ws ls r*(bK p:Rat)≤SM ws ls p*(bK r:Rat):=by
 have a:dr (ws.map (bI ls)) (gZ (cE ws)) r*bK p≤dr (ws.map (bI ls)) (gZ (cE ws)) p*bK r:=by
  rcases h.1.all r hr with z | ⟨z,_⟩<;>omega
 have b:=Xf.mpr a;rw[Rj,Rj,qt ok,qt ok] at b;generalize SM ws ls r=x at *;generalize SM ws ls p=y at *;generalize (bK p:Rat)=u at *;generalize (bK r:Rat)=v at *;grind
theorem xX(h:dS ls p w=true):(bI ls w).isSome=true:=by
 unfold dS at h
 cases c:bI ls w with
 |none=>rw[c] at h;cases h
 |some x=>rfl
theorem nH(e:bI ls w=some (a,b)):dS ls p w=(decide (p.1≤a)&&decide (b≤p.2)):=by
 unfold dS;rw[e];rfl
def nx(q:Nat->Bool)(p:Pl):Nat->Bool:=λt=>!(dQ ((P6 24).filter q) p).contains t&&q t
theorem qc(q:Nat->Bool)(p:Pl):dI ((P6 24).filter q) p=(P6 24).filter (nx q p):=by
 unfold dI nx;rw[Yh]
theorem FZ(q:Nat->Bool):((P6 24).filter q).Nodup:=RE _ Tn
theorem MO(hp:gU ((P6 24).filter q).length p):FM ws (λt=>!nx q p t)=FM ws (λt=>!q t)+SM ws ((P6 24).filter q) p:=by
 unfold FM SM;rw[←fq];refine aI λw _=>?_
 have e:=oK (w:=w) (FZ q) hp;rw[qc,jY,jY] at e;have hs:=xX (ls:=(P6 24).filter q) (p:=p) (w:=w);rw[jY] at hs;show cj (gY _ w) _=cj (gY _ w) _+cj (dS _ p w) _;have e':gY (λt=>!nx q p t) w=(gY (λt=>!q t) w||dS ((P6 24).filter q) p w):=by
  have:gT p.1 p.2 (bI ((P6 24).filter q) w)=dS ((P6 24).filter q) p w:=Z;rw[this] at e
  cases a:gY (λt=>!nx q p t) w<;>cases b:gY (λt=>!q t) w<;>cases c:dS ((P6 24).filter q) p w<;>rw[a,b,c] at e<;>first|rfl|cases e
 rw[e']
 cases b:gY (λt=>!q t) w with
 |true=>
  cases c:dS ((P6 24).filter q) p w with
  |true=>rw[b] at hs;cases hs c
  |false=>show lV w=lV w+0;grind
 |false=>
  cases c:dS ((P6 24).filter q) p w with
  |true=>show lV w=0+lV w;grind
  |false=>show(0:Rat)=0+0;grind
theorem CF(q P:Nat->Bool):C5 (λt=>q t&&P t)=sQ (λi=>cj (P (((P6 24).filter q).getD i 0)) 1) (P6 ((P6 24).filter q).length):=by
 rw[←jq (f:=λt=>cj (P t) 1) 0 ((P6 24).filter q),fH];refine aI λt _=>?_
 show cj (q t&&P t) 1=cj (q t) (cj (P t) 1)
 cases q t<;>rfl
theorem IQ(hp:gU ((P6 24).filter q).length p):C5 (λt=>q t&&!nx q p t)=(bK p:Rat):=by
 have e1:C5 (λt=>q t&&!nx q p t)=C5 (λt=>q t&&(dQ ((P6 24).filter q) p).contains t):=yk λt _=>by
  unfold nx
  cases q t<;>cases(dQ ((P6 24).filter q) p).contains t<;>rfl
 rw[e1,CF];have h1:=hp.1;have h2:=hp.2;have e2:sQ (λi=>cj ((dQ ((P6 24).filter q) p).contains (((P6 24).filter q).getD i 0)) 1) (P6 ((P6 24).filter q).length)=sQ (λi=>cj (decide (p.1≤i)&&decide (i≤p.2)) 1) (P6 ((P6 24).filter q).length):=aI λi hi=>by
  have hi':=Qi.mp hi;have m:=qr (FZ q) hp hi';rw[ay 0 (P5 hi')]
  congr 1
  rw[Sw,SU,m,QM,Z8,Z8]
 rw[e2];generalize ((P6 24).filter q).length=n at *;obtain⟨d,rfl⟩:∃d,n=(p.2+1)+d:=⟨n-(p.2+1),by omega⟩;rw[qa (x:=p.2+1) d λi a b=>by rw[Sy (show ¬i≤p.2 by omega),Tq]];obtain⟨e,he⟩:∃e,p.2+1=p.1+e:=⟨p.2+1-p.1,by omega⟩;rw[he,uj (x:=p.1) e λi a b=>by rw[Q9 a,Q9 (show i≤p.2 by omega)];rfl];have z:=qa (P:=λi=>decide (p.1≤i)&&decide (i≤p.2)) (x:=0) p.1 λi a b=>by
  show(decide (p.1≤i)&&_)=false;rw[Sy (show ¬p.1≤i by omega)];rfl
 rw[VJ] at z;rw[z];show(0:Rat)+(e:Rat)=_;have:bK p=(e:Int):=by unfold bK;omega
 rw[this,Rw];grind
theorem xh(q:Nat->Bool):((P6 24).filter q).Pairwise (· < ·):=RE _ SJ
theorem D8(e:bI ((P6 24).filter q) w=some (a,b))(h1:a≤i)(h2:i≤b):i∈gu ((P6 24).filter q) w:=by
 obtain⟨m1,m2,_⟩:=ik e;have srt:=RH.mp (xh q);generalize (P6 24).filter q=ls at *;obtain⟨la,wa⟩:=eX.mp m1;obtain⟨lb,wb⟩:=eX.mp m2;have li:i<ls.length:=by omega
 rw[ay 0 (P5 la)] at wa;rw[ay 0 (P5 lb)] at wb;refine eX.mpr ⟨li,?_⟩;rw[ay 0 (P5 li)];unfold fD at wa wb ⊢;rw[QM,Z8,Z8] at wa wb ⊢;have u1:ls[a]≤ls[i]:=by
  by_cases z:a=i
  ·subst z;exact P7 _
  ·exact T0 (srt a i la li (by omega))
 have u2:ls[i]≤ls[b]:=by
  by_cases z:i=b
  ·subst z;exact P7 _
  ·exact T0 (srt i b li lb (by omega))
 omega
def gB(ls:List Nat)(P:Nat->Bool)(k:Nat)(w:Wk):Bool:=(bI ls w).isSome&&(gu ls w).all λi=>decide (i<k)&&P i
theorem kF:gB ls P k w=true↔(bI ls w).isSome=true/\∀i∈gu ls w,i<k/\P i=true:=by
 unfold gB;rw[QM,Sg];constructor
 ·rintro⟨a,b⟩;refine⟨a,λi hi=>?_⟩;have:=b i hi;rw[QM,Z8] at this;exact this
 ·rintro⟨a,b⟩;refine⟨a,λi hi=>?_⟩;rw[QM,Z8];exact b i hi
def GM(ws:List Wk)(ls:List Nat)(P:Nat->Bool)(k:Nat):Rat:=sQ (λw=>cj (gB ls P k w) (lV w)) ws
theorem LR(ok:∀w∈ws,bH w)(h:wO ws ((P6 24).filter q) p)(P:Nat->Bool):∀n k,k≤n->k≤((P6 24).filter q).length->GM ws ((P6 24).filter q) P k*(bK p:Rat)≤SM ws ((P6 24).filter q) p*sQ (λi=>cj (P i) 1) (P6 k):=by
 have nn:=sX ok;have lp:=fP h.1.inn;intro n
 induction n with
 |zero=>
  intro k hk _;obtain rfl:k=0:=by omega
  have z:GM ws ((P6 24).filter q) P 0=0:=by
   have le:GM ws ((P6 24).filter q) P 0≤sQ (λ_:Wk=>cj false 0) ws:=iJ λw _=>by
    cases c:gB ((P6 24).filter q) P 0 w with
    |false=>exact RF
    |true=>
     obtain⟨a,b⟩:=kF.mp c;obtain⟨⟨x,y⟩,e⟩:=Ss.mp a;have:=(b x (ik e).1).1;omega
   have z0:∀l:List Wk,sQ (λ_:Wk=>cj false 0) l=0:=λl=>by
    induction l with
    |nil=>rfl
    |cons x l ih=>show cj false 0+_=0;rw[ih,ck];grind
   rw[z0] at le;have ge:0≤GM ws ((P6 24).filter q) P 0:=mR λw hw=>eV _ (nn w hw)
   grind
  rw[z];show(0:Rat)*_≤_*0;grind
 |succ n ih=>
  intro k hk hl;by_cases k0:k≤n
  ·exact ih k k0 hl
  obtain rfl:k=n+1:=by omega
  cases c:P n with
  |false=>
   have e:GM ws ((P6 24).filter q) P (n+1)≤GM ws ((P6 24).filter q) P n:=iJ λw hw=>uD (nn w hw) λg=>by
    obtain⟨a,b⟩:=kF.mp g;refine kF.mpr ⟨a,λi hi=>?_⟩;obtain⟨x,y⟩:=b i hi;refine⟨?_,y⟩;by_cases z:i=n
    ·rw[z,c] at y;cases y
    ·omega
   have e2:=SX e (R7 lp);have i1:=ih n (P7 _) (by omega);rw[Rr (n:=n),eh];show _≤_*(_+(cj (P n) 1+0));rw[c,ck];grind
  |true=>
   obtain⟨x,x1,x2,x3⟩:=mS P (n+1);have xn:x≤n:=by
    by_cases z:x=n+1
    ·subst z;rcases x3 with y|y
     ·omega
     ·rw[show n+1-1=n by omega,c] at y;cases y
    ·omega
   have e:GM ws ((P6 24).filter q) P (n+1)≤GM ws ((P6 24).filter q) P x+SM ws ((P6 24).filter q) (x,n):=by
    unfold GM SM;rw[←fq];refine iJ λw hw=>?_
    have w0:=nn w hw;have n1:=eV (gB ((P6 24).filter q) P x w) w0;have n2:=eV (dS ((P6 24).filter q) (x,n) w) w0
    cases g:gB ((P6 24).filter q) P (n+1) w with
    |false=>rw[ck];grind
    |true=>
     obtain⟨a,b⟩:=kF.mp g;obtain⟨⟨u,v⟩,eu⟩:=Ss.mp a;obtain⟨m1,m2,bd⟩:=ik eu;by_cases z:v<x
     ·have:gB ((P6 24).filter q) P x w=true:=kF.mpr ⟨a,λi hi=>⟨by have:=bd i hi;omega,(b i hi).2⟩⟩;rw[this,di];grind
     ·have xu:x≤u:=by
       apply RY;intro nu;have m:=D8 eu (i:=x-1) (by omega) (by omega);have y:=(b _ m).2;rcases x3 with y'|y'
       ·omega
       ·rw[y'] at y;cases y
      have vn:=(b v m2).1;have:dS ((P6 24).filter q) (x,n) w=true:=by
       rw[nH eu,QM,Z8,Z8];exact⟨xu,by show v≤n;omega⟩
      rw[this,di];grind
   have i1:=ih x xn (by omega);have t1:=mh ok h (r:=(x,n)) ⟨xn,by show n<_;omega⟩;obtain⟨d,hd⟩:∃d,n+1=x+d:=⟨n+1-x,by omega⟩;have r:=uj (P:=P) (x:=x) d λi a b=>x2 i a (by omega)
   rw[←hd] at r;rw[r];have ld:(bK (x,n):Rat)=(d:Rat):=by
    have:bK (x,n)=(d:Int):=by show(n:Int)-(x:Int)+1=_;omega
    rw[this,Rw]
   rw[ld] at t1;have e2:=SX e (R7 lp);generalize GM ws ((P6 24).filter q) P (n+1)=g1 at *;generalize GM ws ((P6 24).filter q) P x=g0 at *;generalize SM ws ((P6 24).filter q) (x,n)=s1 at *;generalize SM ws ((P6 24).filter q) p=sp at *;generalize (bK p:Rat)=l at *;generalize sQ (λt=>cj (P t) 1) (P6 x)=c0 at *;generalize (d:Rat)=dd at *;grind
theorem Jk(ok:∀w∈ws,bH w)(h:wO ws ((P6 24).filter q) p)(hA:∀t,t<24->q t=false->A t=true):(FM ws A-FM ws (λt=>!q t))*(bK p:Rat)≤SM ws ((P6 24).filter q) p*C5 (λt=>q t&&A t):=by
 have g:=LR ok h (λi=>A (((P6 24).filter q).getD i 0)) _ _ (P7 _) (P7 ((P6 24).filter q).length);rw[CF];have e:FM ws A=FM ws (λt=>!q t)+GM ws ((P6 24).filter q) (λi=>A (((P6 24).filter q).getD i 0)) ((P6 24).filter q).length:=by
  unfold FM GM;rw[←fq];refine aI λw _=>?_
  have wi:=jY (q:=q) (w:=w)
  cases c:gY (λt=>!q t) w with
  |true=>
   have g0:gB ((P6 24).filter q) (λi=>A (((P6 24).filter q).getD i 0)) ((P6 24).filter q).length w=false:=by
    unfold gB;rw[wi,c];rfl
   have a1:gY A w=true:=gy (λt ht e=>hA t ht (by simpa using e)) c;rw[g0,a1,di,ck];grind
  |false=>
   rw[c] at wi;have eq:gY A w=gB ((P6 24).filter q) (λi=>A (((P6 24).filter q).getD i 0)) ((P6 24).filter q).length w:=by
    rw[Sw,kF,eC];constructor
    ·intro z;refine⟨wi,λi hi=>?_⟩;obtain⟨li,wl⟩:=eX.mp hi;refine⟨li,?_⟩;have m:=Qx li;rw[ay 0 (P5 li)] at wl ⊢;exact z _ (Qi.mp (Qp.mp m).1) wl
    ·rintro⟨_,z⟩ t ht e
     cases cq:q t with
     |false=>exact hA t ht cq
     |true=>
      obtain⟨i,li,ei⟩:=Rt.mp (Qp.mpr ⟨Qi.mpr ht,cq⟩);have gd:((P6 24).filter q).getD i 0=t:=by rw[ay 0 (P5 li)];exact ei
      have y:=(z i (eX.mpr ⟨li,by rw[gd];exact e⟩)).2;rw[gd] at y;exact y
   rw[eq,ck];grind
 rw[e];grind
def C1(ws:List Wk):List Ly->Nat->Option R
 | [],_=>none
 |y::r,t=>if y.1.contains t then some (dj ws y) else C1 ws r t
theorem mK(ws:List Wk)(y:Ly)(r:List Ly)(t:Nat):C1 ws (y::r) t=if y.1.contains t then some (dj ws y) else C1 ws r t:=by rw[C1]
def iX(ws:List Wk)(lys:List Ly)(t:Nat):Rat:=match C1 ws lys t with
 |none=>0
 |some r=>val r
theorem vk(ws:List Wk)(t:Nat):iX ws [] t=0:=Z
theorem g4(ws:List Wk)(y:Ly)(r:List Ly)(t:Nat):iX ws (y::r) t=if y.1.contains t then val (dj ws y) else iX ws r t:=by
 unfold iX;rw[mK]
 cases y.1.contains t<;>rfl
theorem zu(h:ig ws ls lys):(C1 ws lys t).isSome=true->t∈ls:=by
 induction h with
 |nil z=>intro e;cases e
 | @cons ls p r h tl ih=>
  intro e;rw[mK] at e
  cases c:(gF ws ls p).1.contains t with
  |true=>exact Vu (RW (show t∈(ls.drop p.1).take (p.2+1-p.1) from SU.mp c))
  |false=>
   rw[c] at e;exact(Qp.mp (ih e)).1
theorem rM(r:R)(d:R):∀(ts:List Nat) (ss:List R) (t:Nat),t<ss.length->(iF r ss ts).getD t d=if ts.contains t then r else ss.getD t d
 | [],ss,t,_=>rfl
 |u::ts,ss,t,h=>by
  show(iF r (ss.set u r) ts).getD t d=_;rw[rM r d ts (ss.set u r) t (by rw[Sf];exact h),Ua]
  cases c:ts.contains t with
  |true=>simp
  |false=>
   by_cases z:t=u
   ·subst z;simp[Qa,h]
   ·have z':¬u=t:=λq=>z q.symm
    simp[Qa,z,z',RJ]
theorem Dl(h:ig ws ls lys):∀(ss:List R) (t:Nat) (d:R),t<ss.length->(lys.foldl (λss y=>iF (dj ws y) ss y.1) ss).getD t d=(C1 ws lys t).getD (ss.getD t d):=by
 induction h with
 |nil z=>intro ss t d _;rfl
 | @cons ls p r h tl ih=>
  intro ss t d ht;rw[Rs,ih _ t d (by rw[mN];exact ht),rM _ _ _ _ _ ht,mK]
  cases c:(gF ws ls p).1.contains t with
  |false=>rfl
  |true=>
   have:C1 ws r t=none:=by
    cases e:C1 ws r t with
    |none=>rfl
    |some x=>
     have m:=zu tl (t:=t) (by rw[e];rfl);have:=(Qp.mp m).2;rw[show(dQ ls p).contains t=true from c] at this
     cases this
   rw[this];rfl
theorem jo(h:ig ws (P6 24) lys)(ht:t<24)(d:R):val ((aV ws lys).getD t d)=iX ws lys t:=by
 unfold aV;rw[Dl h _ t d (by rw[Ve];exact ht)];unfold iX
 cases C1 ws lys t with
 |some r=>rfl
 |none=>
  show val ((Qn 24 ((0,1):R)).getD t d)=0;rw[ay d (show(Qn 24 ((0,1):R))[t]?=some (0,1) by rw[UV,Z9 ht])];exact gJ
theorem Fh(ok:∀w∈ws,bH w)(ls:List Nat)(p:Pl):∀r∈ic ws (gF ws ls p),gf r:=by
 intro r hr;rw[CK] at hr;obtain⟨w,hw,rfl⟩:=Qg.mp hr;exact(ok w (Qp.mp hw).1).am.wf.red
theorem Fa(hp:gU ls.length p):(((dQ ls p).length:Nat):Rat)=(bK p:Rat):=by
 have h1:=hp.1;have h2:=hp.2;have e:(dQ ls p).length=p.2+1-p.1:=by unfold dQ;rw[Rv,TQ];omega
 have:bK p=(((dQ ls p).length:Nat):Int):=by rw[e];unfold bK;omega
 rw[this,Rw]
theorem im(ok:∀w∈ws,bH w)(hp:gU ls.length p):val (dj ws (gF ws ls p))*(bK p:Rat)=SM ws ls p:=by
 obtain⟨rd,e⟩:=je (Fh ok ls p);have lp:=fP hp;have cl:=Fa hp;have pos:(0:Int)<(((gF ws ls p).1.length:Nat):Int):=by
  refine RC.mp ?_;rw[Rw];show((0:Int):Rat)<(((dQ ls p).length:Nat):Rat);rw[cl];exact lp
 unfold dj;rw[wS rd.pos pos,e,Dd];have v1:val ((1,(((gF ws ls p).1.length:Nat):Int)):R)=1/(bK p:Rat):=by
  unfold val;show((1:Int):Rat)/((((dQ ls p).length:Nat):Int):Rat)=_;rw[Rw,cl];rfl
 rw[v1];generalize SM ws ls p=s at *;generalize (bK p:Rat)=l at *;have:l≠0:=λz=>by rw[z] at lp;exact aad lp (by decide +kernel)
 grind
theorem LG(ok:∀w∈ws,bH w)(ls:List Nat)(p:Pl):0≤SM ws ls p:=mR λw hw=>eV _ (sX ok w hw)
theorem Gu(ok:∀w∈ws,bH w)(hp:gU ls.length p):0≤val (dj ws (gF ws ls p)):=by
 have e:=im ok hp;have s:=LG ok ls p;have lp:=fP hp;rw[←e] at s;generalize val (dj ws (gF ws ls p))=d at *;generalize (bK p:Rat)=l at *;by_cases z:0≤d
 ·exact z
 ·have z':d<0:=V6.mp z;have:=Ti z' lp;grind
theorem Gx(ok:∀w∈ws,bH w)(h:ig ws ls lys)(t:Nat):0≤iX ws lys t:=by
 induction h with
 |nil z=>exact RF
 | @cons ls p r h tl ih=>
  rw[g4]
  cases c:(gF ws ls p).1.contains t with
  |true=>exact Gu ok h.1.inn
  |false=>exact ih
theorem B9(ok:∀w∈ws,bH w)(h:wO ws ((P6 24).filter q) p)(hA:∀t,t<24->q t=false->A t=true):FM ws A-FM ws (λt=>!q t)≤val (dj ws (gF ws ((P6 24).filter q) p))*C5 (λt=>q t&&A t):=by
 have g:=Jk ok h hA;have e:=im ok h.1.inn;have lp:=fP h.1.inn;rw[←e] at g;generalize FM ws A-FM ws (λt=>!q t)=x at *;generalize val (dj ws (gF ws ((P6 24).filter q) p))=d at *;generalize C5 (λt=>q t&&A t)=c at *;generalize (bK p:Rat)=l at *;by_cases z:x≤d*c
 ·exact z
 ·have z':d*c<x:=V6.mp z;have:=Ti z' lp;grind
theorem iy{a b c:Rat}(hc:0<c)(h:a*c≤b*c):a≤b:=by
 by_cases z:a≤b
 ·exact z
 ·have:=Ti (V6.mp z) hc;grind
theorem vR:(dQ ((P6 24).filter q) p).contains t=true->q t=true:=λh=>by
 have:=Vu (RW (show t∈(((P6 24).filter q).drop p.1).take (p.2+1-p.1) from SU.mp h));exact(Qp.mp this).2
theorem wP(ok:∀w∈ws,bH w):FM ws (λ_=>false)=0:=by
 have e:FM ws (λ_=>false)=sQ (λ_:Wk=>0*(0:Rat)) ws:=aI λw hw=>by
  have:gY (λ_=>false) w=false:=by
   cases c:gY (λ_=>false) w with
   |false=>rfl
   |true=>
    have o:=ok w hw;have l1:=o.le;have l2:=o.lt;have:=eC.mp c w.1 (by omega) (by unfold fD;rw[Q9 (P7 _),Q9 l1];rfl)
    cases this
  rw[this,ck];grind
 rw[e,df];grind
theorem Gw(ok:∀w∈ws,bH w)(h:ig ws ls lys):∀(q:Nat->Bool),ls=(P6 24).filter q->sQ (λt=>cj (q t) (iX ws lys t)) (P6 24)=FM ws (λ_=>true)-FM ws (λt=>!q t):=by
 induction h with
 | @nil ls z=>
  intro q e;subst e;have e:FM ws (λ_=>true)=FM ws (λu=>!q u):=aI λw hw=>by
   have n:=Td.mp z w hw;rw[jY] at n;have i0:gY (λt=>!q t) w=true:=by simpa using n
   rw[i0,gy (λ_ _ _=>Z) i0]
  rw[e];have e2:sQ (λt=>cj (q t) (iX ws [] t)) (P6 24)=sQ (λ_:Nat=>0*(0:Rat)) (P6 24):=aI λt _=>by
   rw[vk]
   cases q t with
   |true=>rw[di];grind
   |false=>rw[ck];grind
  rw[e2,df];grind
 | @cons ls p r h tl ih=>
  intro q e;subst e;have hp:gU ((P6 24).filter q).length p:=h.1.inn;have i1:=ih (nx q p) (qc q p);have nF:=MO (ws:=ws) hp;have nC:=IQ hp;have sv:=im ok hp;have e2:sQ (λt=>cj (q t) (iX ws (gF ws ((P6 24).filter q) p::r) t)) (P6 24)=sQ (λt=>cj (nx q p t) (iX ws r t)+val (dj ws (gF ws ((P6 24).filter q) p))*cj (q t&&!nx q p t) 1) (P6 24):=aI λt ht=>by
   rw[g4];have n:nx q p t=(!(dQ ((P6 24).filter q) p).contains t&&q t):=Z;have lf:=vR (q:=q) (p:=p) (t:=t);rw[show(gF ws ((P6 24).filter q) p).1.contains t=(dQ ((P6 24).filter q) p).contains t from Z]
   cases a:(dQ ((P6 24).filter q) p).contains t with
   |true=>
    rw[a] at n lf;rw[lf Z,n];show val _=0+val _*1;grind
   |false=>
    rw[a] at n;rw[n]
    cases q t with
    |true=>show iX ws r t=iX ws r t+_*0;grind
    |false=>show(0:Rat)=0+_*0;grind
  rw[e2,fq,i1,df];have:sQ (λt=>cj (q t&&!nx q p t) 1) (P6 24)=(bK p:Rat):=nC;rw[this,sv,nF];grind
theorem Fr(ws:List Wk):FM ws (λ_=>true)=sQ lV ws:=aI λw _=>by
 have:gY (λ_=>true) w=true:=eC.mpr λ_ _ _=>Z
 rw[this];rfl
theorem cap(ok:∀w∈ws,bH w)(h:ig ws ls lys):∀(q A:Nat->Bool),ls=(P6 24).filter q->(∀t,t<24->q t=false->A t=true)->FM ws A-FM ws (λt=>!q t)≤sQ (λt=>cj (q t&&A t) (iX ws lys t)) (P6 24):=by
 induction h with
 | @nil ls z=>
  intro q A e hA;subst e;have e:FM ws (λ_=>true)=FM ws (λu=>!q u):=aI λw hw=>by
   have n:=Td.mp z w hw;rw[jY] at n;have i0:gY (λt=>!q t) w=true:=by simpa using n
   rw[i0,gy (λ_ _ _=>Z) i0]
  have m:=Fq (sX ok) (A:=A) (A':=λ_=>true) (λ_ _ _=>Z);have nn:0≤sQ (λt=>cj (q t&&A t) (iX ws [] t)) (P6 24):=mR λt _=>eV _ (by rw[vk];exact RF)
  rw[e] at m;grind
 | @cons ls p r h tl ih=>
  intro q A e hA;subst e;have i1:=ih (nx q p) (λt=>A t||!nx q p t) (qc q p) (λt _ hn=>by
   show(A t||!nx q p t)=true;rw[hn];exact VI _)
  have g:=B9 ok h (A:=λt=>A t&&!nx q p t) (λt ht hq=>by
   show(A t&&!nx q p t)=true;rw[hA t ht hq];unfold nx;rw[hq,Tq];rfl)
  have sup:=CW (sX ok) A (λt=>!nx q p t);have e2:sQ (λt=>cj (q t&&A t) (iX ws (gF ws ((P6 24).filter q) p::r) t)) (P6 24)=sQ (λt=>cj (nx q p t&&(A t||!nx q p t)) (iX ws r t)+val (dj ws (gF ws ((P6 24).filter q) p))*cj (q t&&(A t&&!nx q p t)) 1) (P6 24):=aI λt ht=>by
   rw[g4];have n:nx q p t=(!(dQ ((P6 24).filter q) p).contains t&&q t):=Z;have lf:=vR (q:=q) (p:=p) (t:=t);rw[show(gF ws ((P6 24).filter q) p).1.contains t=(dQ ((P6 24).filter q) p).contains t from Z]
   cases a:(dQ ((P6 24).filter q) p).contains t with
   |true=>
    rw[a] at n lf;rw[lf Z,n]
    cases A t with
    |true=>show val _=0+val _*1;grind
    |false=>show(0:Rat)=0+val _*0;grind
   |false=>
    rw[a] at n;rw[n]
    cases q t with
    |true=>
     cases A t with
     |true=>show iX ws r t=iX ws r t+_*0;grind
     |false=>show(0:Rat)=0+_*0;grind
    |false=>show(0:Rat)=0+_*0;grind
  rw[e2,fq,df];have c:sQ (λt=>cj (q t&&(A t&&!nx q p t)) 1) (P6 24)=C5 (λt=>q t&&(A t&&!nx q p t)):=Z;rw[c];grind
abbrev Ls:=Nat->Rat
def gj(L:Ls)(i:Nat)(x:Rat):Ls:=λj=>if j=i then x else L j
def mn(a b:Rat):Rat:=if a≤b then a else b
def cF(W:Nat->Bool)(st:Ls×Rat)(i:Nat):Ls×Rat:=if W i=true then(gj st.1 i (st.1 i-mn (st.1 i) st.2),st.2-mn (st.1 i) st.2) else st
def eO(W:Nat->Bool)(ord:List Nat)(L:Ls)(s:Rat):Ls×Rat:=ord.foldl (cF W) (L,s)
theorem IU(a b:Rat):mn a b≤a:=by
 unfold mn
 split
 ·exact RF
 ·rename_i h;exact R7 (V6.mp h)
theorem BK(a b:Rat):mn a b≤b:=by
 unfold mn
 split
 ·assumption
 ·exact RF
theorem Lc(ha:0≤a)(hb:0≤b):0≤mn a b:=by
 unfold mn
 split
 ·exact ha
 ·exact hb
theorem FY(a b:Rat):mn a b=a∨mn a b=b:=by
 unfold mn
 split
 ·exact .inl Z
 ·exact .inr Z
structure yI(L:Ls)(s:Rat)(st:Ls×Rat):Prop where
 nn:∀i,0≤L i->0≤st.1 i
 le:∀i,st.1 i≤L i
 rm:0≤st.2
theorem yI.step{W:Nat->Bool}{L:Ls}{s:Rat}{st:Ls×Rat}(hL:∀i,0≤L i)(h:yI L s st)(i:Nat):yI L s (cF W st i):=by
 unfold cF
 split
 ·have a1:=IU (st.1 i) st.2;have a2:=BK (st.1 i) st.2;have a3:=Lc (h.nn i (hL i)) h.rm;refine⟨λj _=>?_,λj=>?_,?_⟩
  ·show 0≤gj st.1 i _ j;unfold gj
   split
   ·grind
   ·exact h.nn j (hL j)
  ·show gj st.1 i _ j≤L j;unfold gj;have:=h.le j
   split
   ·rename_i e;subst e;grind
   ·exact this
  ·show 0≤st.2-mn (st.1 i) st.2;grind
 ·exact h
theorem yI.fold{W:Nat->Bool}{L:Ls}{s:Rat}(hL:∀i,0≤L i):∀{ord:List Nat} {st:Ls×Rat},yI L s st->yI L s (ord.foldl (cF W) st)
 | [],_,h=>h
 |i::ord,st,h=>yI.fold hL (ord:=ord) (h.step hL i)
theorem mB{st:Ls×Rat}(h:j≠i):(cF W st i).1 j=st.1 j:=by
 unfold cF
 split
 ·show gj st.1 i _ j=_;unfold gj;rw[aaa h]
 ·rfl
theorem nL{W:Nat->Bool}{j:Nat}:∀{ord:List Nat} {st:Ls×Rat},j∉ord->(ord.foldl (cF W) st).1 j=st.1 j
 | [],_,_=>rfl
 |i::ord,st,h=>by
  rw[Rs,nL (λz=>h (Qe _ z)),mB (λz=>h (by rw[z];exact Qd))]
theorem zf{st:Ls×Rat}(hi:i<n):sQ (cF W st i).1 (P6 n)-(cF W st i).2=sQ st.1 (P6 n)-st.2:=by
 unfold cF
 split
 ·show sQ (gj st.1 i (st.1 i-mn (st.1 i) st.2)) (P6 n)-(st.2-mn (st.1 i) st.2)=_;have key:∀(m:Nat) (x:Rat),sQ (gj st.1 i x) (P6 m)=sQ st.1 (P6 m)+(if i<m then x-st.1 i else 0):=by
   intro m x
   induction m with
   |zero=>show(0:Rat)=0+(if i<0 then _ else 0);rw[aaa (Ue _)];grind
   |succ m ih=>
    rw[Rr,eh,eh,ih];show sQ st.1 (P6 m)+_+(gj st.1 i x m+0)=sQ st.1 (P6 m)+(st.1 m+0)+_;unfold gj;by_cases c:i<m
    ·rw[Z9 c,aaa (by omega),Z9 (by omega)];grind
    ·rw[aaa c];by_cases e:m=i
     ·subst e;rw[Z9 Z,Z9 (by omega)];grind
     ·rw[aaa e,aaa (by omega)];grind
  rw[key,Z9 hi];grind
 ·rfl
theorem sr{W:Nat->Bool}{n:Nat}:∀{ord:List Nat} {st:Ls×Rat},(∀i∈ord,i<n)->sQ (ord.foldl (cF W) st).1 (P6 n)-(ord.foldl (cF W) st).2=sQ st.1 (P6 n)-st.2
 | [],_,_=>rfl
 |i::ord,st,h=>by
  rw[Rs,sr (λj hj=>h j (Qe _ hj)),zf (h i Qd)]
theorem wY{st:Ls×Rat}(h0:0≤st.1 i)(hr:st.2=0):(cF W st i).1=st.1/\(cF W st i).2=0:=by
 unfold cF
 split
 ·have e:mn (st.1 i) st.2=0:=by
   rw[hr];rcases FY (st.1 i) 0 with z|z
   ·have:=BK (st.1 i) 0;rw[z] at this ⊢;grind
   ·exact z
  rw[e];refine⟨?_,?_⟩
  ·show gj st.1 i (st.1 i-0)=st.1
   funext j
   unfold gj
   split
   ·rename_i z;subst z;grind
   ·rfl
  ·show st.2-0=0;grind
 ·exact⟨Z,hr⟩
theorem oV{W:Nat->Bool}:∀{ord:List Nat} {st:Ls×Rat},(∀i,0≤st.1 i)->st.2=0->(ord.foldl (cF W) st).1=st.1/\(ord.foldl (cF W) st).2=0
 | [],_,_,hr=>⟨Z,hr⟩
 |i::ord,st,h0,hr=>by
  obtain⟨e1,e2⟩:=wY (W:=W) (h0 i) hr;rw[Rs];have:=oV (W:=W) (ord:=ord) (st:=cF W st i) (by rw[e1];exact h0) e2;rw[e1] at this;exact this
theorem oC(hL:∀j,0≤L j)(hs:0≤s)(nd:(l1++i:: l2).Nodup)(hW:W i=true)(hl:0<(eO W (l1++i:: l2) L s).1 i):
  (eO W (l1++i:: l2) L s).2=0/\∀j,j∉l1->j≠i->(eO W (l1++i:: l2) L s).1 j=L j:=by
 have e:eO W (l1++i::l2) L s=l2.foldl (cF W) (cF W (l1.foldl (cF W) (L,s)) i):=by
  unfold eO;rw[RS,Rs]
 have i0:yI L s (L,s):=⟨λ_ h=>h,λ_=>RF,hs⟩;have i1:=i0.fold (W:=W) hL (ord:=l1);have i2:=i1.step (W:=W) hL i;obtain⟨n1,n2,n3⟩:=R8.mp nd;have il2:i∉l2:=(Rq.mp n2).1;rw[e] at hl ⊢;rw[nL il2] at hl;have offA:∀j,j∉l1->(l1.foldl (cF W) (L,s)).1 j=L j:=λj hj=>nL hj
 generalize l1.foldl (cF W) (L,s)=A at *;have room:(cF W A i).2=0:=by
  unfold cF at hl ⊢;rw[Z9 hW] at hl ⊢;show A.2-mn (A.1 i) A.2=0;have hl':0<A.1 i-mn (A.1 i) A.2:=by
   have:0<gj A.1 i (A.1 i-mn (A.1 i) A.2) i:=hl;unfold gj at this;rw[Z9 Z] at this;exact this
  rcases FY (A.1 i) A.2 with z|z
  ·rw[z] at hl';grind
  ·rw[z];grind
 obtain⟨e1,e2⟩:=oV (W:=W) (ord:=l2) (st:=cF W A i) (λj=>i2.nn j (hL j)) room;refine⟨e2,λj hj hji=>?_⟩;rw[e1,mB hji];exact offA j hj
theorem qT{W:Nat->Bool}{i:Nat}(h:W i=false):∀{ord:List Nat} {st:Ls×Rat},(ord.foldl (cF W) st).1 i=st.1 i
 | [],_=>rfl
 |j::ord,st=>by
  rw[Rs,qT h (ord:=ord)];by_cases c:i=j
  ·subst c;unfold cF;rw[aaa (by rw[h];exact QB)]
  ·exact mB c
theorem p8{α β:Type}(f:α->β->Rat)(m:List β):∀l:List α,sQ (λx=>sQ (λy=>f x y) m) l=sQ (λy=>sQ (λx=>f x y) l) m
 | []=>by
  show(0:Rat)=sQ (λ_=>(0:Rat)) m;have e:sQ (λ_:β=>(0:Rat)) m=sQ (λy:β=>0*((λ_=>(0:Rat)) y)) m:=aI λ_ _=>by grind
  rw[e,df];grind
 |x::l=>by
  show sQ (λy=>f x y) m+sQ (λx=>sQ (λy=>f x y) m) l=sQ (λy=>f x y+sQ (λx=>f x y) l) m;rw[p8 f m l,fq]
theorem AB(hi:i<n)(c:Rat):sQ (λj=>if j=i then c else 0) (P6 n)=c:=by
 have key:∀m:Nat,sQ (λj=>if j=i then c else 0) (P6 m)=if i<m then c else 0:=by
  intro m
  induction m with
  |zero=>show(0:Rat)=_;rw[aaa (Ue _)]
  |succ m ih=>
   rw[Rr,eh,ih];show _+((if m=i then c else 0)+0)=_;by_cases e:m=i
   ·subst e;rw[aaa (Ri _),Z9 Z,Z9 (Wy _)];grind
   ·by_cases l:i<m
    ·rw[Z9 l,aaa e,Z9 (by omega)];grind
    ·rw[aaa l,aaa e,aaa (by omega)];grind
 rw[key,Z9 hi]
theorem vw(g:Nat->Rat)(b:Nat):∀N,b≤N->sQ (λt=>cj (decide (b≤t)) (g t-g (t+1))) (P6 N)=g b-g N:=by
 intro N
 induction N with
 |zero=>intro h;rw[show b=0 by omega];show(0:Rat)=_;grind
 |succ N ih=>
  intro h;rw[Rr,eh];show _+(cj (decide (b≤N)) (g N-g (N+1))+0)=_;by_cases c:b≤N
  ·rw[ih c,Q9 c,di];grind
  ·have e:b=N+1:=by omega
   have z:sQ (λt=>cj (decide (b≤t)) (g t-g (t+1))) (P6 N)=sQ (λ_:Nat=>0*(0:Rat)) (P6 N):=aI λt ht=>by
    have:=Qi.mp ht;rw[Sy (by omega),ck];grind
   rw[z,df,Sy c,ck,e];grind
theorem DF(g:Nat->Rat)(d:Nat):∀k,sQ (λt=>cj (decide (t≤d)) (g t)) (P6 (d+1+k))=sQ g (P6 (d+1)):=by
 intro k
 induction k with
 |zero=>exact aI λt ht=>by have:=Qi.mp ht;rw[Q9 (by omega),di]
 |succ k ih=>
  rw[show d+1+(k+1)=(d+1+k)+1 by omega,Rr,eh,ih];show _+(cj (decide (d+1+k≤d)) _+0)=_;rw[Sy (by omega),ck];grind
def Wt(f l:Nat->Nat)(t i:Nat):Bool:=decide (f i≤t)&&decide (t≤l i)
def cQ(ord:List Nat)(f l:Nat->Nat)(a:Ls)(s:Nat->Rat):Nat->Ls
 |0=>a
 |t+1=>(eO (Wt f l t) ord (cQ ord f l a s t) (s t)).1
structure eQ(n:Nat)(ord:List Nat)(f l:Nat->Nat)(a:Ls)(s:Nat->Rat):Prop where
 nd:ord.Nodup
 mem:∀i,i∈ord↔i<n
 srt:ord.Pairwise (λi j=>l i≤l j)
 win:∀i,i<n->f i≤l i/\l i<24
 an:∀i,0≤a i
 sn:∀t,0≤s t
 cap:∀b d,b≤d->d<24->sQ (λj=>cj (decide (b≤f j)&&decide (l j≤d)) (a j)) (P6 n)≤sQ (λt=>cj (decide (t≤d)) (cj (decide (b≤t)) (s t))) (P6 24)
section
variable {n:Nat}{ord:List Nat}{f l:Nat->Nat}{a:Ls}{s:Nat->Rat}
theorem eQ.sti(h:eQ n ord f l a s)(hL:∀i,0≤L i)(t:Nat):yI L (s t) (eO (Wt f l t) ord L (s t)):=yI.fold hL ⟨λ_ h=>h,λ_=>RF,h.sn t⟩
theorem eQ.nn(h:eQ n ord f l a s):∀t i,0≤cQ ord f l a s t i
 |0,i=>h.an i
 |t+1,i=>(h.sti (h.nn t) t).nn i (h.nn t i)
theorem eQ.dn(h:eQ n ord f l a s)(t i:Nat):cQ ord f l a s (t+1) i≤cQ ord f l a s t i:=(h.sti (h.nn t) t).le i
theorem eQ.dn'(h:eQ n ord f l a s)(t i:Nat):∀k,cQ ord f l a s (t+k) i≤cQ ord f l a s t i
 |0=>RF
 |k+1=>VL (h.dn (t+k) i) (h.dn' t i k)
theorem eQ.out(h:eQ n ord f l a s)(hw:Wt f l t i=false):cQ ord f l a s (t+1) i=cQ ord f l a s t i:=qT hw
theorem eQ.sum(h:eQ n ord f l a s)(t:Nat):sQ (λj=>cQ ord f l a s t j-cQ ord f l a s (t+1) j) (P6 n)=s t-(eO (Wt f l t) ord (cQ ord f l a s t) (s t)).2:=by
 have q:=sr (W:=Wt f l t) (n:=n) (ord:=ord) (st:=(cQ ord f l a s t,s t)) λi hi=>(h.mem i).mp hi
 have e:sQ (λj=>cQ ord f l a s t j-cQ ord f l a s (t+1) j) (P6 n)=sQ (cQ ord f l a s t) (P6 n)-sQ (cQ ord f l a s (t+1)) (P6 n):=by
  have e1:=fq (f:=λj=>cQ ord f l a s t j-cQ ord f l a s (t+1) j) (g:=cQ ord f l a s (t+1)) (P6 n);have e2:sQ (λx=>cQ ord f l a s t x-cQ ord f l a s (t+1) x+cQ ord f l a s (t+1) x) (P6 n)=sQ (cQ ord f l a s t) (P6 n):=aI λx _=>by grind
  grind
 rw[e];have q':sQ (cQ ord f l a s (t+1)) (P6 n)-(eO (Wt f l t) ord (cQ ord f l a s t) (s t)).2=sQ (cQ ord f l a s t) (P6 n)-s t:=q;grind
theorem eQ.all_le(h:eQ n ord f l a s)(t:Nat):sQ (λj=>cQ ord f l a s t j-cQ ord f l a s (t+1) j) (P6 n)≤s t:=by
 rw[h.sum];have:=(h.sti (h.nn t) t).rm;grind
theorem eQ.full(h:eQ n ord f l a s)(hi:i<n)(hw:Wt f l t i=true)(hl:0<cQ ord f l a s (t+1) i):sQ (λj=>cj (decide (l j≤l i)) (cQ ord f l a s t j-cQ ord f l a s (t+1) j)) (P6 n)=s t:=by
 obtain⟨l1,l2,e⟩:=UT ((h.mem i).mpr hi);have nd:=h.nd;have srt:=h.srt;rw[e] at nd srt;have hl':0<(eO (Wt f l t) (l1++i::l2) (cQ ord f l a s t) (s t)).1 i:=by rw[←e];exact hl
 obtain⟨r0,keep⟩:=oC (h.nn t) (h.sn t) nd hw hl';rw[←e] at r0 keep;have sm:=h.sum t;rw[r0] at sm;have e2:sQ (λj=>cj (decide (l j≤l i)) (cQ ord f l a s t j-cQ ord f l a s (t+1) j)) (P6 n)=sQ (λj=>cQ ord f l a s t j-cQ ord f l a s (t+1) j) (P6 n):=aI λj _=>by
  by_cases c:l j≤l i
  ·rw[Q9 c,di]
  ·rw[Sy c,ck];have j1:j∉l1:=λz=>c ((Ur.mp srt).2.2 j z i Qd)
   have j2:j≠i:=λz=>c (by rw[z];exact P7 _)
   have k:cQ ord f l a s (t+1) j=cQ ord f l a s t j:=keep j j1 j2;rw[k];grind
 rw[e2,sm];grind
theorem M4(h:eQ n ord f l a s)(hi:i<n):cQ ord f l a s 24 i=0:=by
 by_cases z:cQ ord f l a s 24 i=0
 ·exact z
 exfalso;have pos:0<cQ ord f l a s 24 i:=by
  have:=h.nn 24 i;grind
 obtain⟨w1,w2⟩:=h.win i hi;have later:∀t,t≤24->0<cQ ord f l a s t i:=λt ht=>by
  have:=h.dn' t i (24-t);rw[show t+(24-t)=24 by omega] at this;grind
 let P:Nat->Bool:=λt=>decide (sQ (λj=>cj (decide (l j≤l i)) (cQ ord f l a s t j-cQ ord f l a s (t+1) j)) (P6 n)=s t)
 have Pin:∀t,f i≤t->t≤l i->P t=true:=λt h1 h2=>Q9 (h.full hi (by unfold Wt;rw[Q9 h1,Q9 h2];rfl) (later (t+1) (by omega)))
 obtain⟨b,hb,hrun,hend⟩:=mS P (l i+1);have bf:b≤f i:=by
  by_cases c:b≤f i
  ·exact c
  ·rcases hend with e|e
   ·omega
   ·rw[Pin (b-1) (by omega) (by omega)] at e;cases e
 have early:∀j,j<n->l j≤l i->f j<b->cQ ord f l a s b j-cQ ord f l a s (l i+1) j=0:=λj hj h1 h2=>by
  have e:P (b-1)=false:=by
   rcases hend with e|e
   ·omega
   ·exact e
  by_cases c:b-1≤l j
  ·have z0:cQ ord f l a s b j=0:=by
    by_cases zz:cQ ord f l a s b j=0
    ·exact zz
    exfalso;have nb:=h.nn b j;have fl:=h.full (t:=b-1) hj (by unfold Wt;rw[Q9 (show f j≤b-1 by omega),Q9 c];rfl) (by rw[show b-1+1=b by omega];grind);have m:sQ (λk=>cj (decide (l k≤l j)) (cQ ord f l a s (b-1) k-cQ ord f l a s (b-1+1) k)) (P6 n)≤sQ (λk=>cj (decide (l k≤l i)) (cQ ord f l a s (b-1) k-cQ ord f l a s (b-1+1) k)) (P6 n):=iJ λk _=>uD (by have:=h.dn (b-1) k;grind) λq=>Q9 (by have:=aab q;omega)
    have m2:sQ (λk=>cj (decide (l k≤l i)) (cQ ord f l a s (b-1) k-cQ ord f l a s (b-1+1) k)) (P6 n)≤sQ (λk=>cQ ord f l a s (b-1) k-cQ ord f l a s (b-1+1) k) (P6 n):=iJ λk _=>by
     have:=h.dn (b-1) k
     cases decide (l k≤l i) with
     |true=>exact RF
     |false=>rw[ck];grind
    have m3:=h.all_le (b-1);have:P (b-1)=true:=Q9 (by grind);rw[this] at e
    cases e
   have d1:=h.dn' b j (l i+1-b);rw[show b+(l i+1-b)=l i+1 by omega] at d1;have d2:=h.nn (l i+1) j;grind
  ·have st:∀k,cQ ord f l a s (b+k) j=cQ ord f l a s b j:=λk=>by
    induction k with
    |zero=>rfl
    |succ k ih=>
     rw[←ih];exact h.out (t:=b+k) (by unfold Wt;rw[Sy (show ¬b+k≤l j by omega),Tq])
   have:=st (l i+1-b);rw[show b+(l i+1-b)=l i+1 by omega] at this;rw[this];grind
 have tot:sQ (λt=>cj (decide (b≤t)) (s t)) (P6 (l i+1))=sQ (λj=>cj (decide (l j≤l i)) (cQ ord f l a s b j-cQ ord f l a s (l i+1) j)) (P6 n):=by
  have e1:sQ (λt=>cj (decide (b≤t)) (s t)) (P6 (l i+1))=sQ (λt=>sQ (λj=>cj (decide (l j≤l i)) (cj (decide (b≤t)) (cQ ord f l a s t j-cQ ord f l a s (t+1) j))) (P6 n)) (P6 (l i+1)):=aI λt ht=>by
   have tl:=Qi.mp ht;by_cases c:b≤t
   ·rw[Q9 c,di,←aab (hrun t c tl)];exact aI λj _=>by rw[di]
   ·rw[Sy c,ck];have e:sQ (λj=>cj (decide (l j≤l i)) (cj false (cQ ord f l a s t j-cQ ord f l a s (t+1) j))) (P6 n)=sQ (λ_:Nat=>0*(0:Rat)) (P6 n):=aI λj _=>by
     rw[ck]
     cases decide (l j≤l i) with
     |true=>rw[di];grind
     |false=>rw[ck];grind
    rw[e,df];grind
  rw[e1,p8];exact aI λj _=>by
   cases decide (l j≤l i) with
   |true=>
    have:=vw (λt=>cQ ord f l a s t j) b (l i+1) hb;rw[di,←this];exact aI λt _=>by rw[di]
   |false=>
    rw[ck];have e:sQ (λt=>cj false (cj (decide (b≤t)) (cQ ord f l a s t j-cQ ord f l a s (t+1) j))) (P6 (l i+1))=sQ (λ_:Nat=>0*(0:Rat)) (P6 (l i+1)):=aI λt _=>by rw[ck];grind
    rw[e,df];grind
 have le:sQ (λj=>cj (decide (l j≤l i)) (cQ ord f l a s b j-cQ ord f l a s (l i+1) j)+(if j=i then cQ ord f l a s (l i+1) i else 0)) (P6 n)≤sQ (λj=>cj (decide (b≤f j)&&decide (l j≤l i)) (a j)) (P6 n):=iJ λj hj=>by
  have jn:=Qi.mp hj;by_cases c1:l j≤l i
  ·rw[Q9 c1,di,XY];by_cases c2:b≤f j
   ·rw[Q9 c2,di];have d1:=h.dn' 0 j b;rw[VJ] at d1;have d1':cQ ord f l a s b j≤a j:=d1;have d2:=h.nn (l i+1) j;by_cases e:j=i
    ·subst e;rw[Z9 Z];grind
    ·rw[aaa e];grind
   ·rw[Sy c2,ck,early j jn c1 (by omega),aaa (λe=>c2 (by rw[e];exact bf))];grind
  ·rw[Sy c1,ck,Tq,ck,aaa (λe=>c1 (by rw[e];exact P7 _))];grind
 rw[fq,AB hi,←tot] at le;have cp:=h.cap b (l i) (by omega) w2;have up:=DF (λt=>cj (decide (b≤t)) (s t)) (l i) (24-(l i+1));rw[show l i+1+(24-(l i+1))=24 by omega] at up;rw[up] at cp;have:=later (l i+1) (by omega);grind
end
def de(l:List R):Ls:=λj=>val (l.getD j (0,1))
theorem l4:val ((0,1):R)=0:=(eY (r:=(0,1)) (by decide)).mpr Z
theorem IT(ha:dW a)(hb:dW b):mn (val a) (val b)=val (dF a b):=by
 unfold dF mn
 cases c:cP b a with
 |true=>
  rw[Z9 Z,aaa];have:=(jh hb.bq.pos ha.bq.pos).mp c;exact V6.mpr this
 |false=>
  rw[aaa QB,Z9];exact(jg hb.bq.pos ha.bq.pos).mp c
theorem De(hi:i<l.length)(x:R):de (l.set i x)=gj (de l) i (val x):=by
 funext j
 unfold de gj;rw[Qa,List.getElem?_set];by_cases c:j=i
 ·subst c;rw[Z9 Z,Z9 Z,Z9 hi];rfl
 ·rw[aaa (λz=>c z.symm),aaa c,←Qa]
theorem ze{ws:List Wk}{st:tN}(h:wQ n st)(hi:i<n):(de (bU ws t st i).1,val (bU ws t st i).2.1)=cF (λj=>fD (ws.getD j bc) t) (de st.1,val st.2.1) i:=by
 have al:=cL (n:=n) h.lf i;have e:=IT al h.rm;have eL:de st.1 i=val (st.1.getD i (0,1)):=Z;unfold bU cF;dsimp only;by_cases c:fD (ws.getD i bc) t=true
 ·rw[Z9 c];show _=(gj (de st.1) i (de st.1 i-mn (de st.1 i) (val st.2.1)),val st.2.1-mn (de st.1 i) (val st.2.1));rw[eL,e];by_cases z:dF (st.1.getD i (0,1)) st.2.1=(0,1)
  ·rw[aaa (λq=>q.2 z),z,l4];have e1:gj (de st.1) i (val (st.1.getD i (0,1))-0)=de st.1:=by
    funext j
    unfold gj
    split
    ·rename_i q;subst q;show _-0=val _;grind
    ·rfl
   rw[e1];have e2:val st.2.1-0=val st.2.1:=by grind
   rw[e2]
  ·rw[Z9 ⟨c,z⟩];have la:=i7 al h.rm;show(de (st.1.set i _),val (bn st.2.1 _))=_;rw[De (by rw[h.len];exact hi),d8 al.bq.pos la.bq.pos,d8 h.rm.bq.pos la.bq.pos]
 ·rw[aaa (λz=>c z.1),aaa c]
theorem jM{ws:List Wk}{n t:Nat}:∀{ord:List Nat} {st:tN},wQ n st->(∀i∈ord,i<n)->(de (ord.foldl (bU ws t) st).1,val (ord.foldl (bU ws t) st).2.1)=ord.foldl (cF (λj=>fD (ws.getD j bc) t)) (de st.1,val st.2.1)
 | [],_,_,_=>rfl
 |i::ord,st,h,hl=>by
  rw[Rs,Rs,←ze h (hl i Qd)];exact jM (h.step (ws:=ws) (t:=t) (hl i Qd)).1 λj hj=>hl j (Qe _ hj)
abbrev fW(ws:List Wk)(i:Nat):Nat:=(ws.getD i bc).1
abbrev aW(ws:List Wk):Ls:=de (ws.map λw=>w.2.2)
theorem jA{ws:List Wk}{ord:List Nat}{ss:List R}(okw:∀w∈ws,bH w)(ho:∀i∈ord,i<ws.length)(hs:∀r∈ss,dW r):∀t,de (aR ws ord ss t).1=cQ ord (fW ws) (aZ ws) (aW ws) (de ss) t
 |0=>rfl
 |t+1=>by
  obtain⟨h,hl⟩:=eW okw ho hs t;have d:wQ ws.length ((aR ws ord ss t).1,ss.getD t (0,1),[]):=⟨h.len,h.lf,cL (n:=0) hs t,λp hp=>by cases hp⟩;have q:=jM (ws:=ws) (t:=t) d ho;have e:=congrArg Prod.fst q;show de (ord.foldl (bU ws t) ((aR ws ord ss t).1,ss.getD t (0,1),[])).1=(eO (Wt (fW ws) (aZ ws) t) ord (cQ ord (fW ws) (aZ ws) (aW ws) (de ss) t) (de ss t)).1;rw[←jA okw ho hs t];exact e
theorem ku{ws:List Wk}{es:List Ln}(rk:pA ws.length es):∀k,k≤ws.length->(aJ ws es k).Nodup
 |0,_=>TR
 |k+1,h=>by
  have oi:=dE (es:=es) rk k (by omega);show(aJ ws es k++[_]).Nodup;rw[R8];refine⟨ku rk k (by omega),Rq.mpr ⟨by simp,TR⟩,λa ha b hb z=>?_⟩;have m:=jD (ws:=ws) rk (oi.ne (by omega));rw[Qj.mp hb] at z;subst z;exact(dq.mp m).2 ha
theorem lL(rk:pA ws.length es)(i:Nat):i∈aJ ws es ws.length↔i<ws.length:=by
 have oi:=dE (es:=es) rk ws.length (P7 _);refine⟨oi.lt i,λh=>?_⟩;by_cases c:i∈aJ ws es ws.length
 ·exact c
 ·have:i∈cv ws.length (aJ ws es ws.length):=dq.mpr ⟨h,c⟩;have l:=oi.wl;have e:(cv ws.length (aJ ws es ws.length)).length=0:=by omega
  rw[List.length_eq_zero_iff.mp e] at this
  cases this
theorem vG{ws:List Wk}{es:List Ln}(rk:pA ws.length es):∀k,k≤ws.length->(aJ ws es k).Pairwise (λi j=>aZ ws i≤aZ ws j)/\∀i∈aJ ws es k,∀j,j<ws.length->j∉aJ ws es k->aZ ws i≤aZ ws j
 |0,_=>⟨.nil,λi hi=>aad (show i∈([]:List Nat) from hi) (by simp)⟩
 |k+1,h=>by
  obtain⟨p,q⟩:=vG (es:=es) rk k (by omega);have oi:=dE (es:=es) rk k (by omega);have ne:=oi.ne (by omega);have m:=jD (ws:=ws) rk ne;have ml:∀j,j<ws.length->j∉aJ ws es k->aZ ws (fO ws es (cv ws.length (aJ ws es k)))≤aZ ws j:=λj h1 h2=>by
   have a:=Qf (jE (ws:=ws) rk ne);exact(fe.mp (Qp.mp a).1).2 j (dq.mpr ⟨h1,h2⟩)
  refine⟨?_,λi hi j hj nj=>?_⟩
  ·show(aJ ws es k++[_]).Pairwise _;rw[Ur];exact⟨p,WM _ _,λa ha b hb=>by rw[Qj.mp hb];exact q a ha _ (dq.mp m).1 (dq.mp m).2⟩
  ·have nj':j∉aJ ws es k:=λz=>nj (RD _ z)
   rcases QP.mp (show i∈aJ ws es k++[_] from hi) with z|z
   ·exact q i z j hj nj'
   ·rw[Qj.mp z];exact ml j hj nj'
theorem Jg(h:bH w)(b d:Nat)(hd:d<24):gY (λt=>decide (b≤t)&&decide (t≤d)) w=(decide (b≤w.1)&&decide (w.2.1≤d)):=by
 have h1:=h.le;have h2:=h.lt;rw[Sw,eC,QM,Z8,Z8];constructor
 ·intro q;have a:=q w.1 (by omega) (by unfold fD;rw[Q9 (P7 _),Q9 h1];rfl);have c:=q w.2.1 h2 (by unfold fD;rw[Q9 h1,Q9 (P7 _)];rfl);rw[QM,Z8,Z8] at a c;exact⟨a.1,c.2⟩
 ·rintro⟨q1,q2⟩ t ht it;unfold fD at it;rw[QM,Z8,Z8] at it;rw[QM,Z8,Z8];omega
theorem wK(h:i<ws.length):aW ws i=lV (ws.getD i bc):=by
 unfold aW de lV;rw[ay (0,1) (show(ws.map λw=>w.2.2)[i]?=some ws[i].2.2 by rw[Ql,P5 h];rfl),ay bc (P5 h)]
theorem uG(ok:∀w∈ws,bH w)(rk:pA ws.length es)(h:ig ws (P6 24) lys):eQ ws.length (aJ ws es ws.length) (fW ws) (aZ ws) (aW ws) (de (aV ws lys)) where
 nd:=ku rk _ (P7 _)
 mem:=lL rk
 srt:=(vG rk _ (P7 _)).1
 win:=λi hi=>by
  have o:=ok _ (Qx hi);unfold fW aZ;rw[ay bc (P5 hi)];exact⟨o.le,o.lt⟩
 an:=λi=>by
  by_cases c:i<ws.length
  ·rw[wK c];refine sX ok _ ?_;rw[ay bc (P5 c)];exact Qx c
  ·unfold aW de;rw[Qa,Ru (by rw[P8];omega)];show 0≤val ((0,1):R);rw[l4];exact RF
 sn:=λt=>by
  by_cases c:t<24
  ·show 0≤val ((aV ws lys).getD t (0,1));rw[jo h c];exact Gx ok h t
  ·have e24:(aV ws lys).length=24:=by
    unfold aV;rw[lG];rfl
   unfold de;rw[Qa,Ru (by omega)];show 0≤val ((0,1):R);rw[l4];exact RF
 cap:=λb d hb hd=>by
  have c:=cap ok h (λ_=>true) (λt=>decide (b≤t)&&decide (t≤d)) (SN.mpr λ_ _=>Z).symm (λt _ z=>by cases z);have e0:FM ws (λt=>!(λ_=>true) t)=0:=wP ok;rw[e0] at c;have e1:FM ws (λt=>decide (b≤t)&&decide (t≤d))=sQ (λj=>cj (decide (b≤fW ws j)&&decide (aZ ws j≤d)) (aW ws j)) (P6 ws.length):=by
   unfold FM;rw[jq bc];exact aI λj hj=>by
    have jl:=Qi.mp hj;rw[Jg (by rw[ay bc (P5 jl)];exact ok _ (Qx jl)) b d hd,wK jl];rfl
  have e2:sQ (λt=>cj (true&&(decide (b≤t)&&decide (t≤d))) (iX ws lys t)) (P6 24)=sQ (λt=>cj (decide (t≤d)) (cj (decide (b≤t)) (de (aV ws lys) t))) (P6 24):=aI λt ht=>by
   have tl:=Qi.mp ht;have ev:de (aV ws lys) t=iX ws lys t:=jo h tl _;rw[ev]
   cases decide (b≤t)<;>cases decide (t≤d)<;>rfl
  rw[←e1,←e2];grind
theorem xM(ok:∀w∈ws,bH w)(rk:pA ws.length es)(h:ig ws (P6 24) lys)(hs:∀r∈aV ws lys,dW r):ny (c8 ws es (aV ws lys)).1=none:=by
 have oi:=dE (es:=es) rk ws.length (P7 _);obtain⟨po,_⟩:=eW (ord:=aJ ws es ws.length) (ss:=aV ws lys) ok oi.lt hs 24;refine xR λj hj=>?_
 have jn:j<ws.length:=by rw[←po.len];exact hj
 have e:=M4 (uG (es:=es) ok rk h) jn;rw[←jA ok oi.lt hs 24] at e;have a:=cL (n:=0) po.lf j;have e':val ((c8 ws es (aV ws lys)).1.getD j (0,1))=0:=e;have z:=(eY a.bq.pos).mp e';have r:=a.red;refine fS r ⟨by decide,by decide⟩ ?_;rw[l4];exact e'
structure Fo(ws:List Wk)(n t:Nat)(L0:List R)(s:R)(seen:List Nat)(st:tN):Prop where
 ok:wQ n st
 sub:(st.2.2.map (·.1)).Sublist seen
 pc:∀i r,(i,r)∈st.2.2->fD (ws.getD i bc) t=true/\dW r/\0<val r/\val r=de L0 i-de st.1 i
 un:∀i,i∉st.2.2.map (·.1)->st.1.getD i (0,1)=L0.getD i (0,1)
 sum:sQ (λp:Pc=>val p.2) st.2.2+val st.2.1=val s
theorem Fi(h:dW r)(hz:r≠(0,1)):0<val r:=by
 have n:=(fY h.bq.pos).mpr h.nn;by_cases z:val r=0
 ·exfalso;refine hz (fS h.red ⟨by decide,by decide⟩ ?_);rw[l4];exact z
 ·grind
theorem Fo.step{ws:List Wk}{n t i:Nat}{L0:List R}{s:R}{seen:List Nat}{st:tN}(h:Fo ws n t L0 s seen st)(hi:i<n)(ni:i∉seen):Fo ws n t L0 s (seen++[i]) (bU ws t st i):=by
 have d1:=(h.ok.step (ws:=ws) (t:=t) hi).1;have nf:i∉st.2.2.map (·.1):=λz=>ni (h.sub.subset z)
 have al:=cL (n:=n) h.ok.lf i;have la:=i7 al h.ok.rm;by_cases c:fD (ws.getD i bc) t=true/\dF (st.1.getD i (0,1)) st.2.1≠(0,1)
 ·have e:bU ws t st i=(st.1.set i (bn (st.1.getD i (0,1)) (dF (st.1.getD i (0,1)) st.2.1)),bn st.2.1 (dF (st.1.getD i (0,1)) st.2.1),st.2.2++[(i,dF (st.1.getD i (0,1)) st.2.1)]):=by
   unfold bU;rw[Z9 c]
  have u0:=h.un i nf;rw[e] at d1 ⊢;have il:i<st.1.length:=by rw[h.ok.len];exact hi
  have off:∀j x,j≠i->(st.1.set i x).getD j (0,1)=st.1.getD j (0,1):=λj x hj=>by
   rw[Qa,RJ (λz=>hj z.symm),←Qa]
  have on:∀x,(st.1.set i x).getD i (0,1)=x:=λx=>by
   rw[Qa,Te il];rfl
  refine⟨d1,?_,λj r hj=>?_,λj hj=>?_,?_⟩
  ·show((st.2.2++[(i,dF (st.1.getD i (0,1)) st.2.1)]).map (λp:Pc=>p.1)).Sublist _;rw[Rh];exact YI.append h.sub (YJ _)
  ·rcases QP.mp hj with z|z
   ·obtain⟨a1,a2,a3,a4⟩:=h.pc j r z;have jn:j≠i:=λq=>nf (by rw[←q];exact Qg.mpr ⟨_,z,Z⟩)
    refine⟨a1,a2,a3,?_⟩;show val r=de L0 j-val ((st.1.set i _).getD j (0,1));rw[off j _ jn];exact a4
   ·cases Qj.mp z
    refine⟨c.1,la,Fi la c.2,?_⟩;show val (dF (st.1.getD i (0,1)) st.2.1)=val (L0.getD i (0,1))-val ((st.1.set i _).getD i (0,1));rw[on,d8 al.bq.pos la.bq.pos,u0];grind
  ·have hj':j∉(st.2.2++[(i,dF (st.1.getD i (0,1)) st.2.1)]).map (·.1):=hj;rw[Rh] at hj';have jn:j≠i:=λq=>hj' (Qv _ (by rw[q];exact Qd))
   show(st.1.set i _).getD j (0,1)=_;rw[off j _ jn];exact h.un j λz=>hj' (RD _ z)
  ·show sQ (λp:Pc=>val p.2) (st.2.2++[_])+val (bn st.2.1 _)=val s;rw[eh,d8 h.ok.rm.bq.pos la.bq.pos];have:=h.sum;show _+(val (dF (st.1.getD i (0,1)) st.2.1)+0)+_=_;grind
 ·have e:bU ws t st i=st:=by
   unfold bU;rw[aaa c]
  rw[e];exact⟨h.ok,h.sub.trans (List.sublist_append_left _ _),h.pc,h.un,h.sum⟩
theorem Fo.fold{ws:List Wk}{n t:Nat}{L0:List R}{s:R}:∀{ord seen:List Nat} {st:tN},Fo ws n t L0 s seen st->(∀i∈ord,i<n)->(seen++ord).Nodup->Fo ws n t L0 s (seen++ord) (ord.foldl (bU ws t) st)
 | [],seen,st,h,_,_=>by rw[Rp];exact h
 |i::ord,seen,st,h,hl,nd=>by
  have e:seen++i::ord=(seen++[i])++ord:=by simp
  rw[e] at nd ⊢;have ni:i∉seen:=λz=>(R8.mp (R8.mp nd).1).2.2 i z i Qd Z
  exact Fo.fold (h.step (hl i Qd) ni) (λj hj=>hl j (Qe _ hj)) nd
theorem ut(okw:∀w∈ws,bH w)(ho:∀i∈ord,i<ws.length)(nd:ord.Nodup)(hs:∀r∈ss,dW r)(t:Nat):Fo ws ws.length t (aR ws ord ss t).1 (ss.getD t (0,1)) ord (dH ws ord t (aR ws ord ss t).1 (ss.getD t (0,1))):=by
 obtain⟨h,hl⟩:=eW okw ho hs t;have d:wQ ws.length ((aR ws ord ss t).1,ss.getD t (0,1),[]):=⟨h.len,h.lf,cL (n:=0) hs t,λp hp=>by cases hp⟩;have q:Fo ws ws.length t (aR ws ord ss t).1 (ss.getD t (0,1)) [] ((aR ws ord ss t).1,ss.getD t (0,1),[]):=⟨d,YJ _,(λi r hr=>by cases hr),(λi _=>Z),by show(0:Rat)+_=_;grind⟩;exact q.fold ho nd
theorem fT{α:Type}{f:α->Rat}:∀{l:List α},(∀x∈l,0≤f x)->sQ f l=0->∀x∈l,f x=0
 | [],_,_,x,hx=>by cases hx
 |y::l,h,e,x,hx=>by
  have h1:=h y Qd;have h2:=mR (f:=f) (l:=l) λz hz=>h z (Qe _ hz)
  have e':f y+sQ f l=0:=e;rcases Qm.mp hx with z|z
  ·rw[z];grind
  ·exact fT (λz hz=>h z (Qe _ hz)) (by grind) x z
theorem G7(l:List α):sQ (λx=>f x-g x) l=sQ f l-sQ g l:=by
 have e1:=fq (f:=λx=>f x-g x) (g:=g) l;have e2:sQ (λx=>f x-g x+g x) l=sQ f l:=aI λx _=>by grind
 grind
theorem CN(ok:∀w∈ws,bH w)(rk:pA ws.length es)(h:ig ws (P6 24) lys)(ht:t<24):(eO (Wt (fW ws) (aZ ws) t) (aJ ws es ws.length) (cQ (aJ ws es ws.length) (fW ws) (aZ ws) (aW ws) (de (aV ws lys)) t) (de (aV ws lys) t)).2=0:=by
 have E:=uG (es:=es) ok rk h;have tot:sQ (λt=>(eO (Wt (fW ws) (aZ ws) t) (aJ ws es ws.length) (cQ (aJ ws es ws.length) (fW ws) (aZ ws) (aW ws) (de (aV ws lys)) t) (de (aV ws lys) t)).2) (P6 24)=0:=by
  have e1:sQ (λt=>(eO (Wt (fW ws) (aZ ws) t) (aJ ws es ws.length) (cQ (aJ ws es ws.length) (fW ws) (aZ ws) (aW ws) (de (aV ws lys)) t) (de (aV ws lys) t)).2) (P6 24)=sQ (λt=>de (aV ws lys) t-sQ (λj=>cQ (aJ ws es ws.length) (fW ws) (aZ ws) (aW ws) (de (aV ws lys)) t j-cQ (aJ ws es ws.length) (fW ws) (aZ ws) (aW ws) (de (aV ws lys)) (t+1) j) (P6 ws.length)) (P6 24):=aI λt _=>by
   have:=E.sum t;grind
  rw[e1,G7,p8];have e2:sQ (λj=>sQ (λt=>cQ (aJ ws es ws.length) (fW ws) (aZ ws) (aW ws) (de (aV ws lys)) t j-cQ (aJ ws es ws.length) (fW ws) (aZ ws) (aW ws) (de (aV ws lys)) (t+1) j) (P6 24)) (P6 ws.length)=sQ (aW ws) (P6 ws.length):=aI λj hj=>by
   have te:=vw (λt=>cQ (aJ ws es ws.length) (fW ws) (aZ ws) (aW ws) (de (aV ws lys)) t j) 0 24 (by decide);have z:=M4 E (Qi.mp hj);have e:sQ (λt=>cQ (aJ ws es ws.length) (fW ws) (aZ ws) (aW ws) (de (aV ws lys)) t j-cQ (aJ ws es ws.length) (fW ws) (aZ ws) (aW ws) (de (aV ws lys)) (t+1) j) (P6 24)=sQ (λt=>cj (decide (0≤t)) (cQ (aJ ws es ws.length) (fW ws) (aZ ws) (aW ws) (de (aV ws lys)) t j-cQ (aJ ws es ws.length) (fW ws) (aZ ws) (aW ws) (de (aV ws lys)) (t+1) j)) (P6 24):=aI λt _=>by rw[Q9 (Qu _),di]
   rw[e,te];rw[z];show aW ws j-0=aW ws j;grind
  have e3:sQ (de (aV ws lys)) (P6 24)=sQ (aW ws) (P6 ws.length):=by
   have sa:=Gw ok h (λ_=>true) (SN.mpr λ_ _=>Z).symm;have e0:FM ws (λt=>!(λ_=>true) t)=0:=wP ok;rw[e0,Fr,jq bc] at sa;have e4:sQ (de (aV ws lys)) (P6 24)=sQ (λt=>cj true (iX ws lys t)) (P6 24):=aI λt ht=>by
    rw[di];exact jo h (Qi.mp ht) _
   have e5:sQ (λi=>lV (ws.getD i bc)) (P6 ws.length)=sQ (aW ws) (P6 ws.length):=aI λj hj=>(wK (Qi.mp hj)).symm
   rw[e4,sa,e5];grind
  rw[e2];have e3':sQ (λt=>de (aV ws lys) t) (P6 24)=sQ (aW ws) (P6 ws.length):=e3;rw[e3'];grind
 exact fT (λt _=>(E.sti (E.nn t) t).rm) tot t (Qi.mpr ht)
theorem yP(ok:∀w∈ws,bH w)(rk:pA ws.length es)(h:ig ws (P6 24) lys)(hs:∀r∈aV ws lys,dW r)(ht:t<24):sQ (λp:Pc=>val p.2) (dH ws (aJ ws es ws.length) t (aR ws (aJ ws es ws.length) (aV ws lys) t).1 ((aV ws lys).getD t (0,1))).2.2=iX ws lys t:=by
 have oi:=dE (es:=es) rk ws.length (P7 _);have nd:=ku (es:=es) rk ws.length (P7 _);have p:=(ut (ord:=aJ ws es ws.length) ok oi.lt nd hs t);have u:=CN (es:=es) ok rk h ht;have q:=jM (ws:=ws) (t:=t) (n:=ws.length) (ord:=aJ ws es ws.length) (st:=((aR ws (aJ ws es ws.length) (aV ws lys) t).1,(aV ws lys).getD t (0,1),[])) (by
  obtain⟨hh,_⟩:=eW (ord:=aJ ws es ws.length) (ss:=aV ws lys) ok oi.lt hs t;exact⟨hh.len,hh.lf,cL (n:=0) hs t,λp hp=>by cases hp⟩) oi.lt
 have e:=congrArg Prod.snd q;have e':val (dH ws (aJ ws es ws.length) t (aR ws (aJ ws es ws.length) (aV ws lys) t).1 ((aV ws lys).getD t (0,1))).2.1=(eO (Wt (fW ws) (aZ ws) t) (aJ ws es ws.length) (de (aR ws (aJ ws es ws.length) (aV ws lys) t).1) (de (aV ws lys) t)).2:=e;rw[jA ok oi.lt hs t,u] at e';have sm:=p.sum;rw[e'] at sm;have sv:=jo h ht (0,1);rw[←sv];grind
theorem mY{ws:List Wk}{es:List Ln}(rk:pA ws.length es){a b:Nat}(ha:a<ws.length)(r:iN es a b)(le:aZ ws a≤aZ ws b):∀k,k≤ws.length->∀l1 l2,aJ ws es k=l1++b::l2->a∈l1
 |0,_,l1,l2,e=>by
  have e':([]:List Nat)=l1++b::l2:=e
  cases l1<;>cases e'
 |k+1,h,l1,l2,e=>by
  have oi:=dE (es:=es) rk k (by omega);have ne:=oi.ne (by omega);have e':aJ ws es k++[fO ws es (cv ws.length (aJ ws es k))]=l1++b::l2:=e;rcases List.eq_nil_or_concat l2 with z | ⟨l3,x,z⟩
  ·subst z;have e2:=Y0 e' Z;have eb:fO ws es (cv ws.length (aJ ws es k))=b:=(List.cons.inj e2.2).1;rw[←e2.1];by_cases c:a∈aJ ws es k
   ·exact c
   ·exfalso;have aw:a∈cv ws.length (aJ ws es k):=dq.mpr ⟨ha,c⟩;have m:=Qf (jE (ws:=ws) rk ne);obtain⟨m1,m2⟩:=Qp.mp m;rw[eb] at m1 m2;have mb:=fe.mp m1;have al:a∈fh ws (cv ws.length (aJ ws es k)):=fe.mpr ⟨aw,λj hj=>QU le (mb.2 j hj)⟩;rw[SK,U1] at m2;exact m2 a al (ix.mpr r)
  ·subst z;have e3:aJ ws es k++[fO ws es (cv ws.length (aJ ws es k))]=(l1++b::l3)++[x]:=by rw[e'];simp
   have e2:=Y0 e3 Z;exact mY rk ha r le k (by omega) l1 l3 e2.1
theorem xP(ok:∀w∈ws,bH w)(rk:pA ws.length es)(hs:∀r∈ss,dW r)(ha:a<ws.length)(hb:b<ws.length)(r:iN es a b)(le:aZ ws a≤aZ ws b)(hw:fD (ws.getD a bc) t=true)
  (hp:b∈(dH ws (aJ ws es ws.length) t (aR ws (aJ ws es ws.length) ss t).1 (ss.getD t (0,1))).2.2.map (·.1)):de (aR ws (aJ ws es ws.length) ss (t+1)).1 a=0:=by
 have oi:=dE (es:=es) rk ws.length (P7 _);have nd:=ku (es:=es) rk ws.length (P7 _);obtain⟨l1,l2,e⟩:=UT ((lL (es:=es) rk a).mpr ha);have bl:b∈l2:=by
  have hbm:=(lL (es:=es) rk b).mpr hb;rw[e] at hbm;rcases QP.mp hbm with z|z
  ·obtain⟨m1,m2,e2⟩:=UT z;have e3:aJ ws es ws.length=m1++b::(m2++a::l2):=by rw[e,e2];simp
   have am:=mY rk ha r le ws.length (P7 _) _ _ e3;rw[e] at nd;exact aad Z ((R8.mp nd).2.2 a (by rw[e2];exact RD _ am) a Qd)
  ·rcases Qm.mp z with z|z
   ·subst z;obtain⟨ps,_,hps⟩:=rk;exact aad (iN.rank hps r) (Ri _)
   ·exact z
 by_cases z:de (aR ws (aJ ws es ws.length) ss (t+1)).1 a=0
 ·exact z
 exfalso;have p:=ut (ord:=aJ ws es ws.length) ok oi.lt nd hs t;obtain⟨hh,_⟩:=eW (ord:=aJ ws es ws.length) (ss:=ss) ok oi.lt hs t;have d:wQ ws.length ((aR ws (aJ ws es ws.length) ss t).1,ss.getD t (0,1),[]):=⟨hh.len,hh.lf,cL (n:=0) hs t,λp hp=>by cases hp⟩;have q:=congrArg Prod.fst (jM (ws:=ws) (t:=t) d oi.lt);have q':de (aR ws (aJ ws es ws.length) ss (t+1)).1=(eO (λj=>fD (ws.getD j bc) t) (aJ ws es ws.length) (de (aR ws (aJ ws es ws.length) ss t).1) (de ss t)).1:=q;have nnL:∀j,0≤de (aR ws (aJ ws es ws.length) ss t).1 j:=λj=>(fY (cL (n:=0) hh.lf j).bq.pos).mpr (cL (n:=0) hh.lf j).nn
 have nnS:0≤de ss t:=(fY (cL (n:=0) hs t).bq.pos).mpr (cL (n:=0) hs t).nn;have sti:yI (de (aR ws (aJ ws es ws.length) ss t).1) (de ss t) (eO (λj=>fD (ws.getD j bc) t) (aJ ws es ws.length) (de (aR ws (aJ ws es ws.length) ss t).1) (de ss t)):=yI.fold nnL ⟨λ_ h=>h,λ_=>RF,nnS⟩;have pos:0<(eO (λj=>fD (ws.getD j bc) t) (l1++a::l2) (de (aR ws (aJ ws es ws.length) ss t).1) (de ss t)).1 a:=by
  rw[←e];have:=sti.nn a (nnL a);rw[←q'] at this ⊢;grind
 have nd':=nd;rw[e] at nd';obtain⟨_,keep⟩:=oC nnL nnS nd' hw pos;have b1:b∉l1:=λz=>(R8.mp nd').2.2 b z b (Qe _ bl) Z
 have b2:b≠a:=λz=>(Rq.mp (R8.mp nd').2.1).1 (by rw[←z];exact bl)
 have kb:=keep b b1 b2;rw[←e,←q'] at kb;obtain⟨⟨b',rr⟩,hm,hb'⟩:=Qg.mp hp;have hb'':b'=b:=hb';subst hb'';obtain⟨_,_,v0,v1⟩:=p.pc _ _ hm;have kb':de (dH ws (aJ ws es ws.length) t (aR ws (aJ ws es ws.length) ss t).1 (ss.getD t (0,1))).1 b'=de (aR ws (aJ ws es ws.length) ss t).1 b':=kb;grind
def cH(pl:List (List Pc))(t k:Nat):Pc:=(pl.getD t []).getD k (0,(0,1))
def Kr(pl:List (List Pc))(t k i:Nat):List (Nat×Nat):=((P6 k).filter λj=>decide ((cH pl t j).1=i)).map λj=>(t,j)
def FI(pl:List (List Pc)):Nat->Nat->List (Nat×Nat)
 |0,_=>[]
 |t+1,i=>FI pl t i++Kr pl t (pl.getD t []).length i
def uJ(pl:List (List Pc))(t i:Nat)(r:R):Nat->R
 |0=>r
 |k+1=>if(cH pl t k).1=i then bP (uJ pl t i r k) (cH pl t k).2 else uJ pl t i r k
def yH(pl:List (List Pc))(i:Nat):Nat->R
 |0=>(0,1)
 |t+1=>uJ pl t i (yH pl i t) (pl.getD t []).length
theorem Dx(h:x∈Kr pl t k i):x.1=t/\x.2<k/\(cH pl t x.2).1=i:=by
 obtain⟨j,hj,rfl⟩:=Qg.mp h;obtain⟨h1,h2⟩:=Qp.mp hj;exact⟨Z,Qi.mp h1,aab h2⟩
theorem pX{pl:List (List Pc)}{i:Nat}:∀{t:Nat} {x:Nat×Nat},x∈FI pl t i->x.1<t/\x.2<(pl.getD x.1 []).length/\(cH pl x.1 x.2).1=i
 |0,x,h=>by cases h
 |t+1,x,h=>by
  rcases QP.mp (show x∈FI pl t i++Kr pl t (pl.getD t []).length i from h) with z|z
  ·obtain⟨a,b,c⟩:=pX z;exact⟨by omega,b,c⟩
  ·obtain⟨a,b,c⟩:=Dx z;rw[a];exact⟨by omega,b,c⟩
structure tK(ws:List Wk)(es:List Ln)(pl:List (List Pc)):Prop where
 len:pl.length=24
 few:∀t,(pl.getD t []).length≤20
 pc:∀t k,t<24->k<(pl.getD t []).length->(cH pl t k).1<ws.length/\dW (cH pl t k).2/\0<val (cH pl t k).2/\fD (ws.getD (cH pl t k).1 bc) t=true
 nd:∀t j k,t<24->j<k->k<(pl.getD t []).length->(cH pl t j).1≠(cH pl t k).1
 fin:∀i,i<ws.length->yH pl i 24=(ws.getD i bc).2.2
 ne:∀i,i<ws.length->FI pl 24 i≠[]
 lean:∀a b,(a,b)∈es->∀x∈FI pl 24 a,∀y∈FI pl 24 b,x.1<y.1∨(x.1=y.1/\x.2<y.2)
theorem Cp{pl:List (List Pc)}{t i:Nat}{r:R}{N:Nat}(h:Bq decl_name% N r):∀k,k≤(pl.getD t []).length->(∀j,j<(pl.getD t []).length->dW (cH pl t j).2)->Bq decl_name% (N+256*k) (uJ pl t i r k)
 |0,_,_=>h
 |k+1,hk,ha=>by
  have ih:=Cp (i:=i) h k (by omega) ha;show Bq _ _ (if(cH pl t k).1=i then bP (uJ pl t i r k) (cH pl t k).2 else uJ pl t i r k)
  split
  ·exact(Bq.plus (by decide) ih (ha k (by omega)).bq).mono (RN _) (by omega)
  ·exact ih.mono (RN _) (by omega)
theorem Co{ws:List Wk}{pl:List (List Pc)}(few:∀t,(pl.getD t []).length≤20)(pc:∀t k,t<24->k<(pl.getD t []).length->dW (cH pl t k).2)(i:Nat):∀t,t≤24->Bq decl_name% (5120*t) (yH pl i t)
 |0,_=>(Ff.mono (RN _) (P7 _))
 |t+1,h=>by
  have f:=few t;exact(Cp (Co (ws:=ws) few pc i t (by omega)) _ (P7 _) λj hj=>pc t j (by omega) hj).mono (RN _) (by omega)
theorem lS{pl:List (List Pc)}{t i:Nat}{r:R}(hr:0<r.2):∀k,(∀j,j<k->0<(cH pl t j).2.2)->0<(uJ pl t i r k).2/\val (uJ pl t i r k)=val r+sQ (λj=>cj (decide ((cH pl t j).1=i)) (val (cH pl t j).2)) (P6 k)
 |0,_=>⟨hr,by show val r=val r+0;grind⟩
 |k+1,h=>by
  obtain⟨p,e⟩:=lS (i:=i) hr k λj hj=>h j (by omega)
  have hk:=h k (by omega);rw[Rr,eh];show 0<(if(cH pl t k).1=i then bP (uJ pl t i r k) (cH pl t k).2 else uJ pl t i r k).2/\val (if(cH pl t k).1=i then bP (uJ pl t i r k) (cH pl t k).2 else uJ pl t i r k)=val r+(_+(cj (decide ((cH pl t k).1=i)) (val (cH pl t k).2)+0));by_cases c:(cH pl t k).1=i
  ·rw[Z9 c,Q9 c,di];refine⟨(iu (RT p hk)).pos,?_⟩;rw[jf p hk,e];grind
  ·rw[aaa c,Sy c,ck,e];exact⟨p,by grind⟩
theorem oO{ws:List Wk}{ord:List Nat}{ss:List R}:∀{N t:Nat},t<N->(aR ws ord ss N).2.length=N->(aR ws ord ss N).2.getD t []=(dH ws ord t (aR ws ord ss t).1 (ss.getD t (0,1))).2.2
 |0,t,h,_=>aad h (Ue _)
 |N+1,t,h,hl=>by
  have e:(aR ws ord ss (N+1)).2=(aR ws ord ss N).2++[(dH ws ord N (aR ws ord ss N).1 (ss.getD N (0,1))).2.2]:=Z;have l:(aR ws ord ss N).2.length=N:=by
   rw[e,QC] at hl;have:[(dH ws ord N (aR ws ord ss N).1 (ss.getD N (0,1))).2.2].length=1:=Z;omega
  rw[e,Qa];by_cases c:t<N
  ·rw[RB (by omega),←Qa];exact oO c l
  ·have:t=N:=by omega
   subst this;rw[RG (by omega),l,Vb];rfl
theorem p9{q:List Pc}{f:Pc->Rat}(nd:(q.map (·.1)).Nodup):sQ (λp:Pc=>cj (decide (p.1=i)) (f p)) q=0∨∃p∈q,p.1=i/\sQ (λp:Pc=>cj (decide (p.1=i)) (f p)) q=f p:=by
 induction q with
 |nil=>exact .inl Z
 |cons p q ih=>
  have nd':(p.1::q.map (·.1)).Nodup:=nd;obtain⟨n1,n2⟩:=Rq.mp nd';by_cases c:p.1=i
  ·refine .inr ⟨p,Qd,c,?_⟩;have z:sQ (λp:Pc=>cj (decide (p.1=i)) (f p)) q=sQ (λ_:Pc=>0*(0:Rat)) q:=aI λx hx=>by
    rw[Sy (λe=>n1 (by rw[c,←e];exact Qg.mpr ⟨x,hx,Z⟩)),ck];grind
   show cj (decide (p.1=i)) (f p)+sQ _ q=f p;rw[z,df,Q9 c,di];grind
  ·have e:sQ (λp:Pc=>cj (decide (p.1=i)) (f p)) (p::q)=sQ (λp:Pc=>cj (decide (p.1=i)) (f p)) q:=by
    show cj (decide (p.1=i)) (f p)+sQ _ q=_;rw[Sy c,ck];grind
   rw[e];rcases ih n2 with z | ⟨x,hx,e1,e2⟩
   ·exact .inl z
   ·exact .inr ⟨x,Qe _ hx,e1,e2⟩
theorem uq(len0:ws.length=ws0.length)(amt:∀i,i<ws.length->(ws.getD i bc).2.2=(ws0.getD i bc).2.2)(wid:∀i,i<ws.length->(ws0.getD i bc).1≤(ws.getD i bc).1/\(ws.getD i bc).2.1≤(ws0.getD i bc).2.1)
  (lns:∀a b,(a,b)∈es->a<ws.length/\b<ws.length/\(ws.getD a bc).1≤(ws.getD b bc).1/\(ws.getD a bc).2.1≤(ws.getD b bc).2.1) (ok:∀w∈ws,bH w) (w8:ws.length≤20) (rk:pA ws.length es) (h:ig ws (P6 24) lys) (hs:∀r∈aV ws lys,dW r):tK ws0 es (c8 ws es (aV ws lys)).2:=by
 have oi:=dE (es:=es) rk ws.length (P7 _);have nd:=ku (es:=es) rk ws.length (P7 _);have E:=uG (es:=es) ok rk h;obtain⟨po,pl24⟩:=eW (ord:=aJ ws es ws.length) (ss:=aV ws lys) ok oi.lt hs 24;have PC:=λt=>ut (ord:=aJ ws es ws.length) ok oi.lt nd hs t
 have at_:∀t,t<24->(c8 ws es (aV ws lys)).2.getD t []=(dH ws (aJ ws es ws.length) t (aR ws (aJ ws es ws.length) (aV ws lys) t).1 ((aV ws lys).getD t (0,1))).2.2:=λt ht=>oO ht pl24
 have pv:=λt=>jA (ord:=aJ ws es ws.length) (ss:=aV ws lys) ok oi.lt hs t
 generalize hpl:(c8 ws es (aV ws lys)).2=pl at at_;have plen:pl.length=24:=by rw[←hpl];exact pl24
 have few:∀t,(pl.getD t []).length≤20:=λt=>by
  rw[Qa]
  cases e:pl[t]? with
  |none=>exact Qu _
  |some q=>
   have m:q∈(aR ws (aJ ws es ws.length) (aV ws lys) 24).2:=by
    have:=Qf e;rw[←hpl] at this;exact this
   have:=(po.pc q m).1;have l:=oi.len;show q.length≤20;omega
 have mem:∀t k,t<24->k<(pl.getD t []).length->((cH pl t k).1,(cH pl t k).2)∈(dH ws (aJ ws es ws.length) t (aR ws (aJ ws es ws.length) (aV ws lys) t).1 ((aV ws lys).getD t (0,1))).2.2:=λt k ht hk=>by
  rw[←at_ t ht];unfold cH;rw[ay (0,(0,1)) (P5 hk)];exact Qx hk
 have pc:∀t k,t<24->k<(pl.getD t []).length->(cH pl t k).1<ws.length/\fD (ws.getD (cH pl t k).1 bc) t=true/\dW (cH pl t k).2/\0<val (cH pl t k).2:=λt k ht hk=>by
  have m:=mem t k ht hk;obtain⟨a,b,c,_⟩:=(PC t).pc _ _ m;exact⟨((PC t).ok.pc _ m).1,a,b,c⟩
 have ndt:∀t,t<24->((pl.getD t []).map (·.1)).Nodup:=λt ht=>by
  rw[at_ t ht];exact(PC t).sub.nodup nd
 have ndj:∀t j k,t<24->j<k->k<(pl.getD t []).length->(cH pl t j).1≠(cH pl t k).1:=λt j k ht hj hk=>by
  have p:=RH.mp (ndt t ht) j k (by rw[P8];omega) (by rw[P8];exact hk) hj;unfold cH;rw[ay (0,(0,1)) (P5 (show j<(pl.getD t []).length by omega)),ay (0,(0,1)) (P5 hk)];rw[TV,TV] at p;exact p
 have turnv:∀t i,t<24->sQ (λj=>cj (decide ((cH pl t j).1=i)) (val (cH pl t j).2)) (P6 (pl.getD t []).length)=de (aR ws (aJ ws es ws.length) (aV ws lys) t).1 i-de (aR ws (aJ ws es ws.length) (aV ws lys) (t+1)).1 i:=λt i ht=>by
  have e:sQ (λj=>cj (decide ((cH pl t j).1=i)) (val (cH pl t j).2)) (P6 (pl.getD t []).length)=sQ (λp:Pc=>cj (decide (p.1=i)) (val p.2)) (pl.getD t []):=(jq (f:=λp:Pc=>cj (decide (p.1=i)) (val p.2)) (0,(0,1)) (pl.getD t [])).symm;rw[e];by_cases c:i∈(pl.getD t []).map (·.1)
  ·obtain⟨⟨i',r⟩,hm,e1⟩:=Qg.mp c;have e1':i'=i:=e1;subst e1';rcases p9 (i:=i') (f:=λp:Pc=>val p.2) (ndt t ht) with z | ⟨p,hp,e2,e3⟩
   ·exfalso;have hm':=hm;rw[at_ t ht] at hm';obtain⟨_,_,v0,_⟩:=(PC t).pc _ _ hm';have:=fT (f:=λp:Pc=>cj (decide (p.1=i')) (val p.2)) (l:=pl.getD t []) (λx hx=>eV _ (by
     have hx':=hx;rw[at_ t ht] at hx';obtain⟨_,_,w0,_⟩:=(PC t).pc x.1 x.2 hx';exact R7 w0)) z _ hm
    rw[Q9 Z,di] at this;have this':val r=0:=this;grind
   ·rw[e3];have hp':=hp;rw[at_ t ht] at hp';obtain⟨_,_,_,v1⟩:=(PC t).pc p.1 p.2 hp';rw[e2] at v1;exact v1
  ·have z:sQ (λp:Pc=>cj (decide (p.1=i)) (val p.2)) (pl.getD t [])=sQ (λ_:Pc=>0*(0:Rat)) (pl.getD t []):=aI λx hx=>by
    rw[Sy (λe=>c (by rw[←e];exact Qg.mpr ⟨x,hx,Z⟩)),ck];grind
   rw[at_ t ht] at c;have u:=(PC t).un i c;have u':de (aR ws (aJ ws es ws.length) (aV ws lys) (t+1)).1 i=de (aR ws (aJ ws es ws.length) (aV ws lys) t).1 i:=congrArg val u;rw[z,df,u'];grind
 have dnv:∀i t,t≤24->0<(yH pl i t).2/\val (yH pl i t)=de (aR ws (aJ ws es ws.length) (aV ws lys) 0).1 i-de (aR ws (aJ ws es ws.length) (aV ws lys) t).1 i:=λi t=>by
  induction t with
  |zero=>intro _;exact⟨by show(0:Int)<1;decide,by show val ((0,1):R)=_;rw[l4];grind⟩
  |succ t ih=>
   intro ht;obtain⟨p,e⟩:=ih (by omega);obtain⟨p2,e2⟩:=lS (pl:=pl) (t:=t) (i:=i) p (pl.getD t []).length λj hj=>(pc t j (by omega) hj).2.2.1.bq.pos
   refine⟨p2,?_⟩;show val (uJ pl t i (yH pl i t) (pl.getD t []).length)=_;rw[e2,e,turnv t i (by omega)];grind
 have a0:∀i,i<ws.length->val (yH pl i 24)=lV (ws.getD i bc):=λi hi=>by
  have e:=(dnv i 24 (P7 _)).2;rw[pv 24,M4 E hi] at e;have z:de (aR ws (aJ ws es ws.length) (aV ws lys) 0).1 i=lV (ws.getD i bc):=by
   rw[pv 0];exact wK hi
  rw[z] at e;rw[e];grind
 have pos0:∀i,i<ws.length->0<lV (ws.getD i bc):=λi hi=>by
  rw[ay bc (P5 hi)];exact uQ (ok _ (Qx hi))
 refine⟨plen,few,λt k ht hk=>?_,ndj,λi hi=>?_,λi hi=>?_,λa b hab x hx y hy=>?_⟩
 ·obtain⟨p1,p2,p3,p4⟩:=pc t k ht hk;refine⟨by rw[←len0];exact p1,p3,p4,?_⟩;obtain⟨w1,w2⟩:=wid _ p1;unfold fD at p2 ⊢;rw[QM,Z8,Z8] at p2 ⊢;omega
 ·have il:i<ws.length:=by rw[len0];exact hi
  rw[←amt i il];have o:=(ok _ (Qx il)).am;have bq:=Co (ws:=ws) few (λt k ht hk=>(pc t k ht hk).2.2.1) i 24 (P7 _);refine fS bq.red ?_ (a0 i il);rw[ay bc (P5 il)];exact(sY o).red
 ·intro e;have il:i<ws.length:=by rw[len0];exact hi
  have z:∀t,t≤24->FI pl t i=[]->val (yH pl i t)=0:=λt=>by
   induction t with
   |zero=>intro _ _;exact l4
   |succ t ih=>
    intro ht he;have he':FI pl t i++Kr pl t (pl.getD t []).length i=[]:=he;obtain⟨h1,h2⟩:=List.append_eq_nil_iff.mp he';have v:=lS (pl:=pl) (t:=t) (i:=i) (dnv i t (by omega)).1 (pl.getD t []).length λj hj=>(pc t j (by omega) hj).2.2.1.bq.pos
    show val (uJ pl t i (yH pl i t) (pl.getD t []).length)=0;rw[v.2,ih (by omega) h1];have q:sQ (λj=>cj (decide ((cH pl t j).1=i)) (val (cH pl t j).2)) (P6 (pl.getD t []).length)=sQ (λ_:Nat=>0*(0:Rat)) (P6 (pl.getD t []).length):=aI λj hj=>by
     rw[Sy (λc=>by
      have m:(t,j)∈Kr pl t (pl.getD t []).length i:=Qg.mpr ⟨j,Qp.mpr ⟨hj,Q9 c⟩,Z⟩;rw[h2] at m
      cases m),ck]
     grind
    rw[q,df];grind
  have v:=z 24 (P7 _) e;rw[a0 i il] at v;have:=pos0 i il;grind
 ·obtain⟨x1,x2,x3⟩:=pX hx;obtain⟨y1,y2,y3⟩:=pX hy;obtain⟨al,bl,fab,lab⟩:=lns a b hab;have px:=pc x.1 x.2 x1 x2;have py:=pc y.1 y.2 y1 y2;rw[x3] at px;rw[y3] at py;have wx:=px.2.1;have wy:=py.2.1;unfold fD at wx wy;rw[QM,Z8,Z8] at wx wy;by_cases c:x.1<y.1
  ·exact .inl c
  by_cases c2:x.1=y.1
  ·refine .inr ⟨c2,?_⟩;by_cases c3:x.2<y.2
   ·exact c3
   exfalso;obtain⟨ps,_,hps⟩:=id rk;have irr:a≠b:=λe=>by
    have:=iN.rank hps (iN.one hab);rw[e] at this;exact Ri _ this
   have ne:x.2≠y.2:=λe=>by
    rw[c2,e,y3] at x3;exact irr x3.symm
   have lt:y.2<x.2:=by omega
   rw[c2] at x2 x3;have sub:=(PC y.1).sub;rw[←at_ y.1 y1] at sub;have ex:((pl.getD y.1 []).map (·.1))[x.2]?=some a:=by
    rw[Ql,P5 x2];have e:=ay (0,(0,1)) (P5 x2);unfold cH at x3;rw[e] at x3;exact congrArg some x3
   have ey:((pl.getD y.1 []).map (·.1))[y.2]?=some b:=by
    rw[Ql,P5 y2];have e:=ay (0,(0,1)) (P5 y2);unfold cH at y3;rw[e] at y3;exact congrArg some y3
   generalize (pl.getD y.1 []).map (·.1)=zs at sub ex ey;obtain⟨hy',ey'⟩:=Qq.mp ey;have d:zs.drop y.2=b::zs.drop (y.2+1):=by rw[List.drop_eq_getElem_cons hy',ey']
   have am:a∈zs.drop (y.2+1):=by
    refine Qf (i:=x.2-(y.2+1)) ?_;rw[Yi,show y.2+1+(x.2-(y.2+1))=x.2 by omega];exact ex
   have sb:(b::zs.drop (y.2+1)).Sublist (aJ ws es ws.length):=by
    rw[←d];exact(List.drop_sublist _ _).trans sub
   obtain⟨r1,r2,e,hb1,hs2⟩:=List.cons_sublist_iff.mp sb;obtain⟨m1,m2,e2⟩:=UT hb1;have e3:aJ ws es ws.length=m1++b::(m2++r2):=by rw[e,e2];simp
   have ain:=mY rk al (.one hab) lab ws.length (P7 _) _ _ e3;rw[e] at nd;exact(R8.mp nd).2.2 a (by rw[e2];exact RD _ ain) a (hs2.subset am) Z
  ·exfalso;have hw:fD (ws.getD a bc) y.1=true:=by
    unfold fD;rw[QM,Z8,Z8];omega
   have hb:b∈(dH ws (aJ ws es ws.length) y.1 (aR ws (aJ ws es ws.length) (aV ws lys) y.1).1 ((aV ws lys).getD y.1 (0,1))).2.2.map (·.1):=by
    have m:=mem y.1 y.2 y1 y2;rw[y3] at m;exact Qg.mpr ⟨_,m,Z⟩
   have d:=xP ok rk hs al bl (.one hab) lab hw hb;have mx:=mem x.1 x.2 x1 x2;rw[x3] at mx;obtain⟨_,_,v0,v1⟩:=(PC x.1).pc _ _ mx;have zl:de (aR ws (aJ ws es ws.length) (aV ws lys) x.1).1 a=0:=by
    rw[pv] at d ⊢;have q:=E.dn' (y.1+1) a (x.1-(y.1+1));rw[show y.1+1+(x.1-(y.1+1))=x.1 by omega] at q;have n0:=E.nn x.1 a;grind
   have n1:0≤de (dH ws (aJ ws es ws.length) x.1 (aR ws (aJ ws es ws.length) (aV ws lys) x.1).1 ((aV ws lys).getD x.1 (0,1))).1 a:=by
    have g:=cL (n:=0) (PC x.1).ok.lf a;exact(fY g.bq.pos).mpr g.nn
   grind
structure Mf(K:P4)(H:Hp)(v:V)(ws:List Wk)(es:List Ln):Prop where
 sv:Ol K H v ws es
 w8:ws.length≤20
 ok:∀w∈ws,bH w
 eok:uZ ws.length es
 rk:pA ws.length es
 e8:es.length≤20
theorem Mf.sh{K:P4}{H:Hp}{v:V}{ws:List Wk}{es:List Ln}(h:Mf K H v ws es):LF ws es:=⟨by have:=h.w8;omega,λw hw=>⟨by have:=(h.ok w hw).le;have:=(h.ok w hw).lt;omega,(h.ok w hw).lt,(h.ok w hw).am.wf.mono (by decide)⟩,h.eok⟩
def lC(ws:List Wk)(f l:Nat->Int):List Wk:=(P6 ws.length).map λi=>((f i).toNat,(l i).toNat,(ws.getD i bc).2.2)
theorem uI(ws:List Wk)(f l:Nat->Int):(lC ws f l).length=ws.length:=by unfold lC;rw[P8,QN]
theorem Ga(h:i<ws.length):(lC ws f l).getD i bc=((f i).toNat,(l i).toNat,(ws.getD i bc).2.2):=by
 refine ay bc ?_;unfold lC;rw[Ql,Sk h];rfl
theorem JB(h:jb n f l=none)(hi:i<n):f i≤l i:=by
 unfold jb at h;rw[V5] at h;have:=h i (Qi.mpr hi);by_cases c:l i<f i
 ·exact aad (Q9 c) this
 ·omega
theorem u6{ws:List Wk}(ok:∀w∈ws,bH w)(h:i<ws.length):bH (ws.getD i bc):=by
 rw[ay bc (P5 h)];exact ok _ (Qx h)
theorem yL(ok:∀w∈ws,bH w)(h:iI ws es f l)(hi:i<ws.length):0≤f i/\f i<24/\0≤l i/\l i<24/\((ws.getD i bc).1:Int)≤f i/\l i≤((ws.getD i bc).2.1:Int):=by
 obtain⟨j,hj,_,e1⟩:=h.a.att i hi;obtain⟨k,hk,_,e2⟩:=h.b.att i hi;have oj:=u6 ok hj;have okk:=u6 ok hk;have a:=oj.le;have b:=oj.lt;have c:=okk.lt;have u1:=h.a.up i i hi hi (.inl Z);have u2:=h.b.up i i hi hi (.inl Z);unfold vF at e1 u1;unfold vL at e2 u2;omega
theorem F9(ok:∀w∈ws,bH w)(h:iI ws es f l)(nb:jb ws.length f l=none):∀w∈lC ws f l,bH w:=λw hw=>by
 obtain⟨i,hi,rfl⟩:=Qg.mp hw;have il:=Qi.mp hi;have q:=JB nb il;have b:=yL ok h il;have o:=u6 ok il;exact⟨by show(f i).toNat≤(l i).toNat;omega,by show(l i).toNat<24;omega,o.am⟩
theorem EZ{K:P4}{H:Hp}{u:V}{ws:List Wk}{es:List Ln}{f l:Nat->Int}(ok:∀w∈ws,bH w)(h:iI ws es f l)(d:bD K H u (.tuple ((P6 ws.length).map (yi ws f l)))):fu K H u (lC ws f l):=by
 cases d with
 | @tup p xs ds hS hA=>
  refine⟨p,xs,Z,hS,?_⟩;have key:∀(zs:List Nat) (xs:List V),(∀i∈zs,i<ws.length)->bu K H xs (zs.map (yi ws f l))->b8 (tf K H) xs (zs.map λi=>((f i).toNat,(l i).toNat,(ws.getD i bc).2.2)):=by
   intro zs
   induction zs with
   |nil=>intro xs _ d;cases d;exact .nil
   |cons i zs ih=>
    intro xs hz d
    cases d with
    | @cons x _ xs _ dx dt=>
     refine .cons ?_ (ih _ (λj hj=>hz j (Qe _ hj)) dt);have b:=yL ok h (hz i Qd)
     cases dx with
     | @tup p ys _ hS hA=>
      cases hA with
      |cons d1 d2=>
       cases d2 with
       |cons d3 d4=>
        cases d4 with
        |cons d5 d6=>
         cases d1
         cases d3
         cases d6
         cases d5 with
         | @tup q zs _ hS2 hA2=>
          cases hA2 with
          |cons e1 e2=>
           cases e2 with
           |cons e3 e4=>
            cases e1
            cases e3
            cases e4
            refine⟨p,.ref q,Z,?_,⟨q,Z,hS2⟩⟩;show bF K H p [.int ((f i).toNat:Nat),.int ((l i).toNat:Nat),.ref q];rw[show(((f i).toNat:Nat):Int)=f i by omega,show(((l i).toNat:Nat):Int)=l i by omega];exact hS
  exact key _ _ (λi hi=>Qi.mp hi) hA
noncomputable def NX (ws:List Wk) (es:List Ln) (f l:Nat->Int) (lys:List Ly):PyData:=Jw (c8 (lC ws f l) es (aV (lC ws f l) lys)).2
def rH(K:P4):Sp:=λvs H Q _=>∃(v:V) (ws:List Wk) (es:List Ln),vs=[v]/\Ol K H v ws es/\LF ws es/\(∀f l:Nat->Int,iI ws es f l->jb ws.length f l=none)/\∀(f l:Nat->Int) (u:V) (H':Hp),aH H H'->iI ws es f l->jb ws.length f l=none->bD K H' u (.tuple ((P6 ws.length).map (yi ws f l)))->Q u H'
def nY(K:P4):Sp:=λvs H Q _=>∃(v:V) (ws:List Wk) (es:List Ln),vs=[v]/\Mf K H v ws es/\(∀f l:Nat->Int,iI ws es f l->jb ws.length f l=none)/\∀(f l:Nat->Int) (lys:List Ly) (w:V) (H':Hp),aH H H'->iI ws es f l->jb ws.length f l=none->ig (lC ws f l) (P6 24) lys->bD K H' w (NX ws es f l lys)->Q w H'
theorem kA(h:ig ws ls lys):ls.length≤24->(∀t∈ls,t<24)->∀y∈lys,kN ws.length y:=by
 induction h with
 |nil _=>intro _ _ y hy;cases hy
 |cons h tl ih=>
  intro h1 h2 y hy;rcases Qm.mp hy with z|z
  ·rw[z];exact BQ h.1.inn h1 h2
  ·exact ih (QU (Q5 _ _) h1) (λt ht=>h2 t (Qp.mp ht).1) y z
theorem j8{ws:List Wk}{lys:List Ly}(ok:∀w∈ws,bH w)(hw:ws.length≤20)(lok:∀y∈lys,kN ws.length y):∀r∈aV ws lys,dW r:=λr hr=>(zi (ss:=Qn 24 (0,1)) ok hw lok (λr hr=>by rw[List.eq_of_mem_replicate hr];exact⟨Ff.mono (RN _) (by decide),Vt _⟩) r hr).am (by decide)
def PY(K:P4)(C:Addr)(H:Hp)(u:V)(pd:PyData):Option Nat->Prop
 |none=>∃p x l,u=.ref p/\bF K H p [x,.ref l]/\bD K H x pd/\H l=some (.lst [])
 |some i=>∃p l x dd,u=.ref p/\bF K H p [.ref x,.ref l]/\H x=some (Lu x C dd)/\H dd=some (dO dd [("work",.int (i:Nat))])/\H l=some (.lst [.bl true,.bl true,.bl true,.bl false])
theorem Cy{K:P4}{H:Hp}{v:V}{r:R}(d:bD K H v (dR r)):RV K H v r:=by
 cases d with
 | @tup q zs _ hS2 hA2=>
  cases hA2 with
  |cons e1 e2=>
   cases e2 with
   |cons e3 e4=>
    cases e1
    cases e3
    cases e4
    exact⟨q,Z,hS2⟩
theorem E7{K:P4}{H:Hp}{v:V}{c:Pc}(d:bD K H v (M8 c)):yJ K H v c:=by
 cases d with
 | @tup q zs _ hS2 hA2=>
  cases hA2 with
  |cons e1 e2=>
   cases e2 with
   |cons e3 e4=>
    cases e1
    cases e4
    exact⟨q,_,Z,hS2,Cy e3⟩
theorem nN{α:Type}{K:P4}{H:Hp}{f:α->PyData}{P:V->α->Prop}(h:∀v x,bD K H v (f x)->P v x):∀{l:List α} {xs:List V},bu K H xs (l.map f)->b8 P xs l
 | [],_,d=>by cases d;exact .nil
 |x::l,_,d=>by
  cases d with
  |cons d1 d2=>exact .cons (h _ _ d1) (nN h d2)
theorem E5{K:P4}{H:Hp}{v:V}{q:List Pc}(d:bD K H v (Md q)):nV K H v q:=by
 cases d with
 | @tup p xs _ hS hA=>exact⟨p,xs,Z,hS,nN (P:=yJ K H) (λ_ _ z=>E7 z) hA⟩
theorem E6{K:P4}{H:Hp}{u:V}{pl:List (List Pc)}(d:bD K H u (Jw pl)):∃p xs,u=.ref p/\bF K H p xs/\b8 (nV K H) xs pl:=by
 cases d with
 | @tup p xs _ hS hA=>exact⟨p,xs,Z,hS,nN (P:=nV K H) (λ_ _ z=>E5 z) hA⟩
def Pg(K:P4)(H:Hp)(v:V)(x:Nat×Nat):Prop:=∃p,v=.ref p/\bF K H p [.int (x.1:Nat),.int (x.2:Nat)]
structure PZ(K:P4)(H:Hp)(D:Addr)(rows:List Addr)(n:Nat)(S:Nat->List (Nat×Nat)):Prop where
 top:H D=some (.lst (rows.map V.ref))
 len:rows.length=n
 nd:rows.Nodup
 ne:D∉rows
 row:∀i r,rows[i]?=some r->∃ys,H r=some (.lst ys)/\b8 (Pg K H) ys (S i)
theorem EY(ok:∀w∈ws,bH w)(eok:uZ ws.length es)(h:iI ws es f l)(a b:Nat)(hab:(a,b)∈es):a<(lC ws f l).length/\b<(lC ws f l).length/\((lC ws f l).getD a bc).1≤((lC ws f l).getD b bc).1/\((lC ws f l).getD a bc).2.1≤((lC ws f l).getD b bc).2.1:=by
 rw[show es=[] from eok] at hab
 cases hab
theorem Cl(ok:∀w∈ws,bH w)(w8:ws.length≤20)(eok:uZ ws.length es)(rk:pA ws.length es)(h:iI ws es f l)(nb:jb ws.length f l=none)(ly:ig (lC ws f l) (P6 24) lys):tK ws es (c8 (lC ws f l) es (aV (lC ws f l) lys)).2:=by
 have ok':=F9 ok h nb;have len:=uI ws f l;refine uq len (λi hi=>?_) (λi hi=>?_) (EY ok eok h) ok' (by omega) (by rw[len];exact rk) ly (j8 ok' (by omega) (kA ly (by decide) λt ht=>Qi.mp ht))
 ·rw[Ga (by omega)]
 ·have il:i<ws.length:=by omega
  rw[Ga il];have b:=yL ok h il;show _≤(f i).toNat/\(l i).toNat≤_;omega
def PX(K:P4)(t s lw:Addr)(m:Int)(en i:Nat)(r:Int)(H1:Hp):L2.St->Hp->Prop:=λσ H'=>∃a b:Nat,σ=[some (.ref t),some (.int m),some (.int en),some (.ref lw),some (.int (i:Nat)),some (.int (a:Nat)),some (.int (b:Nat)),some (.int r)]/\a≤b/\b<24/\eI t H1 H'/\wL K H' t s
theorem qd:¬iN [] a b:=λh=>by
 cases h with
 |one h=>cases h
 |step h _=>cases h
theorem qN(h:iI ws [] f l)(hi:i<ws.length):f i=((ws.getD i bc).1:Int)/\l i=((ws.getD i bc).2.1:Int):=by
 obtain⟨j,_,z,e⟩:=h.a.att i hi;obtain⟨k,_,y,g⟩:=h.b.att i hi;rcases z with z|z
 ·rcases y with y|y
  ·rw[z] at e;rw[y] at g;have g':- l i=-((ws.getD i bc).2.1:Int):=g;exact⟨e,by omega⟩
  ·exact aad y qd
 ·exact aad z qd
theorem wD(ok:∀w∈ws,bH w)(f l:Nat->Int)(h:iI ws [] f l):jb ws.length f l=none:=sW λj hj=>by
 obtain⟨a,b⟩:=qN h hj;have:=(u6 ok hj).le;omega
theorem uH(h:iI ws [] f l):lC ws f l=ws:=by
 refine Vc λi=>?_
 by_cases hi:i<ws.length
 ·unfold lC;rw[Ql,Sk hi];obtain⟨a,b⟩:=qN h hi;show some ((f i).toNat,(l i).toNat,(ws.getD i bc).2.2)=_;rw[a,b,SI,SI,Qa,P5 hi];rfl
 ·rw[Ru (by rw[uI];omega),Ru (by omega)]
theorem fz(n:Nat):pA n []:=⟨λi=>i,λ_ h=>h,λ_ _ h=>by cases h⟩
theorem yu{z:Int}(h0:0≤z)(h:z≤768*⋯):z.natAbs<2^4000:=Rn (show z.natAbs≤768*⋯ by omega) (by decide)
def xf(_:P4)(C:Addr):Sp:=λvs H Q _=>∃(a:Addr) (v:V),vs=[.ref a,v]/\H a=some (jO a C none)/\∀d,H d=none->d≠a->Q .non (upd (upd H a (jO a C (some d))) d (dO d [("text",v)]))
def xg(_:P4)(C:Addr):Sp:=λvs H Q _=>∃(a:Addr) (v:V),vs=[.ref a,v]/\H a=some (jO a C none)/\∀d,H d=none->d≠a->Q .non (upd (upd H a (jO a C (some d))) d (dO d [("text",v)]))
def rC(K:P4):Sp:=λvs H Q _=>∃(v:V) (d:PyData),vs=[v]/\bD K H v d/\Q (.bl (gI d)) H
def mG(K:P4):Sp:=λvs H Q _=>∃(v:V) (d:PyData) (m:Nat),vs=[v,.int m]/\bD K H v d/\Q (.bl (pI m d)) H
def rD(K:P4):Sp:=λvs H Q _=>∃(v:V) (d:PyData),vs=[v]/\bD K H v d/\Q (.bl (kj d)) H
theorem iP(h:gI d=true):∃i,d=.int i:=by
 cases d with
 |int i=>exact⟨i,Z⟩
 |_=>cases h
theorem KB(h:gI x=false):kj (.tuple [x,y])=false:=by
 cases x with
 |int i=>cases h
 |_=>rfl
theorem KA(h:gI y=false):kj (.tuple [x,y])=false:=by
 cases y with
 |int i=>cases h
 |_=>cases x<;>rfl
def m8(m:Int):PyData->Bool
 | .int i=>decide (0≤i)&&decide (i<m)
 |_=>false
def eG:PyData->Bool
 | .tuple [.int a,.int b]=>(decide (1≤b)&&decide (Qz a b=1))&&decide (0<a)
 |_=>false
def MR:PyData->PyData->Bool
 | .int i,.int j=>decide (i≤j)
 |_,_=>false
def PN:PyData->PyData->Bool
 | .int i,.int j=>!decide (i=j)
 |_,_=>false
def lX:PyData->Bool
 | .tuple [a,b,c]=>m8 24 a&&(m8 24 b&&(MR a b&&eG c))
 |_=>false
def lh(K:P4):Sp:=λvs H Q _=>∃(v:V) (d:PyData) (m:Int),vs=[v,.int m]/\bD K H v d/\Q (.bl (m8 m d)) H
def iW(K:P4):Sp:=λvs H Q _=>∃(v:V) (d:PyData),vs=[v]/\bD K H v d/\Q (.bl (eG d)) H
def tZ(K:P4):Sp:=λvs H Q _=>∃(v:V) (d:PyData),vs=[v]/\bD K H v d/\Q (.bl (lX d)) H
theorem m7(h:m8 m d=true):∃i,d=.int i/\0≤i/\i<m:=by
 cases d with
 |int i=>
  have h':(decide (0≤i)&&decide (i<m))=true:=h;rw[QM,Z8,Z8] at h';exact⟨i,Z,h'⟩
 |_=>cases h
theorem Ex(h:gI d=false):m8 m d=false:=by
 cases d with
 |int i=>cases h
 |_=>rfl
theorem AI(h:kj d=true):∃i j,d=.tuple [.int i,.int j]:=by
 unfold kj at h
 split at h
 ·exact⟨_,_,Z⟩
 ·cases h
theorem yx(h:kj d=false):eG d=false:=by
 cases c:eG d with
 |false=>rfl
 |true=>
  unfold eG at c
  split at c
  ·rename_i a b;rw[QM] at c;have h':(decide (1≤b)&&decide (Qz a b=1))=false:=h;rw[h'] at c
   cases c.1
  ·cases c
theorem uT(h:kj (.tuple [.int i,.int j])=true):eG (.tuple [.int i,.int j])=decide (0<i):=by
 show((decide (1≤j)&&decide (Qz i j=1))&&decide (0<i))=_;have h':(decide (1≤j)&&decide (Qz i j=1))=true:=h;rw[h',TJ]
theorem bD.three{K:P4}{H:Hp}{v:V}{d:PyData}(h:bD K H v d)(c:pI 3 d=true):∃a x y z dx dy dz,v=.ref a/\d=.tuple [dx,dy,dz]/\bF K H a [x,y,z]/\bD K H x dx/\bD K H y dy/\bD K H z dz:=by
 cases h with
 |tup e t=>
  have l:=aab (show decide (_=3)=true from c)
  cases t with
  |nil=>cases l
  |cons a t=>
   cases t with
   |nil=>cases l
   |cons b t=>
    cases t with
    |nil=>cases l
    |cons c' t=>
     cases t with
     |nil=>exact⟨_,_,_,_,_,_,_,Z,Z,e,a,b,c'⟩
     |cons _ _=>simp at l
 |_=>cases c
theorem yK(h:pI 3 d=false):lX d=false:=by
 cases c:lX d with
 |false=>rfl
 |true=>
  unfold lX at c
  split at c
  ·cases h
  ·cases c
def rh(_:P4):Sp:=λvs H Q _=>∃a b:Int,vs=[.int a,.int b]/\0<b/\b.natAbs<2^4000/\qo H Q (fo a b)
structure fm(H:Hp)(t l:Addr):Prop where
 ex:∃(ns:List Int) (p:Int),H t=some (.lst [.ref l,.int p])/\H l=some (.lst (ns.map V.int))/\l≠t/\0<ns.length/\ns.length≤1000
theorem fm.lst(h:fm H t l):∃xs,H t=some (.lst xs):=let ⟨_,_,e,_⟩:=h.ex;⟨_,e⟩
theorem fm.lst'(h:fm H t l):∃xs,H l=some (.lst xs):=let ⟨_,_,_,e,_⟩:=h.ex;⟨_,e⟩
theorem fm.same(h:fm H t l)(s:aH H H'):fm H' t l:=let ⟨ns,p,a,b,c⟩:=h.ex;⟨ns,p,s _ _ a,s _ _ b,c⟩
def rc(_:P4):Sp:=λvs H Q _=>∃(t l:Addr) (m:Int),vs=[.ref t,.int m]/\fm H t l/\0<m/\m<1073741824/\∀(r:Int) (xs:List V),0≤r->r<m->fm (upd H t (.lst xs)) t l->Q (.int r) (upd H t (.lst xs))
def mF(K:P4):Sp:=λvs H Q _=>∃(a:Addr) (ns:List Int) (k:Nat),vs=[.ref a,.int k]/\aX K H a (ns.map V.int)/\∀z:Int,Q (.int z) H
def pR(_:P4):Sp:=λvs H Q _=>∃(c:Int) (m:Nat),vs=[.int c,.int m]/\0<m/\m≤1000/\∀(l:Addr) (ns:List Int) (H':Hp),aH H H'->H l=none->H' l=some (.lst (ns.map V.int))->ns.length=m->Q (.ref l) H'
theorem i9(ok:∀w∈ws,bH w)(w8:ws.length≤20)(h:ig ws (P6 24) lys):tK ws [] (c8 ws [] (aV ws lys)).2:=by
 obtain⟨f,l,win⟩:=iI.ex ws [];have e:=uH win;have:=Cl (lys:=lys) ok w8 Z (fz _) win (wD ok f l win) (by rw[e];exact h);rw[e] at this;exact this
structure dY where
 tn:Nat
 kn:List Wk
 rs:List R
 dn:List (List Pc)
def Cb(t:Nat)(lk lr ld:Addr):List (QX×V):=[("turn",.int t),("known",.ref lk),("rest",.ref lr),("done",.ref ld)]
structure oo(K:P4)(C:Addr)(H:Hp)(a lk lr ld:Addr)(s:dY):Prop where
 ins:∃dx,H a=some (.ins C dx (Cb s.tn lk lr ld))
 hk:∃xs,H lk=some (.lst xs)/\b8 (tf K H) xs s.kn
 hr:∃xs,H lr=some (.lst xs)/\b8 (RV K H) xs s.rs
 hd:∃xs,H ld=some (.lst xs)/\b8 (nV K H) xs s.dn
 n1:lk≠lr
 n2:lk≠ld
 n3:lr≠ld
theorem oo.same{K:P4}{C:Addr}{H H':Hp}{a lk lr ld:Addr}{s:dY}(h:oo K C H a lk lr ld s)(z:aH H H'):oo K C H' a lk lr ld s:=by
 obtain⟨dx,i⟩:=h.ins;obtain⟨x,k1,k2⟩:=h.hk;obtain⟨y,r1,r2⟩:=h.hr;obtain⟨u,d1,d2⟩:=h.hd;have t:=aK.same (K:=K) z;exact⟨⟨dx,z _ _ i⟩,⟨x,z _ _ k1,k2.mono λ_ _ q=>q.mono t⟩,⟨y,z _ _ r1,r2.mono λ_ _ q=>q.mono t⟩,⟨u,z _ _ d1,d2.mono λ_ _ q=>q.mono t⟩,h.n1,h.n2,h.n3⟩
def C7(a lk lr ld:Addr)(H H':Hp):Prop:=∀b o,b≠a->b≠lk->b≠lr->b≠ld->H b=some o->H' b=some o
theorem oo.tst{K:P4}{C:Addr}{H H':Hp}{a lk lr ld:Addr}{s:dY}(h:oo K C H a lk lr ld s)(z:C7 a lk lr ld H H'):aK K H H':=by
 obtain⟨dx,i⟩:=h.ins;obtain⟨x,k1,_⟩:=h.hk;obtain⟨y,r1,_⟩:=h.hr;obtain⟨u,d1,_⟩:=h.hd;intro p xs q;rcases q with(q | ⟨o,q⟩)|q
 ·exact .inl (.inl (z _ _ (λe=>by subst e;rw[q] at i;cases i) (λe=>by subst e;rw[q] at k1;cases k1) (λe=>by subst e;rw[q] at r1;cases r1) (λe=>by subst e;rw[q] at d1;cases d1) q))
 ·exact .inl (.inr ⟨o,z _ _ (λe=>by subst e;rw[q] at i;cases i) (λe=>by subst e;rw[q] at k1;cases k1) (λe=>by subst e;rw[q] at r1;cases r1) (λe=>by subst e;rw[q] at d1;cases d1) q⟩)
 ·exact .inr q
def Fn(K:P4)(H:Hp)(v:V)(pl:List (List Pc)):Prop:=∃p xs,v=.ref p/\bF K H p xs/\b8 (nV K H) xs pl
def mI(K:P4)(C:Addr):Sp:=λvs H Q _=>∃(x dx:Addr),vs=[.ref x]/\H x=some (.ins C dx [])/\∀(lk lr ld:Addr) (H':Hp),(∀b o,b≠x->H b=some o->H' b=some o)->H lk=none->H lr=none->H ld=none->oo K C H' x lk lr ld ⟨0,[],[],[]⟩->Q .non H'
def C0(K:P4)(C:Addr):Sp:=λvs H Q _=>∃(a lk lr ld:Addr) (s:dY),vs=[.ref a]/\oo K C H a lk lr ld s/\Q (.int s.tn) H
def yG(K:P4)(C:Addr):Sp:=λvs H Q _=>∃(a lk lr ld:Addr) (s:dY),vs=[.ref a]/\oo K C H a lk lr ld s/\∀v H',aH H H'->fu K H' v s.kn->Q v H'
def zt(K:P4)(C:Addr):Sp:=λvs H Q _=>∃(a lk lr ld:Addr) (s:dY),vs=[.ref a]/\oo K C H a lk lr ld s/\∀v H',aH H H'->On K H' v s.rs->Q v H'
def zr(K:P4)(C:Addr):Sp:=λvs H Q _=>∃(a lk lr ld:Addr) (s:dY),vs=[.ref a]/\oo K C H a lk lr ld s/\∀v H',aH H H'->Fn K H' v s.dn->Q v H'
def kZ(s:dY)(dv du:PyData):Bool:=lX (.tuple [.int s.tn,dv,du])&&decide (s.kn.length<20)
def oY(s:dY)(l:Nat)(r:R):dY:=⟨s.tn,s.kn++[(s.tn,l,r)],s.rs++[r],s.dn⟩
def mJ(K:P4)(C Cw:Addr):Sp:=λvs H Q E=>∃(a lk lr ld:Addr) (s:dY) (v u:V) (dv du:PyData),vs=[.ref a,v,u]/\oo K C H a lk lr ld s/\s.kn.length≤20/\s.rs.length≤20/\bD K H v dv/\bD K H u du∧
 (kZ s dv du=false->∀d fs H',aH H H'->H' d=none->E (.ref Cw) (some d) (upd H' d (dO d fs)))/\(kZ s dv du=true->∀(l:Nat) (r:R) (H':Hp),dv=.int (l:Nat)->du=dR r->C7 a lk lr ld H H'->oo K C H' a lk lr ld (oY s l r)->Q (.int s.kn.length) H')
theorem Fb(h:lX (.tuple [.int (t:Nat),dv,du])=true):∃(l:Nat) (r:R),dv=.int (l:Nat)/\du=dR r/\t≤l/\l<24/\0<r.1/\gf r:=by
 have h':(m8 24 (.int (t:Nat))&&(m8 24 dv&&(MR (.int (t:Nat)) dv&&eG du)))=true:=h;rw[QM,QM,QM] at h';obtain⟨_,h2,h3,h4⟩:=h';obtain⟨i,rfl,i0,i1⟩:=m7 h2;obtain⟨l,rfl⟩:=Rz i0;have h3':=aab (show decide (((t:Nat):Int)≤(l:Nat))=true from h3);unfold eG at h4
 split at h4
 ·rename_i x y;rw[QM,QM,Z8,Z8,Z8] at h4;exact⟨l,(x,y),Z,Z,by omega,by omega,h4.2,by show(0:Int)<y;omega,h4.1.2⟩
 ·cases h4
def aS(rs:List R):List Nat:=(P6 rs.length).filter λi=>decide (rs.getD i (0,1)≠(0,1))
def cO(kn:List Wk)(rs:List R)(t:Nat):List Wk:=(aS rs).map λi=>(t,(kn.getD i bc).2.1,rs.getD i (0,1))
def j9(K:P4):Sp:=λvs H Q _=>∃(a b:Addr) (xs ys:List V) (kn:List Wk) (rs:List R) (t:Nat),vs=[.ref a,.ref b,.int (t:Nat)]/\aX K H a xs/\b8 (tf K H) xs kn/\aX K H b ys/\b8 (RV K H) ys rs/\rs.length=kn.length/\rs.length≤20/\∀(p l:Addr) (u:V) (H':Hp),aH H H'->bF K H' p [u,.ref l]->fu K H' u (cO kn rs t)->H' l=some (.lst (bt (aS rs)))->Q (.ref p) H'
def bJ(ns:List Nat)(q:List Pc):List Pc:=q.map λc=>(ns.getD c.1 0,c.2)
def nX(K:P4):Sp:=λvs H Q _=>∃(u:V) (l:Addr) (q:List Pc) (ns:List Nat),vs=[u,.ref l]/\nV K H u q/\aX K H l (bt ns)/\(∀c∈q,c.1<ns.length)/\q.length≤64/\∀(v:V) (H':Hp),aH H H'->nV K H' v (bJ ns q)->Q v H'
theorem ui{α:Type}{f:α->Rat}:∀{l:List α},(∀x∈l,0≤f x)->∀{x:α},x∈l->f x≤sQ f l
 |y::l,h,x,hx=>by
  show f x≤f y+sQ f l;have h0:=h y Qd;have hl:=mR (f:=f) (l:=l) λz hz=>h z (Qe _ hz)
  rcases Qm.mp hx with rfl|z
  ·grind
  ·have:=ui (λz hz=>h z (Qe _ hz)) z;grind
theorem qj(hk:k<(pl.getD t []).length):cH pl t k=(pl.getD t [])[k]:=ay _ (P5 hk)
theorem tK.mem(pr:tK ws es pl)(ht:t<24)(hc:c∈pl.getD t []):c.1<ws.length/\dW c.2/\0<val c.2/\fD (ws.getD c.1 bc) t=true:=by
 obtain⟨k,hk,e⟩:=Rt.mp hc;have:=pr.pc t k ht hk;rw[qj hk,e] at this;exact this
theorem tK.nodup(pr:tK ws es pl)(ht:t<24):((pl.getD t []).map (·.1)).Nodup:=by
 unfold Q7;rw[So,RH];intro i j hi hj hij;have:=pr.nd t i j ht hij hj;rw[qj hi,qj hj] at this;exact this
def C3(pl:List (List Pc))(i u:Nat):Rat:=sQ (λc:Pc=>cj (decide (c.1=i)) (val c.2)) (pl.getD u [])
theorem tK.sum{ws:List Wk}{es:List Ln}{pl:List (List Pc)}(pr:tK ws es pl)(i:Nat):∀t,t≤24->0<(yH pl i t).2/\val (yH pl i t)=sQ (C3 pl i) (P6 t)
 |0,_=>⟨by show(0:Int)<1;decide,by show val (0,1)=0;exact(eY (r:=(0,1)) (by decide)).mpr Z⟩
 |t+1,h=>by
  obtain⟨p,e⟩:=tK.sum pr i t (by omega);obtain⟨p2,e2⟩:=lS (pl:=pl) (t:=t) (i:=i) p (pl.getD t []).length λj hj=>(pr.pc t j (by omega) hj).2.1.bq.pos
  refine⟨p2,?_⟩;rw[Rr,eh];show val (uJ pl t i (yH pl i t) (pl.getD t []).length)=_+(C3 pl i t+0);rw[e2,e];unfold C3;rw[jq (0,(0,1)) (pl.getD t [])];unfold cH;grind
theorem tK.pt_nn(pr:tK ws es pl)(hu:u<24):0≤C3 pl i u:=mR λc hc=>eV _ (R7 (pr.mem hu hc).2.2.1)
theorem tK.most(pr:tK ws es pl)(ht:t<24)(hc:c∈pl.getD t []):val c.2≤lV (ws.getD c.1 bc):=by
 have m:=pr.mem ht hc;have e:=(pr.sum c.1 24 (P7 _)).2;rw[pr.fin c.1 m.1] at e;unfold lV;rw[e];have h1:val c.2≤C3 pl c.1 t:=by
  have:=ui (f:=λx:Pc=>cj (decide (x.1=c.1)) (val x.2)) (λx hx=>eV _ (R7 (pr.mem ht hx).2.2.1)) hc;rw[Q9 Z,di] at this;exact this
 exact VL h1 (ui (λu hu=>pr.pt_nn (Qi.mp hu)) (Qi.mpr ht))
theorem tK.all(pr:tK ws es pl)(ok:∀w∈ws,bH w)(ht:t<24)(hi:i<ws.length)(h1:(ws.getD i bc).1=t)(h2:(ws.getD i bc).2.1=t):∃c∈pl.getD t [],c.1=i/\c.2=(ws.getD i bc).2.2:=by
 have wo:=ok _ (Qx hi);have ew:ws.getD i bc=ws[i]:=ay bc (P5 hi);have e:=(pr.sum i 24 (P7 _)).2;rw[pr.fin i hi] at e;have z:∀u∈P6 24,C3 pl i u=if u=t then C3 pl i t else 0:=λu hu=>by
  by_cases c:u=t
  ·rw[Z9 c,c]
  ·rw[aaa c];have:∀x∈pl.getD u [],cj (decide (x.1=i)) (val x.2)=0:=λx hx=>by
    have m:=pr.mem (Qi.mp hu) hx;by_cases d:x.1=i
    ·exfalso;have w:=m.2.2.2;rw[d] at w;unfold fD at w;rw[QM,Z8,Z8] at w;omega
    ·rw[Sy d,ck]
   unfold C3;rw[aI (g:=λ_=>(0:Rat)) this];have:=df (0:Rat) (f:=λ_:Pc=>(0:Rat)) (pl.getD u []);grind
 rw[aI z,AB ht] at e;have pa:0<val (ws.getD i bc).2.2:=by rw[ew];exact uQ wo
 rcases p9 (q:=pl.getD t []) (i:=i) (f:=λp=>val p.2) (pr.nodup ht) with y | ⟨c,hc,ei,y⟩
 ·exfalso;unfold C3 at e;rw[y] at e;rw[e] at pa;exact aad pa (by decide)
 ·refine⟨c,hc,ei,?_⟩;unfold C3 at e;rw[y] at e;exact fS (pr.mem ht hc).2.1.red (by rw[ew];exact⟨by have:=wo.am.bot;omega,wo.am.wf.cop⟩) e.symm
def BD(D:Nat)(r:R):Prop:=gf r/\r.2∣(D:Int)
theorem BD.bq(h:BD D r):Bq D r.1.natAbs r:=⟨h.1.pos,h.1.cop,h.2,UY _ (by have:=h.1.pos;omega)⟩
theorem wC(h:Bq D N r):BD D r:=⟨h.red,h.dvd⟩
theorem BD.minus(hD:0<D)(a:BD D x)(b:BD D y):BD D (bn x y):=wC (Bq.minus hD a.bq b.bq)
theorem BD.les(a:BD D x)(b:BD D y):BD D (dF x y):=by
 unfold dF
 split
 ·exact b
 ·exact a
theorem BD.zero(D:Nat):BD D (0,1):=⟨⟨by decide,by decide⟩,⟨(D:Int),by show(D:Int)=1*D;omega⟩⟩
theorem BD.mono(h:BD D r)(d:D∣D'):BD D' r:=⟨h.1,UI h.2 (Sa.mpr d)⟩
structure DB(D:Nat)(st:tN):Prop where
 lf:∀r∈st.1,BD D r
 rm:BD D st.2.1
 pc:∀p∈st.2.2,BD D p.2
theorem vZ{l:List R}(h:∀r∈l,BD D r)(i:Nat):BD D (l.getD i (0,1)):=by
 rw[Qa]
 cases e:l[i]? with
 |none=>exact BD.zero D
 |some r=>exact h r (Qf e)
theorem DB.step{D:Nat}{ws:List Wk}{t i:Nat}{st:tN}(hD:0<D)(h:DB D st):DB D (bU ws t st i):=by
 unfold bU
 split
 ·have a:=vZ h.lf i;have la:=a.les h.rm;refine⟨λr hr=>?_,h.rm.minus hD la,λp hp=>?_⟩
  ·rcases SS hr with z|z
   ·exact h.lf r z
   ·rw[z];exact a.minus hD la
  ·rcases QP.mp hp with z|z
   ·exact h.pc p z
   ·rw[Qj.mp z];exact la
 ·exact h
theorem DB.fold{D:Nat}{ws:List Wk}{t:Nat}(hD:0<D):∀{ord:List Nat} {st:tN},DB D st->DB D (ord.foldl (bU ws t) st)
 | [],st,h=>h
 |i::ord,st,h=>(h.step hD).fold hD (ord:=ord)
theorem vE{D:Nat}{ws:List Wk}{ord:List Nat}{ss:List R}(hD:0<D)(hw:∀w∈ws,BD D w.2.2)(hs:∀r∈ss,BD D r):∀t,(∀r∈(aR ws ord ss t).1,BD D r)/\∀q∈(aR ws ord ss t).2,∀x∈q,BD D x.2
 |0=>⟨λr hr=>by obtain⟨w,hw',rfl⟩:=Qg.mp hr;exact hw w hw',λq hq=>by cases hq⟩
 |t+1=>by
  obtain⟨h1,h2⟩:=vE (ord:=ord) hD hw hs t;have d:=DB.fold (ws:=ws) (t:=t) (ord:=ord) (st:=((aR ws ord ss t).1,ss.getD t (0,1),[])) hD ⟨h1,vZ hs t,λp hp=>by cases hp⟩;refine⟨d.lf,λq hq=>?_⟩;rcases QP.mp (show q∈(aR ws ord ss t).2++[_] from hq) with z|z
  ·exact h2 q z
  ·rw[Qj.mp z];exact d.pc
theorem F0:∀m,m<25->0<m->m∣5354228880:=by decide
theorem Gv(hd:0<d)(hw:∀w∈ws,Bq d 12 w.2.2)(lok:kN ws.length y):BD (d*5354228880) (dj ws y):=by
 have am:∀r∈ic ws y,Bq d 12 r:=λr hr=>by
  obtain⟨i,hi,rfl⟩:=Qg.mp hr;have hl:=lok.num i hi;rw[ay bc (P5 hl)];exact hw _ (Qx hl)
 have pos:=lok.pos;have few:=lok.few;have o:Bq y.1.length 1 ((1,(y.1.length:Int)):R):=⟨by show(0:Int)<_;omega,by simp,W4 _,by show(1:Int).natAbs≤1*((y.1.length:Int)).natAbs;omega⟩;exact(wC ((gL hd am).times o)).mono (Us _ (F0 _ (by omega) pos))
theorem zj{d:Nat}{ws:List Wk}(hd:0<d)(hw:∀w∈ws,Bq d 12 w.2.2):∀{lys:List Ly} {ss:List R},(∀y∈lys,kN ws.length y)->(∀r∈ss,BD (d*5354228880) r)->∀r∈lys.foldl (λss y=>iF (dj ws y) ss y.1) ss,BD (d*5354228880) r
 | [],ss,_,h=>h
 |y::lys,ss,hl,h=>by
  refine zj (lys:=lys) hd hw (λz hz=>hl z (Qe _ hz)) ?_;have sp:=Gv hd hw (hl y Qd);have go:∀(ts:List Nat) (ss:List R),(∀r∈ss,BD (d*5354228880) r)->∀r∈iF (dj ws y) ss ts,BD (d*5354228880) r:=by
   intro ts
   induction ts with
   |nil=>intro ss h;exact h
   |cons t ts ih=>
    intro ss h;refine ih (ss.set t (dj ws y)) λr hr=>?_
    rcases SS hr with z|z
    ·exact h r z
    ·rw[z];exact sp
  exact go y.1 ss h
theorem E8(hd:0<d)(hw:∀w∈ws,Bq d 12 w.2.2)(h:ig ws (P6 24) lys):∀q∈(c8 ws [] (aV ws lys)).2,∀x∈q,BD (d*5354228880) x.2:=by
 have ly:=kA h (by rw[QN];exact P7 _) (λt ht=>Qi.mp ht);have sp:=zj (ss:=Qn 24 (0,1)) hd hw ly λr hr=>by rw[(List.mem_replicate.mp hr).2];exact BD.zero _
 exact(vE (ord:=aJ ws [] ws.length) (ss:=aV ws lys) (XB hd (by decide)) (λw hw'=>(wC (hw w hw')).mono (Wh _ _)) sp 24).2
theorem lH(ok:∀w∈ws,bH w)(h:wO ws ls p):0<val (dj ws (gF ws ls p)):=by
 have e:=im ok (iA h);have lp:=fP (iA h);have l:=qt ok ls p;have q:(0:Rat)<((dr (ws.map (bI ls)) (gZ (cE ws)) p:Int):Rat):=RC.mpr h.2;rw[l,←e] at q;generalize val (dj ws (gF ws ls p))=d at *;generalize (bK p:Rat)=l at *;by_cases z:d≤0
 ·exfalso;have:=SX z (R7 lp);grind
 ·exact V6.mp z
theorem Du(ok:∀w∈ws,bH w)(h:ig ws ls lys)(hw:w∈ws)(iw:fD w u=true):u∈ls->0<iX ws lys u:=by
 induction h with
 |nil z=>
  intro hu;exact aad (fK.mpr ⟨u,hu,iw⟩) (Td.mp z w hw)
 | @cons ls p r hp tl ih=>
  intro hu;rw[g4]
  cases c:(gF ws ls p).1.contains u with
  |true=>exact lH ok hp
  |false=>
   refine ih ?_;unfold dI;exact Qp.mpr ⟨hu,by rw[show(dQ ls p).contains u=false from c];rfl⟩
theorem yf(ok:∀w∈ws,bH w)(w20:ws.length≤20)(h:ig ws (P6 24) lys)(ht:t<24)(hw:w∈ws)(iw:fD w t=true):(c8 ws [] (aV ws lys)).2.getD t []≠[]:=by
 intro e;have lok:=kA h (by rw[QN];exact P7 _) (λt ht=>Qi.mp ht);have z:=yP (es:=[]) ok (fz _) h (j8 ok w20 lok) ht;have p:=Du ok h hw iw (Qi.mpr ht);have g:∀n,t<n->(aR ws (aJ ws [] ws.length) (aV ws lys) n).2.getD t []=(dH ws (aJ ws [] ws.length) t (aR ws (aJ ws [] ws.length) (aV ws lys) t).1 ((aV ws lys).getD t (0,1))).2.2:=by
  intro n
  induction n with
  |zero=>intro z;omega
  |succ n ih=>
   intro hn;have ln:=(eW (ord:=aJ ws [] ws.length) (ss:=aV ws lys) ok (dE (es:=[]) (fz _) ws.length (P7 _)).lt (j8 ok w20 lok) n).2;show((aR ws (aJ ws [] ws.length) (aV ws lys) n).2++[_]).getD t []=_;by_cases c:t<n
   ·rw[Qa,RB (by omega),←Qa];exact ih c
   ·have:t=n:=by omega
    subst this;rw[Qa,RG (by omega),ln,Vb];rfl
 rw[←g 24 ht] at z;unfold c8 at e;rw[e] at z;have z':(0:Rat)=iX ws lys t:=z;rw[←z'] at p;exact aad p (by decide)
def DK(t:Nat):Nat:=84*5354228880^t
theorem u3(t:Nat):0<DK t:=XB (by decide) (Zf (by decide))
theorem qL(t:Nat):DK (t+1)=DK t*5354228880:=by unfold DK;rw[Nat.pow_succ,X0]
theorem CY(h:t≤23):DK t∣⋯:=by
 rw[show ⋯=84*5354228880^23 by decide];exact Us 84 (Zo _ h)
theorem lW(h:t≤24):DK t∣decl_name%:=by
 rw[show decl_name%=84*5354228880^24 by decide];exact Us 84 (Zo _ h)
structure CU(s:dY):Prop where
 t24:s.tn≤24
 len:s.rs.length=s.kn.length
 few:s.kn.length≤20
 dl:s.dn.length=s.tn
 kn:∀w∈s.kn,w.1<24/\w.2.1<24/\Bq 84 12 w.2.2/\0≤w.2.2.1
 am:∀r∈s.rs,Bq (DK s.tn) 12 r/\0≤r.1
 due:∀i,i<s.kn.length->s.rs.getD i (0,1)≠(0,1)->s.tn≤(s.kn.getD i bc).2.1
 pcs:∀q∈s.dn,q.length≤20/\∀c∈q,c.1<20/\dW c.2
theorem io(h:gf r)(nn:0≤r.1)(nz:r≠(0,1)):1≤r.1:=by
 by_cases z:r.1=0
 ·exfalso;apply nz;have g:=h.cop;have p:=h.pos;rw[z,Int.gcd_zero_left] at g;exact ZB z (by show r.2=1;omega)
 ·omega
theorem eB:i∈aS rs↔i<rs.length/\rs.getD i (0,1)≠(0,1):=by
 unfold aS;rw[Qp,Qi,Z8]
theorem vM(rs:List R):(aS rs).Nodup:=RE _ Tn
theorem u9(hj:j<(aS rs).length):(cO kn rs t).getD j bc=(t,(kn.getD (aS rs)[j] bc).2.1,rs.getD (aS rs)[j] (0,1)):=ay bc (by unfold cO;rw[Ql,P5 hj];rfl)
theorem lY(kn:List Wk)(rs:List R)(t:Nat):(cO kn rs t).length=(aS rs).length:=P8 _
theorem jC(rs:List R):(aS rs).length≤rs.length:=by
 unfold aS;exact QU (Q5 _ _) (by rw[QN];exact P7 _)
theorem fj{l:List R}(hi:i<l.length):l.getD i (0,1)∈l:=by
 rw[ay (0,1) (P5 hi)];exact Qx hi
theorem jd(o:CU s)(ht:s.tn<24):∀w∈cO s.kn s.rs s.tn,bH w/\w.1=s.tn/\Bq (DK s.tn) 12 w.2.2:=λw hw=>by
 obtain⟨i,hi,rfl⟩:=Qg.mp hw;obtain⟨h1,h2⟩:=eB.mp hi;have a:=o.am _ (fj h1);have l:=o.due i (by rw[←o.len];exact h1) h2;have hk:i<s.kn.length:=by rw[←o.len];exact h1
 have k:=o.kn (s.kn.getD i bc) (by rw[ay bc (P5 hk)];exact Qx hk);have b:=a.1.pos;have le:=a.1.le;refine⟨⟨l,k.2.1,io a.1.red a.2 h2,?_,by show 1≤(s.rs.getD i (0,1)).2;omega,UI a.1.dvd (Sa.mpr (CY (by omega))),(a.1.mono (CY (by omega)) (P7 _)).wf (by decide) (by decide) (by decide)⟩,Z,a.1⟩;show(s.rs.getD i (0,1)).1≤12*(s.rs.getD i (0,1)).2;have:=a.2;omega
def f6(rs:List R)(q:List Pc):List R:=q.foldl (λl c=>l.set c.1 (bn (l.getD c.1 (0,1)) c.2)) rs
theorem jk:∀(q:List Pc) (rs:List R),(f6 rs q).length=rs.length
 | [],_=>rfl
 |c::q,rs=>by
  show(f6 (rs.set c.1 _) q).length=_;rw[jk q,Sf]
theorem gM{i:Nat}:∀(q:List Pc) (rs:List R),i∉q.map (·.1)->(f6 rs q).getD i (0,1)=rs.getD i (0,1)
 | [],_,_=>rfl
 |c::q,rs,h=>by
  rw[Q1,Qm,not_or] at h;show(f6 (rs.set c.1 _) q).getD i (0,1)=_;rw[gM q _ h.2,Qa,RJ (λz=>h.1 z.symm),←Qa]
theorem pN{x:Pc}:∀(q:List Pc) (rs:List R),(q.map (·.1)).Nodup->x∈q->x.1<rs.length->(f6 rs q).getD x.1 (0,1)=bn (rs.getD x.1 (0,1)) x.2
 |c::q,rs,nd,hx,hl=>by
  rw[Q1,Rq] at nd;show(f6 (rs.set c.1 _) q).getD x.1 (0,1)=_;rcases Qm.mp hx with rfl|z
  ·rw[gM q _ nd.1];exact ay _ (by rw[Te hl])
  ·have ne:c.1≠x.1:=λe=>nd.1 (by rw[e];exact Qg.mpr ⟨x,z,Z⟩)
   rw[pN q _ nd.2 z (by rw[Sf];exact hl)]
   congr 1
   rw[Qa,RJ ne,←Qa]
theorem AG(nn:ns.Nodup)(hl:∀c∈q,c.1<ns.length)(nd:(q.map (·.1)).Nodup):((bJ ns q).map (·.1)).Nodup:=by
 unfold bJ;rw[R6];unfold Q7 at nd ⊢;rw[So] at nd ⊢;refine nd.imp_of_mem λ{a b} ha hb ne e=>ne ?_
 have e':ns.getD a.1 0=ns.getD b.1 0:=e;rw[ay 0 (P5 (hl a ha)),ay 0 (P5 (hl b hb))] at e';exact(TM nn).mp e'
theorem Gq(hD:0<D)(hx:Bq D 12 x)(nx:0≤x.1)(hc:BD D c)(le:val c≤val x)(nc:0≤val c):Bq D 12 (bn x c)/\0≤(bn x c).1:=by
 have b:=BD.minus hD (wC hx) hc;have ev:val (bn x c)=val x-val c:=d8 hx.pos hc.1.pos;have nn:0≤(bn x c).1:=(fY b.1.pos).mp (by rw[ev];grind);refine⟨⟨b.1.pos,b.1.cop,b.2,(qw b.1.pos nn).mpr ?_⟩,nn⟩;have:=(qw hx.pos nx).mp hx.le;rw[ev];grind
theorem sub_self(h:gf x):bn x x=(0,1):=by
 have b:=BD.minus (D:=x.2.natAbs) (by have:=h.pos;omega) (x:=x) (y:=x) ⟨h,by have:=h.pos;exact⟨1,by omega⟩⟩ ⟨h,by have:=h.pos;exact⟨1,by omega⟩⟩;refine fS b.1 ⟨by decide,by decide⟩ ?_;rw[d8 h.pos h.pos,(eY (r:=(0,1)) (by decide)).mpr Z];grind
def Lo(s:dY)(q:List Pc):dY:=⟨s.tn+1,s.kn,f6 s.rs q,s.dn++[q]⟩
structure LQ(s:dY)(q0:List Pc):Prop where
 ok:CU (Lo s (bJ (aS s.rs) q0))
 lt:∀c∈q0,c.1<(aS s.rs).length
 nil:q0=[]↔∀r∈s.rs,r=(0,1)
 nd:((bJ (aS s.rs) q0).map (·.1)).Nodup
 pc:∀x∈bJ (aS s.rs) q0,x.1<s.rs.length/\dW x.2
 few:q0.length≤20
theorem Jl(o:CU s)(ht:s.tn<24)(h:ig (cO s.kn s.rs s.tn) (P6 24) lys):LQ s ((c8 (cO s.kn s.rs s.tn) [] (aV (cO s.kn s.rs s.tn) lys)).2.getD s.tn []):=by
 have wok:=jd o ht;have ok:∀w∈cO s.kn s.rs s.tn,bH w:=λw hw=>(wok w hw).1
 have wl:=lY s.kn s.rs s.tn;have w20:(cO s.kn s.rs s.tn).length≤20:=by
  have:=jC s.rs;have:=o.len;have:=o.few;omega
 have pr:=i9 ok w20 h;have bd:=E8 (u3 s.tn) (λw hw=>(wok w hw).2.2) h;have some_:=λ(w:Wk) hw iw=>yf ok w20 h ht (w:=w) hw iw
 generalize (c8 (cO s.kn s.rs s.tn) [] (aV (cO s.kn s.rs s.tn) lys)).2=pl at pr bd some_ ⊢;have bq:∀c∈pl.getD s.tn [],BD (DK (s.tn+1)) c.2:=λc hc=>by
  rw[qL];refine bd (pl.getD s.tn []) ?_ c hc;rw[ay [] (P5 (show s.tn<pl.length by rw[pr.len];exact ht))];exact Qx _
 have M:=λ(c:Pc) hc=>pr.mem (c:=c) ht hc
 have lt:∀c∈pl.getD s.tn [],c.1<(aS s.rs).length:=λc hc=>by rw[←wl];exact(M c hc).1
 have mo:=λ(c:Pc) hc=>pr.most (c:=c) ht hc
 have al:=λ(i:Nat) hi h1 h2=>pr.all (i:=i) ok ht hi h1 h2
 have nq:=pr.nodup ht;have few:=pr.few s.tn;generalize pl.getD s.tn []=q0 at bq M lt mo al nq few some_ ⊢;have nr:=AG (vM s.rs) lt nq;have num:∀c∈q0,(aS s.rs).getD c.1 0∈aS s.rs:=λc hc=>by
  rw[ay 0 (P5 (lt c hc))];exact Qx _
 have am:∀c∈q0,val c.2≤val (s.rs.getD ((aS s.rs).getD c.1 0) (0,1)):=λc hc=>by
  have:=mo c hc;unfold lV at this;rw[u9 (lt c hc)] at this;rw[ay 0 (P5 (lt c hc))];exact this
 refine⟨⟨by show s.tn+1≤24;omega,(jk _ _).trans o.len,o.few,by show(s.dn++[_]).length=_;rw[QC,o.dl];rfl,o.kn,?_,?_,?_⟩,lt,?_,nr,(λx hx=>by
  obtain⟨c,hc,rfl⟩:=Qg.mp hx;exact⟨(eB.mp (num c hc)).1,(M c hc).2.1⟩),few⟩
 ·intro r hr;have hr':r∈f6 s.rs (bJ (aS s.rs) q0):=hr;obtain⟨i,hi,rfl⟩:=Rt.mp hr';have hi':i<s.rs.length:=by rw[←jk (bJ (aS s.rs) q0)];exact hi
  have eg:(f6 s.rs (bJ (aS s.rs) q0)).getD i (0,1)=(f6 s.rs (bJ (aS s.rs) q0))[i]:=ay _ (P5 hi);show Bq (DK (s.tn+1)) 12 _/\_;rw[←eg];have a:=o.am _ (fj hi');have a1:=a.1.mono (show DK s.tn∣DK (s.tn+1) by rw[qL];exact Wh _ _) (P7 _);by_cases m:i∈(bJ (aS s.rs) q0).map (·.1)
  ·obtain⟨x,hx,rfl⟩:=Qg.mp m;rw[pN _ _ nr hx hi'];obtain⟨c,hc,rfl⟩:=Qg.mp hx;exact Gq (u3 _) a1 a.2 (bq c hc) (am c hc) (R7 (M c hc).2.2.1)
  ·rw[gM _ _ m];exact⟨a1,a.2⟩
 ·intro i hi nz;have hi':i<s.rs.length:=by rw[o.len];exact hi
  have nz':(f6 s.rs (bJ (aS s.rs) q0)).getD i (0,1)≠(0,1):=nz;show s.tn+1≤(s.kn.getD i bc).2.1;have nz0:s.rs.getD i (0,1)≠(0,1):=λe=>by
   have m:i∉(bJ (aS s.rs) q0).map (·.1):=λm=>by
    obtain⟨x,hx,ei⟩:=Qg.mp m;obtain⟨c,hc,rfl⟩:=Qg.mp hx;exact(eB.mp (num c hc)).2 (by rw[show(aS s.rs).getD c.1 0=i from ei];exact e)
   rw[gM _ _ m] at nz';exact nz' e
  have d:=o.due i hi nz0;by_cases c0:(s.kn.getD i bc).2.1=s.tn
  ·exfalso;obtain⟨j,hj,ej⟩:=Rt.mp (eB.mpr ⟨hi',nz0⟩);have wj:=u9 (kn:=s.kn) (t:=s.tn) hj;obtain⟨c,hc,e1,e2⟩:=al j (by rw[wl];exact hj) (by rw[wj]) (by rw[wj,ej];exact c0);rw[wj] at e2;have ei:(aS s.rs).getD c.1 0=i:=by rw[e1,ay 0 (P5 hj)];exact ej
   have z:=pN (x:=((aS s.rs).getD c.1 0,c.2)) (bJ (aS s.rs) q0) s.rs nr (Qg.mpr ⟨c,hc,Z⟩) (by show(aS s.rs).getD c.1 0<_;rw[ei];exact hi');have z':(f6 s.rs (bJ (aS s.rs) q0)).getD ((aS s.rs).getD c.1 0) (0,1)=bn (s.rs.getD ((aS s.rs).getD c.1 0) (0,1)) c.2:=z;rw[ei,e2,ej] at z';rw[z'] at nz';exact nz' (sub_self (o.am _ (fj hi')).1.red)
  ·omega
 ·intro q hq;rcases QP.mp (show q∈s.dn++[bJ (aS s.rs) q0] from hq) with z|z
  ·exact o.pcs q z
  ·rw[Qj.mp z];refine⟨by unfold bJ;rw[P8];exact few,λx hx=>?_⟩;obtain⟨c,hc,rfl⟩:=Qg.mp hx;have:=(eB.mp (num c hc)).1;have:=o.len;have:=o.few;exact⟨by show(aS s.rs).getD c.1 0<20;omega,(M c hc).2.1⟩
 ·constructor
  ·intro e r hr;obtain⟨i,hi,rfl⟩:=Rt.mp hr;have eg:s.rs.getD i (0,1)=s.rs[i]:=ay _ (P5 hi);by_cases z:s.rs[i]=(0,1)
   ·exact z
   ·exfalso;have m:=eB.mpr ⟨hi,by rw[eg];exact z⟩;have mw:((s.tn,(s.kn.getD i bc).2.1,s.rs.getD i (0,1)):Wk)∈cO s.kn s.rs s.tn:=Qg.mpr ⟨i,m,Z⟩;have w:=(ok _ mw).le;refine some_ _ mw ?_ e;unfold fD;rw[Q9 (P7 _),Q9 w];rfl
  ·intro all
   cases hq:q0 with
   |nil=>rfl
   |cons c r=>
    exfalso;have hc:c∈q0:=by rw[hq];exact Qd
    obtain⟨h1,h2⟩:=eB.mp (num c hc);exact h2 (all _ (fj h1))
theorem pD(ok:bH w):bI (P6 24) w=some (w.1,w.2.1):=by
 have l:=ok.le;have l2:=ok.lt;have m:∀i,i∈gu (P6 24) w↔w.1≤i/\i≤w.2.1:=λi=>by
  rw[eX,QN];constructor
  ·rintro⟨h1,h2⟩;rw[ay 0 (show(P6 24)[i]?=some i from Sk h1)] at h2;unfold fD at h2;rw[QM,Z8,Z8] at h2;exact h2
  ·intro h;refine⟨by omega,?_⟩;rw[ay 0 (show(P6 24)[i]?=some i from Sk (by omega))];unfold fD;rw[Q9 h.1,Q9 h.2];rfl
 cases e:bI (P6 24) w with
 |none=>
  have:=fK (ls:=P6 24) (w:=w);rw[e] at this;have z:=this.mpr ⟨w.1,Qi.mpr (by omega),by unfold fD;rw[Q9 (P7 _),Q9 l];rfl⟩
  cases z
 |some p=>
  obtain⟨a,b⟩:=p;obtain⟨h1,h2,h3⟩:=ik e;have a1:=(m a).mp h1;have b1:=(m b).mp h2;have a2:=h3 w.1 ((m _).mpr ⟨P7 _,l⟩);have b2:=h3 w.2.1 ((m _).mpr ⟨l,P7 _⟩);rw[show a=w.1 by omega,show b=w.2.1 by omega]
def dV(ws:List Wk)(l:Nat):Rat:=sQ (λw=>cj (decide (w.2.1≤l)) (lV w)) ws
theorem kM(ok:∀w∈ws,bH w)(h1:∀w∈ws,w.1=t)(p:Pl):SM ws (P6 24) p=if p.1≤t then dV ws p.2 else 0:=by
 unfold SM dV;by_cases c:p.1≤t
 ·rw[Z9 c];refine aI λw hw=>?_
  rw[nH (pD (ok w hw)),h1 w hw,Q9 c,TJ]
 ·rw[aaa c];have e:sQ (λw=>cj (dS (P6 24) p w) (lV w)) ws=sQ (λ_=>(0:Rat)*0) ws:=aI λw hw=>by
   rw[nH (pD (ok w hw)),h1 w hw,Sy c,S2,ck];grind
  rw[e,df];grind
theorem wc(h:0<dV ws l):∃w∈ws,w.2.1≤l:=by
 apply RY;intro n;have e:dV ws l=sQ (λ_=>(0:Rat)*0) ws:=aI λw hw=>by
  rw[Sy λz=>n ⟨w,hw,z⟩,ck];grind
 rw[e,df] at h;grind
theorem vQ(a b:Nat)(h:a≤b):((bK (a,b):Int):Rat)=((b-a+1:Nat):Rat):=by
 have:bK (a,b)=((b-a+1:Nat):Int):=by unfold bK;show(b:Int)-a+1=_;omega
 rw[this,Rw]
theorem oW(ok:∀w∈ws,bH w)(h1:∀w∈ws,w.1=t)(h:wO ws (P6 24) p):p.1=t/\t≤p.2/\p.2<24/\0<dV ws p.2:=by
 have sc:=iA h;have s1:=sc.1;have s2:p.2<24:=by have:=sc.2;rw[QN] at this;exact this
 have pos:0<SM ws (P6 24) p:=by
  have e:=im ok sc;have d:=lH ok h;have l:=fP sc;rw[←e];exact Zc d l
 rw[kM ok h1] at pos;by_cases c:p.1≤t
 ·rw[Z9 c] at pos;obtain⟨w,hw,hl⟩:=wc pos;have wl:=(ok w hw).le;rw[h1 w hw] at wl;refine⟨?_,by omega,s2,pos⟩;by_cases d:p.1=t
  ·exact d
  ·exfalso;have q:=mh (r:=(t,p.2)) ok h ⟨by show t≤p.2;omega,by rw[QN];exact s2⟩;rw[kM ok h1,kM ok h1,Z9 c,Z9 (P7 _)] at q;have e1:((bK p:Int):Rat)=((bK (t,p.2):Int):Rat)+((t-p.1:Nat):Rat):=by
    rw[←Rw,←Vz]
    congr 1
    unfold bK;show(p.2:Int)-p.1+1=(p.2:Int)-t+1+_;omega
   have e2:(0:Rat)<((t-p.1:Nat):Rat):=by
    rw[←Rw];have:((0:Int):Rat)<(((t-p.1:Nat):Int):Rat):=RC.mpr (by omega);exact this
   rw[e1] at q;have e3:=Zc pos e2;generalize dV ws p.2=x at *;generalize ((t-p.1:Nat):Rat)=y at *;generalize ((bK (t,p.2):Int):Rat)=z at *;grind
 ·rw[aaa c] at pos;exact aad pos (by decide)
theorem Dm(ok:∀w∈ws,bH w)(h1:∀w∈ws,w.1=t)(h:wO ws (P6 24) p):(∀l,t≤l->l<24->dV ws l≤val (dj ws (gF ws (P6 24) p))*((l-t+1:Nat):Rat))/\∃w∈ws,dV ws w.2.1=val (dj ws (gF ws (P6 24) p))*((w.2.1-t+1:Nat):Rat):=by
 obtain⟨e1,le,lt,pos⟩:=oW ok h1 h;have sc:=iA h;have ev:=im ok sc;have lp:=fP sc;have d:=lH ok h;rw[kM ok h1,Z9 (by omega)] at ev;have up:∀l,t≤l->l<24->dV ws l≤val (dj ws (gF ws (P6 24) p))*((l-t+1:Nat):Rat):=λl a b=>by
  have q:=mh (r:=(t,l)) ok h ⟨a,by rw[QN];exact b⟩;rw[kM ok h1,kM ok h1,Z9 (show t≤t from P7 _),Z9 (show p.1≤t by omega),←ev,vQ t l a] at q;refine iy lp ?_;generalize val (dj ws (gF ws (P6 24) p))=x at *;generalize ((bK p:Int):Rat)=y at *;generalize ((l-t+1:Nat):Rat)=z at *;generalize dV ws (t,l).2=u at *;grind
 refine⟨up,?_⟩;obtain⟨w0,hw0,hl0⟩:=wc pos;obtain⟨l,hl,best⟩:=jH (λx=>24-x) ((ws.filter λw=>decide (w.2.1≤p.2)).map λw=>w.2.1) (Yj (Qg.mpr ⟨w0,Qp.mpr ⟨hw0,Q9 hl0⟩,Z⟩));obtain⟨w,hw,rfl⟩:=Qg.mp hl;obtain⟨hw,hd⟩:=Qp.mp hw;have wd:=aab hd;have wle:=(ok w hw).le;have wlt:=(ok w hw).lt;rw[h1 w hw] at wle;refine⟨w,hw,?_⟩;have ee:dV ws w.2.1=dV ws p.2:=aI λx hx=>by
  congr 1
  refine decide_eq_decide.mpr ⟨λz=>by omega,λz=>?_⟩;have:=best x.2.1 (Qg.mpr ⟨x,Qp.mpr ⟨hx,Q9 z⟩,Z⟩);have:=(ok x hx).lt;show x.2.1≤w.2.1;have b:24-w.2.1≤24-x.2.1:=by assumption
  omega
 have u:=up w.2.1 wle wlt;refine Zp u ?_;rw[ee,←ev];have lr:((bK p:Int):Rat)=((p.2-t+1:Nat):Rat):=by
  have:=vQ t p.2 le;rw[←this]
  congr 1
  unfold bK;show(p.2:Int)-p.1+1=(p.2:Int)-t+1;omega
 rw[lr];refine Rat.mul_le_mul_of_nonneg_left ?_ (R7 d);rw[←Rw,←Rw];exact Xf.mpr (by omega)
theorem Dv(ok:∀w∈ws,bH w)(h1:∀w∈ws,w.1=t)(h:wO ws (P6 24) p):iX ws (gF ws (P6 24) p:: r) t=val (dj ws (gF ws (P6 24) p)):=by
 obtain⟨e1,le,lt,_⟩:=oW ok h1 h;rw[g4,Z9];refine SU.mpr ?_;show t∈((P6 24).drop p.1).take (p.2+1-p.1);refine Qf (i:=0) ?_;rw[Wm (by omega),Yi,Xe,e1];exact Sk (by omega)
theorem xL(ok:∀w∈ws,bH w)(h1:∀w∈ws,w.1=t)(ht:t<24)(h:ig ws (P6 24) lys):(ws=[]/\iX ws lys t=0)∨(0<iX ws lys t/\(∀w∈ws,dV ws w.2.1≤iX ws lys t*((w.2.1-t+1:Nat):Rat))/\∃w∈ws,dV ws w.2.1=iX ws lys t*((w.2.1-t+1:Nat):Rat)):=by
 cases h with
 |nil z=>
  refine .inl ⟨?_,Z⟩
  cases hw:ws with
  |nil=>rfl
  |cons w r=>
   exfalso;have mw:w∈ws:=by rw[hw];exact Qd
   have:=Td.mp z w mw;rw[pD (ok w mw)] at this;exact this Z
 |cons hp tl=>
  refine .inr ?_;rw[Dv ok h1 hp];obtain⟨a,b⟩:=Dm ok h1 hp;exact⟨lH ok hp,λw hw=>a _ (by have:=(ok w hw).le;rw[h1 w hw] at this;exact this) (ok w hw).lt,b⟩
def EJ(ws:List Wk)(i j:Nat):Prop:=aZ ws i<aZ ws j∨(aZ ws i=aZ ws j/\i<j)
theorem Cc(ws:List Wk)(l:List Nat):hX ws [] l=fh ws l:=by
 unfold hX;refine SN.mpr λi _=>?_
 rw[SK];exact U1.mpr λj _ z=>qd (ix.mp z)
theorem BI(srt:l.Pairwise (· < ·))(h:l≠[]):∀j∈l,j≠fO ws [] l->EJ ws (fO ws [] l) j:=λj hj ne=>by
 have a:=jE (ws:=ws) (fz 0) h;rw[Cc] at a;have m:=fe.mp (Qf a);have le:=m.2 j hj;by_cases c:aZ ws (fO ws [] l)=aZ ws j
 ·refine .inr ⟨c,?_⟩;have jl:j∈fh ws l:=fe.mpr ⟨hj,λk hk=>by rw[←c];exact m.2 k hk⟩;have sl:(fh ws l).Pairwise (· < ·):=RE _ srt
  cases e:fh ws l with
  |nil=>rw[e] at jl;cases jl
  |cons x r=>
   rw[e] at a jl sl;have ex:x=fO ws [] l:=by simpa using a
   rcases Qm.mp jl with z|z
   ·exact aad (z.trans ex) ne
   ·rw[←ex];exact(SY.mp sl).1 j z
 ·exact .inl (by omega)
theorem vH{ws:List Wk}:∀k,k≤ws.length->(aJ ws [] k).Pairwise (EJ ws)/\∀i∈aJ ws [] k,∀j,j<ws.length->j∉aJ ws [] k->EJ ws i j
 |0,_=>⟨.nil,λi hi=>aad (show i∈([]:List Nat) from hi) (by simp)⟩
 |k+1,h=>by
  obtain⟨p,q⟩:=vH (ws:=ws) k (by omega);have oi:=dE (es:=[]) (fz ws.length) k (by omega);have ne:=oi.ne (by omega);have m:=jD (ws:=ws) (fz ws.length) ne;have sw:(cv ws.length (aJ ws [] k)).Pairwise (· < ·):=RE _ SJ;refine⟨?_,λi hi j hj nj=>?_⟩
  ·show(aJ ws [] k++[_]).Pairwise _;rw[Ur];exact⟨p,WM _ _,λa ha b hb=>by rw[Qj.mp hb];exact q a ha _ (dq.mp m).1 (dq.mp m).2⟩
  ·have nj':j∉aJ ws [] k:=λz=>nj (RD _ z)
   rcases QP.mp (show i∈aJ ws [] k++[_] from hi) with z|z
   ·exact q i z j hj nj'
   ·rw[Qj.mp z];exact BI sw ne j (dq.mpr ⟨hj,nj'⟩) λe=>nj (Qv _ (by rw[e];exact Qj.mpr Z))
abbrev Tr:=Nat×Nat×R
def og(sm:List Tr)(l:Nat):R:=eK ((sm.filter λx=>decide (x.2.1≤l)).map λx=>x.2.2)
def M9(r:R)(n:Int):R:=fo (r.1*1) (r.2*n)
def gE(s x:R):R:=if cP s x=true then x else s
def dh(t:Nat)(sm:List Tr)(x:Tr):R:=M9 (og sm x.2.1) ((x.2.1:Int)-t+1)
def Dw(t:Nat)(sm:List Tr):R:=sm.foldl (λs x=>gE s (dh t sm x)) (0,1)
def fb(sp a:R):R:=if cP sp a=true then sp else a
def eP(st:R×List Pc)(x:Tr):R×List Pc:=if 0<st.1.1 then(bn st.1 (fb st.1 x.2.2),st.2++[(x.1,fb st.1 x.2.2)]) else st
def JZ(x y:Tr):Prop:=x.2.1<y.2.1∨(x.2.1=y.2.1/\x.1<y.1)
def Gc(t:Nat)(sm:List Tr)(q:List Pc):Prop:=∃so:List Tr,so.Perm sm/\so.Pairwise JZ/\q=(so.foldl eP (Dw t sm,[])).2
theorem vO:∀{a b:List Tr},a.Perm b->a.Pairwise JZ->b.Pairwise JZ->a=b
 | [],b,h,_,_=>(List.Perm.nil_eq h)
 |x::a,[],h,_,_=>by have:=h.length_eq;cases this
 |x::a,y::b,h,p,q=>by
  have e:x=y:=by
   apply RY;intro ne;rcases Qm.mp (h.mem_iff.mp Qd) with z|z
   ·exact ne z
   ·rcases Qm.mp (h.mem_iff.mpr Qd) with u|u
    ·exact ne u.symm
    ·have h1:=(SY.mp q).1 x z;have h2:=(SY.mp p).1 y u;unfold JZ at h1 h2;omega
  subst e;rw[vO ((List.perm_cons x).mp h) (SY.mp p).2 (SY.mp q).2]
theorem Gc.uniq(a:Gc t sm q)(b:Gc t sm r):q=r:=by
 obtain⟨s1,p1,w1,e1⟩:=a;obtain⟨s2,p2,w2,e2⟩:=b;rw[e1,e2,vO (p1.trans p2.symm) w1 w2]
def bQ(t:Nat)(sm:List Tr):List Wk:=sm.map λx=>((t,x.2.1,x.2.2):Wk)
theorem vN{α:Type}{f:α->R}:∀(l:List α) (s:R),gf s->(∀x∈l,gf (f x))->gf (l.foldl (λs x=>gE s (f x)) s)/\val s≤val (l.foldl (λs x=>gE s (f x)) s)/\(∀x∈l,val (f x)≤val (l.foldl (λs x=>gE s (f x)) s))/\(l.foldl (λs x=>gE s (f x)) s=s∨∃x∈l,l.foldl (λs x=>gE s (f x)) s=f x)
 | [],s,h,_=>⟨h,RF,(λx hx=>by cases hx),.inl Z⟩
 |y::l,s,h,hf=>by
  have ry:=hf y Qd;have m:gf (gE s (f y))/\val s≤val (gE s (f y))/\val (f y)≤val (gE s (f y))/\(gE s (f y)=s∨gE s (f y)=f y):=by
   unfold gE
   cases c:cP s (f y) with
   |true=>
    rw[Z9 Z];exact⟨ry,R7 ((jh h.pos ry.pos).mp c),RF,.inr Z⟩
   |false=>
    rw[aaa QB];exact⟨h,RF,(jg h.pos ry.pos).mp c,.inl Z⟩
  obtain⟨a,b,c,d⟩:=vN l (gE s (f y)) m.1 λx hx=>hf x (Qe _ hx)
  rw[Rs];refine⟨a,VL m.2.1 b,λx hx=>?_,?_⟩
  ·rcases Qm.mp hx with z|z
   ·rw[z];exact VL m.2.2.1 b
   ·exact c x z
  ·rcases d with d | ⟨x,hx,d⟩
   ·rcases m.2.2.2 with e|e
    ·exact .inl (d.trans e)
    ·exact .inr ⟨y,Qd,d.trans e⟩
   ·exact .inr ⟨x,Qe _ hx,d⟩
theorem E1(h:∀x∈sm,gf x.2.2)(l:Nat):gf (og sm l)/\val (og sm l)=dV (bQ t sm) l:=by
 obtain⟨a,b⟩:=je (rs:=(sm.filter λx=>decide (x.2.1≤l)).map λx=>x.2.2) λr hr=>by
  obtain⟨x,hx,rfl⟩:=Qg.mp hr;exact h x (Qp.mp hx).1
 refine⟨a,?_⟩;show val (eK _)=_;rw[b,lF,f8,fH];unfold dV bQ;rw[f8];rfl
theorem jG(h:∀x∈sm,gf x.2.2)(le:t≤x.2.1):gf (dh t sm x)/\val (dh t sm x)*((x.2.1-t+1:Nat):Rat)=dV (bQ t sm) x.2.1:=by
 obtain⟨rd,e⟩:=E1 (t:=t) h x.2.1;have en:((x.2.1:Int)-t+1)=((x.2.1-t+1:Nat):Int):=by omega
 have np:(0:Int)<((x.2.1-t+1:Nat):Int):=by omega
 have bp:0<(og sm x.2.1).2*((x.2.1-t+1:Nat):Int):=RT rd.pos np;unfold dh M9;rw[en];refine⟨iu bp,?_⟩;rw[j6 bp,←e,Y7,Rj,←Rw];unfold val;have n1:((og sm x.2.1).2:Rat)≠0:=cU rd.pos;have n2:(((x.2.1-t+1:Nat):Int):Rat)≠0:=cU np;generalize ((og sm x.2.1).2:Rat)=a at *;generalize (((x.2.1-t+1:Nat):Int):Rat)=b at *;generalize ((og sm x.2.1).1:Rat)=c at *;grind
theorem FG(ok:∀w∈bQ t sm,bH w)(w20:sm.length≤20)(ht:t<24)(h:ig (bQ t sm) (P6 24) lys):Dw t sm=(aV (bQ t sm) lys).getD t (0,1):=by
 have rd:∀x∈sm,gf x.2.2:=λx hx=>(ok _ (Qg.mpr ⟨x,hx,Z⟩)).am.wf.red
 have le:∀x∈sm,t≤x.2.1:=λx hx=>(ok _ (Qg.mpr ⟨x,hx,Z⟩)).le
 have h1:∀w∈bQ t sm,w.1=t:=λw hw=>by obtain⟨x,_,rfl⟩:=Qg.mp hw;rfl
 have lok:=kA h (by rw[QN];exact P7 _) (λt ht=>Qi.mp ht);have am:=cL (n:=0) (j8 ok (by unfold bQ;rw[P8];exact w20) lok) t;obtain⟨a,b,c,d⟩:=vN (f:=dh t sm) sm (0,1) ⟨by decide,by decide⟩ λx hx=>(jG rd (le x hx)).1
 refine fS a am.red ?_;rw[jo h ht];have z0:val ((0,1):R)=0:=(eY (r:=(0,1)) (by decide)).mpr Z;show val (sm.foldl (λs x=>gE s (dh t sm x)) (0,1))=_;generalize sm.foldl (λs x=>gE s (dh t sm x)) (0,1)=sp at *;have np:∀x:Tr,(0:Rat)<((x.2.1-t+1:Nat):Rat):=λx=>by
  rw[←Rw];have:((0:Int):Rat)<(((x.2.1-t+1:Nat):Int):Rat):=RC.mpr (by omega);exact this
 rcases xL ok h1 ht h with⟨e,z⟩ | ⟨pos,up,w,hw,ew⟩
 ·have:sm=[]:=List.map_eq_nil_iff.mp e;subst this;rcases d with d | ⟨x,hx,_⟩
  ·rw[d,z,z0]
  ·cases hx
 ·refine Zp ?_ ?_
  ·rcases d with d | ⟨x,hx,d⟩
   ·rw[d,z0];exact R7 pos
   ·rw[d];refine iy (np x) ?_;rw[(jG rd (le x hx)).2];exact up (t,x.2.1,x.2.2) (Qg.mpr ⟨x,hx,Z⟩)
  ·obtain⟨x,hx,rfl⟩:=Qg.mp hw;refine VL ?_ (c x hx);refine iy (np x) ?_;rw[(jG rd (le x hx)).2];have e':dV (bQ t sm) x.2.1=iX (bQ t sm) lys t*((x.2.1-t+1:Nat):Rat):=ew;rw[e'];exact RF
theorem oN{ws:List Wk}{ord:List Nat}{ss:List R}{t:Nat}(h1:∀w∈ws,w.1=t)(ho:∀i∈ord,i<ws.length):∀u,u≤t->(aR ws ord ss u).1=ws.map λw=>w.2.2
 |0,_=>rfl
 |u+1,h=>by
  have ih:=oN (ss:=ss) h1 ho u (by omega);have fx:∀(o:List Nat) (st:tN),(∀i∈o,i<ws.length)->o.foldl (bU ws u) st=st:=by
   intro o
   induction o with
   |nil=>intro st _;rfl
   |cons i o ihh=>
    intro st hl;have hi:=hl i Qd;have e:bU ws u st i=st:=by
     unfold bU;refine aaa λz=>?_
     have z1:=z.1;rw[ay bc (P5 hi)] at z1;unfold fD at z1;rw[QM,Z8,h1 _ (Qx hi)] at z1;omega
    rw[Rs,e];exact ihh st λj hj=>hl j (Qe _ hj)
  show(dH ws ord u (aR ws ord ss u).1 _).1=_;unfold dH;rw[fx ord _ ho];exact ih
theorem BS(p:0<a.1):dF a (0,1)=(0,1):=by
 unfold dF cP;rw[Z9 (Q9 (by show(0:Int)*a.2<a.1*1;omega))]
theorem jZ{t:Nat}{sm:List Tr}(ok:∀w∈bQ t sm,bH w):∀(ord:List Nat) (lf:List R) (rm:R) (pc:List Pc),ord.Nodup->(∀i∈ord,i<sm.length)->lf.length=sm.length->(∀i∈ord,lf.getD i (0,1)=(sm.getD i (0,0,(0,1))).2.2)->(∀r∈lf,dW r)->dW rm->bJ (sm.map (·.1)) (ord.foldl (bU (bQ t sm) t) (lf,rm,pc)).2.2=((ord.map λi=>sm.getD i (0,0,(0,1))).foldl eP (rm,bJ (sm.map (·.1)) pc)).2
 | [],lf,rm,pc,_,_,_,_,_,_=>rfl
 |i::ord,lf,rm,pc,nd,hl,ll,hlf,am,ar=>by
  have hi:=hl i Qd;have nd':=Rq.mp nd;have ei:sm.getD i (0,0,(0,1))=sm[i]:=ay _ (P5 hi);have ew:(bQ t sm).getD i bc=(t,sm[i].2.1,sm[i].2.2):=ay bc (by unfold bQ;rw[Ql,P5 hi];rfl);have wok:=ok (t,sm[i].2.1,sm[i].2.2) (Qg.mpr ⟨sm[i],Qx hi,Z⟩);have iw:fD ((bQ t sm).getD i bc) t=true:=by
   rw[ew];unfold fD;rw[Q9 (P7 _),Q9 wok.le];rfl
  have ea:=hlf i Qd;have ap:0<(sm[i].2.2).1:=by have:=wok.am.top;have h:1≤(sm[i].2.2).1:=this;omega
  rw[ei] at ea;have aa:dW sm[i].2.2:=by rw[←ea];exact cL (n:=0) am i
  rw[Q1,Rs,Rs,ei];by_cases c:0<rm.1
  ·have e1:bU (bQ t sm) t (lf,rm,pc) i=(lf.set i (bn sm[i].2.2 (fb rm sm[i].2.2)),bn rm (fb rm sm[i].2.2),pc++[(i,fb rm sm[i].2.2)]):=by
    unfold bU;show(if _/\dF (lf.getD i (0,1)) rm≠(0,1) then(lf.set i (bn (lf.getD i (0,1)) (dF (lf.getD i (0,1)) rm)),bn rm (dF (lf.getD i (0,1)) rm),pc++[(i,dF (lf.getD i (0,1)) rm)]) else _)=_;rw[ea];have em:dF sm[i].2.2 rm=fb rm sm[i].2.2:=Z;rw[em];refine Z9 ⟨iw,λz=>?_⟩;unfold fb at z
    split at z
    ·rw[z] at c;exact aad c (by decide)
    ·rw[z] at ap;exact aad ap (by decide)
   have e2:eP (rm,bJ (sm.map (·.1)) pc) sm[i]=(bn rm (fb rm sm[i].2.2),bJ (sm.map (·.1)) pc++[(sm[i].1,fb rm sm[i].2.2)]):=by
    unfold eP;exact Z9 c
   have le:=uA aa ar;have la:=i7 aa ar;rw[e1,e2];have e3:bJ (sm.map (·.1)) pc++[(sm[i].1,fb rm sm[i].2.2)]=bJ (sm.map (·.1)) (pc++[(i,fb rm sm[i].2.2)]):=by
    unfold bJ;rw[Rh];show _=_++[((sm.map (·.1)).getD i 0,_)];rw[ay 0 (show(sm.map (·.1))[i]?=some sm[i].1 by rw[Ql,P5 hi];rfl)]
   rw[e3];refine jZ ok ord _ _ _ nd'.2 (λj hj=>hl j (Qe _ hj)) (by rw[Sf];exact ll) (λj hj=>?_) (λr hr=>?_) (mr ar la le.2)
   ·have ne:i≠j:=λz=>nd'.1 (by rw[z];exact hj)
    rw[Qa,RJ ne,←Qa];exact hlf j (Qe _ hj)
   ·rcases SS hr with z|z
    ·exact am r z
    ·rw[z];exact mr aa la le.1
  ·have rz:rm=(0,1):=by
    apply RY;intro nz;have:=io ar.red ar.nn nz;omega
   have e1:bU (bQ t sm) t (lf,rm,pc) i=(lf,rm,pc):=by
    unfold bU;refine aaa λz=>z.2 ?_
    show dF (lf.getD i (0,1)) rm=(0,1);rw[ea,rz,BS ap]
   have e2:eP (rm,bJ (sm.map (·.1)) pc) sm[i]=(rm,bJ (sm.map (·.1)) pc):=by
    unfold eP;exact aaa c
   rw[e1,e2];exact jZ ok ord lf rm pc nd'.2 (λj hj=>hl j (Qe _ hj)) ll (λj hj=>hlf j (Qe _ hj)) am ar
theorem Dc(ok:∀w∈bQ t sm,bH w)(w20:sm.length≤20)(ht:t<24)(rise:(sm.map (·.1)).Pairwise (· < ·))(h:ig (bQ t sm) (P6 24) lys):Gc t sm (bJ (sm.map (·.1)) ((c8 (bQ t sm) [] (aV (bQ t sm) lys)).2.getD t [])):=by
 have wl:(bQ t sm).length=sm.length:=P8 _;have h1:∀w∈bQ t sm,w.1=t:=λw hw=>by obtain⟨x,_,rfl⟩:=Qg.mp hw;rfl
 have lok:=kA h (by rw[QN];exact P7 _) (λt ht=>Qi.mp ht);have sam:=j8 ok (by rw[wl];exact w20) lok;have om:=lL (ws:=bQ t sm) (fz _);have ol:∀i∈aJ (bQ t sm) [] (bQ t sm).length,i<sm.length:=λi hi=>by rw[←wl];exact(om i).mp hi
 have nd:=ku (ws:=bQ t sm) (fz _) (bQ t sm).length (P7 _);have lx:=(vH (ws:=bQ t sm) (bQ t sm).length (P7 _)).1;have g:∀n,t<n->(aR (bQ t sm) (aJ (bQ t sm) [] (bQ t sm).length) (aV (bQ t sm) lys) n).2.getD t []=(dH (bQ t sm) (aJ (bQ t sm) [] (bQ t sm).length) t (aR (bQ t sm) (aJ (bQ t sm) [] (bQ t sm).length) (aV (bQ t sm) lys) t).1 ((aV (bQ t sm) lys).getD t (0,1))).2.2:=by
  intro n
  induction n with
  |zero=>intro z;omega
  |succ n ih=>
   intro hn;have ln:=(eW (ord:=aJ (bQ t sm) [] (bQ t sm).length) (ss:=aV (bQ t sm) lys) ok (λi hi=>(om i).mp hi) sam n).2;show((aR (bQ t sm) (aJ (bQ t sm) [] (bQ t sm).length) (aV (bQ t sm) lys) n).2++[_]).getD t []=_;by_cases c:t<n
   ·rw[Qa,RB (by omega),←Qa];exact ih c
   ·have:t=n:=by omega
    subst this;rw[Qa,RG (by omega),ln,Vb];rfl
 have e:=g 24 ht;unfold c8;rw[e,oN h1 (λi hi=>(om i).mp hi) t (P7 _),←FG ok w20 ht h];generalize aJ (bQ t sm) [] (bQ t sm).length=ord at *;have wf:=jZ ok ord (sm.map λx=>x.2.2) (Dw t sm) [] nd ol (P8 _) (λi hi=>by
  rw[ay (0,1) (show(sm.map λx=>x.2.2)[i]?=some (sm.getD i (0,0,(0,1))).2.2 by rw[Ql,Qa,P5 (ol i hi)];rfl)]) (λr hr=>by
  obtain⟨x,hx,rfl⟩:=Qg.mp hr;have a:=(ok _ (Qg.mpr ⟨x,hx,Z⟩)).am;exact⟨(sY a).mono ⟨5354228880,by decide⟩ (by decide),by have:1≤x.2.2.1:=a.top;omega⟩) (by rw[FG ok w20 ht h];exact cL (n:=0) sam t)
 refine⟨ord.map λi=>sm.getD i (0,0,(0,1)),?_,?_,?_⟩
 ·have p:ord.Perm (P6 sm.length):=(List.perm_ext_iff_of_nodup nd Tn).mpr λi=>by rw[Qi,om i,wl]
  refine(p.map _).trans ?_;have:(P6 sm.length).map (λi=>sm.getD i (0,0,(0,1)))=sm:=by
   refine WK (by simp) λi h1 h2=>?_
   simp[h2]
  rw[this]
 ·rw[So];refine lx.imp_of_mem λ{i j} hi hj l=>?_
  have hi':=ol i hi;have hj':=ol j hj;have ei:sm.getD i (0,0,(0,1))=sm[i]:=ay _ (P5 hi');have ej:sm.getD j (0,0,(0,1))=sm[j]:=ay _ (P5 hj');have l1:aZ (bQ t sm) i=sm[i].2.1:=by unfold aZ;rw[ay bc (show(bQ t sm)[i]?=some (t,sm[i].2.1,sm[i].2.2) by unfold bQ;rw[Ql,P5 hi'];rfl)]
  have l2:aZ (bQ t sm) j=sm[j].2.1:=by unfold aZ;rw[ay bc (show(bQ t sm)[j]?=some (t,sm[j].2.1,sm[j].2.2) by unfold bQ;rw[Ql,P5 hj'];rfl)]
  rw[ei,ej];unfold EJ at l;rw[l1,l2] at l;rcases l with l | ⟨l,ij⟩
  ·exact .inl l
  ·refine .inr ⟨l,?_⟩;have:=RH.mp rise i j (by rw[P8];exact hi') (by rw[P8];exact hj') ij
   simpa using this
 ·have:(bQ t sm).map (λw=>w.2.2)=sm.map λx=>x.2.2:=by unfold bQ;rw[R6];rfl
  rw[this];exact wf
def gR(s:dY):List Tr:=(aS s.rs).map λi=>((i,(s.kn.getD i bc).2.1,s.rs.getD i (0,1)):Tr)
theorem vm(s:dY):cO s.kn s.rs s.tn=bQ s.tn (gR s):=by
 unfold cO bQ gR;rw[R6];rfl
theorem kf(s:dY):(gR s).map (·.1)=aS s.rs:=by
 unfold gR;rw[R6];exact Zd _
theorem xK(rs:List R):(aS rs).Pairwise (· < ·):=RE _ SJ
theorem rL(s:dY):(gR s).length=(aS s.rs).length:=P8 _
theorem ES(o:CU s)(ht:s.tn<24)(h:ig (cO s.kn s.rs s.tn) (P6 24) lys):Gc s.tn (gR s) (bJ (aS s.rs) ((c8 (cO s.kn s.rs s.tn) [] (aV (cO s.kn s.rs s.tn) lys)).2.getD s.tn [])):=by
 have wok:=jd o ht;rw[vm] at h wok;rw[vm,←kf];have:=jC s.rs;have:=o.len;have:=o.few;exact Dc (λw hw=>(wok w hw).1) (by rw[rL];omega) ht (by rw[kf];exact xK _) h
theorem Ll(o:CU s)(ht:s.tn<24)(h:ig (cO s.kn s.rs s.tn) (P6 24) lys):∀x∈bJ (aS s.rs) ((c8 (cO s.kn s.rs s.tn) [] (aV (cO s.kn s.rs s.tn) lys)).2.getD s.tn []),0<val x.2:=λx hx=>by
 obtain⟨c,hc,rfl⟩:=Qg.mp hx;have l1:=jC s.rs;have l2:=o.len;have l3:=o.few;exact((i9 (λw hw=>(jd o ht w hw).1) (by rw[lY];omega) h).mem ht hc).2.2.1
structure Gj(s:dY)(q0:List Pc):Prop extends LQ s q0 where
 wk:Gc s.tn (gR s) (bJ (aS s.rs) q0)
 ps:∀x∈bJ (aS s.rs) q0,0<val x.2
theorem F5(o:CU s)(ht:s.tn<24)(h:ig (cO s.kn s.rs s.tn) (P6 24) lys):Gj s ((c8 (cO s.kn s.rs s.tn) [] (aV (cO s.kn s.rs s.tn) lys)).2.getD s.tn []):=⟨Jl o ht h,ES o ht h,Ll o ht h⟩
theorem sU{n:Nat}{L:Pl->Int}:∀(l:List Pl),(∀r∈l,gU n r)->l.Pairwise nU->l≠[]->∃p,ot (λr=>r∈l) L p
 | [],_,_,h=>aad Z h
 | [q],_,_,_=>⟨q,Qj.mpr Z,λr hr=>by
   rw[Qj.mp hr];exact .inr ⟨Z,.inr ⟨Z,P7 _⟩⟩⟩
 |q::r'::l,hs,pw,_=>by
  obtain⟨a,b⟩:=SY.mp pw;obtain⟨p,hp⟩:=sU (L:=L) (r'::l) (λr hr=>hs r (Qe _ hr)) b (by simp);have lq:=(hs q Qd).pos;have lp:=(hs p (Qe _ hp.inn)).pos;have e:∀r,r∈q::r'::l↔r∈r'::l∨r=q:=λr=>by
   rw[Qm (a:=r) (b:=q)];exact⟨λz=>z.symm,λz=>z.symm⟩
  by_cases c:L p*bK q≤L q*bK p
  ·refine⟨q,Qd,λr hr=>?_⟩;rcases(e r).mp hr with z|z
   ·have lr:=(hs r hr).pos;rcases hp.all r z with h1 | ⟨h1,_⟩
    ·exact .inl (E3 lr lp lq h1 c)
    ·by_cases d:L p*bK q<L q*bK p
     ·exact .inl (v5 lr lp lq (Int.le_of_eq h1) d)
     ·exact .inr ⟨E4 lp h1 (by omega),a r z⟩
   ·rw[z];exact .inr ⟨Z,.inr ⟨Z,P7 _⟩⟩
  ·exact⟨p,hp.stay e (by omega) (.inr (by omega))⟩
def CO(n:Nat):List Pl:=(P6 n).flatMap λb=>(((P6 n).filter λe=>decide (b≤e)).reverse).map λe=>(b,e)
theorem nh:r∈CO n↔gU n r:=by
 unfold CO gU;rw[Y1];constructor
 ·rintro⟨b,hb,hr⟩;obtain⟨e,he,rfl⟩:=Qg.mp hr;rw[Y2,Qp,Qi,Z8] at he;exact⟨he.2,he.1⟩
 ·rintro⟨h1,h2⟩;refine⟨r.1,Qi.mpr (by omega),Qg.mpr ⟨r.2,?_,Z⟩⟩;rw[Y2,Qp,Qi,Z8];exact⟨h2,h1⟩
theorem DP(n:Nat):(CO n).Pairwise nU:=by
 unfold CO;rw[List.pairwise_flatMap];refine⟨λb _=>?_,SJ.imp λ{a b} h x hx y hy=>?_⟩
 ·rw[So,List.pairwise_reverse];refine(RE _ SJ).imp λ{a c} h=>?_
  exact .inr ⟨Z,by show a≤c;omega⟩
 ·obtain⟨e,_,rfl⟩:=Qg.mp hx;obtain⟨f,_,rfl⟩:=Qg.mp hy;exact .inl h
theorem Jz(hn:0<n)(L:Pl->Int):∃p,ot (gU n) L p:=by
 obtain⟨p,h⟩:=sU (L:=L) (CO n) (λr hr=>nh.mp hr) (DP n) (Yj (nh.mpr (show gU n (0,0) from⟨P7 _,hn⟩)));exact⟨p,h.congr λr=>nh.symm⟩
theorem BP{ws:List Wk}(ok:∀w∈ws,bH w):∀(k:Nat) (ls:List Nat),tE ws ls≤k->ls.Nodup->∃lys,ig ws ls lys
 |0,ls,h,_=>⟨[],.nil (by omega)⟩
 |k+1,ls,h,nd=>by
  by_cases c:tE ws ls=0
  ·exact⟨[],.nil c⟩
  ·have hl:0<ls.length:=by
    cases ls with
    |nil=>exact aad (BH ws) c
    |cons a r=>exact Nat.succ_pos _
   obtain⟨p,hp⟩:=Jz hl (dr (ws.map (bI ls)) (gZ (cE ws)));have it:=B3 ok hp c;have e:=vK (ws:=ws) nd (iA it);have hd:=it.held;obtain⟨lys,hy⟩:=BP ok k (dI ls p) (by omega) (RE _ nd);exact⟨_,.cons it hy⟩
theorem Lm(o:CU s)(ht:s.tn<24):∃q0,Gj s q0:=by
 obtain⟨lys,h⟩:=BP (λw hw=>(jd o ht w hw).1) _ (P6 24) (P7 _) Tn;exact⟨_,F5 o ht h⟩
structure kK(ws:List Wk):Prop where
 few:ws.length≤20
 wk:∀w∈ws,w.1≤w.2.1/\w.2.1<24/\Bq 84 12 w.2.2/\0<w.2.2.1
theorem kK.at(h:kK ws)(hj:j<ws.length):(ws.getD j bc).1≤(ws.getD j bc).2.1/\(ws.getD j bc).2.1<24/\Bq 84 12 (ws.getD j bc).2.2/\0<(ws.getD j bc).2.2.1:=by
 rw[ay bc (P5 hj)];exact h.wk _ (Qx hj)
def nW(dn:List (List Pc))(i:Nat):Rat:=sQ (λq:List Pc=>sQ (λc:Pc=>cj (decide (c.1=i)) (val c.2)) q) dn
structure KI(ws:List Wk)(s:dY)(ns:List Nat):Prop where
 ok:CU s
 len:ns.length=s.kn.length
 at_:∀i,i<ns.length->s.kn.getD i bc=ws.getD (ns.getD i 0) bc
 lt:∀j∈ns,j<ws.length/\(ws.getD j bc).1≤s.tn
 nd:ns.Nodup
 dn:∀(u:Nat) (q:List Pc),s.dn[u]?=some q->(q.map (·.1)).Nodup/\∀c∈q,c.1<s.kn.length/\(s.kn.getD c.1 bc).1≤u/\u≤(s.kn.getD c.1 bc).2.1/\dW c.2/\0<val c.2
 sum:∀i,i<s.kn.length->val (s.kn.getD i bc).2.2=val (s.rs.getD i (0,1))+nW s.dn i
theorem vS(ws:List Wk):KI ws ⟨0,[],[],[]⟩ []:=⟨⟨by decide,Z,by decide,Z,(λw h=>by cases h),(λr h=>by cases h),(λi h=>by cases h),(λq h=>by cases h)⟩,Z,(λi h=>by cases h),(λj h=>by cases h),TR,(λu q h=>by simp at h),(λi h=>by cases h)⟩
theorem BJ:∀{n:Nat} {l:List Nat},l.Nodup->(∀j∈l,j<n)->l.length≤n
 |0,l,_,h=>by
  cases l with
  |nil=>exact P7 _
  |cons a r=>exact aad (h a Qd) (by omega)
 |n+1,l,nd,h=>by
  have a:=BJ (n:=n) (l:=l.erase n) (nd.sublist List.erase_sublist) λj hj=>by
   obtain⟨h1,h2⟩:=(Q7.mem_erase_iff nd).mp hj;have:=h j h2;omega
  have b:=List.length_erase (a:=n) (l:=l)
  split at b<;>omega
theorem KI.room(h:KI ws s ns)(o:kK ws)(hj:j<ws.length)(nj:j∉ns):s.kn.length<20:=by
 have a:=BJ (n:=ws.length) (l:=j::ns) (Rq.mpr ⟨nj,h.nd⟩) λx hx=>by
  rcases Qm.mp hx with z|z
  ·rw[z];exact hj
  ·exact(h.lt x z).1
 rw[Q2] at a;have:=o.few;have:=h.len;omega
theorem zd(h:∀q∈dn,∀c∈q,c.1≠i):nW dn i=0:=by
 unfold nW;have e:sQ (λq:List Pc=>sQ (λc:Pc=>cj (decide (c.1=i)) (val c.2)) q) dn=sQ (λ_=>(0:Rat)*0) dn:=aI λq hq=>by
  have e2:sQ (λc:Pc=>cj (decide (c.1=i)) (val c.2)) q=sQ (λ_=>(0:Rat)*0) q:=aI λc hc=>by
   rw[Sy (h q hq c hc),ck];grind
  rw[e2,df];grind
 rw[e,df];grind
theorem KI.come(h:KI ws s ns)(o:kK ws)(hj:j<ws.length)(nj:j∉ns)(e:(ws.getD j bc).1=s.tn):KI ws (oY s (ws.getD j bc).2.1 (ws.getD j bc).2.2) (ns++[j]):=by
 have w:=o.at hj;have rm:=h.room o hj nj;have kl:=h.ok.len;have nl:=h.len;have gk:∀i,(s.kn++[(s.tn,(ws.getD j bc).2.1,(ws.getD j bc).2.2)]).getD i bc=if i<s.kn.length then s.kn.getD i bc else if i=s.kn.length then ws.getD j bc else bc:=λi=>by
  rw[Qa];by_cases c:i<s.kn.length
  ·rw[Z9 c,RB c,←Qa]
  ·rw[aaa c,RG (by omega)];by_cases d:i=s.kn.length
   ·rw[Z9 d,d,Vb];show(s.tn,_,_)=_;rw[←e]
   ·rw[aaa d,Ru (by show 1≤_;omega)];rfl
 have gr:∀i,(s.rs++[(ws.getD j bc).2.2]).getD i (0,1)=if i<s.rs.length then s.rs.getD i (0,1) else if i=s.rs.length then(ws.getD j bc).2.2 else(0,1):=λi=>by
  rw[Qa];by_cases c:i<s.rs.length
  ·rw[Z9 c,RB c,←Qa]
  ·rw[aaa c,RG (by omega)];by_cases d:i=s.rs.length
   ·rw[Z9 d,d,Vb];rfl
   ·rw[aaa d,Ru (by show 1≤_;omega)];rfl
 refine⟨⟨h.ok.t24,?_,?_,h.ok.dl,?_,?_,?_,h.ok.pcs⟩,?_,?_,?_,?_,?_,?_⟩
 ·show(s.rs++[_]).length=(s.kn++[_]).length;rw[QC,QC,kl];rfl
 ·show(s.kn++[_]).length≤20;rw[QC,R3];omega
 ·intro x hx;rcases QP.mp (show x∈s.kn++[_] from hx) with z|z
  ·exact h.ok.kn x z
  ·rw[Qj.mp z];exact⟨by show s.tn<24;omega,w.2.1,w.2.2.1,by show 0≤(ws.getD j bc).2.2.1;omega⟩
 ·intro r hr;rcases QP.mp (show r∈s.rs++[_] from hr) with z|z
  ·exact h.ok.am r z
  ·rw[Qj.mp z];exact⟨w.2.2.1.mono (Wh 84 _) (P7 _),by omega⟩
 ·intro i hi nz;have hi':i<(s.kn++[(s.tn,(ws.getD j bc).2.1,(ws.getD j bc).2.2)]).length:=hi;rw[QC,R3] at hi';show s.tn≤((s.kn++[(s.tn,(ws.getD j bc).2.1,(ws.getD j bc).2.2)]).getD i bc).2.1;rw[gk];by_cases c:i<s.kn.length
  ·rw[Z9 c];refine h.ok.due i c λz=>nz ?_
   show(s.rs++[_]).getD i (0,1)=_;rw[gr,Z9 (by omega)];exact z
  ·rw[aaa c,Z9 (by omega)];omega
 ·show(ns++[j]).length=(s.kn++[_]).length;rw[QC,QC,nl];rfl
 ·intro i hi;rw[QC,R3] at hi;show(s.kn++[_]).getD i bc=_;rw[gk];by_cases c:i<s.kn.length
  ·rw[Z9 c,h.at_ i (by omega)]
   congr 1
   rw[Qa,Qa,RB (by omega)]
  ·rw[aaa c,Z9 (by omega)]
   congr 1
   rw[Qa,RG (by omega),show i-ns.length=0 by omega];rfl
 ·intro x hx;rcases QP.mp hx with z|z
  ·exact h.lt x z
  ·rw[Qj.mp z];exact⟨hj,Tx e⟩
 ·rw[R8];exact⟨h.nd,Rq.mpr ⟨by simp,TR⟩,λa ha b hb z=>nj (by rw[←Qj.mp hb,←z];exact ha)⟩
 ·intro u q hq;obtain⟨a,b⟩:=h.dn u q hq;refine⟨a,λc hc=>?_⟩;obtain⟨b1,b2,b3,b4⟩:=b c hc;show c.1<(s.kn++[_]).length/\((s.kn++[_]).getD c.1 bc).1≤u/\u≤((s.kn++[_]).getD c.1 bc).2.1/\_;rw[gk,Z9 b1,QC];exact⟨by omega,b2,b3,b4⟩
 ·intro i hi;have hi':i<(s.kn++[(s.tn,(ws.getD j bc).2.1,(ws.getD j bc).2.2)]).length:=hi;rw[QC,R3] at hi';show val ((s.kn++[_]).getD i bc).2.2=val ((s.rs++[_]).getD i (0,1))+nW s.dn i;rw[gk,gr];by_cases c:i<s.kn.length
  ·rw[Z9 c,Z9 (by omega)];exact h.sum i c
  ·rw[aaa c,Z9 (by omega),aaa (by omega),Z9 (by omega),zd λq hq c hc z=>?_]
   ·grind
   ·obtain⟨u,hu⟩:=RU hq;have:=((h.dn u q hu).2 c hc).1;omega
theorem KI.go(h:KI ws s ns)(G:Gj s q0)(ht:s.tn<24):KI ws (Lo s (bJ (aS s.rs) q0)) ns:=by
 have kl:=h.ok.len;have dl:=h.ok.dl;refine⟨G.ok,h.len,h.at_,λj hj=>⟨(h.lt j hj).1,by have:=(h.lt j hj).2;show _≤s.tn+1;omega⟩,h.nd,?_,?_⟩
 ·intro u q hq;have hq':(s.dn++[bJ (aS s.rs) q0])[u]?=some q:=hq;by_cases c:u<s.dn.length
  ·rw[RB c] at hq';exact h.dn u q hq'
  ·rw[RG (by omega)] at hq';have hu:u=s.dn.length:=by
    have:=(Qq.mp hq').1;rw[R3] at this;omega
   rw[hu,Vb] at hq';have e:bJ (aS s.rs) q0=q:=by simpa using hq'
   rw[←e];refine⟨G.nd,λc hc=>?_⟩;have p:=G.pc c hc;have hk:c.1<s.kn.length:=by omega
   have nz:s.rs.getD c.1 (0,1)≠(0,1):=by
    obtain⟨d,hd,rfl⟩:=Qg.mp hc;have m:(aS s.rs).getD d.1 0∈aS s.rs:=by
     rw[ay 0 (P5 (G.lt d hd))];exact Qx _
    exact(eB.mp m).2
   have due:=h.ok.due c.1 hk nz;refine⟨hk,?_,?_,p.2,G.ps c hc⟩
   ·show(s.kn.getD c.1 bc).1≤u;have hn:c.1<ns.length:=by rw[h.len];exact hk
    rw[h.at_ c.1 hn];have:=(h.lt (ns.getD c.1 0) (by rw[ay 0 (P5 hn)];exact Qx hn)).2;omega
   ·show u≤(s.kn.getD c.1 bc).2.1;omega
 ·intro i hi;have hi':i<s.kn.length:=hi;have a:=h.sum i hi';show val (s.kn.getD i bc).2.2=val ((f6 s.rs (bJ (aS s.rs) q0)).getD i (0,1))+nW (s.dn++[bJ (aS s.rs) q0]) i;have e:nW (s.dn++[bJ (aS s.rs) q0]) i=nW s.dn i+sQ (λc:Pc=>cj (decide (c.1=i)) (val c.2)) (bJ (aS s.rs) q0):=by
   unfold nW;rw[eh];show _+(_+0)=_;grind
  rw[e];have ar:=h.ok.am _ (fj (show i<s.rs.length by omega));rcases p9 (q:=bJ (aS s.rs) q0) (i:=i) (f:=λp=>val p.2) G.nd with y | ⟨c,hc,ei,y⟩
  ·rw[y];have m:i∉(bJ (aS s.rs) q0).map (·.1):=λm=>by
    obtain⟨c,hc,ec⟩:=Qg.mp m;have nn:=fT (f:=λp:Pc=>cj (decide (p.1=i)) (val p.2)) (λx hx=>eV _ (R7 (G.ps x hx))) y c hc;have ec':c.1=i:=ec;rw[Q9 ec',di] at nn;have:=G.ps c hc;rw[nn] at this;exact aad this (by decide)
   rw[gM _ _ m,a];grind
  ·rw[y,←ei];have p:=G.pc c hc;rw[pN _ _ G.nd hc p.1,d8 (by rw[ei];exact ar.1.pos) p.2.bq.pos,ei,a];grind
theorem I0(h:KI ws s ns)(e:s.tn=24):∀i,i<s.kn.length->val (s.kn.getD i bc).2.2=nW s.dn i:=λi hi=>by
 have hr:i<s.rs.length:=by rw[h.ok.len];exact hi
 have z:s.rs.getD i (0,1)=(0,1):=by
  apply RY;intro nz;have d:=h.ok.due i hi nz;have k:=(h.ok.kn (s.kn.getD i bc) (by rw[ay bc (P5 hi)];exact Qx hi)).2.1;omega
 have a:=h.sum i hi;rw[z,(eY (r:=(0,1)) (by decide)).mpr Z] at a;rw[a];grind
def gG(ws:List Wk)(t i:Nat):List Nat:=(P6 i).filter λj=>decide ((ws.getD j bc).1=t)
theorem lR(h:(ws.getD i bc).1=t):gG ws t (i+1)=gG ws t i++[i]:=by
 unfold gG;rw[Rr,R0,SE (p:=λj=>decide ((ws.getD j bc).1=t)) (Q9 h),Tc]
theorem qy(h:(ws.getD i bc).1≠t):gG ws t (i+1)=gG ws t i:=by
 unfold gG;rw[Rr,R0,SF (p:=λj=>decide ((ws.getD j bc).1=t)) (by rw[Sy h];decide),Tc,Rp]
theorem lM:j∈gG ws t i↔j<i/\(ws.getD j bc).1=t:=by
 unfold gG;rw[Qp,Qi,Z8]
def kQ(ws:List Wk)(t:Nat):List Nat:=(P6 t).flatMap λu=>gG ws u ws.length
theorem rV(ws:List Wk)(t:Nat):kQ ws (t+1)=kQ ws t++gG ws t ws.length:=by
 unfold kQ;rw[Rr,List.flatMap_append,List.flatMap_singleton]
theorem qq:j∈kQ ws t↔j<ws.length/\(ws.getD j bc).1<t:=by
 unfold kQ;rw[Y1];constructor
 ·rintro⟨u,hu,h⟩;have a:=lM.mp h;exact⟨a.1,by rw[a.2];exact Qi.mp hu⟩
 ·rintro⟨h1,h2⟩;exact⟨_,Qi.mpr h2,lM.mpr ⟨h1,Z⟩⟩
def oZ(ws:List Wk)(s:dY)(l:List Nat):dY:=l.foldl (λs j=>oY s (ws.getD j bc).2.1 (ws.getD j bc).2.2) s
theorem jU(ws:List Wk)(s:dY)(l:List Nat)(j:Nat):oZ ws s (l++[j])=oY (oZ ws s l) (ws.getD j bc).2.1 (ws.getD j bc).2.2:=by
 unfold oZ;rw[RS];rfl
theorem ja(ws:List Wk):∀(l:List Nat) (s:dY),(oZ ws s l).tn=s.tn/\(oZ ws s l).dn=s.dn
 | [],_=>⟨Z,Z⟩
 |j::l,s=>ja ws l (oY s (ws.getD j bc).2.1 (ws.getD j bc).2.2)
inductive wN(ws:List Wk):Nat->dY->Prop where
 |zero:wN ws 0 ⟨0,[],[],[]⟩
 |next {t:Nat} {s:dY} {q0:List Pc} (r:wN ws t s) (G:Gj (oZ ws s (gG ws t ws.length)) q0):wN ws (t+1) (Lo (oZ ws s (gG ws t ws.length)) (bJ (aS (oZ ws s (gG ws t ws.length)).rs) q0))
theorem wN.uniq(h:wN ws t s):∀{s':dY},wN ws t s'->s=s':=by
 induction h with
 |zero=>
  intro s' h'
  cases h' with
  |zero=>rfl
 |next r G ih=>
  intro s' h'
  cases h' with
  |next r' G'=>
   have e:=ih r';subst e;rw[G.wk.uniq G'.wk]
theorem wN.tn(h:wN ws t s):s.tn=t:=by
 induction h with
 |zero=>rfl
 |next r G ih=>
  show(oZ ws _ _).tn+1=_;rw[(ja ws _ _).1,ih]
theorem AH(h:∀c∈q,c.1<ns.length):bJ (ns++l) q=bJ ns q:=by
 unfold bJ;refine UC λc hc=>?_
 rw[Qa,RB (h c hc),←Qa]
theorem KI.grow(h:KI ws s ns)(l:List Nat):s.dn.map (bJ (ns++l))=s.dn.map (bJ ns):=UC λq hq=>by
 obtain⟨u,hu⟩:=RU hq;exact AH λc hc=>by rw[h.len];exact((h.dn u q hu).2 c hc).1
def fU(ps:List Pc)(j:Nat):List R:=(ps.filter λc=>decide (c.1=j)).map (·.2)
theorem En:fU (ps++[c]) c.1=fU ps c.1++[c.2]:=by
 unfold fU;rw[R0,SE (p:=λd:Pc=>decide (d.1=c.1)) (Q9 Z),Tc,Rh];rfl
theorem HY(h:c.1≠j):fU (ps++[c]) j=fU ps j:=by
 unfold fU;rw[R0,SF (p:=λd:Pc=>decide (d.1=j)) (by rw[Sy h];decide),Tc,Rp]
theorem vx{α:Type}{f:α->Rat}:∀L:List (List α),sQ f L.flatten=sQ (λq=>sQ f q) L
 | []=>rfl
 |q::L=>by
  rw[U9,eh,vx L];rfl
structure JG(ws:List Wk)(pl:List (List Pc)):Prop where
 len:pl.length=24
 few:∀q∈pl,q.length≤20
 row:∀(u:Nat) (q:List Pc),pl[u]?=some q->(q.map (·.1)).Nodup/\∀c∈q,c.1<ws.length/\(ws.getD c.1 bc).1≤u/\u≤(ws.getD c.1 bc).2.1/\dW c.2/\0<val c.2
 fin:∀j,j<ws.length->eK (fU pl.flatten j)=(ws.getD j bc).2.2
theorem EL(o:kK ws)(h:KI ws s ns)(e:s.tn=24)(all:∀j,j<ws.length->j∈ns):JG ws (s.dn.map (bJ ns)):=by
 have kl:=h.len;have row:∀(u:Nat) (q:List Pc),(s.dn.map (bJ ns))[u]?=some q->(q.map (·.1)).Nodup/\∀c∈q,c.1<ws.length/\(ws.getD c.1 bc).1≤u/\u≤(ws.getD c.1 bc).2.1/\dW c.2/\0<val c.2:=λu q hq=>by
  rw[Ql] at hq;obtain⟨q0,h0,rfl⟩:=Ro.mp hq;obtain⟨nd,pc⟩:=h.dn u q0 h0;refine⟨AG h.nd (λc hc=>by rw[kl];exact(pc c hc).1) nd,λc hc=>?_⟩;obtain⟨d,hd,rfl⟩:=Qg.mp hc;obtain⟨p1,p2,p3,p4⟩:=pc d hd;have hn:d.1<ns.length:=by omega
  have m:=(h.lt (ns.getD d.1 0) (by rw[ay 0 (P5 hn)];exact Qx hn)).1;rw[h.at_ d.1 hn] at p2 p3;exact⟨m,p2,p3,p4⟩
 refine⟨by rw[P8,h.ok.dl,e],λq hq=>?_,row,λj hj=>?_⟩
 ·obtain⟨q0,h0,rfl⟩:=Qg.mp hq;unfold bJ;rw[P8];exact(h.ok.pcs q0 h0).1
 ·obtain⟨i,hi,ei⟩:=Rt.mp (all j hj);have gi:ns.getD i 0=j:=by rw[ay 0 (P5 hi)];exact ei
  have hk:i<s.kn.length:=by omega
  have am:∀c∈(s.dn.map (bJ ns)).flatten,dW c.2:=λc hc=>by
   obtain⟨q,hq,hcq⟩:=Y3.mp hc;obtain⟨u,hu⟩:=RU hq;exact((row u q hu).2 c hcq).2.2.2.1
  obtain⟨rd,ev⟩:=je (rs:=fU (s.dn.map (bJ ns)).flatten j) λr hr=>by
   obtain⟨c,hc,rfl⟩:=Qg.mp hr;exact(am c (Qp.mp hc).1).red
  have w:=o.at hj;refine fS rd w.2.2.1.red ?_;rw[ev];have k:=I0 h e i hk;rw[h.at_ i hi,gi] at k;rw[k,lF];unfold fU nW;rw[f8,fH,vx,f8];refine aI λq hq=>?_
  obtain⟨u,hu⟩:=RU hq;unfold bJ;rw[f8];refine aI λc hc=>?_
  have c1:=((h.dn u q hu).2 c hc).1;show cj (decide (ns.getD c.1 0=j)) (val c.2)=_
  congr 1
  refine decide_eq_decide.mpr ⟨λz=>?_,λz=>by rw[z];exact gi⟩;rw[ay 0 (P5 (show c.1<ns.length by omega)),←ei] at z;exact(TM h.nd).mp z
def pW(K:P4)(C Ct:Addr):Sp:=λvs H Q E=>∃(a lk lr ld:Addr) (s:dY),vs=[.ref a]/\oo K C H a lk lr ld s/\CU s/\(s.tn=24->∀d fs,H d=none->E (.ref Ct) (some d) (upd H d (dO d fs)))∧
 (s.tn<24->∀(q0:List Pc) (v:V) (H':Hp),Gj s q0->C7 a lk lr ld H H'->oo K C H' a lk lr ld (Lo s (bJ (aS s.rs) q0))->nV K H' v (bJ (aS s.rs) q0)->Q v H')
theorem aK.steps{K:P4}{t:Addr}{H H':Hp}{xs:List V}(h:H t=some (.lst xs))(k:∀b o,b≠t->H b=some o->H' b=some o)(h':∃ys,H' t=some (.lst ys)):aK K H H':=aK.step ⟨k,⟨xs,h⟩,h'⟩
theorem qX(rs:List R)(q:List Pc)(c:Pc):f6 rs (q++[c])=(f6 rs q).set c.1 (bn ((f6 rs q).getD c.1 (0,1)) c.2):=by
 unfold f6;rw[RS];rfl
theorem qV{q:List Pc}{c:Pc}(nd:(q.map (·.1)).Nodup)(hc:q[i]?=some c):c.1∉(q.take i).map (·.1):=λm=>by
 obtain⟨hi,ei⟩:=Qq.mp hc;obtain⟨z,hz,ez⟩:=Qg.mp m;obtain⟨j,hj,ej⟩:=Rt.mp hz;have hj':=hj;rw[Rv] at hj';rw[Wg] at ej;have e:(q.map (·.1))[j]'(by rw[P8];omega)=(q.map (·.1))[i]'(by rw[P8];exact hi):=by
  rw[TV,TV,ej,ei];exact ez
 have:=(TM nd).mp e;omega
def re(K:P4):Sp:=λvs H Q _=>∃(v w:V) (r q:R) (n m:Nat),vs=[v,w]/\RV K H v r/\RV K H w q/\Wf n r/\Wf m q/\n+m+1≤3000/\qo H Q (bP r q)
def pQ(K:P4):Sp:=λvs H Q _=>∃(v w:V) (r q:R) (n m:Nat),vs=[v,w]/\RV K H v r/\RV K H w q/\Wf n r/\Wf m q/\n+m+1≤3000/\qo H Q (bn r q)
abbrev mE:=mH
def xc(K:P4):Sp:=λvs H Q _=>∃(v w:V) (r:R) (z:Int),vs=[v,w]/\RV K H v r/\RV K H w (z,1)/\Wf 800 r/\0<z/\z≤24/\qo H Q (M9 r z)
def pP(K:P4):Sp:=λvs H Q _=>∃(a:Addr) (xs:List V) (rs:List R),vs=[.ref a]/\aX K H a xs/\b8 (RV K H) xs rs/\(∀r∈rs,Bq decl_name% 12 r)/\rs.length≤20/\∀(v':V) (H':Hp),aH H H'->RV K H' v' (eK rs)->Q v' H'
def rg(K:P4):Sp:=λvs H Q _=>∃(a:Addr) (xs:List V) (rs:List R),vs=[.ref a]/\aX K H a xs/\b8 (RV K H) xs rs/\(∀r∈rs,Wf 800 r)/\rs.length≤20/\∀(v':V) (H':Hp),aH H H'->RV K H' v' (rs.foldl gE (0,1))->Q v' H'
theorem w8(h:Bq decl_name% 256 r):Wf 800 r:=h.wf (by decide) (by decide) (by decide)
theorem Lb(hs:Wf n s)(hx:Wf n x):Wf n (gE s x):=by
 unfold gE
 split
 ·exact hx
 ·exact hs
theorem y9{rs:List R}(h:rs[i]?=some r):eK (rs.take (i+1))=bP (eK (rs.take i)) r:=by
 unfold eK;rw[Q3,h,RS];rfl
def LE(K:P4)(H:Hp)(v:V)(x:Tr):Prop:=∃p y,v=.ref p/\bF K H p [.int (x.1:Nat),.int (x.2.1:Nat),y]/\RV K H y x.2.2
theorem LE.mono{K:P4}{H H':Hp}{v:V}{x:Tr}(h:LE K H v x)(t:aK K H H'):LE K H' v x:=let ⟨p,y,e,s,r⟩:=h;⟨p,y,e,t _ _ s,r.mono t⟩
def LD(K:P4)(H:Hp)(v:V)(x:Tr):Prop:=∃p y,v=.ref p/\bF K H p [.int (x.2.1:Nat),.int (x.1:Nat),y]/\RV K H y x.2.2
theorem LD.mono{K:P4}{H H':Hp}{v:V}{x:Tr}(h:LD K H v x)(t:aK K H H'):LD K H' v x:=let ⟨p,y,e,s,r⟩:=h;⟨p,y,e,t _ _ s,r.mono t⟩
structure JE(t:Nat)(sm:List Tr):Prop where
 len:sm.length≤20
 tr:∀x∈sm,x.1<20/\t≤x.2.1/\x.2.1<24/\Bq decl_name% 12 x.2.2/\0<x.2.2.1
 nd:(sm.map (·.1)).Nodup
 mean:∀x∈sm,Bq decl_name% 256 (dh t sm x)
def nZ(K:P4):Sp:=λvs H Q _=>∃(t:Nat) (a:Addr) (xs:List V) (sm:List Tr),vs=[.int (t:Nat),.ref a]/\aX K H a xs/\b8 (LE K H) xs sm/\JE t sm/\∀(v':V) (q:List Pc) (H':Hp),aH H H'->Gc t sm q->nV K H' v' q->Q v' H'
theorem O3(h:gf s)(nn:0≤s.1):gE (0,1) s=s:=by
 unfold gE cP;by_cases c:(0:Int)<s.1
 ·rw[Z9 (Q9 (by show(0:Int)*s.2<s.1*1;omega))]
 ·rw[aaa (λz=>c (by have:=aab z;have e:(0:Int)*s.2<s.1*1:=this;omega))];apply RY;intro nz;have:=io h nn (λz=>nz z.symm);omega
theorem Jq(len:sm.length≤20)(h:∀x∈sm,Bq decl_name% 12 x.2.2)(l:Nat):Bq decl_name% 240 (og sm l):=by
 refine(gL (N:=12) (by decide) λr hr=>?_).mono (RN _) ?_
 ·obtain⟨x,hx,rfl⟩:=Qg.mp hr;exact h x (Qp.mp hx).1
 ·rw[P8];have:=Q5 (λx:Tr=>decide (x.2.1≤l)) sm;omega
theorem EE(h:∀x∈sm,gf x.2.2)(pos:∀x∈sm,0≤val x.2.2)(le:t≤x.2.1):0≤(dh t sm x).1:=by
 obtain⟨rd,e⟩:=jG (t:=t) h le;refine(fY rd.pos).mp ?_;have nn:0≤dV (bQ t sm) x.2.1:=by
  unfold dV bQ;rw[f8];exact mR λy hy=>eV _ (pos y hy)
 have np:(0:Rat)<((x.2.1-t+1:Nat):Rat):=by
  rw[←Rw];have:((0:Int):Rat)<(((x.2.1-t+1:Nat):Int):Rat):=RC.mpr (by omega);exact this
 refine iy np ?_;rw[e];grind
theorem zg(hs:dW sp)(hx:dW x.2.2):dW (eP (sp,q) x).1:=by
 unfold eP
 split
 ·exact mr hs (i7 hx hs) (uA hx hs).2
 ·exact hs
theorem Jj(hx:σ[i]?=some (some x))(hy:σ[j]?=some (some y))(k:Q (if b=true then x else y) H):if b=true then yV i σ H Q else yV j σ H Q:=by
 cases b with
 |true=>exact⟨x,hx,k⟩
 |false=>exact⟨y,hy,k⟩
def k2(x:Tr):Int×Int:=((x.2.1:Nat),(x.1:Nat))
def pJ:Tr:=(0,0,(0,1))
theorem CL{K:P4}{H:Hp}:∀{ys:List V} {sm:List Tr},b8 (LD K H) ys sm->b8 (T3 K H) ys (sm.map k2)
 |_,_,.nil=>.nil
 |_,_,.cons h t=>.cons (let ⟨p,y,e,s,_⟩:=h;⟨p,y,e,s⟩) (CL t)
theorem sZ{P:V->Tr->Prop}{ys:List V}{sm:List Tr}(h:b8 P ys sm):∀{is:List Nat},(∀i∈is,i<sm.length)->b8 P (is.map λi=>ys.getD i .non) (is.map λi=>sm.getD i pJ)
 | [],_=>.nil
 |i::is,hl=>by
  refine .cons ?_ (sZ h λj hj=>hl j (Qe _ hj));have hi:=hl i Qd;have hy:i<ys.length:=by rw[h.len];exact hi
  obtain⟨d,hd,p⟩:=h.at (P5 hy);show P (ys.getD i .non) (sm.getD i pJ);rw[ay V.non (P5 hy),ay pJ hd];exact p
theorem F2{sm:List Tr}(hi:i<sm.length):(sm.map k2).getD i (0,0)=k2 (sm.getD i pJ):=by
 rw[ay pJ (P5 hi)];exact ay _ (by rw[Ql,P5 hi];rfl)
theorem Gr{sm:List Tr}(b:∀x∈sm,x.1<20){is:List Nat}(p:is.Perm (P6 sm.length))(h:(is.map λi=>k3 ((sm.map k2).getD i (0,0))).Pairwise (· < ·)):(is.map λi=>sm.getD i pJ).Perm sm/\(is.map λi=>sm.getD i pJ).Pairwise JZ:=by
 constructor
 ·refine(p.map _).trans ?_;have:(P6 sm.length).map (λi=>sm.getD i pJ)=sm:=by
   refine WK (by simp) λi h1 h2=>?_
   simp[h2]
  rw[this]
 ·rw[So] at h ⊢;refine h.imp_of_mem λ{i j} hi hj l=>?_
  have li:=Qi.mp (p.mem_iff.mp hi);have lj:=Qi.mp (p.mem_iff.mp hj);rw[F2 li,F2 lj] at l;have bi:(sm.getD i pJ).1<20:=b _ (by rw[ay pJ (P5 li)];exact Qx li);have bj:(sm.getD j pJ).1<20:=b _ (by rw[ay pJ (P5 lj)];exact Qx lj);have l':(((sm.getD i pJ).2.1:Nat):Int)*1000+((sm.getD i pJ).1:Nat)<(((sm.getD j pJ).2.1:Nat):Int)*1000+((sm.getD j pJ).1:Nat):=l;unfold JZ;omega
theorem Lf{sm:List Tr}(b:∀x∈sm,x.1<20)(nd:(sm.map (·.1)).Nodup):((sm.map k2).map k3).Nodup:=by
 rw[R6];unfold Q7 at nd ⊢;rw[So] at nd ⊢;refine nd.imp_of_mem λ{x y} hx hy ne e=>ne ?_
 have bx:=b x hx;have by':=b y hy;have e':((x.2.1:Nat):Int)*1000+(x.1:Nat)=((y.2.1:Nat):Int)*1000+(y.1:Nat):=e;omega
theorem Dk{so:List Tr}(st:R×List Pc)(h:so[i]?=some x):(so.take (i+1)).foldl eP st=eP ((so.take i).foldl eP st) x:=by
 rw[Q3,h,RS];rfl
theorem Do(h:sm[i]?=some x):(sm.take (i+1)).foldl (λs x=>gE s (dh t sm x)) (0,1)=gE ((sm.take i).foldl (λs x=>gE s (dh t sm x)) (0,1)) (dh t sm x):=by
 rw[Q3,h,RS];rfl
theorem zq(ok:JE t sm)(i:Nat):dW ((sm.take i).foldl (λs x=>gE s (dh t sm x)) (0,1)):=by
 have rd:∀x∈sm,gf x.2.2:=λx hx=>(ok.tr x hx).2.2.2.1.red
 have vn:∀x∈sm,0≤val x.2.2:=λx hx=>(fY (rd x hx).pos).mpr (by have:=(ok.tr x hx).2.2.2.2;omega)
 have key:∀(l:List Tr) (s:R),(∀x∈l,x∈sm)->dW s->dW (l.foldl (λs x=>gE s (dh t sm x)) s):=by
  intro l
  induction l with
  |nil=>intro s _ h;exact h
  |cons y l ih=>
   intro s hl h;refine ih _ (λx hx=>hl x (Qe _ hx)) ?_;have my:=hl y Qd;show dW (gE s (dh t sm y));unfold gE
   split
   ·exact⟨ok.mean y my,EE rd vn (ok.tr y my).2.1⟩
   ·exact h
 exact key _ _ (λx hx=>RW hx) wF
def lO(t:Nat)(lw ll lp:Addr):List (cM×V):=[(.inr (Qr "turn"),.int (t:Nat)),(.inr (Qr "works"),.ref lw),(.inr (Qr "left"),.ref ll),(.inr (Qr "plan"),.ref lp)]
structure yF(K:P4)(H:Hp)(h lw ll lp:Addr)(s:dY):Prop where
 dk:H h=some (.dK (lO s.tn lw ll lp))
 hk:∃xs,H lw=some (.lst xs)/\b8 (tf K H) xs s.kn
 hr:∃xs,H ll=some (.lst xs)/\b8 (RV K H) xs s.rs
 hd:∃xs,H lp=some (.lst xs)/\b8 (nV K H) xs s.dn
 n1:lw≠ll
 n2:lw≠lp
 n3:ll≠lp
theorem yF.same{K:P4}{H H':Hp}{h lw ll lp:Addr}{s:dY}(z:yF K H h lw ll lp s)(e:aH H H'):yF K H' h lw ll lp s:=by
 obtain⟨x,k1,k2⟩:=z.hk;obtain⟨y,r1,r2⟩:=z.hr;obtain⟨u,d1,d2⟩:=z.hd;have t:=aK.same (K:=K) e;exact⟨e _ _ z.dk,⟨x,e _ _ k1,k2.mono λ_ _ q=>q.mono t⟩,⟨y,e _ _ r1,r2.mono λ_ _ q=>q.mono t⟩,⟨u,e _ _ d1,d2.mono λ_ _ q=>q.mono t⟩,z.n1,z.n2,z.n3⟩
theorem MU:¬((Ut (Qr "turn"):cM)=.inr (Qr "works")):=by decide +kernel
theorem MT:¬((Ut (Qr "turn"):cM)=.inr (Qr "left")):=by decide +kernel
theorem MS:¬((Ut (Qr "turn"):cM)=.inr (Qr "plan")):=by decide +kernel
theorem N4:¬((Ut (Qr "works"):cM)=.inr (Qr "left")):=by decide +kernel
theorem N3:¬((Ut (Qr "works"):cM)=.inr (Qr "plan")):=by decide +kernel
theorem NZ:¬((Ut (Qr "left"):cM)=.inr (Qr "plan")):=by decide +kernel
section
variable {H:Hp}{h lw ll lp:Addr}{t:Nat} (e:H h=some (.dK (lO t lw ll lp)))
include e
theorem Lw:gg H h (.str (Qr "turn")) (some (.int (t:Nat))):=by
 have q:=gg.k (k:=.inr (Qr "turn")) e;unfold lO at q;rw[eZ Z] at q;exact q
theorem Jr:gg H h (.str (Qr "works")) (some (.ref lw)):=by
 have q:=gg.k (k:=.inr (Qr "works")) e;unfold lO at q;rw[cm MU,eZ Z] at q;exact q
theorem Cs:gg H h (.str (Qr "left")) (some (.ref ll)):=by
 have q:=gg.k (k:=.inr (Qr "left")) e;unfold lO at q;rw[cm MT,cm N4,eZ Z] at q;exact q
theorem Lx:gg H h (.str (Qr "plan")) (some (.ref lp)):=by
 have q:=gg.k (k:=.inr (Qr "plan")) e;unfold lO at q;rw[cm MS,cm N3,cm NZ,eZ Z] at q;exact q
theorem M5(u:Nat):qK H h (.str (Qr "turn")) (.int (u:Nat)) (upd H h (.dK (lO u lw ll lp))):=by
 have q:=qK.k (k:=.inr (Qr "turn")) (v:=.int (u:Nat)) e (by show 4<sizeLine;decide);have p:dD (lO t lw ll lp) (.inr (Qr "turn")) (.int (u:Nat))=lO u lw ll lp:=by
  unfold dD lO;rw[Z9 (by rw[S1,Q9 Z,Bool.true_or])];rw[Q1,Q1,Q1,Q1,WZ];rw[Z9 Z,aaa (λz=>MU z.symm),aaa (λz=>MT z.symm),aaa (λz=>MS z.symm)]
 rw[p] at q;exact q
theorem Kc{K:P4}(o:HO):aK K H (upd H h o):=λb xs q=>by
 rcases q with(q | ⟨o',q⟩)|q
 ·exact .inl (.inl (by rw[ao (λz=>by subst z;rw[q] at e;cases e)];exact q))
 ·exact .inl (.inr ⟨o',by rw[ao (λz=>by subst z;rw[q] at e;cases e)];exact q⟩)
 ·exact .inr q
end
def rB(K:P4):Sp:=λvs H Q _=>∃(h lw ll lp:Addr) (s:dY) (q0:List Pc),vs=[.ref h]/\yF K H h lw ll lp s/\CU s/\s.tn<24/\Gj s q0/\∀(v:V) (H':Hp),C7 h lw ll lp H H'->yF K H' h lw ll lp (Lo s (bJ (aS s.rs) q0))->nV K H' v (bJ (aS s.rs) q0)->Q v H'
theorem EG(ht:t<24)(len:sm.length≤20)(hb:∀y∈sm,Bq (DK t) 12 y.2.2)(le:t≤x.2.1)(lt:x.2.1<24):Bq decl_name% 256 (dh t sm x):=by
 have sb:Bq (DK t) 240 (og sm x.2.1):=by
  refine(gL (N:=12) (u3 t) λr hr=>?_).mono (RN _) ?_
  ·obtain⟨y,hy,rfl⟩:=Qg.mp hr;exact hb y (Qp.mp hy).1
  ·rw[P8];have:=Q5 (λy:Tr=>decide (y.2.1≤x.2.1)) sm;omega
 have en:((x.2.1:Int)-t+1)=((x.2.1-t+1:Nat):Int):=by omega
 have o:Bq (x.2.1-t+1) 1 ((1,((x.2.1-t+1:Nat):Int)):R):=⟨by show(0:Int)<_;omega,by simp,W4 _,by show(1:Int).natAbs≤1*(((x.2.1-t+1:Nat):Int)).natAbs;omega⟩;unfold dh;rw[en];refine(sb.times o).mono ?_ (by decide);refine Nat.dvd_trans (Us _ (F0 _ (by omega) (by omega))) ?_;rw[←qL];exact lW (by omega)
theorem Dy(o:CU s)(ht:s.tn<24):JE s.tn (gR s):=by
 have l1:=jC s.rs;have l2:=o.len;have l3:=o.few;have len:(gR s).length≤20:=by rw[rL];omega
 have tr:∀x∈gR s,x.1<20/\s.tn≤x.2.1/\x.2.1<24/\Bq (DK s.tn) 12 x.2.2/\0<x.2.2.1:=λx hx=>by
  obtain⟨i,hi,rfl⟩:=Qg.mp hx;obtain⟨h1,h2⟩:=eB.mp hi;have hk:i<s.kn.length:=by omega
  have a:=o.am _ (fj h1);have kk:=o.kn (s.kn.getD i bc) (by rw[ay bc (P5 hk)];exact Qx hk);have:=io a.1.red a.2 h2;exact⟨by show i<20;omega,o.due i hk h2,kk.2.1,a.1,by show 0<(s.rs.getD i (0,1)).1;omega⟩
 refine⟨len,λx hx=>?_,by rw[kf];exact vM _,λx hx=>?_⟩
 ·obtain⟨a,b,c,d,e⟩:=tr x hx;exact⟨a,b,c,d.mono (lW (by omega)) (P7 _),e⟩
 ·obtain⟨a,b,c,d,e⟩:=tr x hx;exact EG ht len (λy hy=>(tr y hy).2.2.2.1) b c
def C2(s:dY)(i:Nat):List Tr:=((P6 i).filter λj=>decide (s.rs.getD j (0,1)≠(0,1))).map λj=>((j,(s.kn.getD j bc).2.1,s.rs.getD j (0,1)):Tr)
theorem Dz(h:s.rs.getD i (0,1)≠(0,1)):C2 s (i+1)=C2 s i++[(i,(s.kn.getD i bc).2.1,s.rs.getD i (0,1))]:=by
 unfold C2;rw[Rr,R0,SE (p:=λj=>decide (s.rs.getD j (0,1)≠(0,1))) (Q9 h),Tc,Rh];rfl
theorem Gy(h:s.rs.getD i (0,1)=(0,1)):C2 s (i+1)=C2 s i:=by
 unfold C2;rw[Rr,R0,SF (p:=λj=>decide (s.rs.getD j (0,1)≠(0,1))) (by rw[h];decide),Tc,Rp]
theorem DA(s:dY)(i:Nat):(C2 s i).length≤i:=by
 unfold C2;rw[P8];have:=Q5 (λj=>decide (s.rs.getD j (0,1)≠(0,1))) (P6 i);rw[QN] at this;exact this
theorem GB(h:i.natAbs<2^n)(hn:n≤1900):Sh 0 1921 (.int i):=by
 refine⟨?_,Z,P7 _,IZ h hn⟩;show decide (i.natAbs.log2<1920)=true;refine Q9 ?_;by_cases z:i.natAbs=0
 ·rw[z];decide
 ·exact QJ ((Xu z).mpr h) (by omega)
theorem GA(h:i≤100):Sh 0 1921 (.int (i:Nat)):=GB (n:=7) (by show((i:Nat):Int).natAbs<128;omega) (by decide)
theorem Ks(h:Wf n r)(hn:n≤1900):Sh 1 3856 (dR r):=by
 refine Sh.tup (k:=0) (n:=1921) (m:=2) (λd hd=>?_) (P7 _) (by decide);simp only[Qm,Rb,or_false] at hd;rcases hd with rfl|rfl
 ·exact GB h.top hn
 ·exact GB h.bot hn
theorem Fc(h1:(s.tn:Int)≤i)(h2:i≤23):kZ s (.int i) du=(eG du&&decide (s.kn.length<20)):=by
 unfold kZ
 congr 1
 show((decide ((0:Int)≤(s.tn:Nat))&&decide (((s.tn:Nat):Int)<24))&&((decide (0≤i)&&decide (i<24))&&(decide (((s.tn:Nat):Int)≤i)&&eG du)))=eG du;rw[Q9 (show(0:Int)≤(s.tn:Nat) by omega),Q9 (show((s.tn:Nat):Int)<24 by omega),Q9 (show 0≤i by omega),Q9 (show i<24 by omega),Q9 h1];rfl
theorem fm.keep(h:fm H t l)(h1:∀o,H t=some o->H' t=some o)(h2:∀o,H l=some o->H' l=some o):fm H' t l:=by
 obtain⟨ns,p,e,f,c⟩:=h.ex;exact⟨ns,p,h1 _ e,h2 _ f,c⟩
theorem Fm(h:gf r)(p:0<r.1):eG (dR r)=true:=by
 show((decide (1≤r.2)&&decide (Qz r.1 r.2=1))&&decide (0<r.1))=true;rw[Q9 (show 1≤r.2 by have:=h.pos;omega),Q9 h.cop,Q9 p];rfl
theorem uF(h:upd (upd H dx o1) a o2 b=none)(ha:H a=none)(hd:H dx=none):H b=none:=by
 cases e:H b with
 |none=>rfl
 |some o=>
  exfalso;rw[ao (λz=>by rw[z,ha] at e;cases e),ao (λz=>by rw[z,hd] at e;cases e),e] at h
  cases h
theorem Jv(h:dR r=dR q):r=q:=by
 have z:PyData.tuple [.int r.1,.int r.2]=PyData.tuple [.int q.1,.int q.2]:=h;injection z with z;injection z with z1 z;injection z with z2 _;injection z1 with z1;injection z2 with z2;exact ZB z1 z2
theorem Kt(l20:q.length≤20)(pc:∀c∈q,c.1<20/\dW c.2):Sh 3 154588 (Md q):=by
 refine Sh.tup (k:=2) (n:=7726) (m:=20) (λd hd=>?_) (by rw[P8];exact l20) (by decide);obtain⟨c,hc,rfl⟩:=Qg.mp hd;obtain⟨c20,ac⟩:=pc c hc;refine Sh.tup (k:=1) (n:=3856) (m:=2) (λd hd=>?_) (P7 _) (by decide);simp only[Qm,Rb,or_false] at hd;rcases hd with rfl|rfl
 ·exact(GA (by omega)).mono (by decide) (by decide)
 ·exact Ks ac.wf (by decide)
theorem oo.keep{K:P4}{C:Addr}{H H':Hp}{a lk lr ld:Addr}{s:dY}(h:oo K C H a lk lr ld s)(z:∀b∈[a,lk,lr,ld],∀o,H b=some o->H' b=some o)(t:aK K H H'):oo K C H' a lk lr ld s:=by
 obtain⟨dx,i⟩:=h.ins;obtain⟨x,k1,k2⟩:=h.hk;obtain⟨y,r1,r2⟩:=h.hr;obtain⟨u,d1,d2⟩:=h.hd;exact⟨⟨dx,z _ (by simp) _ i⟩,⟨x,z _ (by simp) _ k1,k2.mono λ_ _ q=>q.mono t⟩,⟨y,z _ (by simp) _ r1,r2.mono λ_ _ q=>q.mono t⟩,⟨u,z _ (by simp) _ d1,d2.mono λ_ _ q=>q.mono t⟩,h.n1,h.n2,h.n3⟩
theorem oo.cls{K:P4}{C:Addr}{H:Hp}{a lk lr ld:Addr}{s:dY}(h:oo K C H a lk lr ld s):∀b∈[a,lk,lr,ld],∃o,H b=some o:=λb hb=>by
 obtain⟨dx,i⟩:=h.ins;obtain⟨x,k1,_⟩:=h.hk;obtain⟨y,r1,_⟩:=h.hr;obtain⟨u,d1,_⟩:=h.hd;simp only[Qm,Rb,or_false] at hb;rcases hb with rfl|rfl|rfl|rfl
 ·exact⟨_,i⟩
 ·exact⟨_,k1⟩
 ·exact⟨_,r1⟩
 ·exact⟨_,d1⟩
def tw(S:List Addr)(H H':Hp):Prop:=∀b o,b∉S->H b=some o->H' b=some o
theorem tw.trans(a:tw S H H1)(b:tw S H1 H2):tw S H H2:=λc o n e=>b c o n (a c o n e)
theorem tw.of(z:aH H H'):tw S H H':=λb o _ e=>z b o e
theorem C7.stl{a lk lr ld:Addr}{H H':Hp}(h:C7 a lk lr ld H H'):tw [a,lk,lr,ld] H H':=λb o n e=>by
 simp only[Qm,Rb,or_false,not_or] at n;exact h b o n.1 n.2.1 n.2.2.1 n.2.2.2 e
theorem tw.tp(o:HO):tw [t] H (upd H t o):=λb o' n e=>by rw[ao (λz=>n (by rw[z];exact Qj.mpr Z))];exact e
theorem BO(h1:1≤a)(h3:1≤b):0<(fo a b).1:=EC (by omega) (by omega)
theorem ED(t:Nat)(lw ll lp:Addr):ky [] (lO t lw ll lp)=lO t lw ll lp:=by
 have h1:dD ([]:List (cM×V)) (.inr (Qr "turn")) (.int (t:Nat))=[(.inr (Qr "turn"),.int (t:Nat))]:=jy _ ji;have h2:dD [((.inr (Qr "turn"),.int (t:Nat)):cM×V)] (.inr (Qr "works")) (.ref lw)=[(.inr (Qr "turn"),.int (t:Nat)),(.inr (Qr "works"),.ref lw)]:=jy _ (by rw[cm MU,ji]);have h3:dD [((.inr (Qr "turn"),.int (t:Nat)):cM×V),(.inr (Qr "works"),.ref lw)] (.inr (Qr "left")) (.ref ll)=[(.inr (Qr "turn"),.int (t:Nat)),(.inr (Qr "works"),.ref lw),(.inr (Qr "left"),.ref ll)]:=jy _ (by rw[cm MT,cm N4,ji]);have h4:dD [((.inr (Qr "turn"),.int (t:Nat)):cM×V),(.inr (Qr "works"),.ref lw),(.inr (Qr "left"),.ref ll)] (.inr (Qr "plan")) (.ref lp)=lO t lw ll lp:=jy _ (by rw[cm MS,cm N3,cm NZ,ji]);show dD (dD (dD (dD ([]:List (cM×V)) (.inr (Qr "turn")) (.int (t:Nat))) (.inr (Qr "works")) (.ref lw)) (.inr (Qr "left")) (.ref ll)) (.inr (Qr "plan")) (.ref lp)=_;rw[h1,h2,h3,h4]
theorem xW{K:P4}{H:Hp}{h lw ll lp:Addr}(g0:H h=none)(g1:upd H h (.dK []) lw=none)(g2:upd (upd H h (.dK [])) lw (.lst []) ll=none)(g3:upd (upd (upd H h (.dK [])) lw (.lst [])) ll (.lst []) lp=none) :
  upd (upd (upd (upd H h (.dK [])) lw (.lst [])) ll (.lst [])) lp (.lst []) h=some (.dK [])/\yF K (upd (upd (upd (upd (upd H h (.dK [])) lw (.lst [])) ll (.lst [])) lp (.lst [])) h (.dK (lO 0 lw ll lp))) h lw ll lp ⟨0,[],[],[]⟩/\aH H (upd (upd (upd (upd (upd H h (.dK [])) lw (.lst [])) ll (.lst [])) lp (.lst [])) h (.dK (lO 0 lw ll lp)))/\∀x∈[h,lw,ll,lp],H x=none:=by
 have n1:h≠lw:=aC ah g1;have n2:h≠ll:=aC (by rw[ao n1];exact ah) g2;have n3:h≠lp:=aC (by rw[ao n2,ao n1];exact ah) g3;have n4:lw≠ll:=aC ah g2;have n5:lw≠lp:=aC (by rw[ao n4];exact ah) g3;have n6:ll≠lp:=aC ah g3;have z1:H lw=none:=by rw[ao n1.symm] at g1;exact g1
 have z2:H ll=none:=by rw[ao n4.symm,ao n2.symm] at g2;exact g2
 have z3:H lp=none:=by rw[ao n6.symm,ao n5.symm,ao n3.symm] at g3;exact g3
 refine⟨by rw[ao n3,ao n2,ao n1];exact ah,⟨ah,⟨[],by rw[ao n1.symm,ao n5,ao n4];exact ah,.nil⟩,⟨[],by rw[ao n2.symm,ao n6];exact ah,.nil⟩,⟨[],by rw[ao n3.symm];exact ah,.nil⟩,n4,n5,n6⟩,λx o e=>?_,λx hx=>?_⟩
 ·rw[ao (aC e g0),ao (aC e z3),ao (aC e z2),ao (aC e z1),ao (aC e g0)];exact e
 ·simp only[Qm,Rb,or_false] at hx;rcases hx with rfl|rfl|rfl|rfl
  ·exact g0
  ·exact z1
  ·exact z2
  ·exact z3
theorem BY{H H1:Hp}{a dx lk lr ld:Addr}{o1 o2:HO}(ha:H a=none)(hd:H dx=none)(f1:∀b o,b≠a->upd (upd H dx o1) a o2 b=some o->H1 b=some o)(nk:upd (upd H dx o1) a o2 lk=none)(nr:upd (upd H dx o1) a o2 lr=none)(nd:upd (upd H dx o1) a o2 ld=none):aH H H1/\∀x∈[a,lk,lr,ld],H x=none:=by
 refine⟨λb o e=>?_,λx hx=>?_⟩
 ·have n1:b≠a:=λz=>by rw[z,ha] at e;cases e
  have n2:b≠dx:=λz=>by rw[z,hd] at e;cases e
  exact f1 b o n1 (by rw[ao n1,ao n2];exact e)
 ·simp only[Qm,Rb,or_false] at hx;rcases hx with rfl|rfl|rfl|rfl
  ·exact ha
  ·exact uF nk ha hd
  ·exact uF nr ha hd
  ·exact uF nd ha hd
theorem gv(z:aH H H')(e:H' x=none):H x=none:=by
 cases q:H x with
 |none=>rfl
 |some o=>rw[z x o q] at e;cases e
structure FB(H0:Hp)(a lk lr ld ln lp:Addr):Prop where
 fa:∀x∈[a,lk,lr,ld],H0 x=none
 fn:H0 ln=none
 fp:H0 lp=none
 nn:ln∉[a,lk,lr,ld]
 np:lp∉[a,lk,lr,ld]
 nl:ln≠lp
structure Bk(K:P4)(C:Addr)(H0:Hp)(a lk lr ld ln lp:Addr)(H:Hp)(s:dY)(ns:List Nat)(pl:List (List Pc)):Prop where
 sm:aH H0 H
 kp:oo K C H a lk lr ld s
 hn:H ln=some (.lst (bt ns))
 hp:∃ys,H lp=some (.lst ys)/\b8 (nV K H) ys pl
section
variable {K:P4}{C:Addr}{H0 H H':Hp}{a lk lr ld ln lp:Addr}{s s':dY}{ns:List Nat}{pl:List (List Pc)}
theorem Bk.same(h:Bk K C H0 a lk lr ld ln lp H s ns pl)(z:aH H H'):Bk K C H0 a lk lr ld ln lp H' s ns pl:=by
 obtain⟨ys,e,al⟩:=h.hp;exact⟨h.sm.trans z,h.kp.same z,z _ _ h.hn,⟨ys,z _ _ e,al.mono λ_ _ q=>q.mono (aK.same z)⟩⟩
theorem Bk.kst(h:Bk K C H0 a lk lr ld ln lp H s ns pl)(F:FB H0 a lk lr ld ln lp)(z:C7 a lk lr ld H H')(kp:oo K C H' a lk lr ld s'):Bk K C H0 a lk lr ld ln lp H' s' ns pl:=by
 obtain⟨ys,e,al⟩:=h.hp;have t:=h.kp.tst z;have zz:=C7.stl z;exact⟨λb o q=>zz b o (λm=>by rw[F.fa b m] at q;cases q) (h.sm b o q),kp,zz _ _ F.nn h.hn,⟨ys,zz _ _ F.np e,al.mono λ_ _ q=>q.mono t⟩⟩
theorem Bk.num(h:Bk K C H0 a lk lr ld ln lp H s ns pl)(F:FB H0 a lk lr ld ln lp)(j:Nat):Bk K C H0 a lk lr ld ln lp (upd H ln (.lst (bt ns++[.int (j:Nat)]))) s (ns++[j]) pl:=by
 obtain⟨ys,e,al⟩:=h.hp;have t:=aK.up (K:=K) h.hn (bt ns++[.int (j:Nat)]);refine⟨λb o q=>by rw[ao (aC q F.fn)];exact h.sm b o q,h.kp.keep (λb hb o q=>by rw[ao (λz=>F.nn (by rw[←z];exact hb))];exact q) t,?_,⟨ys,by rw[ao F.nl.symm];exact e,al.mono λ_ _ q=>q.mono t⟩⟩;rw[ah];unfold bt;rw[Rh];rfl
theorem Bk.row(h:Bk K C H0 a lk lr ld ln lp H s ns pl)(F:FB H0 a lk lr ld ln lp)(e:H lp=some (.lst ys))(al:b8 (nV K H) ys pl)(tv:nV K H v q):Bk K C H0 a lk lr ld ln lp (upd H lp (.lst (ys++[v]))) s ns (pl++[q]):=by
 have t:=aK.up (K:=K) e (ys++[v]);exact⟨λb o q=>by rw[ao (aC q F.fp)];exact h.sm b o q,h.kp.keep (λb hb o q=>by rw[ao (λz=>F.np (by rw[←z];exact hb))];exact q) t,by rw[ao F.nl];exact h.hn,⟨_,ah,(al.mono λ_ _ q=>q.mono t).snoc (tv.mono t)⟩⟩
end
def pT(K:P4):Sp:=λvs H Q _=>∃(v:V) (ws:List Wk),vs=[v]/\fu K H v ws/\kK ws/\∀(v':V) (s:dY) (H':Hp),aH H H'->wN ws 24 s->KI ws s (kQ ws 24)->Fn K H' v' (s.dn.map (bJ (kQ ws 24)))->Q v' H'
def Nm(w:Wk):Prop:=w.1≤w.2.1/\w.2.1<24/\Bq 84 12 w.2.2/\0<w.2.2.1
structure Wl(K:P4)(H0:Hp)(t l lw:Addr)(H:Hp)(ws:List Wk):Prop where
 st:tw [t] H0 H
 tb:fm H t l
 hw:∃zs,H lw=some (.lst zs)/\b8 (tf K H) zs ws
 ne:lw≠t
 nl:lw≠l
 f0:H0 lw=none
 gd:∀w∈ws,Nm w
section
variable {K:P4}{H0 H H':Hp}{t l lw:Addr}{ws:List Wk}
theorem Wl.same(h:Wl K H0 t l lw H ws)(z:aH H H'):Wl K H0 t l lw H' ws:=by
 obtain⟨zs,e,al⟩:=h.hw;exact⟨h.st.trans (tw.of z),h.tb.same z,⟨zs,z _ _ e,al.mono λ_ _ q=>q.mono (aK.same z)⟩,h.ne,h.nl,h.f0,h.gd⟩
theorem Wl.tape(h:Wl K H0 t l lw H ws)(tb:fm (upd H t (.lst xs)) t l):Wl K H0 t l lw (upd H t (.lst xs)) ws:=by
 obtain⟨zs,e,al⟩:=h.hw;obtain⟨ys,et⟩:=h.tb.lst;exact⟨h.st.trans (tw.tp _),tb,⟨zs,by rw[ao h.ne];exact e,al.mono λ_ _ q=>q.mono (aK.up et xs)⟩,h.ne,h.nl,h.f0,h.gd⟩
theorem Wl.push(h:Wl K H0 t l lw H ws)(e:H lw=some (.lst zs))(al:b8 (tf K H) zs ws)(wv:tf K H v w)(gd:Nm w):Wl K H0 t l lw (upd H lw (.lst (zs++[v]))) (ws++[w]):=by
 have t':=aK.up (K:=K) e (zs++[v]);refine⟨λb o n q=>by rw[ao (aC q h.f0)];exact h.st b o n q,h.tb.keep (λo q=>by rw[ao h.ne.symm];exact q) (λo q=>by rw[ao h.nl.symm];exact q),⟨_,ah,(al.mono λ_ _ q=>q.mono t').snoc (wv.mono t')⟩,h.ne,h.nl,h.f0,λx hx=>?_⟩;rcases QP.mp hx with z|z
 ·exact h.gd x z
 ·rw[Qj.mp z];exact gd
end
def Nf(K:P4)(H:Hp)(v:V)(x y:Int):Prop:=∃p,v=.ref p/\bF K H p [.int x,.int y]
theorem BV(ws:List Wk):(XD (ws.map C4)).canLay0=true:=kB λd hd=>by
 obtain⟨c,_,rfl⟩:=Qg.mp hd;rfl
theorem Cu(ws:List Wk):(XD (ws.map C4)).depth≤32:=by
 show UM (ws.map C4)+1≤32;have:=h9 (k:=2) (ds:=ws.map C4) λd hd=>by
  obtain⟨x,hx,rfl⟩:=Qg.mp hd;exact P7 2
 omega
def pO(K:P4):Sp:=λvs H Q _=>∃(t l:Addr) (mo tu:Int),vs=[.ref t,.int mo,.int tu]/\fm H t l/\0≤mo/\mo≤20/\1≤tu/\tu≤24/\∀(v:V) (ws:List Wk) (H':Hp),tw [t] H H'->fm H' t l->fu K H' v ws->(ws.length:Int)≤mo->(∀w∈ws,Nm w)->Q v H'
theorem nP{X:Cx}{K:P4}(hK:X.K=K):dN X (.type "tuple") (λxs H Q=>∃p ys,xs=[.ref p]/\((aX K H p ys/\∀l,H l=none->Q (.ref l) (upd H l (.tup ys)))∨(bF K H p ys/\Q (.ref p) H))):=by subst hK;exact bw
theorem yF.keep{K:P4}{H H':Hp}{h lw ll lp:Addr}{s:dY}(e:yF K H h lw ll lp s)(z:∀b∈[h,lw,ll,lp],∀o,H b=some o->H' b=some o)(t:aK K H H'):yF K H' h lw ll lp s:=by
 obtain⟨x,k1,k2⟩:=e.hk;obtain⟨y,r1,r2⟩:=e.hr;obtain⟨u,d1,d2⟩:=e.hd;exact⟨z _ (by simp) _ e.dk,⟨x,z _ (by simp) _ k1,k2.mono λ_ _ q=>q.mono t⟩,⟨y,z _ (by simp) _ r1,r2.mono λ_ _ q=>q.mono t⟩,⟨u,z _ (by simp) _ d1,d2.mono λ_ _ q=>q.mono t⟩,e.n1,e.n2,e.n3⟩
theorem yF.cls{K:P4}{H:Hp}{h lw ll lp:Addr}{s:dY}(e:yF K H h lw ll lp s):∀b∈[h,lw,ll,lp],∃o,H b=some o:=λb hb=>by
 obtain⟨x,k1,_⟩:=e.hk;obtain⟨y,r1,_⟩:=e.hr;obtain⟨u,d1,_⟩:=e.hd;simp only[Qm,Rb,or_false] at hb;rcases hb with rfl|rfl|rfl|rfl
 ·exact⟨_,e.dk⟩
 ·exact⟨_,k1⟩
 ·exact⟨_,r1⟩
 ·exact⟨_,d1⟩
structure FH(H0:Hp)(h lw ll lp ln:Addr):Prop where
 fa:∀x∈[h,lw,ll,lp],H0 x=none
 fn:H0 ln=none
 nn:ln∉[h,lw,ll,lp]
structure Bh(K:P4)(H0:Hp)(h lw ll lp ln:Addr)(H:Hp)(s:dY)(ns:List Nat):Prop where
 sm:aH H0 H
 hs:yF K H h lw ll lp s
 hn:H ln=some (.lst (bt ns))
section
variable {K:P4}{H0 H H':Hp}{h lw ll lp ln:Addr}{s s':dY}{ns:List Nat}
theorem Bh.kst(b:Bh K H0 h lw ll lp ln H s ns)(F:FH H0 h lw ll lp ln)(z:C7 h lw ll lp H H')(hs:yF K H' h lw ll lp s'):Bh K H0 h lw ll lp ln H' s' ns:=by
 have zz:=C7.stl z;exact⟨λx o q=>zz x o (λm=>by rw[F.fa x m] at q;cases q) (b.sm x o q),hs,zz _ _ F.nn b.hn⟩
theorem Bh.num(b:Bh K H0 h lw ll lp ln H s ns)(F:FH H0 h lw ll lp ln)(j:Nat):Bh K H0 h lw ll lp ln (upd H ln (.lst (bt ns++[.int (j:Nat)]))) s (ns++[j]):=by
 have t:=aK.up (K:=K) b.hn (bt ns++[.int (j:Nat)]);refine⟨λx o q=>by rw[ao (aC q F.fn)];exact b.sm x o q,b.hs.keep (λx hx o q=>by rw[ao (λz=>F.nn (by rw[←z];exact hx))];exact q) t,?_⟩;rw[ah];unfold bt;rw[Rh];rfl
theorem Bh.come(b:Bh K H0 h lw ll lp ln H s ns)(F:FH H0 h lw ll lp ln)(ek:H lw=some (.lst xk))(er:H ll=some (.lst xr))(wv:tf K H v w)(ru:RV K H u w.2.2)(e:w.1=s.tn):Bh K H0 h lw ll lp ln (upd (upd H lw (.lst (xk++[v]))) ll (.lst (xr++[u]))) (oY s w.2.1 w.2.2) ns:=by
 obtain⟨xk',ek',ak⟩:=b.hs.hk;obtain⟨xr',er',ar⟩:=b.hs.hr;obtain⟨xd,ed,ad⟩:=b.hs.hd;rw[ek] at ek';rw[er] at er';injection ek' with ek';injection ek' with ek';injection er' with er';injection er' with er';subst ek' er';have hdk:=b.hs.dk;have nlw:lw≠h:=λz=>by rw[z,hdk] at ek;cases ek
 have nll:ll≠h:=λz=>by rw[z,hdk] at er;cases er
 have t1:=aK.up (K:=K) ek (xk++[v]);have er1:upd H lw (.lst (xk++[v])) ll=some (.lst xr):=by rw[ao b.hs.n1.symm];exact er
 have t2:=aK.up (K:=K) er1 (xr++[u]);have tt:=t1.trans t2;have ew:((s.tn,w.2.1,w.2.2):Wk)=w:=by rw[←e]
 have mem:∀x∈[lw,ll],x∈[h,lw,ll,lp]:=λx hx=>by
  simp only[Qm,Rb,or_false] at hx ⊢;rcases hx with z|z
  ·exact .inr (.inl z)
  ·exact .inr (.inr (.inl z))
 refine⟨λx o q=>?_,⟨?_,⟨xk++[v],?_,?_⟩,⟨xr++[u],ah,(ar.mono λ_ _ q=>q.mono tt).snoc (ru.mono tt)⟩,⟨xd,?_,ad.mono λ_ _ q=>q.mono tt⟩,b.hs.n1,b.hs.n2,b.hs.n3⟩,?_⟩
 ·rw[ao (aC q (F.fa ll (mem ll (by simp)))),ao (aC q (F.fa lw (mem lw (by simp))))];exact b.sm x o q
 ·rw[ao nll.symm,ao nlw.symm];exact hdk
 ·rw[ao b.hs.n1];exact ah
 ·show b8 _ _ (s.kn++[(s.tn,w.2.1,w.2.2)]);rw[ew];exact(ak.mono λ_ _ q=>q.mono tt).snoc (wv.mono tt)
 ·rw[ao b.hs.n3.symm,ao b.hs.n2.symm];exact ed
 ·rw[ao (λz=>F.nn (by rw[z];exact mem ll (by simp))),ao (λz=>F.nn (by rw[z];exact mem lw (by simp)))];exact b.hn
end
def rj(K:P4):Sp:=λvs H Q _=>∃(v:V) (ws:List Wk),vs=[v]/\fu K H v ws/\kK ws/\∀(v':V) (s:dY) (H':Hp),aH H H'->wN ws 24 s->Fn K H' v' (s.dn.map (bJ (kQ ws 24)))->Q v' H'
theorem uM{X:Cx}{K:P4}(hK:X.K=K):dN X (.builtin "isinstance") (FR K):=hK▸gz
def jp(K:P4):Sp:=λvs H Q _=>∃(v u:V) (ws:List Wk) (pl:List (List Pc)),vs=[v,u]/\fu K H v ws/\kK ws/\Fn K H u pl/\JG ws pl/\∀H',aH H H'->Q (.bl true) H'
def eD(n:Nat)(ps:List Pc):List R:=(P6 n).map λj=>eK (fU ps j)
theorem jQ(ps:List Pc)(h:j<n):(eD n ps)[j]?=some (eK (fU ps j)):=by
 unfold eD;rw[Ql,Sk h];rfl
theorem Cm:(eD n ps).set c.1 (bP (eK (fU ps c.1)) c.2)=eD n (ps++[c]):=by
 refine Vc λi=>?_
 by_cases hi:i<n
 ·by_cases e:c.1=i
  ·subst e;rw[Te (by unfold eD;rw[P8,QN];exact hi),jQ _ hi,En,za]
  ·rw[RJ e,jQ _ hi,jQ _ hi,HY e]
 ·rw[Ru (by unfold eD;rw[Sf,P8,QN];omega),Ru (by unfold eD;rw[P8,QN];omega)]
theorem Cn(n:Nat):eD n []=Qn n (0,1):=by
 unfold eD;exact List.eq_replicate_iff.mpr ⟨by simp,λb hb=>by obtain⟨x,_,rfl⟩:=Qg.mp hb;rfl⟩
theorem w9(h:Bq decl_name% 131072 r):Wf 820 r:=h.wf (by decide) (by decide) (by decide)
theorem HX(h:∀c∈ps,dW c.2)(l:ps.length≤480):Wf 820 (eK (fU ps j)):=by
 refine w9 ((gL (N:=256) (by decide) λr hr=>?_).mono (RN _) ?_)
 ·obtain⟨c,hc,rfl⟩:=Qg.mp hr;exact(h c (Qp.mp hc).1).bq
 ·unfold fU;rw[P8];have:=Q5 (λc:Pc=>decide (c.1=j)) ps;omega
theorem yb{pl:List (List Pc)}(h:pl[u]?=some q):(pl.take (u+1)).flatten=(pl.take u).flatten++q:=by
 rw[Q3,h,List.flatten_append];simp
theorem Cf{pl:List (List Pc)}(few:∀q∈pl,q.length≤20):pl.flatten.length≤20*pl.length:=by
 induction pl with
 |nil=>exact P7 _
 |cons q l ih=>
  rw[U9,QC,Q2];have:=few q Qd;have:=ih λx hx=>few x (Qe _ hx)
  omega
theorem Fd{q:List Pc}(nd:(q.map (·.1)).Nodup)(i:Int):((q.map λd=>((d.1:Nat):Int)).count i)≤1:=by
 have e:(q.map λd=>((d.1:Nat):Int))=(q.map (·.1)).map λn:Nat=>(n:Int):=by rw[R6];rfl
 rw[e];refine List.nodup_iff_count.mp ?_ i;unfold Q7 at nd ⊢;rw[So];exact nd.imp λ{a b} n z=>n (by omega)
theorem BW(rs:List R):(XD (rs.map dR)).canLay0=true:=kB λd hd=>by
 obtain⟨c,_,rfl⟩:=Qg.mp hd;rfl
theorem Js(rs:List R):(XD (rs.map dR)).depth≤32:=by
 show UM (rs.map dR)+1≤32;have:=h9 (k:=1) (ds:=rs.map dR) λd hd=>by
  obtain⟨x,hx,rfl⟩:=Qg.mp hd;exact P7 1
 omega
theorem wG:∀{ys:List V} {ns:List Int},b8 (λv (b:Int)=>v=.int b) ys ns->ys=ns.map V.int
 |_,_,.nil=>rfl
 |_,_,.cons h t=>by rw[h,wG t];rfl
theorem CM:∀{ys:List V} {bs:List Bool},b8 (λv (b:Bool)=>v=.bl b) ys bs->ys=bs.map V.bl
 |_,_,.nil=>rfl
 |_,_,.cons h t=>by rw[h,CM t];rfl
theorem sy:∀rs:List R,ZT (rs.map dR) (rs.map dR)=true
 | []=>rfl
 |r::rs=>by
  show(RQ (dR r) (dR r)&&ZT (rs.map dR) (rs.map dR))=true;rw[sy rs,jP,Q9 Z];rfl
def pS(K:P4):Sp:=λvs H Q _=>∃(a:Addr) (ns:List Int),vs=[.ref a]/\aX K H a (ns.map V.int)/\ns.length≤63/\∀H',Q (.bl true) H'
theorem b8.app{α:Type}{P:V->α->Prop}:∀{ys:List V} {ds:List α} {zs:List V} {es:List α},b8 P ys ds->b8 P zs es->b8 P (ys++zs) (ds++es)
 |_,_,_,_,.nil,h=>h
 |_,_,_,_,.cons a t,h=>.cons a (b8.app t h)
theorem b8.tk{α:Type}{P:V->α->Prop}:∀(n:Nat) {ys:List V} {ds:List α},b8 P ys ds->b8 P (ys.take n) (ds.take n)
 |0,_,_,_=>.nil
 |_+1,_,_,.nil=>.nil
 |n+1,_,_,.cons a t=>.cons a (b8.tk n t)
theorem FK(o:kK ws):wM (Ju ws):=by
 refine Sh.shows (k:=4) (n:=3710192) ((Sh.tup (k:=2) (n:=12000) (m:=20) (N:=300000) (λd hd=>?_) (by rw[P8];exact o.few) (by decide)).mono (by decide) (by decide)) (by decide) (by decide);obtain⟨w,hw,rfl⟩:=Qg.mp hd;obtain⟨w1,w2,wb,_⟩:=o.wk w hw;refine Sh.tup (k:=1) (n:=3856) (m:=3) (λd hd=>?_) (P7 _) (by decide);simp only[Qm,Rb,or_false] at hd;rcases hd with rfl|rfl|rfl
 ·exact(GA (by omega)).mono (by decide) (by decide)
 ·exact(GA (by omega)).mono (by decide) (by decide)
 ·exact Ks (wb.wf (n:=20) (by decide) (by decide) (by decide)) (by decide)
theorem FL(o:kK ws)(h:JG ws pl):wM (Jw pl):=by
 have few:=o.few;refine Sh.shows (k:=4) (n:=3710192) (Sh.tup (k:=3) (n:=154588) (m:=24) (λd hd=>?_) (by rw[P8,h.len];exact P7 _) (by decide)) (by decide) (by decide);obtain⟨q,hq,rfl⟩:=Qg.mp hd;obtain⟨u,hu⟩:=RU hq;exact Kt (h.few q hq) λc hc=>by
  obtain⟨a,_,_,b,_⟩:=(h.row u q hu).2 c hc;exact⟨by omega,b⟩
theorem Fn.deep{K:P4}{H:Hp}{v:V}{pl:List (List Pc)}(h:Fn K H v pl):bD K H v (Jw pl):=by
 obtain⟨q1,x1,rfl,g1,a1⟩:=h;exact .tup g1 (a1.deep λ_ _ z=>z.deep)
theorem Fn.mono{K:P4}{H H':Hp}{v:V}{pl:List (List Pc)}(h:Fn K H v pl)(t:aK K H H'):Fn K H' v pl:=by
 obtain⟨q1,x1,rfl,g1,a1⟩:=h;exact⟨q1,x1,Z,t _ _ g1,a1.mono λ_ _ z=>z.mono t⟩
theorem GO:aG ["thing"] ["thing"] (aA Ah):=eN
theorem GW:aG ["thing","length"] ["thing","length"] (aA Az):=eN
theorem Kw:aG ["thing","count"] ["thing","count"] (aA GZ):=eN
theorem oH:aG ["one","other","high","low","rest"] ["one","other"] (aA G6):=eN
theorem uh:aG ["thing","top","bottom"] ["thing"] (aA Ag):=eN
theorem Ky:aG ["thing"] ["thing"] (aA G5):=eN
theorem ud:aG ["top","bottom","shared"] ["top","bottom"] (aA zS):=eN
theorem pY:aG ["one","other","shared","top","rest"] ["one","other"] (aA zN):=eN
theorem GE:aG ["one","other"] ["one","other"] (aA zR):=eN
theorem uc:aG ["one","other","left","right"] ["one","other"] (aA zQ):=eN
theorem GD:aG ["one","other"] ["one","other"] (aA zM):=eN
theorem GJ:aG ["one","other"] ["one","other"] (aA zX):=eN
theorem GI:aG ["one","other"] ["one","other"] (aA zV):=eN
theorem iZ:aG ["some","tops","one","so_far","bottom","top"] ["some"] (aA zP):=eN
theorem p7:aG ["some","bottom","one"] ["some"] (aA Ay):=eN
theorem ue:aG ["thing","first","last"] ["thing"] (aA zW):=eN
theorem GQ:aG ["work","turn"] ["work","turn"] (aA Ap):=eN
theorem GV:aG ["count"] ["count"] (aA Ax):=eN
theorem GN:aG ["leanings","lean","ahead","behind","numbers","bases","leaners","leaner","base"] ["leanings","lean"] (aA Af):=eN
theorem zH:aG ["count","leans","leanings","lean"] ["count","leans"] (aA GY):=eN
theorem f7:aG ["sheet","works","leanings","drawn","number","work","firsts","lasts","first","last"] ["sheet"] (aA Ae):=eN
theorem vt:aG ["works","left","windows","work","places"] ["works","left"] (aA GX):=eN
theorem GC:aG ["windows","begin","end"] ["windows","begin","end"] (aA zL):=eN
theorem g6:aG ["windows","amounts","count","best","best_load","best_length","begin","end","load","length"] ["windows","amounts","count"] (aA G4):=eN
theorem ug:aG ["works","left","windows","places"] ["works","left"] (aA Ac):=eN
theorem i3:aG ["works","told","left","waiting","layer"] ["works"] (aA zU):=eN
theorem Kx:aG ["works","layer"] ["works","layer"] (aA G2):=eN
theorem mQ:aG ["works","speeds","layer","speed","turn"] ["works"] (aA AA):=eN
theorem vv:aG ["works","leanings","waiting","earliest","like","free"] ["works","leanings","waiting"] (aA G1):=eN
theorem mP:aG ["works","leans","leanings","waiting","order","number"] ["works","leans"] (aA Ab):=eN
theorem kh:aG ["works","order","left","turn","speed","pieces","room","number","amount"] ["works","order","left","turn","speed"] (aA Ao):=eN
theorem iY:aG ["works","leans","speeds","order","left","plan","turn","number","amount"] ["works","leans","speeds"] (aA zO):=eN
theorem zI:aG ["sheet","works"] ["sheet"] (aA As):=eN
theorem FN:aG ["works","amounts","turn","numbers"] ["works","amounts","turn"] (aA G0):=eN
theorem GR:aG ["pieces","numbers"] ["pieces","numbers"] (aA Ar):=eN
theorem i4:aG ["works","keeper","numbers","plan","turn","number","work"] ["works"] (aA An):=eN
theorem GU:aG ["_law_script","_law_k"] ["_law_script","_law_k"] (aA Aw):=eN
theorem g5:aG ["_law_cell","_law_many","_law_found","_law_number","_law_mixed","_law_k"] ["_law_cell","_law_many"] (aA Am):=eN
theorem GL:aG ["_law_tape","_law_many"] ["_law_tape","_law_many"] (aA Aa):=eN
theorem uf:aG ["_law_top","_law_bottom","_law_one","_law_other"] ["_law_top","_law_bottom"] (aA z9):=eN
theorem GK:aG ["_law_one","_law_other"] ["_law_one","_law_other"] (aA z7):=eN
theorem GP:aG ["_law_one","_law_other"] ["_law_one","_law_other"] (aA Al):=eN
theorem GH:aG ["_law_one","_law_other"] ["_law_one","_law_other"] (aA zT):=eN
theorem GT:aG ["_law_one","_law_other"] ["_law_one","_law_other"] (aA Av):=eN
theorem p6:aG ["_law_some","_law_found","_law_one"] ["_law_some"] (aA Ak):=eN
theorem pZ:aG ["_law_some","_law_found","_law_one"] ["_law_some"] (aA z6):=eN
theorem fN:aG ["_law_tape","_law_most_here","_law_turns","_law_works_here","_law_k","_law_way","_law_first","_law_last","_law_amount"] ["_law_tape","_law_most_here","_law_turns"] (aA Aj):=eN
theorem eR:aG ["_law_turn","_law_some","_law_speed","_law_number","_law_last","_law_amount","_law_due","_law_pieces_here","_law_much"] ["_law_turn","_law_some"] (aA Aq):=eN
theorem kg:aG ["_law_house","_law_some","_law_number","_law_pieces_here","_law_amount"] ["_law_house"] (aA zZ):=eN
theorem mO:aG ["_law_works_here","_law_house","_law_numbers","_law_turn","_law_j"] ["_law_works_here"] (aA zY):=eN
theorem rN:aG ["_law_works_here","_law_plan","_law_done","_law_turn","_law_j","_law_amount"] ["_law_works_here","_law_plan"] (aA G3):=eN
theorem gN:aG ["_law_script","_law_k","_law_tape","_law_works_here","_law_kept_one","_law_due","_law_turn","_law_found"] ["_law_script"] (aA zK):=eN
theorem GS:aG ["self"] ["self"] (aA Au):=eN
theorem zJ:aG ["self","last","amount","work"] ["self","last","amount"] (aA At):=eN
theorem p5:aG ["self","waiting","pieces","piece"] ["self"] (aA Ai):=eN
theorem GG:aG ["self","text"] ["self","text"] (aA oJ):=eN
theorem GF:aG ["self","text"] ["self","text"] (aA oI):=eN
section
variable {P:Q4}{w:Rm}{K:P4}{mg:QX->Option Value}{base:Qo}{t:Ad}
theorem Bw(T:eJ K mg t):bC P w K mg base dU 1 t.a_Q48 t.d_Q48 ["self","text"] (xf K t.c_Q48):=by
 refine T.F_Q48.ok GG (λvs H Q E h=>?_) (λcdv A outer s H vs Q E hr h=>?_)
 ·obtain⟨_,_,rfl,_⟩:=h;rfl
 obtain⟨a,v,rfl,ha,k⟩:=h;refine dM.ok (av (vz Z (qv 0) (qv 1) Z)) ?_;nofun
 exact⟨_,Z,_,Z,a,_,_,Z,T.X_Q48.cl,T.n_Q48_text,.inl ⟨ha,k⟩⟩
theorem Im(T:eJ K mg t):bC P w K mg base dU 1 t.a_Q49 t.d_Q49 ["self","text"] (xg K t.c_Q49):=by
 refine T.F_Q49.ok GF (λvs H Q E h=>?_) (λcdv A outer s H vs Q E hr h=>?_)
 ·obtain⟨_,_,rfl,_⟩:=h;rfl
 obtain⟨a,v,rfl,ha,k⟩:=h;refine dM.ok (av (vz Z (qv 0) (qv 1) Z)) ?_;nofun
 exact⟨_,Z,_,Z,a,_,_,Z,T.X_Q49.cl,T.n_Q49_text,.inl ⟨ha,k⟩⟩
theorem uv(T:eJ K mg t):bC P w K mg base dU 1 t.a_Q30 t.d_Q30 ["thing"] (rC K):=by
 refine T.F_Q30.ok GO (λvs H Q E h=>?_) (λcdv A outer s H vs Q E hr h=>?_)
 ·obtain⟨_,_,rfl,_⟩:=h;rfl
 obtain⟨v,d,rfl,hD,k⟩:=h;obtain⟨b,c,e1,e2,e3⟩:=EO hD;refine dM.ok (av (aL (mX (aO gz (by rfl) T.z_isinstance UN (ae (qv 0) (ae (jx (v:=V.ty "int") Z T.z_int boot_int Z) ai af) af)) (mW (Hj (aO gz (by rfl) T.z_isinstance UN (ae (qv 0) (ae (jx (v:=V.ty "bool") Z T.z_bool boot_bool Z) ai af) af))))))) ?_;nofun
 rw[e3] at k;refine⟨_,Z,_,_,_,_,Z,hD,e1,_,Z,?_⟩
 cases b with
 |false=>exact k
 |true=>exact⟨_,Z,_,_,_,_,Z,hD,e2,_,Z,k⟩
theorem BF(T:eJ K mg t):bC P w K mg base dU 1 t.a_Q11 t.d_Q11 ["thing","length"] (mG K):=by
 refine T.F_Q11.ok GW (λvs H Q E h=>?_) (λcdv A outer s H vs Q E hr h=>?_)
 ·obtain⟨_,_,_,rfl,_⟩:=h;rfl
 obtain⟨v,d,m,rfl,hD,k⟩:=h;refine dM.ok (av (aL (mX (aO gz (by rfl) T.z_isinstance UN (ae (qv 0) (ae (jx (v:=V.ty "tuple") Z T.z_tuple Se Z) ai af) af)) (mW (gP gS (aO aU (by rfl) T.z_len SL (ae (qv 0) ai af)) (qv 1) (bb _)))))) ?_;nofun
 rcases EN hD with⟨e,p,xs,ds,rfl,rfl,hS,hA⟩ | ⟨e,no⟩
 ·refine⟨_,Z,_,_,_,_,Z,hD,e,_,Z,?_⟩;refine⟨_,Z,p,_,Z,.inr hS,_,Z,Z,?_⟩;have q:decide ((V.int xs.length:V)=.int m)=pI m (.tuple ds):=by
   show _=decide (ds.length=m);rw[hA.len];refine decide_eq_decide.mpr ⟨λz=>by injection z with z;omega,λz=>by rw[z]⟩
  rw[q];exact k
 ·refine⟨_,Z,_,_,_,_,Z,hD,e,_,Z,?_⟩;rw[Df no] at k;exact k
theorem FX(T:eJ K mg t):bC P w K mg base dU 2 t.a_Q7 t.d_Q7 ["thing","count"] (lh K):=by
 refine T.F_Q7.ok Kw (λvs H Q E h=>?_) (λcdv A outer s H vs Q E hr h=>?_)
 ·obtain⟨_,_,_,rfl,_⟩:=h;rfl
 obtain⟨v,d,m,rfl,hD,k⟩:=h;refine dM.ok (av (aL (mX (cT (uv T) hr T.m_Q30 T.F_Q30.kp T.b_Q30 (ae (qv 0) ai af)) (mW (rR jB mZ aj (qv 0) (qv 1)))))) ?_;nofun
 refine⟨_,Z,v,d,Z,hD,?_⟩
 cases c:gI d with
 |false=>
  rw[Ex c] at k;exact⟨_,Z,k⟩
 |true=>
  obtain⟨i,rfl⟩:=iP c
  cases hD
  have kk:Q (.bl (decide (0≤i)&&decide (i<m))) H:=k;refine⟨_,Z,?_⟩;refine⟨_,Z,_,_,Z,Z,_,Z,?_⟩;by_cases c1:0≤i
  ·refine cW c1 ?_;rw[Q9 c1,TJ] at kk;exact⟨_,Z,_,_,Z,Z,kk⟩
  ·refine cG c1 ?_;rw[Sy c1,S2] at kk;exact kk
theorem m6(T:eJ K mg t):bC P w K mg base dU 1 t.a_Q0 t.d_Q0 ["one","other"] (iE K):=by
 refine T.F_Q0.ok oH (λvs H Q E h=>?_) (λcdv A outer s H vs Q E hr h=>?_)
 ·obtain⟨_,_,rfl,_⟩:=h;rfl
 obtain⟨a,b,rfl,k⟩:=h;refine dM.ok (ag (cC 2 oH.nd (aO nQ (by rfl) T.z_abs boot_abs (ae (qv 0) ai af))) (ag (cC 3 oH.nd (aO nQ (by rfl) T.z_abs boot_abs (ae (qv 1) ai af))) (ag (jt QL (aT vI (qv 3) aj (bb _)) (ag (cC 4 oH.nd (aM g9 (qv 2) (qv 3))) (ag (cC 2 oH.nd (qv 3)) (av (cC 3 oH.nd (qv 4)))))) (av (aL (qv 2)))))) ?_
 nofun
 refine⟨_,Z,_,Z,_,Z,_,Z,?_⟩;rw[uS,uS];refine⟨λm σ H'=>∃(x y:Int) (v:Option V),σ=[some (.int a),some (.int b),some (.int x),some (.int y),v]/\H'=H/\0≤x/\0≤y/\Qz x y=Qz a b/\m=y.toNat,⟨_,_,_,_,Z,Z,by omega,by omega,(by simp[Qz]),Z⟩,?_⟩;rintro m σ H' ⟨x,y,v,rfl,rfl,hx,hy,hg,rfl⟩;refine⟨_,Z,Z,_,Z,?_⟩;by_cases c:y=0
 ·subst c;refine vV Z ?_;rw[←hg] at k;refine⟨_,Z,?_⟩;have e:(x:Int)=(Qz x 0:Nat):=by simp[Qz];omega
  rw[←e] at k;exact k
 ·refine Lg (λz=>c (by injection z)) ?_;refine⟨_,λ_ _ z=>z,?_⟩;refine⟨_,Z,_,Z,_,_,Z,Z,(by omega),_,Z,_,Z,?_⟩;refine⟨_,?_,y,x%y,_,Z,Z,hy,SR _ c,?_,Z⟩
  ·have:=SZ x (show 0<y by omega);have:=SR x c;omega
  ·rw[si hx (by omega),hg]
theorem IB(T:eJ K mg t):bC P w K mg base dU 2 t.a_Q31 t.d_Q31 ["thing"] (rD K):=by
 refine T.F_Q31.ok uh (λvs H Q E h=>?_) (λcdv A outer s H vs Q E hr h=>?_)
 ·obtain⟨_,_,rfl,_⟩:=h;rfl
 obtain⟨v,d,rfl,hD,k⟩:=h;refine dM.ok (ag (cA (eS (dg (cT (BF T) hr T.m_Q11 T.F_Q11.kp T.b_Q11 (ae (qv 0) (ae aj ai aP) af)))) (av (aL iL)) bB) (ag (cC 1 uh.nd (ci aB (qv 0) aj)) (ag (cC 2 uh.nd (ci aB (qv 0) aj)) (ag (cA (iK (js (eS (dg (cT (uv T) hr T.m_Q30 T.F_Q30.kp T.b_Q30 (ae (qv 1) ai af)))) (js (eS (dg (cT (uv T) hr T.m_Q30 T.F_Q30.kp T.b_Q30 (ae (qv 2) ai af)))) (km (aT mZ (qv 2) aj (bb _)))))) (av (aL iL)) bB) (av (aL (gP gS (cT (m6 T) hr T.m_Q0 T.F_Q0.kp T.b_Q0 (ae (qv 1) (ae (qv 2) ai af) af)) aj (bb _)))))))) ?_
 nofun
 refine⟨_,Z,v,d,2,Z,hD,⟨_,Z,?_⟩⟩
 cases c2:pI 2 d with
 |false=>
  refine iG ?_;rw[DJ c2] at k;exact k
 |true=>
  refine fC ?_;obtain⟨p,x,y,dx,dy,rfl,rfl,hS,hx,hy⟩:=hD.two c2;refine⟨_,Z,p,_,_,_,Z,Z,hS,Z,_,Z,p,_,_,_,Z,Z,hS,Z,?_⟩;refine⟨_,Z,x,dx,Z,hx,_,Z,?_⟩
  cases cx:gI dx with
  |false=>
   refine iG (iG ?_);rw[KB cx] at k;exact k
  |true=>
   refine fC ?_;refine⟨_,Z,y,dy,Z,hy,_,Z,?_⟩
   cases cy:gI dy with
   |false=>
    refine iG (iG ?_);rw[KA cy] at k;exact k
   |true=>
    refine fC ?_;obtain⟨i,rfl⟩:=iP cx;obtain⟨j,rfl⟩:=iP cy
    cases hx
    cases hy
    have kk:Q (.bl (decide (1≤j)&&decide (Qz i j=1))) H:=k;refine⟨_,Z,_,_,Z,Z,_,Z,?_⟩;by_cases c:j<1
    ·refine cW c ?_;rw[Sy (show ¬1≤j by omega)] at kk;exact kk
    ·refine cG c ?_;refine⟨_,Z,_,Z,i,j,Z,Z,?_⟩;rw[Q9 (show 1≤j by omega),TJ] at kk;have q:decide ((V.int (Qz i j:Nat):V)=.int 1)=decide (Qz i j=1):=decide_eq_decide.mpr ⟨λz=>by injection z with z;omega,λz=>by rw[z];rfl⟩;rw[q];exact kk
theorem K8(T:eJ K mg t):bC P w K mg base dU 3 t.a_Q1 t.d_Q1 ["thing"] (iW K):=by
 refine T.F_Q1.ok Ky (λvs H Q E h=>?_) (λcdv A outer s H vs Q E hr h=>?_)
 ·obtain⟨_,_,rfl,_⟩:=h;rfl
 obtain⟨v,d,rfl,hD,k⟩:=h;refine dM.ok (av (aL (mX (cT (IB T) hr T.m_Q31 T.F_Q31.kp T.b_Q31 (ae (qv 0) ai af)) (mW (gP hG (ci aB (qv 0) aj) aj (bb _)))))) ?_;nofun
 refine⟨_,Z,v,d,Z,hD,?_⟩
 cases c:kj d with
 |false=>
  rw[yx c] at k;exact⟨_,Z,k⟩
 |true=>
  obtain⟨i,j,rfl⟩:=AI c;obtain⟨p,x,y,dx,dy,rfl,e,hS,hx,hy⟩:=hD.two Z
  cases e
  cases hx
  rw[uT c] at k;exact⟨_,Z,_,Z,p,_,_,_,Z,Z,hS,Z,_,_,Z,Z,k⟩
theorem Bv(T:eJ K mg t):bC P w K mg base dU 2 t.a_Q51 t.d_Q51 ["top","bottom"] (zn K):=by
 refine T.F_Q51.ok ud (λvs H Q E h=>?_) (λcdv A outer s H vs Q E hr h=>?_)
 ·obtain⟨_,_,rfl,_⟩:=h;rfl
 obtain⟨a,b,rfl,hb,hz,k⟩:=h;refine dM.ok (ag (cA (aT gS (qv 1) aj (bb _)) (av jv) bB) (ag (cC 2 ud.nd (cT (m6 T) hr T.m_Q0 T.F_Q0.kp T.b_Q0 (ae (qv 0) (ae (qv 1) ai af) af))) (ag (cA (aT mZ (qv 1) aj (bb _)) (av (cC 2 ud.nd (rP l7 (qv 2)))) bB) (av (aL (bV (ae (aM d0 (qv 0) (qv 2)) (ae (aM d0 (qv 1) (qv 2)) ai bz) bz))))))) ?_
 nofun
 have gp:=cr (a:=a) hb;have gb:((Qz a b:Nat):Int).natAbs<2^4000:=by
  have z:Qz a b≤b.natAbs:=X1 (by omega) (by have:=Tz a b;exact Vg.mpr this);have e:((Qz a b:Nat):Int).natAbs=Qz a b:=UR _;omega
 refine⟨_,Z,Z,_,Z,?_⟩;refine cG (λz=>by injection z with z;omega) ?_;refine⟨_,rfl,_,rfl,a,b,rfl,?_⟩;refine⟨_,rfl,_,_,rfl,rfl,_,rfl,?_⟩;refine cG (by omega) ?_;refine⟨_,rfl,_,rfl,_,_,rfl,rfl,⟨gp,gb⟩,_,rfl,_,rfl,_,_,rfl,rfl,⟨gp,gb⟩,kP,λp hp=>?_⟩;exact k p hp
theorem Bu(T:eJ K mg t):bC P w K mg base dU 2 t.a_Q56 t.d_Q56 ["one","other"] (Dp K):=by
 refine T.F_Q56.ok pY (λvs H Q E h=>?_) (λcdv A outer s H vs Q E hr h=>?_)
 ·obtain⟨_,_,_,_,_,_,rfl,_⟩:=h;rfl
 obtain⟨v,w,r,q,n,m,rfl,hv,hw,wr,wq,hz,k⟩:=h;refine dM.ok (ag (cC 2 pY.nd (cT (m6 T) hr T.m_Q0 T.F_Q0.kp T.b_Q0 (ae (ci aB (qv 0) aj) (ae (ci aB (qv 1) aj) ai aF) aF))) (ag (cC 3 pY.nd (aM dP (aM cu (ci aB (qv 0) aj) (aM d0 (ci aB (qv 1) aj) (qv 2))) (aM cu (ci aB (qv 1) aj) (aM d0 (ci aB (qv 0) aj) (qv 2))))) (ag (cC 4 pY.nd (cT (m6 T) hr T.m_Q0 T.F_Q0.kp T.b_Q0 (ae (qv 3) (ae (qv 2) ai af) af))) (av (aL (bV (ae (aM d0 (qv 3) (qv 4)) (ae (aM cu (aM d0 (ci aB (qv 0) aj) (qv 2)) (aM d0 (ci aB (qv 1) aj) (qv 4))) ai bz) bz))))))) ?_
 nofun
 obtain⟨p,rfl,hv⟩:=hv;obtain⟨p',rfl,hw⟩:=hw;have c1:=bM wr.top (show n≤4000 by omega);have c2:=bM wr.bot (show n≤4000 by omega);have c3:=bM wq.top (show m≤4000 by omega);have c4:=bM wq.bot (show m≤4000 by omega);have gp:(0:Int)<(Qz r.2 q.2:Nat):=cr wq.pos;have gb:=nK (a:=r.2) wq.pos c4;refine⟨_,Z,p,_,_,_,Z,Z,hv,Z,_,Z,p',_,_,_,Z,Z,hw,Z,r.2,q.2,Z,?_⟩;have z:=A4 ⟨wr.pos,wr.cop⟩ ⟨wq.pos,wq.cop⟩;have kk:qo H Q (rT r q):=by rw[z];exact k
 unfold rT at kk;simp only at kk;generalize ((Qz r.2 q.2:Nat):Int)=d at gp gb kk ⊢;refine⟨_,Z,p,_,_,_,Z,Z,hv,Z,_,Z,p',_,_,_,Z,Z,hw,Z,_,Z,_,_,Z,Z,⟨gp,gb⟩,_,_,Z,Z,⟨c1,hZ gp c4⟩,_,Z,p',_,_,_,Z,Z,hw,Z,_,Z,p,_,_,_,Z,Z,hv,Z,_,Z,_,_,Z,Z,⟨gp,gb⟩,_,_,Z,Z,⟨c3,hZ gp c2⟩,_,_,Z,Z,?_⟩;refine⟨_,Z,_,Z,_,_,Z,?_⟩;have ep:(0:Int)<(Qz (r.1*(q.2/d)+q.1*(r.2/d)) d:Nat):=cr gp;have eb:=nK (a:=r.1*(q.2/d)+q.1*(r.2/d)) gp gb;generalize ((Qz (r.1*(q.2/d)+q.1*(r.2/d)) d:Nat):Int)=e at ep eb kk ⊢;refine⟨_,Z,_,Z,_,_,Z,Z,⟨ep,eb⟩,_,Z,p,_,_,_,Z,Z,hv,Z,_,Z,_,_,Z,Z,⟨gp,gb⟩,_,Z,p',_,_,_,Z,Z,hw,Z,_,Z,_,_,Z,Z,⟨ep,eb⟩,_,_,Z,Z,⟨hZ gp c2,hZ ep c4⟩,kP,kk⟩
theorem uu(T:eJ K mg t):bC P w K mg base dU 3 t.a_Q52 t.d_Q52 ["one","other"] (zo K):=by
 refine T.F_Q52.ok GE (λvs H Q E h=>?_) (λcdv A outer s H vs Q E hr h=>?_)
 ·obtain⟨_,_,_,_,_,_,rfl,_⟩:=h;rfl
 obtain⟨v,w,r,q,n,m,rfl,hv,hw,wr,wq,hz,k⟩:=h;refine dM.ok (av (aL (cT (Bu T) hr T.m_Q56 T.F_Q56.kp T.b_Q56 (ae (qv 0) (ae (bV (ae (rP l7 (ci aB (qv 1) aj)) (ae (ci aB (qv 1) aj) ai aF) vh)) ai dm) af)))) ?_;nofun
 obtain⟨p',rfl,hw⟩:=hw;refine⟨_,Z,_,Z,p',_,_,_,Z,Z,hw,Z,_,Z,_,Z,p',_,_,_,Z,Z,hw,Z,kP,λpt ht=>?_⟩;have s1:=au ht (.tup [.int (-q.1),.int q.2]);refine⟨v,.ref pt,r,(-q.1,q.2),n,m,Z,hv.mono (aK.same s1),RV.of ah,wr,⟨wq.pos,by show(-q.1).natAbs<_;rw[ZJ];exact wq.top,wq.bot,CB wq.cop⟩,hz,λp hp=>?_⟩;refine k _ _ (s1.trans (au hp _)) ?_;rw[←rZ];exact RV.of ah
theorem Il(T:eJ K mg t):bC P w K mg base dU 2 t.a_Q53 t.d_Q53 ["one","other"] (zm K):=by
 refine T.F_Q53.ok uc (λvs H Q E h=>?_) (λcdv A outer s H vs Q E hr h=>?_)
 ·obtain⟨_,_,_,_,_,_,rfl,_⟩:=h;rfl
 obtain⟨v,w,r,q,n,m,rfl,hv,hw,wr,wq,hz,k⟩:=h;refine dM.ok (ag (cC 2 uc.nd (cT (m6 T) hr T.m_Q0 T.F_Q0.kp T.b_Q0 (ae (ci aB (qv 0) aj) (ae (ci aB (qv 1) aj) ai aF) aF))) (ag (cC 3 uc.nd (cT (m6 T) hr T.m_Q0 T.F_Q0.kp T.b_Q0 (ae (ci aB (qv 1) aj) (ae (ci aB (qv 0) aj) ai aF) aF))) (av (aL (bV (ae (aM cu (aM d0 (ci aB (qv 0) aj) (qv 2)) (aM d0 (ci aB (qv 1) aj) (qv 3))) (ae (aM cu (aM d0 (ci aB (qv 0) aj) (qv 3)) (aM d0 (ci aB (qv 1) aj) (qv 2))) ai bz) bz)))))) ?_
 nofun
 obtain⟨p,rfl,hv⟩:=hv;obtain⟨p',rfl,hw⟩:=hw;have c1:=bM wr.top (show n≤4000 by omega);have c2:=bM wr.bot (show n≤4000 by omega);have c3:=bM wq.top (show m≤4000 by omega);have c4:=bM wq.bot (show m≤4000 by omega);have lp:(0:Int)<(Qz r.1 q.2:Nat):=cr wq.pos;have lb:=nK (a:=r.1) wq.pos c4;have mp:(0:Int)<(Qz q.1 r.2:Nat):=cr wr.pos;have mb:=nK (a:=q.1) wr.pos c2;have z:=wU ⟨wr.pos,wr.cop⟩ ⟨wq.pos,wq.cop⟩;have kk:qo H Q (mf r q):=by rw[z];exact k
 unfold mf at kk;simp only at kk;refine⟨_,Z,p,_,_,_,Z,Z,hv,Z,_,Z,p',_,_,_,Z,Z,hw,Z,r.1,q.2,Z,_,Z,p',_,_,_,Z,Z,hw,Z,_,Z,p,_,_,_,Z,Z,hv,Z,q.1,r.2,Z,?_⟩;generalize ((Qz r.1 q.2:Nat):Int)=l at lp lb kk ⊢;generalize ((Qz q.1 r.2:Nat):Int)=m' at mp mb kk ⊢;refine⟨_,Z,p,_,_,_,Z,Z,hv,Z,_,Z,_,_,Z,Z,⟨lp,lb⟩,_,Z,p',_,_,_,Z,Z,hw,Z,_,Z,_,_,Z,Z,⟨mp,mb⟩,_,_,Z,Z,⟨hZ lp c1,hZ mp c3⟩,_,Z,p,_,_,_,Z,Z,hv,Z,_,Z,_,_,Z,Z,⟨mp,mb⟩,_,Z,p',_,_,_,Z,Z,hw,Z,_,Z,_,_,Z,Z,⟨lp,lb⟩,_,_,Z,Z,⟨hZ mp c2,hZ lp c4⟩,kP,kk⟩
theorem Ii(T:eJ K mg t):bC P w K mg base dU 3 t.a_Q57 t.d_Q57 ["one","other"] (Dq K):=by
 refine T.F_Q57.ok GD (λvs H Q E h=>?_) (λcdv A outer s H vs Q E hr h=>?_)
 ·obtain⟨_,_,_,_,_,rfl,_⟩:=h;rfl
 obtain⟨v,w,r,n,m,rfl,hv,⟨pw,rfl,hw⟩,wr,m0,m24,hn,k⟩:=h;refine dM.ok (ag (cA (aT gS (ci aB (qv 1) aj) aj (bb _)) (av jv) bB) (av (aL (cT (Il T) hr T.m_Q53 T.F_Q53.kp T.b_Q53 (ae (qv 0) (ae (cT (Bv T) hr T.m_Q51 T.F_Q51.kp T.b_Q51 (ae (ci aB (qv 1) aj) (ae (ci aB (qv 1) aj) ai aF) aF)) ai ba) af))))) ?_
 nofun
 refine⟨_,Z,pw,_,_,_,Z,Z,hw,Z,Z,_,Z,cG (λz=>by injection z with z;omega) ?_⟩;refine⟨_,rfl,_,rfl,pw,_,_,_,rfl,rfl,hw,rfl,_,rfl,pw,_,_,_,rfl,rfl,hw,rfl,1,m,rfl,by omega,bM (n:=5) (by show((m:Int)).natAbs<32;omega) (by decide),λpr hpr=>?_⟩;have s1:=au hpr (.tup [.int (fo 1 m).1,.int (fo 1 m).2]);have rr:RV K _ (.ref pr) (fo 1 m):=RV.of (ah (H:=H) (a:=pr) (o:=.tup [.int (fo 1 m).1,.int (fo 1 m).2]));rw[IV m0] at rr s1 ⊢;refine⟨v,.ref pr,r,(1,(m:Int)),n,5,Z,hv.mono (aK.same s1),rr,wr,Ig m0 m24,by omega,λpt hpt=>?_⟩;exact k _ _ (s1.trans (au hpt _)) (RV.of ah)
theorem Is(T:eJ K mg t):bC P w K mg base dU 1 t.a_Q42 t.d_Q42 ["one","other"] (mH K):=by
 refine T.F_Q42.ok GJ (λvs H Q E h=>?_) (λcdv A outer s H vs Q E hr h=>?_)
 ·obtain⟨_,_,_,_,_,_,rfl,_⟩:=h;rfl
 obtain⟨v,w,r,q,n,m,rfl,hv,hw,wr,wq,hz,k⟩:=h;refine dM.ok (av (aL (gP mZ (aM cu (ci aB (qv 0) aj) (ci aB (qv 1) aj)) (aM cu (ci aB (qv 1) aj) (ci aB (qv 0) aj)) (bb _)))) ?_;nofun
 obtain⟨p,rfl,hv⟩:=hv;obtain⟨p',rfl,hw⟩:=hw;have c1:=bM wr.top (show n≤4000 by omega);have c2:=bM wr.bot (show n≤4000 by omega);have c3:=bM wq.top (show m≤4000 by omega);have c4:=bM wq.bot (show m≤4000 by omega);refine⟨_,Z,p,_,_,_,Z,Z,hv,Z,_,Z,p',_,_,_,Z,Z,hw,Z,_,_,Z,Z,⟨c1,c4⟩,_,Z,p',_,_,_,Z,Z,hw,Z,_,Z,p,_,_,_,Z,Z,hv,Z,_,_,Z,Z,⟨c3,c2⟩,_,_,Z,Z,k⟩
theorem Iq(T:eJ K mg t):bC P w K mg base dU 2 t.a_Q45 t.d_Q45 ["one","other"] (wZ K):=by
 refine T.F_Q45.ok GI (λvs H Q E h=>?_) (λcdv A outer s H vs Q E hr h=>?_)
 ·obtain⟨_,_,_,_,rfl,_⟩:=h;rfl
 obtain⟨v,w,r,q,rfl,hv,hw,ar,aq,k⟩:=h;refine dM.ok (ag (cA (dg (cT (Is T) hr T.m_Q42 T.F_Q42.kp T.b_Q42 (ae (qv 1) (ae (qv 0) ai af) af))) (av (aL (qv 1))) bB) (av (aL (qv 0)))) ?_
 nofun
 refine⟨_,Z,_,Z,w,v,q,r,800,800,Z,hw,hv,aq.wf,ar.wf,by decide,_,Z,?_⟩
 cases c:cP q r with
 |true=>exact iG ⟨_,Z,k _ (by unfold dF;rw[Z9 c];exact hw)⟩
 |false=>exact fC ⟨_,Z,k _ (by unfold dF;rw[aaa (by rw[c];exact QB)];exact hv)⟩
theorem Ik(T:eJ K mg t):bC P w K mg base dU 3 t.a_Q54 t.d_Q54 ["some"] (zk K):=by
 refine T.F_Q54.ok iZ (λvs H Q E h=>?_) (λcdv A outer s H vs Q E hr h=>?_)
 ·obtain⟨_,_,_,_,_,rfl,_⟩:=h;rfl
 obtain⟨a,xs,rs,n,D₀,rfl,hS,hR,hWD,h0,hDn₀,hlen,hn,k⟩:=h;refine dM.ok (ag (cC 1 iZ.nd AU) (ag (bT QL Z (Hi (qv 0)) (aD (i:=2) iZ.nd Z (by first|exact Q0 Z|exact QV Z)) (av (vA (fQ hr) (qv 1) (ci aB (qv 2) aj) (aM dP (AW (fQ hr) (qv 1) (ci aB (qv 2) aj) aj ⟨Z,Z,Z,Z⟩) (ci aB (qv 2) aj)) Z))) (ag (cC 3 iZ.nd (dC (v:=.ref t.c_NOUGHT) Z T.m_NOUGHT Z)) (ag (bT QL Z (AQ (qv 1)) (gO Z (aY (aD (i:=4) iZ.nd Z (by first|exact Q0 Z|exact QV Z)) (aY (aD (i:=5) iZ.nd Z (by first|exact Q0 Z|exact QV Z)) cX))) (av (cC 3 iZ.nd (cT (Bu T) hr T.m_Q56 T.F_Q56.kp T.b_Q56 (ae (qv 3) (ae (cT (Bv T) hr T.m_Q51 T.F_Q51.kp T.b_Q51 (ae (qv 5) (ae (qv 4) ai af) af)) ai ba) af))))) (av (aL (qv 3))))))) ?_
 nofun
 refine λD hDn=>⟨_,Z,?_⟩
 have sD:=au hDn (.dK []);rcases hS with hS|hS
 ·refine .inl ⟨a,Z,⟨_,sD.seq hS⟩,fR (K:=K) (a:=a) (xs:=xs) (λi σ H'=>∃(x:Option V) (ps:List (Int×Int)),σ=[some (.ref a),some (.ref D),x,none,none,none]/\aH H H'/\H' D=some (.dK (n9 ps))/\lE n i ps/\(∀p∈ps,p.1∣(D₀:Int))/\iT ps=iQ (rs.take i)) ⟨none,[],Z,sD,ah,lE.nil n,(λ_ h=>nomatch h),Z⟩ (λi σ H1 _ ⟨_,_,_,s1,_⟩=>s1.seq hS) ?_ ?_⟩
  ·rintro i y σ H1 hi ⟨x,ps,rfl,s1,hD1,ok,dv,ev⟩;obtain⟨ry,hry,hyv⟩:=hR.at hi;have my:ry∈rs:=Qf hry;have hil:=(Qq.mp hry).1;obtain⟨py,rfl,hSy⟩:=hyv.mono (aK.same s1);have el:(n9 ps).length=ps.length:=P8 _;have hlp:(n9 ps).length<sizeLine:=by rw[el];exact aQ (by have:=ok.len;omega)
   refine⟨_,Z,D,Z,.inl ⟨_,.inl hD1⟩,_,Z,py,_,_,_,Z,Z,hSy,Z,_,gg.k (k:=SG ry.2) hD1,_,Z,py,_,_,_,Z,Z,hSy,Z,tV ps ry.2,ry.1,qA ps ry.2,Z,_,Z,_,Z,py,_,_,_,Z,Z,hSy,Z,D,_,Z,qK.k (k:=SG ry.2) hD1 hlp,?_⟩;refine⟨_,gc ps ry.2 ry.1,Z,λb o q=>?_,?_,ok.add (hWD ry my).1,wJ (i:=0) (n:=0) dv (hWD ry my).2,?_⟩
   ·rw[ao (aC q hDn)];exact s1 b o q
   ·rw[qi ps _ _ ok.nd];exact ah
   ·rw[mj,ev,Q3,hry];exact(j4 _ _).symm
  ·rintro σ H1 ⟨x,ps,rfl,s1,hD1,ok,dv,ev⟩;rw[hR.1,Q6] at ev;rw[hR.1] at ok;refine⟨_,Z,D,n9 ps,Z,hD1,λob=>oS (d:=D) (ob:=ob) (kvs:=n9 ps) (λj σ H'=>∃(u:V) (acc:R) (y4 y5:Option V),σ=[some (.ref a),some (.ref D),x,some u,y4,y5]/\aH H H'/\H' D=some (.frz ob (.dK (n9 ps)))/\RV K H' u acc/\Bq D₀ (64*2^n*j) acc/\val acc=iT (ps.take j)) ⟨_,(0,1),none,none,Z,?_,ah,⟨_,Z,T.q_NOUGHT _⟩,⟨by decide,by decide,⟨(D₀:Int),by show(D₀:Int)=1*D₀;omega⟩,by show 0≤_;exact Qu _⟩,gJ⟩ (λi σ H1 ⟨_,_,_,_,_,_,z,_⟩=>z) ?_ ?_⟩
   ·intro b o q;rw[ao (aC q hDn)];exact s1 b o q
   ·rintro j kk v p σ H2 hkv ⟨u,acc,y4,y5,rfl,s2,hD2,r2,w2,ev2⟩ hp;have hkv':(ps.map λp=>((SG p.1:cM),V.int p.2))[j]?=some (kk,v):=hkv;rw[Ql] at hkv';obtain⟨q,hq,e⟩:=Ro.mp hkv'
    cases e
    have mq:=Qf hq;have hjl:=(Qq.mp hq).1;have wq:=ok.wf (by omega) mq;have lps:=ok.len;have gq:=B8 ok dv hlen mq;have wa:=CQ w2 (by omega) h0 hDn₀;have bq:=ok.bot q mq;have e1:=au hp (.tup [kV (SG q.1),V.int q.2]);refine⟨p,_,Z,bF.of ah,Z,_,_,Z,_,_,Z,Z,?_⟩;refine⟨_,Z,_,Z,_,Z,q.2,q.1,Z,bq.1,bM bq.2 (by omega),λp1 g1=>?_⟩;have e2:=au g1 (.tup [.int (fo q.2 q.1).1,.int (fo q.2 q.1).2]);refine⟨u,.ref p1,acc,fo q.2 q.1,2*n+12,n+8,Z,(r2.mono (aK.same e1)).mono (aK.same e2),RV.of ah,wa,wq,by omega,λp2 g2=>?_⟩;have e3:=au g2 (.tup [.int (bP acc (fo q.2 q.1)).1,.int (bP acc (fo q.2 q.1)).2]);have s3:=((e1.trans e2).trans e3);refine⟨_,bP acc (fo q.2 q.1),_,_,Z,s2.trans s3,s3 _ _ hD2,RV.of ah,(by rw[Xb];exact Bq.plus h0 w2 gq),?_⟩;rw[jf w2.pos wq.pos,j6 bq.1,ev2,Q3,hq];exact(j7 _ _).symm
   ·rintro σ H2 ⟨u,acc,y4,y5,rfl,s2,hD2,r2,w2,ev2⟩;have el:(n9 ps).length=ps.length:=P8 _;rw[el,Q6] at ev2;have es:=zb (λr hr=>(hWD r hr).1.red) w2.red (ev2.trans ev);rw[es] at r2;exact⟨_,Z,k u H2 s2 r2⟩
 ·refine .inr ⟨a,Z,⟨_,aK.same sD _ _ hS⟩,fX (K:=K) (a:=a) (xs:=xs) (λi σ H'=>∃(x:Option V) (ps:List (Int×Int)),σ=[some (.ref a),some (.ref D),x,none,none,none]/\aH H H'/\H' D=some (.dK (n9 ps))/\lE n i ps/\(∀p∈ps,p.1∣(D₀:Int))/\iT ps=iQ (rs.take i)) ⟨none,[],Z,sD,ah,lE.nil n,(λ_ h=>nomatch h),Z⟩ (λi σ H1 _ ⟨_,_,_,s1,_⟩=>aK.same s1 _ _ hS) ?_ ?_⟩
  ·rintro i y σ H1 hi ⟨x,ps,rfl,s1,hD1,ok,dv,ev⟩;obtain⟨ry,hry,hyv⟩:=hR.at hi;have my:ry∈rs:=Qf hry;have hil:=(Qq.mp hry).1;obtain⟨py,rfl,hSy⟩:=hyv.mono (aK.same s1);have el:(n9 ps).length=ps.length:=P8 _;have hlp:(n9 ps).length<sizeLine:=by rw[el];exact aQ (by have:=ok.len;omega)
   refine⟨_,Z,D,Z,.inl ⟨_,.inl hD1⟩,_,Z,py,_,_,_,Z,Z,hSy,Z,_,gg.k (k:=SG ry.2) hD1,_,Z,py,_,_,_,Z,Z,hSy,Z,tV ps ry.2,ry.1,qA ps ry.2,Z,_,Z,_,Z,py,_,_,_,Z,Z,hSy,Z,D,_,Z,qK.k (k:=SG ry.2) hD1 hlp,?_⟩;refine⟨_,gc ps ry.2 ry.1,Z,λb o q=>?_,?_,ok.add (hWD ry my).1,wJ (i:=0) (n:=0) dv (hWD ry my).2,?_⟩
   ·rw[ao (aC q hDn)];exact s1 b o q
   ·rw[qi ps _ _ ok.nd];exact ah
   ·rw[mj,ev,Q3,hry];exact(j4 _ _).symm
  ·rintro σ H1 ⟨x,ps,rfl,s1,hD1,ok,dv,ev⟩;rw[hR.1,Q6] at ev;rw[hR.1] at ok;refine⟨_,Z,D,n9 ps,Z,hD1,λob=>oS (d:=D) (ob:=ob) (kvs:=n9 ps) (λj σ H'=>∃(u:V) (acc:R) (y4 y5:Option V),σ=[some (.ref a),some (.ref D),x,some u,y4,y5]/\aH H H'/\H' D=some (.frz ob (.dK (n9 ps)))/\RV K H' u acc/\Bq D₀ (64*2^n*j) acc/\val acc=iT (ps.take j)) ⟨_,(0,1),none,none,Z,?_,ah,⟨_,Z,T.q_NOUGHT _⟩,⟨by decide,by decide,⟨(D₀:Int),by show(D₀:Int)=1*D₀;omega⟩,by show 0≤_;exact Qu _⟩,gJ⟩ (λi σ H1 ⟨_,_,_,_,_,_,z,_⟩=>z) ?_ ?_⟩
   ·intro b o q;rw[ao (aC q hDn)];exact s1 b o q
   ·rintro j kk v p σ H2 hkv ⟨u,acc,y4,y5,rfl,s2,hD2,r2,w2,ev2⟩ hp;have hkv':(ps.map λp=>((SG p.1:cM),V.int p.2))[j]?=some (kk,v):=hkv;rw[Ql] at hkv';obtain⟨q,hq,e⟩:=Ro.mp hkv'
    cases e
    have mq:=Qf hq;have hjl:=(Qq.mp hq).1;have wq:=ok.wf (by omega) mq;have lps:=ok.len;have gq:=B8 ok dv hlen mq;have wa:=CQ w2 (by omega) h0 hDn₀;have bq:=ok.bot q mq;have e1:=au hp (.tup [kV (SG q.1),V.int q.2]);refine⟨p,_,Z,bF.of ah,Z,_,_,Z,_,_,Z,Z,?_⟩;refine⟨_,Z,_,Z,_,Z,q.2,q.1,Z,bq.1,bM bq.2 (by omega),λp1 g1=>?_⟩;have e2:=au g1 (.tup [.int (fo q.2 q.1).1,.int (fo q.2 q.1).2]);refine⟨u,.ref p1,acc,fo q.2 q.1,2*n+12,n+8,Z,(r2.mono (aK.same e1)).mono (aK.same e2),RV.of ah,wa,wq,by omega,λp2 g2=>?_⟩;have e3:=au g2 (.tup [.int (bP acc (fo q.2 q.1)).1,.int (bP acc (fo q.2 q.1)).2]);have s3:=((e1.trans e2).trans e3);refine⟨_,bP acc (fo q.2 q.1),_,_,Z,s2.trans s3,s3 _ _ hD2,RV.of ah,(by rw[Xb];exact Bq.plus h0 w2 gq),?_⟩;rw[jf w2.pos wq.pos,j6 bq.1,ev2,Q3,hq];exact(j7 _ _).symm
   ·rintro σ H2 ⟨u,acc,y4,y5,rfl,s2,hD2,r2,w2,ev2⟩;have el:(n9 ps).length=ps.length:=P8 _;rw[el,Q6] at ev2;have es:=zb (λr hr=>(hWD r hr).1.red) w2.red (ev2.trans ev);rw[es] at r2;exact⟨_,Z,k u H2 s2 r2⟩
abbrev Yyq:=Nat->L2.St->Hp->Prop
theorem IN(T:eJ K mg t):bC P w K mg base dU 2 t.a_Q12 t.d_Q12 ["some"] (mC K):=by
 refine T.F_Q12.ok p7 (λvs H Q E h=>?_) (λcdv A outer s H vs Q E hr h=>?_)
 ·obtain⟨_,_,_,rfl,_⟩:=h;rfl
 obtain⟨a,xs,ws,rfl,hS,al,hn,ok,k⟩:=h;refine dM.ok (ag (cC 1 p7.nd aj) (ag (bT QL Z (cS (qv 0)) (aD (i:=2) p7.nd Z (by first|exact Q0 Z|exact QV Z)) (av (cC 1 p7.nd (aM cu (qv 1) (aM d0 (ci aB (qv 2) aj) (cT (m6 T) hr T.m_Q0 T.F_Q0.kp T.b_Q0 (ae (qv 1) (ae (ci aB (qv 2) aj) ai aF) af))))))) (av (aL (bX (N':=["one","bottom"]) (src:=[none,some 1]) Z (by exact(cS (qv 0))) (λ_ _ _ _ _=>(by exact(by exact aD (i:=0) (by show Q7 (["one","bottom"]:List QX);decide +kernel) (by exact Z) (by first|exact Q0 Z|exact QV Z)))) (λ_ _ _ _ _=>cR) (λ_ _ _ _ _=>(by exact(by exact(aM cu (by exact(bv (bO (K:=K) (by exact Z)) (by exact(qv 0)) aj (by exact λ_ _=>Z))) (by exact(aM d0 (by exact(qv 1)) (by exact(bv (bO (K:=K) (by exact Z)) (by exact(qv 0)) aj (by exact λ_ _=>Z))))))))) (by exact⟨Z,Z,Z,Z,trivial⟩) Z (by decide +kernel) Z (by decide +kernel) (by exact bG Z ⟨Z,trivial⟩)))))) ?_
 nofun
 have hlen:=al.len;rw[P8] at hlen;let Iv1:Yyq:=λi σ H'=>∃(B:Int) (x3:Option V),σ=[some (.ref a),some (.int B),x3]/\H'=H/\0<B/\B∣⋯/\∀w∈ws.take i,w.2.2.2∣B
 refine⟨_,Z,a,Z,⟨_,hS⟩,fR (K:=K) (a:=a) (xs:=xs) Iv1 ⟨1,none,Z,Z,by decide,⟨⋯,Z⟩,by simp⟩ (λi σ H1 _ ⟨_,_,_,e,_⟩=>by rw[e];exact hS) ?_ ?_⟩
 ·rintro i x σ H1 hx ⟨B,x3,rfl,rfl,b0,bd,all⟩;obtain⟨r,hr,px,rfl,hSx⟩:=al.at hx;rw[Ql] at hr;obtain⟨w,hw,er⟩:=Ro.mp hr;subst er;have okw:=ok w (Qf hw);have c1:=okw.am.bot;have c2:=TH (by decide) okw.am.dvd;have B84:=TH (by decide) bd;have g0:0<(Qz B w.2.2.2:Int):=cr (by omega);have g1:(Qz B w.2.2.2:Int)≤w.2.2.2:=TH (by omega) (Tz _ _);obtain⟨l0,l1,l2,l3⟩:=BU b0 (show 0<w.2.2.2 by omega) bd okw.am.dvd;refine⟨_,Z,_,Z,px,_,_,_,Z,Z,hSx,Z,_,Z,_,Z,px,_,_,_,Z,Z,hSx,Z,B,w.2.2.2,Z,_,_,Z,Z,⟨g0,yu (by omega) (by omega)⟩,_,_,Z,Z,⟨yu (by omega) (by omega),yu (Ub (by omega) (by omega)) (Int.le_trans (WL _ (by omega)) (by omega))⟩,?_⟩;refine⟨_,_,Z,Z,l0,l1,λz hz=>?_⟩;rw[Q3,hw] at hz;rcases QP.mp hz with h|h
  ·exact UI (all z h) l2
  ·have:z=w:=by simpa using h
   subst this;exact l3
 ·rintro σ H1 ⟨B,x3,rfl,rfl,b0,bd,all⟩;rw[hlen,Q6] at all;have B84:=TH (by decide) bd;refine⟨_,Z,a,Z,⟨_,hS⟩,λD hD=>dX (ii hS) (λ_=>true) (λi=>V.int ((ft B ws).getD i 0)) hD (by omega) (λi x H' hi s' hx R E kR kE=>?_) λH4 s4 h4=>?_⟩
  ·obtain⟨r,hr,px,rfl,hSx⟩:=al.at hx;rw[Ql] at hr;obtain⟨w,hw,er⟩:=Ro.mp hr;subst er;have okw:=ok w (Qf hw);have t':=aK.same (K:=K) s';have e:(ft B ws).getD i 0=w.2.2.1*(B/w.2.2.2):=ay 0 (by unfold ft;rw[Ql,hw];rfl);have q:=kR Z _ (aH.refl _);rw[e] at q;have:=okw.am.bot;have:=TH (by decide) okw.am.dvd;have:=okw.am.top;have:=okw.am.top';exact⟨gD.set Z,_,Z,px,_,_,_,Z,Z,t' _ _ hSx,Z,_,Z,_,Z,px,_,_,_,Z,Z,t' _ _ hSx,Z,_,_,Z,Z,⟨by omega,yu (by omega) (by omega)⟩,_,_,Z,Z,⟨yu (by omega) (by omega),yu (Ub (by omega) (by omega)) (Int.le_trans (WL _ (by omega)) (by omega))⟩,q⟩
  ·refine k D B H4 s4 hD b0 bd all ?_;rw[h4,show xs.length=(ft B ws).length by unfold ft;rw[P8];exact hlen,eE 0 V.int]
theorem Ir(T:eJ K mg t):bC P w K mg base dU 4 t.a_Q43 t.d_Q43 ["thing"] (tZ K):=by
 refine T.F_Q43.ok ue (λvs H Q E h=>?_) (λcdv A outer s H vs Q E hr h=>?_)
 ·obtain⟨_,_,rfl,_⟩:=h;rfl
 obtain⟨v,d,rfl,hD,k⟩:=h;refine dM.ok (ag (cA (eS (dg (cT (BF T) hr T.m_Q11 T.F_Q11.kp T.b_Q11 (ae (qv 0) (ae aj ai aP) af)))) (av (aL iL)) bB) (ag (cC 1 ue.nd (ci aB (qv 0) aj)) (ag (cC 2 ue.nd (ci aB (qv 0) aj)) (ag (cA (iK (js (eS (dg (cT (FX T) hr T.m_Q7 T.F_Q7.kp T.b_Q7 (ae (qv 1) (ae (dC (v:=.int (24)) Z T.m_TURNS ⟨_,Z⟩) ai af) af)))) (km (eS (dg (cT (FX T) hr T.m_Q7 T.F_Q7.kp T.b_Q7 (ae (qv 2) (ae (dC (v:=.int (24)) Z T.m_TURNS ⟨_,Z⟩) ai af) af))))))) (av (aL iL)) bB) (av (aL (mX (gP jB (qv 1) (qv 2) (bb _)) (mW (cT (K8 T) hr T.m_Q1 T.F_Q1.kp T.b_Q1 (ae (ci aB (qv 0) aj) ai aF)))))))))) ?_
 nofun
 refine⟨_,Z,v,d,3,Z,hD,⟨_,Z,?_⟩⟩
 cases c3:pI 3 d with
 |false=>
  refine iG ?_;rw[yK c3] at k;exact k
 |true=>
  refine fC ?_;obtain⟨p,x,y,z,dx,dy,dz,rfl,rfl,hS,hx,hy,hz⟩:=bD.three hD c3;have kk:Q (.bl (m8 24 dx&&(m8 24 dy&&(MR dx dy&&eG dz)))) H:=k;refine⟨_,Z,p,_,_,_,Z,Z,hS,Z,_,Z,p,_,_,_,Z,Z,hS,Z,?_⟩;refine⟨_,Z,x,dx,24,Z,hx,_,Z,?_⟩
  cases cx:m8 24 dx with
  |false=>
   rw[cx,S2] at kk;exact iG (iG kk)
  |true=>
   rw[cx,TJ] at kk;refine fC ?_;refine⟨_,Z,y,dy,24,Z,hy,_,Z,?_⟩
   cases cy:m8 24 dy with
   |false=>
    rw[cy,S2] at kk;exact iG kk
   |true=>
    rw[cy,TJ] at kk;refine fC ?_;obtain⟨i,rfl,_⟩:=m7 cx;obtain⟨j,rfl,_⟩:=m7 cy
    cases hx
    cases hy
    have k3:Q (.bl (decide (i≤j)&&eG dz)) H:=kk;refine⟨_,Z,_,Z,_,_,Z,Z,_,Z,?_⟩;by_cases c:i≤j
    ·rw[Q9 c,TJ] at k3;refine cW c ?_;exact⟨_,Z,p,_,_,_,Z,Z,hS,Z,z,dz,Z,hz,k3⟩
    ·rw[Sy c,S2] at k3;exact cG c k3
theorem BB(T:eJ K mg t):bC P w K mg base dU 1 t.a_Q21 t.d_Q21 ["work","turn"] (pU K):=by
 refine T.F_Q21.ok GQ (λvs H Q E h=>?_) (λcdv A outer s H vs Q E hr h=>?_)
 ·obtain⟨_,_,_,rfl,_⟩:=h;rfl
 obtain⟨v,w,t₀,rfl,⟨p,x,rfl,hS,rx⟩,k⟩:=h;refine dM.ok (av (aL (rR jB jB (ci aB (qv 0) aj) (qv 1) (ci aB (qv 0) aj)))) ?_;nofun
 refine⟨_,Z,p,_,_,_,Z,Z,hS,Z,_,Z,_,_,Z,Z,_,Z,?_⟩;by_cases c:w.1≤t₀
 ·refine cW (by omega) ?_;have e:fD w t₀=decide ((t₀:Int)≤(w.2.1:Int)):=by
   unfold fD;rw[Q9 c,TJ];exact decide_eq_decide.mpr (by omega)
  rw[e] at k;exact⟨_,Z,p,_,_,_,Z,Z,hS,Z,_,_,Z,Z,k⟩
 ·refine cG (by omega) ?_;have e:fD w t₀=false:=by
   unfold fD;rw[Sy c,S2]
  rw[e] at k;exact k
theorem IM(T:eJ K mg t):bC P w K mg base dU 1 t.a_Q13 t.d_Q13 ["count"] (mD K):=by
 refine T.F_Q13.ok GV (λvs H Q E h=>?_) (λcdv A outer s H vs Q E hr h=>?_)
 ·obtain⟨_,rfl,_⟩:=h;rfl
 obtain⟨n,rfl,hn,k⟩:=h;refine dM.ok (av (aL (bX (N':=["work","count"]) (src:=[none,some 0]) Z (by exact(cI Z T.z_range (ae (qv 0) ai af))) (λ_ _ _ _ _=>(by exact(by exact aD (i:=0) (by show Q7 (["work","count"]:List QX);decide +kernel) (by exact Z) (by first|exact Q0 Z|exact QV Z)))) (λ_ _ _ _ _=>cR) (λ_ _ _ _ _=>(by exact(by exact(aM qk (by exact(bW (ae iL ai aP))) (by exact(qv 1)))))) (by exact⟨Z,Z,Z,Z,trivial⟩) Z (by decide +kernel) Z (by decide +kernel) (by exact bG Z ⟨Z,trivial⟩)))) ?_;nofun
 refine⟨_,Z,n,Z,by omega,by omega,λD hD=>CC (J:=Gh 0 n) (n:=n) (λi ys H'=>∃rows:List Addr,ys=rows.map V.ref/\rows.length=i/\rows.Nodup/\D∉rows/\(∀r∈rows,H r=none)/\aH H H'/\H' D=some (.lst ys)/\∀r∈rows,H' r=some (.lst (xm n λ_=>false))) ⟨[],Z,Z,TR,(λz=>by cases z),(λr hr=>by cases hr),au hD _,ah,λr hr=>by cases hr⟩ (λi ys H' hi _=>hi) (λys H' ⟨rows,e1,e2,e3,e4,e5,e6,e7,e8⟩=>⟨P7 _,k D rows H' e6 hD e5 ⟨by rw[e7,e1],e2,e3,e4,λi r e=>e8 r (Qf e)⟩⟩) ?_⟩;rintro i ys H1 x H2 hi ⟨rows,rfl,e2,e3,e4,e5,e6,e7,e8⟩ ⟨rfl,rfl⟩ R E kR kE;refine⟨gD.set Z,?_⟩;refine⟨Fs,λq hq=>?_⟩;have s1:=au hq (.lst [.bl false]);refine⟨_,Z,q,.bl false,n,Z,Z,ah,by omega,λr hr=>?_⟩;have s2:=au hr (.lst (Qn n (.bl false)));have s12:=s1.trans s2;have nr:r∉rows:=λm=>by rw[s1 _ _ (e8 r m)] at hr;cases hr
 have nD:r≠D:=λz=>by subst z;rw[s1 _ _ e7] at hr;cases hr
 have er:Qn n (V.bl false)=xm n λ_=>false:=by
  unfold xm;apply Vc;intro j;rw[UV,Ql];by_cases c:j<n
  ·rw[Z9 c,Sk c];rfl
  ·rw[aaa c,Ru (by rw[QN];omega)];rfl
 have hD4:=s12 _ _ e7;refine kR (.ref r) _ hD4 (aQ (by rw[P8];omega)) ⟨rows++[r],by rw[Rh];rfl,by rw[QC,e2];rfl,?_,?_,λz hz=>?_,λb o q=>?_,ah,λz hz=>?_⟩
 ·rw[R8];exact⟨e3,Rq.mpr ⟨(λz=>by cases z),TR⟩,λa ha b hb=>by rw[Qj.mp hb];exact λz=>nr (by rw[←z];exact ha)⟩
 ·intro m;rcases QP.mp m with z|z
  ·exact e4 z
  ·exact nD (Qj.mp z).symm
 ·rcases QP.mp hz with y|y
  ·exact e5 z y
  ·rw[Qj.mp y]
   cases c:H r with
   |none=>rfl
   |some o=>rw[s1 _ _ (e6 _ _ c)] at hr;cases hr
 ·rw[ao (aC q hD)];exact s12 _ _ (e6 _ _ q)
 ·rcases QP.mp hz with y|y
  ·rw[ao (show z≠D from λw=>e4 (by rw[←w];exact y))];exact s12 _ _ (e8 z y)
  ·rw[Qj.mp y,ao nD,ah,er]
theorem IA(T:eJ K mg t):bC P w K mg base dU 1 t.a_Q32 t.d_Q32 ["leanings","lean"] (rK K):=by
 exact T.F_Q32.ok GN (λvs H Q E h=>h.elim) (λcdv A outer s H vs Q E hr h=>h.elim)
theorem FW(T:eJ K mg t):bC P w K mg base dU 2 t.a_Q8 t.d_Q8 ["count","leans"] (lu K):=by
 refine T.F_Q8.ok zH (λvs H Q E h=>?_) (λcdv A outer s H vs Q E hr h=>?_)
 ·obtain⟨_,_,_,rfl,_⟩:=h;rfl
 obtain⟨n,v,es,rfl,⟨p,xs,rfl,hS,al⟩,ok,hn,k⟩:=h;refine dM.ok (ag (cC 2 zH.nd (cT (IM T) hr T.m_Q13 T.F_Q13.kp T.b_Q13 (ae (qv 0) ai af))) (ag (bT QL Z (dZ (qv 1)) (aD (i:=3) zH.nd Z (by first|exact Q0 Z|exact QV Z)) (av (bS (cT (IA T) hr T.m_Q32 T.F_Q32.kp T.b_Q32 (ae (qv 2) (ae (qv 3) ai af) af))))) (av (aL (qv 2))))) ?_
 nofun
 refine⟨_,Z,n,Z,hn,λl rows H1 s1 hl hr m1=>?_⟩;have hS1:=aK.same (K:=K) s1 _ _ hS;have sm:∀H',Kp rows H1 H'->aH H H':=λH' kp b o e=>kp.keep b o (λz=>by rw[hr b z] at e;cases e) (s1 _ _ e)
 let Iv1:Yyq:=λi σ H'=>∃(L:Nat->Nat->Bool) (x4:Option V),σ=[some (.int n),some (.ref p),some (.ref l),x4]/\Kp rows H1 H'/\C6 H' l rows n L/\Ml n (es.take i) L
 refine⟨_,Z,p,Z,⟨_,hS1⟩,fX (K:=K) (a:=p) (xs:=xs) Iv1 ⟨_,none,Z,Kp.same (aH.refl _) m1.ls,m1,by rw[XA];exact Fe n⟩ (λi σ H' _ ⟨_,_,_,kp,_⟩=>aK.kp (K:=K) kp _ _ hS1) ?_ ?_⟩
 ·rintro i x σ H2 hx ⟨L,x4,rfl,kp2,m2,c2⟩;obtain⟨⟨a,b⟩,hd,lv⟩:=al.at hx;rw[show es=[] from ok] at hd
  cases hd
 ·rintro σ H2 ⟨L,x4,rfl,kp2,m2,c2⟩;rw[al.len,Q6] at c2;exact⟨_,Z,k l rows L H2 (sm _ kp2) m2 c2⟩
theorem Iz(T:eJ K mg t):bC P w K mg base dU 3 t.a_Q33 t.d_Q33 ["sheet"] (rH K):=by
 refine T.F_Q33.ok f7 (λvs H Q E h=>?_) (λcdv A outer s H vs Q E hr h=>?_)
 ·obtain⟨_,_,_,rfl,_⟩:=h;rfl
 obtain⟨v,ws,es,rfl,⟨p,a,b,rfl,hS,wv,lv⟩,ok,nb_,k⟩:=h;refine dM.ok (ag (cC 1 f7.nd (ci aB (qv 0) aj)) (ag (cC 2 f7.nd (cT (FW T) hr T.m_Q8 T.F_Q8.kp T.b_Q8 (ae (aO aU (by rfl) T.z_len SL (ae (qv 1) ai af)) (ae (ci aB (qv 0) aj) ai aF) ba))) (ag (cC 3 f7.nd (bW ai)) (ag (bT QL Z (jw Z T.z_enumerate (ae (qv 1) ai af)) (gO Z (aY (aD (i:=4) f7.nd Z (by first|exact Q0 Z|exact QV Z)) (aY (aD (i:=5) f7.nd Z (by first|exact Q0 Z|exact QV Z)) cX))) (ag (ju (i:=6) (N':=["base","other","leanings","number"]) (src:=[none,none,some 2,some 4]) f7.nd Z (by first|exact Q0 Z|exact QV Z) Z (by exact(jw Z T.z_enumerate (ae (qv 1) ai af))) (λ_ _ _ _ _=>(by exact(by exact ir (K:=K) (n:=2) (by exact Z) (by exact Z) (by exact aY (by exact aD (i:=0) (by show Q7 (["base","other","leanings","number"]:List QX);decide +kernel) (by exact Z) (by first|exact Q0 Z|exact QV Z)) (by exact aY (by exact aD (i:=1) (by show Q7 (["base","other","leanings","number"]:List QX);decide +kernel) (by exact Z) (by first|exact Q0 Z|exact QV Z)) cX))))) (λ_ _ _ _ _=>(fB (dg (by exact(bv (dA (K:=K) (by exact Z)) (by exact(bv (dA (K:=K) (by exact Z)) (by exact(qv 2)) (by exact(qv 3)) (by exact λ_ _=>Z))) (by exact(qv 0)) (by exact λ_ _=>Z)))))) (λ_ _ _ _ _=>(by exact(by exact(bv (bO (K:=K) (by exact Z)) (by exact(qv 1)) aj (by exact λ_ _=>Z))))) (by exact⟨Z,Z,Z,Z,⟨Z,Z,Z,Z,trivial⟩⟩) Z (by decide +kernel) Z (by decide +kernel) (by exact bG Z ⟨Z,⟨Z,trivial⟩⟩)) (ag (ju (i:=7) (N':=["leaner","other","number","leanings"]) (src:=[none,none,some 4,some 2]) f7.nd Z (by first|exact Q0 Z|exact QV Z) Z (by exact(jw Z T.z_enumerate (ae (qv 1) ai af))) (λ_ _ _ _ _=>(by exact(by exact ir (K:=K) (n:=2) (by exact Z) (by exact Z) (by exact aY (by exact aD (i:=0) (by show Q7 (["leaner","other","number","leanings"]:List QX);decide +kernel) (by exact Z) (by first|exact Q0 Z|exact QV Z)) (by exact aY (by exact aD (i:=1) (by show Q7 (["leaner","other","number","leanings"]:List QX);decide +kernel) (by exact Z) (by first|exact Q0 Z|exact QV Z)) cX))))) (λ_ _ _ _ _=>(fB (dg (by exact(bv (dA (K:=K) (by exact Z)) (by exact(bv (dA (K:=K) (by exact Z)) (by exact(qv 3)) (by exact(qv 0)) (by exact λ_ _=>Z))) (by exact(qv 2)) (by exact λ_ _=>Z)))))) (λ_ _ _ _ _=>(by exact(by exact(bv (bO (K:=K) (by exact Z)) (by exact(qv 1)) aj (by exact λ_ _=>Z))))) (by exact⟨Z,Z,Z,Z,⟨Z,Z,Z,Z,trivial⟩⟩) Z (by decide +kernel) Z (by decide +kernel) (by exact bG Z ⟨Z,⟨Z,trivial⟩⟩)) (ag (cC 8 f7.nd (aO (yn Z) (by rfl) T.z_max boot_max (ae (aM Bs (bW (ae (ci aB (qv 5) aj) ai aF)) (qv 6)) ai bz))) (ag (cC 9 f7.nd (aO (o0 Z) (by rfl) T.z_min boot_min (ae (aM Bs (bW (ae (ci aB (qv 5) aj) ai aF)) (qv 7)) ai bz))) (ag (cA (aT hG (qv 8) (qv 9) (bb _)) (av jv) bB) (av (bS (dJ Qy QF QH bA (qv 3) (ae (bV (ae (qv 8) (ae (qv 9) (ae (ci aB (qv 5) aj) ai aF) af) af)) ai dm)))))))))) (av (aL (bY bw (by rfl) T.z_tuple Se (ae (qv 3) ai af)))))))) ?_
 nofun
 obtain⟨pa,xs,rfl,hpa,al⟩:=id wv;have hxl:=al.len;have few:=ok.few;obtain⟨f,l_,win⟩:=iI.ex ws es;refine⟨_,Z,p,_,_,_,Z,Z,hS,Z,?_⟩;refine⟨_,Z,pa,_,Z,.inr hpa,_,Z,p,_,_,_,Z,Z,hS,Z,ws.length,b,es,(by rw[hxl];rfl),lv,ok.es,by omega,λl rows L H1 s1 MX1 clo=>?_⟩;refine⟨(by show 0≤sizeLine;exact Qu _),λdl hdl=>?_⟩;have s2:=au hdl (.lst []);have hd2:upd H1 dl (.lst []) dl=some (.lst []):=ah;have MX2:=MX1.same s2;have s02:=s1.trans s2;generalize upd H1 dl (.lst [])=H2 at s2 hd2 MX2 s02 ⊢;have hdN:H dl=none:=by
  cases e:H dl with
  |none=>rfl
  |some o=>rw[s1 _ _ e] at hdl;cases hdl
 have ndl:dl≠l:=λz=>by subst z;rw[MX1.top] at hdl;cases hdl
 have ndr:dl∉rows:=λz=>by obtain⟨ys,e⟩:=MX1.ls _ z;rw[hdl] at e;cases e
 have t02:=aK.same (K:=K) s02;have mst:∀H',eI dl H2 H'->C6 H' l rows ws.length L:=λH' S=>⟨S.keep _ _ (λz=>ndl z.symm) MX2.top,MX2.len,MX2.nd,MX2.ne,λi r e=>S.keep _ _ (λz=>ndr (by rw[←z];exact Qf e)) (MX2.row i r e)⟩
 have sst:∀H',eI dl H2 H'->aH H H':=λH' S b' o e=>S.keep b' o (λz=>by subst z;rw[hdN] at e;cases e) (s02 _ _ e)
 let Iv1:Yyq:=λi σ H'=>∃(ys:List V) (x5 x6 x7 x8 x9 x10:Option V),σ=[some (.ref p),some (.ref pa),some (.ref l),some (.ref dl),x5,x6,x7,x8,x9,x10]/\eI dl H2 H'/\H' dl=some (.lst ys)/\ys.length=i/\bu K H' ys ((P6 i).map (yi ws f l_))/\∀j,j<i->f j≤l_ j
 refine⟨_,Z,pa,Z,⟨_,t02 _ _ hpa⟩,sj (K:=K) (a:=pa) (xs:=xs) Iv1 ⟨[],none,none,none,none,none,none,Z,eI.refl ⟨_,hd2⟩,hd2,Z,.nil,λj hj=>aad hj (Ue _)⟩ (λi σ H' _ ⟨_,_,_,_,_,_,_,_,S,_⟩=>aK.step (K:=K) S _ _ (t02 _ _ hpa)) ?_ ?_⟩
 ·rintro i x pe σ H3 hx ⟨ys,x5,x6,x7,x8,x9,x10,rfl,S3,hd3,hys,dp,le⟩ hpe;have hi:i<ws.length:=by have:=(Qq.mp hx).1;omega
  obtain⟨w,hw,pw,am,rfl,hpw,ram⟩:=al.at hx;have ewi:ws.getD i bc=w:=ay bc hw;have wok:=ok.ok w (Qf hw);have s4:=au hpe (.tup [.int i,.ref pw]);have hpe4:upd H3 pe (.tup [.int i,.ref pw]) pe=some (.tup [.int i,.ref pw]):=ah;generalize upd H3 pe (.tup [.int i,.ref pw])=H4 at s4 hpe4 ⊢;have S4:=S3.trans (eI.same s4 ⟨_,hd3⟩);have t4:=t02.trans (aK.step (K:=K) S4);refine⟨pe,_,Z,bF.of hpe4,Z,_,_,Z,_,_,Z,Z,?_⟩;have MX:=mst _ S4;have SM:=t4;refine⟨_,Z,pa,Z,⟨_,(SM _ _ hpa)⟩,λD1 hD1=>dX (pC ((SM _ _ hpa))) (λj=>L i j) (λj=>V.int ((ws.getD j bc).1:Nat)) hD1 (by omega) (λj y H' hj s' hy R E kR kE=>?_) λH5 s5 h5=>?_⟩
  ·obtain⟨pt,x',rfl,hx',hpt⟩:=hy;obtain⟨w',hw',pw',am',rfl,hpw',_⟩:=al.at hx';have ew:ws.getD j bc=w':=ay bc hw';rw[ew] at kR;have Ms:=MX.same s';obtain⟨rr,hrr⟩:∃r,rows[i]?=some r:=⟨_,P5 (by rw[MX.len];omega)⟩;refine⟨pt,_,Z,bF.of hpt,Z,_,_,Z,_,_,Z,Z,(gD.set Z).set' Z,?_⟩;refine⟨_,Z,_,Z,l,_,_,_,Z,Z,aX.of Ms.top,be (v:=V.ref rr) (by rw[Ql,hrr];rfl),_,Z,rr,_,_,_,Z,Z,aX.of (Ms.row _ _ hrr),be (qb (by omega)),_,Z,?_⟩
   cases cl:L i j with
   |true=>
    exact iG ⟨_,Z,pw',_,_,_,Z,Z,SM.trans (aK.same (K:=K) s') _ _ hpw',Z,kR cl _ (aH.refl _)⟩
   |false=>exact fC (kE cl _ (aH.refl _))
  rw[show xs.length=ws.length from hxl] at h5;have MX5:=MX.same s5;have SM5:=SM.trans (aK.same (K:=K) s5);refine⟨_,Z,pa,Z,⟨_,(SM5 _ _ hpa)⟩,λD2 hD2=>dX (pC ((SM5 _ _ hpa))) (λj=>L j i) (λj=>V.int ((ws.getD j bc).2.1:Nat)) hD2 (by omega) (λj y H' hj s' hy R E kR kE=>?_) λH6 s6 h6=>?_⟩
  ·obtain⟨pt,x',rfl,hx',hpt⟩:=hy;obtain⟨w',hw',pw',am',rfl,hpw',_⟩:=al.at hx';have ew:ws.getD j bc=w':=ay bc hw';rw[ew] at kR;have Ms:=MX5.same s';obtain⟨rr,hrr⟩:∃r,rows[j]?=some r:=⟨_,P5 (by rw[MX5.len];omega)⟩;refine⟨pt,_,Z,bF.of hpt,Z,_,_,Z,_,_,Z,Z,(gD.set Z).set' Z,?_⟩;refine⟨_,Z,_,Z,l,_,_,_,Z,Z,aX.of Ms.top,be (v:=V.ref rr) (by rw[Ql,hrr];rfl),_,Z,rr,_,_,_,Z,Z,aX.of (Ms.row _ _ hrr),be (qb (by omega)),_,Z,?_⟩
   cases cl:L j i with
   |true=>
    exact iG ⟨_,Z,pw',_,_,_,Z,Z,SM5.trans (aK.same (K:=K) s') _ _ hpw',Z,kR cl _ (aH.refl _)⟩
   |false=>exact fC (kE cl _ (aH.refl _))
  rw[show xs.length=ws.length from hxl] at h6;have s46:=s5.trans s6;have h5':=s6 _ _ h5;have t6:=SM5.trans (aK.same (K:=K) s6);refine⟨_,Z,pw,_,_,_,Z,Z,t6 _ _ hpw,Z,Fs,λq1 hq1=>?_⟩;have s7:=au hq1 (.lst [.int (w.1:Nat)]);have l1:((P6 ws.length).filter λj=>L i j).length≤ws.length:=QU (Q5 _ _) (by rw[QN];exact P7 _);have l2:((P6 ws.length).filter λj=>L j i).length≤ws.length:=QU (Q5 _ _) (by rw[QN];exact P7 _);refine⟨_,Z,q1,D1,_,_,Z,Z,ah,s7 _ _ h5',T0 (aQ (by rw[P8];show 1+_≤1000;omega)),λq2 hq2=>?_⟩;have s8:=au hq2 (.lst ([.int (w.1:Nat)]++((P6 ws.length).filter λj=>L i j).map λj=>V.int ((ws.getD j bc).1:Nat)));have e8:[V.int (w.1:Nat)]++(((P6 ws.length).filter λj=>L i j).map λj=>V.int ((ws.getD j bc).1:Nat))=((w.1:Int)::((P6 ws.length).filter λj=>L i j).map λj=>((ws.getD j bc).1:Int)).map V.int:=by rw[Q1,R6];rfl
  refine⟨q2,_,Z,aX.of (by rw[←e8];exact ah),by rw[Q2];omega,λM hM hB=>?_⟩;have eM:M=f i:=by
   obtain⟨j0,hj0,z0,q0⟩:=win.a.att i hi;have u1:f i≤M:=by
    rw[q0];refine hB _ ?_;rcases z0 with z0|z0
    ·subst z0;unfold vF;rw[ewi];exact Qd
    ·exact Qe _ (Qg.mpr ⟨j0,Qp.mpr ⟨Qi.mpr hj0,(clo i j0 hi hj0).mpr z0⟩,Z⟩)
   have u2:M≤f i:=by
    rcases Qm.mp hM with z|z
    ·have:=win.a.up i i hi hi (.inl Z);unfold vF at this;rw[ewi] at this;omega
    ·obtain⟨j,hj,rfl⟩:=Qg.mp z;obtain⟨hj1,hj2⟩:=Qp.mp hj;exact win.a.up i j hi (Qi.mp hj1) (.inr ((clo i j hi (Qi.mp hj1)).mp hj2))
   omega
  rw[eM];have s78:=s7.trans s8;clear hM hB eM;have h6':=s78 _ _ h6;have t8:=t6.trans (aK.same (K:=K) s78);refine⟨_,Z,pw,_,_,_,Z,Z,t8 _ _ hpw,Z,Fs,λq3 hq3=>?_⟩;have s9:=au hq3 (.lst [.int (w.2.1:Nat)]);refine⟨_,Z,q3,D2,_,_,Z,Z,ah,s9 _ _ h6',T0 (aQ (by rw[P8];show 1+_≤1000;omega)),λq4 hq4=>?_⟩;have sA:=au hq4 (.lst ([.int (w.2.1:Nat)]++((P6 ws.length).filter λj=>L j i).map λj=>V.int ((ws.getD j bc).2.1:Nat)));have eA:[V.int (w.2.1:Nat)]++(((P6 ws.length).filter λj=>L j i).map λj=>V.int ((ws.getD j bc).2.1:Nat))=((w.2.1:Int)::((P6 ws.length).filter λj=>L j i).map λj=>((ws.getD j bc).2.1:Int)).map V.int:=by rw[Q1,R6];rfl
  refine⟨q4,_,Z,aX.of (by rw[←eA];exact ah),by rw[Q2];omega,λM hM hB=>?_⟩;have eM:M=l_ i:=by
   obtain⟨j0,hj0,z0,q0⟩:=win.b.att i hi;have u1:M≤l_ i:=by
    have q0':- l_ i=-((ws.getD j0 bc).2.1:Int):=q0;have:l_ i=((ws.getD j0 bc).2.1:Int):=by omega
    rw[this];refine hB _ ?_;rcases z0 with z0|z0
    ·subst z0;rw[ewi];exact Qd
    ·exact Qe _ (Qg.mpr ⟨j0,Qp.mpr ⟨Qi.mpr hj0,(clo j0 i hj0 hi).mpr (vf.mp z0)⟩,Z⟩)
   have u2:l_ i≤M:=by
    rcases Qm.mp hM with z|z
    ·have:=win.b.up i i hi hi (.inl Z);unfold vL at this;rw[ewi] at this;have:-(w.2.1:Int)≤- l_ i:=this;omega
    ·obtain⟨j,hj,rfl⟩:=Qg.mp z;obtain⟨hj1,hj2⟩:=Qp.mp hj;have:=win.b.up i j hi (Qi.mp hj1) (.inr (vf.mpr ((clo j i (Qi.mp hj1) hi).mp hj2)));have:-((ws.getD j bc).2.1:Int)≤- l_ i:=this;omega
   omega
  rw[eM];clear hM hB eM;have s9A:=s9.trans sA;have s4A:=(s46.trans s78).trans s9A;generalize upd (upd (upd (upd H6 q1 _) q2 _) q3 _) q4 _=HA at s9A s4A ⊢;have SA:=S4.trans (eI.same s4A ⟨_,s4 _ _ hd3⟩);refine⟨_,Z,_,Z,_,_,Z,Z,_,Z,?_⟩;by_cases c:l_ i<f i
  ·refine cW c ?_;have rs:jb ws.length f l_=some i:=CI hi c le;exact aad (nb_ f l_ win) (by rw[rs];exact λz=>nomatch z)
  ·refine cG c ?_;have hdA:=s4A _ _ (s4 _ _ hd3);refine⟨_,Z,.inl ⟨Z,_,aX.of hdA⟩,_,Z,_,Z,_,Z,pw,_,_,_,Z,Z,(t02.trans (aK.step (K:=K) SA)) _ _ hpw,Z,JQ,λpn hpn=>?_⟩;have sB:=au hpn (.tup [.int (f i),.int (l_ i),am]);have hpB:upd HA pn (.tup [.int (f i),.int (l_ i),am]) pn=some (.tup [.int (f i),.int (l_ i),am]):=ah;generalize upd HA pn (.tup [.int (f i),.int (l_ i),am])=HB at sB hpB ⊢;have hdB:=sB _ _ hdA;have SB:=SA.trans (eI.same sB ⟨_,hdA⟩);refine⟨dl,ys,_,Z,Z,hdB,aQ (by omega),?_⟩;have tC:aK K HB (upd HB dl (.lst (ys++[.ref pn]))):=aK.up hdB _;refine⟨_,_,_,_,_,_,_,Z,SB.trans (eI.up hdB),ah,by rw[QC,hys];rfl,?_,λj hj=>?_⟩
   ·rw[Rr,Rh];have dn:bD K (upd HB dl (.lst (ys++[.ref pn]))) (.ref pn) (yi ws f l_ i):=by
     unfold yi;rw[ewi];exact .tup (tC _ _ (bF.of hpB)) (.cons (.int _) (.cons (.int _) (.cons (((ram.mono t02).mono (aK.step (K:=K) SB)).mono tC).deep .nil)))
    have dd:bu K (upd HB dl (.lst (ys++[.ref pn]))) ys ((P6 i).map (yi ws f l_)):=by
     refine tU (K:=K) ?_ dp;exact(((aK.same (K:=K) s4).trans (aK.same s4A)).trans (aK.same sB)).trans tC
    exact kY dd (.cons dn .nil)
   ·by_cases z:j<i
    ·exact le j z
    ·have:j=i:=by omega
     subst this;omega
 ·rintro σ H3 ⟨ys,x5,x6,x7,x8,x9,x10,rfl,S3,hd3,hys,dp,le⟩;refine⟨_,Z,dl,_,Z,.inl ⟨aX.of hd3,λpt hpt=>?_⟩⟩;have s4:=au hpt (.tup ys);refine k f l_ (.ref pt) _ ((sst _ S3).trans s4) win (sW (λj hj=>le j (by omega))) ?_;rw[hxl] at dp;exact .tup (bF.of ah) (tU (aK.same s4) dp)
theorem K2(T:eJ K mg t):bC P w K mg base dU 2 t.a_Q9 t.d_Q9 ["works","left"] (lg K):=by
 refine T.F_Q9.ok vt (λvs H Q E h=>?_) (λcdv A outer s H vs Q E hr h=>?_)
 ·obtain⟨_,_,_,_,rfl,_⟩:=h;rfl
 obtain⟨v,q,ws,ls,rfl,⟨p,xs,rfl,hS,al⟩,hw,hq,hl,k⟩:=h;refine dM.ok (ag (cC 2 vt.nd (bW ai)) (ag (bT QL Z (dZ (qv 0)) (aD (i:=3) vt.nd Z (by first|exact Q0 Z|exact QV Z)) (ag (ju (i:=4) (N':=["place","turn","work"]) (src:=[none,none,some 3]) vt.nd Z (by first|exact Q0 Z|exact QV Z) Z (by exact(jw Z T.z_enumerate (ae (qv 1) ai af))) (λ_ _ _ _ _=>(by exact(by exact ir (K:=K) (n:=2) (by exact Z) (by exact Z) (by exact aY (by exact aD (i:=0) (by show Q7 (["place","turn","work"]:List QX);decide +kernel) (by exact Z) (by first|exact Q0 Z|exact QV Z)) (by exact aY (by exact aD (i:=1) (by show Q7 (["place","turn","work"]:List QX);decide +kernel) (by exact Z) (by first|exact Q0 Z|exact QV Z)) cX))))) (λ_ _ _ _ _=>(fB (dg (by exact(vD (BB T) (by exact hr.mono (by decide)) (by exact Z) T.m_Q21 T.F_Q21.kp T.b_Q21 (by exact .nil) (by exact Bm) (ae (by exact(qv 2)) (ae (by exact(qv 1)) ai af) af)))))) (λ_ _ _ _ _=>(by exact(by exact(qv 0)))) (by exact⟨Z,Z,Z,Z,trivial⟩) Z (by decide +kernel) Z (by decide +kernel) (by exact bG Z ⟨Z,trivial⟩)) (av (bS (dJ Qy QF QH bA (qv 2) (ae (rQ (aT hG (aO aU (by rfl) T.z_len SL (ae (qv 4) ai af)) aj (bb _)) (bV (ae (ci cc (qv 4) aj) (ae (ci cc (qv 4) (rP l7 aj)) ai aF) aF)) AR) ai Dj)))))) (av (aL (qv 2))))) ?_
 nofun
 have hlen:=al.len;refine⟨(by show 0≤sizeLine;exact Qu _),λl h0=>?_⟩;have s0:=au h0 (.lst []);let Iv1:Yyq:=λi σ H'=>∃(ys:List V) (x4 x5:Option V),σ=[some (.ref p),some (.ref q),some (.ref l),x4,x5]/\aH H H'/\H' l=some (.lst ys)/\b8 (uX K H') ys ((ws.take i).map (bI ls))
 refine⟨_,Z,p,Z,⟨_,aK.same (K:=K) s0 _ _ hS⟩,fX (K:=K) (a:=p) (xs:=xs) Iv1 ⟨[],none,none,Z,s0,ah,.nil⟩ (λi σ H1 _ ⟨_,_,_,_,sm,_⟩=>aK.same sm _ _ hS) ?_ ?_⟩
 ·rintro i x σ H1 hx ⟨ys,x4,x5,rfl,s1,hl1,al1⟩;obtain⟨w,hwi,wv⟩:=al.at hx;have hq1:=aK.same (K:=K) s1 _ _ hq;have nl:(bt ls).length=ls.length:=P8 _;refine⟨_,Z,q,Z,⟨_,hq1⟩,λD hD=>dX (pC hq1) (λi=>fD w (ls.getD i 0)) (λi=>V.int i) hD (by omega) (λj y H' hj s' hy R E kR kE=>?_) λH4 s4 h4=>?_⟩
  ·obtain⟨pt,z,rfl,hz,hpt⟩:=hy;obtain⟨z',hz',rfl⟩:∃z',ls[j]?=some z'/\V.int (z':Nat)=z:=by
    unfold bt at hz;rw[Ql] at hz;exact Ro.mp hz
   rw[ay 0 hz'] at kR kE;refine⟨pt,_,Z,bF.of hpt,Z,_,_,Z,_,_,Z,Z,(gD.set Z).set' Z,?_⟩;refine⟨_,Z,_,Z,x,w,z',Z,wv.mono (aK.same (s1.trans s')),_,Z,?_⟩
   cases c:fD w z' with
   |true=>exact iG ⟨_,Z,kR c _ (aH.refl _)⟩
   |false=>exact fC (kE c _ (aH.refl _))
  rw[nl] at h4
  replace h4:H4 D=some (.lst ((gu ls w).map λi:Nat=>V.int i)):=h4
  have hl4:=s4 _ _ hl1;have ne:D≠l:=λz=>by subst z;rw[hl1] at hD;cases hD
  have hle:=al1.len;rw[P8,Rv] at hle;have ewi:(ws.take (i+1)).map (bI ls)=(ws.take i).map (bI ls)++[bI ls w]:=by
   rw[Q3,hwi,Rh];rfl
  refine⟨_,Z,.inl ⟨Z,_,aX.of hl4⟩,_,Z,D,_,Z,.inl (aX.of h4),_,_,Z,Z,_,Z,?_⟩
  cases c:gu ls w with
  |nil=>
   rw[c] at h4;refine fC ?_;refine⟨l,_,_,Z,Z,hl4,aQ (by omega),?_⟩;refine⟨_,_,_,Z,?_,ah,?_⟩
   ·intro b o e;rw[ao (aC e h0)];exact s4 _ _ (s1 _ _ e)
   ·rw[ewi];refine(al1.mono λv d m=>m.mono ((aK.same s4).trans (aK.up hl4 _))).snoc ?_;unfold bI;rw[c];rfl
  |cons a r=>
   rw[c] at h4;refine cW (by show(0:Int)<((Z7 (λi:Nat=>V.int i) (a::r)).length:Int);rw[P8,Q2];omega) ?_;have hlast:uP ((a::r).map λi:Nat=>V.int i) (-1)=some (.int ((a::r).getLast (by simp):Nat)):=by
    have e:=VA (show(a::r)≠[] by simp);have e2:(a::r).map (λi:Nat=>V.int i)=(a::r).dropLast.map (λi:Nat=>V.int i)++[V.int ((a::r).getLast (by simp):Nat)]:=by
     conv=>lhs;rw[←e]
     rw[Rh];rfl
    rw[e2];exact CJ _ _
   have hfst:uP ((a::r).map λi:Nat=>V.int i) 0=some (.int (a:Nat)):=be (j:=0) Z;refine⟨_,Z,D,_,_,_,Z,Z,aX.of h4,hfst,_,Z,_,Z,D,_,_,_,Z,Z,aX.of h4,hlast,kP,λpt hpt=>?_⟩;have s5:=au hpt (.tup [.int a,.int ((a::r).getLast (by simp):Nat)]);have hl5:=s5 _ _ hl4;refine⟨l,_,_,Z,Z,hl5,aQ (by omega),?_⟩;refine⟨_,_,_,Z,?_,ah,?_⟩
   ·intro b o e;rw[ao (aC e h0)];exact s5 _ _ (s4 _ _ (s1 _ _ e))
   ·rw[ewi];refine(al1.mono λv d m=>m.mono (((aK.same s4).trans (aK.same s5)).trans (aK.up hl5 _))).snoc ?_;unfold bI;rw[c];exact⟨pt,Z,aK.up (K:=K) hl5 _ _ _ (bF.of ah)⟩
 ·rintro σ H1 ⟨ys,x4,x5,rfl,s1,hl1,al1⟩;rw[hlen,Q6] at al1;exact⟨_,Z,k l ys H1 s1 h0 hl1 al1⟩
theorem Bt(T:eJ K mg t):bC P w K mg base dU 1 t.a_Q58 t.d_Q58 ["windows","begin","end"] (Dt K):=by
 refine T.F_Q58.ok GC (λvs H Q E h=>?_) (λcdv A outer s H vs Q E hr h=>?_)
 ·obtain⟨_,_,_,_,rfl,_⟩:=h;rfl
 obtain⟨l,xs,os,p,rfl,hS,al,hn,k⟩:=h;refine dM.ok (av (aL (bX (N':=["number","window","begin","end"]) (src:=[none,none,some 1,some 2]) Z (by exact(mU Z T.z_enumerate (ae (qv 0) ai af))) (λ_ _ _ _ _=>(by exact(by exact ir (K:=K) (n:=2) (by exact Z) (by exact Z) (by exact aY (by exact aD (i:=0) (by show Q7 (["number","window","begin","end"]:List QX);decide +kernel) (by exact Z) (by first|exact Q0 Z|exact QV Z)) (by exact aY (by exact aD (i:=1) (by show Q7 (["number","window","begin","end"]:List QX);decide +kernel) (by exact Z) (by first|exact Q0 Z|exact QV Z)) cX))))) (λ_ _ _ _ _=>(fB (iK (mT (aT Er (by exact(qv 1)) AR (bb _)) (mT (aT jB (by exact(qv 2)) (by exact(bv (bO (K:=K) (by exact Z)) (by exact(qv 1)) aj (by exact λ_ _=>Z))) (bb _)) (lJ (aT jB (by exact(bv (bO (K:=K) (by exact Z)) (by exact(qv 1)) aj (by exact λ_ _=>Z))) (by exact(qv 3)) (bb _)))))))) (λ_ _ _ _ _=>(by exact(by exact(qv 0)))) (by exact⟨Z,Z,Z,Z,⟨Z,Z,Z,Z,trivial⟩⟩) Z (by decide +kernel) Z (by decide +kernel) (by exact bG Z ⟨Z,⟨Z,trivial⟩⟩)))) ?_;nofun
 have hlen:=al.len;refine⟨_,Z,l,Z,⟨_,hS⟩,λD hD=>dX (u5 hS) (λi=>gT p.1 p.2 (os.getD i none)) (λi=>V.int i) hD (by omega) (λi y H' hi s' hx R E kR kE=>?_) λH4 s4 h4=>?_⟩
 ·obtain⟨pt,x,rfl,hx,hpt⟩:=hx;obtain⟨o,ho,ow⟩:=al.at hx;have eo:os.getD i none=o:=ay none ho;rw[eo] at kR kE;refine⟨pt,_,Z,bF.of hpt,Z,_,_,Z,_,_,Z,Z,(gD.set Z).set' Z,?_⟩
  cases o with
  |none=>
   obtain rfl:x=.non:=ow;exact⟨_,Z,Z,_,Z,fC (fC (kE Z _ (aH.refl _)))⟩
  |some q=>
   obtain⟨pw,rfl,hw⟩:=ow;have hw':=aK.same (K:=K) s' _ _ hw;refine⟨_,Z,Z,_,Z,iG ?_⟩;refine⟨_,Z,_,Z,pw,_,_,_,Z,Z,hw',Z,_,_,Z,Z,_,Z,?_⟩;by_cases c:p.1≤q.1
   ·refine cW (by omega) ?_;refine⟨_,Z,pw,_,_,_,Z,Z,hw',Z,_,Z,_,_,Z,Z,_,Z,?_⟩;by_cases c':q.2≤p.2
    ·refine cW (by omega) ?_;exact⟨_,Z,kR (by show(decide (p.1≤q.1)&&decide (q.2≤p.2))=true;rw[Q9 c,Q9 c'];rfl) _ (aH.refl _)⟩
    ·refine cG (by omega) ?_;exact kE (by show(decide (p.1≤q.1)&&decide (q.2≤p.2))=false;rw[Sy c',Tq]) _ (aH.refl _)
   ·refine cG (by omega) (fC ?_);exact kE (by show(decide (p.1≤q.1)&&decide (q.2≤p.2))=false;rw[Sy c,S2]) _ (aH.refl _)
 ·refine k D H4 s4 hD ?_;rw[h4,hlen];rfl
theorem K7(T:eJ K mg t):bC P w K mg base dU 2 t.a_Q2 t.d_Q2 ["windows","amounts","count"] (iV K):=by
 refine T.F_Q2.ok g6 (λvs H Q E h=>?_) (λcdv A outer s H vs Q E hr h=>?_)
 ·obtain⟨_,_,_,_,_,_,rfl,_⟩:=h;rfl
 obtain⟨l,a,xs,os,as,n,rfl,hS,al,hn,ha,hlen,hb,n1,n24,k⟩:=h;refine dM.ok (ag (cC 3 g6.nd (bV (ae aj (ae aj ai aP) aP))) (ag (cC 4 g6.nd (rP l7 aj)) (ag (cC 5 g6.nd aj) (ag (bT QL Z (cI Z T.z_range (ae (qv 2) ai af)) (aD (i:=6) g6.nd Z (by first|exact Q0 Z|exact QV Z)) (av (bT QL Z (xz Z T.z_range (ae (aM g7 (qv 2) aj) (ae (aM g7 (qv 6) aj) (ae (rP l7 aj) ai vh) bz) bz)) (aD (i:=7) g6.nd Z (by first|exact Q0 Z|exact QV Z)) (ag (cC 8 g6.nd (aO (ym Z) (by rfl) T.z_sum boot_sum (ae (bX (N':=["number","amounts"]) (src:=[none,some 1]) Z (by exact(cS (cT (Bt T) hr T.m_Q58 T.F_Q58.kp T.b_Q58 (ae (qv 0) (ae (qv 6) (ae (qv 7) ai af) af) af)))) (λ_ _ _ _ _=>(by exact(by exact aD (i:=0) (by show Q7 (["number","amounts"]:List QX);decide +kernel) (by exact Z) (by first|exact Q0 Z|exact QV Z)))) (λ_ _ _ _ _=>cR) (λ_ _ _ _ _=>(by exact(by exact(bv (dA (K:=K) (by exact Z)) (by exact(qv 1)) (by exact(qv 0)) (by exact λ_ _=>Z))))) (by exact⟨Z,Z,Z,Z,trivial⟩) Z (by decide +kernel) Z (by decide +kernel) (by exact bG Z ⟨Z,trivial⟩)) ai dB))) (ag (cC 9 g6.nd (aM dP (aM g7 (qv 7) (qv 6)) aj)) (av (cA (aT hG (aM g8 (qv 8) (qv 5)) (aM g8 (qv 4) (qv 9)) (bb _)) (ag (cC 3 g6.nd (bV (ae (qv 6) (ae (qv 7) ai af) af))) (ag (cC 4 g6.nd (qv 8)) (av (cC 5 g6.nd (qv 9))))) bB))))))) (av (aL (qv 3))))))) ?_
 nofun
 have hxl:=al.len;have LB:=λq=>EI hb hn q
 generalize hL:dr os (gZ as)=L at LB k;refine⟨kP,λp0 h0=>?_⟩;have s0:=au h0 (.tup [.int 0,.int 0]);let Iv1:Yyq:=λi σ H'=>∃(vb:Addr) (ld ln:Int) (x7 x8 x9 x10:Option V),σ=[some (.ref l),some (.ref a),some (.int n),some (.ref vb),some (.int ld),some (.int ln),x7,x8,x9,x10]/\aH H H'/\nS K H' (gA n i n) L vb ld ln
 refine⟨_,Z,_,Z,n,Z,by omega,by omega,cJ (lo:=0) (n:=(n:Int).toNat) Iv1 ⟨p0,-1,1,none,none,none,none,Z,s0,.inl ⟨Z,Z,λr hr=>?_⟩⟩ ?_ ?_⟩
 ·unfold gA gU at hr;omega
 ·rintro i σ H1 hi ⟨vb,ld,ln,x7,x8,x9,x10,rfl,s1,best⟩;have hin:i<n:=by omega
  rw[TC];refine⟨_,Z,_,_,Z,Z,_,Z,_,_,Z,Z,_,Z,_,_,Z,⟨by omega,by omega,by omega,by omega⟩,Cd (hi:=(n:Int)-1) (n:=((n:Int)-1-((i:Int)-1)).toNat) (λj σ H'=>∃(vb:Addr) (ld ln:Int) (x8 x9 x10:Option V),σ=[some (.ref l),some (.ref a),some (.int n),some (.ref vb),some (.int ld),some (.int ln),some (.int i),x8,x9,x10]/\aH H H'/\nS K H' (gA n i (n-j)) L vb ld ln) ⟨vb,ld,ln,x8,x9,x10,Z,s1,best⟩ ?_ ?_⟩
  ·rintro j σ H2 hj ⟨vb,ld,ln,x8,x9,x10,rfl,s2,best⟩;obtain⟨e,he⟩:∃e:Nat,n-j=e+1:=⟨n-j-1,by omega⟩;rw[he] at best;rw[show(n:Int)-1-(j:Int)=(e:Nat) by omega,show n-(j+1)=e by omega];have t2:=aK.same (K:=K) s2;refine⟨_,Z,_,Z,_,Z,l,xs,os,(i,e),Z,s2.seq hS,al.mono (λ_ _ m=>m.mono t2),hn,λD H3 s3 hD h3=>?_⟩;refine⟨D,Z,⟨_,aX.of h3⟩,λE hE=>dX (ii (aX.of h3)) (λ_=>true) (λm=>V.int (gZ as ((cK os (i,e)).getD m 0))) hE ?_ (λm x H' hm s' hx R E kR kE=>?_) λH4 s4 h4=>?_⟩
   ·unfold bt cK;rw[P8];have:=Q5 (λi_1=>gT i e (os.getD i_1 none)) (P6 os.length);rw[QN] at this;exact QU this (by omega)
   ·unfold bt at hx;rw[Ql] at hx;obtain⟨z,hz,rfl⟩:=Ro.mp hx;have q:=kR Z _ (aH.refl _);rw[ay 0 hz] at q;have hzl:z<os.length:=by
     have:=Qf hz;unfold cK at this;exact Qi.mp (Qp.mp this).1
    obtain⟨y,hy⟩:∃y,as[z]?=some y:=⟨_,P5 (by omega)⟩;rw[show gZ as z=y from ay 0 hy] at q;exact⟨gD.set Z,_,Z,_,Z,a,_,_,_,Z,Z,((s2.trans s3).trans s').seq ha,be (by rw[Ql,hy];rfl),q⟩
   have e4:H4 E=some (.lst (((cK os (i,e)).map (gZ as)).map V.int)):=by
    rw[h4,show(bt (cK os (i,e))).length=(cK os (i,e)).length from P8 _,eE 0 (λk=>V.int (gZ as k)),R6];rfl
   have s24:=s3.trans s4;have sH:=s2.trans s24;refine⟨E,_,Z,aX.of e4,?_⟩;have eL:((cK os (i,e)).map (gZ as)).sum=L (i,e):=by rw[←hL];rfl
   rw[eL];have lb:=LB (i,e);have elen:(e:Int)-(i:Int)+1=bK (i,e):=Z;refine⟨_,Z,_,Z,_,_,Z,Z,_,_,Z,Z,?_⟩;have lp:1≤bK (i,e)/\bK (i,e)≤24:=by rw[←elen];omega
   have bl:(ld=-1∨(0≤ld/\ld≤768*⋯))/\0<ln/\ln≤24:=by
    rcases best with⟨r1,r2,_⟩ | ⟨q,_,r1,r2,b⟩
    ·exact⟨.inl r1,by omega,by omega⟩
    ·exact⟨.inr (by rw[r1];exact LB q),by rw[r2];exact(show gU n q from b.inn.1).pos,by
      have z:=(show gU n q from b.inn.1);unfold gU at z;rw[r2];unfold bK;omega⟩
   refine⟨_,Z,_,Z,_,_,Z,Z,.inr ⟨by omega,by omega⟩,_,Z,_,Z,_,_,Z,Z,.inr ⟨by omega,by omega⟩,_,_,Z,Z,_,Z,?_⟩;have st:=λr=>ua (n:=n) (b:=i) (e:=e) (by omega) (by omega) r
   by_cases c:ld*bK (i,e)<L (i,e)*ln
   ·refine cW c ?_;refine⟨_,Z,_,Z,kP,λpt hpt=>?_⟩;have s5:=au hpt (.tup [.int (i:Nat),.int (e:Nat)]);refine⟨_,Z,_,Z,?_⟩;refine⟨pt,L (i,e),bK (i,e),_,_,_,Z,sH.trans s5,.inr ⟨(i,e),bF.of ah,Z,Z,?_⟩⟩;rcases best with⟨_,_,r3⟩ | ⟨q,_,r1,r2,b⟩
    ·exact yt λr=>⟨λh=>((st r).mp h).elim (λz=>aad z (r3 r)) id,λh=>(st r).mpr (.inr h)⟩
    ·subst r1 r2;exact b.more (n:=n) (λr hr=>hr.1) st c
   ·refine cG c ?_;refine⟨vb,ld,ln,_,_,_,Z,sH,?_⟩;rcases best with⟨r1,r2,r3⟩ | ⟨q,hq,r1,r2,b⟩
    ·exfalso;subst r1 r2;apply c;omega
    ·subst r1 r2;refine .inr ⟨q,aK.same s24 _ _ hq,Z,Z,b.stay st (by omega) (.inl ?_)⟩;have:=b.inn;unfold gA at this;unfold nU;show q.1<i∨q.1=i/\e≤q.2;omega
  ·rintro σ H2 ⟨vb,ld,ln,x8,x9,x10,rfl,s2,best⟩;refine⟨vb,ld,ln,_,_,_,_,Z,s2,best.mono (λ_ _ h=>h) λr=>?_⟩;rw[show n-((n:Int)-1-((i:Int)-1)).toNat=i by omega];exact ub r
 ·rintro σ H1 ⟨vb,ld,ln,x7,x8,x9,x10,rfl,s1,best⟩;rw[show(n:Int).toNat=n by omega] at best;refine⟨_,Z,?_⟩;rcases best with⟨_,_,r3⟩ | ⟨q,hq,_,_,b⟩
  ·exact aad (show gA n n n (0,0) from⟨⟨P7 _,by show 0<n;omega⟩,.inl (by show 0<n;omega)⟩) (r3 _)
  ·exact k vb q H1 s1 hq (b.congr xi)
theorem Iy(T:eJ K mg t):bC P w K mg base dU 3 t.a_Q34 t.d_Q34 ["works","left"] (qY K):=by
 refine T.F_Q34.ok ug (λvs H Q E h=>?_) (λcdv A outer s H vs Q E hr h=>?_)
 ·obtain⟨_,_,_,_,rfl,_⟩:=h;rfl
 obtain⟨v,q,ws,ls,rfl,⟨p,xs,rfl,hS,al⟩,hw,ok,hq,l1,l24,k⟩:=h;refine dM.ok (ag (cC 2 ug.nd (cT (K2 T) hr T.m_Q9 T.F_Q9.kp T.b_Q9 (ae (qv 0) (ae (qv 1) ai af) af))) (ag (cC 3 ug.nd (cT (K7 T) hr T.m_Q2 T.F_Q2.kp T.b_Q2 (ae (qv 2) (ae (cT (IN T) hr T.m_Q12 T.F_Q12.kp T.b_Q12 (ae (bX (N':=["work"]) (src:=[none]) Z (by exact(dZ (qv 0))) (λ_ _ _ _ _=>(by exact(by exact aD (i:=0) (by show Q7 (["work"]:List QX);decide +kernel) (by exact Z) (by first|exact Q0 Z|exact QV Z)))) (λ_ _ _ _ _=>cR) (λ_ _ _ _ _=>(by exact(by exact(bv (bO (K:=K) (by exact Z)) (by exact(qv 0)) aj (by exact λ_ _=>Z))))) (by exact trivial) Z (by decide +kernel) Z (by decide +kernel) (by exact bG Z trivial)) ai dB)) (ae (aO aU (by rfl) T.z_len SL (ae (qv 1) ai af)) ai ba) ba) af))) (av (aL (bV (ae (mV vo (qv 1) (lK (ci aB (qv 3) aj)) (lK (aM dP (ci aB (qv 3) aj) aj))) (ae (bY bw (by rfl) T.z_tuple Se (ae (cT (Bt T) hr T.m_Q58 T.F_Q58.kp T.b_Q58 (ae (qv 2) (ae (ci aB (qv 3) aj) (ae (ci aB (qv 3) aj) ai aF) aF) af)) ai ba)) ai ba) aF)))))) ?_
 nofun
 have nl:(bt ls).length=ls.length:=P8 _;refine⟨_,Z,_,Z,.ref p,q,ws,ls,Z,⟨p,xs,Z,hS,al⟩,hw,hq,l24,λl ys H1 s1 hl0 hl1 al1=>?_⟩;have t1:=aK.same (K:=K) s1;refine⟨_,Z,_,Z,p,Z,⟨_,t1 _ _ hS⟩,λD hD=>d9 (K:=K) (P:=RV K) (ds:=ws) (f:=λw:Wk=>w.2.2) (λ_ _ _ _ t p=>p.mono t) hD (t1 _ _ hS) al.len (by omega) (λi x d H' hx hd s' R E kR=>?_) λH2 ys2 s2 hD2 al2=>?_⟩
 ·obtain⟨d',hd',pw,xw,rfl,hSw,rx⟩:=al.at hx;rw[hd] at hd'
  cases hd'
  have t':=aK.same (K:=K) (s1.trans s');exact⟨gD.set Z,_,Z,pw,_,_,_,Z,Z,t' _ _ hSw,Z,kR _ _ (aH.refl _) (rx.mono t')⟩
 refine⟨D,ys2,ws,Z,aX.of hD2,al2,hw,ok,λl2 B H3 s3 hl2 b0 bd dv hl3=>?_⟩;have s13:=s2.trans s3;have t13:=aK.same (K:=K) s13;have sH3:=s1.trans s13;refine⟨_,Z,q,_,Z,.inr (aK.same (K:=K) sH3 _ _ hq),?_⟩;refine⟨l,l2,ys,ws.map (bI ls),ft B ws,ls.length,(by rw[nl];rfl),s13.seq (aX.of hl1),al1.mono (λ_ _ m=>m.mono t13),by rw[P8];exact hw,aX.of hl3,by unfold ft;rw[P8,P8],Bn ok b0 bd,l1,l24,λpp pl H4 s4 hpp bst=>?_⟩;have sec:=bst.inn;have c1:pl.1≤pl.2:=sec.1;have c2:pl.2<ls.length:=sec.2;have sH4:=sH3.trans s4;refine⟨_,Z,_,Z,pp,_,_,_,Z,Z,hpp,Z,_,Z,_,Z,pp,_,_,_,Z,Z,hpp,Z,_,_,Z,Z,_,Z,q,_,Z,aK.same (K:=K) sH4 _ _ hq,λpc H5 s5 hpc=>?_⟩;rw[show(pl.2:Int)+1=((pl.2+1:Nat):Int) by omega,E9 (by omega) (by omega)] at hpc;have t5:=aK.same (K:=K) s5;have t45:=aK.same (K:=K) (s13.trans (s4.trans s5));refine⟨_,Z,_,Z,pp,_,_,_,Z,Z,t5 _ _ hpp,Z,_,Z,pp,_,_,_,Z,Z,t5 _ _ hpp,Z,l,ys,ws.map (bI ls),pl,Z,(s13.trans (s4.trans s5)).seq (aX.of hl1),al1.mono (λ_ _ m=>m.mono t45),by rw[P8];exact hw,λE H6 s6 hE hE6=>?_⟩;refine⟨E,_,Z,.inl ⟨aX.of hE6,λpe hpe=>?_⟩⟩;have s7:=au hpe (.tup (bt (cK (ws.map (bI ls)) pl)));refine⟨kP,λpr hpr=>?_⟩;have s8:=au hpr (.tup [.ref pc,.ref pe]);refine k (.ref pr) B pl _ ((((sH4.trans s5).trans s6).trans s7).trans s8) b0 bd dv bst ?_;exact⟨pr,pc,pe,Z,bF.of ah,aK.same (K:=K) ((s6.trans s7).trans s8) _ _ hpc,aK.same (K:=K) s8 _ _ (bF.of ah)⟩
theorem Ip(T:eJ K mg t):bC P w K mg base dU 4 t.a_Q46 t.d_Q46 ["works"] (xb K):=by
 refine T.F_Q46.ok i3 (λvs H Q E h=>?_) (λcdv A outer s H vs Q E hr h=>?_)
 ·obtain⟨_,_,rfl,_⟩:=h;rfl
 obtain⟨v,ws,rfl,⟨p,xs,rfl,hS,al⟩,hw,ok,k⟩:=h;refine dM.ok (ag (cC 1 i3.nd (bW ai)) (ag (cC 2 i3.nd (bY (sT Z) (by rfl) T.z_tuple Se (ae (vC Z T.z_range (ae (dC (v:=.int (24)) Z T.m_TURNS ⟨_,Z⟩) ai af)) ai ba))) (ag (cC 3 i3.nd (aO aU (by rfl) T.z_len SL (ae (qv 0) ai af))) (ag (jt QL (aT hG (qv 3) aj (bb _)) (ag (cC 4 i3.nd (cT (Iy T) hr T.m_Q34 T.F_Q34.kp T.b_Q34 (ae (qv 0) (ae (qv 2) ai af) af))) (ag (bS (dJ Qy QF QH bA (qv 1) (ae (qv 4) ai af))) (ag (cC 2 i3.nd (bY bw (by rfl) T.z_tuple Se (ae (bX (N':=["turn","layer"]) (src:=[none,some 4]) Z (by exact(dZ (qv 2))) (λ_ _ _ _ _=>(by exact(by exact aD (i:=0) (by show Q7 (["turn","layer"]:List QX);decide +kernel) (by exact Z) (by first|exact Q0 Z|exact QV Z)))) (λ_ _ _ _ _=>(fB (aT (n8 (K:=K) (by exact Z)) (by exact(qv 0)) (by exact(bv (bO (K:=K) (by exact Z)) (by exact(qv 1)) aj (by exact λ_ _=>Z))) (by with_unfolding_all rfl)))) (λ_ _ _ _ _=>(by exact(by exact(qv 0)))) (by exact⟨Z,Z,Z,Z,trivial⟩) Z (by decide +kernel) Z (by decide +kernel) (by exact bG Z ⟨Z,trivial⟩)) ai dB))) (av (Hh (i:=3) i3.nd Z (by first|exact Q0 Z|exact QV Z) (aO aU (by rfl) T.z_len SL (ae (ci aB (qv 4) aj) ai aF)) Jf)))))) (av (aL (bY bw (by rfl) T.z_tuple Se (ae (qv 1) ai af)))))))) ?_
 nofun
 have hlen:=al.len;refine⟨(by show 0≤sizeLine;exact Qu _),λl h0=>?_⟩;have s0:=au h0 (.lst []);have hl0:upd H l (.lst []) l=some (.lst []):=ah;refine⟨_,Z,λpr hpr=>?_⟩;have s1:=au hpr (.rng 0 24);refine⟨pr,24,Z,ah,by decide,λq0 hq0=>?_⟩;have s2:=au hq0 (.tup ((B.upTo 24).map V.int));have hq0':bF K (upd (upd (upd H l (.lst [])) pr (.rng 0 24)) q0 (.tup ((B.upTo 24).map V.int))) q0 (bt (P6 24)):=by
  have e:bt (P6 24)=(B.upTo 24).map V.int:=by unfold bt B.upTo;rw[R6];rfl
  rw[e];exact bF.of (ah (H:=upd (upd H l (.lst [])) pr (.rng 0 24)) (a:=q0) (o:=.tup ((B.upTo 24).map V.int)))
 have s02:=(s0.trans s1).trans s2;have hl2:=s2 _ _ (s1 _ _ hl0);refine⟨_,Z,p,_,Z,.inr (aK.same (K:=K) s02 _ _ hS),?_⟩;have nf:=Ew ok;let Iv1:Yyq:=λm σ H'=>∃(acc:List (List Nat×List Nat)) (ys:List V) (q:Addr) (ls:List Nat) (x5:Option V),σ=[some (.ref p),some (.ref l),some (.ref q),some (.int (tE ws ls)),x5]/\aH H H'/\H' l=some (.lst ys)/\b8 (Gf K H') ys acc/\bF K H' q (bt ls)/\ls.Nodup/\(∀t∈ls,t<24)/\ls.length≤24/\acc.length+tE ws ls≤ws.length/\(∀y∈acc,kN ws.length y)/\(∀r,ig ws ls r->ig ws (P6 24) (acc++r))/\m=tE ws ls
 refine⟨Iv1,⟨_,[],[],q0,P6 24,none,(by rw[nf,hlen];rfl),s02,hl2,.nil,hq0',Tn,(λt ht=>Qi.mp ht),by decide,(by rw[nf];exact Tx (VJ _)),(λy hy=>by cases hy),(λr h=>h),Z⟩,?_⟩;rintro m σ H1 ⟨acc,ys,q,ls,x5,rfl,sm,hl1,al1,hq,nd,lt,l24,few,lok,con,rfl⟩;refine⟨_,Z,_,_,Z,Z,_,Z,?_⟩;by_cases c:tE ws ls=0
 ·refine cG (by omega) ?_;have ly:=con [] (.nil c);rw[Rp] at ly;refine⟨_,Z,l,_,Z,.inl ⟨aX.of hl1,λpt hpt=>?_⟩⟩;have s5:=au hpt (.tup ys);exact k (.ref pt) acc _ (sm.trans s5) ⟨pt,ys,Z,bF.of ah,al1.mono λ_ _ m=>m.mono (aK.same s5)⟩ ly lok (by omega)
 ·refine cW (by omega) ?_;refine⟨_,λ_ _ z=>z,?_⟩;have ln1:1≤ls.length:=by
   cases ls with
   |nil=>exact aad (BH ws) c
   |cons a r=>exact Vm (Qu _)
  refine⟨_,Z,_,Z,.ref p,q,ws,ls,Z,⟨p,xs,Z,aK.same (K:=K) sm _ _ hS,al.mono λ_ _ m=>m.mono (aK.same sm)⟩,hw,ok,hq,ln1,l24,λx B pl H2 s2 b0 bd dv bst lv=>?_⟩;have it:wO ws ls pl:=B3 ok (bst.scale b0 (by decide) λq=>oE _ λi _=>qR ok dv i) c;have sec:=iA it;have hl2:=s2 _ _ hl1;have hy:=al1.len;have sm2:=sm.trans s2;have lyo:kN ws.length (gF ws ls pl):=BQ sec l24 lt;refine⟨_,Z,.inl ⟨Z,_,aX.of hl2⟩,_,Z,l,_,_,Z,Z,hl2,aQ (by omega),?_⟩;have t3:aK K H2 (upd H2 l (.lst (ys++[x]))):=aK.up hl2 _;have sm3:aH H (upd H2 l (.lst (ys++[x]))):=λb o e=>by rw[ao (aC e h0)];exact sm2 _ _ e
  have hl3:upd H2 l (.lst (ys++[x])) l=some (.lst (ys++[x])):=ah;have al3:b8 (Gf K (upd H2 l (.lst (ys++[x])))) (ys++[x]) (acc++[gF ws ls pl]):=(al1.mono λ_ _ m=>m.mono ((aK.same s2).trans t3)).snoc (lv.mono t3);have lv3:=lv.mono t3;have hq3:=t3 _ _ (aK.same (K:=K) s2 _ _ hq);generalize upd H2 l (.lst (ys++[x]))=H3 at sm3 hl3 al3 lv3 hq3 ⊢;obtain⟨pL,a,b,rfl,hpL,ha,hb⟩:=lv3;have nl:(bt ls).length=ls.length:=P8 _;refine⟨_,Z,q,Z,⟨_,hq3⟩,λD hD=>dX (Db hq3) (λi=>!(dQ ls pl).contains (ls.getD i 0)) (λi=>V.int (ls.getD i 0:Nat)) hD (by omega) (λi x H' hi s' hx R E kR kE=>?_) λH4 s4 h4=>?_⟩
  ·unfold bt at hx;rw[Ql] at hx;obtain⟨z,hz,rfl⟩:=Ro.mp hx;rw[ay 0 hz] at kR kE;have t':=aK.same (K:=K) s';refine⟨gD.set Z,_,Z,_,Z,pL,_,_,_,Z,Z,t' _ _ hpL,Z,a,_,Z,.inr (t' _ _ ha),Z,Ce _,_,Z,?_⟩;have e:Ji (.int (z:Nat)) (bt (gF ws ls pl).1)=(dQ ls pl).contains z:=EQ z (dQ ls pl)
   cases cz:(dQ ls pl).contains z with
   |true=>exact jJ (by show(!Ji (.int (z:Nat)) (bt (gF ws ls pl).1))=false;rw[e,cz];rfl) (kE (by rw[cz];rfl) _ (aH.refl _))
   |false=>exact kX (by show(!Ji (.int (z:Nat)) (bt (gF ws ls pl).1))=true;rw[e,cz];rfl) ⟨_,Z,kR (by rw[cz];rfl) _ (aH.refl _)⟩
  rw[nl,fk 0 (λt=>!(dQ ls pl).contains t) (λt:Nat=>V.int t)] at h4
  replace h4:H4 D=some (.lst (bt (dI ls pl))):=h4
  refine⟨D,_,Z,.inl ⟨aX.of h4,λqn hqn=>?_⟩⟩;have s5:=au hqn (.tup (bt (dI ls pl)));have hqn5:bF K _ qn (bt (dI ls pl)):=bF.of (ah (H:=H4) (a:=qn) (o:=.tup (bt (dI ls pl))));have s35:=s4.trans s5;generalize upd H4 qn (.tup (bt (dI ls pl)))=H5 at s35 hqn5 ⊢;have t5:=aK.same (K:=K) s35;have rst:=vK (ws:=ws) nd sec;have hp:=it.held;have lb:(bt (gF ws ls pl).2).length=(cK (ws.map (bI ls)) pl).length:=P8 _;refine⟨_,Z,_,Z,pL,_,_,_,Z,Z,t5 _ _ hpL,Z,b,_,Z,.inr (t5 _ _ hb),_,_,Z,Z,?_⟩;have ew:((tE ws ls:Nat):Int)-((bt (gF ws ls pl).2).length:Int)=((tE ws (dI ls pl):Nat):Int):=by rw[lb];omega
  have rl:(dI ls pl).length≤ls.length:=Q5 _ _;refine⟨_,?_,acc++[gF ws ls pl],ys++[.ref pL],qn,dI ls pl,_,(by rw[←ew];rfl),sm3.trans s35,s35 _ _ hl3,al3.mono (λ_ _ m=>m.mono t5),hqn5,DH nd pl,(λt ht=>lt t (Qp.mp ht).1),by omega,(by rw[QC];show acc.length+1+_≤_;omega),(λy hy=>?_),(λr hr=>?_),Z⟩
  ·omega
  ·rcases QP.mp hy with h|h
   ·exact lok y h
   ·rw[Qj.mp h];exact lyo
  ·have:=con _ (ig.cons it hr);rw[TD];exact this
theorem K5(T:eJ K mg t):bC P w K mg base dU 4 t.a_Q4 t.d_Q4 ["works","layer"] (ka K):=by
 refine T.F_Q4.ok Kx (λvs H Q E h=>?_) (λcdv A outer s H vs Q E hr h=>?_)
 ·obtain⟨_,_,_,_,rfl,_⟩:=h;rfl
 obtain⟨v,x,ws,y,rfl,⟨p,xs,rfl,hS,al⟩,hw,ok,lv,lok,k⟩:=h;refine dM.ok (av (aL (cT (Ii T) hr T.m_Q57 T.F_Q57.kp T.b_Q57 (ae (cT (Ik T) hr T.m_Q54 T.F_Q54.kp T.b_Q54 (ae (bX (N':=["number","works"]) (src:=[none,some 0]) Z (by exact(dZ (bv aB (qv 1) aj (λ_ _=>Z)))) (λ_ _ _ _ _=>(by exact(by exact aD (i:=0) (by show Q7 (["number","works"]:List QX);decide +kernel) (by exact Z) (by first|exact Q0 Z|exact QV Z)))) (λ_ _ _ _ _=>cR) (λ_ _ _ _ _=>(by exact(by exact(bv (bO (K:=K) (by exact Z)) (by exact(bv (bO (K:=K) (by exact Z)) (by exact(qv 1)) (by exact(qv 0)) (by exact λ_ _=>Z))) aj (by exact λ_ _=>Z))))) (by exact⟨Z,Z,Z,Z,trivial⟩) Z (by decide +kernel) Z (by decide +kernel) (by exact bG Z ⟨Z,trivial⟩)) ai dB)) (ae (bV (ae (aO aU (by rfl) T.z_len SL (ae (bv aB (qv 1) aj (λ_ _=>Z)) ai aF)) (ae aj ai aP) ba)) ai dm) ba)))) ?_;nofun
 have hSl:=al.len;obtain⟨pL,a,b,rfl,hpL,ha,hb⟩:=lv;have nb:(bt y.2).length=y.2.length:=P8 _;have na:(bt y.1).length=y.1.length:=P8 _;have len:=lok.len;refine⟨_,Z,pL,_,_,_,Z,Z,hpL,Z,b,Z,⟨_,hb⟩,λD hD=>d9 (K:=K) (P:=RV K) (ds:=y.2) (f:=λi=>(ws.getD i bc).2.2) (λ_ _ _ _ t p=>p.mono t) hD hb nb (by omega) (λi x d H' hx hd s' R E kR=>?_) λH2 ys2 s2 hD2 al2=>?_⟩
 ·have hx':(bt y.2)[i]?=some (V.int (d:Nat)):=by unfold bt;rw[Ql,hd];rfl
  rw[hx] at hx'
  cases hx'
  have hdl:=lok.num d (Qf hd);obtain⟨xw,hxw⟩:∃xw,xs[d]?=some xw:=⟨_,P5 (by omega)⟩;obtain⟨w,hwd,pw,xa,rfl,hSw,rx⟩:=al.at hxw;rw[ay bc hwd] at kR;have t':=aK.same (K:=K) s';exact⟨gD.set Z,_,Z,_,Z,p,_,_,_,Z,Z,t' _ _ hS,be hxw,pw,_,_,_,Z,Z,t' _ _ hSw,Z,kR _ _ (aH.refl _) (rx.mono t')⟩
 have wf:=JC (n:=ws.length) ok lok;have la:(ic ws y).length=y.2.length:=P8 _;have am:∀r∈ic ws y,Bq ⋯ 12 r:=λr hr=>by
  obtain⟨i,hi,rfl⟩:=Qg.mp hr;have hl:=lok.num i hi;rw[ay bc (P5 hl)];exact sY (ok _ (Qx hl)).am
 have sq:=((gL (by decide) am).mono (RN _) (show 12*(ic ws y).length≤768 by omega)).wf (n:=800) (by decide) (by decide) (by decide);refine⟨D,ys2,ic ws y,760,⋯,Z,.inl (aX.of hD2),Fj al2,λr hr=>⟨wf r hr,(am r hr).dvd⟩,by decide,by decide,by omega,by decide,λv' H3 s3 rv3=>?_⟩;have t23:=aK.same (K:=K) (s2.trans s3);refine⟨_,Z,pL,_,_,_,Z,Z,t23 _ _ hpL,Z,a,_,Z,.inr (t23 _ _ ha),kP,λpt hpt=>?_⟩;rw[na];have s4:=au hpt (.tup [.int (y.1.length:Int),.int 1]);have pos:=lok.pos;have few:=lok.few;refine⟨v',.ref pt,eK (ic ws y),800,y.1.length,Z,rv3.mono (aK.same s4),RV.of ah,sq,pos,few,by omega,λu H5 s5 r5=>?_⟩;exact k u H5 (((s2.trans s3).trans s4).trans s5) r5
theorem IP(T:eJ K mg t):bC P w K mg base dU 5 t.a_Q10 t.d_Q10 ["works"] (k9 K):=by
 refine T.F_Q10.ok mQ (λvs H Q E h=>?_) (λcdv A outer s H vs Q E hr h=>?_)
 ·obtain⟨_,_,rfl,_⟩:=h;rfl
 obtain⟨v,ws,rfl,⟨p,xs,rfl,hS,al⟩,hw,ok,k⟩:=h;refine dM.ok (ag (cC 1 mQ.nd (aM qk (bW (ae (dC (v:=.ref t.c_NOUGHT) Z T.m_NOUGHT Z) ai af)) (dC (v:=.int (24)) Z T.m_TURNS ⟨_,Z⟩))) (ag (bT QL Z (dZ (cT (Ip T) hr T.m_Q46 T.F_Q46.kp T.b_Q46 (ae (qv 0) ai af))) (aD (i:=2) mQ.nd Z (by first|exact Q0 Z|exact QV Z)) (ag (cC 3 mQ.nd (cT (K5 T) hr T.m_Q4 T.F_Q4.kp T.b_Q4 (ae (qv 0) (ae (qv 2) ai af) af))) (av (bT QL Z (dZ (ci aB (qv 2) aj)) (aD (i:=4) mQ.nd Z (by first|exact Q0 Z|exact QV Z)) (av (i5 (qv 3) (kq (qv 1) (qv 4) gs))))))) (av (aL (bY bw (by rfl) T.z_tuple Se (ae (qv 1) ai af)))))) ?_
 nofun
 refine⟨Fs,λl0 h0=>?_⟩;have s0:=au h0 (.lst [.ref t.c_NOUGHT]);refine⟨l0,.ref t.c_NOUGHT,24,Z,Z,ah,by decide,λl hl=>?_⟩;have s1:=au hl (.lst (Qn 24 (.ref t.c_NOUGHT)));have s01:=s0.trans s1;have hln:H l=none:=by
  cases e:H l with
  |none=>rfl
  |some o=>rw[s0 _ _ e] at hl;cases hl
 have hl1:upd (upd H l0 (.lst [.ref t.c_NOUGHT])) l (.lst (Qn 24 (.ref t.c_NOUGHT))) l=some (.lst (Qn 24 (.ref t.c_NOUGHT))):=ah;generalize upd (upd H l0 (.lst [.ref t.c_NOUGHT])) l (.lst (Qn 24 (.ref t.c_NOUGHT)))=H1 at hl1 s01 ⊢;refine⟨_,Z,.ref p,ws,Z,⟨p,xs,Z,aK.same (K:=K) s01 _ _ hS,al.mono λ_ _ m=>m.mono (aK.same s01)⟩,hw,ok,λx lys H2 s2 lv ly lok ll=>?_⟩;obtain⟨pl,xl,rfl,hpl,all⟩:=lv;have hl2:=s2 _ _ hl1;have s02:=s01.trans s2;have wvS:∀H',aH H H'->fu K H' (.ref p) ws:=λH' s=>⟨p,xs,Z,aK.same (K:=K) s _ _ hS,al.mono λ_ _ m=>m.mono (aK.same s)⟩
 have smS:∀H',eI l H2 H'->aH H H':=λH' S b o e=>S.keep b o (λz=>by subst z;rw[hln] at e;cases e) (s02 _ _ e)
 let Iv1:Yyq:=λi σ H'=>∃(ys:List V) (x3 x4 x5:Option V),σ=[some (.ref p),some (.ref l),x3,x4,x5]/\eI l H2 H'/\H' l=some (.lst ys)/\b8 (RV K H') ys (aV ws (lys.take i))
 refine⟨pl,Z,⟨_,hpl⟩,fX (K:=K) (a:=pl) (xs:=xl) Iv1 ⟨_,none,none,none,Z,eI.refl ⟨_,hl2⟩,hl2,b8.rep ⟨_,Z,T.q_NOUGHT _⟩ 24⟩ (λi σ H' _ ⟨_,_,_,_,_,S,_⟩=>aK.step (K:=K) S _ _ hpl) ?_ ?_⟩
 ·rintro i x σ H3 hx ⟨ys,x3,x4,x5,rfl,S3,hl3,al3⟩;obtain⟨y,hy,lvy⟩:=all.at hx;have lyo:=lok y (Qf hy);have sm3:=smS _ S3;have lv3:=lvy.mono (aK.step (K:=K) S3);refine⟨_,Z,_,Z,.ref p,x,ws,y,Z,wvS _ sm3,hw,ok,lv3,lyo,λsv H4 s4 rv4=>?_⟩;have hl4:=s4 _ _ hl3;have lv4:=lv3.mono (aK.same s4);obtain⟨pL,a,b,rfl,hpL,ha,hb⟩:=lv4;have S4:=S3.trans (eI.same s4 ⟨_,hl3⟩);have al4:=al3.mono λ_ _ m=>m.mono (aK.same s4)
  have ly24:=al4.len;rw[show(aV ws (lys.take i)).length=24 by unfold aV;rw[lG];rfl] at ly24;let Iv2:Yyq:=λj σ H'=>∃(zs:List V) (x5:Option V),σ=[some (.ref p),some (.ref l),some (.ref pL),some sv,x5]/\eI l H4 H'/\H' l=some (.lst zs)/\zs.length=24/\b8 (RV K H') zs (iF (dj ws y) (aV ws (lys.take i)) (y.1.take j))
  refine⟨_,Z,pL,_,_,_,Z,Z,hpL,Z,a,Z,⟨_,ha⟩,fX (K:=K) (a:=a) (xs:=bt y.1) Iv2 ⟨ys,_,Z,eI.refl ⟨_,hl4⟩,hl4,ly24,al4⟩ (λj σ H' _ ⟨_,_,_,S,_⟩=>aK.step (K:=K) S _ _ ha) ?_ ?_⟩
  ·rintro j tv σ H5 ht ⟨zs,x5,rfl,S5,hl5,zl,al5⟩;unfold bt at ht;rw[Ql] at ht;obtain⟨tt,htt,rfl⟩:=Ro.mp ht;have lt:=lyo.lt tt (Qf htt);refine⟨_,Z,_,Z,_,Z,l,zs,_,tt,Z,Z,hl5,jI (by omega),?_⟩;have t6:aK K H5 (upd H5 l (.lst (zs.set tt sv))):=aK.up hl5 _;refine⟨_,_,Z,S5.trans (eI.up hl5),ah,by rw[Sf];exact zl,?_⟩;have e:iF (dj ws y) (aV ws (lys.take i)) (y.1.take (j+1))=(iF (dj ws y) (aV ws (lys.take i)) (y.1.take j)).set tt (dj ws y):=by
    unfold iF;rw[Q3,htt,RS];rfl
   rw[e];exact b8.setI (rv4.mono ((aK.step (K:=K) S5).trans t6)) tt (al5.mono λ_ _ m=>m.mono t6)
  ·rintro σ H5 ⟨zs,x5,rfl,S5,hl5,zl,al5⟩;rw[show(bt y.1).length=y.1.length from P8 _,Q6] at al5;refine⟨zs,_,_,_,Z,S4.trans S5,hl5,?_⟩;have e:aV ws (lys.take (i+1))=iF (dj ws y) (aV ws (lys.take i)) y.1:=by
    unfold aV;rw[Q3,hy,RS];rfl
   rw[e];exact al5
 ·rintro σ H3 ⟨ys,x3,x4,x5,rfl,S3,hl3,al3⟩;rw[all.len,Q6] at al3;refine⟨_,Z,l,_,Z,.inl ⟨aX.of hl3,λpt hpt=>?_⟩⟩;have s5:=au hpt (.tup ys);exact k pt ys lys _ ((smS _ S3).trans s5) (bF.of ah) (al3.mono λ_ _ m=>m.mono (aK.same s5)) ly
theorem K4(T:eJ K mg t):bC P w K mg base dU 1 t.a_Q5 t.d_Q5 ["works","leanings","waiting"] (kd K):=by
 refine T.F_Q5.ok vv (λvs H Q E h=>?_) (λcdv A outer s H vs Q E hr h=>?_)
 ·obtain⟨_,_,_,_,_,_,_,_,rfl,_⟩:=h;rfl
 obtain⟨v,l,wl,ws,es,rows,L,ls,rfl,⟨p,xs,rfl,hS,al⟩,w8,m0,cl,hwl,lt,ne,l8,rk,k⟩:=h;refine dM.ok (ag (cC 3 vv.nd (aO (o0 Z) (by rfl) T.z_min boot_min (ae (bX (N':=["number","works"]) (src:=[none,some 0]) Z (by exact(cS (qv 2))) (λ_ _ _ _ _=>(by exact(by exact aD (i:=0) (by show Q7 (["number","works"]:List QX);decide +kernel) (by exact Z) (by first|exact Q0 Z|exact QV Z)))) (λ_ _ _ _ _=>cR) (λ_ _ _ _ _=>(by exact(by exact(bv (bO (K:=K) (by exact Z)) (by exact(bv (bO (K:=K) (by exact Z)) (by exact(qv 1)) (by exact(qv 0)) (by exact λ_ _=>Z))) aj (by exact λ_ _=>Z))))) (by exact⟨Z,Z,Z,Z,trivial⟩) Z (by decide +kernel) Z (by decide +kernel) (by exact bG Z ⟨Z,trivial⟩)) ai dB))) (ag (cC 4 vv.nd (bX (N':=["number","earliest","works"]) (src:=[none,some 3,some 0]) Z (by exact(cS (qv 2))) (λ_ _ _ _ _=>(by exact(by exact aD (i:=0) (by show Q7 (["number","earliest","works"]:List QX);decide +kernel) (by exact Z) (by first|exact Q0 Z|exact QV Z)))) (λ_ _ _ _ _=>(fB (aT gS (by exact(bv (bO (K:=K) (by exact Z)) (by exact(bv (bO (K:=K) (by exact Z)) (by exact(qv 2)) (by exact(qv 0)) (by exact λ_ _=>Z))) aj (by exact λ_ _=>Z))) (by exact(qv 1)) (bb _)))) (λ_ _ _ _ _=>(by exact(by exact(qv 0)))) (by exact⟨Z,Z,Z,Z,⟨Z,Z,Z,Z,trivial⟩⟩) Z (by decide +kernel) Z (by decide +kernel) (by exact bG Z ⟨Z,⟨Z,trivial⟩⟩))) (ag (AM (i:=5) (N':=["number","like","leanings"]) (y := "number") (src:=[none,some 4,some 1]) vv.nd Z (by first|exact Q0 Z|exact QV Z) Z (by exact(cS (qv 4))) (λ_ _ _ _ _=>(by exact(by exact aD (i:=0) (by show Q7 (["number","like","leanings"]:List QX);decide +kernel) (by exact Z) (by first|exact Q0 Z|exact QV Z)))) (λ_ _ _ _ _=>(fB (eS (dg (by exact(aO (uO (K:=K) (by exact Z) (by exact Z)) (by exact Z) T.z_any boot_any (ae (by exact(xA (N':=["base","leanings","number"]) (src:=[none,some 2,some 0]) (by exact Z) (by exact Z) (by exact(AO (K:=K) (by exact Z) (by exact(qv 1)))) (by exact λ_ _ _ _ _=>(by exact(by exact aD (i:=0) (by show Q7 (["base","leanings","number"]:List QX);decide +kernel) (by exact Z) (by first|exact Q0 Z|exact QV Z)))) (by exact λ_ _ _ _ _=>cR) (by exact λ_ _ _ _ _=>(by exact(by exact(bv (dA (K:=K) (by exact Z)) (by exact(bv (dA (K:=K) (by exact Z)) (by exact(qv 1)) (by exact(qv 2)) (by exact λ_ _=>Z))) (by exact(qv 0)) (by exact λ_ _=>Z))))) (by exact⟨Z,Z,Z,Z,⟨Z,Z,Z,Z,trivial⟩⟩) (by decide +kernel) (by exact Z) (by decide +kernel) (by exact bG Z ⟨Z,⟨Z,trivial⟩⟩))) ai dB))))))) (λ_ _ _ _ _=>(by exact(by exact(qv 0)))) (by exact⟨Z,Z,Z,Z,⟨Z,Z,Z,Z,trivial⟩⟩) Z (λ_=>Z) (λ_=>Z) Z (by decide +kernel) (by exact yl Z ⟨Z,⟨Z,trivial⟩⟩ Z)) (av (aL (ci cc (qv 5) aj)))))) ?_
 nofun
 have lx:xs.length=ws.length:=al.len;have lv:(bt ls).length=ls.length:=P8 _;have pos:0<ls.length:=UD.mpr ne;have at_:∀{H':Hp},aH H H'->∀i,i<ws.length->∃pw x,xs[i]?=some (.ref pw)/\bF K H' pw [.int (ws.getD i bc).1,.int (aZ ws i:Nat),x]:=λ{H'} s i hi=>by
  have e:xs[i]?=some (xs[i]'(by omega)):=P5 _;obtain⟨w,hw,pw,x,ex,hSw,_⟩:=al.at e;refine⟨pw,x,by rw[e,ex],?_⟩;have g:ws.getD i bc=w:=ay bc hw;unfold aZ;rw[g];exact aK.same s _ _ hSw
 have nat_:∀{zs:List Nat} {i:Nat} {x:V},(bt zs)[i]?=some x->∃n,zs[i]?=some n/\x=.int (n:Nat):=λ{zs i x} h=>by
  unfold bt at h;rw[Ql] at h;obtain⟨n,hn,rfl⟩:=Ro.mp h;exact⟨n,hn,Z⟩
 refine⟨_,Z,wl,Z,⟨_,hwl⟩,λD1 hD1=>dX (ii hwl) (λ_=>true) (λi=>V.int (aZ ws (ls.getD i 0):Nat)) hD1 (by omega) (λi x H' hi sm hx Rk E kR _=>?_) λH1 s1 h1=>?_⟩
 ·obtain⟨n,hn,rfl⟩:=nat_ hx;obtain⟨pw,y,ex,hSw⟩:=at_ sm n (lt n (Qf hn));rw[ay 0 hn] at kR;exact⟨gD.set Z,_,Z,_,Z,p,_,_,_,Z,Z,aK.same sm _ _ hS,be ex,pw,_,_,_,Z,Z,hSw,Z,kR Z _ (aH.refl _)⟩
 have e1:((P6 (bt ls).length).filter λ_=>true).map (λi=>V.int (aZ ws (ls.getD i 0):Nat))=(ls.map λi=>((aZ ws i:Nat):Int)).map V.int:=by
  rw[lv,R6];exact eE 0 (λn=>V.int (aZ ws n:Nat)) ls
 rw[e1] at h1;refine⟨D1,_,Z,aX.of h1,by rw[P8];exact pos,λM hM hle=>?_⟩;have key:∀i,i∈ls->(((aZ ws i:Nat):Int)=M↔∀j∈ls,aZ ws i≤aZ ws j):=λi hi=>by
  constructor
  ·intro e j hj;have:=hle _ (Qg.mpr ⟨j,hj,Z⟩);omega
  ·intro h;obtain⟨j,hj,e⟩:=Qg.mp hM;have a:=h j hj;have b:=hle _ (Qg.mpr ⟨i,hi,Z⟩);omega
 have hw1:aX K H1 wl (bt ls):=s1.seq hwl;refine⟨_,Z,wl,Z,⟨_,hw1⟩,λD2 hD2=>dX (ii hw1) (λi=>ls.all λj=>decide (aZ ws (ls.getD i 0)≤aZ ws j)) (λi=>V.int (ls.getD i 0:Nat)) hD2 (by omega) (λi x H' hi sm hx Rk E kR kE=>?_) λH2 s2 h2=>?_⟩
 ·obtain⟨n,hn,rfl⟩:=nat_ hx;have sm':=s1.trans sm;have mn:=Qf hn;obtain⟨pw,y,ex,hSw⟩:=at_ sm' n (lt n mn);rw[ay 0 hn] at kR kE;refine⟨gD.set Z,_,Z,_,Z,p,_,_,_,Z,Z,aK.same sm' _ _ hS,be ex,pw,_,_,_,Z,Z,hSw,Z,_,Z,Z,_,Z,?_⟩;by_cases c:((aZ ws n:Nat):Int)=M
  ·refine cW (by rw[c]) ⟨_,Z,kR ?_ _ (aH.refl _)⟩;rw[Sg];exact λj hj=>Q9 ((key n mn).mp c j hj)
  ·refine cG (λz=>c (by injection z)) (kE ?_ _ (aH.refl _))
   cases q:ls.all λj=>decide (aZ ws n≤aZ ws j) with
   |false=>rfl
   |true=>
    rw[Sg] at q;exact aad ((key n mn).mpr λj hj=>aab (q j hj)) c
 have e2:((P6 (bt ls).length).filter λi=>ls.all λj=>decide (aZ ws (ls.getD i 0)≤aZ ws j)).map (λi=>V.int (ls.getD i 0:Nat))=bt (fh ws ls):=by
  rw[lv];exact fk 0 (λn=>ls.all λj=>decide (aZ ws n≤aZ ws j)) (λn=>V.int (n:Nat)) ls
 rw[e2] at h2;have s12:=s1.trans s2;have lkl:∀i∈fh ws ls,i<ws.length:=λi hi=>lt i (fe.mp hi).1
 have ll:(fh ws ls).length≤ls.length:=Q5 _ _;have lk:(bt (fh ws ls)).length=(fh ws ls).length:=P8 _;have hl2:aX K H2 D2 (bt (fh ws ls)):=aX.of h2;generalize hlk:fh ws ls=lk_ at h2 hl2 lkl ll lk;refine⟨_,Z,D2,Z,⟨_,hl2⟩,λD3 hD3=>dX (ii hl2) (λi=>!lk_.any (fV es (lk_.getD i 0))) (λi=>V.int (lk_.getD i 0:Nat)) hD3 (by omega) (λi x H' hi sm hx Rk E kR kE=>?_) λH3 s3 h3=>?_⟩
 ·obtain⟨n,hn,rfl⟩:=nat_ hx;have mn:=Qf hn;have nl:=lkl n mn;have sm':=s12.trans sm;have hl3:aX K H' D2 (bt lk_):=sm.seq hl2;have mm:=m0.same sm';rw[ay 0 hn] at kR kE;refine⟨gD.set Z,_,Z,D2,Z,⟨_,hl3⟩,λD4 hD4=>dX (ii hl3) (λ_=>true) (λj=>V.bl (fV es n (lk_.getD j 0))) hD4 (by omega) (λj y H5 hj sm5 hy Rk2 E2 kR2 _=>?_) λH6 s6 h6=>?_⟩
  ·obtain⟨b,hb,rfl⟩:=nat_ hy;have bl:=lkl b (Qf hb);have m5:=mm.same sm5;obtain⟨rr,hrr⟩:∃r,rows[n]?=some r:=⟨_,P5 (by rw[mm.len];exact nl)⟩;have hrow:=m5.row n rr hrr;rw[ay 0 hb] at kR2;have ev:L n b=fV es n b:=by rw[Sw,ix];exact cl n b nl bl
   refine⟨gD.set Z,_,Z,_,Z,l,_,_,_,Z,Z,aX.of m5.top,be (show(rows.map V.ref)[n]?=some (V.ref rr) by rw[Ql,hrr];rfl),_,Z,rr,_,_,_,Z,Z,aX.of hrow,be (qb bl),?_⟩;rw[ev];exact kR2 Z _ (aH.refl _)
  ·have e6:((P6 (bt lk_).length).filter λ_=>true).map (λj=>V.bl (fV es n (lk_.getD j 0)))=(lk_.map (fV es n)).map V.bl:=by
    rw[lk,R6];exact eE 0 (λb=>V.bl (fV es n b)) lk_
   rw[e6] at h6;refine⟨D4,_,Z,aX.of h6,_,Z,?_⟩;rw[YD];have ea:lk_.any (id∘fV es n)=lk_.any (fV es n):=Z;rw[ea]
   cases c:lk_.any (fV es n) with
   |false=>exact kX (b:=!false) Z ⟨_,Z,kR (by rw[c];rfl) _ s6⟩
   |true=>exact jJ (b:=!true) Z (kE (by rw[c];rfl) _ s6)
 have e3:((P6 (bt lk_).length).filter λi=>!lk_.any (fV es (lk_.getD i 0))).map (λi=>V.int (lk_.getD i 0:Nat))=bt (hX ws es ls):=by
  rw[lk];unfold hX;rw[hlk];exact fk 0 (λn=>!lk_.any (fV es n)) (λn=>V.int (n:Nat)) lk_
 rw[e3] at h3;have nx:=jE (ws:=ws) rk ne;refine⟨_,Z,D3,_,_,_,Z,Z,aX.of h3,be (j:=0) (show(bt (hX ws es ls))[0]?=some (V.int (fO ws es ls:Nat)) by unfold bt;rw[Ql,nx];rfl),k _ (s12.trans s3)⟩
theorem Ix(T:eJ K mg t):bC P w K mg base dU 3 t.a_Q35 t.d_Q35 ["works","leans"] (qZ K):=by
 refine T.F_Q35.ok mP (λvs H Q E h=>?_) (λcdv A outer s H vs Q E hr h=>?_)
 ·obtain⟨_,_,_,_,rfl,_⟩:=h;rfl
 obtain⟨v,u,ws,es,rfl,ak,k⟩:=h;refine dM.ok (ag (cC 2 mP.nd (cT (FW T) hr T.m_Q8 T.F_Q8.kp T.b_Q8 (ae (aO aU (by rfl) T.z_len SL (ae (qv 0) ai af)) (ae (qv 1) ai af) ba))) (ag (cC 3 mP.nd (bY (uL Z) (by rfl) T.z_list boot_list (ae (vC Z T.z_range (ae (aO aU (by rfl) T.z_len SL (ae (qv 0) ai af)) ai ba)) ai ba))) (ag (cC 4 mP.nd (bW ai)) (ag (jt QL (aT hG (aO aU (by rfl) T.z_len SL (ae (qv 3) ai af)) aj (bb _)) (ag (cC 5 mP.nd (cT (K4 T) hr T.m_Q5 T.F_Q5.kp T.b_Q5 (ae (qv 0) (ae (qv 2) (ae (qv 3) ai af) af) af))) (ag (bS (dJ Qy PySem.F.slot_list_remove PySem.F.type_list_remove EB (qv 3) (ae (qv 5) ai af))) (av (bS (dJ Qy QF QH bA (qv 4) (ae (qv 5) ai af))))))) (av (aL (qv 4))))))) ?_
 nofun
 obtain⟨p,xs,rfl,hS,al⟩:=id ak.wv;have lx:xs.length=ws.length:=al.len;have w8:=ak.w8;refine⟨_,Z,p,_,Z,.inr hS,_,Z,ws.length,u,es,(by rw[←lx];rfl),ak.lv,ak.eok,by omega,λlm rows L H1 s1 m1 c1=>?_⟩;have hS1:=aK.same (K:=K) s1 _ _ hS;refine⟨_,Z,p,_,Z,.inr hS1,_,Z,λpr hpr=>?_⟩;rw[lx];have s2:=au hpr (.rng 0 ws.length);refine⟨pr,ws.length,Z,ah,by omega,λwl hwl=>?_⟩;have s3:=au hwl (.lst ((B.upTo ws.length).map V.int));have s23:=s2.trans s3;have hw3:upd (upd H1 pr (.rng 0 ws.length)) wl (.lst ((B.upTo ws.length).map V.int)) wl=some (.lst ((B.upTo ws.length).map V.int)):=ah;have wl0:H1 wl=none:=by
  cases e:H1 wl with
  |none=>rfl
  |some o=>rw[s2 _ _ e] at hwl;cases hwl
 generalize upd (upd H1 pr (.rng 0 ws.length)) wl (.lst ((B.upTo ws.length).map V.int))=H3 at s23 hw3 ⊢;refine⟨(by show 0≤sizeLine;exact Qu _),λlo hlo=>?_⟩;have s4:=au hlo (.lst []);have nlw:lo≠wl:=λz=>by subst z;rw[hw3] at hlo;cases hlo
 have hw4:=s4 _ _ hw3;have ho4:upd H3 lo (.lst []) lo=some (.lst []):=ah;have s14:=s23.trans s4;have lo0:H1 lo=none:=by
  cases e:H1 lo with
  |none=>rfl
  |some o=>rw[s23 _ _ e] at hlo;cases hlo
 have eup:(B.upTo ws.length).map V.int=bt (cv ws.length (aJ ws es 0)):=by
  show _=bt ((P6 ws.length).filter λi=>!([]:List Nat).contains i);have e:(P6 ws.length).filter (λi=>!([]:List Nat).contains i)=P6 ws.length:=SN.mpr λi _=>Z
  rw[e];unfold B.upTo bt;rw[R6];rfl
 rw[eup] at hw4;generalize upd H3 lo (.lst [])=H4 at s14 hw4 ho4 ⊢;have keep:∀H',(∀b o,b≠wl->b≠lo->H4 b=some o->H' b=some o)->aH H1 H':=λH' kp b o e=>kp b o (λz=>by subst z;rw[wl0] at e;cases e) (λz=>by subst z;rw[lo0] at e;cases e) (s14 _ _ e)
 let Iv1:Yyq:=λm σ H'=>∃(i:Nat) (x5:Option V),σ=[some (.ref p),some u,some (.ref lm),some (.ref wl),some (.ref lo),x5]/\(∀b o,b≠wl->b≠lo->H4 b=some o->H' b=some o)/\H' wl=some (.lst (bt (cv ws.length (aJ ws es i))))/\H' lo=some (.lst (bt (aJ ws es i)))/\i≤ws.length/\m=ws.length-i
 refine⟨Iv1,⟨_,0,none,Z,λ_ _ _ _ e=>e,hw4,ho4,Qu _,Z⟩,?_⟩;rintro m σ H5 ⟨i,x5,rfl,kp,hw5,ho5,hi,rfl⟩;have oi:=dE (es:=es) ak.rk i hi;have s5:=keep H5 kp;have wl_:=oi.wl;refine⟨_,Z,wl,_,Z,.inl (aX.of hw5),_,_,Z,Z,_,Z,?_⟩;have lnv:(bt (cv ws.length (aJ ws es i))).length=(cv ws.length (aJ ws es i)).length:=P8 _;by_cases c:i<ws.length
 ·refine cW (by omega) ⟨_,λ_ _ z=>z,?_⟩;obtain⟨oi1,j,hj,ej⟩:=oi.step ak.rk c;refine⟨_,Z,_,Z,_,Z,.ref p,lm,wl,ws,es,rows,L,cv ws.length (aJ ws es i),Z,⟨p,xs,Z,aK.same s5 _ _ hS1,(al.mono λ_ _ z=>z.mono (aK.same s1)).mono λ_ _ z=>z.mono (aK.same s5)⟩,w8,m1.same s5,c1,aX.of hw5,(λn hn=>(dq.mp hn).1),oi.ne c,by omega,ak.rk,λH6 s6=>?_⟩;refine⟨_,Z,.inl ⟨Z,_,aX.of (s6 _ _ hw5)⟩,_,Z,wl,_,j,_,Z,Z,s6 _ _ hw5,hj,Cg (u8 _ _) hj,?_⟩;rw[ej];have ho6:=s6 _ _ ho5;have ho7:upd H6 wl (.lst ((cv ws.length (aJ ws es (i+1))).map λi:Nat=>V.int i)) lo=some (.lst (bt (aJ ws es i))):=by rw[ao nlw];exact ho6
  refine⟨_,Z,.inl ⟨Z,_,aX.of ho7⟩,_,Z,lo,_,_,Z,Z,ho7,aQ (by unfold bt;rw[P8,oi.len];omega),?_⟩;refine⟨_,(by omega),i+1,_,Z,λb o n1 n2 e=>?_,?_,?_,c,Z⟩
  ·rw[ao n2,ao n1];exact s6 _ _ (kp b o n1 n2 e)
  ·rw[ao (T5 nlw),ah];rfl
  ·rw[ah];show some (HO.lst (bt (aJ ws es i)++[_]))=some (HO.lst (bt (aJ ws es i++[_])));unfold bt;rw[Rh];rfl
 ·refine cG (by omega) ?_;have e:i=ws.length:=by omega
  subst e;exact⟨_,Z,k lo H5 (s1.trans s5) (by
   cases e:H lo with
   |none=>rfl
   |some o=>rw[s1 _ _ e] at lo0;cases lo0) ho5⟩
theorem IG(T:eJ K mg t):bC P w K mg base dU 4 t.a_Q22 t.d_Q22 ["works","order","left","turn","speed"] (pV K):=by
 refine T.F_Q22.ok kh (λvs H Q E h=>?_) (λcdv A outer s H vs Q E hr h=>?_)
 ·obtain⟨_,_,_,_,_,_,_,_,_,_,rfl,_⟩:=h;rfl
 obtain⟨v,u,o,lf,ws,ord,xs,rs,t_,sp,rfl,⟨p,xw,rfl,hS,al⟩,ho,hlf,nol,alr,lr,okr,hu,asp,olt,o8,k⟩:=h;refine dM.ok (ag (cC 5 kh.nd (bW ai)) (ag (cC 6 kh.nd (qv 4)) (ag (bT QL Z (cS (qv 1)) (aD (i:=7) kh.nd Z (by first|exact Q0 Z|exact QV Z)) (ag (cA (eS (dg (cT (BB T) hr T.m_Q21 T.F_Q21.kp T.b_Q21 (ae (ci aB (qv 0) (qv 7)) (ae (qv 3) ai af) aF)))) (av rO) bB) (ag (cC 8 kh.nd (cT (Iq T) hr T.m_Q45 T.F_Q45.kp T.b_Q45 (ae (ci cc (qv 2) (qv 7)) (ae (qv 6) ai af) aF))) (av (cA (aT (kx hr) (qv 8) (dC (v:=.ref t.c_NOUGHT) Z T.m_NOUGHT Z) (bb _)) (ag (bS (dJ Qy QF QH bA (qv 5) (ae (bV (ae (qv 7) (ae (qv 8) ai af) af)) ai dm))) (ag (i5 (cT (uu T) hr T.m_Q52 T.F_Q52.kp T.b_Q52 (ae (ci cc (qv 2) (qv 7)) (ae (qv 8) ai af) aF)) (kq (qv 2) (qv 7) gs)) (av (cC 6 kh.nd (cT (uu T) hr T.m_Q52 T.F_Q52.kp T.b_Q52 (ae (qv 6) (ae (qv 8) ai af) af)))))) bB))))) (av (aL (bY bw (by rfl) T.z_tuple Se (ae (qv 5) ai af))))))) ?_
 nofun
 refine⟨(by show 0≤sizeLine;exact Qu _),λdl hdl=>?_⟩;have s1:=au hdl (.lst []);have hd1:upd H dl (.lst []) dl=some (.lst []):=ah;have ndf:dl≠lf:=λz=>by subst z;rw[hlf] at hdl;cases hdl
 have ndo:dl≠o:=λz=>by subst z;rw[ho] at hdl;cases hdl
 have hlf1:=s1 _ _ hlf;have ho1:=s1 _ _ ho;generalize upd H dl (.lst [])=H1 at s1 hd1 hlf1 ho1 ⊢;have l12:∀r∈[dl,lf],∃xs,H1 r=some (.lst xs):=λr m=>by
  rcases Qm.mp m with z|z
  ·exact⟨_,by rw[z];exact hd1⟩
  ·exact⟨_,by rw[Qj.mp z];exact hlf1⟩
 have t1:=aK.same (K:=K) s1;have onot:o∉[dl,lf]:=λm=>by
  rcases Qm.mp m with z|z
  ·exact ndo z.symm
  ·exact nol (Qj.mp z)
 have md:dl∈[dl,lf]:=Qd;have ml:lf∈[dl,lf]:=Qe _ Qd;let Iv1:Yyq:=λi σ H'=>∃(rv:V) (zs ys:List V) (st:tN) (x8 x9:Option V),σ=[some (.ref p),some (.ref o),some (.ref lf),some (.int (t_:Nat)),some u,some (.ref dl),some rv,x8,x9]/\st=(ord.take i).foldl (bU ws t_) (rs,sp,[])/\Kp [dl,lf] H1 H'/\H' lf=some (.lst zs)/\b8 (RV K H') zs st.1/\RV K H' rv st.2.1/\H' dl=some (.lst ys)/\b8 (yJ K H') ys st.2.2/\wQ ws.length st/\st.2.2.length≤i
 refine⟨_,Z,_,Z,o,Z,⟨_,aX.of ho1⟩,fR (K:=K) (a:=o) (xs:=bt ord) Iv1 ⟨u,xs,[],(rs,sp,[]),none,none,Z,Z,Kp.same (aH.refl _) l12,hlf1,alr.mono λ_ _ z=>z.mono t1,hu.mono t1,hd1,.nil,⟨lr,okr,asp,λp hp=>by cases hp⟩,P7 _⟩ (λi σ H' _ ⟨_,_,_,_,_,_,_,_,kp,_⟩=>aX.of (kp.keep _ _ onot ho1)) ?_ ?_⟩
 ·rintro i x σ H3 hx ⟨rv,zs,ys,st,x8,x9,rfl,est,kp,hl3,alz,hrv,hd3,aly,dok,few⟩;obtain⟨n,hn,rfl⟩:=Ez hx;have nl:=olt n (Qf hn);have i8:i<ord.length:=(Qq.mp hn).1;have t3:=t1.trans (aK.kp kp);have es:(ord.take (i+1)).foldl (bU ws t_) (rs,sp,[])=bU ws t_ st n:=by rw[Q3,hn,RS,est];rfl
  obtain⟨wv,hwv⟩:∃wv,xw[n]?=some wv:=⟨_,P5 (by rw[al.len];exact nl)⟩;obtain⟨w,hw,hwk⟩:=al.at hwv;have ew:ws.getD n bc=w:=ay bc hw;obtain⟨zv,hzv⟩:∃zv,zs[n]?=some zv:=⟨_,P5 (by rw[alz.len,dok.len];exact nl)⟩;obtain⟨r,hr_,hrz⟩:=alz.at hzv;have er:st.1.getD n (0,1)=r:=ay (0,1) hr_;have ar:dW r:=dok.lf r (Qf hr_);refine⟨_,Z,_,Z,p,_,_,_,Z,Z,t3 _ _ hS,be hwv,_,Z,_,w,t_,Z,hwk.mono t3,_,Z,?_⟩;obtain⟨dk1,fw1⟩:=dok.step (ws:=ws) (t:=t_) nl
  cases c:fD w t_ with
  |false=>
   refine kX (b:=!false) Z ?_;have e0:bU ws t_ st n=st:=by
    unfold bU;rw[aaa];rintro⟨z,_⟩;rw[ew,c] at z
    cases z
   exact⟨rv,zs,ys,st,_,_,Z,(es.trans e0).symm,kp,hl3,alz,hrv,hd3,aly,dok,by omega⟩
  |true=>
   refine jJ (b:=!true) Z ?_;refine⟨_,Z,_,Z,lf,_,_,_,Z,Z,aX.of hl3,be hzv,_,Z,_,rv,r,st.2.1,Z,hrz,hrv,ar,dok.rm,λa ha=>?_⟩;have aa:=i7 ar dok.rm;generalize ea:dF r st.2.1=am at ha aa;refine⟨_,Z,dR am,dR (0,1),ha.deep,RV.deep ⟨_,Z,T.q_NOUGHT _⟩,Z,Z,jS _,_,Z,?_⟩;rw[jP];by_cases cz:am=(0,1)
   ·refine jJ (b:=!decide (am=(0,1))) (by rw[Q9 cz];rfl) ?_;have e0:bU ws t_ st n=st:=by
     unfold bU;rw[aaa];rintro⟨_,z⟩;rw[er,ea] at z;exact z cz
    exact⟨rv,zs,ys,st,_,_,Z,(es.trans e0).symm,kp,hl3,alz,hrv,hd3,aly,dok,by omega⟩
   ·refine kX (b:=!decide (am=(0,1))) (by rw[Sy cz];rfl) ?_;have e1:bU ws t_ st n=(st.1.set n (bn r am),bn st.2.1 am,st.2.2++[(n,am)]):=by
     unfold bU;rw[Z9 ⟨by rw[ew];exact c,by rw[er,ea];exact cz⟩,er,ea]
    refine⟨_,Z,.inl ⟨Z,_,aX.of hd3⟩,_,Z,_,Z,kP,λpn hpn=>?_⟩;have s4:=au hpn (.tup [.int (n:Nat),a]);have hp4:upd H3 pn (.tup [.int (n:Nat),a]) pn=some (.tup [.int (n:Nat),a]):=ah;generalize upd H3 pn (.tup [.int (n:Nat),a])=H4 at s4 hp4 ⊢;have hd4:=s4 _ _ hd3;have kp4:=kp.trans (Kp.same s4 kp.ls');refine⟨dl,ys,_,Z,Z,hd4,aQ (by rw[aly.len];omega),?_⟩;have kp5:=Kp.up md kp4.ls' (ys++[.ref pn]);have hd5:upd H4 dl (.lst (ys++[.ref pn])) dl=some (.lst (ys++[.ref pn])):=ah;have hl5:upd H4 dl (.lst (ys++[.ref pn])) lf=some (.lst zs):=by rw[ao (T5 ndf)];exact s4 _ _ hl3
    generalize upd H4 dl (.lst (ys++[.ref pn]))=H5 at kp5 hd5 hl5 ⊢;have t35:=(aK.same (K:=K) s4).trans (aK.kp kp5);have kq5:=kp4.trans kp5;refine⟨_,Z,_,Z,lf,_,_,_,Z,Z,aX.of hl5,be hzv,_,Z,_,a,r,am,800,800,Z,hrz.mono t35,ha.mono t35,ar.wf,aa.wf,by decide,λmv H6 s6 hmv=>?_⟩;have hl6:=s6 _ _ hl5;have hd6:=s6 _ _ hd5;have kq6:=kq5.trans (Kp.same s6 kq5.ls');have t36:=t35.trans (aK.same s6);refine⟨_,Z,_,Z,lf,zs,_,n,Z,Z,hl6,jI (by rw[alz.len,dok.len];exact nl),?_⟩;have kp7:=Kp.up ml kq6.ls' (zs.set n mv);have hl7:upd H6 lf (.lst (zs.set n mv)) lf=some (.lst (zs.set n mv)):=ah;have hd7:upd H6 lf (.lst (zs.set n mv)) dl=some (.lst (ys++[.ref pn])):=by rw[ao ndf];exact hd6
    generalize upd H6 lf (.lst (zs.set n mv))=H7 at kp7 hl7 hd7 ⊢;have t67:=aK.kp (K:=K) kp7;have t37:=t36.trans t67;have kq7:=kq6.trans kp7;refine⟨_,Z,_,Z,rv,a,st.2.1,am,800,800,Z,hrv.mono t37,ha.mono t37,dok.rm.wf,aa.wf,by decide,λrv2 H8 s8 hrv2=>?_⟩;have t78:=aK.same (K:=K) s8;have t38:=t37.trans t78;have est':bU ws t_ st n=(ord.take (i+1)).foldl (bU ws t_) (rs,sp,[]):=es.symm;rw[e1] at est' dk1 fw1;exact⟨rv2,_,_,_,_,_,Z,est',kq7.trans (Kp.same s8 kq7.ls'),s8 _ _ hl7,b8.setI (hmv.mono (t67.trans t78)) n (alz.mono λ_ _ z=>z.mono t38),hrv2,s8 _ _ hd7,b8.snoc ⟨pn,a,Z,(((aK.kp kp5).trans (aK.same s6)).trans (t67.trans t78)) _ _ (bF.of hp4),ha.mono t38⟩ (aly.mono λ_ _ z=>z.mono t38),dk1,by omega⟩
 ·rintro σ H3 ⟨rv,zs,ys,st,x8,x9,rfl,est,kp,hl3,alz,hrv,hd3,aly,dok,few⟩;rw[show(bt ord).length=ord.length from P8 _,Q6] at est;refine⟨_,Z,dl,_,Z,.inl ⟨aX.of hd3,λpt hpt=>?_⟩⟩;have s4:=au hpt (.tup ys);have t34:=aK.same (K:=K) s4;have e:dH ws ord t_ rs sp=st:=est.symm;refine k (.ref pt) zs _ ⟨λb o' nb e=>s4 _ _ (kp.keep b o' (λm=>?_) (s1 _ _ e)),⟨_,hlf⟩,⟨_,s4 _ _ hl3⟩⟩ (s4 _ _ hl3) (by rw[e];exact alz.mono λ_ _ z=>z.mono t34) (by rw[e];exact⟨pt,ys,Z,bF.of ah,aly.mono λ_ _ z=>z.mono t34⟩);rcases Qm.mp m with z|z
  ·rw[z,hdl] at e;cases e
  ·exact nb (Qj.mp z)
theorem Ij(T:eJ K mg t):bC P w K mg base dU 5 t.a_Q55 t.d_Q55 ["works","leans","speeds"] (zp K):=by
 refine T.F_Q55.ok iY (λvs H Q E h=>?_) (λcdv A outer s H vs Q E hr h=>?_)
 ·obtain⟨_,_,_,_,_,_,rfl,_⟩:=h;rfl
 obtain⟨v,u,s_,ws,es,ss,rfl,ak,⟨q,qs,rfl,hq,alq⟩,l24,oks,nl_,k⟩:=h;refine dM.ok (ag (cC 3 iY.nd (cT (Ix T) hr T.m_Q35 T.F_Q35.kp T.b_Q35 (ae (qv 0) (ae (qv 1) ai af) af))) (ag (ju (i:=4) (N':=["work"]) (src:=[none]) iY.nd Z (by first|exact Q0 Z|exact QV Z) Z (by exact(dZ (qv 0))) (λ_ _ _ _ _=>(by exact(by exact aD (i:=0) (by show Q7 (["work"]:List QX);decide +kernel) (by exact Z) (by first|exact Q0 Z|exact QV Z)))) (λ_ _ _ _ _=>cR) (λ_ _ _ _ _=>(by exact(by exact(bv (bO (K:=K) (by exact Z)) (by exact(qv 0)) aj (by exact λ_ _=>Z))))) (by exact trivial) Z (by decide +kernel) Z (by decide +kernel) (by exact bG Z trivial)) (ag (cC 5 iY.nd (bW ai)) (ag (bT QL Z (cI Z T.z_range (ae (dC (v:=.int (24)) Z T.m_TURNS ⟨_,Z⟩) ai af)) (aD (i:=6) iY.nd Z (by first|exact Q0 Z|exact QV Z)) (av (bS (dJ Qy QF QH bA (qv 5) (ae (cT (IG T) hr T.m_Q22 T.F_Q22.kp T.b_Q22 (ae (qv 0) (ae (qv 3) (ae (qv 4) (ae (qv 6) (ae (ci aB (qv 2) (qv 6)) ai aF) af) af) af) af)) ai ba))))) (ag (bT QL Z (mU Z T.z_enumerate (ae (qv 4) ai af)) (gO Z (aY (aD (i:=7) iY.nd Z (by first|exact Q0 Z|exact QV Z)) (aY (aD (i:=8) iY.nd Z (by first|exact Q0 Z|exact QV Z)) cX))) (av (cA (aT (kx hr) (qv 8) (dC (v:=.ref t.c_NOUGHT) Z T.m_NOUGHT Z) (bb _)) (av jv) bB))) (av (aL (bY bw (by rfl) T.z_tuple Se (ae (qv 5) ai af))))))))) ?_
 nofun
 obtain⟨p,xs,rfl,hS,al⟩:=id ak.wv;have w8:=ak.w8;have lx:xs.length=ws.length:=al.len;refine⟨_,Z,_,Z,_,u,ws,es,Z,ak,λo H1 s1 _ ho=>?_⟩;have hS1:=aK.same (K:=K) s1 _ _ hS;refine⟨_,Z,p,Z,⟨_,hS1⟩,λlf hlf0=>d9 (K:=K) (P:=RV K) (ds:=ws) (f:=λw=>w.2.2) (λ_ _ _ _ t z=>z.mono t) hlf0 hS1 lx (by omega) (λi x d H' hx hd sm Rk E kR=>?_) λH2 ys s2 hlf al2=>?_⟩
 ·obtain⟨d',hd',pw,xa,rfl,hSw,rx⟩:=al.at hx;rw[hd] at hd'
  cases hd'
  have t':=aK.same (K:=K) (s1.trans sm);exact⟨gD.set Z,_,Z,pw,_,_,_,Z,Z,t' _ _ hSw,Z,kR _ _ (aH.refl _) (rx.mono t')⟩
 have ho2:=s2 _ _ ho;have nol:o≠lf:=λz=>by subst z;rw[ho] at hlf0;cases hlf0
 have lfN:H lf=none:=by
  cases e:H lf with
  |none=>rfl
  |some o'=>rw[s1 _ _ e] at hlf0;cases hlf0
 refine⟨(by show 0≤sizeLine;exact Qu _),λpl hpl=>?_⟩;have s3:=au hpl (.lst []);have hp3:upd H2 pl (.lst []) pl=some (.lst []):=ah;have npf:pl≠lf:=λz=>by subst z;rw[hlf] at hpl;cases hpl
 have npo:pl≠o:=λz=>by subst z;rw[ho2] at hpl;cases hpl
 have hl3:=s3 _ _ hlf;have ho3:=s3 _ _ ho2;have al3:=al2.mono λ_ _ z=>z.mono (aK.same s3)
 have s03:=(s1.trans s2).trans s3;have plN:H pl=none:=by
  cases e:H pl with
  |none=>rfl
  |some o'=>rw[s2 _ _ (s1 _ _ e)] at hpl;cases hpl
 generalize upd H2 pl (.lst [])=H3 at s03 hp3 hl3 ho3 al3 ⊢;have t03:=aK.same (K:=K) s03;have oi:=dE (es:=es) ak.rk ws.length (P7 _);have pk:=eW (ord:=aJ ws es ws.length) ak.ok oi.lt oks;have md:pl∈[pl,lf]:=Qd;have l12:∀r∈[pl,lf],∃xs,H3 r=some (.lst xs):=λr m=>by
  rcases Qm.mp m with z|z
  ·exact⟨_,by rw[z];exact hp3⟩
  ·exact⟨_,by rw[Qj.mp z];exact hl3⟩
 have onot:o∉[pl,lf]:=λm=>by
  rcases Qm.mp m with z|z
  ·exact npo z.symm
  ·exact nol (Qj.mp z)
 have sk:∀H',Kp [pl,lf] H3 H'->aH H H':=λH' kp b o' e=>kp.keep b o' (λm=>by
  rcases Qm.mp m with z|z
  ·rw[z,plN] at e;cases e
  ·rw[Qj.mp z,lfN] at e;cases e) (s03 _ _ e)
 have olt:=oi.lt;have olen:=oi.len;generalize hod:aJ ws es ws.length=od at ho3 pk olt olen;let Iv1:Yyq:=λi σ H'=>∃(zs ys:List V) (x7 x8 x9:Option V),σ=[some (.ref p),some u,some (.ref q),some (.ref o),some (.ref lf),some (.ref pl),x7,x8,x9]/\Kp [pl,lf] H3 H'/\H' lf=some (.lst zs)/\b8 (RV K H') zs (aR ws od ss i).1/\H' pl=some (.lst ys)/\b8 (nV K H') ys (aR ws od ss i).2
 refine⟨24,Z,by decide,by decide,cJ (lo:=0) (n:=24) Iv1 ⟨_,[],none,none,none,Z,Kp.same (aH.refl _) l12,hl3,al3,hp3,.nil⟩ ?_ ?_⟩
 ·rintro i σ H4 hi ⟨zs,ys,x7,x8,x9,rfl,kp,hl4,alz,hp4,aly⟩;obtain⟨po,pl_⟩:=pk i;have t4:=t03.trans (aK.kp kp);obtain⟨sv,hsv⟩:∃sv,qs[i]?=some sv:=⟨_,P5 (by rw[alq.len,l24];exact hi)⟩;obtain⟨sp,hsp,rsp⟩:=alq.at hsv;have esp:ss.getD i (0,1)=sp:=ay (0,1) hsp;have z0:(0:Int)+(i:Int)=(i:Int):=TC _;refine⟨_,Z,.inl ⟨Z,_,aX.of hp4⟩,_,Z,_,Z,_,Z,_,Z,_,Z,_,Z,q,_,_,_,Z,Z,t4 _ _ hq,(by rw[z0];exact be hsv),.ref p,sv,o,lf,ws,od,zs,(aR ws od ss i).1,i,sp,(by rw[z0];rfl),⟨p,xs,Z,t4 _ _ hS,al.mono λ_ _ z=>z.mono t4⟩,kp.keep _ _ onot ho3,hl4,nol,alz,po.len,po.lf,rsp.mono t4,oks _ (Qf hsp),olt,by rw[olen];omega,λw ys' H5 S5 hl5 al5 tn5=>?_⟩;have hp5:=S5.keep _ _ npf hp4;have t45:=aK.step (K:=K) S5;have kp5:Kp [pl,lf] H4 H5:=⟨λb o' nb e=>S5.keep b o' (λz=>nb (by rw[z];exact Qe _ Qd)) e,kp.ls',λr m=>by
   rcases Qm.mp m with z|z
   ·exact⟨_,by rw[z];exact hp5⟩
   ·exact⟨_,by rw[Qj.mp z];exact hl5⟩⟩
  have kq5:=kp.trans kp5;refine⟨pl,ys,_,Z,Z,hp5,aQ (by rw[aly.len,pl_];omega),?_⟩;have kp6:=Kp.up md kq5.ls' (ys++[w]);have t56:=aK.kp (K:=K) kp6;rw[←esp] at al5 tn5;exact⟨ys',_,_,_,_,Z,kq5.trans kp6,by rw[ao (T5 npf)];exact hl5,al5.mono λ_ _ z=>z.mono t56,ah,b8.snoc (tn5.mono t56) (aly.mono λ_ _ z=>(z.mono t45).mono t56)⟩
 rintro σ H4 ⟨zs,ys,x7,x8,x9,rfl,kp,hl4,alz,hp4,aly⟩;obtain⟨po,pl_⟩:=pk 24;have ed:c8 ws es ss=aR ws od ss 24:=by unfold c8;rw[hod]
 rw[ed] at k nl_;have s04:=sk H4 kp;generalize aR ws od ss 24=pm at k nl_ alz aly po pl_;have lz:zs.length=ws.length:=by rw[alz.len,po.len]
 let Iv2:Yyq:=λi σ H'=>∃(x8 x9:Option V),σ=[some (.ref p),some u,some (.ref q),some (.ref o),some (.ref lf),some (.ref pl),x7,x8,x9]/\aH H4 H'/\∀j,j<i->pm.1.getD j (0,1)=(0,1)
 refine⟨_,Z,lf,Z,⟨_,aX.of hl4⟩,ya (K:=K) (a:=lf) (xs:=zs) Iv2 ⟨_,_,Z,aH.refl _,λj hj=>aad hj (Ue _)⟩ (λi σ H' _ ⟨_,_,_,sm,_⟩=>aX.of (sm _ _ hl4)) ?_ ?_⟩
 ·rintro i x pe σ H5 hx ⟨x8,x9,rfl,s5,le⟩ hpe;obtain⟨r,hr_,hrz⟩:=alz.at hx;have er:pm.1.getD i (0,1)=r:=ay (0,1) hr_;have il:i<pm.1.length:=(Qq.mp hr_).1;have s6:=au hpe (.tup [.int i,x]);have hpe6:upd H5 pe (.tup [.int i,x]) pe=some (.tup [.int i,x]):=ah;generalize upd H5 pe (.tup [.int i,x])=H6 at s6 hpe6 ⊢;have s46:=s5.trans s6;have t46:=aK.same (K:=K) s46;refine⟨pe,_,Z,bF.of hpe6,Z,_,_,Z,_,_,Z,Z,?_⟩;refine⟨_,Z,dR r,dR (0,1),(hrz.mono t46).deep,RV.deep ⟨_,Z,T.q_NOUGHT _⟩,Z,Z,jS _,_,Z,?_⟩;rw[jP];by_cases cz:r=(0,1)
  ·refine jJ (b:=!decide (r=(0,1))) (by rw[Q9 cz];rfl) ?_;refine⟨_,_,Z,s46,λj hj=>?_⟩;by_cases z:j<i
   ·exact le j z
   ·rw[show j=i by omega,er];exact cz
  ·refine kX (b:=!decide (r=(0,1))) (by rw[Sy cz];rfl) ?_;exact aad nl_ (by rw[xQ il (by rw[er];exact cz) le];exact λz=>nomatch z)
 ·rintro σ H5 ⟨x8,x9,rfl,s5,le⟩;refine⟨_,Z,pl,_,Z,.inl ⟨aX.of (s5 _ _ hp4),λpt hpt=>?_⟩⟩;have s6:=au hpt (.tup ys);have t46:=(aK.same (K:=K) s5).trans (aK.same s6);refine k (.ref pt) _ ((s04.trans s5).trans s6) ?_;exact .tup (bF.of ah) ((aly.mono λ_ _ z=>z.mono t46).deep λ_ _ z=>z.deep)
theorem II(T:eJ K mg t):bC P w K mg base dU 6 t.a_Q18 t.d_Q18 ["sheet"] (nY K):=by
 refine T.F_Q18.ok zI (λvs H Q E h=>?_) (λcdv A outer s H vs Q E hr h=>?_)
 ·obtain⟨_,_,_,rfl,_⟩:=h;rfl
 obtain⟨v,ws,es,rfl,sa,nb_,k⟩:=h;refine dM.ok (ag (cC 1 zI.nd (cT (Iz T) hr T.m_Q33 T.F_Q33.kp T.b_Q33 (ae (qv 0) ai af))) (av (aL (cT (Ij T) hr T.m_Q55 T.F_Q55.kp T.b_Q55 (ae (qv 1) (ae (ci aB (qv 0) aj) (ae (cT (IP T) hr T.m_Q10 T.F_Q10.kp T.b_Q10 (ae (qv 1) ai af)) ai ba) aF) af))))) ?_
 nofun
 obtain⟨p,a,b,rfl,hS,wv,lv⟩:=id sa.sv;refine⟨_,Z,.ref p,ws,es,Z,sa.sv,sa.sh,nb_,λf l u H1 s1 win nb d1=>?_⟩;have ok':=F9 sa.ok win nb;have wv':=EZ sa.ok win d1;have w8:=sa.w8;have len:=uI ws f l;have t1:=aK.same (K:=K) s1;refine⟨_,Z,_,Z,p,_,_,_,Z,Z,t1 _ _ hS,Z,_,Z,u,lC ws f l,Z,wv',by omega,ok',λq xs lys H2 s2 hq al ly=>?_⟩;have lok:=kA ly (by decide) (λt ht=>Qi.mp ht);have ams:=j8 ok' (by omega) lok;have ak:Nt K H2 u b (lC ws f l) es:=⟨wv'.mono (aK.same s2),by omega,ok',(lv.mono t1).mono (aK.same s2),by rw[len];exact sa.eok,by rw[len];exact sa.rk,sa.e8⟩;have nl:=xM (es:=es) ok' (by rw[len];exact sa.rk) ly ams;have l24:(aV (lC ws f l) lys).length=24:=by unfold aV;rw[lG];rfl
 refine⟨u,b,.ref q,lC ws f l,es,aV (lC ws f l) lys,Z,ak,⟨q,xs,Z,hq,al⟩,l24,ams,nl,λw H3 s3 dw=>?_⟩;exact k f l lys w H3 ((s1.trans s2).trans s3) win nb ly dw
theorem K3(T:eJ K mg t):bC P w K mg base dU 1 t.a_Q6 t.d_Q6 ["works","amounts","turn"] (j9 K):=by
 refine T.F_Q6.ok FN (λvs H Q E h=>?_) (λcdv A outer s H vs Q E hr h=>?_)
 ·obtain⟨_,_,_,_,_,_,_,rfl,_⟩:=h;rfl
 obtain⟨a,b,xs,ys,kn,rs,t₀,rfl,hA,ak,hB,ar,len,l20,k⟩:=h;refine dM.ok (ag (ju (i:=3) (N':=["number","amount"]) (src:=[none,none]) FN.nd Z (by first|exact Q0 Z|exact QV Z) Z (by exact(mU Z T.z_enumerate (ae (qv 1) ai af))) (λ_ _ _ _ _=>(by exact(by exact ir (K:=K) (n:=2) (by exact Z) (by exact Z) (by exact aY (by exact aD (i:=0) (by show Q7 (["number","amount"]:List QX);decide +kernel) (by exact Z) (by first|exact Q0 Z|exact QV Z)) (by exact aY (by exact aD (i:=1) (by show Q7 (["number","amount"]:List QX);decide +kernel) (by exact Z) (by first|exact Q0 Z|exact QV Z)) cX))))) (λ_ _ _ _ _=>(fB (aT (Es (K:=K) (by exact Z) hr) (by exact(qv 1)) (by exact(dC (v:=.ref t.c_NOUGHT) (by exact Z) T.m_NOUGHT Z)) (bb _)))) (λ_ _ _ _ _=>(by exact(by exact(qv 0)))) (by exact trivial) Z (by decide +kernel) Z (by decide +kernel) (by exact bG Z trivial)) (av (aL (bV (ae (bY bw (by rfl) T.z_tuple Se (ae (bX (N':=["number","turn","amounts","works"]) (src:=[none,some 2,some 1,some 0]) Z (by exact(cS (qv 3))) (λ_ _ _ _ _=>(by exact(by exact aD (i:=0) (by show Q7 (["number","turn","amounts","works"]:List QX);decide +kernel) (by exact Z) (by first|exact Q0 Z|exact QV Z)))) (λ_ _ _ _ _=>cR) (λ_ _ _ _ _=>(by exact(by exact(bV (ae (by exact(qv 1)) (ae (by exact(bv (bO (K:=K) (by exact Z)) (by exact(bv (dA (K:=K) (by exact Z)) (by exact(qv 3)) (by exact(qv 0)) (by exact λ_ _=>Z))) aj (by exact λ_ _=>Z))) (ae (by exact(bv (dA (K:=K) (by exact Z)) (by exact(qv 2)) (by exact(qv 0)) (by exact λ_ _=>Z))) ai aF) aF) af))))) (by exact⟨Z,Z,Z,Z,⟨Z,Z,Z,Z,⟨Z,Z,Z,Z,trivial⟩⟩⟩) Z (by decide +kernel) Z (by decide +kernel) (by exact bG Z ⟨Z,⟨Z,⟨Z,trivial⟩⟩⟩)) ai dB)) (ae (qv 3) ai af) ba))))) ?_
 nofun
 have lx:=ak.len;have ly:=ar.len;refine⟨_,Z,b,Z,⟨_,hB⟩,λD hD=>dX (u5 hB) (λi=>decide (rs.getD i (0,1)≠(0,1))) (λi=>V.int (i:Nat)) hD (by omega) (λi x H' hi s' hx R E kR kE=>?_) λH4 s4 h4=>?_⟩
 ·obtain⟨pe,y,rfl,hy,hpe⟩:=hx;obtain⟨r,hr_,hrz⟩:=ar.at hy;have er:rs.getD i (0,1)=r:=ay (0,1) hr_;have t':=aK.same (K:=K) s';rw[er] at kR kE;refine⟨pe,_,Z,bF.of hpe,Z,_,_,Z,_,_,Z,Z,(gD.set Z).set' Z,?_⟩;refine⟨_,Z,dR r,dR (0,1),(hrz.mono t').deep,RV.deep ⟨_,Z,T.q_NOUGHT _⟩,Z,Z,jS _,_,Z,?_⟩;rw[jP];by_cases cz:r=(0,1)
  ·refine jJ (b:=!decide (r=(0,1))) (by rw[Q9 cz];rfl) ?_;exact kE (Sy λz=>z cz) _ (aH.refl _)
  ·refine kX (b:=!decide (r=(0,1))) (by rw[Sy cz];rfl) ?_;exact⟨_,Z,kR (Q9 cz) _ (aH.refl _)⟩
 have e4:H4 D=some (.lst (bt (aS rs))):=by rw[h4,ly];rfl
 have nl:(bt (aS rs)).length=(aS rs).length:=P8 _;have nm:(aS rs).length≤rs.length:=by
  unfold aS;exact QU (Q5 _ _) (by rw[QN];exact P7 _)
 refine⟨_,Z,D,Z,⟨_,aX.of e4⟩,λD2 hD2=>kH (K:=K) (P:=tf K) (ds:=aS rs) (f:=λi=>((t₀,(kn.getD i bc).2.1,rs.getD i (0,1)):Wk)) (λ_ _ _ _ t p=>p.mono t) hD2 (aX.of e4) nl (by omega) (λi x d H' hx hd s' R E kR=>?_) λH5 ys5 s5 hD5 al5=>?_⟩
 ·have hx':(bt (aS rs))[i]?=some (V.int (d:Nat)):=by unfold bt;rw[Ql,hd];rfl
  rw[hx] at hx'
  cases hx'
  have hdl:d<rs.length:=by
   have m:=Qf hd;unfold aS at m;exact Qi.mp (Qp.mp m).1
  obtain⟨xw,hxw⟩:∃xw,xs[d]?=some xw:=⟨_,P5 (by omega)⟩;obtain⟨yw,hyw⟩:∃yw,ys[d]?=some yw:=⟨_,P5 (by omega)⟩;obtain⟨w,hwd,pw,xa,rfl,hSw,rx⟩:=ak.at hxw;obtain⟨r,hrd,ry⟩:=ar.at hyw;rw[ay bc hwd,ay (0,1) hrd] at kR;have s0':=s4.trans s';have t':=aK.same (K:=K) s0';refine⟨gD.set Z,_,Z,_,Z,_,Z,a,_,_,_,Z,Z,s0'.seq hA,be hxw,pw,_,_,_,Z,Z,t' _ _ hSw,Z,_,Z,_,Z,b,_,_,_,Z,Z,s0'.seq hB,be hyw,JQ,λpn hpn=>?_⟩;exact kR _ _ (au hpn _) ⟨pn,yw,Z,bF.of ah,(ry.mono t').mono (aK.new hpn _)⟩
 ·refine⟨D2,ys5,Z,.inl ⟨aX.of hD5,λpt hpt=>?_⟩⟩;have z:=au hpt (.tup ys5);have wz:fu K (upd H5 pt (.tup ys5)) (.ref pt) (cO kn rs t₀):=⟨pt,ys5,Z,bF.of ah,al5.mono λ_ _ q=>q.mono (aK.same z)⟩;refine⟨_,Z,kP,λpp hpp=>?_⟩;have z2:=au hpp (.tup [.ref pt,.ref D]);exact k pp D (.ref pt) _ (((s4.trans s5).trans z).trans z2) (bF.of ah) (wz.mono (aK.same z2)) (z2 _ _ (z _ _ (s5 _ _ e4)))
theorem BC(T:eJ K mg t):bC P w K mg base dU 1 t.a_Q19 t.d_Q19 ["pieces","numbers"] (nX K):=by
 refine T.F_Q19.ok GR (λvs H Q E h=>?_) (λcdv A outer s H vs Q E hr h=>?_)
 ·obtain⟨_,_,_,_,rfl,_⟩:=h;rfl
 obtain⟨u,l,q,ns,rfl,⟨p,xs,rfl,hS,al⟩,hL,lt,l64,k⟩:=h;refine dM.ok (av (aL (bY bw (by rfl) T.z_tuple Se (ae (bX (N':=["piece","numbers"]) (src:=[none,some 1]) Z (by exact(dZ (qv 0))) (λ_ _ _ _ _=>(by exact(by exact aD (i:=0) (by show Q7 (["piece","numbers"]:List QX);decide +kernel) (by exact Z) (by first|exact Q0 Z|exact QV Z)))) (λ_ _ _ _ _=>cR) (λ_ _ _ _ _=>(by exact(by exact(bV (ae (by exact(bv (dA (K:=K) (by exact Z)) (by exact(qv 1)) (by exact(bv (bO (K:=K) (by exact Z)) (by exact(qv 0)) aj (by exact λ_ _=>Z))) (by exact λ_ _=>Z))) (ae (by exact(bv (bO (K:=K) (by exact Z)) (by exact(qv 0)) aj (by exact λ_ _=>Z))) ai aF) aF))))) (by exact⟨Z,Z,Z,Z,trivial⟩) Z (by decide +kernel) Z (by decide +kernel) (by exact bG Z ⟨Z,trivial⟩)) ai dB)))) ?_;nofun
 have lx:=al.len;refine⟨_,Z,p,Z,⟨_,hS⟩,λD hD=>d9 (K:=K) (P:=yJ K) (ds:=q) (f:=λc:Pc=>((ns.getD c.1 0,c.2):Pc)) (λ_ _ _ _ t p=>p.mono t) hD hS lx (by omega) (λi x c H' hx hc s' R E kR=>?_) λH2 ys2 s2 hD2 al2=>?_⟩
 ·obtain⟨c',hc',pc,xa,rfl,hSc,rx⟩:=al.at hx;rw[hc] at hc'
  cases hc'
  have hl:=lt c (Qf hc);have t':=aK.same (K:=K) s';refine⟨gD.set Z,_,Z,_,Z,pc,_,_,_,Z,Z,t' _ _ hSc,Z,l,_,_,_,Z,Z,s'.seq hL,be (v:=V.int ((ns.getD c.1 0:Nat):Int)) (by unfold bt;rw[Ql,P5 hl,ay 0 (P5 hl)];rfl),_,Z,pc,_,_,_,Z,Z,t' _ _ hSc,Z,kP,λpn hpn=>?_⟩;exact kR _ _ (au hpn _) ⟨pn,xa,Z,bF.of ah,(rx.mono t').mono (aK.new hpn _)⟩
 ·refine⟨D,ys2,Z,.inl ⟨aX.of hD2,λpt hpt=>?_⟩⟩;have z:=au hpt (.tup ys2);exact k _ _ (s2.trans z) ⟨pt,ys2,Z,bF.of ah,al2.mono λ_ _ q=>q.mono (aK.same z)⟩
theorem IL(T:eJ K mg t):bC P w K mg base dU 1 t.a_Q14 t.d_Q14 ["_law_script","_law_k"] (mF K):=by
 refine T.F_Q14.ok GU (λvs H Q E h=>?_) (λcdv A outer s H vs Q E hr h=>?_)
 ·obtain⟨_,_,_,rfl,_⟩:=h;rfl
 obtain⟨a,ns,k₀,rfl,hS,k⟩:=h;refine dM.ok (ag (cA (aT mZ (qv 1) (aO aU (by rfl) T.z_len SL (ae (qv 0) ai af)) (bb _)) (av (aL (ci cc (qv 0) (qv 1)))) bB) (av (aL aj))) ?_
 nofun
 have hlm:((ns.map V.int).length:Int)=(ns.length:Int):=by rw[P8]
 refine⟨_,Z,_,Z,a,_,Z,.inl hS,_,_,Z,Z,_,Z,?_⟩;by_cases c:(k₀:Int)<((ns.map V.int).length:Int)
 ·refine cW c ?_;obtain⟨z,hz⟩:=FU (ns:=ns) (r:=(k₀:Int)) (by omega) (by omega);exact⟨_,Z,_,Z,a,_,_,_,Z,Z,hS,hz,k z⟩
 ·exact cG c (k 0)
theorem IE(T:eJ K mg t):bC P w K mg base dU 1 t.a_Q24 t.d_Q24 ["_law_cell","_law_many"] (pR K):=by
 refine T.F_Q24.ok g5 (λvs H Q E h=>?_) (λcdv A outer s H vs Q E hr h=>?_)
 ·obtain⟨_,_,rfl,_⟩:=h;rfl
 obtain⟨c,m,rfl,m0,m1,k⟩:=h;refine dM.ok (ag (cC 2 g5.nd (bW ai)) (ag (cC 3 g5.nd aj) (ag (cA (aT Br (qv 0) (aM Ic aj aj) (bb _)) (av (cC 3 g5.nd (qv 0))) bB) (ag (cC 4 g5.nd (aM dP (aM g9 (qv 0) aj) aj)) (ag (bT QL Z (cI Z T.z_range (ae (qv 1) ai af)) (aD (i:=5) g5.nd Z (by first|exact Q0 Z|exact QV Z)) (ag (cC 4 g5.nd (aM g9 (aM dP (aM dP (aM g8 (qv 4) (qv 4)) (aM g8 aj (qv 4))) (aM g8 aj (qv 5))) aj)) (av (cA (aT hG (qv 3) aj (bb _)) (ag (bS (dJ Qy QF QH bA (qv 2) (ae (aM g9 (qv 3) aj) ai bz))) (av (cC 3 g5.nd (aM vJ (qv 3) aj)))) (av (bS (dJ Qy QF QH bA (qv 2) (ae (aM vJ (aM g9 (aM dP (aM g8 (qv 4) aj) (aM g8 aj (qv 5))) aj) aj) ai bz)))))))) (av (aL (qv 2)))))))) ?_
 nofun
 refine⟨(by show 0≤sizeLine;exact Qu _),λl h0=>?_⟩;have s0:=au h0 (.lst []);have q0:=SR c (show(2147483629:Int)≠0 by decide);have q1:=SZ c (show(0:Int)<2147483629 by decide);refine⟨_,Z,_,_,Z,Z,⟨by decide,by decide,by decide⟩,_,_,Z,Z,_,Z,Je (λ_=>?_) (λ_=>?_)⟩
 ·refine⟨_,Z,?_⟩;refine⟨_,Z,_,_,Z,Z,(by show(0:Int)<_;decide),_,_,Z,Z,?_⟩;refine⟨_,Z,m,Z,by omega,by omega,cJ (lo:=0) (n:=(m:Int).toNat) (λi σ H'=>∃(ns:List Int) (num mx:Int) (x6:Option V),σ=[some (.int c),some (.int m),some (.ref l),some (.int num),some (.int mx),x6]/\aH H H'/\H' l=some (.lst (ns.map V.int))/\ns.length=i/\0≤mx/\mx<2147540000) ⟨[],c,_,none,Z,s0,ah,Z,by omega,by omega⟩ ?_ ?_⟩
  ·rintro i σ H1 hi ⟨ns,num,mx,x6,rfl,s1,hl1,hn,x0,x1⟩;refine⟨_,Z,_,Z,_,_,Z,Z,.inl ⟨by omega,by omega⟩,_,Z,_,_,Z,Z,.inl ⟨by decide,by decide⟩,_,_,Z,Z,_,Z,_,_,Z,Z,.inl ⟨by decide,by decide⟩,_,_,Z,Z,_,_,Z,Z,(by show(0:Int)<_;decide),?_⟩;have y0:=SR (mx*mx+48271*mx+7*(0+(i:Int))) (show(2147483647:Int)≠0 by decide);have y1:=SZ (mx*mx+48271*mx+7*(0+(i:Int))) (show(0:Int)<2147483647 by decide);have fin:∀(z:Int),∃ns':List Int,upd H1 l (.lst (ns.map V.int++[.int z])) l=some (.lst (ns'.map V.int))/\ns'.length=i+1:=λz=>⟨ns++[z],by rw[ah,Rh];rfl,by rw[QC,hn];rfl⟩
   have sm:∀o,aH H (upd H1 l o):=λo b u e=>by rw[ao (aC e h0)];exact s1 _ _ e
   refine⟨_,Z,_,_,Z,Z,_,Z,Je (λ_=>?_) (λ_=>?_)⟩
   ·refine⟨_,Z,.inl ⟨Z,_,aX.of hl1⟩,_,Z,_,_,Z,Z,(by show(0:Int)<_;decide),l,_,_,Z,Z,hl1,aQ (by rw[P8];omega),?_⟩;refine⟨_,Z,_,_,Z,Z,⟨by decide,by decide⟩,?_⟩;obtain⟨ns',e,el⟩:=fin (num%720720);exact⟨ns',_,_,_,Z,sm _,e,el,y0,by omega⟩
   ·refine⟨_,Z,.inl ⟨Z,_,aX.of hl1⟩,_,Z,_,_,Z,Z,.inr ⟨by decide,by decide⟩,_,Z,_,_,Z,Z,.inl ⟨by decide,by decide⟩,_,_,Z,Z,_,_,Z,Z,(by show(0:Int)<_;decide),_,_,Z,Z,⟨by decide,by decide⟩,l,_,_,Z,Z,hl1,aQ (by rw[P8];omega),?_⟩;obtain⟨ns',e,el⟩:=fin (((mx*mx+48271*mx+7*(0+(i:Int)))%2147483647*69621+13*(0+(i:Int)))%2147483629/3);exact⟨ns',_,_,_,Z,sm _,e,el,y0,by omega⟩
  ·rintro σ H1 ⟨ns,num,mx,x6,rfl,s1,hl1,hn,x0,x1⟩;exact⟨_,Z,k l ns H1 s1 h0 hl1 (by rw[hn];omega)⟩
 ·refine⟨_,Z,_,_,Z,Z,(by show(0:Int)<_;decide),_,_,Z,Z,?_⟩;refine⟨_,Z,m,Z,by omega,by omega,cJ (lo:=0) (n:=(m:Int).toNat) (λi σ H'=>∃(ns:List Int) (num mx:Int) (x6:Option V),σ=[some (.int c),some (.int m),some (.ref l),some (.int num),some (.int mx),x6]/\aH H H'/\H' l=some (.lst (ns.map V.int))/\ns.length=i/\0≤mx/\mx<2147540000) ⟨[],0,_,none,Z,s0,ah,Z,by omega,by omega⟩ ?_ ?_⟩
  ·rintro i σ H1 hi ⟨ns,num,mx,x6,rfl,s1,hl1,hn,x0,x1⟩;refine⟨_,Z,_,Z,_,_,Z,Z,.inl ⟨by omega,by omega⟩,_,Z,_,_,Z,Z,.inl ⟨by decide,by decide⟩,_,_,Z,Z,_,Z,_,_,Z,Z,.inl ⟨by decide,by decide⟩,_,_,Z,Z,_,_,Z,Z,(by show(0:Int)<_;decide),?_⟩;have y0:=SR (mx*mx+48271*mx+7*(0+(i:Int))) (show(2147483647:Int)≠0 by decide);have y1:=SZ (mx*mx+48271*mx+7*(0+(i:Int))) (show(0:Int)<2147483647 by decide);have fin:∀(z:Int),∃ns':List Int,upd H1 l (.lst (ns.map V.int++[.int z])) l=some (.lst (ns'.map V.int))/\ns'.length=i+1:=λz=>⟨ns++[z],by rw[ah,Rh];rfl,by rw[QC,hn];rfl⟩
   have sm:∀o,aH H (upd H1 l o):=λo b u e=>by rw[ao (aC e h0)];exact s1 _ _ e
   refine⟨_,Z,_,_,Z,Z,_,Z,Je (λ_=>?_) (λ_=>?_)⟩
   ·refine⟨_,Z,.inl ⟨Z,_,aX.of hl1⟩,_,Z,_,_,Z,Z,(by show(0:Int)<_;decide),l,_,_,Z,Z,hl1,aQ (by rw[P8];omega),?_⟩;refine⟨_,Z,_,_,Z,Z,⟨by decide,by decide⟩,?_⟩;obtain⟨ns',e,el⟩:=fin (num%720720);exact⟨ns',_,_,_,Z,sm _,e,el,y0,by omega⟩
   ·refine⟨_,Z,.inl ⟨Z,_,aX.of hl1⟩,_,Z,_,_,Z,Z,.inr ⟨by decide,by decide⟩,_,Z,_,_,Z,Z,.inl ⟨by decide,by decide⟩,_,_,Z,Z,_,_,Z,Z,(by show(0:Int)<_;decide),_,_,Z,Z,⟨by decide,by decide⟩,l,_,_,Z,Z,hl1,aQ (by rw[P8];omega),?_⟩;obtain⟨ns',e,el⟩:=fin (((mx*mx+48271*mx+7*(0+(i:Int)))%2147483647*69621+13*(0+(i:Int)))%2147483629/3);exact⟨ns',_,_,_,Z,sm _,e,el,y0,by omega⟩
  ·rintro σ H1 ⟨ns,num,mx,x6,rfl,s1,hl1,hn,x0,x1⟩;exact⟨_,Z,k l ns H1 s1 h0 hl1 (by rw[hn];omega)⟩
theorem gQ(T:eJ K mg t):bC P w K mg base dU 1 t.a_Q36 t.d_Q36 ["_law_tape","_law_many"] (rc K):=by
 refine T.F_Q36.ok GL (λvs H Q E h=>?_) (λcdv A outer s H vs Q E hr h=>?_)
 ·obtain⟨_,_,_,rfl,_⟩:=h;rfl
 obtain⟨t₁,l,m,rfl,tp,hm0,hm1,k⟩:=h;refine dM.ok (ag (i5 (aM dP (ci cc (qv 0) aj) aj) (kq (qv 0) aj gs)) (av (aL (aM g9 (ci cc (ci cc (qv 0) aj) (aM g9 (aM g7 (ci cc (qv 0) aj) aj) (aO aU (by rfl) T.z_len SL (ae (ci cc (qv 0) aj) ai aF)))) (qv 1))))) ?_
 nofun
 obtain⟨ns,p,ht,hl,nl,n0,n1⟩:=tp.ex;refine⟨_,Z,t₁,_,_,_,Z,Z,aX.of ht,Z,_,_,Z,Z,_,Z,t₁,_,_,_,Z,Z,ht,Z,?_⟩;have hl':∀o,upd H t₁ o l=some (.lst (ns.map V.int)):=λo=>by rw[ao nl];exact hl
 have hlm:((ns.map V.int).length:Int)=(ns.length:Int):=by rw[P8]
 obtain⟨z,hz⟩:=FU (ns:=ns) (r:=(p+1-1)%((ns.map V.int).length:Int)) (SR _ (by omega)) (by have:=SZ (p+1-1) (show(0:Int)<((ns.map V.int).length:Int) by omega);omega);refine⟨_,Z,t₁,_,_,_,Z,Z,aX.of ah,Z,_,Z,t₁,_,_,_,Z,Z,aX.of ah,Z,_,_,Z,Z,_,Z,t₁,_,_,_,Z,Z,aX.of ah,Z,l,_,Z,.inl (aX.of (hl' _)),_,_,Z,Z,(by omega),l,_,_,_,Z,Z,aX.of (hl' _),hz,_,Z,_,_,Z,Z,hm0,?_⟩;exact k _ _ (SR _ (by omega)) (SZ _ hm0) ⟨ns,_,ah,hl' _,nl,n0,n1⟩
theorem m4(T:eJ K mg t):bC P w K mg base dU 1 t.a_Q37 t.d_Q37 ["_law_top","_law_bottom"] (rh K):=by
 refine T.F_Q37.ok uf (λvs H Q E h=>?_) (λcdv A outer s H vs Q E hr h=>?_)
 ·obtain⟨_,_,rfl,_⟩:=h;rfl
 obtain⟨a,b,rfl,hb,hz,k⟩:=h;refine dM.ok (ag (AN (i:=2) (j:=3) Z uf.nd Z Z (by decide) Z Z (ae (aO nQ (by rfl) T.z_abs boot_abs (ae (qv 0) ai af)) (ae (qv 1) ai af) ba) Z) (ag (jt QL (aT hG (qv 3) aj (bb _)) (av (AN (i:=2) (j:=3) Z uf.nd Z Z (by decide) Z Z (ae (qv 3) (ae (aM g9 (qv 2) (qv 3)) ai bz) af) Z))) (av (aL (bV (ae (aM d0 (qv 0) (qv 2)) (ae (aM d0 (qv 1) (qv 2)) ai bz) bz)))))) ?_
 nofun
 have gp:=cr (a:=a) hb;have gb:=nK (a:=a) hb hz;refine⟨_,Z,_,Z,_,Z,_,_,Z,?_⟩;rw[uS];refine⟨λm σ H'=>∃(x y:Int),σ=[some (.int a),some (.int b),some (.int x),some (.int y)]/\H'=H/\0≤x/\0≤y/\Qz x y=Qz a b/\m=y.toNat,⟨_,_,_,Z,Z,by omega,by omega,(by simp[Qz]),Z⟩,?_⟩;rintro m σ H' ⟨x,y,rfl,rfl,hx,hy,hg,rfl⟩;refine⟨_,Z,_,_,Z,Z,_,Z,?_⟩;by_cases c:y=0
 ·subst c;refine cG (by decide) ?_;have e:(x:Int)=(Qz x 0:Nat):=by simp[Qz];omega
  rw[hg] at e;subst e;exact⟨_,Z,_,Z,_,_,Z,Z,⟨gp,gb⟩,_,Z,_,Z,_,_,Z,Z,⟨gp,gb⟩,kP,λp hp=>k p hp⟩
 ·refine cW (by omega) ?_;refine⟨_,λ_ _ z=>z,?_⟩;refine⟨_,Z,_,Z,_,Z,_,_,Z,Z,(by omega),_,_,Z,?_⟩;refine⟨_,?_,y,x%y,Z,Z,hy,SR _ c,?_,Z⟩
  ·have:=SZ x (show 0<y by omega);have:=SR x c;omega
  ·rw[si hx (by omega),hg]
theorem Bx(T:eJ K mg t):bC P w K mg base dU 2 t.a_Q38 t.d_Q38 ["_law_one","_law_other"] (re K):=by
 refine T.F_Q38.ok GK (λvs H Q E h=>?_) (λcdv A outer s H vs Q E hr h=>?_)
 ·obtain⟨_,_,_,_,_,_,rfl,_⟩:=h;rfl
 obtain⟨v,w,r,q,n,m,rfl,hv,hw,wr,wq,hz,k⟩:=h;refine dM.ok (av (aL (cT (m4 T) hr T.m_Q37 T.F_Q37.kp T.b_Q37 (ae (aM dP (aM cu (ci aB (qv 0) aj) (ci aB (qv 1) aj)) (aM cu (ci aB (qv 1) aj) (ci aB (qv 0) aj))) (ae (aM cu (ci aB (qv 0) aj) (ci aB (qv 1) aj)) ai bz) bz)))) ?_;nofun
 obtain⟨p,rfl,hv⟩:=hv;obtain⟨p',rfl,hw⟩:=hw;have c1:=bM wr.top (show n≤4000 by omega);have c2:=bM wr.bot (show n≤4000 by omega);have c3:=bM wq.top (show m≤4000 by omega);have c4:=bM wq.bot (show m≤4000 by omega);refine⟨_,Z,p,_,_,_,Z,Z,hv,Z,_,Z,p',_,_,_,Z,Z,hw,Z,_,_,Z,Z,⟨c1,c4⟩,_,Z,p',_,_,_,Z,Z,hw,Z,_,Z,p,_,_,_,Z,Z,hv,Z,_,_,Z,Z,⟨c3,c2⟩,_,_,Z,Z,_,Z,p,_,_,_,Z,Z,hv,Z,_,Z,p',_,_,_,Z,Z,hw,Z,_,_,Z,Z,⟨c2,c4⟩,_,_,Z,RT wr.pos wq.pos,bM (uw wr.bot wq.bot) (by omega),k⟩
theorem Bz(T:eJ K mg t):bC P w K mg base dU 2 t.a_Q25 t.d_Q25 ["_law_one","_law_other"] (pQ K):=by
 refine T.F_Q25.ok GP (λvs H Q E h=>?_) (λcdv A outer s H vs Q E hr h=>?_)
 ·obtain⟨_,_,_,_,_,_,rfl,_⟩:=h;rfl
 obtain⟨v,w,r,q,n,m,rfl,hv,hw,wr,wq,hz,k⟩:=h;refine dM.ok (av (aL (cT (m4 T) hr T.m_Q37 T.F_Q37.kp T.b_Q37 (ae (aM g7 (aM cu (ci aB (qv 0) aj) (ci aB (qv 1) aj)) (aM cu (ci aB (qv 1) aj) (ci aB (qv 0) aj))) (ae (aM cu (ci aB (qv 0) aj) (ci aB (qv 1) aj)) ai bz) bz)))) ?_;nofun
 obtain⟨p,rfl,hv⟩:=hv;obtain⟨p',rfl,hw⟩:=hw;have c1:=bM wr.top (show n≤4000 by omega);have c2:=bM wr.bot (show n≤4000 by omega);have c3:=bM wq.top (show m≤4000 by omega);have c4:=bM wq.bot (show m≤4000 by omega);refine⟨_,Z,p,_,_,_,Z,Z,hv,Z,_,Z,p',_,_,_,Z,Z,hw,Z,_,_,Z,Z,⟨c1,c4⟩,_,Z,p',_,_,_,Z,Z,hw,Z,_,Z,p,_,_,_,Z,Z,hv,Z,_,_,Z,Z,⟨c3,c2⟩,_,_,Z,Z,_,Z,p,_,_,_,Z,Z,hv,Z,_,Z,p',_,_,_,Z,Z,hw,Z,_,_,Z,Z,⟨c2,c4⟩,_,_,Z,RT wr.pos wq.pos,bM (uw wr.bot wq.bot) (by omega),k⟩
theorem Io(T:eJ K mg t):bC P w K mg base dU 2 t.a_Q47 t.d_Q47 ["_law_one","_law_other"] (xc K):=by
 refine T.F_Q47.ok GH (λvs H Q E h=>?_) (λcdv A outer s H vs Q E hr h=>?_)
 ·obtain⟨_,_,_,_,rfl,_⟩:=h;rfl
 obtain⟨v,w,r,z,rfl,hv,hw,wr,z0,z24,k⟩:=h;refine dM.ok (av (aL (cT (m4 T) hr T.m_Q37 T.F_Q37.kp T.b_Q37 (ae (aM cu (ci aB (qv 0) aj) (ci aB (qv 1) aj)) (ae (aM cu (ci aB (qv 0) aj) (ci aB (qv 1) aj)) ai bz) bz)))) ?_;nofun
 obtain⟨p,rfl,hv⟩:=hv;obtain⟨p',rfl,hw⟩:=hw;have c1:=bM wr.top (show 800≤4000 by omega);have c2:=bM wr.bot (show 800≤4000 by omega);have c3:z.natAbs<2^4000:=Rn (show z.natAbs≤24 by omega) (by decide);have c4:(1:Int).natAbs<2^4000:=by decide
 have z5:z.natAbs<2^5:=Rn (show z.natAbs≤24 by omega) (by decide);exact⟨_,Z,p,_,_,_,Z,Z,hv,Z,_,Z,p',_,_,_,Z,Z,hw,Z,_,_,Z,Z,⟨c1,c4⟩,_,Z,p,_,_,_,Z,Z,hv,Z,_,Z,p',_,_,_,Z,Z,hw,Z,_,_,Z,Z,⟨c2,c3⟩,_,_,Z,RT wr.pos z0,bM (uw wr.bot z5) (by omega),k⟩
theorem BE(T:eJ K mg t):bC P w K mg base dU 1 t.a_Q15 t.d_Q15 ["_law_one","_law_other"] (mE K):=by
 refine T.F_Q15.ok GT (λvs H Q E h=>?_) (λcdv A outer s H vs Q E hr h=>?_)
 ·obtain⟨_,_,_,_,_,_,rfl,_⟩:=h;rfl
 obtain⟨v,w,r,q,n,m,rfl,hv,hw,wr,wq,hz,k⟩:=h;refine dM.ok (av (aL (gP mZ (aM cu (ci aB (qv 0) aj) (ci aB (qv 1) aj)) (aM cu (ci aB (qv 1) aj) (ci aB (qv 0) aj)) (bb _)))) ?_;nofun
 obtain⟨p,rfl,hv⟩:=hv;obtain⟨p',rfl,hw⟩:=hw;have c1:=bM wr.top (show n≤4000 by omega);have c2:=bM wr.bot (show n≤4000 by omega);have c3:=bM wq.top (show m≤4000 by omega);have c4:=bM wq.bot (show m≤4000 by omega);refine⟨_,Z,p,_,_,_,Z,Z,hv,Z,_,Z,p',_,_,_,Z,Z,hw,Z,_,_,Z,Z,⟨c1,c4⟩,_,Z,p',_,_,_,Z,Z,hw,Z,_,Z,p,_,_,_,Z,Z,hv,Z,_,_,Z,Z,⟨c3,c2⟩,_,_,Z,Z,k⟩
theorem ID(T:eJ K mg t):bC P w K mg base dU 3 t.a_Q26 t.d_Q26 ["_law_some"] (pP K):=by
 refine T.F_Q26.ok p6 (λvs H Q E h=>?_) (λcdv A outer s H vs Q E hr h=>?_)
 ·obtain⟨_,_,_,rfl,_⟩:=h;rfl
 obtain⟨a,xs,rs,rfl,hS,al,bq,hl,k⟩:=h;refine dM.ok (ag (cC 1 p6.nd (bV (ae aj (ae aj ai aP) aP))) (ag (bT QL Z (cS (qv 0)) (aD (i:=2) p6.nd Z (by first|exact Q0 Z|exact QV Z)) (av (cC 1 p6.nd (cT (Bx T) hr T.m_Q38 T.F_Q38.kp T.b_Q38 (ae (qv 1) (ae (qv 2) ai af) af))))) (av (aL (qv 1))))) ?_
 nofun
 have hlen:=al.len;refine⟨kP,λp0 hp0=>?_⟩;have s0:=au hp0 (.tup [.int 0,.int 1]);refine⟨_,Z,a,Z,⟨_,s0.seq hS⟩,fR (K:=K) (a:=a) (xs:=xs) (λi σ H'=>∃(u:V) (x3:Option V),σ=[some (.ref a),some u,x3]/\aH H H'/\RV K H' u (eK (rs.take i))) ⟨_,none,Z,s0,RV.of ah⟩ (λi σ H1 _ ⟨_,_,_,s1,_⟩=>s1.seq hS) ?_ ?_⟩
 ·rintro i y σ H1 hi ⟨u,x3,rfl,s1,ru⟩;obtain⟨r,hr,rv⟩:=al.at hi;have br:=bq r (Qf hr);have hil:=(Qq.mp hr).1;have wu:Wf 800 (eK (rs.take i)):=w8 ((gL (N:=12) (by decide) λx hx=>bq x (RW hx)).mono (RN _) (by rw[Rv];omega));have wr:Wf 800 r:=w8 (br.mono (RN _) (by decide));refine⟨_,Z,_,Z,u,y,eK (rs.take i),r,800,800,Z,ru,rv.mono (aK.same s1),wu,wr,by decide,λp hp=>?_⟩;have s2:=au hp (.tup [.int (bP (eK (rs.take i)) r).1,.int (bP (eK (rs.take i)) r).2]);refine⟨_,_,Z,s1.trans s2,?_⟩;rw[y9 hr];exact RV.of ah
 ·rintro σ H1 ⟨u,x3,rfl,s1,ru⟩;rw[hlen,Q6] at ru;exact⟨_,Z,k u H1 s1 ru⟩
theorem Iw(T:eJ K mg t):bC P w K mg base dU 2 t.a_Q39 t.d_Q39 ["_law_some"] (rg K):=by
 refine T.F_Q39.ok pZ (λvs H Q E h=>?_) (λcdv A outer s H vs Q E hr h=>?_)
 ·obtain⟨_,_,_,rfl,_⟩:=h;rfl
 obtain⟨a,xs,rs,rfl,hS,al,wf,hl,k⟩:=h;refine dM.ok (ag (cC 1 pZ.nd (bV (ae aj (ae aj ai aP) aP))) (ag (bT QL Z (cS (qv 0)) (aD (i:=2) pZ.nd Z (by first|exact Q0 Z|exact QV Z)) (av (cA (dg (cT (BE T) hr T.m_Q15 T.F_Q15.kp T.b_Q15 (ae (qv 1) (ae (qv 2) ai af) af))) (av (cC 1 pZ.nd (qv 2))) bB))) (av (aL (qv 1))))) ?_
 nofun
 have hlen:=al.len;refine⟨kP,λp0 hp0=>?_⟩;have s0:=au hp0 (.tup [.int 0,.int 1]);refine⟨_,Z,a,Z,⟨_,s0.seq hS⟩,fR (K:=K) (a:=a) (xs:=xs) (λi σ H'=>∃(u:V) (x3:Option V),σ=[some (.ref a),some u,x3]/\aH H H'/\RV K H' u ((rs.take i).foldl gE (0,1))/\Wf 800 ((rs.take i).foldl gE (0,1))) ⟨_,none,Z,s0,RV.of ah,Da.mono (by decide)⟩ (λi σ H1 _ ⟨_,_,_,s1,_⟩=>s1.seq hS) ?_ ?_⟩
 ·rintro i y σ H1 hi ⟨u,x3,rfl,s1,ru,wu⟩;obtain⟨r,hr,rv⟩:=al.at hi;have wr:=wf r (Qf hr);have e:(rs.take (i+1)).foldl gE (0,1)=gE ((rs.take i).foldl gE (0,1)) r:=by
   rw[Q3,hr,RS];rfl
  rw[e];generalize (rs.take i).foldl gE (0,1)=m at ru wu ⊢;have ww:=Lb wu wr;refine⟨_,Z,_,Z,u,y,m,r,800,800,Z,ru,rv.mono (aK.same s1),wu,wr,by decide,_,Z,?_⟩;unfold gE at ww ⊢
  cases c:cP m r with
  |true=>
   rw[c,Z9 Z] at ww;refine iG ?_;exact⟨_,Z,y,_,Z,s1,(by rw[Z9 Z];exact rv.mono (aK.same s1)),(by rw[Z9 Z];exact ww)⟩
  |false=>
   refine fC ?_;exact⟨u,_,Z,s1,(by rw[aaa QB];exact ru),(by rw[aaa QB];exact wu)⟩
 ·rintro σ H1 ⟨u,x3,rfl,s1,ru,wu⟩;rw[hlen,Q6] at ru;exact⟨_,Z,k u H1 s1 ru⟩
theorem By(T:eJ K mg t):bC P w K mg base dU 2 t.a_Q27 t.d_Q27 ["_law_tape","_law_most_here","_law_turns"] (pO K):=by
 refine T.F_Q27.ok fN (λvs H Q E h=>?_) (λcdv A outer s H vs Q E hr h=>?_)
 ·obtain⟨_,_,_,_,rfl,_⟩:=h;rfl
 obtain⟨t₁,l,mo,tu,rfl,tb,m0,m20,u1,u24,k⟩:=h;refine dM.ok (ag (cC 3 fN.nd (bW ai)) (ag (bT QL Z (cI Z T.z_range (ae (cT (gQ T) hr T.m_Q36 T.F_Q36.kp T.b_Q36 (ae (qv 0) (ae (aM dP (qv 1) aj) ai bz) af)) ai ba)) (aD (i:=4) fN.nd Z (by first|exact Q0 Z|exact QV Z)) (ag (cC 5 fN.nd (cT (gQ T) hr T.m_Q36 T.F_Q36.kp T.b_Q36 (ae (qv 0) (ae aj ai aP) af))) (ag (cC 6 fN.nd (cT (gQ T) hr T.m_Q36 T.F_Q36.kp T.b_Q36 (ae (qv 0) (ae (qv 2) ai af) af))) (ag (cC 7 fN.nd (aM dP (qv 6) (cT (gQ T) hr T.m_Q36 T.F_Q36.kp T.b_Q36 (ae (qv 0) (ae (aM g7 (qv 2) (qv 6)) ai bz) af)))) (ag (qh (cA (aT gS (qv 5) aj (bb _)) (av (cC 7 fN.nd (qv 6))) bB)) (ag (qh (cA (iK (mT (aT gS (qv 5) aj (bb _)) (lJ (aT (kx hr) (qv 3) (bW ai) (bb _))))) (av (i5 (mV zy (ci cc (qv 3) (cT (gQ T) hr T.m_Q36 T.F_Q36.kp T.b_Q36 (ae (qv 0) (ae (aO aU (by rfl) T.z_len SL (ae (qv 3) ai af)) ai ba) af))) vB (lK aj)) (gO Z (aY (aD (i:=6) fN.nd Z (by first|exact Q0 Z|exact QV Z)) (aY (aD (i:=7) fN.nd Z (by first|exact Q0 Z|exact QV Z)) cX))))) bB)) (ag (cC 8 fN.nd (bV (ae (aM dP aj (cT (gQ T) hr T.m_Q36 T.F_Q36.kp T.b_Q36 (ae (qv 0) (ae aj ai aP) af))) (ae (ci cc (bW (ae aj (ae aj (ae aj (ae aj (ae aj (ae aj ai aP) aP) aP) aP) aP) aP)) (cT (gQ T) hr T.m_Q36 T.F_Q36.kp T.b_Q36 (ae (qv 0) (ae aj ai aP) af))) ai aF) bz))) (ag (qh (cA (iK (mT (aT gS (qv 5) aj (bb _)) (lJ (aT (kx hr) (qv 3) (bW ai) (bb _))))) (av (cC 8 fN.nd (ci aB (ci cc (qv 3) (cT (gQ T) hr T.m_Q36 T.F_Q36.kp T.b_Q36 (ae (qv 0) (ae (aO aU (by rfl) T.z_len SL (ae (qv 3) ai af)) ai ba) af))) aj))) bB)) (av (bS (dJ Qy QF QH bA (qv 3) (ae (bV (ae (qv 6) (ae (qv 7) (ae (cT (m4 T) hr T.m_Q37 T.F_Q37.kp T.b_Q37 (ae (ci aB (qv 8) aj) (ae (ci aB (qv 8) aj) ai aF) aF)) ai ba) af) af)) ai dm)))))))))))) (av (aL (bY bw (by rfl) T.z_tuple Se (ae (qv 3) ai af)))))) ?_
 nofun
 refine⟨(by show 0≤sizeLine;exact Qu _),λlw hlw=>?_⟩;have s1:=au hlw (.lst []);have nt:lw≠t₁:=λz=>by obtain⟨ys,e⟩:=tb.lst;rw[←z,hlw] at e;cases e
 have nl:lw≠l:=λz=>by obtain⟨ys,e⟩:=tb.lst';rw[←z,hlw] at e;cases e
 have W1:Wl K H t₁ l lw (upd H lw (.lst [])) []:=⟨tw.of s1,tb.same s1,⟨[],ah,.nil⟩,nt,nl,hlw,λw h=>by cases h⟩;generalize upd H lw (.lst [])=H1 at W1 ⊢;refine⟨_,Z,_,Z,_,_,Z,Z,t₁,l,mo+1,Z,W1.tb,by omega,by omega,λr2 x2 a2 b2 tb2=>?_⟩;have W2:=W1.tape tb2;generalize upd H1 t₁ (.lst x2)=H2 at W2 ⊢;obtain⟨m,rfl⟩:=Rz a2;let I1:Yyq:=λi σ H'=>∃(x4 x5 x6 x7 x8:Option V) (ws:List Wk),σ=[some (.ref t₁),some (.int mo),some (.int tu),some (.ref lw),x4,x5,x6,x7,x8]/\Wl K H t₁ l lw H' ws/\ws.length=i;refine⟨m,Z,by omega,by omega,cJ (lo:=0) (n:=(m:Int).toNat) I1 ⟨none,none,none,none,none,[],Z,W2,Z⟩ ?_ ?_⟩
 ·rintro i σ H3 hi ⟨x4,x5,x6,x7,x8,ws,rfl,W3,wl⟩;refine⟨_,Z,t₁,l,6,Z,W3.tb,by omega,by omega,λrw_ x5' a5 b5 tb5=>?_⟩;have W5:=W3.tape tb5;generalize upd H3 t₁ (.lst x5')=H5 at W5 ⊢;refine⟨_,Z,_,Z,t₁,l,tu,Z,W5.tb,by omega,by omega,λrf x6' a6 b6 tb6=>?_⟩;have W6:=W5.tape tb6;generalize upd H5 t₁ (.lst x6')=H6 at W6 ⊢;refine⟨_,Z,_,Z,_,Z,_,Z,_,_,Z,Z,t₁,l,tu-rf,Z,W6.tb,by omega,by omega,λrl x7' a7 b7 tb7=>?_⟩;have W7:=W6.tape tb7;generalize upd H6 t₁ (.lst x7')=H7 at W7 ⊢;refine⟨_,_,Z,Z,?_⟩;refine⟨λσ H'=>∃(f g:Int),σ=[some (.ref t₁),some (.int mo),some (.int tu),some (.ref lw),some (.int (0+(i:Nat))),some (.int rw_),some (.int f),some (.int g),x8]/\H'=H7/\0≤f/\f≤g/\g<24,?_,?_⟩
  ·refine⟨_,Z,Z,_,Z,?_⟩;by_cases c:rw_=0
   ·refine cW (by rw[c]) ?_;exact⟨_,Z,rf,rf,Z,Z,a6,Vt _,by omega⟩
   ·refine cG (λz=>by injection z with z;exact c z) ?_;exact⟨rf,rf+rl,rfl,rfl,a6,by omega,by omega⟩
  rintro σ H7' ⟨f,g,rfl,rfl,f0,fg,g24⟩;clear a7 b7 a6 b6 rf rl a5 b5;refine⟨λσ H'=>∃(f g:Int),σ=[some (.ref t₁),some (.int mo),some (.int tu),some (.ref lw),some (.int (0+(i:Nat))),some (.int rw_),some (.int f),some (.int g),x8]/\Wl K H t₁ l lw H' ws/\0≤f/\f≤g/\g<24,?_,?_⟩
  ·refine⟨_,Z,Z,_,Z,?_⟩;by_cases c:rw_=1
   rotate_left
   ·refine cG (λz=>by injection z with z;exact c z) (fC ?_);exact⟨f,g,rfl,W7,f0,fg,g24⟩
   refine cW (by rw[c]) ?_;refine⟨_,Z,(by show 0≤sizeLine;exact Qu _),λpe hpe=>?_⟩;have z8:=au hpe (.lst []);have W8:=W7.same z8;have e8:upd H7' pe (.lst []) pe=some (.lst []):=ah;generalize upd H7' pe (.lst [])=H8 at W8 e8 ⊢;obtain⟨zs,ez,alz⟩:=W8.hw;refine⟨.list (ws.map C4),.list [],.lst (aX.of ez) (alz.deep λ_ _ q=>q.deep),.lst (aX.of e8) .nil,BV ws,Z,Cu ws,_,Z,?_⟩;have ev:RQ (.list (ws.map C4)) (.list [])=ws.isEmpty:=by cases ws<;>rfl
   rw[ev];by_cases hw:ws=[]
   ·refine jJ (b:=!ws.isEmpty) (by rw[hw];rfl) ?_;exact⟨f,g,Z,W8,f0,fg,g24⟩
   ·have wl1:0<ws.length:=UD.mpr hw;have lz:=alz.len;refine kX (b:=!ws.isEmpty) (by rw[SK,V7];exact hw) ?_;refine⟨_,Z,_,Z,_,Z,lw,_,Z,.inl (aX.of ez),t₁,l,zs.length,Z,W8.tb,by omega,by omega,λr9 x9 a9 b9 tb9=>?_⟩;have W9:=W8.tape tb9;generalize upd H8 t₁ (.lst x9)=H9 at W9 ⊢;obtain⟨zs9,ez9,al9⟩:=W9.hw;have lz9:=al9.len;obtain⟨n,rfl⟩:=Rz a9;obtain⟨xw,hxw⟩:∃xw,zs9[n]?=some xw:=⟨_,P5 (by omega)⟩;obtain⟨w,hwd,pw,xa,rfl,hSw,rw9⟩:=al9.at hxw;have gw:=W9.gd w (Qf hwd);refine⟨lw,_,_,_,Z,Z,aX.of ez9,be hxw,_,Z,pw,_,Z,hSw,(by show ¬(HT.sIx 3 0 none=0/\HT.sIx 3 3 (some 2)=3);decide),λq hq=>?_⟩;have W10:=W9.same (au hq (.tup [.int (w.1:Nat),.int (w.2.1:Nat)]));exact⟨q,_,Z,bF.of ah,Z,_,_,Z,_,_,Z,Z,w.1,w.2.1,Z,W10,by omega,by have:=gw.1;omega,by have:=gw.2.1;omega⟩
  rintro σ H8 ⟨f,g,rfl,W8,f0,fg,g24⟩;refine⟨_,Z,t₁,l,12,Z,W8.tb,by omega,by omega,λr9 x9 a9 b9 tb9=>?_⟩;have W9:=W8.tape tb9;generalize upd H8 t₁ (.lst x9)=H9 at W9 ⊢;refine⟨_,_,Z,Z,Ow,λpg hpg=>?_⟩;have e10:upd H9 pg (.lst [.int 1,.int 1,.int 2,.int 3,.int 4,.int 7]) pg=some (.lst [.int 1,.int 1,.int 2,.int 3,.int 4,.int 7]):=ah;have ng:pg≠t₁:=λz=>by obtain⟨ys,e⟩:=W9.tb.lst;rw[←z,hpg] at e;cases e
  have W10:=W9.same (au hpg (.lst [.int 1,.int 1,.int 2,.int 3,.int 4,.int 7]));generalize upd H9 pg (.lst [.int 1,.int 1,.int 2,.int 3,.int 4,.int 7])=H10 at e10 W10 ⊢;refine⟨_,Z,t₁,l,6,Z,W10.tb,by omega,by omega,λr4 x4' a4 b4 tb11=>?_⟩;have e11:upd H10 t₁ (.lst x4') pg=some (.lst [.int 1,.int 1,.int 2,.int 3,.int 4,.int 7]):=by rw[ao ng];exact e10
  have W11:=W10.tape tb11;generalize upd H10 t₁ (.lst x4')=H11 at e11 W11 ⊢;obtain⟨q,hg,q0,q7,q84⟩:∃q:Int,uP [V.int 1,.int 1,.int 2,.int 3,.int 4,.int 7] r4=some (.int q)/\1≤q/\q≤7/\q∣84:=by
   rcases(show r4=0∨r4=1∨r4=2∨r4=3∨r4=4∨r4=5 by omega) with rfl|rfl|rfl|rfl|rfl|rfl
   ·exact⟨1,Z,by decide,by decide,by decide⟩
   ·exact⟨1,Z,by decide,by decide,by decide⟩
   ·exact⟨2,Z,by decide,by decide,by decide⟩
   ·exact⟨3,Z,by decide,by decide,by decide⟩
   ·exact⟨4,Z,by decide,by decide,by decide⟩
   ·exact⟨7,Z,by decide,by decide,by decide⟩
  refine⟨pg,_,_,_,Z,Z,aX.of e11,hg,kP,λpm hpm=>?_⟩;have W12:=W11.same (au hpm (.tup [.int (1+r9),.int q]));have p12:Nf K (upd H11 pm (.tup [.int (1+r9),.int q])) (.ref pm) (1+r9) q:=⟨pm,Z,bF.of ah⟩;generalize upd H11 pm (.tup [.int (1+r9),.int q])=H12 at W12 p12 ⊢;refine⟨λσ H'=>∃(u:V) (x y:Int),σ=[some (.ref t₁),some (.int mo),some (.int tu),some (.ref lw),some (.int (0+(i:Nat))),some (.int rw_),some (.int f),some (.int g),some u]/\Wl K H t₁ l lw H' ws/\Nf K H' u x y/\1≤x/\1≤y/\y∣84/\x≤12*y,?_,?_⟩
  ·refine⟨_,Z,Z,_,Z,?_⟩;by_cases c:rw_=2
   rotate_left
   ·refine cG (λz=>by injection z with z;exact c z) (fC ?_);exact⟨_,_,_,rfl,W12,p12,by omega,q0,q84,by omega⟩
   refine cW (by rw[c]) ?_;refine⟨_,Z,(by show 0≤sizeLine;exact Qu _),λpe hpe=>?_⟩;have z8:=au hpe (.lst []);have W13:=W12.same z8;have e8:upd H12 pe (.lst []) pe=some (.lst []):=ah;have p13:Nf K (upd H12 pe (.lst [])) (.ref pm) (1+r9) q:=by
    obtain⟨p',e',s'⟩:=p12;exact⟨p',e',aK.same (K:=K) z8 _ _ s'⟩
   generalize upd H12 pe (.lst [])=H13 at W13 e8 p13 ⊢;obtain⟨zs,ez,alz⟩:=W13.hw;refine⟨.list (ws.map C4),.list [],.lst (aX.of ez) (alz.deep λ_ _ q=>q.deep),.lst (aX.of e8) .nil,BV ws,Z,Cu ws,_,Z,?_⟩;have ev:RQ (.list (ws.map C4)) (.list [])=ws.isEmpty:=by cases ws<;>rfl
   rw[ev];by_cases hw:ws=[]
   ·refine jJ (b:=!ws.isEmpty) (by rw[hw];rfl) ?_;exact⟨_,_,_,Z,W13,p13,by omega,q0,q84,by omega⟩
   ·have wl1:0<ws.length:=UD.mpr hw;have lz:=alz.len;refine kX (b:=!ws.isEmpty) (by rw[SK,V7];exact hw) ?_;refine⟨_,Z,_,Z,_,Z,lw,_,Z,.inl (aX.of ez),t₁,l,zs.length,Z,W13.tb,by omega,by omega,λrE xE aE bE tbE=>?_⟩;have WE:=W13.tape tbE;generalize upd H13 t₁ (.lst xE)=HE at WE ⊢;obtain⟨zsE,ezE,alE⟩:=WE.hw;have lzE:=alE.len;obtain⟨n,rfl⟩:=Rz aE;obtain⟨xw,hxw⟩:∃xw,zsE[n]?=some xw:=⟨_,P5 (by omega)⟩;obtain⟨w,hwd,pw,xa,rfl,hSw,rwE⟩:=alE.at hxw;have gw:=WE.gd w (Qf hwd);refine⟨lw,_,_,_,Z,Z,aX.of ezE,be hxw,pw,_,_,_,Z,Z,hSw,Z,?_⟩;have b1:=gw.2.2.1.pos;have b2:=gw.2.2.1.le;have b3:=gw.2.2.2;exact⟨xa,_,_,Z,WE,rwE,by omega,by omega,gw.2.2.1.dvd,by omega⟩
  rintro σ HE ⟨u,x,y,rfl,WE,⟨pu,rfl,hSu⟩,x1,y1,y84,xy⟩;refine⟨_,Z,.inl ⟨Z,_,aX.of WE.hw.choose_spec.1⟩,_,Z,_,Z,_,Z,pu,_,_,_,Z,Z,hSu,Z,_,Z,pu,_,_,_,Z,Z,hSu,Z,x,y,Z,by omega,(by have:=TH (by decide) y84;exact Rn (show y.natAbs≤84 by omega) (by decide)),λpn hpn=>?_⟩;have am:Bq 84 12 (fo x y):=wA (by omega) y84 (by omega);have ap:=BO (a:=x) (b:=y) x1 y1;generalize fo x y=ra at am ap ⊢;have WF:=WE.same (au hpn (.tup [.int ra.1,.int ra.2]));have rF:RV K (upd HE pn (.tup [.int ra.1,.int ra.2])) (.ref pn) ra:=RV.of ah;generalize upd HE pn (.tup [.int ra.1,.int ra.2])=HF at WF rF ⊢;refine⟨JQ,λpo hpo=>?_⟩;have zG:=au hpo (.tup [.int f,.int g,.ref pn]);have WG:=WF.same zG;have rG:=rF.mono (aK.same zG);have qG:upd HF po (.tup [.int f,.int g,.ref pn]) po=some (.tup [.int f,.int g,.ref pn]):=ah;generalize upd HF po (.tup [.int f,.int g,.ref pn])=HG at WG rG qG ⊢;obtain⟨zs,ez,alz⟩:=WG.hw;have lz:=alz.len;refine⟨lw,_,_,Z,Z,ez,aQ (by omega),?_⟩;obtain⟨f',rfl⟩:=Rz f0;obtain⟨g',rfl⟩:=Rz (show 0≤g by omega);exact⟨_,_,_,_,_,ws++[(f',g',ra)],Z,WG.push ez alz ⟨po,.ref pn,Z,bF.of qG,rG⟩ ⟨by show f'≤g';omega,by show g'<24;omega,am,ap⟩,by rw[QC,wl];rfl⟩
 ·rintro σ H3 ⟨x4,x5,x6,x7,x8,ws,rfl,W3,wl⟩;obtain⟨zs,e,al⟩:=W3.hw;refine⟨_,Z,lw,zs,Z,.inl ⟨aX.of e,λpt hpt=>?_⟩⟩;have z:=au hpt (.tup zs);exact k _ ws _ (W3.st.trans (tw.of z)) (W3.tb.same z) ⟨pt,zs,Z,bF.of ah,al.mono λ_ _ q=>q.mono (aK.same z)⟩ (by omega) W3.gd
theorem IH(T:eJ K mg t):bC P w K mg base dU 4 t.a_Q20 t.d_Q20 ["_law_turn","_law_some"] (nZ K):=by
 refine T.F_Q20.ok eR (λvs H Q E h=>?_) (λcdv A outer s H vs Q E hr h=>?_)
 ·obtain⟨_,_,_,_,rfl,_⟩:=h;rfl
 obtain⟨t₀,a,xs,sm,rfl,hS,al,ok,k⟩:=h;refine dM.ok (ag (cC 2 eR.nd (bV (ae aj (ae aj ai aP) aP))) (ag (bT QL Z (cS (qv 1)) (gO Z (aY (aD (i:=3) eR.nd Z (by first|exact Q0 Z|exact QV Z)) (aY (aD (i:=4) eR.nd Z (by first|exact Q0 Z|exact QV Z)) (aY (aD (i:=5) eR.nd Z (by first|exact Q0 Z|exact QV Z)) cX)))) (ag (cC 6 eR.nd (cT (ID T) hr T.m_Q26 T.F_Q26.kp T.b_Q26 (ae (bX (N':=["_law_one","_law_last"]) (src:=[none,some 4]) Z (by exact(cS (qv 1))) (λ_ _ _ _ _=>(by exact(by exact aD (i:=0) (by show Q7 (["_law_one","_law_last"]:List QX);decide +kernel) (by exact Z) (by first|exact Q0 Z|exact QV Z)))) (λ_ _ _ _ _=>(fB (aT jB (by exact(bv (bO (K:=K) (by exact Z)) (by exact(qv 0)) aj (by exact λ_ _=>Z))) (by exact(qv 1)) (bb _)))) (λ_ _ _ _ _=>(by exact(by exact(bv (bO (K:=K) (by exact Z)) (by exact(qv 0)) aj (by exact λ_ _=>Z))))) (by exact⟨Z,Z,Z,Z,trivial⟩) Z (by decide +kernel) Z (by decide +kernel) (by exact bG Z ⟨Z,trivial⟩)) ai dB))) (av (cC 2 eR.nd (cT (Iw T) hr T.m_Q39 T.F_Q39.kp T.b_Q39 (ae (bW (ae (qv 2) (ae (cT (Io T) hr T.m_Q47 T.F_Q47.kp T.b_Q47 (ae (qv 6) (ae (bV (ae (aM dP (aM g7 (qv 4) (qv 0)) aj) (ae aj ai aP) bz)) ai dm) af)) ai ba) af)) ai zh)))))) (ag (cC 7 eR.nd (bW ai)) (ag (bT QL Z (cS (aO uK (by rfl) T.z_sorted boot_sorted (ae (bX (N':=["_law_one"]) (src:=[none]) Z (by exact(cS (qv 1))) (λ_ _ _ _ _=>(by exact(by exact aD (i:=0) (by show Q7 (["_law_one"]:List QX);decide +kernel) (by exact Z) (by first|exact Q0 Z|exact QV Z)))) (λ_ _ _ _ _=>cR) (λ_ _ _ _ _=>(by exact(by exact(bV (ae (by exact(bv (bO (K:=K) (by exact Z)) (by exact(qv 0)) aj (by exact λ_ _=>Z))) (ae (by exact(bv (bO (K:=K) (by exact Z)) (by exact(qv 0)) aj (by exact λ_ _=>Z))) (ae (by exact(bv (bO (K:=K) (by exact Z)) (by exact(qv 0)) aj (by exact λ_ _=>Z))) ai aF) aF) aF))))) (by exact trivial) Z (by decide +kernel) Z (by decide +kernel) (by exact bG Z trivial)) ai dB))) (gO Z (aY (aD (i:=4) eR.nd Z (by first|exact Q0 Z|exact QV Z)) (aY (aD (i:=3) eR.nd Z (by first|exact Q0 Z|exact QV Z)) (aY (aD (i:=5) eR.nd Z (by first|exact Q0 Z|exact QV Z)) cX)))) (av (cA (aT hG (ci aB (qv 2) aj) aj (bb _)) (ag (cC 8 eR.nd (rQ (dg (cT (BE T) hr T.m_Q15 T.F_Q15.kp T.b_Q15 (ae (qv 2) (ae (qv 5) ai af) af))) (qv 2) (qv 5))) (ag (bS (dJ Qy QF QH bA (qv 7) (ae (bV (ae (qv 3) (ae (qv 8) ai af) af)) ai dm))) (av (cC 2 eR.nd (cT (Bz T) hr T.m_Q25 T.F_Q25.kp T.b_Q25 (ae (qv 2) (ae (qv 8) ai af) af)))))) bB))) (av (aL (bY bw (by rfl) T.z_tuple Se (ae (qv 7) ai af)))))))) ?_
 nofun
 have hlen:=al.len;have l20:=ok.len;refine⟨kP,λp0 hp0=>?_⟩;have s0:=au hp0 (.tup [.int 0,.int 1]);refine⟨_,Z,a,Z,⟨_,s0.seq hS⟩,fR (K:=K) (a:=a) (xs:=xs) (λi σ H'=>∃(u:V) (x3 x4 x5 x6:Option V),σ=[some (.int (t₀:Nat)),some (.ref a),some u,x3,x4,x5,x6,none,none]/\aH H H'/\RV K H' u ((sm.take i).foldl (λs x=>gE s (dh t₀ sm x)) (0,1))) ⟨_,none,none,none,none,Z,s0,RV.of ah⟩ (λi σ H1 _ ⟨_,_,_,_,_,_,s1,_⟩=>s1.seq hS) ?_ ?_⟩
 ·rintro i y σ H1 hi ⟨u,x3,x4,x5,x6,rfl,s1,ru⟩;obtain⟨x,hx,px,ax,rfl,hSx,rx⟩:=al.at hi;have mx:=Qf hx;obtain⟨c1,c2,c3,c4,c5⟩:=ok.tr x mx;have t1:=aK.same (K:=K) s1;have wm:=(zq ok i).wf;have w0:=zq ok i;have ww:=w8 (ok.mean x mx);rw[Do hx];generalize (sm.take i).foldl (λs x=>gE s (dh t₀ sm x)) (0,1)=m at ru wm w0 ⊢;refine⟨px,_,Z,t1 _ _ hSx,Z,_,_,Z,_,_,Z,_,_,Z,Z,?_⟩;refine⟨_,Z,a,Z,⟨_,s1.seq hS⟩,λD hD=>CD (K:=K) (P:=RV K) (ds:=sm) (f:=λd:Tr=>d.2.2) (p:=λd:Tr=>decide (d.2.1≤x.2.1)) (λ_ _ _ _ t p=>p.mono t) hD (s1.seq hS) hlen (by omega) (λj z d H' hz hd s' R E kR kE=>?_) λH2 ys s2 hD2 al2=>?_⟩
  ·obtain⟨d',hd',pd,ad,rfl,hSd,rdd⟩:=al.at hz;rw[hd] at hd'
   cases hd'
   have t':=aK.same (K:=K) (s1.trans s');refine⟨gD.set Z,_,Z,pd,_,_,_,Z,Z,t' _ _ hSd,Z,_,Z,_,_,Z,Z,_,Z,?_⟩;by_cases c:d.2.1≤x.2.1
   ·refine cW (by omega) ?_;exact⟨_,Z,pd,_,_,_,Z,Z,t' _ _ hSd,Z,kR (Q9 c) _ _ (aH.refl _) (rdd.mono t')⟩
   ·refine cG (by omega) ?_;exact kE (Sy c) _ (aH.refl _)
  ·refine⟨D,ys,_,Z,aX.of hD2,al2,λr hr=>?_,?_,λv3 H3 s3 rv3=>?_⟩
   ·obtain⟨z,hz,rfl⟩:=Qg.mp hr;exact(ok.tr z (Qp.mp hz).1).2.2.2.1
   ·rw[P8];exact QU (Q5 _ _) l20
   have s13:=s2.trans s3;refine⟨_,Z,_,Z,_,Z,_,Z,_,_,Z,Z,_,_,Z,Z,kP,λpm hpm=>?_⟩;have s4:=au hpm (.tup [.int ((x.2.1:Int)-t₀+1),.int 1]);have wd:=w8 ((Jq l20 (λz hz=>(ok.tr z hz).2.2.2.1) x.2.1).mono (RN _) (by decide));refine⟨_,_,og sm x.2.1,(x.2.1:Int)-t₀+1,Z,rv3.mono (aK.same s4),RV.of ah,wd,by omega,by omega,λpb hpb=>?_⟩;have s5:=au hpb (.tup [.int (dh t₀ sm x).1,.int (dh t₀ sm x).2]);refine⟨kP,λpl hpl=>?_⟩;have s6:=au hpl (.lst [u,.ref pb]);have s46:=(s4.trans s5).trans s6;have s16:=s13.trans s46;refine⟨pl,_,[m,dh t₀ sm x],Z,aX.of ah,.cons (ru.mono (aK.same s16)) (.cons (RV.mono (RV.of ah) (aK.same s6)) .nil),λr hr=>?_,by show 2≤20;decide,λv7 H7 s7 rv7=>?_⟩
   ·simp only[Qm,Rb,or_false] at hr;rcases hr with rfl|rfl
    ·exact wm
    ·exact ww
   have e7:[m,dh t₀ sm x].foldl gE (0,1)=gE m (dh t₀ sm x):=by
    show gE (gE (0,1) m) _=_;rw[O3 w0.red w0.nn]
   rw[e7] at rv7;exact⟨v7,_,_,_,_,Z,(s1.trans s16).trans s7,rv7⟩
 ·rintro σ H1 ⟨u,x3,x4,x5,x6,rfl,s1,ru⟩;have am0:=zq ok xs.length;rw[hlen,Q6] at ru am0;have t1:=aK.same (K:=K) s1;refine⟨(by show 0≤sizeLine;exact Qu _),λlp hlp=>?_⟩;have s2:=au hlp (.lst []);have hp2:upd H1 lp (.lst []) lp=some (.lst []):=ah;generalize upd H1 lp (.lst [])=H2 at s2 hp2 ⊢;have s02:=s1.trans s2;refine⟨_,Z,a,Z,⟨_,s02.seq hS⟩,λD hD=>kH (K:=K) (P:=LD K) (ds:=sm) (f:=λd:Tr=>d) (λ_ _ _ _ t p=>p.mono t) hD (s02.seq hS) hlen (by omega) (λj z d H' hz hd s' R E kR=>?_) λH3 ys s3 hD3 al3=>?_⟩
  ·obtain⟨d',hd',pd,ad,rfl,hSd,rdd⟩:=al.at hz;rw[hd] at hd'
   cases hd'
   have t':=aK.same (K:=K) (s02.trans s');refine⟨gD.set Z,_,Z,pd,_,_,_,Z,Z,t' _ _ hSd,Z,_,Z,pd,_,_,_,Z,Z,t' _ _ hSd,Z,_,Z,pd,_,_,_,Z,Z,t' _ _ hSd,Z,JQ,λpn hpn=>?_⟩;exact kR _ _ (au hpn _) ⟨pn,ad,Z,bF.of ah,(rdd.mono t').mono (aK.new hpn _)⟩
  rw[List.map_id'] at al3;have b20:∀x∈sm,x.1<20:=λx hx=>(ok.tr x hx).1
  have ly:=al3.len;refine⟨D,ys,sm.map k2,Z,aX.of hD3,CL al3,by omega,Lf b20 ok.nd,λz hz=>?_,λl is p1 p2 hl=>?_⟩
  ·obtain⟨x,hx,rfl⟩:=Qg.mp hz;have:=b20 x hx;exact⟨by show(0:Int)≤(x.1:Nat);omega,by show((x.1:Nat):Int)<1000;omega⟩
  rw[ly] at p1;obtain⟨so1,so2⟩:=Gr b20 p1 p2;have s4:=au hl (.lst (is.map λi=>ys.getD i .non));have hl4:upd H3 l (.lst (is.map λi=>ys.getD i .non)) l=some (.lst (is.map λi=>ys.getD i .non)):=ah;have alo:=sZ (al3.mono λ_ _ q=>q.mono (aK.same s4)) (is:=is) λi hi=>Qi.mp (p1.mem_iff.mp hi)
  generalize upd H3 l (.lst (is.map λi=>ys.getD i .non))=H4 at s4 hl4 alo ⊢;generalize (is.map λi=>ys.getD i .non)=zs at hl4 alo ⊢;have wk:∀q,q=(((is.map λi=>sm.getD i pJ)).foldl eP (Dw t₀ sm,[])).2->Gc t₀ sm q:=λq e=>⟨_,so1,so2,e⟩
  have mo:∀x∈(is.map λi=>sm.getD i pJ),x∈sm:=λx hx=>so1.mem_iff.mp hx
  generalize (is.map λi=>sm.getD i pJ)=so at alo wk mo so1;have lz:=alo.len;have lso:so.length≤20:=by rw[so1.length_eq];exact l20
  have s24:=s3.trans s4;have hp4:=s24 _ _ hp2;have nlp:l≠lp:=λz=>by subst z;rw[s3 _ _ hp2] at hl;cases hl
  have ru4:=(ru.mono (aK.same s2)).mono (aK.same s24);refine⟨l,Z,⟨_,aX.of hl4⟩,fR (K:=K) (a:=l) (xs:=zs) (λi σ H'=>∃(u:V) (y3 y4 y5 y8:Option V) (ps:List V),σ=[some (.int (t₀:Nat)),some (.ref a),some u,y3,y4,y5,x6,some (.ref lp),y8]/\(∀b o,b≠lp->H4 b=some o->H' b=some o)/\H' lp=some (.lst ps)/\b8 (yJ K H') ps ((so.take i).foldl eP (Dw t₀ sm,[])).2/\RV K H' u ((so.take i).foldl eP (Dw t₀ sm,[])).1/\dW ((so.take i).foldl eP (Dw t₀ sm,[])).1/\ps.length≤i) ⟨u,_,_,_,none,[],Z,λ_ _ _ e=>e,hp4,.nil,ru4,am0,P7 _⟩ (λi σ H' _ ⟨_,_,_,_,_,_,_,k',_⟩=>aX.of (k' _ _ nlp hl4)) ?_ ?_⟩
  ·rintro i y σ H5 hi ⟨u,y3,y4,y5,y8,ps,rfl,k5,hp5,alp,ru5,am5,lps⟩;obtain⟨x,hx,px,ax,rfl,hSx,rx⟩:=alo.at hi;obtain⟨c1,c2,c3,c4,c5⟩:=ok.tr x (mo x (Qf hx));have ax_:dW x.2.2:=⟨c4.mono (RN _) (by decide),by omega⟩;have hil:=(Qq.mp hx).1;have t5:=aK.steps (K:=K) hp4 k5 ⟨_,hp5⟩;have am6:=zg (q:=((so.take i).foldl eP (Dw t₀ sm,[])).2) am5 ax_;rw[Dk _ hx];generalize (so.take i).foldl eP (Dw t₀ sm,[])=st at alp ru5 am5 am6 ⊢;obtain⟨sp,q⟩:=st;obtain⟨pu,rfl,hSu⟩:=ru5;refine⟨px,_,Z,t5 _ _ hSx,Z,_,_,Z,_,_,Z,_,_,Z,Z,?_⟩;refine⟨_,Z,pu,_,_,_,Z,Z,hSu,Z,_,_,Z,Z,_,Z,?_⟩;unfold eP at am6 ⊢;by_cases c:0<sp.1
   rotate_left
   ·refine cG (by show ¬(sp.1>0);omega) ?_;rw[aaa (show ¬0<(sp,q).1.1 from c)] at am6 ⊢;exact⟨_,_,_,_,_,ps,Z,k5,hp5,alp,⟨pu,Z,hSu⟩,am5,by omega⟩
   refine cW (by show sp.1>0;omega) ?_;rw[Z9 (show 0<(sp,q).1.1 from c)] at am6 ⊢;have rx5:=rx.mono t5;have rsp:RV K H5 (.ref pu) sp:=⟨pu,Z,hSu⟩;have lm:=i7 ax_ am5;have lm':dW (fb sp x.2.2):=lm;refine⟨_,Z,_,Z,.ref pu,ax,sp,x.2.2,800,800,Z,rsp,rx5,am5.wf,ax_.wf,by decide,_,Z,Jj Z Z ?_⟩;have rv:RV K H5 (if cP sp x.2.2=true then .ref pu else ax) (fb sp x.2.2):=by
    unfold fb
    cases cP sp x.2.2 with
    |true=>exact rsp
    |false=>exact rx5
   generalize (if cP sp x.2.2=true then V.ref pu else ax)=v at rv ⊢;refine⟨_,Z,.inl ⟨Z,_,aX.of hp5⟩,_,Z,_,Z,kP,λpn hpn=>?_⟩;have s6:=au hpn (.tup [.int (x.1:Nat),v]);have hp6:=s6 _ _ hp5;have q6:upd H5 pn (.tup [.int (x.1:Nat),v]) pn=some (.tup [.int (x.1:Nat),v]):=ah;have r6:=rv.mono (aK.same s6);generalize upd H5 pn (.tup [.int (x.1:Nat),v])=H6 at s6 hp6 q6 r6 ⊢;refine⟨lp,_,_,Z,Z,hp6,aQ (by omega),?_⟩;have t7:=aK.up (K:=K) hp6 (ps++[.ref pn]);have t57:=(aK.same (K:=K) s6).trans t7;have k7:∀b o,b≠lp->H4 b=some o->upd H6 lp (.lst (ps++[.ref pn])) b=some o:=λb o nb e=>by rw[ao nb];exact s6 _ _ (k5 b o nb e)
   have hp7:upd H6 lp (.lst (ps++[.ref pn])) lp=some (.lst (ps++[.ref pn])):=ah;generalize upd H6 lp (.lst (ps++[.ref pn]))=H7 at t7 t57 k7 hp7 ⊢;refine⟨_,Z,_,Z,.ref pu,v,sp,fb sp x.2.2,800,800,Z,rsp.mono t57,r6.mono t7,am5.wf,lm'.wf,by decide,λpm hpm=>?_⟩;have s8:=au hpm (.tup [.int (bn sp (fb sp x.2.2)).1,.int (bn sp (fb sp x.2.2)).2]);have t8:=aK.same (K:=K) s8;refine⟨.ref pm,_,_,_,_,ps++[.ref pn],Z,λb o nb e=>s8 _ _ (k7 b o nb e),s8 _ _ hp7,?_,RV.of ah,am6,by rw[QC,R3];omega⟩;exact(alp.mono λ_ _ z=>(z.mono t57).mono t8).snoc ⟨pn,v,Z,t8 _ _ (t7 _ _ (bF.of q6)),(r6.mono t7).mono t8⟩
  ·rintro σ H5 ⟨u,y3,y4,y5,y8,ps,rfl,k5,hp5,alp,ru5,am5,lps⟩;rw[lz,Q6] at alp;refine⟨_,Z,lp,ps,Z,.inl ⟨aX.of hp5,λpt hpt=>?_⟩⟩;have z:=au hpt (.tup ps);refine k _ _ _ (λb o e=>z _ _ (k5 b o (λq=>by subst q;rw[s1 _ _ e] at hlp;cases hlp) (s24 _ _ (s02 _ _ e)))) (wk _ Z) ⟨pt,ps,Z,bF.of ah,alp.mono λ_ _ q=>q.mono (aK.same z)⟩
theorem Iv(T:eJ K mg t):bC P w K mg base dU 5 t.a_Q40 t.d_Q40 ["_law_house"] (rB K):=by
 refine T.F_Q40.ok kg (λvs H Q E h=>?_) (λcdv A outer s H vs Q E hr h=>?_)
 ·obtain⟨_,_,_,_,_,_,rfl,_⟩:=h;rfl
 obtain⟨h₀,lw,ll,lp,s₀,q0,rfl,hs,o,ht,G,k⟩:=h;refine dM.ok (ag (cC 1 kg.nd (bW ai)) (ag (bT QL Z (cI Z T.z_range (ae (aO aU (by rfl) T.z_len SL (ae (c7 (fQ hr) (qv 0) cV (λ_ _=>Z)) ai aF)) ai ba)) (aD (i:=2) kg.nd Z (by first|exact Q0 Z|exact QV Z)) (av (cA (aT hG (bv aB (bv cc (c7 (fQ hr) (qv 0) cV (λ_ _=>Z)) (qv 2) (λ_ _=>Z)) aj (λ_ _=>Z)) aj (bb _)) (av (bS (dJ Qy QF QH bA (qv 1) (ae (bV (ae (qv 2) (ae (bv aB (bv cc (c7 (fQ hr) (qv 0) cV (λ_ _=>Z)) (qv 2) (λ_ _=>Z)) aj (λ_ _=>Z)) (ae (bv cc (c7 (fQ hr) (qv 0) cV (λ_ _=>Z)) (qv 2) (λ_ _=>Z)) ai aF) aF) af)) ai dm)))) bB))) (ag (cC 3 kg.nd (cT (IH T) hr T.m_Q20 T.F_Q20.kp T.b_Q20 (ae (c7 (fQ hr) (qv 0) cV (λ_ _=>Z)) (ae (qv 1) ai af) aF))) (ag (bT QL Z (dZ (qv 3)) (gO Z (aY (aD (i:=2) kg.nd Z (by first|exact Q0 Z|exact QV Z)) (aY (aD (i:=4) kg.nd Z (by first|exact Q0 Z|exact QV Z)) cX))) (av (i5 (cT (Bz T) hr T.m_Q25 T.F_Q25.kp T.b_Q25 (ae (bv cc (c7 (fQ hr) (qv 0) cV (λ_ _=>Z)) (qv 2) (λ_ _=>Z)) (ae (qv 4) ai af) aF)) (kq (c7 (fQ hr) (qv 0) cV (λ_ _=>Z)) (qv 2) gs)))) (ag (bS (dJ Qy QF QH bA (c7 (fQ hr) (qv 0) cV (λ_ _=>Z)) (ae (qv 3) ai af))) (ag (vA (fQ hr) (qv 0) cV (aM dP (c7 (fQ hr) (qv 0) cV (λ_ _=>Z)) aj) Z) (av (aL (qv 3))))))))) ?_
 nofun
 obtain⟨xk,hk,ak⟩:=hs.hk;obtain⟨xr,hr_,ar⟩:=hs.hr;obtain⟨xd,hd_,ad⟩:=hs.hd;have hdk:=hs.dk;have lxk:=ak.len;have lxr:=ar.len;have olen:=o.len;have o20:=o.few;refine⟨(by show 0≤sizeLine;exact Qu _),λl0 hl0=>?_⟩;have s1:=au hl0 (.lst []);have e1:upd H l0 (.lst []) l0=some (.lst []):=ah;generalize upd H l0 (.lst [])=H1 at s1 e1 ⊢;let I1:Yyq:=λi σ H'=>∃(x2:Option V) (zs:List V),σ=[some (.ref h₀),some (.ref l0),x2,none,none]/\(∀b o,b≠l0->H1 b=some o->H' b=some o)/\H' l0=some (.lst zs)/\b8 (LE K H') zs (C2 s₀ i);refine⟨_,Z,h₀,_,Z,Jr (s1 _ _ hdk),lw,_,Z,.inl (aX.of (s1 _ _ hk)),xk.length,Z,by omega,by omega,cJ (lo:=0) (n:=((xk.length:Nat):Int).toNat) I1 ⟨none,[],Z,λ_ _ _ e=>e,e1,.nil⟩ ?_ ?_⟩
 ·rintro i σ H2 hi ⟨x2,zs,rfl,k2,hz,alz⟩;rw[TC];have hi':i<xk.length:=by omega
  have m2:aH H H2:=λb o e=>k2 b o (aC e hl0) (s1 _ _ e)
  have t2:=aK.same (K:=K) m2;obtain⟨yv,hyv⟩:∃yv,xr[i]?=some yv:=⟨_,P5 (by omega)⟩;obtain⟨xw,hxw⟩:∃xw,xk[i]?=some xw:=⟨_,P5 hi'⟩;obtain⟨r,hrd,ry⟩:=ar.at hyv;obtain⟨w,hwd,pw,xa,rfl,hSw,rw_⟩:=ak.at hxw;have er:=ay (0,1) hrd;have ew:=ay bc hwd;have am:=o.am r (Qf hrd);obtain⟨pr,rfl,hSr⟩:=id ry;have lz:=alz.len;have lt:=DA s₀ i;refine⟨_,Z,h₀,_,Z,Cs (m2 _ _ hdk),_,Z,ll,_,_,_,Z,Z,aX.of (m2 _ _ hr_),be hyv,pr,_,_,_,Z,Z,t2 _ _ hSr,Z,_,_,Z,Z,_,Z,?_⟩;by_cases c:r=(0,1)
  ·refine cG (by rw[c];decide) ?_;refine⟨_,zs,Z,k2,hz,?_⟩;rw[Gy (by rw[er];exact c)];exact alz
  ·have rp:=io am.1.red am.2 c;refine cW (by show r.1>0;omega) ?_;refine⟨_,Z,.inl ⟨Z,_,aX.of hz⟩,_,Z,_,Z,h₀,_,Z,Jr (m2 _ _ hdk),_,Z,lw,_,_,_,Z,Z,aX.of (m2 _ _ hk),be hxw,pw,_,_,_,Z,Z,t2 _ _ hSw,Z,_,Z,h₀,_,Z,Cs (m2 _ _ hdk),_,Z,ll,_,_,_,Z,Z,aX.of (m2 _ _ hr_),be hyv,JQ,λpn hpn=>?_⟩;have s3:=au hpn (.tup [.int (i:Nat),.int (w.2.1:Nat),.ref pr]);have t3:=aK.same (K:=K) s3;have hz3:=s3 _ _ hz;have q3:upd H2 pn (.tup [.int (i:Nat),.int (w.2.1:Nat),.ref pr]) pn=some (.tup [.int (i:Nat),.int (w.2.1:Nat),.ref pr]):=ah;generalize upd H2 pn (.tup [.int (i:Nat),.int (w.2.1:Nat),.ref pr])=H3 at s3 t3 hz3 q3 ⊢;refine⟨l0,_,_,Z,Z,hz3,aQ (by omega),?_⟩;have t4:=aK.up (K:=K) hz3 (zs++[.ref pn]);refine⟨_,_,Z,λb o nb e=>by rw[ao nb];exact s3 _ _ (k2 b o nb e),ah,?_⟩;rw[Dz (by rw[er];exact c),er,ew];exact(alz.mono λ_ _ z=>(z.mono t3).mono t4).snoc ⟨pn,.ref pr,Z,t4 _ _ (bF.of q3),(((ry.mono t2).mono t3).mono t4)⟩
 ·rintro σ H2 ⟨x2,zs,rfl,k2,hz,alz⟩;have e2:C2 s₀ (((xk.length:Nat):Int).toNat)=gR s₀:=by rw[SI,lxk,←olen];rfl
  rw[e2] at alz;have m2:aH H H2:=λb o e=>k2 b o (aC e hl0) (s1 _ _ e)
  refine⟨_,Z,h₀,_,Z,Lw (m2 _ _ hdk),_,Z,s₀.tn,l0,zs,gR s₀,Z,aX.of hz,alz,Dy o ht,λv q H9 s9 wk tv=>?_⟩;have eq:=wk.uniq G.wk;have s09:=m2.trans s9;have qp:=G.pc;have qn:=G.nd;rw[←eq] at qp qn k;have kk:=k;have bq:∀r∈s₀.rs,Wf 800 r:=λr hr=>((o.am r hr).1.mono (lW (by omega)) (P7 _)).wf (by decide) (by decide) (by decide)
  obtain⟨pv,xs9,rfl,hv,alv⟩:=tv;have lv:=alv.len;have t09:=aK.same (K:=K) s09;have hi9:=s09 _ _ hdk;have hr9:=s09 _ _ hr_;have hd9:=s09 _ _ hd_;have hk9:=s09 _ _ hk;have nll:ll≠h₀:=λz=>by subst z;rw[hdk] at hr_;cases hr_
  have nlw:lw≠h₀:=λz=>by subst z;rw[hdk] at hk;cases hk
  have nlp:lp≠h₀:=λz=>by subst z;rw[hdk] at hd_;cases hd_
  let I2:Yyq:=λi σ H'=>∃(ys:List V) (y2 y4:Option V),σ=[some (.ref h₀),some (.ref l0),y2,some (.ref pv),y4]/\(∀b o,b≠ll->H9 b=some o->H' b=some o)/\H' ll=some (.lst ys)/\b8 (RV K H') ys (f6 s₀.rs (q.take i));refine⟨_,Z,pv,Z,⟨_,hv⟩,fX (K:=K) (a:=pv) (xs:=xs9) I2 ⟨xr,_,none,Z,λb o _ e=>e,hr9,ar.mono λ_ _ z=>z.mono t09⟩ (λi σ H' _ ⟨_,_,_,_,k',h',_⟩=>aK.steps hr9 k' ⟨_,h'⟩ _ _ hv) ?_ ?_⟩
  ·rintro i x σ HI hx ⟨ys,y2,y4,rfl,kI,hrI,alI⟩;obtain⟨c,hc,pc,xa,rfl,hSc,rx⟩:=alv.at hx;have tI:=aK.steps (K:=K) hr9 kI ⟨_,hrI⟩;obtain⟨lc,ac⟩:=qp c (Qf hc);have cur:=gM (q.take i) s₀.rs (qV qn hc);have lI:=alI.len;rw[jk] at lI;obtain⟨yv,hyv⟩:∃yv,ys[c.1]?=some yv:=⟨_,P5 (by omega)⟩;obtain⟨r,hrd,ry⟩:=alI.at hyv;have er:r=s₀.rs.getD c.1 (0,1):=by rw[←cur];exact(ay (0,1) hrd).symm
   have wr:Wf 800 r:=by rw[er];exact bq _ (fj lc)
   have hiI:=kI _ _ nll.symm hi9;refine⟨pc,_,Z,tI _ _ hSc,Z,_,_,Z,_,_,Z,Z,?_⟩;refine⟨_,Z,h₀,_,Z,Cs hiI,_,Z,ll,_,_,_,Z,Z,aX.of hrI,be hyv,_,Z,yv,xa,r,c.2,800,800,Z,ry,rx.mono tI,wr,ac.wf,by decide,λpm hpm=>?_⟩;have sJ:=au hpm (.tup [.int (bn r c.2).1,.int (bn r c.2).2]);have hiJ:=sJ _ _ hiI;have hrJ:=sJ _ _ hrI;have tJ:=aK.same (K:=K) sJ;have qJ:RV K (upd HI pm (.tup [.int (bn r c.2).1,.int (bn r c.2).2])) (.ref pm) (bn r c.2):=RV.of ah;generalize upd HI pm (.tup [.int (bn r c.2).1,.int (bn r c.2).2])=HJ at sJ hiJ hrJ tJ qJ ⊢;refine⟨_,Z,h₀,_,Z,Cs hiJ,_,Z,ll,ys,_,c.1,Z,Z,hrJ,jI (by omega),?_⟩;have tu:=aK.up (K:=K) hrJ (ys.set c.1 (.ref pm));refine⟨_,_,_,Z,λb o' nb e=>by rw[ao nb];exact sJ _ _ (kI b o' nb e),ah,?_⟩;rw[Q3,hc];show b8 _ _ (f6 s₀.rs (q.take i++[c]));rw[qX,cur,←er];exact b8.setI (qJ.mono tu) c.1 (alI.mono λ_ _ z=>(z.mono tJ).mono tu)
  ·rintro σ HI ⟨ys,y2,y4,rfl,kI,hrI,alI⟩;rw[lv,Q6] at alI;have tI:=aK.steps (K:=K) hr9 kI ⟨_,hrI⟩;have hiI:=kI _ _ nll.symm hi9;have hdI:=kI _ _ hs.n3.symm hd9;have hkI:=kI _ _ hs.n1 hk9;have lxd:=ad.len;have ldl:=o.dl;refine⟨_,Z,h₀,_,Z,Lx hiI,.inl ⟨Z,_,aX.of hdI⟩,_,Z,lp,_,_,Z,Z,hdI,aQ (by omega),?_⟩;have hiL:upd HI lp (.lst (xd++[.ref pv])) h₀=some (.dK (lO s₀.tn lw ll lp)):=by rw[ao nlp.symm];exact hiI
   have tL:=aK.up (K:=K) hdI (xd++[.ref pv]);have fL:∀b o',b≠lp->HI b=some o'->upd HI lp (.lst (xd++[.ref pv])) b=some o':=λb o' nb e=>by rw[ao nb];exact e
   have hdL:upd HI lp (.lst (xd++[.ref pv])) lp=some (.lst (xd++[.ref pv])):=ah;generalize upd HI lp (.lst (xd++[.ref pv]))=HL at hiL tL fL hdL ⊢;refine⟨_,Z,h₀,_,Z,Lw hiL,_,_,Z,Z,_,Z,h₀,_,Z,M5 hiL (s₀.tn+1),?_⟩;have tF:=Kc (K:=K) hiL (.dK (lO (s₀.tn+1) lw ll lp));have fF:∀b o',b≠h₀->HL b=some o'->upd HL h₀ (.dK (lO (s₀.tn+1) lw ll lp)) b=some o':=λb o' nb e=>by rw[ao nb];exact e
   have hiF:upd HL h₀ (.dK (lO (s₀.tn+1) lw ll lp)) h₀=some (.dK (lO (s₀.tn+1) lw ll lp)):=ah;generalize upd HL h₀ (.dK (lO (s₀.tn+1) lw ll lp))=HF at tF fF hiF ⊢;have tIF:=tL.trans tF;have t9F:=tI.trans tIF;exact⟨_,Z,kk (.ref pv) HF (λb o' b1 b2 b3 b4 e=>fF b o' b1 (fL b o' b4 (kI b o' b3 (s09 _ _ e)))) ⟨hiF,⟨xk,fF _ _ nlw (fL _ _ hs.n2 hkI),ak.mono λ_ _ z=>(z.mono t09).mono t9F⟩,⟨ys,fF _ _ nll (fL _ _ hs.n3 hrI),alI.mono λ_ _ z=>z.mono tIF⟩,⟨xd++[.ref pv],fF _ _ nlp hdL,(ad.mono λ_ _ z=>(z.mono t09).mono t9F).snoc ⟨pv,xs9,Z,t9F _ _ hv,alv.mono λ_ _ z=>z.mono t9F⟩⟩,hs.n1,hs.n2,hs.n3⟩ ⟨pv,xs9,Z,t9F _ _ hv,alv.mono λ_ _ z=>z.mono t9F⟩⟩
theorem Iu(T:eJ K mg t):bC P w K mg base dU 6 t.a_Q41 t.d_Q41 ["_law_works_here"] (rj K):=by
 refine T.F_Q41.ok mO (λvs H Q E h=>?_) (λcdv A outer s H vs Q E hr h=>?_)
 ·obtain⟨_,_,rfl,_⟩:=h;rfl
 obtain⟨v,ws,rfl,wv,wo,k⟩:=h;refine dM.ok (ag (cC 1 mO.nd (AV cV aj cV (bW ai) cV (bW ai) cV (bW ai))) (ag (cC 2 mO.nd (bW ai)) (ag (bT QL Z (cI Z T.z_range (ae aj ai aP)) (aD (i:=3) mO.nd Z (by first|exact Q0 Z|exact QV Z)) (ag (bT QL Z (cI Z T.z_range (ae (aO aU (by rfl) T.z_len SL (ae (qv 0) ai af)) ai ba)) (aD (i:=4) mO.nd Z (by first|exact Q0 Z|exact QV Z)) (av (cA (aT gS (bv aB (bv aB (qv 0) (qv 4) (λ_ _=>Z)) aj (λ_ _=>Z)) (qv 3) (bb _)) (ag (bS (dJ Qy QF QH bA (c7 (fQ hr) (qv 1) cV (λ_ _=>Z)) (ae (bv aB (qv 0) (qv 4) (λ_ _=>Z)) ai aF))) (ag (bS (dJ Qy QF QH bA (c7 (fQ hr) (qv 1) cV (λ_ _=>Z)) (ae (bv aB (bv aB (qv 0) (qv 4) (λ_ _=>Z)) aj (λ_ _=>Z)) ai aF))) (av (bS (dJ Qy QF QH bA (qv 2) (ae (qv 4) ai af)))))) bB))) (av (bS (cT (Iv T) hr T.m_Q40 T.F_Q40.kp T.b_Q40 (ae (qv 1) ai af)))))) (av (aL (bY bw (by rfl) T.z_tuple Se (ae (bX (N':=["_law_pieces_here","_law_numbers"]) (src:=[none,some 2]) Z (by exact(cS (c7 (fQ hr) (qv 1) cV (λ_ _=>Z)))) (λ_ _ _ _ _=>(by exact(by exact aD (i:=0) (by show Q7 (["_law_pieces_here","_law_numbers"]:List QX);decide +kernel) (by exact Z) (by first|exact Q0 Z|exact QV Z)))) (λ_ _ _ _ _=>cR) (λ_ _ _ _ _=>(by exact(by exact(bY (nP (K:=K) (by exact Z)) (by exact Z) T.z_tuple Se (ae (by exact(bX (N':=["_law_at","_law_amount","_law_numbers"]) (src:=[none,none,some 1]) (by exact Z) (by exact(DM (K:=K) (by exact Z) (by exact(qv 0)))) (by exact λ_ _ _ _ _=>(by exact(by exact ir (K:=K) (n:=2) (by exact Z) (by exact Z) (by exact aY (by exact aD (i:=0) (by show Q7 (["_law_at","_law_amount","_law_numbers"]:List QX);decide +kernel) (by exact Z) (by first|exact Q0 Z|exact QV Z)) (by exact aY (by exact aD (i:=1) (by show Q7 (["_law_at","_law_amount","_law_numbers"]:List QX);decide +kernel) (by exact Z) (by first|exact Q0 Z|exact QV Z)) cX))))) (by exact λ_ _ _ _ _=>cR) (by exact λ_ _ _ _ _=>(by exact(by exact(bV (ae (by exact(ci (dA (K:=K) (by exact Z)) (by exact(qv 2)) (by exact(qv 0)) (by exact λ_ _=>Z))) (ae (by exact(qv 1)) ai af) aF))))) (by exact⟨Z,Z,Z,Z,trivial⟩) (by exact Z) (by decide +kernel) (by exact Z) (by decide +kernel) (by exact bG Z ⟨Z,trivial⟩))) ai dB))))) (by exact⟨Z,Z,Z,Z,trivial⟩) Z (by decide +kernel) Z (by decide +kernel) (by exact bG Z ⟨Z,trivial⟩)) ai dB))))))) ?_
 nofun
 obtain⟨pa,xs,rfl,hpa,al⟩:=wv;have hxl:=al.len;have few:=wo.few;refine λh0 g0=>⟨(by show 0≤sizeLine;exact Qu _),λlw g1=>⟨(by show 0≤sizeLine;exact Qu _),λll g2=>⟨(by show 0≤sizeLine;exact Qu _),λlp g3=>?_⟩⟩⟩
 obtain⟨q1,hs1,m1,fA⟩:=xW (K:=K) g0 g1 g2 g3;refine⟨q1,lO 0 lw ll lp,Z,(by show 4≤15;decide),?_⟩;rw[ED];clear q1;generalize upd (upd (upd (upd (upd H h0 (.dK [])) lw (.lst [])) ll (.lst [])) lp (.lst [])) h0 (.dK (lO 0 lw ll lp))=H1 at hs1 m1 ⊢;clear g0 g1 g2 g3;refine⟨(by show 0≤sizeLine;exact Qu _),λln hln=>?_⟩;have m2:=au hln (.lst []);have e2:upd H1 ln (.lst []) ln=some (.lst []):=ah;generalize upd H1 ln (.lst [])=H2 at m2 e2 ⊢;have F:FH H h0 lw ll lp ln:=⟨fA,gv m1 hln,λz=>by obtain⟨o,e⟩:=hs1.cls ln z;rw[hln] at e;cases e⟩;have B0:Bh K H h0 lw ll lp ln H2 ⟨0,[],[],[]⟩ []:=⟨m1.trans m2,hs1.same m2,e2⟩;clear m1 m2 e2 hs1 fA hln;let I1:Yyq:=λi σ H'=>∃(x3 x4:Option V) (s:dY),σ=[some (.ref pa),some (.ref h0),some (.ref ln),x3,x4]/\wN ws i s/\KI ws s (kQ ws i)/\Bh K H h0 lw ll lp ln H' s (kQ ws i);refine⟨24,Z,by decide,by decide,cJ (lo:=0) (n:=24) I1 ⟨none,none,_,Z,.zero,vS ws,B0⟩ ?_ ?_⟩
 ·rintro i σ HA hi ⟨x3,x4,s₁,rfl,rn,ki,bh⟩;rw[TC];have tn:=rn.tn;let I2:Yyq:=λj σ H'=>∃(y4:Option V),σ=[some (.ref pa),some (.ref h0),some (.ref ln),some (.int (i:Nat)),y4]/\KI ws (oZ ws s₁ (gG ws i j)) (kQ ws i++gG ws i j)/\Bh K H h0 lw ll lp ln H' (oZ ws s₁ (gG ws i j)) (kQ ws i++gG ws i j);refine⟨_,Z,pa,_,Z,.inr (aK.same (K:=K) bh.sm _ _ hpa),xs.length,Z,by omega,by omega,cJ (lo:=0) (n:=((xs.length:Nat):Int).toNat) I2 ⟨x4,Z,(by rw[show gG ws i 0=[] from Z,Rp];exact ki),(by rw[show gG ws i 0=[] from Z,Rp];exact bh)⟩ ?_ ?_⟩
  ·rintro j σ HB hj' ⟨y4,rfl,kiB,bhB⟩;rw[TC];have hjx:j<xs.length:=by omega
   have hj:j<ws.length:=by omega
   obtain⟨x,hx⟩:∃x,xs[j]?=some x:=⟨_,P5 hjx⟩;obtain⟨w,hw,pw,am,rfl,hpw,ram⟩:=al.at hx;have ew:ws.getD j bc=w:=ay bc hw;have wa:=wo.at hj;rw[ew] at wa;have tB:=aK.same (K:=K) bhB.sm;refine⟨_,Z,_,Z,pa,_,_,_,Z,Z,tB _ _ hpa,be hx,pw,_,_,_,Z,Z,tB _ _ hpw,Z,_,Z,Z,_,Z,?_⟩;by_cases c:w.1=i
   rotate_left
   ·refine cG (λz=>by injection z with z;omega) ?_;refine⟨_,rfl,?_,?_⟩
    ·rw[qy (by rw[ew];exact c)];exact kiB
    ·rw[qy (by rw[ew];exact c)];exact bhB
   refine cW (by rw[c]) ?_;have nj:j∉kQ ws i++gG ws i j:=λz=>by
    rcases QP.mp z with z|z
    ·have:=(qq.mp z).2;rw[ew] at this;omega
    ·have:=(lM.mp z).1;omega
   have ct:=(ja ws (gG ws i j) s₁).1;have rm:=kiB.room wo hj nj;have kD:=kiB.come wo hj nj (by rw[ew,ct,tn];exact c);have olen:=kiB.ok.len;obtain⟨xk,ek,ak⟩:=bhB.hs.hk;obtain⟨xr,er,ar⟩:=bhB.hs.hr;have hdk:=bhB.hs.dk;have lk_:=ak.len;have lr_:=ar.len;have nlw:lw≠h0:=λz=>by rw[z,hdk] at ek;cases ek
   refine⟨_,Z,h0,_,Z,Jr hdk,.inl ⟨Z,_,aX.of ek⟩,_,Z,_,Z,pa,_,_,_,Z,Z,tB _ _ hpa,be hx,lw,_,_,Z,Z,ek,aQ (by omega),?_⟩;have bhC:=bhB.come F ek er (v:=.ref pw) (u:=am) (w:=w) ⟨pw,am,Z,tB _ _ hpw,ram.mono tB⟩ (ram.mono tB) (by rw[ct,tn];exact c);have tC:=tB.trans (aK.up (K:=K) ek (xk++[.ref pw]));have hdC:upd HB lw (.lst (xk++[.ref pw])) h0=some (.dK (lO (oZ ws s₁ (gG ws i j)).tn lw ll lp)):=by rw[ao nlw.symm];exact hdk
   have erC:upd HB lw (.lst (xk++[.ref pw])) ll=some (.lst xr):=by rw[ao bhB.hs.n1.symm];exact er
   generalize upd HB lw (.lst (xk++[.ref pw]))=HC at bhC tC hdC erC ⊢;refine⟨_,Z,h0,_,Z,Cs hdC,.inl ⟨Z,_,aX.of erC⟩,_,Z,_,Z,pa,_,_,_,Z,Z,tC _ _ hpa,be hx,pw,_,_,_,Z,Z,tC _ _ hpw,Z,ll,_,_,Z,Z,erC,aQ (by omega),?_⟩;generalize upd HC ll (.lst (xr++[am]))=HD at bhC ⊢;refine⟨_,Z,.inl ⟨Z,_,aX.of bhC.hn⟩,_,Z,ln,_,_,Z,Z,bhC.hn,?_,?_⟩
   ·have l1:=kiB.len;refine aQ ?_;unfold bt;rw[P8];omega
   have bhE:=bhC.num F j;refine⟨_,Z,?_,?_⟩
   ·rw[lR (by rw[ew];exact c),←TD,jU];exact kD
   ·rw[lR (by rw[ew];exact c),←TD,jU,ew];exact bhE
  ·rintro σ HB ⟨y4,rfl,kiB,bhB⟩;rw[SI,hxl] at kiB bhB;have ct:=(ja ws (gG ws i ws.length) s₁).1;have rnx:=λ(q0:List Pc) (G:Gj (oZ ws s₁ (gG ws i ws.length)) q0)=>wN.next rn G
   rw[←rV] at kiB bhB;generalize oZ ws s₁ (gG ws i ws.length)=s₂ at kiB bhB rnx ct;obtain⟨q0,G⟩:=Lm kiB.ok (by omega);refine⟨_,Z,h0,lw,ll,lp,s₂,q0,Z,bhB.hs,kiB.ok,by omega,G,λv2 HC ks hsC tv=>?_⟩;exact⟨_,_,_,Z,rnx q0 G,kiB.go G (by omega),bhB.kst F ks hsC⟩
 ·rintro σ HA ⟨x3,x4,s₁,rfl,rn,ki,bh⟩;obtain⟨xd,ed,ad⟩:=bh.hs.hd;have kl:=ki.len;have lad:=ad.len;have odl:=ki.ok.dl;have tn:=rn.tn;refine⟨_,Z,h0,_,Z,Lx bh.hs.dk,lp,Z,⟨_,aX.of ed⟩,λD hD=>kH (K:=K) (P:=nV K) (ds:=s₁.dn) (f:=bJ (kQ ws 24)) (λ_ _ _ _ t p=>p.mono t) hD (aX.of ed) lad (by omega) (λi x q H' hx hq s' R E kR=>?_) λH3 ys s3 hD3 al3=>?_⟩
  ·obtain⟨q',hq',px,xp,rfl,hSx,alx⟩:=ad.at hx;rw[hq] at hq'
   cases hq'
   have t':=aK.same (K:=K) s';have lx:=alx.len;have lq:=(ki.ok.pcs q (Qf hq)).1;have pc:=(ki.dn i q hq).2;refine⟨gD.set Z,_,Z,px,Z,⟨_,t' _ _ hSx⟩,λD2 hD2=>d9 (K:=K) (P:=yJ K) (ds:=q) (f:=λc:Pc=>(((kQ ws 24).getD c.1 0,c.2):Pc)) (λ_ _ _ _ t p=>p.mono t) hD2 (t' _ _ hSx) lx (by omega) (λj z c H2 hz hc s2 R' E' kR'=>?_) λH4 ys4 s4 hD4 al4=>?_⟩
   ·obtain⟨c',hc',pz,xa,rfl,hSc,rx⟩:=alx.at hz;rw[hc] at hc'
    cases hc'
    have hl:c.1<(kQ ws 24).length:=by have:=(pc c (Qf hc)).1;omega
    have t2:=t'.trans (aK.same (K:=K) s2);refine⟨pz,_,Z,t2 _ _ hSc,Z,_,_,Z,_,_,Z,Z,(gD.set Z).set' Z,?_⟩;refine⟨_,Z,_,Z,ln,_,_,_,Z,Z,aX.of (s2 _ _ (s' _ _ bh.hn)),be (v:=V.int (((kQ ws 24).getD c.1 0:Nat):Int)) (by unfold bt;rw[Ql,P5 hl,ay 0 (P5 hl)];rfl),_,Z,kP,λpn hpn=>?_⟩;exact kR' _ _ (au hpn _) ⟨pn,xa,Z,bF.of ah,(rx.mono t2).mono (aK.new hpn _)⟩
   ·refine⟨D2,ys4,Z,.inl ⟨aX.of hD4,λpt hpt=>?_⟩⟩;have z:=au hpt (.tup ys4);exact kR _ _ (s4.trans z) ⟨pt,ys4,Z,bF.of ah,al4.mono λ_ _ q=>q.mono (aK.same z)⟩
  ·refine⟨D,ys,Z,.inl ⟨aX.of hD3,λpt hpt=>?_⟩⟩;have z:=au hpt (.tup ys);exact k _ s₁ _ ((bh.sm.trans s3).trans z) rn ⟨pt,ys,Z,bF.of ah,al3.mono λ_ _ q=>q.mono (aK.same z)⟩
theorem K6(T:eJ K mg t):bC P w K mg base dU 3 t.a_Q3 t.d_Q3 ["_law_works_here","_law_plan"] (jp K):=by
 refine T.F_Q3.ok rN (λvs H Q E h=>?_) (λcdv A outer s H vs Q E hr h=>?_)
 ·obtain⟨_,_,_,_,rfl,_⟩:=h;rfl
 obtain⟨v,u,ws,pl,rfl,wv,wo,pv,po,k⟩:=h;refine dM.ok (ag (cA (iK (js (eS (dg (aO gz (by rfl) T.z_isinstance UN (ae (qv 1) (ae (jx (v:=V.ty "tuple") Z T.z_tuple Se Z) ai af) af)))) (js (aT vI (aO aU (by rfl) T.z_len SL (ae (qv 1) ai af)) aj (bb _)) (km (eS (dg (aO (yr Z) (by rfl) T.z_all boot_all (ae (bX (N':=["_law_row"]) (src:=[none]) Z (by exact(dZ (qv 1))) (λ_ _ _ _ _=>(by exact(by exact aD (i:=0) (by show Q7 (["_law_row"]:List QX);decide +kernel) (by exact Z) (by first|exact Q0 Z|exact QV Z)))) (λ_ _ _ _ _=>cR) (λ_ _ _ _ _=>(by exact(by exact(aO (uM (K:=K) (by exact Z)) (by exact Z) T.z_isinstance UN (ae (by exact(qv 0)) (ae (by exact(jx (v:=V.ty "tuple") Z T.z_tuple Se Z)) ai af) af))))) (by exact trivial) Z (by decide +kernel) Z (by decide +kernel) (by exact bG Z trivial)) ai dB)))))))) (av (aL iL)) bB) (ag (cC 2 rN.nd (aM qk (bW (ae (bV (ae aj (ae aj ai aP) aP)) ai dm)) (aO aU (by rfl) T.z_len SL (ae (qv 0) ai af)))) (ag (bT QL Z (cI Z T.z_range (ae aj ai aP)) (aD (i:=3) rN.nd Z (by first|exact Q0 Z|exact QV Z)) (av (bT QL Z (dZ (ci aB (qv 1) (qv 3))) (gO Z (aY (aD (i:=4) rN.nd Z (by first|exact Q0 Z|exact QV Z)) (aY (aD (i:=5) rN.nd Z (by first|exact Q0 Z|exact QV Z)) cX))) (ag (cA (iK (js (eS (AK jB jB (bv aB (bv aB (qv 0) (qv 4) (λ_ _=>Z)) aj (λ_ _=>Z)) (qv 3) (bv aB (bv aB (qv 0) (qv 4) (λ_ _=>Z)) aj (λ_ _=>Z)))) (km (aT hG (dJ Qy WJ PySem.F.type_list_count xN (bX (N':=["_law_pair"]) (src:=[none]) Z (by exact(dZ (bv aB (qv 1) (qv 3) (λ_ _=>Z)))) (λ_ _ _ _ _=>(by exact(by exact aD (i:=0) (by show Q7 (["_law_pair"]:List QX);decide +kernel) (by exact Z) (by first|exact Q0 Z|exact QV Z)))) (λ_ _ _ _ _=>cR) (λ_ _ _ _ _=>(by exact(by exact(bv (bO (K:=K) (by exact Z)) (by exact(qv 0)) aj (by exact λ_ _=>Z))))) (by exact trivial) Z (by decide +kernel) Z (by decide +kernel) (by exact bG Z trivial)) (ae (qv 4) ai af)) aj (bb _))))) (av (aL iL)) bB) (ag (cA (iK (js (aT mZ (ci aB (qv 5) aj) aj (bb _)) (km (aT (kx hr) (cT (m4 T) hr T.m_Q37 T.F_Q37.kp T.b_Q37 (ae (ci aB (qv 5) aj) (ae (ci aB (qv 5) aj) ai aF) aF)) (qv 5) (bb _))))) (av (aL iL)) bB) (av (i5 (cT (Bx T) hr T.m_Q38 T.F_Q38.kp T.b_Q38 (ae (ci cc (qv 2) (qv 4)) (ae (qv 5) ai af) aF)) (kq (qv 2) (qv 4) gs)))))))) (av (aL (gP (Ie hr) (qv 2) (bX (N':=["_law_work"]) (src:=[none]) Z (by exact(dZ (qv 0))) (λ_ _ _ _ _=>(by exact(by exact aD (i:=0) (by show Q7 (["_law_work"]:List QX);decide +kernel) (by exact Z) (by first|exact Q0 Z|exact QV Z)))) (λ_ _ _ _ _=>cR) (λ_ _ _ _ _=>(by exact(by exact(bv (bO (K:=K) (by exact Z)) (by exact(qv 0)) aj (by exact λ_ _=>Z))))) (by exact trivial) Z (by decide +kernel) Z (by decide +kernel) (by exact bG Z trivial)) (bb _))))))) ?_
 nofun
 obtain⟨pa,xs,rfl,hpa,al⟩:=wv;obtain⟨pp,ys,rfl,hpp,ap⟩:=pv;have hxl:=al.len;have hyl:=ap.len;have few:=wo.few;have l24:=po.len;have dp:bD K H (.ref pp) (Jw pl):=.tup hpp (ap.deep λ_ _ z=>z.deep);refine⟨_,Z,_,_,_,true,Z,dp,Z,_,Z,fC ?_⟩;refine⟨_,Z,pp,_,Z,.inr hpp,Z,_,Z,vV (by rw[hyl,l24];rfl) ?_⟩;refine⟨_,Z,pp,Z,⟨_,hpp⟩,λD hD=>d9 (K:=K) (P:=λ_ v (b:Bool)=>v=.bl b) (ds:=pl) (f:=λ_=>true) (λ_ _ _ _ _ p=>p) hD hpp hyl (by omega) (λi x q H' hx hq s' R E kR=>?_) λH2 zs s2 hD2 al2=>?_⟩
 ·obtain⟨q',hq',tv⟩:=ap.at hx;rw[hq] at hq'
  cases hq'
  refine⟨gD.set Z,_,Z,_,_,_,true,Z,(tv.mono (aK.same s')).deep,Z,?_⟩;exact kR _ _ (aH.refl _) Z
 have ez:=CM al2;refine⟨D,pl.map λ_=>true,Z,(by rw[←ez];exact aX.of hD2),_,Z,?_⟩;rw[show(pl.map λ_=>true).all id=true from Sg.mpr λb hb=>by obtain⟨_,_,rfl⟩:=Qg.mp hb;rfl];refine fC ?_;refine⟨kP,λp0 hp0=>?_⟩;have s3:=au hp0 (.tup [.int 0,.int 1]);have r3:RV K (upd H2 p0 (.tup [.int 0,.int 1])) (.ref p0) (0,1):=RV.of ah;generalize upd H2 p0 (.tup [.int 0,.int 1])=H3 at s3 r3 ⊢;refine⟨Fs,λl0 hl0=>?_⟩;have s4:=au hl0 (.lst [.ref p0]);have e4:upd H3 l0 (.lst [.ref p0]) l0=some (.lst [.ref p0]):=ah;have r4:=r3.mono (aK.same s4);generalize upd H3 l0 (.lst [.ref p0])=H4 at s4 e4 r4 ⊢;have s04:=(s2.trans s3).trans s4;refine⟨_,Z,pa,_,Z,.inr (aK.same (K:=K) s04 _ _ hpa),l0,.ref p0,xs.length,Z,Z,e4,by omega,λld hld=>?_⟩;have s5:=au hld (.lst (Qn xs.length (V.ref p0)));have e5:upd H4 ld (.lst (Qn xs.length (V.ref p0))) ld=some (.lst (Qn xs.length (V.ref p0))):=ah;have a5:b8 (RV K (upd H4 ld (.lst (Qn xs.length (V.ref p0))))) (Qn xs.length (V.ref p0)) (eD ws.length []):=by
  rw[Cn,←hxl];exact b8.rep (r4.mono (aK.same s5)) _
 have s05:=s04.trans s5;generalize upd H4 ld (.lst (Qn xs.length (V.ref p0)))=H5 at s05 e5 a5 ⊢;generalize Qn xs.length (V.ref p0)=d5 at e5 a5;have hln:H ld=none:=gv s04 hld;have t05:=aK.same (K:=K) s05;let I1:Yyq:=λu σ H'=>∃(x3 x4 x5:Option V) (ds:List V),σ=[some (.ref pa),some (.ref pp),some (.ref ld),x3,x4,x5]/\(∀b o,b≠ld->H5 b=some o->H' b=some o)/\H' ld=some (.lst ds)/\b8 (RV K H') ds (eD ws.length (pl.take u).flatten);refine⟨24,Z,by decide,by decide,cJ (lo:=0) (n:=24) I1 ⟨none,none,none,d5,Z,λ_ _ _ e=>e,e5,a5⟩ ?_ ?_⟩
 ·rintro u σ H6 hu ⟨x3,x4,x5,ds,rfl,k6,e6,a6⟩;rw[TC];obtain⟨xt,hxt⟩:∃xt,ys[u]?=some xt:=⟨_,P5 (by omega)⟩;obtain⟨q,hq,pr,zs,rfl,hpr,az⟩:=ap.at hxt;obtain⟨nd,pc⟩:=po.row u q hq;have lz:=az.len;have lq:=po.few q (Qf hq);have t6:=t05.trans (aK.steps (K:=K) e5 k6 ⟨_,e6⟩);have fl:=Cf (pl:=pl.take u) λx hx=>po.few x (RW hx)
  rw[Rv] at fl;let I2:Yyq:=λi σ H'=>∃(y4 y5:Option V) (ds:List V),σ=[some (.ref pa),some (.ref pp),some (.ref ld),some (.int (u:Nat)),y4,y5]/\(∀b o,b≠ld->H5 b=some o->H' b=some o)/\H' ld=some (.lst ds)/\b8 (RV K H') ds (eD ws.length ((pl.take u).flatten++q.take i));refine⟨_,Z,_,Z,pp,_,_,_,Z,Z,t6 _ _ hpp,be hxt,pr,Z,⟨_,t6 _ _ hpr⟩,fX (K:=K) (a:=pr) (xs:=zs) I2 ⟨x4,x5,ds,Z,k6,e6,(by rw[XA,Rp];exact a6)⟩ (λi σ H' _ ⟨_,_,_,_,k',h',_⟩=>t05.trans (aK.steps (K:=K) e5 k' ⟨_,h'⟩) _ _ hpr) ?_ ?_⟩
  ·rintro i x σ H7 hx ⟨y4,y5,d7,rfl,k7,e7,a7⟩;obtain⟨c,hc,pz,xa,rfl,hSc,rx⟩:=az.at hx;have mc:=Qf hc;obtain⟨c1,c2,c3,c4,c5⟩:=pc c mc;have t7:=t05.trans (aK.steps (K:=K) e5 k7 ⟨_,e7⟩);obtain⟨xw,hxw⟩:∃xw,xs[c.1]?=some xw:=⟨_,P5 (by omega)⟩;obtain⟨w,hw,pw,am,rfl,hpw,ram⟩:=al.at hxw;have ew:ws.getD c.1 bc=w:=ay bc hw;rw[ew] at c2 c3;refine⟨pz,_,Z,t7 _ _ hSc,Z,_,_,Z,_,_,Z,Z,?_⟩;refine⟨_,Z,_,Z,pa,_,_,_,Z,Z,t7 _ _ hpa,be hxw,pw,_,_,_,Z,Z,t7 _ _ hpw,Z,_,Z,_,_,Z,Z,_,Z,cW (by omega) ⟨_,Z,_,Z,pa,_,_,_,Z,Z,t7 _ _ hpa,be hxw,pw,_,_,_,Z,Z,t7 _ _ hpw,Z,_,_,Z,Z,_,Z,?_⟩⟩;refine jJ (b:=!decide (((u:Nat):Int)≤((w.2.1:Nat):Int))) (by rw[Q9 (by omega)];rfl) ?_;refine⟨_,Z,_,Z,pp,_,_,_,Z,Z,t7 _ _ hpp,be hxt,pr,Z,⟨_,t7 _ _ hpr⟩,λD3 hD3=>d9 (K:=K) (P:=λ_ v (d:Int)=>v=.int d) (ds:=q) (f:=λc:Pc=>((c.1:Nat):Int)) (λ_ _ _ _ _ p=>p) hD3 (t7 _ _ hpr) lz (by omega) (λj z d H' hz hd s' R E kR=>?_) λH8 ys8 s8 hD8 al8=>?_⟩
   ·obtain⟨d',hd',pd,xd,rfl,hSd,rd_⟩:=az.at hz;rw[hd] at hd'
    cases hd'
    refine⟨gD.set Z,_,Z,pd,_,_,_,Z,Z,aK.same (K:=K) s' _ _ (t7 _ _ hSd),Z,?_⟩;exact kR _ _ (aH.refl _) Z
   have e8:=wG al8;rw[e8] at hD8;have cn:=Fd nd (c.1:Int);refine⟨.inl ⟨Z,_,aX.of hD8⟩,_,Z,D3,_,(c.1:Int),Z,Z,aX.of hD8,_,_,Z,Z,_,Z,cG (by omega) ?_⟩;have t8:=t7.trans (aK.same (K:=K) s8);have e8':=s8 _ _ e7;have a8:b8 (RV K H8) d7 (eD ws.length ((pl.take u).flatten++q.take i)):=a7.mono λ_ _ z=>z.mono (aK.same s8)
   have k8:∀b o,b≠ld->H5 b=some o->H8 b=some o:=λb o nb e=>s8 _ _ (k7 b o nb e)
   clear e8 al8 a7 k7;obtain⟨pq,rfl,hSq⟩:=rx;have cp:1≤c.2.1:=by
    have:=(fY c4.bq.pos).mpr c4.nn;refine io c4.red c4.nn λz=>?_
    rw[z,(eY (r:=(0,1)) (by decide)).mpr Z] at c5;exact aad c5 (by decide)
   refine⟨_,Z,pq,_,_,_,Z,Z,t8 _ _ hSq,Z,_,_,Z,Z,_,Z,cG (by omega) ?_⟩;have cb:=c4.wf.bot;refine⟨_,Z,pq,_,_,_,Z,Z,t8 _ _ hSq,Z,_,Z,pq,_,_,_,Z,Z,t8 _ _ hSq,Z,c.2.1,c.2.2,Z,c4.bq.pos,QJ cb (SD (by decide) (by decide)),λpm hpm=>?_⟩;have em:fo c.2.1 c.2.2=c.2:=fc c4.bq.pos c4.bq.pos c4.red.cop Z;rw[em];have s9:=au hpm (.tup [.int c.2.1,.int c.2.2]);have r9:RV K (upd H8 pm (.tup [.int c.2.1,.int c.2.2])) (.ref pm) c.2:=RV.of ah;generalize upd H8 pm (.tup [.int c.2.1,.int c.2.2])=H9 at s9 r9 ⊢;have t9:=t8.trans (aK.same (K:=K) s9);have rq:RV K H9 (.ref pq) c.2:=⟨pq,Z,t9 _ _ hSq⟩;refine⟨_,Z,dR c.2,dR c.2,r9.deep,rq.deep,Z,Z,jS _,_,Z,?_⟩;rw[jP,Q9 Z];refine fC ?_;have a9:b8 (RV K H9) d7 (eD ws.length ((pl.take u).flatten++q.take i)):=a8.mono λ_ _ z=>z.mono (aK.same s9)
   have e9:=s9 _ _ e8';have l9:=a9.len;have l9':(eD ws.length ((pl.take u).flatten++q.take i)).length=ws.length:=by unfold eD;rw[P8,QN]
   obtain⟨yv,hyv⟩:∃yv,d7[c.1]?=some yv:=⟨_,P5 (by omega)⟩;obtain⟨r,hrd,ry⟩:=a9.at hyv;rw[jQ _ c1] at hrd;injection hrd with hrd;have wr:Wf 820 r:=by
    rw[←hrd];refine HX (λd hd=>?_) ?_
    ·rcases QP.mp hd with z|z
     ·obtain⟨q',hq',hd'⟩:=Y3.mp z;obtain⟨u',hu'⟩:=RU (RW hq');exact((po.row u' q' hu').2 d hd').2.2.2.1
     ·exact(pc d (RW z)).2.2.2.1
    ·rw[QC,Rv];omega
   refine⟨_,Z,_,Z,ld,_,_,_,Z,Z,aX.of e9,be hyv,_,Z,yv,.ref pq,r,c.2,820,800,Z,ry,rq,wr,c4.wf,by decide,λpn hpn=>?_⟩;have sA:=au hpn (.tup [.int (bP r c.2).1,.int (bP r c.2).2]);have rA:RV K (upd H9 pn (.tup [.int (bP r c.2).1,.int (bP r c.2).2])) (.ref pn) (bP r c.2):=RV.of ah;have eA:=sA _ _ e9;have tA:=aK.same (K:=K) sA;generalize upd H9 pn (.tup [.int (bP r c.2).1,.int (bP r c.2).2])=HA at sA rA eA tA ⊢;refine⟨_,Z,_,Z,ld,d7,_,c.1,Z,Z,eA,jI (by omega),?_⟩;have tu:=aK.up (K:=K) eA (d7.set c.1 (.ref pn));refine⟨_,_,_,Z,λb o nb e=>by rw[ao nb];exact sA _ _ (s9 _ _ (k8 b o nb e)),ah,?_⟩;rw[Q3,hc,←TD];show b8 _ _ (eD ws.length ((pl.take u).flatten++q.take i++[c]));rw[←Cm,hrd];exact b8.setI (rA.mono tu) c.1 (a9.mono λ_ _ z=>(z.mono tA).mono tu)
  ·rintro σ H7 ⟨y4,y5,d7,rfl,k7,e7,a7⟩;refine⟨_,_,_,d7,Z,k7,e7,?_⟩;rw[yb hq];rw[lz,Q6] at a7;exact a7
 ·rintro σ H6 ⟨x3,x4,x5,ds,rfl,k6,e6,a6⟩;rw[Tg (by omega)] at a6;have t6:=t05.trans (aK.steps (K:=K) e5 k6 ⟨_,e6⟩);have dn:eD ws.length pl.flatten=ws.map λw=>w.2.2:=by
   refine Vc λi=>?_
   by_cases hi:i<ws.length
   ·rw[jQ _ hi,po.fin i hi,Ql,P5 hi,ay bc (P5 hi)];rfl
   ·rw[Ru (by unfold eD;rw[P8,QN];omega),Ru (by rw[P8];omega)]
  rw[dn] at a6;refine⟨_,Z,_,Z,pa,Z,⟨_,t6 _ _ hpa⟩,λD hD=>d9 (K:=K) (P:=RV K) (ds:=ws) (f:=λw:Wk=>w.2.2) (λ_ _ _ _ t p=>p.mono t) hD (t6 _ _ hpa) hxl (by omega) (λi x w H' hx hw s' R E kR=>?_) λH7 zs s7 hD7 al7=>?_⟩
  ·obtain⟨w',hw',pw,am,rfl,hpw,ram⟩:=al.at hx;rw[hw] at hw'
   cases hw'
   have t':=t6.trans (aK.same (K:=K) s');refine⟨gD.set Z,_,Z,pw,_,_,_,Z,Z,t' _ _ hpw,Z,?_⟩;exact kR _ _ (aH.refl _) (ram.mono t')
  have d1:bD K H7 (.ref ld) (.list ((ws.map λw=>w.2.2).map dR)):=.lst (aX.of (s7 _ _ e6)) ((a6.mono λ_ _ z=>z.mono (aK.same s7)).deep λ_ _ z=>z.deep);have d2:bD K H7 (.ref D) (.list ((ws.map λw=>w.2.2).map dR)):=.lst (aX.of hD7) (al7.deep λ_ _ z=>z.deep);refine⟨_,_,d1,d2,BW _,BW _,Js _,?_⟩;have ee:RQ (.list ((ws.map λw=>w.2.2).map dR)) (.list ((ws.map λw=>w.2.2).map dR))=true:=sy _;rw[ee];refine k _ λb o e=>s7 _ _ (k6 b o (aC e hln) (s05 _ _ e))
theorem IK(T:eJ K mg t):bC P w K mg base dU 1 t.a_Q16 t.d_Q16 ["self"] (mI K t.c_Keeper):=by
 refine T.F_Q16.ok GS (λvs H Q E h=>?_) (λcdv A outer s H vs Q E hr h=>?_)
 ·obtain⟨_,_,rfl,_⟩:=h;rfl
 obtain⟨x,dx,rfl,hx,k⟩:=h;refine dM.ok (ag (qg (qv 0) aj Z) (ag (qg (qv 0) (bW ai) Z) (ag (qg (qv 0) (bW ai) Z) (av (qg (qv 0) (bW ai) Z))))) ?_
 nofun
 refine⟨_,Z,x,_,_,_,Z,hx,T.cl_Keeper,T.n_Keeper_turn,by decide,?_⟩;refine⟨(by show 0≤sizeLine;exact Qu _),λlk hlk=>⟨_,Z,x,_,_,_,Z,au hlk _ _ _ ah,T.cl_Keeper,T.n_Keeper_known,(by show 1<1000;decide),?_⟩⟩;refine⟨(by show 0≤sizeLine;exact Qu _),λlr hlr=>⟨_,Z,x,_,_,_,Z,au hlr _ _ _ ah,T.cl_Keeper,T.n_Keeper_rest,(by show 2<1000;decide),?_⟩⟩;refine⟨(by show 0≤sizeLine;exact Qu _),λld hld=>⟨_,Z,x,_,_,_,Z,au hld _ _ _ ah,T.cl_Keeper,T.n_Keeper_done,(by show 3<1000;decide),?_⟩⟩;have nk:x≠lk:=aC ah hlk;have nr:x≠lr:=aC ah hlr;have nd:x≠ld:=aC ah hld;have n1:lk≠lr:=aC (by rw[ao nk.symm];exact ah) hlr;have n2:lk≠ld:=aC (by rw[ao nk.symm,ao n1,ao nk.symm];exact ah) hld;have n3:lr≠ld:=aC (by rw[ao nr.symm];exact ah) hld;refine k lk lr ld _ (λb o nb e=>?_) (by rw[ao nk.symm] at hlk;exact hlk) (by rw[ao nr.symm,ao n1.symm,ao nr.symm] at hlr;exact hlr) (by rw[ao nd.symm,ao n3.symm,ao nd.symm,ao n2.symm,ao nd.symm] at hld;exact hld) ⟨⟨dx,ah⟩,⟨[],(by rw[ao nk.symm,ao n2,ao nk.symm,ao n1,ao nk.symm];exact ah),.nil⟩,⟨[],(by rw[ao nr.symm,ao n3,ao nr.symm];exact ah),.nil⟩,⟨[],(by rw[ao nd.symm];exact ah),.nil⟩,n1,n2,n3⟩;rw[ao nb];refine au hld _ _ _ ?_;rw[ao nb];refine au hlr _ _ _ ?_;rw[ao nb];refine au hlk _ _ _ ?_;rw[ao nb];exact e
theorem IJ(T:eJ K mg t):bC P w K mg base (J5 P w) 5 t.a_Q17 t.d_Q17 ["self","last","amount"] (mJ K t.c_Keeper t.c_Q48):=by
 refine B.Fun.okD T.F_Q17 zJ (λvs H Q E h=>?_) (λcdv A outer s H vs Q E hr h=>?_)
 ·obtain⟨_,_,_,_,_,_,_,_,_,rfl,_⟩:=h;rfl
 obtain⟨a,lk,lr,ld,s,v,u,dv,du,rfl,kp,k20,r20,hv,hu,ke,k⟩:=h;refine dM.ok (ag (cC 3 zJ.nd (bV (ae (eT (qv 0) Z) (ae (qv 1) (ae (qv 2) ai af) af) gl))) (ag (cA (eS (dg (cT (Ir T) hr T.m_Q43 T.F_Q43.kp T.b_Q43 (ae (qv 3) ai af)))) (av (ko T.X_Q48 (tP _) Z tW (Bw T) (hr.mono (by decide)) T.b_Q48 Z T.m_Q48 (ae cV ai aP))) bB) (ag (cA (aT Br (aO aU (by rfl) T.z_len SL (ae (eT (qv 0) Z) ai gl)) (dC (v:=.int (20)) Z T.m_MOST_WORKS ⟨_,Z⟩) (bb _)) (av (ko T.X_Q48 (tP _) Z tW (Bw T) (hr.mono (by decide)) T.b_Q48 Z T.m_Q48 (ae cV ai aP))) bB) (ag (bS (dJ Qy QF QH bA (eT (qv 0) Z) (ae (qv 3) ai af))) (ag (bS (dJ Qy QF QH bA (eT (qv 0) Z) (ae (qv 2) ai af))) (av (aL (aM g7 (aO aU (by rfl) T.z_len SL (ae (eT (qv 0) Z) ai gl)) aj)))))))) ?_
 nofun
 obtain⟨dx,hi⟩:=kp.ins;obtain⟨xk,hk,ak⟩:=kp.hk;obtain⟨xr,hr_,ar⟩:=kp.hr;have lxk:=ak.len;have lxr:=ar.len;refine⟨_,Z,a,_,_,_,_,Z,hi,T.cl_Keeper,T.n_Keeper_turn,Z,_,Z,_,Z,JQ,λpw hpw=>?_⟩;have s1:=au hpw (.tup [.int s.tn,v,u]);have q1:upd H pw (.tup [.int s.tn,v,u]) pw=some (.tup [.int s.tn,v,u]):=ah;generalize upd H pw (.tup [.int s.tn,v,u])=H1 at s1 q1 ⊢;refine⟨_,Z,.ref pw,.tuple [.int s.tn,dv,du],Z,.tup (bF.of q1) (.cons (.int _) (.cons (hv.same s1) (.cons (hu.same s1) .nil))),_,Z,?_⟩
 cases cw:lX (.tuple [.int s.tn,dv,du]) with
 |false=>
  refine iG ⟨Fs,λx hx=>⟨x,_,Z,ah,λd hd nd=>⟨Z,some d,(by rw[ao nd.symm];exact ah),?_⟩⟩⟩;rw[nM hx nd];exact ke (by unfold kZ;rw[cw];rfl) d _ _ s1 (by rw[ao nd] at hd;exact hd)
 |true=>
  refine fC ?_;have hi1:=s1 _ _ hi;have hk1:=s1 _ _ hk;refine⟨_,Z,a,_,_,_,_,Z,hi1,T.cl_Keeper,T.n_Keeper_known,Z,lk,_,Z,.inl (aX.of hk1),_,_,Z,Z,_,Z,?_⟩;by_cases c20:s.kn.length<20
  ·refine cG (by omega) ?_;obtain⟨l,r,el,er,_,_,_,_⟩:=Fb cw;subst el;subst er;obtain rfl:v=.int (l:Nat):=by cases hv;rfl
   refine⟨_,Z,a,_,_,_,_,Z,hi1,T.cl_Keeper,T.n_Keeper_known,Z,.inl ⟨Z,_,aX.of hk1⟩,_,Z,lk,_,_,Z,Z,hk1,aQ (by omega),?_⟩;have nka:lk≠a:=λz=>by subst z;rw[hi] at hk;cases hk
   have nra:lr≠a:=λz=>by subst z;rw[hi] at hr_;cases hr_
   have hi2:upd H1 lk (.lst (xk++[.ref pw])) a=some (.ins t.c_Keeper dx (Cb s.tn lk lr ld)):=by rw[ao nka.symm];exact hi1
   have hr2:upd H1 lk (.lst (xk++[.ref pw])) lr=some (.lst xr):=by rw[ao kp.n1.symm];exact s1 _ _ hr_
   have hk2:upd H1 lk (.lst (xk++[.ref pw])) lk=some (.lst (xk++[.ref pw])):=ah;have t2:=aK.up (K:=K) hk1 (xk++[.ref pw]);have f2:∀b o,b≠lk->H1 b=some o->upd H1 lk (.lst (xk++[.ref pw])) b=some o:=λb o nb e=>by rw[ao nb];exact e
   generalize upd H1 lk (.lst (xk++[.ref pw]))=H2 at hi2 hr2 hk2 t2 f2 ⊢;refine⟨_,Z,a,_,_,_,_,Z,hi2,T.cl_Keeper,T.n_Keeper_rest,Z,.inl ⟨Z,_,aX.of hr2⟩,_,Z,lr,_,_,Z,Z,hr2,aQ (by omega),?_⟩;have hi3:upd H2 lr (.lst (xr++[u])) a=some (.ins t.c_Keeper dx (Cb s.tn lk lr ld)):=by rw[ao nra.symm];exact hi2
   have hk3:upd H2 lr (.lst (xr++[u])) lk=some (.lst (xk++[.ref pw])):=by rw[ao kp.n1];exact hk2
   have t3:=aK.up (K:=K) hr2 (xr++[u]);have hr3:upd H2 lr (.lst (xr++[u])) lr=some (.lst (xr++[u])):=ah;have f3:∀b o,b≠lr->H2 b=some o->upd H2 lr (.lst (xr++[u])) b=some o:=λb o nb e=>by rw[ao nb];exact e
   generalize upd H2 lr (.lst (xr++[u]))=H3 at hi3 hk3 t3 hr3 f3 ⊢;refine⟨_,Z,a,_,_,_,_,Z,hi3,T.cl_Keeper,T.n_Keeper_known,Z,lk,_,Z,.inl (aX.of hk3),_,_,Z,Z,?_⟩;obtain⟨xd,hd,ad⟩:=kp.hd;have t1:=aK.same (K:=K) s1;have t13:=t2.trans t3;have t03:=t1.trans t13;have rvu:RV K H1 u r:=Cy (hu.same s1);have e1:(((xk++[V.ref pw]).length:Nat):Int)-1=(s.kn.length:Nat):=by rw[QC,R3];omega
   have q:Q (.int (s.kn.length:Nat)) H3:=by
    refine k (by unfold kZ;rw[cw,Q9 c20];rfl) l r H3 Z Z (λb o b1 b2 b3 _ e=>f3 b o b3 (f2 b o b2 (s1 _ _ e))) ⟨⟨dx,hi3⟩,⟨_,hk3,?_⟩,⟨_,hr3,?_⟩,⟨xd,f3 _ _ kp.n3.symm (f2 _ _ kp.n2.symm (s1 _ _ hd)),ad.mono λ_ _ z=>z.mono t03⟩,kp.n1,kp.n2,kp.n3⟩
    ·exact(ak.mono λ_ _ z=>z.mono t03).snoc ⟨pw,u,Z,t13 _ _ (bF.of q1),rvu.mono t13⟩
    ·exact(ar.mono λ_ _ z=>z.mono t03).snoc (rvu.mono t13)
   rw[←e1] at q;exact q
  ·refine cW (by omega) ?_;refine⟨Fs,λx hx=>⟨x,_,Z,ah,λd hd nd=>⟨Z,some d,(by rw[ao nd.symm];exact ah),?_⟩⟩⟩;rw[nM hx nd];exact ke (by unfold kZ;rw[Sy c20,Tq]) d _ _ s1 (by rw[ao nd] at hd;exact hd)
theorem IC(T:eJ K mg t):bC P w K mg base (J5 P w) 7 t.a_Q28 t.d_Q28 ["self"] (pW K t.c_Keeper t.c_Q49):=by
 refine B.Fun.okD T.F_Q28 p5 (λvs H Q E h=>?_) (λcdv A outer s H vs Q E hr h=>?_)
 ·obtain⟨_,_,_,_,_,rfl,_⟩:=h;rfl
 obtain⟨a,lk,lr,ld,s,rfl,kp,o,ke,k⟩:=h;refine dM.ok (ag (cA (aT Br (eT (qv 0) Z) (dC (v:=.int (24)) Z T.m_TURNS ⟨_,Z⟩) (bb _)) (av (ko T.X_Q49 (tP _) Z tW (Im T) (hr.mono (by decide)) T.b_Q49 Z T.m_Q49 (ae cV ai aP))) bB) (ag (cC 1 p5.nd (cT (K3 T) hr T.m_Q6 T.F_Q6.kp T.b_Q6 (ae (eT (qv 0) Z) (ae (eT (qv 0) Z) (ae (eT (qv 0) Z) ai gl) gl) gl))) (ag (cC 2 p5.nd (cT (BC T) hr T.m_Q19 T.F_Q19.kp T.b_Q19 (ae (ci aB (cT (II T) hr T.m_Q18 T.F_Q18.kp T.b_Q18 (ae (bV (ae (ci aB (qv 1) aj) (ae (bV ai) ai dm) aF)) ai dm)) (eT (qv 0) Z)) (ae (ci aB (qv 1) aj) ai aF) aF))) (ag (bT Ra.leaving Z (dZ (qv 2)) (aD (i:=3) p5.nd Z (by first|exact Q0 Z|exact QV Z)) (av (i5 (cT (uu T) hr T.m_Q52 T.F_Q52.kp T.b_Q52 (ae (ci cc (eT (qv 0) Z) (ci aB (qv 3) aj)) (ae (ci aB (qv 3) aj) ai aF) aF)) (kq (eT (qv 0) Z) (ci aB (qv 3) aj) gs)))) (ag (bS (dJ Qy QF QH bA (eT (qv 0) Z) (ae (qv 2) ai af))) (ag (xx (qv 0) aj Jh) (av (aL (qv 2))))))))) ?_
 nofun
 obtain⟨dx,hi⟩:=kp.ins;obtain⟨xk,hk,ak⟩:=kp.hk;obtain⟨xr,hr_,ar⟩:=kp.hr;obtain⟨xd,hd_,ad⟩:=kp.hd;have nka:lk≠a:=λz=>by subst z;rw[hi] at hk;cases hk
 have nra:lr≠a:=λz=>by subst z;rw[hi] at hr_;cases hr_
 have nda:ld≠a:=λz=>by subst z;rw[hi] at hd_;cases hd_
 refine⟨_,Z,a,_,_,_,_,Z,hi,T.cl_Keeper,T.n_Keeper_turn,Z,_,_,Z,Z,_,Z,?_⟩;have t24:=o.t24;by_cases c24:s.tn=24
 ·refine cW (by omega) ?_;refine⟨Fs,λx hx=>⟨x,_,Z,ah,λd hd nd=>⟨Z,some d,(by rw[ao nd.symm];exact ah),?_⟩⟩⟩;rw[nM hx nd];exact ke c24 d _ (by rw[ao nd] at hd;exact hd)
 refine cG (by omega) ?_;have ht:s.tn<24:=by omega
 have o20:=o.few;have ole:=o.len;refine⟨_,Z,a,_,_,_,_,Z,hi,T.cl_Keeper,T.n_Keeper_known,Z,_,Z,a,_,_,_,_,Z,hi,T.cl_Keeper,T.n_Keeper_rest,Z,_,Z,a,_,_,_,_,Z,hi,T.cl_Keeper,T.n_Keeper_turn,Z,lk,lr,xk,xr,s.kn,s.rs,s.tn,Z,aX.of hk,ak,aX.of hr_,ar,o.len,by omega,λp l u H1 s1 hp wv hl=>?_⟩;have wok:=jd o ht;have ok:∀w∈cO s.kn s.rs s.tn,bH w:=λw hw=>(wok w hw).1
 have wl:=lY s.kn s.rs s.tn;have w20:(cO s.kn s.rs s.tn).length≤20:=by
  have:=jC s.rs;omega
 have gk:=λlys hly=>F5 (lys:=lys) o ht hly
 have pk:=λlys hly=>i9 (lys:=lys) ok w20 hly
 generalize cO s.kn s.rs s.tn=ws at ok w20 wv gk pk;refine⟨_,Z,p,_,_,_,Z,Z,hp,Z,(by show 0≤sizeLine;exact Qu _),λpe he=>⟨kP,λps hs=>?_⟩⟩;have e6:=au he (.tup []);have e7:=au hs (.tup [u,.ref pe]);have h6:upd (upd H1 pe (.tup [])) ps (.tup [u,.ref pe]) pe=some (.tup []):=e7 _ _ ah;have h7:upd (upd H1 pe (.tup [])) ps (.tup [u,.ref pe]) ps=some (.tup [u,.ref pe]):=ah;have e67:=e6.trans e7;generalize upd (upd H1 pe (.tup [])) ps (.tup [u,.ref pe])=H7 at h6 h7 e67 ⊢;have sa:Mf K H7 (.ref ps) ws []:=⟨⟨ps,u,.ref pe,Z,bF.of h7,wv.mono (aK.same e67),⟨pe,[],Z,bF.of h6,.nil⟩⟩,w20,ok,Z,fz _,by decide⟩;refine⟨.ref ps,ws,[],Z,sa,wD ok,λf l_ lys x H8 s8 win nb ly d=>?_⟩;rw[uH win] at ly;unfold NX at d;rw[uH win] at d;have G:=gk lys ly;have P24:=(pk lys ly).len;generalize (c8 ws [] (aV ws lys)).2=pl at d G P24;obtain⟨px,xs,rfl,hx,alx⟩:=E6 d;have lx:=alx.len;obtain⟨xt,hxt⟩:∃xt,xs[s.tn]?=some xt:=⟨_,P5 (by omega)⟩;obtain⟨q0,hq0,tq⟩:=alx.at hxt;rw[ay [] hq0] at G;have s08:=(s1.trans e67).trans s8;have s18:=e67.trans s8;have hi8:=s08 _ _ hi;refine⟨_,Z,a,_,_,_,_,Z,hi8,T.cl_Keeper,T.n_Keeper_turn,Z,px,_,_,_,Z,Z,hx,be hxt,_,Z,p,_,_,_,Z,Z,aK.same (K:=K) s18 _ _ hp,Z,xt,l,q0,aS s.rs,Z,tq,aX.of (s18 _ _ hl),G.lt,(by have:=G.few;omega),λv H9 s9 tv=>?_⟩;have s09:=s08.trans s9;have qp:=G.pc;have qn:=G.nd;have kk:=k ht q0;have bq:∀r∈s.rs,Wf 800 r:=λr hr=>((o.am r hr).1.mono (lW (by omega)) (P7 _)).wf (by decide) (by decide) (by decide)
 generalize bJ (aS s.rs) q0=q at tv qp qn kk;obtain⟨pv,xs9,rfl,hv,alv⟩:=tv;have lv:=alv.len;have t09:=aK.same (K:=K) s09;have hi9:=s09 _ _ hi;have hr9:=s09 _ _ hr_;have hd9:=s09 _ _ hd_;have hk9:=s09 _ _ hk;let Iv1:Yyq:=λi σ H'=>∃(ys:List V) (x3:Option V),σ=[some (.ref a),some (.ref p),some (.ref pv),x3]/\(∀b o,b≠lr->H9 b=some o->H' b=some o)/\H' lr=some (.lst ys)/\b8 (RV K H') ys (f6 s.rs (q.take i))
 refine⟨_,Z,pv,Z,⟨_,hv⟩,fX (K:=K) (a:=pv) (xs:=xs9) Iv1 ⟨xr,none,Z,λb o _ e=>e,hr9,ar.mono λ_ _ z=>z.mono t09⟩ (λi σ H' _ ⟨_,_,_,k',h',_⟩=>aK.steps hr9 k' ⟨_,h'⟩ _ _ hv) ?_ ?_⟩
 ·rintro i x σ HI hx ⟨ys,x3,rfl,kI,hrI,alI⟩;obtain⟨c,hc,pc,xa,rfl,hSc,rx⟩:=alv.at hx;have tI:=aK.steps (K:=K) hr9 kI ⟨_,hrI⟩;obtain⟨lc,ac⟩:=qp c (Qf hc);have cur:=gM (q.take i) s.rs (qV qn hc);have lI:=alI.len;rw[jk] at lI;obtain⟨yv,hyv⟩:∃yv,ys[c.1]?=some yv:=⟨_,P5 (by omega)⟩;obtain⟨r,hrd,ry⟩:=alI.at hyv;have er:r=s.rs.getD c.1 (0,1):=by rw[←cur];exact(ay (0,1) hrd).symm
  have wr:Wf 800 r:=by rw[er];exact bq _ (fj lc)
  have hiI:=kI _ _ nra.symm hi9;refine⟨_,Z,a,_,_,_,_,Z,hiI,T.cl_Keeper,T.n_Keeper_rest,Z,_,Z,pc,_,_,_,Z,Z,tI _ _ hSc,Z,lr,_,_,_,Z,Z,aX.of hrI,be hyv,_,Z,pc,_,_,_,Z,Z,tI _ _ hSc,Z,yv,xa,r,c.2,800,800,Z,ry,rx.mono tI,wr,ac.wf,by decide,λw_ HJ sJ rw_=>?_⟩;have hiJ:=sJ _ _ hiI;have hrJ:=sJ _ _ hrI;have tJ:=aK.same (K:=K) sJ;refine⟨_,Z,a,_,_,_,_,Z,hiJ,T.cl_Keeper,T.n_Keeper_rest,Z,_,Z,pc,_,_,_,Z,Z,tJ _ _ (tI _ _ hSc),Z,lr,ys,_,c.1,Z,Z,hrJ,jI (by omega),?_⟩;have tu:=aK.up (K:=K) hrJ (ys.set c.1 w_);refine⟨_,_,Z,λb o' nb e=>by rw[ao nb];exact sJ _ _ (kI b o' nb e),ah,?_⟩;rw[Q3,hc];show b8 _ _ (f6 s.rs (q.take i++[c]));rw[qX,cur,←er];exact b8.setI (rw_.mono tu) c.1 (alI.mono λ_ _ z=>(z.mono tJ).mono tu)
 ·rintro σ HI ⟨ys,x3,rfl,kI,hrI,alI⟩;rw[lv,Q6] at alI;have tI:=aK.steps (K:=K) hr9 kI ⟨_,hrI⟩;have hiI:=kI _ _ nra.symm hi9;have hdI:=kI _ _ kp.n3.symm hd9;have hkI:=kI _ _ kp.n1 hk9;have lxd:=ad.len;have ldl:=o.dl;refine⟨_,Z,a,_,_,_,_,Z,hiI,T.cl_Keeper,T.n_Keeper_done,Z,.inl ⟨Z,_,aX.of hdI⟩,_,Z,ld,_,_,Z,Z,hdI,aQ (by omega),?_⟩;have hiL:upd HI ld (.lst (xd++[.ref pv])) a=some (.ins t.c_Keeper dx (Cb s.tn lk lr ld)):=by rw[ao nda.symm];exact hiI
  have tL:=aK.up (K:=K) hdI (xd++[.ref pv]);have fL:∀b o',b≠ld->HI b=some o'->upd HI ld (.lst (xd++[.ref pv])) b=some o':=λb o' nb e=>by rw[ao nb];exact e
  have hdL:upd HI ld (.lst (xd++[.ref pv])) ld=some (.lst (xd++[.ref pv])):=ah;generalize upd HI ld (.lst (xd++[.ref pv]))=HL at hiL tL fL hdL ⊢;refine⟨_,Z,a,_,_,_,_,Z,hiL,T.cl_Keeper,T.n_Keeper_turn,Z,_,_,Z,Z,dx,_,hiL,(by show 4<1000;decide),?_⟩;have eF:gW (Qr "turn") (V.int ((s.tn:Int)+1)) (Cb s.tn lk lr ld)=Cb (s.tn+1) lk lr ld:=Z;rw[eF];have tF:aK K HL (upd HL a (.ins t.c_Keeper dx (Cb (s.tn+1) lk lr ld))):=λb xs h=>by
   rcases h with(h | ⟨o',h⟩)|h
   ·exact .inl (.inl (by rw[ao (λz=>by subst z;rw[h] at hiL;cases hiL)];exact h))
   ·exact .inl (.inr ⟨o',by rw[ao (λz=>by subst z;rw[h] at hiL;cases hiL)];exact h⟩)
   ·exact .inr h
  have fF:∀b o',b≠a->HL b=some o'->upd HL a (.ins t.c_Keeper dx (Cb (s.tn+1) lk lr ld)) b=some o':=λb o' nb e=>by rw[ao nb];exact e
  have hiF:upd HL a (.ins t.c_Keeper dx (Cb (s.tn+1) lk lr ld)) a=some (.ins t.c_Keeper dx (Cb (s.tn+1) lk lr ld)):=ah;generalize upd HL a (.ins t.c_Keeper dx (Cb (s.tn+1) lk lr ld))=HF at tF fF hiF ⊢;have tIF:=tL.trans tF;have t9F:=tI.trans tIF;refine⟨_,Z,kk (.ref pv) HF G (λb o' b1 b2 b3 b4 e=>fF b o' b1 (fL b o' b4 (kI b o' b3 (s09 _ _ e)))) ⟨⟨dx,hiF⟩,⟨xk,fF _ _ nka (fL _ _ kp.n2 hkI),ak.mono λ_ _ z=>(z.mono t09).mono t9F⟩,⟨ys,fF _ _ nra (fL _ _ kp.n3 hrI),alI.mono λ_ _ z=>z.mono tIF⟩,⟨xd++[.ref pv],fF _ _ nda hdL,(ad.mono λ_ _ z=>(z.mono t09).mono t9F).snoc ⟨pv,xs9,Z,t9F _ _ hv,alv.mono λ_ _ z=>z.mono t9F⟩⟩,kp.n1,kp.n2,kp.n3⟩ ⟨pv,xs9,Z,t9F _ _ hv,alv.mono λ_ _ z=>z.mono t9F⟩⟩
theorem IF(T:eJ K mg t):bC P w K mg base dU 8 t.a_Q23 t.d_Q23 ["works"] (pT K):=by
 refine T.F_Q23.ok i4 (λvs H Q E h=>?_) (λcdv A outer s H vs Q E hr h=>?_)
 ·obtain⟨_,_,rfl,_⟩:=h;rfl
 obtain⟨v,ws,rfl,wv,wo,k⟩:=h;refine dM.ok (ag (cC 1 i4.nd (AT T.K_Keeper (IK T) (hr.mono (by decide)) Z T.m_Keeper T.b_Q16 .nil Bm)) (ag (cC 2 i4.nd (bW ai)) (ag (cC 3 i4.nd (bW ai)) (ag (bT QL Z (cI Z T.z_range (ae (dC (v:=.int (24)) Z T.m_TURNS ⟨_,Z⟩) ai af)) (aD (i:=4) i4.nd Z (by first|exact Q0 Z|exact QV Z)) (ag (bT QL Z (jw Z T.z_enumerate (ae (qv 0) ai af)) (gO Z (aY (aD (i:=5) i4.nd Z (by first|exact Q0 Z|exact QV Z)) (aY (aD (i:=6) i4.nd Z (by first|exact Q0 Z|exact QV Z)) cX))) (av (cA (aT gS (ci aB (qv 6) aj) (qv 4) (bb _)) (ag (bS (DN (E:=EF) (qv 1) T.cl_Keeper T.M_Keeper_come (IJ T) (hr.mono (by decide)) T.b_Q17 .nil FV (ae (ci aB (qv 6) aj) (ae (ci aB (qv 6) aj) ai aF) aF))) (av (bS (dJ Qy QF QH bA (qv 2) (ae (qv 5) ai af))))) bB))) (av (bS (dJ Qy QF QH bA (qv 3) (ae (cT (BC T) hr T.m_Q19 T.F_Q19.kp T.b_Q19 (ae (AS (E:=EF) (qv 1) T.cl_Keeper T.M_Keeper_go (IC T) (hr.mono (by decide)) T.b_Q28 .nil FV) (ae (qv 2) ai af) ba)) ai ba)))))) (av (aL (bY bw (by rfl) T.z_tuple Se (ae (qv 3) ai af)))))))) ?_
 nofun
 obtain⟨pa,xs,rfl,hpa,al⟩:=wv;have hxl:=al.len;have few:=wo.few;refine λa dx ha hdx ndx=>⟨a,dx,Z,ah,λlk lr ld H1 f1 nk nr nd kp1=>⟨Z,?_⟩⟩
 obtain⟨m1,fA⟩:=BY ha hdx f1 nk nr nd;clear f1 nk nr nd ha hdx ndx;refine⟨(by show 0≤sizeLine;exact Qu _),λln hln=>?_⟩;have m2:=au hln (.lst []);have e2:upd H1 ln (.lst []) ln=some (.lst []):=ah;generalize upd H1 ln (.lst [])=H2 at m2 e2 ⊢;refine⟨(by show 0≤sizeLine;exact Qu _),λlp hlp=>?_⟩;have m3:=au hlp (.lst []);have e3:upd H2 lp (.lst []) lp=some (.lst []):=ah;generalize upd H2 lp (.lst [])=H3 at m3 e3 ⊢;have F:FB H a lk lr ld ln lp:=⟨fA,gv m1 hln,gv (m1.trans m2) hlp,(λz=>by obtain⟨o,e⟩:=kp1.cls ln z;rw[hln] at e;cases e),(λz=>by obtain⟨o,e⟩:=(kp1.same m2).cls lp z;rw[hlp] at e;cases e),λz=>by rw[←z,e2] at hlp;cases hlp⟩;have B0:Bk K t.c_Keeper H a lk lr ld ln lp H3 ⟨0,[],[],[]⟩ [] []:=⟨(m1.trans m2).trans m3,(kp1.same m2).same m3,m3 _ _ e2,⟨[],e3,.nil⟩⟩;clear m1 m2 m3 e2 e3 kp1 fA hln hlp;let I1:Yyq:=λi σ H'=>∃(x4 x5 x6:Option V) (s:dY),σ=[some (.ref pa),some (.ref a),some (.ref ln),some (.ref lp),x4,x5,x6]/\wN ws i s/\KI ws s (kQ ws i)/\Bk K t.c_Keeper H a lk lr ld ln lp H' s (kQ ws i) (s.dn.map (bJ (kQ ws i)));refine⟨24,Z,by decide,by decide,cJ (lo:=0) (n:=24) I1 ⟨none,none,none,_,Z,.zero,vS ws,B0⟩ ?_ ?_⟩
 ·rintro i σ HA hi ⟨x4,x5,x6,s₁,rfl,rn,ki,bk⟩;rw[TC];have tn:=rn.tn;let I2:Yyq:=λj σ H'=>∃(y5 y6:Option V),σ=[some (.ref pa),some (.ref a),some (.ref ln),some (.ref lp),some (.int (i:Nat)),y5,y6]/\KI ws (oZ ws s₁ (gG ws i j)) (kQ ws i++gG ws i j)/\Bk K t.c_Keeper H a lk lr ld ln lp H' (oZ ws s₁ (gG ws i j)) (kQ ws i++gG ws i j) (s₁.dn.map (bJ (kQ ws i)));refine⟨_,Z,pa,Z,⟨_,aK.same (K:=K) bk.sm _ _ hpa⟩,sj (K:=K) (a:=pa) (xs:=xs) I2 ⟨x5,x6,Z,(by rw[show gG ws i 0=[] from Z,Rp];exact ki),(by rw[show gG ws i 0=[] from Z,Rp];exact bk)⟩ (λj σ H' _ ⟨_,_,_,_,b⟩=>aK.same (K:=K) b.sm _ _ hpa) ?_ ?_⟩
  ·rintro j x pe σ HB hx ⟨y5,y6,rfl,kiB,bkB⟩ hpe;have hj:j<ws.length:=by have:=(Qq.mp hx).1;omega
   obtain⟨w,hw,pw,am,rfl,hpw,ram⟩:=al.at hx;have ew:ws.getD j bc=w:=ay bc hw;have wa:=wo.at hj;rw[ew] at wa;have s4:=au hpe (.tup [.int j,.ref pw]);have hpe4:upd HB pe (.tup [.int j,.ref pw]) pe=some (.tup [.int j,.ref pw]):=ah;have bkC:=bkB.same s4;generalize upd HB pe (.tup [.int j,.ref pw])=HC at s4 hpe4 bkC ⊢;have tC:=aK.same (K:=K) bkC.sm;refine⟨pe,_,Z,bF.of hpe4,Z,_,_,Z,_,_,Z,Z,?_⟩;refine⟨_,Z,pw,_,_,_,Z,Z,tC _ _ hpw,Z,_,Z,Z,_,Z,?_⟩;by_cases c:w.1=i
   rotate_left
   ·refine cG (λz=>by injection z with z;omega) ?_;refine⟨_,_,rfl,?_,?_⟩
    ·rw[qy (by rw[ew];exact c)];exact kiB
    ·rw[qy (by rw[ew];exact c)];exact bkC
   refine cW (by rw[c]) ?_;have nj:j∉kQ ws i++gG ws i j:=λz=>by
    rcases QP.mp z with z|z
    ·have:=(qq.mp z).2;rw[ew] at this;omega
    ·have:=(lM.mp z).1;omega
   have ct:=(ja ws (gG ws i j) s₁).1;have rm:=kiB.room wo hj nj;have kD:=kiB.come wo hj nj (by rw[ew,ct,tn];exact c);obtain⟨dxC,hiC⟩:=bkC.kp.ins;have olen:=kiB.ok.len;have cb:kZ (oZ ws s₁ (gG ws i j)) (.int (w.2.1:Nat)) (dR w.2.2)=true:=by rw[Fc (by omega) (by omega),Fm wa.2.2.1.red wa.2.2.2,Q9 rm];rfl
   refine⟨_,Z,a,_,_,Z,hiC,Z,_,Z,pw,_,_,_,Z,Z,tC _ _ hpw,Z,_,Z,pw,_,_,_,Z,Z,tC _ _ hpw,Z,a,lk,lr,ld,oZ ws s₁ (gG ws i j),.int (w.2.1:Nat),am,.int (w.2.1:Nat),dR w.2.2,Z,bkC.kp,by omega,by omega,.int _,(ram.mono tC).deep,(λz=>by rw[cb] at z;cases z),λ_ l' r' HD e1 e2 ks kpD=>?_⟩;obtain rfl:w.2.1=l':=by injection e1 with e1;omega
   obtain rfl:w.2.2=r':=Jv e2;have bkD:=bkC.kst F ks kpD;refine⟨_,Z,.inl ⟨Z,_,aX.of bkD.hn⟩,_,Z,ln,_,_,Z,Z,bkD.hn,?_,?_⟩
   ·have l1:=kiB.len;refine aQ ?_;unfold bt;rw[P8];omega
   have bkE:=bkD.num F j;refine⟨_,_,Z,?_,?_⟩
   ·rw[lR (by rw[ew];exact c),←TD,jU];exact kD
   ·rw[lR (by rw[ew];exact c),←TD,jU,ew];exact bkE
  ·rintro σ HB ⟨y5,y6,rfl,kiB,bkB⟩;rw[hxl] at kiB bkB;have ct:=(ja ws (gG ws i ws.length) s₁).1;have cd:=(ja ws (gG ws i ws.length) s₁).2;have rnx:=λ(q0:List Pc) (G:Gj (oZ ws s₁ (gG ws i ws.length)) q0)=>wN.next rn G
   have gr:=ki.grow (gG ws i ws.length);rw[←rV] at kiB bkB gr;rw[←gr,←cd] at bkB;generalize oZ ws s₁ (gG ws i ws.length)=s₂ at kiB bkB rnx ct;obtain⟨dxB,hiB⟩:=bkB.kp.ins;obtain⟨ysB,hpB,alB⟩:=bkB.hp;refine⟨_,Z,.inl ⟨Z,_,aX.of hpB⟩,_,Z,a,_,_,Z,hiB,Z,a,lk,lr,ld,s₂,Z,bkB.kp,kiB.ok,(λz=>aad z (by omega)),λ_ q0 v2 HC G ks kpC tv=>?_⟩;have bkC:=bkB.kst F ks kpC;have kiC:=kiB.go G (by omega);have kl:=kiB.len;have ol:=kiB.ok.len;have qf:=G.few;refine⟨_,Z,v2,ln,bJ (aS s₂.rs) q0,kQ ws (i+1),Z,tv,aX.of bkC.hn,(λc hc=>by have:=(G.pc c hc).1;omega),(by unfold bJ;rw[P8];omega),λv3 HD s3 tv3=>?_⟩;have bkD:=bkC.same s3;obtain⟨ysD,hpD,alD⟩:=bkD.hp;have lD:=alD.len;have dl:=kiB.ok.dl;rw[P8] at lD;refine⟨lp,_,_,Z,Z,hpD,aQ (by omega),?_⟩;refine⟨_,_,_,_,Z,rnx q0 G,kiC,?_⟩;have z:=bkD.row F hpD alD tv3;show Bk K t.c_Keeper H a lk lr ld ln lp _ _ _ ((s₂.dn++[bJ (aS s₂.rs) q0]).map (bJ (kQ ws (i+1))));rw[Rh];exact z
 ·rintro σ HA ⟨x4,x5,x6,s₁,rfl,rn,ki,bk⟩;obtain⟨ys,hp,alp⟩:=bk.hp;refine⟨_,Z,lp,ys,Z,.inl ⟨aX.of hp,λpt hpt=>?_⟩⟩;have z:=au hpt (.tup ys);exact k _ s₁ _ (bk.sm.trans z) rn ki ⟨pt,ys,Z,bF.of ah,alp.mono λ_ _ q=>q.mono (aK.same z)⟩
theorem Ih(T:eJ K mg t):bC P w K mg base dU 9 t.a_Q59 t.d_Q59 ["_law_script"] (pS K):=by
 refine T.F_Q59.ok gN (λvs H Q E h=>?_) (λcdv A outer s H vs Q E hr h=>?_)
 ·obtain⟨_,_,rfl,_⟩:=h;rfl
 obtain⟨a₀,ns,rfl,hS,hl,k⟩:=h;refine dM.ok (ag (bT QL Z (cI Z T.z_range (ae aj ai aP)) (aD (i:=1) gN.nd Z (by first|exact Q0 Z|exact QV Z)) (ag (cC 2 gN.nd (bW (ae (cT (IE T) hr T.m_Q24 T.F_Q24.kp T.b_Q24 (ae (aM dP (cT (IL T) hr T.m_Q14 T.F_Q14.kp T.b_Q14 (ae (qv 0) (ae (qv 1) ai af) af)) (aM g8 aj (qv 1))) (ae aj ai aP) bz)) (ae aj ai aP) ba))) (ag (cC 3 gN.nd (cT (By T) hr T.m_Q27 T.F_Q27.kp T.b_Q27 (ae (qv 2) (ae aj (ae aj ai aP) aP) af))) (ag (qh (cA (iK (mT (aT gS (qv 1) aj (bb _)) (lJ (aT gS (cT (gQ T) hr T.m_Q36 T.F_Q36.kp T.b_Q36 (ae (qv 2) (ae aj ai aP) af)) aj (bb _))))) (av (cC 3 gN.nd (mV vo (aM Bp (cT (By T) hr T.m_Q27 T.F_Q27.kp T.b_Q27 (ae (qv 2) (ae aj (ae aj ai aP) aP) af)) aj) vB (lK aj)))) bB)) (ag (cC 4 gN.nd (aO (iC hr) (by rfl) T.z_repr Y4 (ae (qv 3) ai af))) (ag (cC 5 gN.nd (cT (Iu T) hr T.m_Q41 T.F_Q41.kp T.b_Q41 (ae (qv 3) ai af))) (av (bT QL Z (cI Z T.z_range (ae aj ai aP)) (aD (i:=6) gN.nd Z (by first|exact Q0 Z|exact QV Z)) (ag (cC 7 gN.nd (cT (IF T) hr T.m_Q23 T.F_Q23.kp T.b_Q23 (ae (qv 3) ai af))) (av (cA (iK (js (aT vI (aO (iC hr) (by rfl) T.z_repr Y4 (ae (qv 7) ai af)) (aO (iC hr) (by rfl) T.z_repr Y4 (ae (qv 5) ai af)) (bb _)) (js (eS (dg (cT (K6 T) hr T.m_Q3 T.F_Q3.kp T.b_Q3 (ae (qv 3) (ae (qv 7) ai af) af)))) (km (aT vI (aO (iC hr) (by rfl) T.z_repr Y4 (ae (qv 3) ai af)) (qv 4) (bb _)))))) (av (aL iL)) bB))))))))))) (av (aL iL))) ?_
 nofun
 let Iv1:Yyq:=λi σ H'=>∃(x1 x2 x3 x4 x5 x6 x7:Option V),σ=[some (.ref a₀),x1,x2,x3,x4,x5,x6,x7]/\aH H H'
 refine⟨2,Z,by decide,by decide,cJ (lo:=0) (n:=2) Iv1 ⟨none,none,none,none,none,none,none,Z,aH.refl _⟩ ?_ ?_⟩
 ·rintro i σ HA hi ⟨x1,x2,x3,x4,x5,x6,x7,rfl,sA⟩;rw[TC];refine⟨_,Z,_,Z,a₀,ns,i,Z,sA.seq hS,λz=>?_⟩;refine⟨_,Z,_,_,Z,Z,.inl ⟨by omega,by omega⟩,_,_,Z,Z,_,100,Z,by decide,by decide,λl nz HB sB hl0 hlB hln=>?_⟩;have s0B:=sA.trans sB;refine⟨kP,λt₁ ht=>?_⟩;have n1:l≠t₁:=λz=>by subst z;rw[hlB] at ht;cases ht
  have sC:=au ht (.lst [.ref l,.int 0]);have T1:fm (upd HB t₁ (.lst [.ref l,.int 0])) t₁ l:=⟨nz,0,ah,sC _ _ hlB,n1,by omega,by omega⟩;have h0t:H t₁=none:=gv s0B ht;have s0C:=s0B.trans sC;generalize upd HB t₁ (.lst [.ref l,.int 0])=HC at T1 s0C ⊢;have sm:∀{H1 H2:Hp},aH H H1->tw [t₁] H1 H2->aH H H2:=λa b x o e=>b x o (λz=>by rw[Qj.mp z,h0t] at e;cases e) (a x o e)
  refine⟨_,Z,t₁,l,8,12,Z,T1,by decide,by decide,by decide,by decide,λv ws HD zD T2 wv wl wg=>?_⟩;have s0D:=sm s0C zD;have wo:kK ws:=⟨by omega,wg⟩;refine⟨λσ H'=>∃(v:V) (ws:List Wk),σ=[some (.ref a₀),some (.int (i:Nat)),some (.ref t₁),some v,x4,x5,x6,x7]/\aH H H'/\fu K H' v ws/\kK ws,?_,?_⟩
  ·refine⟨_,Z,Z,_,Z,?_⟩;by_cases c:i=1
   rotate_left
   ·refine cG (λz=>by injection z with z;omega) (fC ?_);exact⟨v,ws,rfl,s0D,wv,wo⟩
   refine cW (by rw[c];rfl) ?_;refine⟨_,Z,t₁,l,8,Z,T2,by omega,by omega,λr xE aE bE T3=>?_⟩;have zE:=tw.tp (H:=HD) (t:=t₁) (.lst xE);have s0E:=sm s0D zE;obtain⟨ys,et⟩:=T2.lst;have wvE:=wv.mono (aK.up (K:=K) et xE);generalize upd HD t₁ (.lst xE)=HE at T3 s0E wvE ⊢;refine⟨Z,_,Z,?_⟩;by_cases c0:r=0
   rotate_left
   ·refine cG (λz=>by injection z with z;exact c0 z) ?_;exact⟨v,ws,rfl,s0E,wvE,wo⟩
   refine cW (by rw[c0]) ?_;refine⟨_,Z,t₁,l,20,24,Z,T3,by decide,by decide,by decide,by decide,λv2 w2 HF zF T4 wv2 wl2 wg2=>?_⟩;have s0F:=sm s0E zF;obtain⟨p2,xs2,rfl,hS2,al2⟩:=wv2;have l2:=al2.len;have wtk:kK ((w2++w2).take 20):=⟨by rw[Rv];omega,λw hw=>by
    rcases QP.mp (RW hw) with z|z
    ·exact wg2 w z
    ·exact wg2 w z⟩
   refine⟨p2,xs2,2,Z,Z,hS2,by decide,by decide,by omega,λe0=>?_,λ_ lt hlt=>?_⟩
   ·subst e0
    cases al2
    refine⟨_,Z,p2,_,Z,hS2,λq HG sG sq=>?_⟩;rw[show iH ([]:List V) none (some 20)=[] from we (n:=20)] at sq;exact⟨.ref q,[],Z,s0F.trans sG,⟨q,[],Z,sq,.nil⟩,wtk⟩
   ·have sG:=au hlt (.tup (Qn 2 xs2).flatten);refine⟨_,Z,lt,_,Z,bF.of ah,λq HG sH sq=>?_⟩;have tt:=(aK.same (K:=K) sG).trans (aK.same sH);have er:(Qn 2 xs2).flatten=xs2++xs2:=by simp[SO]
    rw[er,show iH (xs2++xs2) none (some 20)=(xs2++xs2).take 20 from we (n:=20)] at sq;have al3:=al2.mono (P':=tf K HG) λ_ _ z=>z.mono tt
    exact⟨.ref q,(w2++w2).take 20,Z,(s0F.trans sG).trans sH,⟨q,_,Z,sq,b8.tk 20 (b8.app al3 al3)⟩,wtk⟩
  rintro σ HE ⟨v,ws,rfl,s0E,wv,wo⟩;refine⟨_,Z,v,_,Z,wv.deep,FK wo,?_⟩;refine⟨_,Z,v,ws,Z,wv,wo,λu s HF sF rn pF=>?_⟩;let Iv2:Yyq:=λj σ H'=>∃(y6 y7:Option V),σ=[some (.ref a₀),some (.int (i:Nat)),some (.ref t₁),some v,some (.str (Ju ws).shown),some u,y6,y7]/\aH HF H'
  refine⟨2,Z,by decide,by decide,cJ (lo:=0) (n:=2) Iv2 ⟨x6,x7,Z,aH.refl _⟩ ?_ ?_⟩
  ·rintro j σ HG hj ⟨y6,y7,rfl,sG⟩;have tG:=aK.same (K:=K) sG;have wvG:=(wv.mono (aK.same sF)).mono tG;refine⟨_,Z,v,ws,Z,wvG,wo,λf s' HH sH rn' ki pH=>?_⟩;have es:=rn'.uniq rn;subst es;have pk:=EL wo ki rn'.tn λj hj=>qq.mpr ⟨hj,by have:=(wo.at hj);omega⟩
   have tH:=aK.same (K:=K) sH;refine⟨_,Z,f,_,Z,pH.deep,FL wo pk,_,Z,u,_,Z,((pF.mono tG).mono tH).deep,FL wo pk,Z,_,Z,vV Z ?_⟩;refine⟨_,Z,_,Z,v,f,ws,_,Z,wvG.mono tH,wo,pH,pk,λHI sI=>⟨_,Z,fC ?_⟩⟩;refine⟨_,Z,v,_,Z,((wvG.mono tH).mono (aK.same sI)).deep,FK wo,_,Z,Z,_,Z,vV Z ?_⟩;exact⟨_,_,Z,(sG.trans sH).trans sI⟩
  ·rintro σ HG ⟨y6,y7,rfl,sG⟩;exact⟨_,_,_,_,_,_,_,Z,(s0E.trans sF).trans sG⟩
 ·rintro σ HA ⟨x1,x2,x3,x4,x5,x6,x7,rfl,sA⟩;exact k _
end
set_option autoImplicit true in
set_option relaxedAutoImplicit true in
open PySem.W in
theorem all_mk{l:OpenLaw}{w:Rm}{K:Frag}{h:Qo}{mg:QX->Option Value}{fa:Addr}(X:K.In h)(G:h.Ns QZ mg)(hfa:mg "law"=some (.ref fa))
  {c_Keeper:Addr} (p_Keeper:nsIn K QZ "Keeper"=some (some (.ref c_Keeper))) (x1_Keeper:plainGet K c_Keeper QX.empty=true) (x2_Keeper:hasDictIn K c_Keeper=true) (x3_Keeper:plainOver K c_Keeper=true) (x4_Keeper:findIn K (.ref c_Keeper) "__setattr__"=some (some (.builtin "object.__setattr__"))) (x5_Keeper:makesIn K c_Keeper=true) (x6_Keeper:keepIn K (.ref c_Keeper)=true)
  (na_Keeper_turn:findIn K (.ref c_Keeper) "turn"=some none) (na_Keeper_known:findIn K (.ref c_Keeper) "known"=some none) (na_Keeper_rest:findIn K (.ref c_Keeper) "rest"=some none) (na_Keeper_done:findIn K (.ref c_Keeper) "done"=some none)
  {f_Q30:Addr} {d_Q30:Qh} (h_is_whole:ef K "is_whole" Ah f_Q30 d_Q30)
  {f_Q11:Addr} {d_Q11:Qh} (h_is_tuple_of:ef K "is_tuple_of" Az f_Q11 d_Q11)
  {f_Q7:Addr} {d_Q7:Qh} (h_is_number_of:ef K "is_number_of" GZ f_Q7 d_Q7)
  {f_Q0:Addr} {d_Q0:Qh} (h_greatest_divisor:ef K "greatest_divisor" G6 f_Q0 d_Q0)
  {f_Q31:Addr} {d_Q31:Qh} (h_is_ratio:ef K "is_ratio" Ag f_Q31 d_Q31)
  {f_Q1:Addr} {d_Q1:Qh} (h_is_above_nought:ef K "is_above_nought" G5 f_Q1 d_Q1)
  {f_Q51:Addr} {d_Q51:Qh} (h_ratio:ef K "ratio" zS f_Q51 d_Q51)
  {f_Q56:Addr} {d_Q56:Qh} (h_plus:ef K "plus" zN f_Q56 d_Q56)
  {f_Q52:Addr} {d_Q52:Qh} (h_minus:ef K "minus" zR f_Q52 d_Q52)
  {f_Q53:Addr} {d_Q53:Qh} (h_times:ef K "times" zQ f_Q53 d_Q53)
  {f_Q57:Addr} {d_Q57:Qh} (h_over:ef K "over" zM f_Q57 d_Q57)
  {f_Q42:Addr} {d_Q42:Qh} (h_is_less:ef K "is_less" zX f_Q42 d_Q42)
  {f_Q45:Addr} {d_Q45:Qh} (h_lesser:ef K "lesser" zV f_Q45 d_Q45)
  {f_Q54:Addr} {d_Q54:Qh} (h_total:ef K "total" zP f_Q54 d_Q54)
  {f_Q12:Addr} {d_Q12:Qh} (h_whole_parts:ef K "whole_parts" Ay f_Q12 d_Q12)
  {f_Q43:Addr} {d_Q43:Qh} (h_is_work:ef K "is_work" zW f_Q43 d_Q43)
  {f_Q21:Addr} {d_Q21:Qh} (h_in_window:ef K "in_window" Ap f_Q21 d_Q21)
  {f_Q13:Addr} {d_Q13:Qh} (h_no_leanings:ef K "no_leanings" Ax f_Q13 d_Q13)
  {f_Q32:Addr} {d_Q32:Qh} (h_add_lean:ef K "add_lean" Af f_Q32 d_Q32)
  {f_Q8:Addr} {d_Q8:Qh} (h_all_leanings:ef K "all_leanings" GY f_Q8 d_Q8)
  {f_Q33:Addr} {d_Q33:Qh} (h_drawn_in:ef K "drawn_in" Ae f_Q33 d_Q33)
  {f_Q9:Addr} {d_Q9:Qh} (h_kept_windows:ef K "kept_windows" GX f_Q9 d_Q9)
  {f_Q58:Addr} {d_Q58:Qh} (h_held:ef K "held" zL f_Q58 d_Q58)
  {f_Q2:Addr} {d_Q2:Qh} (h_tightest_places:ef K "tightest_places" G4 f_Q2 d_Q2)
  {f_Q34:Addr} {d_Q34:Qh} (h_tightest:ef K "tightest" Ac f_Q34 d_Q34)
  {f_Q46:Addr} {d_Q46:Qh} (h_layers:ef K "layers" zU f_Q46 d_Q46)
  {f_Q4:Addr} {d_Q4:Qh} (h_layer_density:ef K "layer_density" G2 f_Q4 d_Q4)
  {f_Q10:Addr} {d_Q10:Qh} (h_layer_speeds:ef K "layer_speeds" AA f_Q10 d_Q10)
  {f_Q5:Addr} {d_Q5:Qh} (h_first_to_come:ef K "first_to_come" G1 f_Q5 d_Q5)
  {f_Q35:Addr} {d_Q35:Qh} (h_order_of:ef K "order_of" Ab f_Q35 d_Q35)
  {f_Q22:Addr} {d_Q22:Qh} (h_deal_turn:ef K "deal_turn" Ao f_Q22 d_Q22)
  {f_Q55:Addr} {d_Q55:Qh} (h_dealt:ef K "dealt" zO f_Q55 d_Q55)
  {f_Q18:Addr} {d_Q18:Qh} (h_least_plan:ef K "least_plan" As f_Q18 d_Q18)
  {f_Q6:Addr} {d_Q6:Qh} (h_waiting_works:ef K "waiting_works" G0 f_Q6 d_Q6)
  {f_Q19:Addr} {d_Q19:Qh} (h_renumbered:ef K "renumbered" Ar f_Q19 d_Q19)
  {f_Q23:Addr} {d_Q23:Qh} (h_kept_plan:ef K "kept_plan" An f_Q23 d_Q23)
  {f_Q14:Addr} {d_Q14:Qh} (h_law_cell_at:ef K "_law_cell_at" Aw f_Q14 d_Q14)
  {f_Q24:Addr} {d_Q24:Qh} (h_law_draws:ef K "_law_draws" Am f_Q24 d_Q24)
  {f_Q36:Addr} {d_Q36:Qh} (h_law_take:ef K "_law_take" Aa f_Q36 d_Q36)
  {f_Q37:Addr} {d_Q37:Qh} (h_law_made:ef K "_law_made" z9 f_Q37 d_Q37)
  {f_Q38:Addr} {d_Q38:Qh} (h_law_plus:ef K "_law_plus" z7 f_Q38 d_Q38)
  {f_Q25:Addr} {d_Q25:Qh} (h_law_minus:ef K "_law_minus" Al f_Q25 d_Q25)
  {f_Q47:Addr} {d_Q47:Qh} (h_law_by:ef K "_law_by" zT f_Q47 d_Q47)
  {f_Q15:Addr} {d_Q15:Qh} (h_law_is_less:ef K "_law_is_less" Av f_Q15 d_Q15)
  {f_Q26:Addr} {d_Q26:Qh} (h_law_total:ef K "_law_total" Ak f_Q26 d_Q26)
  {f_Q39:Addr} {d_Q39:Qh} (h_law_most:ef K "_law_most" z6 f_Q39 d_Q39)
  {f_Q27:Addr} {d_Q27:Qh} (h_law_works:ef K "_law_works" Aj f_Q27 d_Q27)
  {f_Q20:Addr} {d_Q20:Qh} (h_law_pieces:ef K "_law_pieces" Aq f_Q20 d_Q20)
  {f_Q40:Addr} {d_Q40:Qh} (h_law_gone:ef K "_law_gone" zZ f_Q40 d_Q40)
  {f_Q41:Addr} {d_Q41:Qh} (h_law_kept:ef K "_law_kept" zY f_Q41 d_Q41)
  {f_Q3:Addr} {d_Q3:Qh} (h_law_plan_right:ef K "_law_plan_right" G3 f_Q3 d_Q3)
  {f_Q59:Addr} {d_Q59:Qh} (h_law:ef K "law" zK f_Q59 d_Q59)
  {f_Q16:Addr} {d_Q16:Qh} (h_Keeper_init:C9 K c_Keeper "__init__" "Keeper.__init__" Au f_Q16 d_Q16)
  {f_Q17:Addr} {d_Q17:Qh} (h_Keeper_come:C9 K c_Keeper "come" "Keeper.come" At f_Q17 d_Q17)
  {f_Q28:Addr} {d_Q28:Qh} (h_Keeper_go:C9 K c_Keeper "go" "Keeper.go" Ai f_Q28 d_Q28)
  {f_NOUGHT:Addr} {od_NOUGHT:Option Addr} {sl_NOUGHT:Array (Option Value)} {tkNOUGHT0 tkNOUGHT1:Z5} {n_NOUGHT:Nat} (p_NOUGHT:nsIn K QZ "NOUGHT"=some (some (.ref f_NOUGHT))) (l_NOUGHT:K.lookup f_NOUGHT=some ⟨.type "tuple",od_NOUGHT,.seq #[.int (0) tkNOUGHT0,.int (1) tkNOUGHT1] n_NOUGHT,sl_NOUGHT⟩)
  {tkTURNS:Z5} (p_TURNS:nsIn K QZ "TURNS"=some (some (.int (24) tkTURNS)))
  {tkMOST_WORKS:Z5} (p_MOST_WORKS:nsIn K QZ "MOST_WORKS"=some (some (.int (20) tkMOST_WORKS)))
  {cB NB:Addr} {nmB qB:QX} {bsB:List Value} {hdB:Bool} {snB:List QX} {suB:List Value} {abB:Bool} {coB:Option Bool} {ddB:Option Addr} {j0 j1 j2 j3 j5:Option Value} {ocB:Value} {odB:Option Addr} {esB:Array XH} {nB:Nat} {slB:Array (Option Value)}
  (pB:nsIn K QZ "PaceError"=some (some (.ref cB))) (lB:K.lookup cB=some (Tl nmB qB cB NB bsB [.type "ValueError",.type "Exception",.type "BaseException",.type "object"] hdB snB suB abB coB ddB j0 j1 j2 j3 j5 "ValueError.__new__")) (lnB:K.lookup NB=some ⟨ocB,odB,.dict esB nB,slB⟩) (hsB:mz esB=true) (hnB:(nsFind esB "__init__").isNone=true)
  (cgB:specialIn K (.builtin "object.__class__") "__get__"=some (some (.builtin "getset_descriptor.__get__"))) (ctB:takesIn K (.builtin "object.__class__")=some true)
  {c_Q48 N_Q48 i_Q48:Addr} {nm_Q48 q_Q48:QX} {bs_Q48:List Value} {hd_Q48:Bool} {sn_Q48:List QX} {su_Q48:List Value} {ab_Q48:Bool} {co_Q48:Option Bool} {dd_Q48:Option Addr} {k0_Q48 k1_Q48 k2_Q48 k3_Q48 k5_Q48:Option Value} {od_Q48 an_Q48:Option Addr} {sl_Q48:Array (Option Value)} {oc_Q48 kV_Q48 dc_Q48 pm_Q48 cd_Q48 ct_Q48:Value}
  (p_Q48:nsIn K QZ "NoWork"=some (some (.ref c_Q48))) (lc_Q48:K.lookup c_Q48=some (Tl nm_Q48 q_Q48 c_Q48 N_Q48 bs_Q48 (.ref cB::[.type "ValueError",.type "Exception",.type "BaseException",.type "object"]) hd_Q48 sn_Q48 su_Q48 ab_Q48 co_Q48 dd_Q48 k0_Q48 k1_Q48 k2_Q48 k3_Q48 k5_Q48 "ValueError.__new__")) (fi_Q48:findIn K (.ref c_Q48) "__init__"=some (some (.ref i_Q48)))
  (l_Q48:K.lookup i_Q48=some ⟨oc_Q48,od_Q48,.func (fnOf "__init__" "NoWork.__init__" (dG oJ) (cY oJ) (aA oJ) .none kV_Q48 dc_Q48 pm_Q48 an_Q48 cd_Q48 ct_Q48),sl_Q48⟩) (cd_Q48_:codeIn K cd_Q48 "NoWork.__init__"=true) (ki_Q48:keepIn K (.ref i_Q48)=true) (ti_Q48:typeIn K (.ref i_Q48)=some (.type "function")) (kc_Q48:keepIn K (.ref c_Q48)=true)
  (hh_Q48:hasDictIn K c_Q48=true) (sa_Q48:findIn K (.ref c_Q48) "__setattr__"=some (some (.builtin "object.__setattr__")))
  (na_Q48_text:findIn K (.ref c_Q48) "text"=some none) (ga_Q48:findIn K (.ref c_Q48) "__getattribute__"=some (some (.builtin "BaseException.__getattribute__"))) (gn_Q48:findIn K (.ref c_Q48) "__getattr__"=some none) (cl_Q48:findIn K (.ref c_Q48) "__class__"=some (some (.builtin "object.__class__")))
  {c_Q49 N_Q49 i_Q49:Addr} {nm_Q49 q_Q49:QX} {bs_Q49:List Value} {hd_Q49:Bool} {sn_Q49:List QX} {su_Q49:List Value} {ab_Q49:Bool} {co_Q49:Option Bool} {dd_Q49:Option Addr} {k0_Q49 k1_Q49 k2_Q49 k3_Q49 k5_Q49:Option Value} {od_Q49 an_Q49:Option Addr} {sl_Q49:Array (Option Value)} {oc_Q49 kV_Q49 dc_Q49 pm_Q49 cd_Q49 ct_Q49:Value}
  (p_Q49:nsIn K QZ "NoTurn"=some (some (.ref c_Q49))) (lc_Q49:K.lookup c_Q49=some (Tl nm_Q49 q_Q49 c_Q49 N_Q49 bs_Q49 (.ref cB::[.type "ValueError",.type "Exception",.type "BaseException",.type "object"]) hd_Q49 sn_Q49 su_Q49 ab_Q49 co_Q49 dd_Q49 k0_Q49 k1_Q49 k2_Q49 k3_Q49 k5_Q49 "ValueError.__new__")) (fi_Q49:findIn K (.ref c_Q49) "__init__"=some (some (.ref i_Q49)))
  (l_Q49:K.lookup i_Q49=some ⟨oc_Q49,od_Q49,.func (fnOf "__init__" "NoTurn.__init__" (dG oI) (cY oI) (aA oI) .none kV_Q49 dc_Q49 pm_Q49 an_Q49 cd_Q49 ct_Q49),sl_Q49⟩) (cd_Q49_:codeIn K cd_Q49 "NoTurn.__init__"=true) (ki_Q49:keepIn K (.ref i_Q49)=true) (ti_Q49:typeIn K (.ref i_Q49)=some (.type "function")) (kc_Q49:keepIn K (.ref c_Q49)=true)
  (hh_Q49:hasDictIn K c_Q49=true) (sa_Q49:findIn K (.ref c_Q49) "__setattr__"=some (some (.builtin "object.__setattr__")))
  (na_Q49_text:findIn K (.ref c_Q49) "text"=some none) (ga_Q49:findIn K (.ref c_Q49) "__getattribute__"=some (some (.builtin "BaseException.__getattribute__"))) (gn_Q49:findIn K (.ref c_Q49) "__getattr__"=some none) (cl_Q49:findIn K (.ref c_Q49) "__class__"=some (some (.builtin "object.__class__")))
  {c_Q29:Addr} (p_Q29:nsIn K QZ "PaceError"=some (some (.ref c_Q29)))
  {c_Q50:Addr} (p_Q50:nsIn K QZ "NoRoom"=some (some (.ref c_Q50)))
  {c_Q44:Addr} (p_Q44:nsIn K QZ "NoRatio"=some (some (.ref c_Q44)))
  (z_abs:nsIn K QZ "abs"=some none)
  (z_all:nsIn K QZ "all"=some none)
  (z_any:nsIn K QZ "any"=some none)
  (z_bool:nsIn K QZ "bool"=some none)
  (z_enumerate:nsIn K QZ "enumerate"=some none)
  (z_int:nsIn K QZ "int"=some none)
  (z_isinstance:nsIn K QZ "isinstance"=some none)
  (z_len:nsIn K QZ "len"=some none)
  (z_list:nsIn K QZ "list"=some none)
  (z_max:nsIn K QZ "max"=some none)
  (z_min:nsIn K QZ "min"=some none)
  (z_range:nsIn K QZ "range"=some none)
  (z_repr:nsIn K QZ "repr"=some none)
  (z_sorted:nsIn K QZ "sorted"=some none)
  (z_sum:nsIn K QZ "sum"=some none)
  (z_tuple:nsIn K QZ "tuple"=some none)
  : ∃fd:Qh,(∀(s:Qc) (v:Value),WS s fd ⟨[v],[]⟩ [("_law_script",v)])/\∀base:Qo,K.In base->base.Ns QZ mg->bC l.prog w K mg base dU 9 fa fd ["_law_script"] (pS K):=by
 have e:=hfa.symm.trans (mg_of X G h_law.p)
 cases e
 obtain⟨_,_,_,_,_,_,_,_,_,rfl,_,_⟩:=h_law.F.ex;have F_Q48:=qC (st:=oJ) l_Q48 cd_Q48_ ki_Q48;have F_Q49:=qC (st:=oI) l_Q49 cd_Q49_ ki_Q49;have T:eJ K mg ⟨f_Q30,_,f_Q11,_,f_Q7,_,f_Q0,_,f_Q31,_,f_Q1,_,f_Q51,_,f_Q56,_,f_Q52,_,f_Q53,_,f_Q57,_,f_Q42,_,f_Q45,_,f_Q54,_,f_Q12,_,f_Q43,_,f_Q21,_,f_Q13,_,f_Q32,_,f_Q8,_,f_Q33,_,f_Q9,_,f_Q58,_,f_Q2,_,f_Q34,_,f_Q46,_,f_Q4,_,f_Q10,_,f_Q5,_,f_Q35,_,f_Q22,_,f_Q55,_,f_Q18,_,f_Q6,_,f_Q19,_,f_Q23,_,f_Q14,_,f_Q24,_,f_Q36,_,f_Q37,_,f_Q38,_,f_Q25,_,f_Q47,_,f_Q15,_,f_Q26,_,f_Q39,_,f_Q27,_,f_Q20,_,f_Q40,_,f_Q41,_,f_Q3,_,fa,_,f_Q16,_,f_Q17,_,f_Q28,_,c_Keeper,f_NOUGHT,tkTURNS,tkMOST_WORKS,cB,c_Q48,i_Q48,_,c_Q49,i_Q49,_,c_Q29,c_Q50,c_Q44⟩:={
  F_Q30:=h_is_whole.F,b_Q30:=h_is_whole.b1,m_Q30:=mg_of X G h_is_whole.p,
  F_Q11:=h_is_tuple_of.F,b_Q11:=h_is_tuple_of.b2,m_Q11:=mg_of X G h_is_tuple_of.p,
  F_Q7:=h_is_number_of.F,b_Q7:=h_is_number_of.b2,m_Q7:=mg_of X G h_is_number_of.p,
  F_Q0:=h_greatest_divisor.F,b_Q0:=h_greatest_divisor.b2,m_Q0:=mg_of X G h_greatest_divisor.p,
  F_Q31:=h_is_ratio.F,b_Q31:=h_is_ratio.b1,m_Q31:=mg_of X G h_is_ratio.p,
  F_Q1:=h_is_above_nought.F,b_Q1:=h_is_above_nought.b1,m_Q1:=mg_of X G h_is_above_nought.p,
  F_Q51:=h_ratio.F,b_Q51:=h_ratio.b2,m_Q51:=mg_of X G h_ratio.p,
  F_Q56:=h_plus.F,b_Q56:=h_plus.b2,m_Q56:=mg_of X G h_plus.p,
  F_Q52:=h_minus.F,b_Q52:=h_minus.b2,m_Q52:=mg_of X G h_minus.p,
  F_Q53:=h_times.F,b_Q53:=h_times.b2,m_Q53:=mg_of X G h_times.p,
  F_Q57:=h_over.F,b_Q57:=h_over.b2,m_Q57:=mg_of X G h_over.p,
  F_Q42:=h_is_less.F,b_Q42:=h_is_less.b2,m_Q42:=mg_of X G h_is_less.p,
  F_Q45:=h_lesser.F,b_Q45:=h_lesser.b2,m_Q45:=mg_of X G h_lesser.p,
  F_Q54:=h_total.F,b_Q54:=h_total.b1,m_Q54:=mg_of X G h_total.p,
  F_Q12:=h_whole_parts.F,b_Q12:=h_whole_parts.b1,m_Q12:=mg_of X G h_whole_parts.p,
  F_Q43:=h_is_work.F,b_Q43:=h_is_work.b1,m_Q43:=mg_of X G h_is_work.p,
  F_Q21:=h_in_window.F,b_Q21:=h_in_window.b2,m_Q21:=mg_of X G h_in_window.p,
  F_Q13:=h_no_leanings.F,b_Q13:=h_no_leanings.b1,m_Q13:=mg_of X G h_no_leanings.p,
  F_Q32:=h_add_lean.F,b_Q32:=h_add_lean.b2,m_Q32:=mg_of X G h_add_lean.p,
  F_Q8:=h_all_leanings.F,b_Q8:=h_all_leanings.b2,m_Q8:=mg_of X G h_all_leanings.p,
  F_Q33:=h_drawn_in.F,b_Q33:=h_drawn_in.b1,m_Q33:=mg_of X G h_drawn_in.p,
  F_Q9:=h_kept_windows.F,b_Q9:=h_kept_windows.b2,m_Q9:=mg_of X G h_kept_windows.p,
  F_Q58:=h_held.F,b_Q58:=h_held.b3,m_Q58:=mg_of X G h_held.p,
  F_Q2:=h_tightest_places.F,b_Q2:=h_tightest_places.b3,m_Q2:=mg_of X G h_tightest_places.p,
  F_Q34:=h_tightest.F,b_Q34:=h_tightest.b2,m_Q34:=mg_of X G h_tightest.p,
  F_Q46:=h_layers.F,b_Q46:=h_layers.b1,m_Q46:=mg_of X G h_layers.p,
  F_Q4:=h_layer_density.F,b_Q4:=h_layer_density.b2,m_Q4:=mg_of X G h_layer_density.p,
  F_Q10:=h_layer_speeds.F,b_Q10:=h_layer_speeds.b1,m_Q10:=mg_of X G h_layer_speeds.p,
  F_Q5:=h_first_to_come.F,b_Q5:=h_first_to_come.b3,m_Q5:=mg_of X G h_first_to_come.p,
  F_Q35:=h_order_of.F,b_Q35:=h_order_of.b2,m_Q35:=mg_of X G h_order_of.p,
  F_Q22:=h_deal_turn.F,b_Q22:=h_deal_turn.b5,m_Q22:=mg_of X G h_deal_turn.p,
  F_Q55:=h_dealt.F,b_Q55:=h_dealt.b3,m_Q55:=mg_of X G h_dealt.p,
  F_Q18:=h_least_plan.F,b_Q18:=h_least_plan.b1,m_Q18:=mg_of X G h_least_plan.p,
  F_Q6:=h_waiting_works.F,b_Q6:=h_waiting_works.b3,m_Q6:=mg_of X G h_waiting_works.p,
  F_Q19:=h_renumbered.F,b_Q19:=h_renumbered.b2,m_Q19:=mg_of X G h_renumbered.p,
  F_Q23:=h_kept_plan.F,b_Q23:=h_kept_plan.b1,m_Q23:=mg_of X G h_kept_plan.p,
  F_Q14:=h_law_cell_at.F,b_Q14:=h_law_cell_at.b2,m_Q14:=mg_of X G h_law_cell_at.p,
  F_Q24:=h_law_draws.F,b_Q24:=h_law_draws.b2,m_Q24:=mg_of X G h_law_draws.p,
  F_Q36:=h_law_take.F,b_Q36:=h_law_take.b2,m_Q36:=mg_of X G h_law_take.p,
  F_Q37:=h_law_made.F,b_Q37:=h_law_made.b2,m_Q37:=mg_of X G h_law_made.p,
  F_Q38:=h_law_plus.F,b_Q38:=h_law_plus.b2,m_Q38:=mg_of X G h_law_plus.p,
  F_Q25:=h_law_minus.F,b_Q25:=h_law_minus.b2,m_Q25:=mg_of X G h_law_minus.p,
  F_Q47:=h_law_by.F,b_Q47:=h_law_by.b2,m_Q47:=mg_of X G h_law_by.p,
  F_Q15:=h_law_is_less.F,b_Q15:=h_law_is_less.b2,m_Q15:=mg_of X G h_law_is_less.p,
  F_Q26:=h_law_total.F,b_Q26:=h_law_total.b1,m_Q26:=mg_of X G h_law_total.p,
  F_Q39:=h_law_most.F,b_Q39:=h_law_most.b1,m_Q39:=mg_of X G h_law_most.p,
  F_Q27:=h_law_works.F,b_Q27:=h_law_works.b3,m_Q27:=mg_of X G h_law_works.p,
  F_Q20:=h_law_pieces.F,b_Q20:=h_law_pieces.b2,m_Q20:=mg_of X G h_law_pieces.p,
  F_Q40:=h_law_gone.F,b_Q40:=h_law_gone.b1,m_Q40:=mg_of X G h_law_gone.p,
  F_Q41:=h_law_kept.F,b_Q41:=h_law_kept.b1,m_Q41:=mg_of X G h_law_kept.p,
  F_Q3:=h_law_plan_right.F,b_Q3:=h_law_plan_right.b2,m_Q3:=mg_of X G h_law_plan_right.p,
  F_Q59:=h_law.F,b_Q59:=h_law.b1,m_Q59:=mg_of X G h_law.p,
  F_Q16:=h_Keeper_init.F,b_Q16:=h_Keeper_init.b1,K_Keeper:=⟨x5_Keeper,h_Keeper_init.p,h_Keeper_init.fn,x6_Keeper⟩,
  F_Q17:=h_Keeper_come.F,b_Q17:=h_Keeper_come.b3,M_Keeper_come:=h_Keeper_come.meth,
  F_Q28:=h_Keeper_go.F,b_Q28:=h_Keeper_go.b1,M_Keeper_go:=h_Keeper_go.meth,
  m_Keeper:=mg_of X G p_Keeper,cl_Keeper:=⟨x1_Keeper,x2_Keeper,x3_Keeper,x4_Keeper⟩,n_Keeper_turn:=na_Keeper_turn,n_Keeper_known:=na_Keeper_known,n_Keeper_rest:=na_Keeper_rest,n_Keeper_done:=na_Keeper_done,
  m_NOUGHT:=mg_of X G p_NOUGHT,q_NOUGHT:=λH=>.inr ⟨_,_,_,l_NOUGHT,Z,Z,kP,(.cons ⟨_,Z⟩ (.cons ⟨_,Z⟩ .nil))⟩,
  m_TURNS:=mg_of X G p_TURNS,
  m_MOST_WORKS:=mg_of X G p_MOST_WORKS,
  X_Q48:=Ft lc_Q48 lB lnB hsB hnB fi_Q48 ti_Q48 kc_Q48 hh_Q48 sa_Q48,F_Q48:=F_Q48,b_Q48:=Oe F_Q48,m_Q48:=mg_of X G p_Q48,n_Q48_text:=na_Q48_text,g_Q48:=⟨ga_Q48,gn_Q48,cl_Q48,cgB,ctB⟩,
  X_Q49:=Ft lc_Q49 lB lnB hsB hnB fi_Q49 ti_Q49 kc_Q49 hh_Q49 sa_Q49,F_Q49:=F_Q49,b_Q49:=Oe F_Q49,m_Q49:=mg_of X G p_Q49,n_Q49_text:=na_Q49_text,g_Q49:=⟨ga_Q49,gn_Q49,cl_Q49,cgB,ctB⟩,
  m_Q29:=mg_of X G p_Q29,
  m_Q50:=mg_of X G p_Q50,
  m_Q44:=mg_of X G p_Q44,
  z_abs:=mg_none_of X G z_abs,z_all:=mg_none_of X G z_all,z_any:=mg_none_of X G z_any,z_bool:=mg_none_of X G z_bool,z_enumerate:=mg_none_of X G z_enumerate,z_int:=mg_none_of X G z_int,z_isinstance:=mg_none_of X G z_isinstance,z_len:=mg_none_of X G z_len,z_list:=mg_none_of X G z_list,z_max:=mg_none_of X G z_max,z_min:=mg_none_of X G z_min,z_range:=mg_none_of X G z_range,z_repr:=mg_none_of X G z_repr,z_sorted:=mg_none_of X G z_sorted,z_sum:=mg_none_of X G z_sum,z_tuple:=mg_none_of X G z_tuple}
 exact⟨_,λs v=>.of_eq Z,λbase _ _=>Ih T⟩
theorem walk{l:Zl}{loose:List QX}{XP:(QX->Option Value)->Qo->Prop}{YP:Rm->Qo->Prop}{d:DefRec}{K:Params->P4}(hn:l.most=some 63)(hdf:d.params.defaults=[])
  (hY:∀(w:Rm) (h:Qo),YP w h->(K w.params).In h)
  (F:∀(w:Rm) (mg:QX->Option Value) (fa:Addr) (h:Qo),(K w.params).In h->h.Ns QZ mg->mg d.name=some (.ref fa)→
   ∃fd:Qh,(∀(s:Qc) (u:Value),WS s fd ⟨[u],[]⟩ [("_law_script",u)])/\∀base:Qo,(K w.params).In base->base.Ns QZ mg->bC l.prog w (K w.params) mg base dU 9 fa fd ["_law_script"] (pS (K w.params))):
  ZO q loose XP YP l.row.toRowW d [] (λf vs=>ZE f vs):=
 L2.walk_of (n:=63) (k:=9) (x := "_law_script") (CX:=λ_=>dU) (sp:=λw=>pS (K w.params)) hn (by decide) hdf ⟨Z,by decide,by decide,Z⟩ hY F (λ_ _ a ns hl _ hS=>⟨a,ns,Z,hS,hl,λ_=>Z⟩) λ_ _ _ _ _ z=>z
end My
open PySem PySem.W PyProof.Rows
set_option maxRecDepth 100000 in
set_option maxHeartbeats 0 in
theorem PySem.Challenge.cw_paceplan_k66_kept_plans_holds : PySem.Challenge.rw_paceplan_k66_kept_plans.Holds := by
 w_on;refine HWtop ?_
 k_fill
 refine My.walk (l:=PySem.Challenge.rw_paceplan_k66_kept_plans) rfl rfl (fun w h Y=>PySem.W.kIn_of Y) ?F
 case F=>
  intro w mg fa h KX G hmg
  refine' My.all_mk KX G hmg ?q0 ?q1 ?q2 ?q3 ?q4 ?q5 ?q6 ?q7 ?q8 ?q9 ?q10 ?q11 ?q12 ?q13 ?q14 ?q15 ?q16 ?q17 ?q18 ?q19 ?q20 ?q21 ?q22 ?q23 ?q24 ?q25 ?q26 ?q27 ?q28 ?q29 ?q30 ?q31 ?q32 ?q33 ?q34 ?q35 ?q36 ?q37 ?q38 ?q39 ?q40 ?q41 ?q42 ?q43 ?q44 ?q45 ?q46 ?q47 ?q48 ?q49 ?q50 ?q51 ?q52 ?q53 ?q54 ?q55 ?q56 ?q57 ?q58 ?q59 ?q60 ?q61 ?q62 ?q63 ?q64 ?q65 ?q66 ?q67 ?q68 ?q69 ?q70 ?q71 ?q72 ?q73 ?q74 ?q75 ?q76 ?q77 ?q78 ?q79 ?q80 ?q81 ?q82 ?q83 ?q84 ?q85 ?q86 ?q87 ?q88 ?q89 ?q90 ?q91 ?q92 ?q93 ?q94 ?q95 ?q96 ?q97 ?q98 ?q99 ?q100 ?q101 ?q102 ?q103 ?q104 ?q105 ?q106 ?q107 ?q108 ?q109 ?q110 ?q111 ?q112 ?q113 ?q114 ?q115 ?q116 ?q117 ?q118 ?q119 ?q120 ?q121 ?q122 ?q123
  (case q0|q1|q2|q3|q4|q5|q6|q7|q8|q9|q10=>k_is)
  (case q11|q12|q13|q14|q15|q16|q17|q18|q19|q20|q21|q22|q23|q24|q25|q26|q27|q28|q29|q30|q31|q32|q33|q34|q35|q36|q37|q38|q39|q40|q41|q42|q43|q44|q45|q46|q47|q48|q49|q50|q51|q52|q53|q54|q55|q56|q57|q58|q59|q60|q61|q62=>refine' B.isF ?a ?b ?c ?d;(case a=>k_is);(case b=>k_is);(case c=>k_is);(case d=>k_is))
  (case q63|q64|q65=>refine' B.isM ?a ?e ?b ?c ?d;(case a=>k_is);(case e=>k_is);(case b=>k_is);(case c=>k_is);(case d=>k_is))
  (case q66|q67|q68|q69|q70|q71|q72=>k_is)
  (case q73|q74=>rfl)
  (case q75|q76|q77|q78|q79|q80|q81|q82|q83|q84|q85|q86|q87|q88|q89|q90|q91|q92|q93|q94|q95|q96|q97|q98|q99|q100|q101|q102|q103|q104|q105|q106|q107|q108|q109|q110|q111|q112|q113|q114|q115|q116|q117|q118|q119|q120|q121|q122|q123=>k_is)
