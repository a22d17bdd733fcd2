import PyProof.Rows.All
import KE.RegKIsAll
import KE.RegKTryMore
import KE.KNestM
import KE.KSortKey
import KE.KLam
import PySem.Challenge.RW_paceplan_k62_whole_no_plan_of_hands_has
set_option Elab.async false
set_option linter.all false
set_option maxRecDepth 100000
set_option genSizeOf false
set_option compiler.extract_closed false
set_option autoImplicit true
set_option relaxedAutoImplicit true
namespace HP
open PySem
abbrev S:=Stmt
noncomputable def b:=PySem.Challenge.pw_paceplan_k62_whole_no_plan_of_hands_has.main.body
local macro_rules
 | `(tactic| o_head $n:term)=>`(tactic| (refine (?f:∀ s,b[$n]?=some s->_) _ rfl;exact fun s _=>s))
noncomputable def c0:S:=by o_head 0
noncomputable def c1:S:=by o_head 1
noncomputable def c2:S:=by o_head 2
noncomputable def c3:S:=by o_head 3
noncomputable def c4:S:=by o_head 4
noncomputable def c5:S:=by o_head 5
noncomputable def c6:S:=by o_head 6
noncomputable def c7:S:=by o_head 7
noncomputable def c8:S:=by o_head 8
noncomputable def c9:S:=by o_head 9
noncomputable def c10:S:=by o_head 10
noncomputable def c11:S:=by o_head 11
noncomputable def c12:S:=by o_head 12
noncomputable def c13:S:=by o_head 13
noncomputable def c14:S:=by o_head 14
noncomputable def c15:S:=by o_head 15
noncomputable def c16:S:=by o_head 16
noncomputable def c17:S:=by o_head 17
noncomputable def c18:S:=by o_head 18
noncomputable def c19:S:=by o_head 19
noncomputable def c20:S:=by o_head 20
noncomputable def c21:S:=by o_head 21
noncomputable def c22:S:=by o_head 22
noncomputable def c23:S:=by o_head 23
noncomputable def c24:S:=by o_head 24
noncomputable def c25:S:=by o_head 25
noncomputable def c26:S:=by o_head 26
noncomputable def c27:S:=by o_head 27
noncomputable def c28:S:=by o_head 28
noncomputable def c29:S:=by o_head 29
noncomputable def c30:S:=by o_head 30
noncomputable def c31:S:=by o_head 31
noncomputable def c32:S:=by o_head 32
noncomputable def c33:S:=by o_head 33
noncomputable def c34:S:=by o_head 34
noncomputable def c35:S:=by o_head 35
noncomputable def c36:S:=by o_head 36
noncomputable def c37:S:=by o_head 37
noncomputable def c38:S:=by o_head 38
noncomputable def c39:S:=by o_head 39
noncomputable def c40:S:=by o_head 40
noncomputable def c41:S:=by o_head 41
noncomputable def c42:S:=by o_head 42
noncomputable def c43:S:=by o_head 43
noncomputable def c44:S:=by o_head 44
noncomputable def c45:S:=by o_head 45
noncomputable def c46:S:=by o_head 46
noncomputable def c47:S:=by o_head 47
noncomputable def c48:S:=by o_head 48
noncomputable def c49:S:=by o_head 49
noncomputable def c50:S:=by o_head 50
noncomputable def c51:S:=by o_head 51
noncomputable def c52:S:=by o_head 52
noncomputable def c53:S:=by o_head 53
noncomputable def c54:S:=by o_head 54
noncomputable def c55:S:=by o_head 55
noncomputable def c56:S:=by o_head 56
noncomputable def c57:S:=by o_head 57
noncomputable def c58:S:=by o_head 58
noncomputable def c59:S:=by o_head 59
noncomputable def c60:S:=by o_head 60
noncomputable def c61:S:=by o_head 61
noncomputable def c62:S:=by o_head 62
noncomputable def c63:S:=by o_head 63
noncomputable def c64:S:=by o_head 64
noncomputable def c65:S:=by o_head 65
noncomputable def c66:S:=by o_head 66
noncomputable def c67:S:=by o_head 67
noncomputable def c68:S:=by o_head 68
noncomputable def c69:S:=by o_head 69
noncomputable def c70:S:=by o_head 70
noncomputable def c71:S:=by o_head 71
noncomputable def t63:List S:=c63::c64::c65::c66::c67::c68::c69::c70::c71::[]
noncomputable def t54:List S:=c54::c55::c56::c57::c58::c59::c60::c61::c62::t63
noncomputable def t45:List S:=c45::c46::c47::c48::c49::c50::c51::c52::c53::t54
noncomputable def t36:List S:=c36::c37::c38::c39::c40::c41::c42::c43::c44::t45
noncomputable def t27:List S:=c27::c28::c29::c30::c31::c32::c33::c34::c35::t36
noncomputable def t18:List S:=c18::c19::c20::c21::c22::c23::c24::c25::c26::t27
noncomputable def t9:List S:=c9::c10::c11::c12::c13::c14::c15::c16::c17::t18
noncomputable def t0:List S:=c0::c1::c2::c3::c4::c5::c6::c7::c8::t9
noncomputable def s:Scope:=by refine (?f:∀ s,PySem.Challenge.pw_paceplan_k62_whole_no_plan_of_hands_has.main=⟨_,s,_,_,_⟩->_) _ rfl;exact fun s _=>s
noncomputable def p:Program:=by
 refine (?f:∀ l s a f m ms ps ab h g,PySem.Challenge.pw_paceplan_k62_whole_no_plan_of_hands_has=Program.mk ⟨l,s,a,f,m⟩ ms ps ab h g->_) _ _ _ _ _ _ _ _ _ _ rfl
 exact fun _ _ a f m ms ps ab h g _=>⟨⟨t0,s,a,f,m⟩,ms,ps,ab,h,g⟩
theorem e:PySem.Challenge.pw_paceplan_k62_whole_no_plan_of_hands_has=p:=by kernel_rfl
end HP
name_quick tw9752939899671020600 for HP.p by HP.e
theorem PySem.W.Fast.te9752939899671020600:PySem.Challenge.pw_paceplan_k62_whole_no_plan_of_hands_has=PySem.W.Fast.tw9752939899671020600:=PySem.W.Fast.tw9752939899671020600_eq
theorem Ht {α β γ:Type} {o:Option α} {f:α->β} {g:α->γ} {a:β} {b:γ} (h1:o.map f=some a) (h2:o.map g=some b):o.map (fun s=>(f s,g s))=some (a,b):=by
 cases o with
 | none=>cases h1
 | some x=>cases h1;cases h2;rfl
namespace HW
open PySem
def keep:List Nat:=[1,3,4,5,7,8,9,10,11,12,13,14,15,16,17,18,19,21,22,23,24,25,26,27,28,29,30,31,33,34,36,38,39,40,41,43,44,45,46,47,48,49,51,52,53,54,55,56,57,58,59,60,61,62,63,64,65,66,67,68,69,70,71]
def V:Program:=PySem.W.view PySem.Challenge.pw_paceplan_k62_whole_no_plan_of_hands_has keep
end HW
section HWs
open PySem PySem.W PyProof.Rows
set_option maxHeartbeats 0
abbrev HWe(w:World):=openEnds treeTable PySem.Challenge.rw_paceplan_k62_whole_no_plan_of_hands_has.row.prog w 6050
abbrev HWo:=fun s:Shared=>openSeen HW.V [] (importedModules PySem.Challenge.rw_paceplan_k62_whole_no_plan_of_hands_has.row.prog.main.body) (fun s=>xlAt HW.V [] s && recOk PySem.Challenge.rw_paceplan_k62_whole_no_plan_of_hands_has.row.records s) true s
local macro_rules
 | `(tactic| nofun)=>`(tactic| (intro w;delta HWe HWo openEnds fencedOpening topFrom;rw [PySem.W.Fast.te14364793385576792824,PySem.W.Fast.te14082659384304107361,PySem.W.Fast.te10274390034422433532,PySem.W.Fast.te1435165496053646825,PySem.W.Fast.te14289696077712309145,PySem.W.Fast.te4187177175401517315];kernel_rfl))
theorem HW0 {α β γ δ ε ζ η θ:Type}{o:Option α}{f:α->β×γ×δ×ε×ζ×η×θ}{x:β×γ×δ×ε×ζ×η×θ}(h1:o.map (fun s=>match f s with|(a,_)=>a)=some x.1)(h2:o.map (fun s=>match f s with|(_,a,_)=>a)=some x.2.1)(h3:o.map (fun s=>match f s with|(_,_,a,_)=>a)=some x.2.2.1)(h4:o.map (fun s=>match f s with|(_,_,_,a,_)=>a)=some x.2.2.2.1)(h5:o.map (fun s=>match f s with|(_,_,_,_,a,b,_)=>(a,b))=some (x.2.2.2.2.1,x.2.2.2.2.2.1))(h6:o.map (fun s=>match f s with|(_,_,_,_,_,_,a)=>a)=some x.2.2.2.2.2.2):o.map f=some x:=by
 cases o with
 | none=>cases h1
 | some y=>
  have e:=Option.some.inj h5
  exact congrArg some (Prod.ext (Option.some.inj h1) (Prod.ext (Option.some.inj h2) (Prod.ext (Option.some.inj h3) (Prod.ext (Option.some.inj h4) (Prod.ext (congrArg (fun p=>p.1) e) (Prod.ext (congrArg (fun p=>p.2) e) (Option.some.inj h6)))))))
theorem HW5:∀ w,(HWe w).map (fun s=>match HWo s with|(_,_,_,_,a,b,_)=>(a,b))=some ((openGood HW.V []).2.2.2.2.1,(openGood HW.V []).2.2.2.2.2.1):=by nofun
theorem HW1:∀ w,(HWe w).map (fun s=>match HWo s with|(a,_)=>a)=some (openGood HW.V []).1:=by nofun
theorem HW4:∀ w,(HWe w).map (fun s=>match HWo s with|(_,_,_,a,_)=>a)=some (openGood HW.V []).2.2.2.1:=by nofun
theorem HW3:∀ w,(HWe w).map (fun s=>match HWo s with|(_,_,a,_)=>a)=some (openGood HW.V []).2.2.1:=by nofun
theorem HW2:∀ w,(HWe w).map (fun s=>match HWo s with|(_,a,_)=>a)=some (openGood HW.V []).2.1:=by nofun
theorem HW6:∀ w,(HWe w).map (fun s=>match HWo s with|(_,_,_,_,_,_,a)=>a)=some (openGood HW.V []).2.2.2.2.2.2:=by nofun
theorem HWa:∀ w,(HWe w).map HWo=some (openGood HW.V []):=fun w=>HW0 (HW1 w) (HW2 w) (HW3 w) (HW4 w) (HW5 w) (HW6 w)
local macro_rules
 | `(tactic| o_head $H:term) => `(tactic| (
   refine holds_open (q:=HW.V) (loose:=[]) (N:=6050)
    (Xt:=fun s=>xlAt HW.V [] s && recOk (RowW.records (OpenRow.toRowW (OpenLaw.row PySem.Challenge.rw_paceplan_k62_whole_no_plan_of_hands_has))) s)
    (XP:=XL HW.V []) (Yf:=Hook.obs $H) (Ya:=Hook.val $H) (YP:=Hook.says $H)
    ?hl (Hook.of $H) (Hook.keeps $H)
    (fun s e=>xl_of s (Bool.and_eq_true_iff.mp e).1) XL.keeps
    (by rfl) (by rfl) (by rfl)
    (fun s e=>recFacts_of (Bool.and_eq_true_iff.mp e).2) (by rfl) (by assumption) (by decide +kernel)
    ⟨rfl,rfl,rfl,rfl,rfl,by decide +kernel⟩ ?hw ?hc
   (case hl=>
    intro w;refine Ht (HWa w) ?_;delta openEnds fencedOpening topFrom;rw [PySem.W.Fast.te14364793385576792824,PySem.W.Fast.te14082659384304107361,PySem.W.Fast.te10274390034422433532,PySem.W.Fast.te1435165496053646825,PySem.W.Fast.te14289696077712309145]
    kernel_rfl)))
open_top HWtop for PySem.Challenge.rw_paceplan_k62_whole_no_plan_of_hands_has
end HWs
open Array renaming length_toList→Tq,getElem?_eq_some_iff→Ud,mem_toList_iff→Yj,getElem_mem→Zx
open Bool renaming false_ne_true→Rn,eq_iff_iff→Uk,and_eq_true→Vj,false_and→VM,or_true→WD,and_true→Xr,and_false→Yu,or_false→YJ,false_or→YL,false_eq_true→Y0,not_eq_true'→ZB,not_true→aao,and_comm→aav
open Classical renaming byContradiction→Q9,propDecidable→UP,choose_spec→VZ,choose→XT
open False renaming elim→Sn
open ForInStep renaming yield→Wm
open Int renaming gcd→Rf,mul_ediv_cancel_left→Ru,le_of_lt→Ry,mul_pos→RG,eq_ofNat_of_zero_le→R3,le_of_dvd→Sh,natCast_dvd_natCast→SL,mul_le_mul_of_nonneg_right→SR,mul_le_mul_of_nonneg_left→SW,zero_add→S8,natAbs_mul→Tk,emod_nonneg→Tt,emod_lt_of_pos→Tv,gcd_comm→Tx,le_refl→TF,ediv_nonneg→TL,mul_lt_mul_of_pos_right→TQ,mul_comm→TR,ediv_pos_of_pos_of_dvd→Uc,toNat_natCast→Us,gcd_dvd_right→Ut,dvd_trans→Uz,ediv_le_self→UQ,natAbs_dvd_natAbs→U6,fdiv_eq_ediv_of_nonneg→Va,eq_of_mul_eq_mul_right→Ve,mul_nonneg→Vf,le_trans→Vk,gcd_ediv_gcd_ediv_gcd→Vm,natAbs_neg→VS,mul_zero→VU,mul_ne_zero→Wn,gcd_add_mul_right_right→WC,dvd_refl→WH,lt_of_mul_lt_mul_right→WW,le_of_mul_le_mul_right→WY,pow_zero→X2,lt_or_eq_of_le→YS,gcd_eq_one_iff→YT,natAbs_natCast→YV,natCast_nonneg→Y1,ediv_one→Zi,natAbs_add_le→Zn,gcd_mul_right→Zo,add_zero→Zy,gcd_dvd_left→ZK,natCast_mul→ZY
open LawfulBEq renaming eq_of_beq→XH
open List renaming getElem?_eq_getElem→QH,length_map→QK,mem_of_getElem?→QL,range→QM,getElem?_eq_some_iff→QN,mem_cons_self→QV,mem_cons_of_mem→QX,mem_map→QZ,replicate→Q0,getD_eq_getElem?_getD→Q1,mem_singleton→Q2,mem_filter→Q3,getElem?_map→Q4,mem_range→Q5,length_append→Q8,map_append→Rb,mem_append→Rc,mem_append_right→Rh,getElem_mem→Ri,mem_cons→Rm,size_toArray→Rp,map_cons→Rr,take_add_one→Rt,length_range→Rx,length_take→RD,nodup_cons→RJ,mem_append_left→RN,map_map→RO,getElem?_append_left→RQ,length_cons→RU,take_length→RW,filter_cons_of_pos→RY,length_replicate→R0,append_nil→R7,pairwise_iff_getElem→R8,getElem?_of_mem→Sb,sum_cons→Sc,length_singleton→Sd,filter_eq_self→Sg,getElem?_set_ne→Si,filter_congr→Sj,filter_append→Sm,filter_cons_of_neg→Sq,mem_of_mem_drop→Sw,mem_of_mem_take→Sx,mem_iff_getElem→Sy,take_of_length_le→SC,nodup_nil→SG,pairwise_cons→SN,getElem?_set_self→SQ,getElem?_replicate_of_lt→SX,range_succ→S7,sum_append→S9,filter_filter→Ta,getElem?_append_right→Tj,filter_eq_nil_iff→Tp,getElem?_range→Tr,length_set→Ts,nodup_append→TH,getElem_inj→TY,all_eq_true→T7,mem_replicate→Uf,filter_nil→Ul,append_assoc→Uv,Pairwise→Uy,length_pos_iff→UE,getElem?_replicate→UI,length_drop→UJ,not_mem_nil→UK,getElem?_cons_succ→UL,getElem_map→UN,Perm→UO,nodup_range→UR,mem_flatMap→US,Nodup→U1,nil_append→U3,find?_cons→U4,any_cons→U5,take_append_drop→U7,length_filter_le→U8,take_zero→Vg,drop_eq_getElem_cons→Vn,mem_or_eq_of_mem_set→Vo,filter_sublist→Vs,getElem?_take_of_lt→Vv,mem_filterMap→VE,lookup→VH,pairwise_singleton→VJ,length_eq_zero_iff→VL,cons_append→Wb,filter_cons→Wc,any_eq_true→We,filter_map→Wo,dropLast_concat_getLast→Wq,filterMap_cons→Ws,countP_eq_zero→Wu,map_congr_left→Wv,map_id'→WI,map_set→WJ,contains_cons→WV,isEmpty_eq_false_iff→Xb,any_eq_false→Xf,pairwise_map→Xk,foldl_append→Xl,countP_cons_of_pos→XI,getElem?_cons_zero→XQ,ext_getElem→XR,perm_middle→XS,map_nil→X0,range_succ_eq_map→X4,length_pos_of_mem→X6,of_mem_zip→X9,foldl_cons→Yb,getElem?_eq_none→Yh,length→Yl,drop_zero→Yr,map_id→Ys,perm_cons_erase→Yw,replicate_succ→YE,getElem_range→YZ,take_sublist→Zh,getElem_take→ZC,lookup_cons→ZJ,sublist_nil→ZL,length_nil→Z0,foldl→aag,map→aak,map_take→aaw,map_drop→aax
open List.Nodup renaming sublist→W0
open List.Pairwise renaming filter→Wh,imp_of_mem→Xs,nil→Zl
open List.Perm renaming cons_inv→UZ,refl→WZ,swap→aai
open Nat renaming le_refl→QY,lt_of_lt_of_le→Q7,zero_le→Rq,le_trans→RC,lt_of_le_of_lt→RH,ne_of_lt→RZ,pow_le_pow_right→Sa,lt_irrefl→Ss,lt_succ_self→SH,mul_le_mul_right→Tc,dvd_refl→To,le_succ→Tz,not_lt_zero→TK,le_of_lt→Up,ne_of_gt→Ur,mul_le_mul_left→UC,le_of_eq→UV,add_le_add_left→Vq,min_eq_left→VB,lt_succ_of_lt→VR,min_eq_right→Wd,lt_trans→WB,add_sub_cancel→Xa,succ_le_succ→XN,pow_succ→X1,sub_add_cancel→YY,add_zero→Zs,sub_zero→Zt,sub_self→ZA,min_le_right→ZH,pow_add→ZP,log2_lt→ZQ,succ→aae
open Ne renaming symm→SO
open Option renaming some→Su,map_eq_some_iff→Tn,isSome_iff_exists→Vu,isSome_map→Xj,isSome_some→YW,getD_none→ZI
open Option.some renaming inj→R6
open Or renaming inr→SB,inl→SI
open Pure renaming pure→SS
open PyProof renaming noPylong_of_log2→Xq
open PyProof.Rows renaming callWith_type1→Td,slot_tuple_getitem→UA,seqObj→Vr,boot_isinstance→Wr,AllBare→Wx,assignInOrder_cons→WO,IntsAre→Xi,envOfC→Xo,subscriptTail_builtinR→XZ,boot_list→YB,subscriptTail→YI,assignInOrder_nil→Y5,floordiv_int→Y6,boot_range→Z6
open PyProof.Rows.IsTup renaming new→aaC
open PySem renaming Shared→QQ,wpAny_bind→QR,FuncData→QU,starEach→Q6,Heap→Ra,wpAny→Rj,model→Ro,Program→Rz,mainGlobals→RB,Str→RF,Around→RK,Expr→RP,World→RS,PyData→R5,Builtin→R9,assignEach→So,compareOp→Sz,wpAny_mono→SA,foldedSetIterable→SJ,sizeLine_eq→SU,backTo→Te,wpAny_truthy_bool→Tf,wpAny_newObj_type→Th,attributeBase→Tw,bootBuiltins→TN,behindInMarks→TW,swapsWith→TZ,binaryOp→Ua,wpAny_Call_Name_kw→Ub,Pos→Uh,wpAny_passesOwn→Uj,excClassObj→Uu,mem_of_lookup→UB,sizeLine→UF,Scope→UG,sysModules→UT,closureFor→UX,tupleKind_room_in1→UY,keywordEach→Vb,NameKind→Vc,wpAny_field→Vd,wpAny_standAt→Vt,compEnvC→Vw,wpAny_execs_nil→Vy,sliceBounds→VI,codeAny→VO,codeAny_mono→VP,plainObj_wpAny_Assign_Attribute→VX,assign→Wi,letOwnedTupleGo→Wj,codeAny_builtin→Wp,Within→Ww,noteFrame→WK,backToKw→WR,newFunctionEnv→WU,getItem→Xd,wpAny_pyIter_list→Xe,Keyword→Xh,swapsWithSole→Xm,swappedStores→Xn,wpAny_comprehension_free→Xp,tupleKind→Xx,getMethod→Xy,wpAny_lookBehind→XA,pastItsLine_dict→XB,bindArgs→XD,cellsFrom→XE,wpAny_callSpecial?_slot→XF,wpAny_call_entry→XG,standAt→XV,wpAny_call→XX,wpAny_isTrue_Compare1→Ye,wpAny_loadName_local→Yi,wpAny_loadPart→Yk,subscripted→Yn,wpAny_newFunctionEnv→Yo,wpAny_setField→Yp,DictEntry→Yx,callerA→Yy,setFlight→Yz,valueAt→YA,wpAny_loadName_cell→YC,assignInOrder→YG,rangeSize_one→YH,plainId_quiet→YM,wpAny_pyIter_tuple→YN,IsPart→YQ,call_meets→YR,setItem→Y2,Operator→Y3,wpAny_assign_Name→Y4,wpAny_nsSet1→Y8,Code→Zd,BindsTo→Zf,callWith→Zg,seqIndex_neg→Zj,slot_list_getitem→Zk,relabel→Zm,GenState→Zp,OwnTail→Zq,wpAny_pyIter_enum→Zr,wpAny_Call_method→Zu,wpAny_execs_cons→ZD,Result→ZF,Arguments→ZG,seqIndex_of→ZN,Reads→ZO,atKey→ZR,Env→ZU,leaving→Z2,builtinsNs→Z3,wpAny_Name→Z4,bindName→Z5,bindL→Z8,bindC→Z9,call→aad,boot_len→aaj
open PySem.Around renaming under_plainId→Vh,under→XW,frames_deeper→Ym
open PySem.Builtin.Int renaming intBits→YD
open PySem.Builtin.Range renaming rangeSize→VG
open PySem.Builtin.Slice renaming slicePlaces→Ui,sliceAdjust→Vl,sliceApplied→WT
open PySem.Builtin.Tuple renaming tupleExact→Ux
open PySem.Code renaming quiet_builtin→YU,isFrame→Ze
open PySem.F renaming plainAttrs_list→Sr,slot_list_append→SY,type_list_append→SZ,slot_dict_itemiterator_iter→Vx,slot_dict_get→VY,slot_list_remove→Xu,type_list_remove→Xv,args_dict_get_3→XJ,plainAttrs_dict→XM,slot_dict_items→XO,entry_dict_get→X3
open PySem.Flow renaming next→aaB
open PySem.Heap renaming get?_push_of_some→QP,lt_size→Re,get?_push_size→Rg,get?_update_other→RI,get?_none_of_le→Tb,get?_update_self→Ug,size_push→UH,SameBut→Wy,MadeExcOf→aaf
open PySem.Heap.Ns1 renaming of_empty→Y9
open PySem.MeetsSeq renaming plain_remove_loop→Ue,entry_remove_loop→WX
open PySem.NameKind renaming cell→YK,free→aan
open PySem.PyData renaming eqv→Sk,depthAll→Yc,list→Yv,canLayAll0→Zv
open PySem.SeqAt renaming EqAt→WM
open PySem.SeqAt.Reads renaming unique→YX
open PySem.Str renaming ofString→UW
open PySem.Value renaming ref→RA,none→Uw,int→Vi,bool→VD,type→WN,str→Xw,float→ZM,isStrOf→aal
open PySem.W renaming Frag→QJ,findIn→RT,kia_one→SF,keepIn→SM,emptyDict→SV,fnOf→S2,instObj→TJ,Looks→TX,codeHdIn→UM,hasDictIn→U9,looks_clsIn→Vp,kla_obj→VC,callWith_K→VF,typeIn→VN,codeIn→VQ,tabObj→VT,plainGet→Wa,looks_findIn→Wg,plainGet_of→Wt,isFn→Wz,lookIn→WP,InstAt→WQ,methodObj→Xc,set_plain→Xg,any_some→Xz,cellsFrom_some→XY,takerIn→X8,methodCall_KW→Yg,exmOne→Yq,noTabs→Yt,codeHd_of_K→YF,kitx_tuple→YO,plainOver→Y7,specialIn→Za,kitx_list→Zb,kitx_dict→Zc,envX→Zw,handedIn→ZE,makesIn→ZV,bind_fn→ZW,takesIn→ZX,OpenLaw→Z1,kitOne→Z7,kla_fn→aah,mroIn→aam,clsIn→aar,WalkO→aat
open PySem.W.Looks renaming here→UU
open Rat renaming mul_le_mul_of_nonneg_right→RE,le_refl→R1,mul_lt_mul_of_pos_right→R4,mul_le_mul_of_nonneg_left→Se,intCast_lt_intCast→SD,le_of_lt→SE,le_trans→SK,intCast_mul→S3,not_le→Tu,mul_nonneg→TC,natCast_add→TM,intCast_le_intCast→TU,natCast_le_natCast→TV,le_antisymm→Um,natCast_pos→Uo,intCast_natCast→UD,intCast_inj→Vz,lt_div_iff→VV,natCast_lt_natCast→VW,not_lt→X5,zero_mul→X7,intCast_add→Yd,mul_zero→Zz,mul_pos→ZS,div_def→ZT
open Sum renaming inl→RL,inr→XU
open True renaming intro→Ti
local macro_rules
 | `(Z)=>`(rfl)
local macro_rules
 |`(ω)=>`(by lia)
local macro_rules
 |`(δ)=>`(by decide)
local macro_rules
 |`(θ)=>`((by first|exact SI Z|exact SB Z))
local macro_rules
 |`(ν)=>`((by exact Z))
set_option hygiene false in
local macro_rules
 |`(χ)=>`((fun cdv A outer s H vs Q E hr h => ?_))
set_option hygiene false in
local macro_rules
 |`(ψ)=>`((fun vs H Q E h => by cases h;subst_vars;rfl))
theorem FQ:1≤UF:=δ
theorem eI:2≤UF:=δ
theorem Qb:3≤UF:=δ
theorem Qv:4≤UF:=δ
theorem Qu:5≤UF:=δ
theorem Qt:6≤UF:=δ
theorem AV:1000≤UF:=δ
namespace L2
open PySem PySem.Spec PyProof.Rows
abbrev cZ:=Sum Int RF
def pF:cZ->Value->Bool
 | .inl k,v=>Value.isInt k v
 | .inr x,v=>aal x v
def Py(w:RS):cZ->Int
 | .inl k=>hashInt k
 | .inr x=>hashStr w x
theorem bU:∀{k:cZ} {v:Value},pF k v=true->(∃i t,k=RL i/\v=Vi i t)∨(∃x t,k=XU x/\v=Xw x t)
 | .inl i,v,h=>by
  obtain⟨t,e⟩:=Value.isInt_shape (k:=i) (v:=v) h;exact .inl ⟨i,t,Z,e⟩
 | .inr x,v,h=>by
  obtain⟨t,e⟩:=Value.isStrOf_shape (x:=x) (v:=v) h;exact .inr ⟨x,t,Z,e⟩
theorem Ah(i:Int)(t:Tok):pF (.inl i) (.int i t)=true:=by simp[pF,Value.isInt]
theorem Ag(x:RF)(t:Tok):pF (.inr x) (.str x t)=true:=by simp[pF,aal]
theorem Mi(a b:Int):decide ((RL a:cZ)=RL b)=(a==b):=by
 by_cases e:a=b
 ·subst e;simp
 ·have h:¬(RL a:cZ)=RL b:=λq=>e (RL.inj q)
  rw[decide_eq_false h];exact(beq_eq_false_iff_ne.mpr e).symm
theorem Mf(a b:RF):decide ((XU a:cZ)=XU b)=decide (a=b):=by
 by_cases e:a=b
 ·subst e;simp
 ·have h:¬(XU a:cZ)=XU b:=λq=>e (XU.inj q)
  rw[decide_eq_false h,decide_eq_false e]
theorem Mh(a:Int)(b:RF):decide ((RL a:cZ)=XU b)=false:=decide_eq_false (λq=>nomatch q)
theorem Mg(a:RF)(b:Int):decide ((XU a:cZ)=RL b)=false:=decide_eq_false (λq=>nomatch q)
def bK(prog:Rz)(w:RS):PySem.KeyKind prog w cZ where
 is:=pF
 hash:=Py w
 inj:=λv a b ha hb=>by
  rcases bU ha with⟨i,t,rfl,rfl⟩ | ⟨x,t,rfl,rfl⟩
  ·rcases bU hb with⟨j,u,rfl,e⟩ | ⟨y,u,rfl,e⟩
   ·injection e with e1 _;rw[e1]
   ·exact nomatch e
  ·rcases bU hb with⟨j,u,rfl,e⟩ | ⟨y,u,rfl,e⟩
   ·exact nomatch e
   ·injection e with e1 _;rw[e1]
 byValue:=λk v h=>by
  rcases bU h with⟨i,t,rfl,rfl⟩ | ⟨x,t,rfl,rfl⟩<;>rfl
 pyHash:=λhv h=>by
  rcases bU hv with⟨i,t,rfl,rfl⟩ | ⟨x,t,rfl,rfl⟩
  ·exact wpAny_pyHash_int h
  ·exact wpAny_pyHash_str h
 eqBool:=λhu hv h=>by
  rcases bU hu with⟨i,t,rfl,rfl⟩ | ⟨x,t,rfl,rfl⟩
  ·rcases bU hv with⟨j,u,rfl,rfl⟩ | ⟨y,u,rfl,rfl⟩
   ·rw[Mi] at h;exact wpAny_eqBool_int h
   ·rw[Mh] at h;exact WM.int_str i t y u _ _ _ _ h
  ·rcases bU hv with⟨j,u,rfl,rfl⟩ | ⟨y,u,rfl,rfl⟩
   ·rw[Mg] at h;exact WM.str_int x t j u _ _ _ _ h
   ·rw[Mf] at h;exact wpAny_eqBool_str h
 «strs»:=λk x t v h=>by
  rcases bU h with⟨i,u,rfl,e⟩ | ⟨y,u,rfl,e⟩
  ·exact nomatch e
  ·injection e with e1 _;subst e1
   cases v<;>rfl
theorem uL(prog:Rz)(w:RS)(i:Int)(t:Tok):(bK prog w).is (.inl i) (.int i t)=true:=Ah i t
theorem uK(prog:Rz)(w:RS)(x:RF)(t:Tok):(bK prog w).is (.inr x) (.str x t)=true:=Ag x t
end L2
namespace L2
open PySem PySem.Spec PyProof.Rows
inductive V where
 |non|bl (b:Bool)|int (i:Int)|str (x:RF)|byt (b:Array UInt8)|flt (b:UInt64)|ref (a:Addr)|ty (n:String)
 deriving DecidableEq
def aY:V->Value->Prop
 | .non,u=>u=Uw
 | .bl b,u=>u=VD b
 | .int i,u=>∃t,u=Vi i t
 | .str x,u=>∃t,u=Xw x t
 | .byt b,u=>∃t,u=Value.bytes b t
 | .flt b,u=>∃t,u=ZM b t
 | .ref a,u=>u=RA a
 | .ty n,u=>u=WN n
abbrev aW:List V->List Value->Prop:=Paired aY
theorem aW.length(r:aW xs us):xs.length=us.length:=Paired.length r
theorem aW.get:∀{xs:List V} {us:List Value} {i:Nat} {x:V},aW xs us->xs[i]?=some x->∃u,us[i]?=some u/\aY x u
 |_,_,_,_,.nil,e=>by simp at e
 |_,_,0,_,.cons r _,e=>by simp at e;subst e;exact⟨_,Z,r⟩
 |_,_,i+1,x,.cons _ t,e=>by
  obtain⟨u,h1,h2⟩:=aW.get (i:=i) (x:=x) t (by simpa using e);exact⟨u,by simpa using h1,h2⟩
theorem aW.set{x:V}{u:Value}(r:aY x u):∀{xs:List V} {us:List Value} (i:Nat),aW xs us->aW (xs.set i x) (us.set i u)
 |_,_,_,.nil=>.nil
 |_,_,0,.cons _ t=>.cons r t
 |_,_,i+1,.cons q t=>.cons q (aW.set r i t)
theorem aW.append:∀{xs ys:List V} {us ws:List Value},aW xs us->aW ys ws->aW (xs++ys) (us++ws)
 |_,_,_,_,.nil,s=>s
 |_,_,_,_,.cons r t,s=>.cons r (aW.append t s)
theorem aW.take:∀{xs:List V} {us:List Value} (n:Nat),aW xs us->aW (xs.take n) (us.take n)
 |_,_,0,_=>.nil
 |_,_,_+1,.nil=>.nil
 |_,_,n+1,.cons r t=>.cons r (aW.take n t)
theorem aW.drop:∀{xs:List V} {us:List Value} (n:Nat),aW xs us->aW (xs.drop n) (us.drop n)
 |_,_,0,r=>r
 |_,_,_+1,.nil=>.nil
 |_,_,n+1,.cons _ t=>aW.drop n t
def fL:Option V->Option Value->Prop
 |some v,some u=>aY v u
 |none,none=>True
 |_,_=>False
def KV{κ:Type}:List (κ×V)->List (κ×Value)->Prop:=Paired λ(p:κ×V) (q:κ×Value)=>p.1=q.1/\aY p.2 q.2
def kV:cZ->V
 | .inl i=>.int i
 | .inr x=>.str x
inductive HO where
 |lst (xs:List V)
 |tup (xs:List V)
 |dK (kvs:List (cZ×V))|dT (kvs:List (List cZ×V))
 |set (S:Int->Bool) (n:Nat)
 |ins (C dx:Addr) (fs:List (RF×V))
 |own (x:Addr)
 |xd (fs:List (RF×V))
 |met (f x:Addr)
 |rng (lo hi:Int)
 |frz (o:Obj) (u:HO)
 |tbl (ps:Array Value)
 |ext (φ:Ra->Prop)
abbrev Hp:=Addr->Option HO
def upd(H:Hp)(a:Addr)(o:HO):Hp:=λb=>if b=a then some o else H b
theorem aa:upd H a o a=some o:=by unfold upd;rw[if_pos Z]
theorem ai(h:b≠a):upd H a o b=H b:=by unfold upd;rw[if_neg h]
theorem FW:upd (upd H a o) a u=upd H a u:=by
 funext b;unfold upd;split<;>rfl
theorem On{H:Hp}{a b:Addr}{o u:HO}(h:H a=some o)(h':H b=some u)(d:o≠u):a≠b:=by
 intro e;subst e;rw[h] at h';exact d (R6 h')
theorem au{H:Hp}{a b:Addr}{o:HO}(h:H a=some o)(h':H b=none):a≠b:=by
 intro e;subst e;rw[h] at h';cases h'
section
variable (P:Rz) (w:RS)
def ObjOk(H:Hp)(h:Ra)(a:Addr):HO->Prop
 | .lst xs=>xs.length≤sizeLine/\∃(its:List Value) (n:Nat),aW xs its/\h.get? a=some { cls:=.type "list",data:=.seq its.toArray n}
 | .tup xs=>xs.length≤sizeLine/\∃its:List Value,aW xs its/\IsTup h a its.toArray
 | .dK kvs=>kvs.length≤sizeLine/\(a==UT)=false/\∃vs,KV kvs vs/\h.DictOf (bK P w) a vs
 | .dT kvs=>kvs.length≤sizeLine/\(a==UT)=false/\∃xs:List (List cZ×Addr×Value),
   Paired (λ(p:List cZ×V) (q:List cZ×Addr×Value)=>p.1=q.1/\H q.2.1=some (.tup (p.1.map kV))/\aY p.2 q.2.2) kvs xs∧
   ∃o es ep,h.get? a=some o/\o.ExactDict/\o.data=.dict es ep/\es.toList=xs.map (entryOfKey (Xx (bK P w)))/\(xs.map (·.1)).Nodup
 | .set S n=>h.SetOf (intKind P w) a S n
 | .ins C dx fs=>H dx=some (.own a)/\fs.length≤1000/\dx≠a/\h.get? a=some (TJ C dx)∧
   ∃mA,h.Ns1 dx mA/\(∀f,fL (fs.lookup f) (mA f))/\Ww mA (fs.map (·.1))
 | .own _=>∃o,h.get? a=some o
 | .xd fs=>∃mA,h.Ns1 a mA/\∀f,fL (fs.lookup f) (mA f)
 | .rng lo hi=>∃t u v,h.get? a=some { cls:=.type "range",data:=.fields #[.int lo t,.int hi u,.int 1 v]}
 | .frz o u=>h.get? a=some o/\ObjOk H h a u
 | .tbl ps=>h.get? a=some { cls:=.none,data:=.fields ps}
 | .met f x=>h.get? a=some (Xc (.ref f) (.ref x))
 | .ext φ=>φ h/\(∃o,h.get? a=some o)/\∀h1 h2:Ra,φ h1->(∀o,h1.get? a=some o->h2.get? a=some o)->φ h2
def jI(H:Hp)(h:Ra):Prop:=∀a o,H a=some o->ObjOk P w H h a o
end
section
variable {P:Rz}{w:RS}{H H':Hp}{h h':Ra}{a:Addr}{o:HO}
theorem ObjOk.lt(x:ObjOk P w H h a o):a<h.objs.size:=by
 cases o with
 |lst xs=>obtain⟨_,_,_,_,e⟩:=x;exact Re e
 |tup xs=>obtain⟨_,_,_,p⟩:=x;exact p.lt
 |dK kvs=>obtain⟨_,_,_,_,o,_,_,e,_⟩:=x;exact Re e
 |dT kvs=>obtain⟨_,_,_,_,o,_,_,e,_⟩:=x;exact Re e
 |set S n=>obtain⟨o,_,_,_,e,_⟩:=x;exact Re e
 |ins C dx fs=>obtain⟨_,_,_,e,_⟩:=x;exact Re e
 |own y=>obtain⟨_,e⟩:=x;exact Re e
 |xd fs=>obtain⟨_,⟨_,_,_,e,_⟩,_⟩:=x;exact Re e
 |rng lo hi=>obtain⟨_,_,_,e⟩:=x;exact Re e
 |frz ob u=>obtain⟨e,_⟩:=x;exact Re e
 |tbl ps=>exact Re (show h.get? a=some _ from x)
 |met f y=>exact Re (show h.get? a=some _ from x)
 |ext φ=>obtain⟨_,⟨_,e⟩,_⟩:=x;exact Re e
theorem Paired.mapP{α β:Type}{F G:α->β->Prop}:∀{l₁:List α} {l₂:List β},Paired F l₁ l₂->(∀a b,F a b->G a b)->Paired G l₁ l₂
 |_,_,.nil,_=>.nil
 |_,_,.cons r t,f=>.cons (f _ _ r) (Paired.mapP t f)
theorem ObjOk.stay(x:ObjOk P w H h a o)(k:∀b u,(b=a∨H b=some (.own a))->h.get? b=some u->h'.get? b=some u)
  (ho:∀b,H b=some (.own a)->H' b=some (.own a)) (ht:∀b xs,H b=some (.tup xs)->H' b=some (.tup xs)):ObjOk P w H' h' a o:=by
 induction o with
 |lst xs=>obtain⟨z,its,n,r,e⟩:=x;exact⟨z,its,n,r,k _ _ (.inl Z) e⟩
 |tup xs=>obtain⟨z,its,r,ob,e,c⟩:=x;exact⟨z,its,r,ob,k _ _ (.inl Z) e,c⟩
 |dK kvs=>obtain⟨z,y,vs,r,ob,es,ep,e,c⟩:=x;exact⟨z,y,vs,r,ob,es,ep,k _ _ (.inl Z) e,c⟩
 |dT kvs=>
  obtain⟨z,y,xs,r,ob,es,ep,e,c⟩:=x;exact⟨z,y,xs,Paired.mapP r λp q z=>⟨z.1,ht _ _ z.2.1,z.2.2⟩,ob,es,ep,k _ _ (.inl Z) e,c⟩
 |set S n=>obtain⟨ob,es,ep,t,e,c⟩:=x;exact⟨ob,es,ep,t,k _ _ (.inl Z) e,c⟩
 |ins C dx fs=>
  obtain⟨d,z,ne,e,mA,⟨od,es,ep,e2,c⟩,r⟩:=x;exact⟨ho _ d,z,ne,k _ _ (.inl Z) e,mA,⟨od,es,ep,k _ _ (.inr d) e2,c⟩,r⟩
 |own y=>obtain⟨ob,e⟩:=x;exact⟨ob,k _ _ (.inl Z) e⟩
 |xd fs=>obtain⟨mA,⟨od,es,ep,e,c⟩,r⟩:=x;exact⟨mA,⟨od,es,ep,k _ _ (.inl Z) e,c⟩,r⟩
 |rng lo hi=>obtain⟨t,u,v,e⟩:=x;exact⟨t,u,v,k _ _ (.inl Z) e⟩
 |frz ob u ih=>obtain⟨e,q⟩:=x;exact⟨k _ _ (.inl Z) e,ih q⟩
 |tbl ps=>
  have e:h.get? a=some { cls:=.none,data:=.fields ps}:=x;show h'.get? a=some { cls:=.none,data:=.fields ps};exact k a _ (.inl Z) e
 |met f y=>
  have e:h.get? a=some (Xc (.ref f) (.ref y)):=x;show h'.get? a=some (Xc (.ref f) (.ref y));exact k a _ (.inl Z) e
 |ext φ=>obtain⟨p,⟨o,e⟩,st⟩:=x;exact⟨st _ _ p λo q=>k _ _ (.inl Z) q,⟨o,k _ _ (.inl Z) e⟩,st⟩
theorem jI.lt(x:jI P w H h)(e:H a=some o):a<h.objs.size:=(x a o e).lt
theorem jI.fresh(x:jI P w H h)(e:h.objs.size≤a):H a=none:=by
 cases q:H a with
 |none=>rfl
 |some u=>exact absurd (Q7 (x.lt q) e) (Ss _)
theorem jI.kept(x:jI P w H h)(k:∀b u,h.get? b=some u->h'.get? b=some u):jI P w H h':=λa o e=>
 (x a o e).stay (λb u _ q=>k b u q) (λ_ q=>q) λ_ _ q=>q
theorem jI.laid(x:jI P w H h)(k:∀b u,h.get? b=some u->h'.get? b=some u)(hp:h.objs.size≤a)(new:ObjOk P w (upd H a o) h' a o):jI P w (upd H a o) h':=λb u e=>by
 have hn:=x.fresh hp;by_cases hb:b=a
 ·subst hb;rw[aa] at e;cases e;exact new
 ·rw[ai hb] at e;exact(x b u e).stay (λc v _ q=>k c v q) (λc q=>by rw[ai (au q hn)];exact q) λc xs q=>by rw[ai (au q hn)];exact q
end
def Rd(H:Hp)(a:Addr)(u:HO):Prop:=H a=some u∨∃o,H a=some (.frz o u)
theorem Rd.ok(r:Rd H a u)(x:jI P w H h):ObjOk P w H h a u:=by
 rcases r with r | ⟨o,r⟩
 ·exact x a u r
 ·obtain⟨_,q⟩:=x a _ r;exact q
def OV:Option HO->Prop
 |some (.lst _)=>True
 |some (.dK _)=>True
 |some (.dT _)=>True
 |some (.set _ _)=>True
 |some (.ins _ _ _)=>True
 |some (.ext _)=>True
 |_=>False
section
variable {P:Rz}{w:RS}{H:Hp}{h h':Ra}{x e:Addr}{o':HO}
theorem jI.write(ok:jI P w H h)(mu:OV (H x))(he:e=x∨H e=some (.own x))(k:∀b u,b≠e->h.get? b=some u->h'.get? b=some u)(heo:∃u,h'.get? e=some u)
  (new:ObjOk P w (upd H x o') h' x o'):jI P w (upd H x o') h':=λb u q=>by
 have nown:∀c y,H c=some (.own y)->c≠x:=λc y r z=>by subst z;rw[r] at mu;exact mu
 have ntup:∀c xs,H c=some (.tup xs)->c≠x:=λc xs r z=>by subst z;rw[r] at mu;exact mu
 by_cases hb:b=x
 ·subst hb;rw[aa] at q;cases q;exact new
 ·rw[ai hb] at q;by_cases hbe:b=e
  ·have q':H b=some (.own x):=by
    rcases he with z|z
    ·exact absurd (hbe.trans z) hb
    ·rw[hbe];exact z
   rw[q] at q';cases q';obtain⟨v,hv⟩:=heo;exact⟨v,by rw[hbe];exact hv⟩
  ·refine(ok b u q).stay (λc v hc r=>k c v ?_ r) (λc r=>by rw[ai (nown c b r)];exact r) λc xs r=>by rw[ai (ntup c xs r)];exact r
   rcases hc with rfl|hc
   ·exact hbe
   ·rintro rfl;rcases he with z|z
    ·exact nown c b hc z
    ·rw[hc] at z;cases z;exact hb Z
end
structure Un(fs ex:List Addr)(H H':Hp)(h h':Ra):Prop where
 keep:∀b o,h.get? b=some o->H b=none->b∉fs->b∉ex->h'.get? b=some o
 slot:∀b o,h.get? b=some o->H b=none->b∈fs->b∉ex->∃sl,h'.get? b=some { o with slots:=sl}
 free:∀b o,h.get? b=some o->H b=none->b∉ex->H' b=none
 there:∀b o,h.get? b=some o->b∉ex->∃o',h'.get? b=some o'
 tups:∀b xs,H b=some (.tup xs)->H' b=some (.tup xs)
 frzs:∀b o u,H b=some (.frz o u)->H' b=some (.frz o u)
 tbls:∀b ps,H b=some (.tbl ps)->∃more,H' b=some (.tbl (ps++more))
section
variable {fs fs' ex ex':List Addr}{H H1 H2:Hp}{h h1 h2 h':Ra}{a x e:Addr}{o:HO}
theorem Un.any(u:Un fs ex H H1 h h1)(q:h.get? b=some ob)(n:H b=none)(hx:b∉ex):∃sl,h1.get? b=some { ob with slots:=sl}:=by
 by_cases hb:b∈fs
 ·exact u.slot b ob q n hb hx
 ·exact⟨ob.slots,u.keep b ob q n hb hx⟩
theorem Un.kept(k:∀b u,h.get? b=some u->h'.get? b=some u):Un fs ex H H h h':=
 ⟨λb ob q _ _ _=>k b ob q,λb ob q _ _ _=>⟨ob.slots,k b ob q⟩,λ_ _ _ n _=>n,λb ob q _=>⟨ob,k b ob q⟩,λ_ _ q=>q,λ_ _ _ q=>q,λ_ ps q=>⟨#[],by rw[q];simp⟩⟩
theorem Un.refl:Un fs ex H H h h:=Un.kept λ_ _ q=>q
theorem Un.laid(k:∀b u,h.get? b=some u->h'.get? b=some u)(hp:h.objs.size≤a)(hn:H a=none):Un fs ex H (upd H a o) h h' where
 keep:=λb u q _ _ _=>k b u q
 slot:=λb u q _ _ _=>⟨u.slots,k b u q⟩
 free:=λb u q n _=>by rw[ai (RZ (Q7 (Re q) hp))];exact n
 there:=λb u q _=>⟨u,k b u q⟩
 tups:=λb xs q=>by rw[ai (au q hn)];exact q
 frzs:=λb u xs q=>by rw[ai (au q hn)];exact q
 tbls:=λb ps q=>⟨#[],by rw[ai (au q hn),q];simp⟩
theorem Un.write(mu:OV (H x))(he:e=x∨H e=some (.own x))(k:∀b u,b≠e->h.get? b=some u->h'.get? b=some u)(heo:∃u,h'.get? e=some u):Un fs ex H (upd H x o) h h':=by
 have hx:∀b,H b=none->b≠x:=λb n z=>by subst z;rw[n] at mu;exact mu
 have hb:∀b,H b=none->b≠e:=λb n z=>by
  subst z;rcases he with r|r
  ·exact hx b n r
  ·rw[n] at r;cases r
 have hm:∀b u,H b=some u->¬OV (some u)->b≠x:=λb u q nm z=>by subst z;rw[q] at mu;exact nm mu
 refine⟨λb u q n _ _=>k b u (hb b n) q,λb u q n _ _=>⟨u.slots,k b u (hb b n) q⟩,λb u q n _=>by rw[ai (hx b n)];exact n,λb u q _=>?_,
  λb xs q=>by rw[ai (hm b _ q λz=>z)];exact q,λb u xs q=>by rw[ai (hm b _ q λz=>z)];exact q,λb ps q=>⟨#[],by rw[ai (hm b _ q λz=>z),q];simp⟩⟩
 by_cases hbe:b=e
 ·subst hbe;exact heo
 ·exact⟨u,k b u hbe q⟩
end
def JS(h:Ra)(H:Hp):List Addr:=(QM h.objs.size).filter λa=>(H a).isSome
def qh(h:Ra)(H:Hp):Ra:=PySem.W.hideAll h (JS h H)
theorem An(h:Ra)(H:Hp):(qh h H).objs.size=h.objs.size:=PySem.W.hideAll_size _ _
theorem E3(e:h.get? b=some o)(n:H b=none):(qh h H).get? b=some o:=
 PySem.W.hideAll_get _ e λhm=>by
  have q:(H b).isSome=true:=(Q3.mp hm).2;rw[n] at q;simp at q
theorem Hy(e:(qh h H).get? b=some o):h.get? b=some o/\H b=none:=by
 have e':h.get? b=some o:=PySem.W.of_hideAll (JS h H) e;refine⟨e',?_⟩
 cases q:H b with
 |none=>rfl
 |some x=>
  have hm:b∈JS h H:=Q3.mpr ⟨Q5.mpr (Re e'),by simp[q]⟩;have z:(qh h H).get? b=none:=PySem.W.hideAll_none (JS h H) hm;rw[z] at e;cases e
def lH(g h:Ra)(L:Addr):List (Addr×Obj):=(QM h.objs.size).filterMap λa=>if a=L∨(g.get? a).isSome=true then none else(h.get? a).map λo=>(a,o)
theorem uO(h1:a≠L)(h2:g.get? a=none)(h3:h.get? a=some o):(a,o)∈lH g h L:=
 VE.mpr ⟨a,Q5.mpr (Re h3),by simp[h1,h2,h3]⟩
theorem oZ(hp:p∈lH g h L):p.1≠L/\g.get? p.1=none/\h.get? p.1=some p.2:=by
 obtain⟨b,_,e⟩:=VE.mp hp
 split at e
 ·cases e
 ·rename_i hn
  cases q:h.get? b with
  |none=>rw[q] at e;simp at e
  |some u=>
   rw[q] at e;simp only[Option.map_some,Su.injEq] at e;subst e;refine⟨λz=>hn (.inl z),?_,q⟩;show g.get? b=none
   cases r:g.get? b with
   |none=>rfl
   |some v=>exact(hn (.inr (by simp[r]))).elim
def rest(g h:Ra)(L d:Addr):List (Addr×Obj):=(lH g h L).filter λp=>decide (p.1≠d)
end L2
namespace L2
open PySem PySem.Spec PyProof.Rows
structure Mod(K:QJ)(mg:RF->Option Value)(base:Ra):Prop where
 kin:K.In base
 glob:base.Ns RB mg
 blt:∃mb,base.Ns Z3 mb/\∀x:RF,x ≠ "__name__"->mb x=TN x
 nolimit:base.NoLimit
structure Cx where
 prog:Rz
 w:RS
 K:QJ
 mg:RF->Option Value
 base:Ra
 A:RK
 N:List RF
 s₀:QQ
 H₀:Hp
 env:ZU
 outer:List ZU
 stack:List ZU
 ex:List Addr
 fn:RF->Bool
 calm:Bool
 pn:List (Addr×Obj)
 xe:Value->QQ->Prop
def qY(l:List ZU):List Addr:=l.filterMap (·.frame)
abbrev Cx.fs(X:Cx):List Addr:=qY X.outer
def OR(sc:UG)(x:RF):Prop:=sc.names.lookup x=some .local∨sc.names.lookup x=some .cell∨sc.names.lookup x=some .free
def AT(sc:UG)(x:RF):Prop:=sc.names.lookup x=some .local∨sc.names.lookup x=some .cell
def PR(env:ZU)(h:Ra)(m:RF->Option Value)(x:RF)(u:Value):Prop:=
 (env.kindOf x=some .local/\m x=some u)∨((env.kindOf x=some .cell∨env.kindOf x=some .free)/\∃c,env.cells.lookup x=some c/\h.IsCell c (some u))
structure Cx.Ok(X:Cx):Prop where
 mod:Mod X.K X.mg X.base
 kind:X.env.scope.kind=.function
 glob:X.env.globals=RB
 blt:X.env.builtins=Z3
 above:X.s₀.heap.objs.size≤X.env.locals
 inj:∀x y c,X.env.cells.lookup x=some c->X.env.cells.lookup y=some c->x=y
 has:∀x,(X.env.kindOf x=some .cell∨X.env.kindOf x=some .free)->∃c,X.env.cells.lookup x=some c
 cab:∀x c,X.fn x=true->X.env.cells.lookup x=some c->X.s₀.heap.objs.size≤c
 hd:X.calm=true->X.A.handled=none
 frames:X.A.frames=some X.stack
 stk:X.stack=X.outer∨(X.stack=X.env::X.outer/\X.env.frame=some X.env.locals)
 exf:∀b∈X.ex,b≠X.env.locals/\∀x c,X.env.cells.lookup x=some c->c≠b
 bs:∀b o,X.base.get? b=some o->X.s₀.heap.get? b=some o/\X.H₀ b=none
 bsz:X.base.objs.size≤X.s₀.heap.objs.size
 noex:∀b o,X.base.get? b=some o->b∉X.ex
 exfs:∀b∈X.ex,b∉X.fs
 funs:X.s₀.heap.FunFrames X.base X.outer
 frf:∀b∈X.fs,X.H₀ b=none
structure Inv(X:Cx)(pins:List (Addr×Obj))(σ:List (Option V))(H:Hp)(s:QQ):Prop where
 ok:X.Ok
 os:s.os=X.s₀.os
 bare:Wx s.gens
 base:Un X.fs X.ex X.H₀ H X.s₀.heap s.heap
 loc:∃m,s.heap.Ns X.env.locals m/\∀(i:Nat) (x:RF) (v:V),X.N[i]?=some x->σ[i]?=some (some v)->OR X.env.scope x->∃u,aY v u/\PR X.env s.heap m x u
 cell:∀x c,X.env.cells.lookup x=some c->∃v,s.heap.IsCell c v
 free:H X.env.locals=none
 freeC:∀x c,X.env.cells.lookup x=some c->H c=none
 pin:∀p∈X.pn++pins,s.heap.get? p.1=some p.2/\H p.1=none/\p.1≠X.env.locals/\p.1∉X.fs/\∀v,p.2.data≠.cell v
 hok:jI X.prog X.w H s.heap
 len:σ.length=X.N.length
section
variable {X:Cx}{pins:List (Addr×Obj)}{σ:List (Option V)}{H H':Hp}{s:QQ}{h':Ra}
theorem Cx.Ok.nofr(ok:X.Ok)(e:X.base.get? b=some o):b∉X.fs:=λhb=>by
 have:=(ok.funs.mem hb).1;rw[e] at this;cases this
theorem Inv.bs(I:Inv X pins σ H s):∀b o,X.base.get? b=some o->s.heap.get? b=some o/\H b=none:=λb o e=>
 ⟨I.base.keep b o (I.ok.bs b o e).1 (I.ok.bs b o e).2 (I.ok.nofr e) (I.ok.noex b o e),I.base.free b o (I.ok.bs b o e).1 (I.ok.bs b o e).2 (I.ok.noex b o e)⟩
theorem Inv.bk(I:Inv X pins σ H s):∀b o,X.base.get? b=some o->s.heap.get? b=some o:=λb o e=>(I.bs b o e).1
theorem Inv.mod(I:Inv X pins σ H s):Mod X.K X.mg X.base:=I.ok.mod
theorem Inv.kIn(I:Inv X pins σ H s):X.K.In s.heap:=I.ok.mod.kin.keeps I.bk
theorem Inv.nolimit(I:Inv X pins σ H s):s.heap.NoLimit:=I.ok.mod.nolimit.keeps I.bk
theorem Inv.lt(I:Inv X pins σ H s):X.env.locals<s.heap.objs.size:=let ⟨_,hn,_⟩:=I.loc;hn.lt
theorem Inv.sz(I:Inv X pins σ H s):X.s₀.heap.objs.size≤s.heap.objs.size:=RC I.ok.above (Up I.lt)
theorem Inv.nofs(I:Inv X pins σ H s){a:Addr}(h:s.heap.objs.size≤a):a∉X.fs:=λhb=>by
 obtain⟨_,o,ho,_⟩:=I.ok.funs.mem hb;exact absurd (Q7 (Re ho) (RC I.sz h)) (Ss _)
theorem Inv.cne(I:Inv X pins σ H s):∀x c,X.env.cells.lookup x=some c->c≠X.env.locals:=λx c e z=>by
 obtain⟨v,o,ho,hd⟩:=I.cell x c e;obtain⟨m,⟨o',es,ep,ho',hd',_⟩,_⟩:=I.loc;rw[z,ho'] at ho;cases ho;rw[hd'] at hd;cases hd
theorem Inv.funs(I:Inv X pins σ H s):s.heap.FunFrames X.base X.outer:=by
 have all:∀(l:List ZU),(∀b∈qY l,b∈X.fs)->X.s₀.heap.FunFrames X.base l->s.heap.FunFrames X.base l:=by
  intro l
  induction l with
  |nil=>intro _ _;trivial
  |cons env r ih=>
   intro hs hl;obtain⟨hk,⟨L,o,hf,hn,ho,hd⟩,hr⟩:=hl;have hL:L∈X.fs:=hs L (by unfold qY;rw[Ws,hf];exact QV);obtain⟨sl,e⟩:=I.base.slot L o ho (I.ok.frf L hL) hL λz=>I.ok.exfs L z hL
   exact⟨hk,⟨L,_,hf,hn,e,hd⟩,ih (λb hb=>hs b (by unfold qY;rw[Ws,hf];exact QX _ hb)) hr⟩
 exact all X.outer (λ_ hb=>hb) I.ok.funs
theorem Inv.stack(I:Inv X pins σ H s):s.heap.FunFrames X.base X.stack:=by
 rcases I.ok.stk with e | ⟨e,hf⟩
 ·rw[e];exact I.funs
 ·rw[e];obtain⟨m,hn,_⟩:=I.loc;refine .cons (by rw[I.ok.kind];decide) hf hn ?_ I.funs;exact Tb (RC I.ok.bsz I.ok.above)
theorem Inv.stkSub(I:Inv X pins σ H s):∀b∈qY X.stack,b∈X.env.locals::X.fs:=λb hb=>by
 rcases I.ok.stk with e | ⟨e,hf⟩
 ·rw[e] at hb;exact QX _ hb
 ·rw[e] at hb;unfold qY at hb;rw[Ws,hf] at hb;exact hb
theorem Inv.stkFree(I:Inv X pins σ H s):∀b∈qY X.stack,H b=none:=λb hb=>by
 rcases Rm.mp (I.stkSub b hb) with e|hb
 ·rw[e];exact I.free
 ·obtain⟨_,o,ho,_⟩:=I.ok.funs.mem hb;exact I.base.free b o ho (I.ok.frf b hb) λz=>I.ok.exfs b z hb
theorem Inv.step{ch:List Addr}(I:Inv X pins σ H s)
  (hch:∀b∈ch,(b∈X.ex∨X.s₀.heap.get? b=none)/\b≠X.env.locals/\(∀x c,X.env.cells.lookup x=some c->c≠b)/\∀p∈X.pn++pins,p.1≠b)
  (keep:∀b o,b≠X.env.locals->b∉X.fs->b∉ch->s.heap.get? b=some o->H b=none->h'.get? b=some o)
  (slot:∀b o,b≠X.env.locals->b∈X.fs->b∉ch->s.heap.get? b=some o->H b=none->∃sl,h'.get? b=some { o with slots:=sl}) (free:∀b o,b∉ch->s.heap.get? b=some o->H b=none->H' b=none)
  (there:∀b o,b∉ch->s.heap.get? b=some o->∃o',h'.get? b=some o')
  (tups:∀b xs,H b=some (.tup xs)->H' b=some (.tup xs)) (frzs:∀b o u,H b=some (.frz o u)->H' b=some (.frz o u)) (tbls:∀b ps,H b=some (.tbl ps)->∃more,H' b=some (.tbl (ps++more)))
  (ns:∀m,s.heap.Ns X.env.locals m->h'.Ns X.env.locals m) (hok:jI X.prog X.w H' h') (hg:Wx g'):
  Inv X pins σ H' { s with heap:=h',gens:=g',drawn:=d',toks:=t'}:=by
 have neL:∀b o,X.s₀.heap.get? b=some o->b≠X.env.locals:=λb o e=>RZ (Q7 (Re e) I.ok.above)
 have neC:∀b o,X.s₀.heap.get? b=some o->b∉X.ex->b∉ch:=λb o e hx hb=>by
  rcases(hch b hb).1 with z|z
  ·exact hx z
  ·rw[e] at z;cases z
 have cellK:∀x c,X.env.cells.lookup x=some c->∀v,s.heap.IsCell c v->h'.IsCell c v:=λx c e v ⟨o,ho,hd⟩=>by
  have nch:c∉ch:=λz=>(hch c z).2.2.1 x c e Z
  by_cases hc:c∈X.fs
  ·obtain⟨sl,q⟩:=slot c o (I.cne x c e) hc nch ho (I.freeC x c e);exact⟨_,q,hd⟩
  ·exact⟨o,keep c o (I.cne x c e) hc nch ho (I.freeC x c e),hd⟩
 refine⟨I.ok,I.os,hg,⟨λb o e n hb hx=>?_,λb o e n hb hx=>?_,λb o e n hx=>?_,λb o e hx=>?_,λb xs e=>tups b xs (I.base.tups b xs e),λb o xs e=>frzs b o xs (I.base.frzs b o xs e),λb ps e=>?_⟩,?_,λx c e=>?_,?_,λx c e=>?_,λp hp=>?_,hok,I.len⟩
 ·exact keep b o (neL b o e) hb (neC b o e hx) (I.base.keep b o e n hb hx) (I.base.free b o e n hx)
 ·obtain⟨sl,e1⟩:=I.base.slot b o e n hb hx;obtain⟨sl',e2⟩:=slot b _ (neL b o e) hb (neC b o e hx) e1 (I.base.free b o e n hx);exact⟨sl',e2⟩
 ·obtain⟨o',e1⟩:=I.base.there b o e hx;exact free b o' (neC b o e hx) e1 (I.base.free b o e n hx)
 ·obtain⟨o',e1⟩:=I.base.there b o e hx;exact there b o' (neC b o e hx) e1
 ·obtain⟨m1,e1⟩:=I.base.tbls b ps e;obtain⟨m2,e2⟩:=tbls b _ e1;exact⟨m1++m2,by rw[e2,Array.append_assoc]⟩
 ·obtain⟨m,hn,hl⟩:=I.loc;refine⟨m,ns m hn,λi x v e1 e2 e3=>?_⟩;obtain⟨u,r,l⟩:=hl i x v e1 e2 e3;refine⟨u,r,?_⟩;rcases l with l | ⟨k,c,e,z⟩
  ·exact .inl l
  ·exact .inr ⟨k,c,e,cellK x c e _ z⟩
 ·obtain⟨v,z⟩:=I.cell x c e;exact⟨v,cellK x c e v z⟩
 ·obtain⟨m,⟨o,_,_,ho,_⟩,_⟩:=I.loc;exact free _ o (λz=>(hch _ z).2.1 Z) ho I.free
 ·obtain⟨v,o,ho,hd⟩:=I.cell x c e;exact free c o (λz=>(hch c z).2.2.1 x c e Z) ho (I.freeC x c e)
 ·obtain⟨e,n,ne,nf,d⟩:=I.pin p hp;have nch:p.1∉ch:=λz=>(hch p.1 z).2.2.2 p hp Z
  exact⟨keep p.1 p.2 ne nf nch e n,free p.1 p.2 nch e n,ne,nf,d⟩
theorem Inv.un(I:Inv X pins σ H s)(u:Un X.fs [] H H' s.heap h')(hok:jI X.prog X.w H' h'):Inv X pins σ H' { s with heap:=h',toks:=t'}:=by
 obtain⟨m,⟨o,es,ep,ho,r⟩,_⟩:=id I.loc;obtain⟨sl,hL⟩:=u.any ho I.free (by simp);exact I.step (g':=s.gens) (d':=s.drawn) (ch:=[]) (λ_ z=>nomatch z) (λb o _ hb _ e n=>u.keep b o e n hb (by simp)) (λb o _ hb _ e n=>u.slot b o e n hb (by simp)) (λb o _ e n=>u.free b o e n (by simp)) (λb o _ e=>u.there b o e (by simp)) u.tups u.frzs u.tbls (λm' hm=>by
  obtain⟨o',es',ep',ho',r'⟩:=hm;rw[ho] at ho';cases ho';exact⟨_,es',ep',hL,r'⟩) hok I.bare
theorem Inv.call(I:Inv X pins σ H s)(u:Un (qY X.stack) ch H H' s.heap h')(hok:jI X.prog X.w H' h')(hg:Wx g')
  (hch:∀b∈ch,(b∈X.ex∨X.s₀.heap.get? b=none)/\b≠X.env.locals/\(∀x c,X.env.cells.lookup x=some c->c≠b)/\∀p∈X.pn++pins,p.1≠b):
  Inv X pins σ H' { s with heap:=h',gens:=g',drawn:=d',toks:=t'}:=by
 obtain⟨m,⟨o,es,ep,ho,r⟩,_⟩:=id I.loc;obtain⟨sl,hL⟩:=u.any ho I.free λz=>(hch _ z).2.1 Z
 exact I.step (ch:=ch) hch (λb o hL hb hc e n=>u.keep b o e n (λz=>(Rm.mp (I.stkSub b z)).elim hL hb) hc) (λb o _ _ hc e n=>u.any e n hc) (λb o hc e n=>u.free b o e n hc) (λb o hc e=>u.there b o e hc) u.tups u.frzs u.tbls (λm' hm=>by
  obtain⟨o',es',ep',ho',r'⟩:=hm;rw[ho] at ho';cases ho';exact⟨_,es',ep',hL,r'⟩) hok hg
theorem Inv.turned(I:Inv X pins σ H s)(k:∀b o,b≠it->s.heap.get? b=some o->h'.get? b=some o)(hn:H it=none)(hL:it≠X.env.locals)
  (h1:it∈X.ex∨X.s₀.heap.get? it=none) (h2:∀x c,X.env.cells.lookup x=some c->c≠it) (h3:∀p∈X.pn++pins,p.1≠it):Inv X pins σ H { s with heap:=h',toks:=t'}:=by
 have nit:∀b u,H b=some u->b≠it:=λb u e z=>by rw[z,hn] at e;cases e
 refine I.step (g':=s.gens) (d':=s.drawn) (ch:=[it]) (λb hb=>?_) (λb o _ _ hc e _=>k b o (λz=>hc (by simp[z])) e) (λb o _ _ hc e _=>⟨o.slots,k b o (λz=>hc (by simp[z])) e⟩) (λ_ _ _ _ n=>n)
  (λb o hc e=>⟨o,k b o (λz=>hc (by simp[z])) e⟩) (λ_ _ e=>e) (λ_ _ _ e=>e) (λb ps e=>⟨#[],by rw[e];simp⟩) (λm hm=>?_) (λb u e=>?_) I.bare
 ·have e:b=it:=by simpa using hb
  subst e;exact⟨h1,hL,h2,h3⟩
 ·obtain⟨o,es,ep,ho,r⟩:=hm;exact⟨o,es,ep,k _ o (SO hL) ho,r⟩
 ·refine(I.hok b u e).stay (λc v hc q=>k c v ?_ q) (λ_ q=>q) λ_ _ q=>q
  rcases hc with z|z
  ·rw[z];exact nit b u e
  ·exact nit c _ z
theorem Inv.tok(I:Inv X pins σ H s)(t:Nat):Inv X pins σ H { s with toks:=t}:=I.un (h':=s.heap) (t':=t) Un.refl I.hok
theorem Inv.kept(I:Inv X pins σ H s)(k:∀b u,s.heap.get? b=some u->h'.get? b=some u):Inv X pins σ H { s with heap:=h',toks:=t'}:=I.un (Un.kept k) (I.hok.kept k)
theorem Inv.laid{a:Addr}{o:HO}{t':Nat}(I:Inv X pins σ H s)(k:∀b u,s.heap.get? b=some u->h'.get? b=some u)(hp:s.heap.objs.size≤a)(new:ObjOk X.prog X.w (upd H a o) h' a o) :
  Inv X pins σ (upd H a o) { s with heap:=h',toks:=t'}:=I.un (Un.laid k hp (I.hok.fresh hp)) (I.hok.laid k hp new)
theorem Inv.write(I:Inv X pins σ H s)(mu:OV (H x))(he:e=x∨H e=some (.own x))(k:∀b u,b≠e->s.heap.get? b=some u->h'.get? b=some u)(heo:∃u,h'.get? e=some u)
  (new:ObjOk X.prog X.w (upd H x o) h' x o):Inv X pins σ (upd H x o) { s with heap:=h',toks:=t'}:=I.un (Un.write mu he k heo) (I.hok.write mu he k heo new)
theorem Inv.weak(I:Inv X pins σ H s)(hl:σ'.length=σ.length)(w:∀(i:Nat) v,σ'[i]?=some (some v)->σ[i]?=some (some v)):Inv X pins σ' H s:=
 ⟨I.ok,I.os,I.bare,I.base,let ⟨m,hn,hl'⟩:=I.loc;⟨m,hn,λi x v e1 e2 e3=>hl' i x v e1 (w i v e2) e3⟩,I.cell,I.free,I.freeC,I.pin,I.hok,hl.trans I.len⟩
theorem Inv.pins_of(I:Inv X pins σ H s)(h:∀p∈pins',s.heap.get? p.1=some p.2/\H p.1=none/\p.1≠X.env.locals/\p.1∉X.fs/\∀v,p.2.data≠.cell v):Inv X pins' σ H s:=
 ⟨I.ok,I.os,I.bare,I.base,I.loc,I.cell,I.free,I.freeC,λp hp=>(Rc.mp hp).elim (λz=>I.pin p (RN _ z)) (h p),I.hok,I.len⟩
theorem uH{N:List RF}(hN:N.Nodup){i j:Nat}(a:N[i]?=some x)(b:N[j]?=some x):i=j:=by
 obtain⟨h1,e1⟩:=QN.mp a;obtain⟨h2,e2⟩:=QN.mp b;exact(TY hN).mp (e1.trans e2.symm)
theorem zr{M:Model}{A:RK}{E:Value->QQ->Prop}{i:Nat}{x:RF}{v:V}{u:Value}{Q:Unit->QQ->Prop}(I:Inv X pins σ H s)(hN:X.N.Nodup)(hi:X.N[i]?=some x)(hx:AT X.env.scope x)(r:aY v u)
  (h:∀s',Inv X pins (σ.set i (some v)) H s'->(∃a,Wy a s.heap s'.heap/\(a=X.env.locals∨X.env.cells.lookup x=some a))->Q () s') (hf:X.fn x=true∨X.env.scope.names.lookup x=some .local:=by first|exact .inl Z|exact .inr Z|assumption):Rj M A (storeName X.env x u) Q E s:=by
 obtain⟨m,hn,hl⟩:=id I.loc;have hcls:(X.env.scope.kind==.class||(X.env.scope.kind==.module&&X.env.locals != X.env.globals))=false:=by rw[I.ok.kind];rfl
 have hiσ:i<σ.length:=by rw[I.len];exact(QN.mp hi).1
 have cne:=I.cne;have tracked:∀{a:Addr} {h':Ra},(∃o,s.heap.get? a=some o/\H a=none)->Wy a s.heap h'->jI X.prog X.w H h':=λ{a h'} ha hs b ob e=>by
  obtain⟨_,_,hfree⟩:=ha;refine(I.hok b ob e).stay (λc w' hc q=>(hs.2 c ?_).trans q) (λ_ q=>q) λ_ _ q=>q
  rintro rfl;rcases hc with rfl|hc
  ·rw[hfree] at e;cases e
  ·rw[hfree] at hc;cases hc
 rcases hx with hk|hk
 ·refine wpAny_storeName_local hk hn (λh' hn' hs=>?_) hcls;obtain⟨oL,_,_,hoL,_⟩:=id hn;refine h _ ⟨I.ok,I.os,I.bare,⟨λb o e n hb hx=>?_,λb o e n hb hx=>?_,I.base.free,λb o e hx=>?_,I.base.tups,I.base.frzs,I.base.tbls⟩,⟨_,hn',λj y v' e1 e2 e3=>?_⟩,λy c e=>?_,I.free,I.freeC,λp hp=>?_,tracked ⟨oL,hoL,I.free⟩ hs,by simpa using I.len⟩ ⟨_,hs,.inl Z⟩
  ·exact(hs.2 b (RZ (Q7 (Re e) I.ok.above))).trans (I.base.keep b o e n hb hx)
  ·obtain⟨sl,e1⟩:=I.base.slot b o e n hb hx;exact⟨sl,(hs.2 b (RZ (Q7 (Re e) I.ok.above))).trans e1⟩
  ·obtain⟨o',e1⟩:=I.base.there b o e hx;exact⟨o',(hs.2 b (RZ (Q7 (Re e) I.ok.above))).trans e1⟩
  ·by_cases hj:j=i
   ·subst hj;rw[hi] at e1;cases e1;rw[SQ hiσ] at e2
    cases e2
    exact⟨u,r,.inl ⟨hk,by simp⟩⟩
   ·rw[Si (SO hj)] at e2;obtain⟨u',r',q⟩:=hl j y v' e1 e2 e3;refine⟨u',r',?_⟩;rcases q with⟨k,e⟩ | ⟨k,c,e,z⟩
    ·refine .inl ⟨k,?_⟩;have:y≠x:=λe=>hj (uH hN e1 (e▸hi))
     simp[this,e]
    ·exact .inr ⟨k,c,e,z.sameBut hs (cne y c e)⟩
  ·obtain⟨w',z⟩:=I.cell y c e;exact⟨w',z.sameBut hs (cne y c e)⟩
  ·obtain⟨e,n,ne,nf,d⟩:=I.pin p hp;exact⟨(hs.2 p.1 ne).trans e,n,ne,nf,d⟩
 ·have hfn:X.fn x=true:=by
   rcases hf with z|z
   ·exact z
   ·rw[z] at hk;cases hk
  obtain⟨c,hc⟩:=I.ok.has x (.inl hk);obtain⟨w',z⟩:=I.cell x c hc;refine wpAny_storeName_cell I.ok.kind hk hc z (λh' hc' hs=>?_);obtain⟨oc,hoc,hocd⟩:=id z;refine h { s with heap:=h'} ⟨I.ok,I.os,I.bare,⟨λb o e n hb hx=>?_,λb o e n hb hx=>?_,I.base.free,λb o e hx=>?_,I.base.tups,I.base.frzs,I.base.tbls⟩,⟨m,hn.sameBut hs (SO (cne x c hc)),λj y v' e1 e2 e3=>?_⟩,λy c' e=>?_,I.free,I.freeC,λp hp=>?_,tracked ⟨oc,hoc,I.freeC x c hc⟩ hs,by simpa using I.len⟩ ⟨c,hs,.inr hc⟩
  ·exact(hs.2 b (RZ (Q7 (Re e) (I.ok.cab x c hfn hc)))).trans (I.base.keep b o e n hb hx)
  ·obtain⟨sl,e1⟩:=I.base.slot b o e n hb hx;exact⟨sl,(hs.2 b (RZ (Q7 (Re e) (I.ok.cab x c hfn hc)))).trans e1⟩
  ·obtain⟨o',e1⟩:=I.base.there b o e hx;exact⟨o',(hs.2 b (RZ (Q7 (Re e) (I.ok.cab x c hfn hc)))).trans e1⟩
  ·by_cases hj:j=i
   ·subst hj;rw[hi] at e1;cases e1;rw[SQ hiσ] at e2
    cases e2
    exact⟨u,r,.inr ⟨.inl hk,c,hc,hc'⟩⟩
   ·rw[Si (SO hj)] at e2;obtain⟨u',r',q⟩:=hl j y v' e1 e2 e3;refine⟨u',r',?_⟩;rcases q with q | ⟨k,c',e,z'⟩
    ·exact .inl q
    ·refine .inr ⟨k,c',e,z'.sameBut hs ?_⟩;rintro rfl;exact hj (uH hN e1 (I.ok.inj _ _ _ e hc▸hi))
  ·by_cases hcc:c'=c
   ·subst hcc;exact⟨_,hc'⟩
   ·obtain⟨w2,z2⟩:=I.cell y c' e;exact⟨w2,z2.sameBut hs hcc⟩
  ·obtain⟨e,n,ne,nf,d⟩:=I.pin p hp;refine⟨(hs.2 p.1 ?_).trans e,n,ne,nf,d⟩;intro q;rw[q,hoc] at e;have q':oc=p.2:=R6 e;exact d w' (by rw[←q'];exact hocd)
theorem gQ{M:Model}{A:RK}{E:Value->QQ->Prop}{i:Nat}{x:RF}{v:V}{u:Value}{Q:Unit->QQ->Prop}(I:Inv X pins σ H s)(hN:X.N.Nodup)(hi:X.N[i]?=some x)(hx:AT X.env.scope x)(r:aY v u)
  (h:∀s',Inv X pins (σ.set i (some v)) H s'->Q () s') (hf:X.fn x=true∨X.env.scope.names.lookup x=some .local:=by first|exact .inl Z|exact .inr Z|assumption):Rj M A (storeName X.env x u) Q E s:=
 zr I hN hi hx r (λs' I' _=>h s' I') hf
theorem Inv.call'(I:Inv X pins σ H s)(ho:s'.os=s.os)(u:Un (qY X.stack) ch H H' s.heap s'.heap)(hok:jI X.prog X.w H' s'.heap)(hg:Wx s'.gens)
  (hch:∀b∈ch,(b∈X.ex∨X.s₀.heap.get? b=none)/\b≠X.env.locals/\(∀x c,X.env.cells.lookup x=some c->c≠b)/\∀p∈X.pn++pins,p.1≠b):Inv X pins σ H' s':=by
 obtain⟨h',g',d',t',o'⟩:=s';have e:o'=s.os:=ho;subst e;exact I.call (g':=g') (t':=t') (d':=d') u hok hg hch
end
abbrev XK:=Value->Option Addr->Hp->Prop
abbrev St:=List (Option V)
abbrev VK:=V->Hp->Prop
abbrev TE:=St->Hp->VK->Prop
abbrev TT:=St->Hp->(Bool->Hp->Prop)->Prop
abbrev TA:=St->Hp->(List V->Hp->Prop)->Prop
structure nC where
 nx:St->Hp->Prop
 rt:VK
 bk:St->Hp->Prop:=λ_ _=>False
 ct:St->Hp->Prop:=λ_ _=>False
abbrev TS:=nC->St->Hp->Prop
def EP(X:Cx)(pins:List (Addr×Obj))(σ:St)(Q:VK)(u:Value)(s':QQ):Prop:=∃v H',Inv X pins σ H' s'/\aY v u/\Q v H'
def TP(X:Cx)(pins:List (Addr×Obj))(σ:St)(Q:Bool->Hp->Prop)(b:Bool)(s':QQ):Prop:=∃H',Inv X pins σ H' s'/\Q b H'
def AP(X:Cx)(pins:List (Addr×Obj))(σ:St)(Q:List V->Hp->Prop)(us:List Value)(s':QQ):Prop:=∃vs H',Inv X pins σ H' s'/\aW vs us/\Q vs H'
def SP(X:Cx)(pins:List (Addr×Obj))(D:nC)(f:Flow)(s':QQ):Prop:=
 match f with
 | .next=>∃σ' H',Inv X pins σ' H' s'/\D.nx σ' H'
 | .brk=>∃σ' H',Inv X pins σ' H' s'/\D.bk σ' H'
 | .cont=>∃σ' H',Inv X pins σ' H' s'/\D.ct σ' H'
 | .ret u=>∃v σ' H',Inv X pins σ' H' s'/\aY v u/\D.rt v H'
def PE(X:Cx)(e:RP)(t:TE):Prop:=
 ∀(pins:List (Addr×Obj)) (s:QQ) (σ:St) (H:Hp) (Q:VK),Inv X pins σ H s->t σ H Q->Rj (Ro X.prog X.w) X.A (eval e X.env) (EP X pins σ Q) X.xe s
def PT(X:Cx)(e:RP)(t:TT):Prop:=
 ∀(pins:List (Addr×Obj)) (s:QQ) (σ:St) (H:Hp) (Q:Bool->Hp->Prop),Inv X pins σ H s->t σ H Q->Rj (Ro X.prog X.w) X.A (isTrue e X.env (eval e X.env)) (TP X pins σ Q) X.xe s
def PW(X:Cx)(e:RP)(t:TT):Prop:=
 ∀(whole:Sem Value) (pins:List (Addr×Obj)) (s:QQ) (σ:St) (H:Hp) (Q:Bool->Hp->Prop),Inv X pins σ H s->t σ H Q->Rj (Ro X.prog X.w) X.A (isTrue e X.env whole) (TP X pins σ Q) X.xe s
theorem PW.pt(h:PW X e t):PT X e t:=h _
def PA(X:Cx)(es:List RP)(t:TA):Prop:=
 ∀(pos:Uh) (pins:List (Addr×Obj)) (s:QQ) (σ:St) (H:Hp) (Q:List V->Hp->Prop),Inv X pins σ H s->t σ H Q->Rj (Ro X.prog X.w) X.A (spliced (Te pos (Q6 es X.env))) (AP X pins σ Q) X.xe s
def PS(X:Cx)(st:Stmt)(t:TS):Prop:=
 ∀(pins:List (Addr×Obj)) (s:QQ) (σ:St) (H:Hp) (D:nC),Inv X pins σ H s->t D σ H->Rj (Ro X.prog X.w) X.A (exec st X.env) (SP X pins D) X.xe s
def tZ(X:Cx)(st:List Stmt)(t:TS):Prop:=
 ∀(pins:List (Addr×Obj)) (s:QQ) (σ:St) (H:Hp) (D:nC),Inv X pins σ H s->t D σ H->Rj (Ro X.prog X.w) X.A (execs st X.env) (SP X pins D) X.xe s
theorem bQ{Q Q':α->QQ->Prop}{E:Value->QQ->Prop}(h:Rj M A t Q E s)(hQ:∀a s,Q a s->Q' a s):Rj M A t Q' E s:=SA h hQ λ_ _ x=>x
end L2
namespace L2
open PySem PySem.Spec PyProof.Rows
section
variable {X:Cx}
inductive OZ(σ:St)(i:Nat)(Q:V->Prop):Prop where
 |mk (v:V) (e:σ[i]?=some (some v)) (k:Q v):OZ σ i Q
inductive Ng(x:V)(Q:Bool->Prop):Prop where
 |mk (c:Bool) (e:x=.bl c) (k:Q c):Ng x Q
inductive PZ(x:V)(Q:Int->Prop):Prop where
 |mk (i:Int) (e:x=.int i) (k:Q i):PZ x Q
inductive PY(x y:V)(Q:Int->Int->Prop):Prop where
 |mk (i j:Int) (e:x=.int i) (f:y=.int j) (k:Q i j):PY x y Q
inductive Qr(x y:V)(C Q:Int->Int->Prop):Prop where
 |mk (i j:Int) (e:x=.int i) (f:y=.int j) (c:C i j) (k:Q i j):Qr x y C Q
def JV(i:Nat):TE:=λσ H Q=>OZ σ i λv=>Q v H
def tC(v:V):TE:=λ_ H Q=>Q v H
theorem K4{i:Nat}{x:RF}{pos:Uh}(hN:X.N[i]?=some x)(hv:OR X.env.scope x)(hd:(x==("__debug__" : RF))=false:=by decide)(hcd:(x==("__classdict__" : RF))=false:=by decide):PE X (.Name x pos) (JV i):=by
 intro pins s σ H Q I h;obtain⟨v,e,h⟩:=h;obtain⟨m,hn,hl⟩:=I.loc;obtain⟨u,r,l⟩:=hl i x v hN e hv;have fin:EP X pins σ Q u s:=⟨v,H,I,r,h⟩;rcases l with⟨hk,hm⟩ | ⟨hk,c,hc,hcell⟩
 ·exact Z4 (Yi I.ok.kind hk hn hm fin) hd
 ·rcases hk with hk|hk
  ·exact Z4 (YC I.ok.kind hk hc hcell fin) hd
  ·exact Z4 (wpAny_loadName_free I.ok.kind hk hc hcell fin hcd) hd
theorem Lb{i j pos}:PE X (.Constant (.int i) j pos) (tC (.int i)):=λ_ _ _ H _ I h=>wpAny_Constant_int ⟨.int i,H,I.tok _,⟨_,Z⟩,h⟩
theorem N9{b j pos}:PE X (.Constant (.bool b) j pos) (tC (.bl b)):=λ_ _ _ H _ I h=>Constant_bool ⟨.bl b,H,I,Z,h⟩
theorem K9{j pos}:PE X (.Constant .none j pos) (tC .non):=λ_ _ _ H _ I h=>Constant_none ⟨.non,H,I,Z,h⟩
theorem K6{x j pos}:PE X (.Constant (.str x) j pos) (tC (.str x)):=λ_ _ _ H _ I h=>Calls.Constant_str ⟨.str x,H,I.tok _,⟨_,Z⟩,h⟩
def Gl(X:Cx)(x:RF):Prop:=X.env.kindOf x=some .globalImplicit
theorem kW{E:Value->QQ->Prop}{pins:List (Addr×Obj)}{s:QQ}{σ:St}{H:Hp}{x:RF}{u:Value}{pos:Uh}{Q:Value->QQ->Prop}(I:Inv X pins σ H s)(hg:Gl X x)(hm:X.mg x=some u)(h:Q u s)
  (hd:(x==("__debug__" : RF))=false:=by decide):Rj (Ro X.prog X.w) X.A (eval (.Name x pos) X.env) Q E s:=
 Calls.Name_function_global I.ok.kind hg (Calls.loadGlobal_global (by rw[I.ok.glob];exact I.mod.glob.keeps I.bk) hm h) hd
theorem iW{E:Value->QQ->Prop}{pins:List (Addr×Obj)}{s:QQ}{σ:St}{H:Hp}{x:RF}{u:Value}{pos:Uh}{Q:Value->QQ->Prop}(I:Inv X pins σ H s)(hg:Gl X x)(hm:X.mg x=none)(hv:TN x=some u)(h:Q u s)
  (hn:x ≠ "__name__" := by decide) (hd:(x==("__debug__" : RF))=false:=by decide):Rj (Ro X.prog X.w) X.A (eval (.Name x pos) X.env) Q E s:=by
 obtain⟨mb,h1,h2⟩:=I.mod.blt;exact Calls.Name_function_global I.ok.kind hg (Calls.loadGlobal_builtin (by rw[I.ok.glob];exact I.mod.glob.keeps I.bk) hm (by rw[I.ok.blt];exact h1.keeps I.bk) ((h2 x hn).trans hv) h) hd
theorem Hh{x:RF}{v:V}{u:Value}{pos:Uh}(hg:Gl X x)(hm:X.mg x=some u)(r:aY v u)(hd:(x==("__debug__" : RF))=false:=by decide):PE X (.Name x pos) (tC v):=
 λ_ _ _ H _ I h=>kW I hg hm ⟨v,H,I,r,h⟩ hd
theorem Hl{x:RF}{v:V}{u:Value}{pos:Uh}(hg:Gl X x)(hm:X.mg x=none)(hv:TN x=some u)(r:aY v u)(hn:x ≠ "__name__" := by decide)(hd:(x==("__debug__" : RF))=false:=by decide):PE X (.Name x pos) (tC v):=
 λ_ _ _ H _ I h=>iW I hg hm hv ⟨v,H,I,r,h⟩ hn hd
variable {a b:RP}{ta tb:TE}{pos:Uh}
def PC(X:Cx)(op:CmpOp)(a b:RP)(t:TE):Prop:=
 ∀(pins:List (Addr×Obj)) (s:QQ) (σ:St) (H:Hp) (Q:VK),Inv X pins σ H s->t σ H Q→
  Rj (Ro X.prog X.w) X.A (eval a X.env) (λv s₁=>Rj (Ro X.prog X.w) X.A (eval b X.env) (λu s₂=>Rj (Ro X.prog X.w) X.A (Sz op v u) (EP X pins σ Q) X.xe s₂) X.xe s₁) X.xe s
def tB(t:TE):TT:=λσ H Q=>t σ H λx H1=>Ng x λc=>Q c H1
theorem DD{op:CmpOp}{t:TE}(h:PC X op a b t)(h1:TW op b=false:=by first|exact nobehind _ δ δ|rfl):PT X (.Compare a [op] [b] pos) (tB t):=by
 intro pins s σ H Q I hw;refine Ye (bQ (h pins s σ H _ I hw) λv s1 h1=>bQ h1 λu s2 h2=>bQ h2 λc s3 ⟨x,H1,I1,r1,q1⟩=>?_) h1;obtain⟨d,rfl,q⟩:=q1
 cases r1
 exact Tf ⟨H1,I1,q⟩
theorem KM{e:RP}{t:TE}(h:PE X e t)(he:∀whole,isTrue e X.env whole=(do let v ←whole;XV e.pos;holding [v] (truthy v)):=by intro _;rfl):PT X e (tB t):=by
 intro pins s σ H Q I hw;refine isTrue_plain (bQ (h pins s σ H _ I hw) λv s1 ⟨x,H1,I1,r1,q1⟩=>?_) (he _);obtain⟨d,rfl,q⟩:=q1
 cases r1
 exact Tf ⟨H1,I1,q⟩
variable {tA tB':TT}{rest:List RP}
def Nz(t u:TT):TT:=λσ H Q=>t σ H λc H1=>if c=true then u σ H1 Q else Q false H1
def Qg(t u:TT):TT:=λσ H Q=>t σ H λc H1=>if c=true then Q true H1 else u σ H1 Q
def Nt(t:TT):TT:=λσ H Q=>t σ H λc H1=>Q (!c) H1
theorem GB(ha:PT X a tA):PW X (.BoolOp .And [a] pos) tA:=by
 intro wh pins s σ H Q I h;refine isTrue_and (bQ (ha pins s σ H Q I h) λc s1 e=>?_)
 cases c with
 |true=>exact isTrue_and_nil e
 |false=>exact e
theorem KI(ha:PT X a tA):PW X (.BoolOp .Or [a] pos) tA:=by
 intro wh pins s σ H Q I h;refine isTrue_or (bQ (ha pins s σ H Q I h) λc s1 e=>?_)
 cases c with
 |false=>exact isTrue_or_nil e
 |true=>exact e
theorem KJ(ha:PT X a tA)(hb:PW X (.BoolOp .And (b::rest) pos) tB'):PW X (.BoolOp .And (a::b::rest) pos) (Nz tA tB'):=by
 intro wh pins s σ H Q I h;refine isTrue_and (bQ (ha pins s σ H _ I h) λc s1 ⟨H1,I1,q1⟩=>?_)
 cases c with
 |true=>exact hb wh pins s1 σ H1 Q I1 q1
 |false=>exact⟨H1,I1,q1⟩
theorem NW(ha:PT X a tA)(hb:PW X (.BoolOp .Or (b::rest) pos) tB'):PW X (.BoolOp .Or (a::b::rest) pos) (Qg tA tB'):=by
 intro wh pins s σ H Q I h;refine isTrue_or (bQ (ha pins s σ H _ I h) λc s1 ⟨H1,I1,q1⟩=>?_)
 cases c with
 |true=>exact⟨H1,I1,q1⟩
 |false=>exact hb wh pins s1 σ H1 Q I1 q1
theorem KN(ha:PT X a tA):PT X (.UnaryOp .Not a pos) (Nt tA):=by
 intro pins s σ H Q I h;exact isTrue_not (ha pins s σ H (λc H1=>Q (!c) H1) I h)
def IV(ta tb:TE):TE:=λσ H Q=>ta σ H λx H1=>Ng x λc=>if c=true then tb σ H1 Q else Q (.bl false) H1
def Nr(ta tb:TE):TE:=λσ H Q=>ta σ H λx H1=>Ng x λc=>if c=true then Q (.bl true) H1 else tb σ H1 Q
def IP(ta:TE):TE:=λσ H Q=>ta σ H λx H1=>Ng x λc=>Q (.bl (!c)) H1
theorem K7{op}(h:PE X a t):PE X (.BoolOp op [a] pos) t:=λpins s σ H Q I hw=>BoolOp_one (h pins s σ H Q I hw)
theorem Ld(ha:PE X a ta)(hb:PE X (.BoolOp .And (b::rest) pos) tb):PE X (.BoolOp .And (a::b::rest) pos) (IV ta tb):=by
 intro pins s σ H Q I h;refine BoolOp_and (bQ (ha pins s σ H _ I h) λv s1 ⟨x,H1,I1,r1,q1⟩=>?_);obtain⟨c,rfl,q1⟩:=q1
 cases r1
 refine Tf ?_
 cases c with
 |true=>exact hb pins s1 σ H1 Q I1 q1
 |false=>exact⟨.bl false,H1,I1,Z,q1⟩
theorem N5(ha:PE X a ta)(hb:PE X (.BoolOp .Or (b::rest) pos) tb):PE X (.BoolOp .Or (a::b::rest) pos) (Nr ta tb):=by
 intro pins s σ H Q I h;refine BoolOp_or (bQ (ha pins s σ H _ I h) λv s1 ⟨x,H1,I1,r1,q1⟩=>?_);obtain⟨c,rfl,q1⟩:=q1
 cases r1
 refine Tf ?_
 cases c with
 |false=>exact hb pins s1 σ H1 Q I1 q1
 |true=>exact⟨.bl true,H1,I1,Z,q1⟩
theorem K8(ha:PE X a ta):PE X (.UnaryOp .Not a pos) (IP ta):=by
 intro pins s σ H Q I h;refine UnaryOp_ (bQ (ha pins s σ H _ I h) λv s1 ⟨x,H1,I1,r1,q1⟩=>?_);obtain⟨c,rfl,q1⟩:=q1
 cases r1
 exact not_of (Tf ⟨.bl (!c),H1,I1,Z,q1⟩)
end
end L2
namespace L2
open PySem PySem.Spec PyProof.Rows
def aJ(K:QJ)(H:Hp)(a:Addr)(xs:List V):Prop:=
 Rd H a (.lst xs)∨
  ∃(o:Obj) (its:Array Value) (n:Nat),K.lookup a=some o/\o.cls=.type "list"/\o.dict=none/\o.data=.seq its n/\its.size≤sizeLine/\aW xs its.toList
def cE(K:QJ)(H:Hp)(a:Addr)(xs:List V):Prop:=
 Rd H a (.tup xs)∨
  ∃(o:Obj) (its:Array Value) (n:Nat),K.lookup a=some o/\o.cls=.type "tuple"/\o.data=.seq its n/\its.size≤sizeLine/\aW xs its.toList
def PK:Value->Option V
 | .none=>some .non
 | .bool b=>some (.bl b)
 | .int i _=>some (.int i)
 | .str x _=>some (.str x)
 | .bytes b _=>some (.byt b)
 | .float b _=>some (.flt b)
 | .ref a=>some (.ref a)
 | .type n=>some (.ty n)
 |_=>none
theorem aY.abs(r:aY x u):PK u=some x:=by
 cases x with
 |non=>cases r;rfl
 |bl _=>cases r;rfl
 |int _=>obtain⟨t,rfl⟩:=r;rfl
 |str _=>obtain⟨t,rfl⟩:=r;rfl
 |byt _=>obtain⟨t,rfl⟩:=r;rfl
 |flt _=>obtain⟨t,rfl⟩:=r;rfl
 |ref _=>cases r;rfl
 |ty _=>cases r;rfl
theorem aY.inj(r:aY x u)(q:aY y u):x=y:=R6 (r.abs.symm.trans q.abs)
theorem aW.inj:∀{xs ys:List V} {us:List Value},aW xs us->aW ys us->xs=ys
 |_,_,_,.nil,.nil=>rfl
 |_,_,_,.cons r t,.cons r' t'=>by rw[r.inj r',aW.inj t t']
section
variable {X:Cx}{pins:List (Addr×Obj)}{σ:St}{H:Hp}{s:QQ}{a:Addr}{xs ys:List V}
theorem aJ.of{K:QJ}(h:H a=some (.lst xs)):aJ K H a xs:=.inl (.inl h)
theorem cE.of{K:QJ}(h:H a=some (.tup xs)):cE K H a xs:=.inl (.inl h)
theorem Inv.list(I:Inv X pins σ H s)(h:aJ X.K H a xs):∃its:List Value,aW xs its/\PlainL s.heap a its.toArray/\xs.length≤sizeLine:=by
 rcases h with h | ⟨o,its,n,hk,hc,hd,hs,hz,r⟩
 ·obtain⟨z,its,n,r,e⟩:=h.ok I.hok;exact⟨its,r,⟨_,n,e,Z,Z,Z⟩,z⟩
 ·refine⟨its.toList,r,⟨o,n,I.kIn a o hk,hc,hd,by simpa using hs⟩,?_⟩;have e:=r.length;simp only[Tq] at e;lia
theorem Inv.tuple(I:Inv X pins σ H s)(h:cE X.K H a xs):∃its:List Value,aW xs its/\IsTup s.heap a its.toArray/\xs.length≤sizeLine:=by
 rcases h with h | ⟨o,its,n,hk,hc,hs,hz,r⟩
 ·obtain⟨z,its,r,p⟩:=h.ok I.hok;exact⟨its,r,p,z⟩
 ·refine⟨its.toList,r,⟨o,I.kIn a o hk,hc,n,by simpa using hs⟩,?_⟩;have e:=r.length;simp only[Tq] at e;lia
theorem Inv.list_inj(I:Inv X pins σ H s)(h:aJ X.K H a xs)(h':aJ X.K H a ys):xs=ys:=by
 obtain⟨its,r,⟨o,n,e,_,_,d⟩,_⟩:=I.list h;obtain⟨its',r',⟨o',n',e',_,_,d'⟩,_⟩:=I.list h';rw[e] at e';cases e';rw[d] at d';injection d' with d1 _;have:its=its':=by simpa using congrArg Array.toList d1
 subst this;exact r.inj r'
theorem Inv.tuple_inj(I:Inv X pins σ H s)(h:cE X.K H a xs)(h':cE X.K H a ys):xs=ys:=by
 obtain⟨its,r,⟨o,e,_,n,d⟩,_⟩:=I.tuple h;obtain⟨its',r',⟨o',e',_,n',d'⟩,_⟩:=I.tuple h';rw[e] at e';cases e';rw[d] at d';injection d' with d1 _;have:its=its':=by simpa using congrArg Array.toList d1
 subst this;exact r.inj r'
end
abbrev Cx.wish(X:Cx)(E:Value->QQ->Prop):Cx:={ X with xe:=E}
abbrev Cx.nox(X:Cx):Cx:=X.wish λ_ _=>False
theorem Cx.Ok.wish{X:Cx}(ok:X.Ok)(E:Value->QQ->Prop):(X.wish E).Ok:=
 ⟨ok.mod,ok.kind,ok.glob,ok.blt,ok.above,ok.inj,ok.has,ok.cab,ok.hd,ok.frames,ok.stk,ok.exf,ok.bs,ok.bsz,ok.noex,ok.exfs,ok.funs,ok.frf⟩
theorem Cx.Ok.unwish{X:Cx}(ok:(X.wish E).Ok):X.Ok:=
 ⟨ok.mod,ok.kind,ok.glob,ok.blt,ok.above,ok.inj,ok.has,ok.cab,ok.hd,ok.frames,ok.stk,ok.exf,ok.bs,ok.bsz,ok.noex,ok.exfs,ok.funs,ok.frf⟩
section
variable {X:Cx}{pins:List (Addr×Obj)}{σ:St}{H:Hp}{s:QQ}{E:Value->QQ->Prop}
theorem Inv.wish(I:Inv X pins σ H s)(E:Value->QQ->Prop):Inv (X.wish E) pins σ H s:=⟨I.ok.wish E,I.os,I.bare,I.base,I.loc,I.cell,I.free,I.freeC,I.pin,I.hok,I.len⟩
theorem Inv.unwish(I:Inv (X.wish E) pins σ H s):Inv X pins σ H s:=⟨I.ok.unwish,I.os,I.bare,I.base,I.loc,I.cell,I.free,I.freeC,I.pin,I.hok,I.len⟩
theorem SP.unwish(h:SP (X.wish E) pins D f s'):SP X pins D f s':=by
 cases f with
 |next=>obtain⟨σ',H',I,q⟩:=h;exact⟨σ',H',I.unwish,q⟩
 |brk=>obtain⟨σ',H',I,q⟩:=h;exact⟨σ',H',I.unwish,q⟩
 |cont=>obtain⟨σ',H',I,q⟩:=h;exact⟨σ',H',I.unwish,q⟩
 |ret u=>obtain⟨v,σ',H',I,r,q⟩:=h;exact⟨v,σ',H',I.unwish,r,q⟩
theorem tZ.nox{st:List Stmt}(h:tZ X.nox st t):tZ X st t:=λpins s σ H D I hw=>
 SA (h pins s σ H D (I.wish _) hw) (λ_ _ q=>q.unwish) λ_ _ z=>Sn z
end
section
variable {X:Cx}{st:Stmt}{rest:List Stmt}{t u:TS}{e:RP}{te:TE}{pos:Uh}
def IQ:TS:=λD σ H=>D.nx σ H
def JX(t u:TS):TS:=λD σ H=>t { D with nx:=u D} σ H
theorem GG:tZ X [] IQ:=λ_ _ σ H _ I h=>Vy ⟨σ,H,I,h⟩
theorem DE(h1:PS X st t)(h2:tZ X rest u):tZ X (st::rest) (JX t u):=by
 intro pins s σ H D I h;refine ZD (bQ (h1 pins s σ H { D with nx:=u D} I h) λf s1 q=>?_)
 cases f with
 |next=>
  obtain⟨σ',H',I',q⟩:=q;exact h2 pins s1 σ' H' D I' q
 |ret v=>exact q
 |brk=>exact q
 |cont=>exact q
theorem GF(h1:PS X st t):tZ X [st] t:=by
 intro pins s σ H D I h;refine ZD (bQ (h1 pins s σ H D I h) λf s1 q=>?_)
 cases f with
 |next=>exact Vy q
 |ret v=>exact q
 |brk=>exact q
 |cont=>exact q
def Bc:TS:=λD σ H=>D.bk σ H
theorem DH:PS X (.Break pos) Bc:=λ_ _ σ H _ I h=>wpAny_Break ⟨σ,H,I,h⟩
theorem Inv.quiet{pins:List (Addr×Obj)}{σ:St}{H:Hp}{s:QQ}(I:Inv X pins σ H s):interactive X.env=false:=by simp[interactive,I.ok.kind]
def IS(te:TE):TS:=λD σ H=>te σ H λ_ H1=>D.nx σ H1
theorem GK(he:PE X e te)(hs:TZ e none pos.line X.env=SS false:=by rfl):PS X (.Expr e pos) (IS te):=by
 intro pins s σ H D I h;exact wpAny_Expr_any (bQ (he pins s σ H _ I h) λv s1 ⟨x,H1,I1,r1,q1⟩=>⟨σ,H1,I1,q1⟩) I.quiet hs
def Np(te:TE):TS:=λD σ H=>te σ H D.rt
theorem KP(he:PE X e te):PS X (.Return (some e) pos) (Np te):=by
 intro pins s σ H D I h;exact wpAny_Return_some (bQ (he pins s σ H _ I h) λv s1 ⟨x,H1,I1,r1,q1⟩=>⟨x,σ,H1,I1,r1,q1⟩)
def Nv(c:TT)(t u:TS):TS:=λD σ H=>c σ H λb H1=>if b=true then t D σ H1 else u D σ H1
theorem NZ(hc:PT X c tc)(ha:tZ X a t)(hb:tZ X b u):PS X (.If c a b pos) (Nv tc t u):=by
 intro pins s σ H D I h;refine wpAny_If (bQ (hc pins s σ H _ I h) λd s1 ⟨H1,I1,q1⟩=>?_)
 cases d with
 |true=>exact ha pins s1 σ H1 D I1 q1
 |false=>exact hb pins s1 σ H1 D I1 q1
def A8:TS:=λ_ _ _=>False
theorem DG:PS X st A8:=λ_ _ _ _ _ _ h=>h.elim
end
abbrev TG:=V->St->Hp->(St->Hp->Prop)->Prop
abbrev AR:=List V->St->Hp->(St->Hp->Prop)->Prop
def PG(X:Cx)(target:RP)(t:TG):Prop:=
 ∀(pins:List (Addr×Obj)) (s:QQ) (σ:St) (H:Hp) (v:V) (u:Value) (Q:St->Hp->Prop),Inv X pins σ H s->aY v u->t v σ H Q→
  Rj (Ro X.prog X.w) X.A (Wi target X.env u) (λ_ s'=>∃σ' H',Inv X pins σ' H' s'/\Q σ' H') X.xe s
def Nb(X:Cx)(ts:List RP)(t:AR):Prop:=
 ∀(pins:List (Addr×Obj)) (s:QQ) (σ:St) (H:Hp) (vs:List V) (us:List Value) (Q:St->Hp->Prop),Inv X pins σ H s->aW vs us->t vs σ H Q→
  Rj (Ro X.prog X.w) X.A (YG ((So ts X.env).map (·.2)) us) (λ_ s'=>∃σ' H',Inv X pins σ' H' s'/\Q σ' H') X.xe s
abbrev xm:=V->V->V->Hp->(Hp->Prop)->Prop
def FG(X:Cx)(t:xm):Prop:=
 ∀(pins:List (Addr×Obj)) (s:QQ) (σ:St) (H:Hp) (o i v:V) (ov iv u:Value) (Q:Hp->Prop),Inv X pins σ H s->aY o ov->aY i iv->aY v u->t o i v H Q→
  Rj (Ro X.prog X.w) X.A (Y2 ov iv u) (λ_ s'=>∃H',Inv X pins σ H' s'/\Q H') X.xe s
abbrev JH:=V->V->Hp->VK->Prop
def Na(X:Cx)(op:Y3)(t:JH):Prop:=
 ∀(pins:List (Addr×Obj)) (s:QQ) (σ:St) (H:Hp) (x y:V) (v u:Value) (Q:VK),Inv X pins σ H s->aY x v->aY y u->t x y H Q→
  Rj (Ro X.prog X.w) X.A (inplaceOp op v u) (EP X pins σ Q) X.xe s
section
variable {X:Cx}{pos:Uh}
def mX(i:Nat):TG:=λv σ H Q=>Q (σ.set i (some v)) H
theorem G0{i:Nat}{x:RF}(hN:X.N.Nodup)(hi:X.N[i]?=some x)(hx:AT X.env.scope x)(hf:X.fn x=true∨X.env.scope.names.lookup x=some .local:=by first|exact .inl Z|exact .inr Z|assumption):PG X (.Name x pos) (mX i):=by
 intro pins s σ H v u Q I r h;exact Y4 (gQ I hN hi hx r (λs' I'=>⟨_,H,I',h⟩) hf)
def Mu:AR:=λvs σ H Q=>vs=[]/\Q σ H
def yR(t:TG)(u:AR):AR:=λvs σ H Q=>∃v r,vs=v::r/\t v σ H λσ' H'=>u r σ' H' Q
theorem GY:Nb X [] Mu:=by
 intro pins s σ H vs us Q I r h;obtain⟨e,h⟩:=h;subst e
 cases r
 exact Y5 ⟨σ,H,I,h⟩
theorem DS{e:RP}{es:List RP}{t:TG}{u:AR}(h1:PG X e t)(h2:Nb X es u)
  (hs:(So (e::es) X.env).map (·.2)=Wi e X.env::(So es X.env).map (·.2):=by rfl):Nb X (e::es) (yR t u):=by
 intro pins s σ H vs us Q I r h;obtain⟨v,vr,e1,h⟩:=h;subst e1
 cases r with
 |cons r rr=>
  rw[hs];refine WO (bQ (h1 pins s σ H _ _ _ I r h) λ_ s1 ⟨σ1,H1,I1,q1⟩=>?_);exact h2 pins s1 σ1 H1 _ _ Q I1 rr q1
def Fc(K:QJ)(n:Nat)(t:AR):TG:=λv σ H Q=>∃a xs,v=.ref a/\cE K H a xs/\xs.length=n/\t xs σ H Q
theorem DT{es:List RP}{k:Nat}{t:AR}{n:Nat}(hc:X.calm=true)(h:Nb X es t)
  (hn:(So es X.env).length=n:=by rfl) (hst:(So es X.env).findIdx? (·.1)=none:=by rfl):PG X (.Tuple es k pos) (Fc X.K n t):=by
 intro pins s σ H v u Q I r hw;obtain⟨a,xs,e1,hq,hl,hw⟩:=hw;subst e1
 cases r
 obtain⟨its,rv,ht,hz⟩:=I.tuple hq;refine assign_Tuple_tuple (I.ok.hd hc) ht (by simp[hn,←hl,rv.length]) hst λh' hx=>?_
 have I1:Inv X pins σ H { s with heap:=h'}:=I.kept (t':=s.toks) λb o e=>hx b o (RZ (Re e)) e
 exact h pins _ σ H xs _ Q I1 (by simpa using rv) hw
def OF(to ti:TE)(t:xm):TG:=λv σ H Q=>to σ H λo H1=>ti σ H1 λi H2=>t o i v H2 λH3=>Q σ H3
theorem K3{o i:RP}{to ti:TE}{t:xm}(ho:PE X o to)(hi:PE X i ti)(hs:FG X t)
  (ha:∀v,Wi (.Subscript o i pos) X.env v=(do
   let ov ←holding [v] (eval o X.env);let iv ←holding [v,ov] (eval i X.env)
   XV pos
   holding [v,ov,iv] (Y2 ov iv v)
   release [v,ov,iv] []):=by intro _;rfl):PG X (.Subscript o i pos) (OF to ti t):=by
 intro pins s σ H v u Q I r h;rw[ha];refine QR (wpAny_holding (bQ (ho pins s σ H _ I h) λov s1 ⟨x,H1,I1,r1,q1⟩=>?_));refine QR (wpAny_holding (bQ (hi pins s1 σ H1 _ I1 q1) λiv s2 ⟨y,H2,I2,r2,q2⟩=>?_));refine QR (Vt (QR (wpAny_holding (bQ (hs pins s2 σ H2 x y v ov iv u _ I2 r1 r2 r q2) λ_ s3 ⟨H3,I3,q3⟩=>?_))));exact wpAny_release ⟨σ,H3,I3,q3⟩
def uh(te:TE)(g:TG):TS:=λD σ H=>te σ H λx H1=>g x σ H1 D.nx
theorem KW{tg e:RP}{te:TE}{g:TG}(he:PE X e te)(hg:PG X tg g)(hs:Xm [tg] e pos.line X.env=SS false:=by rfl)(hw:Xn [tg] e X.env=SS none:=by rfl)
  (h1:(So [tg] X.env).map (·.2)=[Wi tg X.env]:=by rfl):PS X (.Assign [tg] e pos) (uh te g):=by
 intro pins s σ H D I h;refine wpAny_Assign_stores (bQ (he pins s σ H _ I h) λv s1 ⟨x,H1,I1,r1,q1⟩=>?_) hs hw;rw[h1];exact bQ (hg pins s1 σ H1 x v _ I1 r1 q1) λ_ s2 q=>q
theorem KO{i:Nat}{x:RF}{e:RP}{te:TE}{pos':Uh}(hN:X.N.Nodup)(hi:X.N[i]?=some x)(hx:AT X.env.scope x)(he:PE X e te)(hs:TZ e (some (.Name x pos')) pos.line X.env=SS false:=by rfl)(hf:X.fn x=true∨X.env.scope.names.lookup x=some .local:=by first|exact .inl Z|exact .inr Z|assumption) :
  PS X (.Assign [.Name x pos'] e pos) (uh te (mX i)):=by
 intro pins s σ H D I h;refine wpAny_Assign_Name (bQ (he pins s σ H _ I h) λv s1 ⟨y,H1,I1,r1,q1⟩=>?_) hs;exact gQ I1 hN hi hx r1 (λs2 I2=>⟨_,H1,I2,q1⟩) hf
def Nq(i j:Nat)(ta:TA):TS:=λD σ H=>ta σ H λvs H1=>∃v w,vs=[v,w]/\D.nx ((σ.set i (some v)).set j (some w)) H1
theorem KQ{i j:Nat}{x y:RF}{a b:RP}{ta:TA}{px py pt:Uh}{kt k2 pt2}(hc:X.calm=true)(hN:X.N.Nodup)(hi:X.N[i]?=some x)(hj:X.N[j]?=some y)(hij:i≠j)
  (hx:X.env.scope.names.lookup x=some .local) (hy:X.env.scope.names.lookup y=some .local) (ha:PA X [a,b] ta)
  (hw:Xn [.Tuple [.Name x px,.Name y py] kt pt] (.Tuple [a,b] k2 pt2) X.env=SS (some [x,y]))
  (hs:Xm [.Tuple [.Name x px,.Name y py] kt pt] (.Tuple [a,b] k2 pt2) pos.line X.env=SS false:=by rfl) :
  PS X (.Assign [.Tuple [.Name x px,.Name y py] kt pt] (.Tuple [a,b] k2 pt2) pos) (Nq i j ta):=by
 intro pins s σ H D I h;rw[exec_Assign_arm];refine QR (Vt ?_);rw[hs];refine QR (wpAny_pure ?_);rw[if_neg δ];refine QR (Tuple_ (bQ (ha _ pins s σ H _ I h) λus s1 ⟨vs,H1,I1,r1,q1⟩=>?_));obtain⟨v,w,e1,q1⟩:=q1;subst e1;obtain⟨u1,u2,rfl,rv,rw'⟩:∃u1 u2,us=[u1,u2]/\aY v u1/\aY w u2:=by
  cases r1 with
  |cons p q=>
   cases q with
   |cons p' q'=>
    cases q'
    exact⟨_,_,Z,p,p'⟩
 refine Th ?_ eI;have I2:Inv X pins σ H1 { s1 with heap:=s1.heap.push { cls:=.type "tuple",data:=.seq [u1,u2].toArray} }:=I1.kept (t':=s1.toks) λb o e=>QP _ e
 rw[hw];refine QR (wpAny_pure ?_);show Rj (Ro X.prog X.w) X.A (do rule "assign.swapped-stores";let items ←unpackItems (.ref s1.heap.objs.size) 2 none;YG [λv=>Z5 X.env y v,λv=>Z5 X.env x v] items.reverse;SS aaB) _ _ _;refine QR (wpAny_rule (QR (unpackItems_tuple (items:=#[u1,u2]) (I.ok.hd hc) (aaC s1.heap _) λh' hx'=>?_)));have I3:=I2.kept (h':=h') (t':=s1.toks) λb o e=>hx' b o (RZ (Re e)) e
 show Rj _ _ (YG [λv=>Z5 X.env y v,λv=>Z5 X.env x v] [u2,u1] >>= λ_=>SS aaB) _ _ _;refine QR (WO (wpAny_bindName (gQ I3 hN hj (.inl hy) rw' (λs2 I4=>?_) (.inr hy))));refine WO (wpAny_bindName (gQ I4 hN hi (.inl hx) rv (λs3 I5=>Y5 (wpAny_pure ?_)) (.inr hx)));rw[List.set_comm _ _ (SO hij)] at I5;exact⟨_,H1,I5,q1⟩
def Ny(i:Nat)(te:TE)(ti:JH):TS:=λD σ H=>∃x,σ[i]?=some (some x)/\te σ H λy H1=>ti x y H1 λz H2=>D.nx (σ.set i (some z)) H2
theorem KU{i:Nat}{x:RF}{e:RP}{te:TE}{op:Y3}{ti:JH}{pos':Uh}(hN:X.N.Nodup)(hi:X.N[i]?=some x)(hx:AT X.env.scope x)(he:PE X e te)(ho:Na X op ti)(hf:X.fn x=true∨X.env.scope.names.lookup x=some .local:=by first|exact .inl Z|exact .inr Z|assumption) :
  PS X (.AugAssign (.Name x pos') op e pos) (Ny i te ti):=by
 intro pins s σ H D I h;obtain⟨v,e1,h⟩:=h;obtain⟨m,hn,hl⟩:=I.loc;have vis:OR X.env.scope x:=by rcases hx with k|k;exact .inl k;exact .inr (.inl k)
 obtain⟨u,r,l⟩:=hl i x v hi e1 vis;refine wpAny_AugAssign_Name ?_;have go:Rj (Ro X.prog X.w) X.A (eval e X.env) (λw s₂=>Rj (Ro X.prog X.w) X.A (inplaceOp op u w) (λr s₃=>Rj (Ro X.prog X.w) X.A (storeName X.env x r) (λ_=>SP X pins D .next) X.xe s₃) X.xe s₂) X.xe s:=by
  refine bQ (he pins s σ H _ I h) λw s1 ⟨y,H1,I1,r1,q1⟩=>?_
  refine bQ (ho pins s1 σ H1 v y u w _ I1 r r1 q1) λz s2 ⟨zv,H2,I2,r2,q2⟩=>?_
  exact gQ I2 hN hi hx r2 (λs3 I3=>⟨_,H2,I3,q2⟩) hf
 rcases l with⟨hk,hm⟩ | ⟨hk,c,hc,hcell⟩
 ·exact Yi I.ok.kind hk hn hm go
 ·rcases hk with hk|hk
  ·exact YC I.ok.kind hk hc hcell go
  ·rcases hx with k|k
   ·have:X.env.scope.names.lookup x=some .free:=hk;rw[k] at this;cases this
   ·have:X.env.scope.names.lookup x=some .free:=hk;rw[k] at this;cases this
def IU(to ti te:TE)(tget:V->V->Hp->VK->Prop)(tip:JH)(tset:xm):TS:=λD σ H=>to σ H λo H1=>ti σ H1 λi H2=>tget o i H2 λx H3=>te σ H3 λy H4=>tip x y H4 λz H5=>tset o i z H5 λH6=>D.nx σ H6
def MW(X:Cx)(t:V->V->Hp->VK->Prop):Prop:=
 ∀(pins:List (Addr×Obj)) (s:QQ) (σ:St) (H:Hp) (o i:V) (ov iv:Value) (Q:VK),Inv X pins σ H s->aY o ov->aY i iv->t o i H Q→
  Rj (Ro X.prog X.w) X.A (Xd ov iv) (EP X pins σ Q) X.xe s
theorem GM{o i e:RP}{to ti te:TE}{tget:V->V->Hp->VK->Prop}{tip:JH}{tset:xm}{op:Y3}{tpos:Uh}(ho:PE X o to)(hi:PE X i ti)(hg:MW X tget)(he:PE X e te)(hp:Na X op tip)(hs:FG X tset)
  (ha:∀ov iv new,augStore i ov iv new=(do holding [new,ov,iv] (Y2 ov iv new);release [new,ov,iv] [];SS .next):=by intros;rfl):PS X (.AugAssign (.Subscript o i tpos) op e pos) (IU to ti te tget tip tset):=by
 intro pins s σ H D I h;refine wpAny_AugAssign_SubscriptAny (bQ (ho pins s σ H _ I h) λov s1 ⟨x1,H1,I1,r1,q1⟩=>?_) ha;refine bQ (hi pins s1 σ H1 _ I1 q1) λiv s2 ⟨x2,H2,I2,r2,q2⟩=>?_
 refine bQ (hg pins s2 σ H2 x1 x2 ov iv _ I2 r1 r2 q2) λold s3 ⟨x3,H3,I3,r3,q3⟩=>?_
 refine bQ (he pins s3 σ H3 _ I3 q3) λv s4 ⟨x4,H4,I4,r4,q4⟩=>?_
 refine bQ (hp pins s4 σ H4 x3 x4 old v _ I4 r3 r4 q4) λnew s5 ⟨x5,H5,I5,r5,q5⟩=>?_
 exact bQ (hs pins s5 σ H5 x1 x2 x5 ov iv new _ I5 r1 r2 r5 q5) λ_ s6 ⟨H6,I6,q6⟩=>⟨σ,H6,I6,q6⟩
def Ql(f:Int->Int->Int):JH:=λx y H Q=>PY x y λi j=>Q (.int (f i j)) H
theorem tH:Na X .Add (Ql λi j=>i+j):=by
 intro pins s σ H x y v u Q I r1 r2 h;obtain⟨i,j,e1,e2,q⟩:=h;subst e1;subst e2;obtain⟨t,rfl⟩:=r1;obtain⟨t',rfl⟩:=r2;exact iadd_int ⟨.int _,H,I.tok _,⟨_,Z⟩,q⟩
theorem wL:Na X .Sub (Ql λi j=>i-j):=by
 intro pins s σ H x y v u Q I r1 r2 h;obtain⟨i,j,e1,e2,q⟩:=h;subst e1;subst e2;obtain⟨t,rfl⟩:=r1;obtain⟨t',rfl⟩:=r2;exact isub_int ⟨.int _,H,I.tok _,⟨_,Z⟩,q⟩
end
section
variable {X:Cx}{pos:Uh}
def A7(c:TT)(tb:TS):TS:=λD σ H=>∃W:Nat->St->Hp->Prop,(∃m,W m σ H)/\∀m σ H,W m σ H→
 c σ H λb H1=>if b=true then ∃N:St->Hp->Prop,(∀σ' H',N σ' H'->∃m',m'<m/\W m' σ' H')/\tb { D with nx:=N,ct:=N,bk:=D.nx} σ H1 else D.nx σ H1
theorem DF(hp:PassesOwn (Ro X.prog X.w) X.A X.env X.xe)(hc:PT X c tc)(hb:tZ X body tb):PS X (.While c body [] pos) (A7 tc tb):=by
 intro pins s σ H D I h;obtain⟨W,⟨m0,w0⟩,turn⟩:=h;refine wpAny_While (codeAny_whileLoop (λn s'=>∃σ' H',Inv X pins σ' H' s'/\W n σ' H') ?_ m0 ⟨σ,H,I,w0⟩);rintro n s1 ⟨σ1,H1,I1,w1⟩;refine Uj hp (bQ (hc pins s1 σ1 H1 _ I1 (turn n σ1 H1 w1)) λb s2 ⟨H2,I2,q2⟩=>?_)
 cases b with
 |true=>
  obtain⟨N,hN,q2⟩:=q2;rw[if_pos Z];refine Uj hp (bQ (hb pins s2 σ1 H2 _ I2 q2) λf s3 q3=>?_)
  cases f with
  |next=>
   obtain⟨σ3,H3,I3,n3⟩:=q3;obtain⟨m',hm,w3⟩:=hN σ3 H3 n3;exact⟨m',hm,σ3,H3,I3,w3⟩
  |cont=>
   obtain⟨σ3,H3,I3,n3⟩:=q3;obtain⟨m',hm,w3⟩:=hN σ3 H3 n3;exact⟨m',hm,σ3,H3,I3,w3⟩
  |brk=>exact q3
  |ret v=>exact q3
 |false=>
  rw[if_neg Rn];exact Vy ⟨σ1,H2,I2,q2⟩
end
structure It where
 go:Nat->Hp->Prop
 yld:Nat->Hp->V->Hp->Prop
 stop:Nat->Hp->Prop
def gc(X:Cx)(pins:List (Addr×Obj))(H:Hp)(b:Addr):Prop:=
 H b=none/\b≠X.env.locals/\b∉X.fs/\(b∈X.ex∨X.s₀.heap.get? b=none)/\(∀x c,X.env.cells.lookup x=some c->c≠b)/\∀p∈X.pn++pins,p.1≠b
theorem Inv.fpOk{X:Cx}{pins:List (Addr×Obj)}{σ:St}{H H':Hp}{s:QQ}{b:Addr}(I:Inv X pins σ H s)(hb:s.heap.objs.size≤b)(hn:H' b=none):gc X pins H' b:=by
 refine⟨hn,Ur (Q7 I.lt hb),I.nofs hb,.inr (Tb (RC I.sz hb)),λx c e z=>?_,λp hp z=>?_⟩
 ·obtain⟨v,q⟩:=I.cell x c e;exact absurd (Q7 q.lt (by rw[z];exact hb)) (Ss _)
 ·exact absurd (Q7 (Re (I.pin p hp).1) (by rw[z];exact hb)) (Ss _)
structure xi(P:Rz)(w:RS)(K:QJ)(tg:RP)(J:It)(fp:List Addr)(it:Addr)(tn:Nat->Ra->Prop):Prop where
 mem:it∈fp
 obj:∀i h,tn i h->∀b∈fp,∃o,h.get? b=some o/\∀v,o.data≠.cell v
 keep:∀i h h',tn i h->(∀b∈fp,∀o,h.get? b=some o->h'.get? b=some o)->tn i h'
 item:∀(X:Cx),X.prog=P->X.w=w->X.K=K->X.calm=true->∀(i:Nat) (pins:List (Addr×Obj)) (s:QQ) (σ:St) (H:Hp) (E:Value->QQ->Prop),Inv X pins σ H s->(∀b∈fp,gc X pins H b)->tn i s.heap->J.go i H→
  Rj (Ro P w) X.A (pyNext (.ref it)) (λr s1=>∃u,r=some u∧
   Rj (Ro P w) X.A (Wj tg (.ref it) u) (λ_ s2=>∃x H',Inv X pins σ H' s2/\aY x u/\J.yld i H x H'/\tn (i+1) s2.heap/\∀b∈fp,H' b=none) E s1) E s
 done:∀(X:Cx),X.prog=P->X.w=w->X.K=K->X.calm=true->∀(i:Nat) (pins:List (Addr×Obj)) (s:QQ) (σ:St) (H:Hp) (E:Value->QQ->Prop),Inv X pins σ H s->(∀b∈fp,gc X pins H b)->tn i s.heap->J.stop i H→
  Rj (Ro P w) X.A (pyNext (.ref it)) (λr s1=>r=none/\Inv X pins σ H s1) E s
 self:∀(A:RK) (i:Nat) (s:QQ) (Q:Value->QQ->Prop) (E:Value->QQ->Prop),tn i s.heap->Q (.ref it) s->Rj (Ro P w) A (pyIter (.ref it)) Q E s
abbrev TI:=St->Hp->(It->Hp->Prop)->Prop
def Qm(X:Cx)(pins:List (Addr×Obj))(σ:St)(tg:RP)(R:It->Hp->Prop)(itv:Value)(s2:QQ):Prop:=
 ∃(it:Addr) (fp:List Addr) (tn:Nat->Ra->Prop) (J:It) (H':Hp),itv=.ref it/\Inv X pins σ H' s2/\xi X.prog X.w X.K tg J fp it tn/\tn 0 s2.heap/\(∀b∈fp,gc X pins H' b)/\R J H'
def PI(X:Cx)(tg iter:RP)(wi:TI):Prop:=
 ∀(pins:List (Addr×Obj)) (s:QQ) (σ:St) (H:Hp) (R:It->Hp->Prop),Inv X pins σ H s->wi σ H R→
  Rj (Ro X.prog X.w) X.A (eval iter X.env) (λv s1=>Rj (Ro X.prog X.w) X.A (pyIter v) (Qm X pins σ tg R) X.xe s1) X.xe s
theorem yO(ho:s.heap.get? it=some o)(hc:o.cls=.type n)(hd:o.data=.fields vs)
  (hn:["enumerate","zip","dict_itemiterator","dict_reverseitemiterator","odict_iterator","itertools.zip_longest","itertools.pairwise"].contains n=false) (hQ:Q () s):Rj M A (Wj tg (.ref it) u) Q E s:=by
 unfold Wj
 cases tg<;>first
  |exact wpAny_pure hQ
  | (cases u<;>first
    |exact wpAny_pure hQ
    | (refine QR (wpAny_load ho ?_)
       rw[hc,hd];show Rj M A (if(["enumerate","zip","dict_itemiterator","dict_reverseitemiterator","odict_iterator","itertools.zip_longest","itertools.pairwise"].contains n&&vs[0]?==some (rawInt _))=true then _ else _) Q E s;rw[if_neg (by intro h;rw[hn,VM] at h;cases h)];exact wpAny_pure hQ))
def xx(K:QJ)(a:Addr):It:=
 ⟨λi H=>∃xs x,aJ K H a xs/\xs[i]?=some x,λi H x H'=>H'=H/\∀xs,aJ K H a xs->xs[i]?=some x,λi H=>∃xs,aJ K H a xs/\xs.length≤i⟩
def JL(K:QJ)(a:Addr):It:=
 ⟨λi H=>∃xs x,cE K H a xs/\xs[i]?=some x,λi H x H'=>H'=H/\∀xs,cE K H a xs->xs[i]?=some x,λi H=>∃xs,cE K H a xs/\xs.length≤i⟩
def FO(lo:Int)(n:Nat):It:=⟨λi _=>i<n,λi H x H'=>H'=H/\x=.int (lo+i),λi _=>n≤i⟩
theorem qr{P:Rz}{w:RS}{K:QJ}{tg:RP}(a it:Addr):xi P w K tg (xx K a) [it] it (λi h=>h.IsListIter it a i) where
 mem:=by simp
 obj:=λi h st b hb=>by
  have e:b=it:=by simpa using hb
  subst e;obtain⟨o,e,c,d⟩:=st;exact⟨o,e,λv z=>by rw[d] at z;cases z⟩
 keep:=λi h h' st k=>st.at λo e=>k it (by simp) o e
 item:=by
  intro X hP hw hK hc i pins s σ H E I hf st hg;subst hP hw hK;obtain⟨xs,x,hq,hx⟩:=hg;obtain⟨its,rv,p,hz⟩:=I.list hq;obtain⟨u,hu,ru⟩:=rv.get hx;obtain⟨f0,f1,f2,f3,f4,f5⟩:=hf it (by simp);refine wpAny_pyNext_list_item st p.isList (x:=u) (by simpa using hu) λh' st' sb=>?_
  have I1:Inv X pins σ H { s with heap:=h'}:=I.turned (t':=s.toks) (λb o hb e=>(sb.2 b hb).trans e) f0 f1 f3 f4 f5;obtain⟨o,e,c,d⟩:=id st';exact⟨u,Z,yO (s:={ s with heap:=h'}) e c d δ ⟨x,H,I1,ru,⟨rfl,λys hy=>by rw[I.list_inj hy hq];exact hx⟩,st',λb hb=>(hf b hb).1⟩⟩
 done:=by
  intro X hP hw hK hc i pins s σ H E I hf st hg;subst hP hw hK;obtain⟨xs,hq,hx⟩:=hg;obtain⟨its,rv,p,hz⟩:=I.list hq;obtain⟨f0,f1,f2,f3,f4,f5⟩:=hf it (by simp);have hl:=rv.length;exact wpAny_pyNext_list_end (I.ok.hd hc) st p.isList (by simp;lia) λh' eb=>⟨Z,I.turned (t':=s.toks) (λb o hb e=>eb b o hb e) f0 f1 f3 f4 f5⟩
 self:=λ_ _ _ _ _ st h=>wpAny_pyIter_listiter st h
theorem oh{P:Rz}{w:RS}{K:QJ}{tg:RP}(a it:Addr):xi P w K tg (JL K a) [it] it (λi h=>h.IsTupleIter it a i) where
 mem:=by simp
 obj:=λi h st b hb=>by
  have e:b=it:=by simpa using hb
  subst e;obtain⟨o,e,c,d⟩:=st;exact⟨o,e,λv z=>by rw[d] at z;cases z⟩
 keep:=λi h h' st k=>st.at λo e=>k it (by simp) o e
 item:=by
  intro X hP hw hK hc i pins s σ H E I hf st hg;subst hP hw hK;obtain⟨xs,x,hq,hx⟩:=hg;obtain⟨its,rv,p,hz⟩:=I.tuple hq;obtain⟨u,hu,ru⟩:=rv.get hx;obtain⟨f0,f1,f2,f3,f4,f5⟩:=hf it (by simp);refine wpAny_pyNext_tuple_item st (show s.heap.IsTuple a its.toArray from p) (x:=u) (by simpa using hu) λh' st' sb=>?_
  have I1:Inv X pins σ H { s with heap:=h'}:=I.turned (t':=s.toks) (λb o hb e=>(sb.2 b hb).trans e) f0 f1 f3 f4 f5;obtain⟨o,e,c,d⟩:=id st';exact⟨u,Z,yO (s:={ s with heap:=h'}) e c d δ ⟨x,H,I1,ru,⟨rfl,λys hy=>by rw[I.tuple_inj hy hq];exact hx⟩,st',λb hb=>(hf b hb).1⟩⟩
 done:=by
  intro X hP hw hK hc i pins s σ H E I hf st hg;subst hP hw hK;obtain⟨xs,hq,hx⟩:=hg;obtain⟨its,rv,p,hz⟩:=I.tuple hq;obtain⟨f0,f1,f2,f3,f4,f5⟩:=hf it (by simp);have hl:=rv.length;exact wpAny_pyNext_tuple_end (I.ok.hd hc) st (show s.heap.IsTuple a its.toArray from p) (by simp;lia) λh' eb=>⟨Z,I.turned (t':=s.toks) (λb o hb e=>eb b o hb e) f0 f1 f3 f4 f5⟩
 self:=λ_ _ _ _ _ st h=>wpAny_pyIter_tupleiter st h
theorem vq{P:Rz}{w:RS}{K:QJ}{tg:RP}(it:Addr)(lo:Int)(n:Nat):xi P w K tg (FO lo n) [it] it (λi h=>IsRangeIter h it (lo+(i:Nat)*1) ((n:Int)-(i:Nat)) 1) where
 mem:=by simp
 obj:=λi h st b hb=>by
  have e:b=it:=by simpa using hb
  subst e;exact⟨_,st,λv z=>by
   have z':Data.fields _=Data.cell v:=z
   cases z'⟩
 keep:=λi h h' st k=>k it (by simp) _ st
 item:=by
  intro X hP hw hK hc i pins s σ H E I hf st hg;subst hP hw hK;obtain⟨f0,f1,f2,f3,f4,f5⟩:=hf it (by simp);have W:=Walks.range (prog:=X.prog) (w:=X.w) (I.ok.hd hc) it lo 1 n;refine W.item i s _ _ hg st λv h' tk hv st' kk=>?_
  obtain⟨t,rfl⟩:=hv;have I1:Inv X pins σ H { s with heap:=h',toks:=tk}:=I.turned (λb o hb e=>kk b o (by simpa using hb) e) f0 f1 f3 f4 f5;refine⟨_,rfl,yO (s:={ s with heap:=h',toks:=tk}) (n := "range_iterator") st' rfl rfl δ ⟨.int (lo+i),H,I1,⟨t,?_⟩,⟨rfl,rfl⟩,st',λb hb=>(hf b hb).1⟩⟩;rw[Int.mul_one]
 done:=by
  intro X hP hw hK hc i pins s σ H E I hf st hg;subst hP hw hK;obtain⟨f0,f1,f2,f3,f4,f5⟩:=hf it (by simp);exact wpAny_pyNext_range_end (I.ok.hd hc) st (by have:n≤i:=hg;lia) λh' eb=>⟨Z,I.turned (t':=s.toks) (λb o hb e=>eb b o hb e) f0 f1 f3 f4 f5⟩
 self:=λ_ _ _ _ _ st h=>wpAny_pyIter_rangeiter st h
end L2
namespace L2
open PySem PySem.Spec PyProof.Rows
section
variable {X:Cx}{tg:RP}
inductive PX(x:V)(P Q:Addr->Prop):Prop where
 |mk (a:Addr) (e:x=.ref a) (h:P a) (k:Q a):PX x P Q
def EV(K:QJ)(tl:TE):TI:=λσ H R=>tl σ H λx H1=>PX x (λa=>∃xs,aJ K H1 a xs) λa=>R (xx K a) H1
def HU(K:QJ)(tl:TE):TI:=λσ H R=>tl σ H λx H1=>PX x (λa=>∃xs,cE K H1 a xs) λa=>R (JL K a) H1
theorem GW(hl:PE X l tl):PI X tg l (EV X.K tl):=by
 intro pins s σ H R I h;refine bQ (hl pins s σ H _ I h) λv s1 ⟨x,H1,I1,r1,q1⟩=>?_
 obtain⟨a,e,⟨xs,hq⟩,q⟩:=q1;subst e
 cases r1
 obtain⟨its,rv,p,hz⟩:=I1.list hq;refine Xe p.isList ?_;refine⟨s1.heap.objs.size,[s1.heap.objs.size],_,_,H1,Z,I1.kept (t':=s1.toks) λb o e=>QP _ e,qr a _,⟨_,Rg _ Z,Z,Z⟩,λb hb=>?_,q⟩;have e:b=s1.heap.objs.size:=by simpa using hb
 subst e;exact I1.fpOk (QY _) (I1.hok.fresh (QY _))
theorem DP(hl:PE X l tl):PI X tg l (HU X.K tl):=by
 intro pins s σ H R I h;refine bQ (hl pins s σ H _ I h) λv s1 ⟨x,H1,I1,r1,q1⟩=>?_
 obtain⟨a,e,⟨xs,hq⟩,q⟩:=q1;subst e
 cases r1
 obtain⟨its,rv,p,hz⟩:=I1.tuple hq;refine YN (show s1.heap.IsTuple a its.toArray from p) ?_;refine⟨s1.heap.objs.size,[s1.heap.objs.size],_,_,H1,Z,I1.kept (t':=s1.toks) λb o e=>QP _ e,oh a _,⟨_,Rg _ Z,Z,Z⟩,λb hb=>?_,q⟩;have e:b=s1.heap.objs.size:=by simpa using hb
 subst e;exact I1.fpOk (QY _) (I1.hok.fresh (QY _))
theorem uy{pins:List (Addr×Obj)}{σ:St}{H:Hp}{s:QQ}{R:It->Hp->Prop}{E:Value->QQ->Prop}{lo hi:Int}{t u v:Tok}{tk:Nat}(I:Inv X pins σ H s)(h1:-(2^62)≤lo)(h2:lo<2^62)(h3:-(2^62)≤hi)(h4:hi<2^62)
  (q:R (FO lo (hi-lo).toNat) H):Rj (Ro X.prog X.w) X.A (pyIter (.ref s.heap.objs.size)) (Qm X pins σ tg R) E { s with heap:=s.heap.push { cls:=.type "range",data:=.fields #[.int lo t,.int hi u,.int 1 v]},toks:=tk}:=by
 refine wpAny_pyIter_range (IsRange.new ..) (small_one h1 h2 h3 h4) ?_;have I1:Inv X pins σ H { s with heap:=s.heap.push { cls:=.type "range",data:=.fields #[.int lo t,.int hi u,.int 1 v]},toks:=tk}:=I.kept λb o e=>QP _ e
 refine⟨(s.heap.push { cls:=.type "range",data:=.fields #[.int lo t,.int hi u,.int 1 v]}).objs.size,[(s.heap.push { cls:=.type "range",data:=.fields #[.int lo t,.int hi u,.int 1 v]}).objs.size],_,_,H,Z,
  I1.kept (t':=tk) λb o e=>QP _ e,vq _ lo (hi-lo).toNat,?_,λb hb=>?_,q⟩
 ·have e1:lo+((0:Nat):Int)*1=lo:=by simp
  have e2:(((hi-lo).toNat:Nat):Int)-((0:Nat):Int)=VG lo hi 1:=by rw[YH];split<;>lia
  show IsRangeIter _ _ (lo+((0:Nat):Int)*1) ((((hi-lo).toNat:Nat):Int)-((0:Nat):Int)) 1;rw[e1,e2];exact Rg _ Z
 ·have e:b=(s.heap.push { cls:=.type "range",data:=.fields #[.int lo t,.int hi u,.int 1 v]}).objs.size:=by simpa using hb
  subst e;exact I1.fpOk (QY _) (I1.hok.fresh (QY _))
def Jy(ta:TA):TI:=λσ H R=>ta σ H λvs H1=>∃j:Int,vs=[.int j]/\-(2^62)≤j/\j<2^62/\R (FO 0 j.toNat) H1
def Jx(ta:TA):TI:=λσ H R=>ta σ H λvs H1=>∃i j:Int,vs=[.int i,.int j]/\(-(2^62)≤i/\i<2^62/\-(2^62)≤j/\j<2^62)/\R (FO i (j-i).toNat) H1
theorem zV{a:RP}{ta:TA}{p pos:Uh}(hg:Gl X "range")(hm:X.mg "range"=none)(ha:PA X [a] ta)(hs:Q6 [a] X.env=[(false,eval a X.env)]:=by rfl):PI X tg (.Call (.Name "range" p) [a] [] pos) (Jy ta):=by
 intro pins s σ H R I h;refine Call_ (iW I hg hm Z6 (Td (bQ (ha pos pins s σ H _ I h) λus s1 ⟨vs,H1,I1,r1,q1⟩=>?_) hs Z));obtain⟨j,e,q1,q2,q⟩:=q1;subst e
 cases r1 with
 |cons r rr=>
  cases rr
  obtain⟨t,rfl⟩:=r;exact call_range_1 (uy I1 ω ω q1 q2 (by simpa using q))
theorem zU{a b:RP}{ta:TA}{p pos:Uh}(hg:Gl X "range")(hm:X.mg "range"=none)(ha:PA X [a,b] ta)(hs:Q6 [a,b] X.env=[(false,eval a X.env),(false,eval b X.env)]:=by rfl)(hs2:Q6 [b] X.env=[(false,eval b X.env)]:=by rfl) :
  PI X tg (.Call (.Name "range" p) [a,b] [] pos) (Jx ta):=by
 intro pins s σ H R I h;refine Call_ (iW I hg hm Z6 (Td (bQ (ha pos pins s σ H _ I h) λus s1 ⟨vs,H1,I1,r1,q1⟩=>?_) (by rw[hs,hs2]) (by rw[hs2];rfl)));obtain⟨i,j,e,⟨q1,q2,q3,q4⟩,q⟩:=q1;subst e
 cases r1 with
 |cons r rr=>
  cases rr with
  |cons r' rr=>
   cases rr
   obtain⟨t,rfl⟩:=r;obtain⟨t',rfl⟩:=r';exact call_range_2 (uy I1 q1 q2 q3 q4 q)
def Nw(wi:TI)(g:TG)(tb:TS):TS:=λD σ H=>wi σ H λJ H1=>∃W:Nat->Nat->St->Hp->Prop,(∃m,W 0 m σ H1)/\∀i m σ H,W i m σ H→
 (J.stop i H/\D.nx σ H)∨(J.go i H/\∃N:St->Hp->Prop,(∀σ' H',N σ' H'->∃m',m'<m/\W (i+1) m' σ' H')/\∀x H',J.yld i H x H'->g x σ H' λσ2 H2=>tb { D with nx:=N,ct:=N,bk:=D.nx} σ2 H2)
def oO(fp:List Addr)(h:Ra):List (Addr×Obj):=fp.filterMap λb=>(h.get? b).map λo=>(b,o)
theorem iq(hb:b∈fp)(e:h.get? b=some o):(b,o)∈oO fp h:=VE.mpr ⟨b,hb,by rw[e];rfl⟩
theorem zZ(hp:p∈oO fp h):p.1∈fp/\h.get? p.1=some p.2:=by
 obtain⟨b,hb,e⟩:=VE.mp hp
 cases q:h.get? b with
 |none=>rw[q] at e;cases e
 |some o=>
  rw[q] at e;have e':(b,o)=p:=R6 e;subst e';exact⟨hb,q⟩
theorem Inv.pinned{pins:List (Addr×Obj)}{σ:St}{H:Hp}{s:QQ}{fp:List Addr}(I:Inv X pins σ H s)(hf:∀b∈fp,gc X pins H b)(ho:∀b∈fp,∃o,s.heap.get? b=some o/\∀v,o.data≠.cell v):Inv X (pins++oO fp s.heap) σ H s:=
 I.pins_of λp hp=>(Rc.mp hp).elim (λz=>I.pin p (Rh _ z)) λz=>by
  obtain⟨hb,e⟩:=zZ z;obtain⟨f0,f1,f2,_⟩:=hf p.1 hb;obtain⟨o,e',d⟩:=ho p.1 hb;rw[e] at e';cases e';exact⟨e,f0,f1,f2,d⟩
theorem Inv.unpinned{pins pl:List (Addr×Obj)}{σ:St}{H:Hp}{s:QQ}(I:Inv X (pins++pl) σ H s):Inv X pins σ H s:=I.pins_of λp hp=>I.pin p (Rh _ (RN _ hp))
theorem KR{iter:RP}{body:List Stmt}{wi:TI}{g:TG}{tb:TS}{pos:Uh}(hp:PassesOwn (Ro X.prog X.w) X.A X.env X.xe)(hc:X.calm=true)(hi:PI X tg iter wi)(hg:PG X tg g)(hb:tZ X body tb)
  (hs:∀x,SJ iter X.env x=SS x:=by intro _;rfl):PS X (.For tg iter body [] pos) (Nw wi g tb):=by
 intro pins s σ H D I h;refine wpAny_For (bQ (hi pins s σ H _ I h) λv s1 h1=>bQ h1 λitv s2 h2=>?_) hs;obtain⟨it,fp,tn,J,H2,e,I2,T,st2,f2,W,⟨m0,w0⟩,turn⟩:=h2;subst e;have stat:∀{H':Hp},(∀b∈fp,H' b=none)->∀b∈fp,gc X pins H' b:=λhn b hb=>⟨hn b hb,(f2 b hb).2⟩
 refine codeAny_forLoop_any (λn s'=>∃i σ' H',Inv X pins σ' H' s'/\tn i s'.heap/\(∀b∈fp,H' b=none)/\W i n σ' H') ?_ m0 ⟨0,σ,H2,I2,st2,λb hb=>(f2 b hb).1,w0⟩;rintro n s3 ⟨i,σ3,H3,I3,st3,fr3,w3⟩;rcases turn i n σ3 H3 w3 with⟨stop,qn⟩ | ⟨go,N,hN,step⟩
 ·refine Uj hp (bQ (T.done X Z Z Z hc i pins s3 σ3 H3 X.xe I3 (stat fr3) st3 stop) λr s4 ⟨hr,I4⟩=>?_);subst hr;exact Vy ⟨σ3,H3,I4,qn⟩
 ·refine Uj hp (bQ (T.item X Z Z Z hc i pins s3 σ3 H3 X.xe I3 (stat fr3) st3 go) λr s4 ⟨u,hr,h4⟩=>?_);subst hr;refine Uj hp (bQ h4 λ_ s5 ⟨x,H5,I5,r5,y5,st5,fr5⟩=>?_);have I5':=I5.pinned (stat fr5) (T.obj _ _ st5);refine Uj hp (bQ (hg _ s5 σ3 H5 x u _ I5' r5 (step x H5 y5)) λ_ s6 ⟨σ6,H6,I6,q6⟩=>?_);refine Uj hp (bQ (hb _ s6 σ6 H6 _ I6 q6) λf s7 q7=>?_);have again:∀{σ7:St} {H7:Hp},Inv X (pins++oO fp s5.heap) σ7 H7 s7->N σ7 H7->∃m,m<n/\∃i σ' H',Inv X pins σ' H' s7/\tn i s7.heap/\(∀b∈fp,H' b=none)/\W i m σ' H':=λ{σ7 H7} I7 n7=>by
   obtain⟨m',hm,w7⟩:=hN σ7 H7 n7;refine⟨m',hm,i+1,σ7,H7,I7.unpinned,T.keep _ _ _ st5 λb hb o e=>(I7.pin (b,o) (Rh _ (Rh _ (iq hb e)))).1,λb hb=>?_,w7⟩;obtain⟨o,e,d⟩:=T.obj _ _ st5 b hb;exact(I7.pin (b,o) (Rh _ (Rh _ (iq hb e)))).2.1
  cases f with
  |next=>obtain⟨σ7,H7,I7,n7⟩:=q7;exact again I7 n7
  |cont=>obtain⟨σ7,H7,I7,n7⟩:=q7;exact again I7 n7
  |brk=>obtain⟨σ7,H7,I7,q7⟩:=q7;exact⟨σ7,H7,I7.unpinned,q7⟩
  |ret v=>obtain⟨x7,σ7,H7,I7,r7,q7⟩:=q7;exact⟨x7,σ7,H7,I7.unpinned,r7,q7⟩
end
theorem c6{K:QJ}{a:Addr}{xs:List V}{g:TG}{tb:TS}{D:nC}{σ:St}{H:Hp}(Pv:Nat->St->Hp->Prop)(h0:Pv 0 σ H)(hl:∀i σ H,i≤xs.length->Pv i σ H->aJ K H a xs)
  (hs:∀i x σ H,xs[i]?=some x->Pv i σ H->g x σ H λσ2 H2=>tb { D with nx:=Pv (i+1),ct:=Pv (i+1),bk:=D.nx} σ2 H2) (hd:∀σ H,Pv xs.length σ H->D.nx σ H) :
  ∃W:Nat->Nat->St->Hp->Prop,(∃m,W 0 m σ H)/\∀i m σ H,W i m σ H→
   ((xx K a).stop i H/\D.nx σ H)∨((xx K a).go i H/\∃N:St->Hp->Prop,(∀σ' H',N σ' H'->∃m',m'<m/\W (i+1) m' σ' H')/\∀x H',(xx K a).yld i H x H'->g x σ H' λσ2 H2=>tb { D with nx:=N,ct:=N,bk:=D.nx} σ2 H2):=by
 refine⟨λi m σ H=>m=xs.length-i/\i≤xs.length/\Pv i σ H,⟨xs.length,by simp,Rq _,h0⟩,?_⟩;rintro i m σ H ⟨rfl,hi,p⟩;have q:=hl i σ H hi p;by_cases hlt:i<xs.length
 ·refine .inr ⟨⟨xs,xs[i],q,by simp[hlt]⟩,Pv (i+1),λσ' H' p'=>⟨xs.length-(i+1),ω,Z,hlt,p'⟩,λx H' y=>?_⟩;obtain⟨e,y⟩:=y;subst e;exact hs i x σ _ (y xs q) p
 ·have e:i=xs.length:=ω
  subst e;exact .inl ⟨⟨xs,q,QY _⟩,hd σ H p⟩
theorem nW{K:QJ}{a:Addr}{xs:List V}{g:TG}{tb:TS}{D:nC}{σ:St}{H:Hp}(Pv:Nat->St->Hp->Prop)(h0:Pv 0 σ H)(hl:∀i σ H,i≤xs.length->Pv i σ H->cE K H a xs)
  (hs:∀i x σ H,xs[i]?=some x->Pv i σ H->g x σ H λσ2 H2=>tb { D with nx:=Pv (i+1),ct:=Pv (i+1),bk:=D.nx} σ2 H2) (hd:∀σ H,Pv xs.length σ H->D.nx σ H) :
  ∃W:Nat->Nat->St->Hp->Prop,(∃m,W 0 m σ H)/\∀i m σ H,W i m σ H→
   ((JL K a).stop i H/\D.nx σ H)∨((JL K a).go i H/\∃N:St->Hp->Prop,(∀σ' H',N σ' H'->∃m',m'<m/\W (i+1) m' σ' H')/\∀x H',(JL K a).yld i H x H'->g x σ H' λσ2 H2=>tb { D with nx:=N,ct:=N,bk:=D.nx} σ2 H2):=by
 refine⟨λi m σ H=>m=xs.length-i/\i≤xs.length/\Pv i σ H,⟨xs.length,by simp,Rq _,h0⟩,?_⟩;rintro i m σ H ⟨rfl,hi,p⟩;have q:=hl i σ H hi p;by_cases hlt:i<xs.length
 ·refine .inr ⟨⟨xs,xs[i],q,by simp[hlt]⟩,Pv (i+1),λσ' H' p'=>⟨xs.length-(i+1),ω,Z,hlt,p'⟩,λx H' y=>?_⟩;obtain⟨e,y⟩:=y;subst e;exact hs i x σ _ (y xs q) p
 ·have e:i=xs.length:=ω
  subst e;exact .inl ⟨⟨xs,q,QY _⟩,hd σ H p⟩
theorem cD{lo:Int}{n:Nat}{g:TG}{tb:TS}{D:nC}{σ:St}{H:Hp}(Pv:Nat->St->Hp->Prop)(h0:Pv 0 σ H)
  (hs:∀i σ H,i<n->Pv i σ H->g (.int (lo+i)) σ H λσ2 H2=>tb { D with nx:=Pv (i+1),ct:=Pv (i+1),bk:=D.nx} σ2 H2) (hd:∀σ H,Pv n σ H->D.nx σ H) :
  ∃W:Nat->Nat->St->Hp->Prop,(∃m,W 0 m σ H)/\∀i m σ H,W i m σ H→
   ((FO lo n).stop i H/\D.nx σ H)∨((FO lo n).go i H/\∃N:St->Hp->Prop,(∀σ' H',N σ' H'->∃m',m'<m/\W (i+1) m' σ' H')/\∀x H',(FO lo n).yld i H x H'->g x σ H' λσ2 H2=>tb { D with nx:=N,ct:=N,bk:=D.nx} σ2 H2):=by
 refine⟨λi m σ H=>m=n-i/\i≤n/\Pv i σ H,⟨n,by simp,Rq _,h0⟩,?_⟩;rintro i m σ H ⟨rfl,hi,p⟩;by_cases hlt:i<n
 ·refine .inr ⟨hlt,Pv (i+1),λσ' H' p'=>⟨n-(i+1),ω,Z,hlt,p'⟩,λx H' y=>?_⟩;obtain⟨e,y⟩:=y;subst e y;exact hs i σ _ hlt p
 ·have e:i=n:=ω
  subst e;exact .inl ⟨QY _,hd σ H p⟩
end L2
namespace L2
open PySem PySem.Spec PyProof.Rows
abbrev R2:=V->V->Hp->VK->Prop
def iF(X:Cx)(f:Value->Value->Sem Value)(r:R2):Prop:=
 ∀(pins:List (Addr×Obj)) (s:QQ) (σ:St) (H:Hp) (x y:V) (v u:Value) (Q:VK),Inv X pins σ H s->aY x v->aY y u->r x y H Q→
  Rj (Ro X.prog X.w) X.A (f v u) (EP X pins σ Q) X.xe s
def Pe(X:Cx)(f:Value->Sem Value)(r:V->Hp->VK->Prop):Prop:=
 ∀(pins:List (Addr×Obj)) (s:QQ) (σ:St) (H:Hp) (x:V) (v:Value) (Q:VK),Inv X pins σ H s->aY x v->r x H Q→
  Rj (Ro X.prog X.w) X.A (f v) (EP X pins σ Q) X.xe s
def eF(X:Cx)(f:Value)(r:List V->Hp->VK->Prop):Prop:=
 ∀(pins:List (Addr×Obj)) (s:QQ) (σ:St) (H:Hp) (xs:List V) (us:List Value) (Q:VK),Inv X pins σ H s->aW xs us->r xs H Q→
  Rj (Ro X.prog X.w) X.A (call f us) (EP X pins σ Q) X.xe s
def F4(r:R2)(ta tb:TE):TE:=λσ H Q=>ta σ H λx H1=>tb σ H1 λy H2=>r x y H2 Q
def Qe(r:V->Hp->VK->Prop)(ta:TE):TE:=λσ H Q=>ta σ H λx H1=>r x H1 Q
def rI(C:Int->Int->Prop)(g:Int->Int->V):R2:=λx y H Q=>Qr x y C λi j=>Q (g i j) H
def Je(g:Int->Int->V):R2:=λx y H Q=>PY x y λi j=>Q (g i j) H
def rU(g:Int->V):V->Hp->VK->Prop:=λx H Q=>PZ x λi=>Q (g i) H
section
variable {X:Cx}{a b c:RP}{ta tb tc:TE}{pos:Uh}
theorem MI(ha:PE X a ta)(hb:PE X b tb){pins:List (Addr×Obj)}{s:QQ}{σ:St}{H:Hp}{R:V->V->Hp->Prop}(I:Inv X pins σ H s)
  (h:ta σ H λx H1=>tb σ H1 λy H2=>R x y H2) {Q:Value->QQ->Prop} {f:Value->Value->Sem Value}
  (hf:∀v u s2 x y H2,Inv X pins σ H2 s2->aY x v->aY y u->R x y H2->Rj (Ro X.prog X.w) X.A (f v u) Q X.xe s2) :
  Rj (Ro X.prog X.w) X.A (eval a X.env) (λv s₁=>Rj (Ro X.prog X.w) X.A (eval b X.env) (λu s₂=>Rj (Ro X.prog X.w) X.A (f v u) Q X.xe s₂) X.xe s₁) X.xe s:=by
 refine bQ (ha pins s σ H _ I h) λv s1 ⟨x,H1,I1,r1,q1⟩=>?_
 refine bQ (hb pins s1 σ H1 _ I1 q1) λu s2 ⟨y,H2,I2,r2,q2⟩=>?_
 exact hf v u s2 x y H2 I2 r1 r2 q2
theorem N6(ho:iF X (Ua op) r)(ha:PE X a ta)(hb:PE X b tb):PE X (.BinOp a op b pos) (F4 r ta tb):=by
 intro pins s σ H Q I h;exact wpAny_BinOp (MI ha hb I h λv u s2 x y H2 I2 rx ry q=>ho pins s2 σ H2 x y v u Q I2 rx ry q)
theorem N4(ho:Pe X (unaryOp op) r)(ha:PE X a ta):PE X (.UnaryOp op a pos) (Qe r ta):=by
 intro pins s σ H Q I h;exact UnaryOp_ (bQ (ha pins s σ H _ I h) λv s1 ⟨x,H1,I1,r1,q1⟩=>ho pins s1 σ H1 x v Q I1 r1 q1)
theorem Ll{f:Value->Value->Sem Value}{C:Int->Int->Prop}{g:Int->Int->Int}
  (rule:∀(i j:Int) (t u:Tok) (s:QQ) (Q:Value->QQ->Prop) (E:Value->QQ->Prop),C i j->Q (.int (g i j) s.toks) { s with toks:=s.toks+1}->Rj (Ro X.prog X.w) X.A (f (.int i t) (.int j u)) Q E s) :
  iF X f (rI C λi j=>.int (g i j)):=by
 intro pins s σ H x y v u Q I rx ry h;obtain⟨i,j,rfl,rfl,hc,q⟩:=h;obtain⟨t,rfl⟩:=rx;obtain⟨t',rfl⟩:=ry;exact rule i j t t' s _ _ hc ⟨.int (g i j),H,I.tok _,⟨_,Z⟩,q⟩
theorem Ob{f:Value->Value->Sem Value}{g:Int->Int->Int}
  (rule:∀(i j:Int) (t u:Tok) (s:QQ) (Q:Value->QQ->Prop) (E:Value->QQ->Prop),Q (.int (g i j) s.toks) { s with toks:=s.toks+1}->Rj (Ro X.prog X.w) X.A (f (.int i t) (.int j u)) Q E s) :
  iF X f (Je λi j=>.int (g i j)):=by
 intro pins s σ H x y v u Q I rx ry h;obtain⟨i,j,rfl,rfl,q⟩:=h;obtain⟨t,rfl⟩:=rx;obtain⟨t',rfl⟩:=ry;exact rule i j t t' s _ _ ⟨.int (g i j),H,I.tok _,⟨_,Z⟩,q⟩
theorem Hx{f:Value->Value->Sem Value}{g:Int->Int->Bool}
  (rule:∀(i j:Int) (t u:Tok) (s:QQ) (Q:Value->QQ->Prop) (E:Value->QQ->Prop),Q (.bool (g i j)) s->Rj (Ro X.prog X.w) X.A (f (.int i t) (.int j u)) Q E s) :
  iF X f (Je λi j=>.bl (g i j)):=by
 intro pins s σ H x y v u Q I rx ry h;obtain⟨i,j,rfl,rfl,q⟩:=h;obtain⟨t,rfl⟩:=rx;obtain⟨t',rfl⟩:=ry;exact rule i j t t' s _ _ ⟨.bl (g i j),H,I,Z,q⟩
def P9(i j:Int):Prop:=0<j/\j<1073741824
def P7(i j:Int):Prop:=0≤j/\j≤1000000/\i.natAbs<2^64
def M1(i j:Int):Prop:=(-(2^64)<i/\i<2^64)∨(-(2^64)<j/\j<2^64)
theorem M1.ok(h:M1 i j):IntMulOk i j:=by
 rcases h with⟨h1,h2⟩ | ⟨h1,h2⟩
 ·exact .of_left (intBits_le_64 h1 h2)
 ·exact .of_right (intBits_le_64 h1 h2)
theorem Ec:iF X (Ua .Add) (Je λi j=>.int (i+j)):=Ob λ_ _ _ _ _ _ _ q=>add_int q
theorem D8:iF X (Ua .Sub) (Je λi j=>.int (i-j)):=Ob λ_ _ _ _ _ _ _ q=>sub_int q
theorem D9:iF X (Ua .Mult) (rI M1 λi j=>.int (i*j)):=Ll λ_ _ _ _ _ _ _ hc q=>mul_int q hc.ok
theorem Hw:iF X (Ua .FloorDiv) (rI P9 λi j=>.int (i/j)):=Ll λi j _ _ _ _ _ hc q=>by
 have h1:(0:Int)<j:=hc.1;have h2:j<1073741824:=hc.2;exact Y6 ω (by rw[Va i ω];exact q) (.inl (PyProof.noPylong_small ω))
theorem Lk:iF X (Ua .Mod) (rI (λ_ j=>0<j) λi j=>.int (i%j)):=Ll λi j _ _ _ _ _ hc q=>by
 have h1:(0:Int)<j:=hc;exact mod_int' ω (by rw[Int.fmod_eq_emod_of_nonneg i ω];exact q)
theorem Lj:iF X (Ua .Pow) (rI P7 λi j=>.int (i^j.toNat)):=Ll λ_ _ _ _ _ _ _ hc q=>pow_int_small hc.1 hc.2.1 hc.2.2 q
theorem Qw{f:Value->Sem Value}{g:Int->Int}
  (rule:∀(i:Int) (t:Tok) (s:QQ) (Q:Value->QQ->Prop) (E:Value->QQ->Prop),Q (.int (g i) s.toks) { s with toks:=s.toks+1}->Rj (Ro X.prog X.w) X.A (f (.int i t)) Q E s) :
  Pe X f (rU λi=>.int (g i)):=by
 intro pins s σ H x v Q I rx h;obtain⟨i,rfl,q⟩:=h;obtain⟨t,rfl⟩:=rx;exact rule i t s _ _ ⟨.int (g i),H,I.tok _,⟨_,Z⟩,q⟩
theorem sg:Pe X (unaryOp .USub) (rU λi=>.int (-i)):=Qw λ_ _ _ _ _ q=>neg_int q
end
def NE:V->V->Bool
 | .non,.non=>true | .non,.int _=>true | .int _,.non=>true | .non,.bl _=>true | .bl _,.non=>true | .non,.str _=>true | .str _,.non=>true
 | .int _,.int _=>true | .bl _,.bl _=>true | .str _,.str _=>true | .byt _,.byt _=>true
 | .int _,.str _=>true | .str _,.int _=>true | .bl _,.str _=>true | .str _,.bl _=>true
 |_,_=>false
def QB:R2:=λx y H Q=>NE x y=true/\Q (.bl (decide (x=y))) H
def Qy:R2:=λx y H Q=>NE x y=true/\Q (.bl (!decide (x=y))) H
theorem yU:decide (V.int i=V.int j)=(i==j):=by
 rw[Uk];simp
theorem Fl:decide (V.bl i=V.bl j)=(i==j):=by
 rw[Uk];simp
theorem yT:decide (V.str i=V.str j)=(i==j):=by
 rw[Uk];simp
theorem yV:decide (V.byt i=V.byt j)=(i.toList==j.toList):=by
 rw[Uk]
 cases i
 cases j
 simp
section
variable {X:Cx}{a b c:RP}{ta tb tc:TE}{pos:Uh}
theorem bv{pins:List (Addr×Obj)}{σ:St}{H:Hp}{s:QQ}{Q:VK}{k k':Bool}(I:Inv X pins σ H s)(q:Q (.bl k) H)(e:k=k'):EP X pins σ Q (.bool k') s:=by
 subst e;exact⟨.bl k,H,I,Z,q⟩
theorem qO:iF X (Sz .Eq) QB:=by
 intro pins s σ H x y v u Q I rx ry h;obtain⟨hs,q⟩:=h
 cases x with
 |non=>
  cases rx
  cases y with
  |non=>cases ry;exact PySem.EqNone.eq_none_none (bv I q (by simp))
  |bl j=>cases ry;exact PySem.EqNone.eq_none_bool (bv I q (by simp))
  |int j=>obtain⟨t',rfl⟩:=ry;exact PySem.EqNone.eq_none_int (bv I q (by simp))
  |str j=>obtain⟨t',rfl⟩:=ry;exact PySem.EqNone.eq_none_str (bv I q (by simp))
  |_=>exact absurd (show false=true from hs) Rn
 |bl i=>
  cases rx
  cases y with
  |non=>cases ry;exact PySem.EqNone.eq_bool_none (bv I q (by simp))
  |bl j=>cases ry;exact eq_bool (bv I q Fl)
  |str j=>obtain⟨t',rfl⟩:=ry;exact PySem.EqMixed.eq_bool_str (bv I q (by simp))
  |_=>exact absurd (show false=true from hs) Rn
 |int i=>
  obtain⟨t,rfl⟩:=rx
  cases y with
  |non=>cases ry;exact PySem.EqNone.eq_int_none (bv I q (by simp))
  |int j=>obtain⟨t',rfl⟩:=ry;exact eq_int (bv I q yU)
  |str j=>obtain⟨t',rfl⟩:=ry;exact PySem.EqMixed.eq_int_str (bv I q (by simp))
  |_=>exact absurd (show false=true from hs) Rn
 |str i=>
  obtain⟨t,rfl⟩:=rx
  cases y with
  |non=>cases ry;exact PySem.EqNone.eq_str_none (bv I q (by simp))
  |bl j=>cases ry;exact PySem.EqMixed.eq_str_bool (bv I q (by simp))
  |int j=>obtain⟨t',rfl⟩:=ry;exact PySem.EqMixed.eq_str_int (bv I q (by simp))
  |str j=>obtain⟨t',rfl⟩:=ry;exact eq_str (bv I q yT)
  |_=>exact absurd (show false=true from hs) Rn
 |byt i=>
  obtain⟨t,rfl⟩:=rx
  cases y with
  |byt j=>obtain⟨t',rfl⟩:=ry;exact PySem.W.eq_bytes (bv I q yV)
  |_=>exact absurd (show false=true from hs) Rn
 |_=>cases y<;>exact absurd (show false=true from hs) Rn
theorem Oa:iF X (Sz .NotEq) Qy:=by
 intro pins s σ H x y v u Q I rx ry h;obtain⟨hs,q⟩:=h
 cases x with
 |non=>
  cases rx
  cases y with
  |non=>cases ry;exact PySem.EqNone.ne_none_none (bv I q (by simp))
  |bl j=>cases ry;exact PySem.EqNone.ne_none_bool (bv I q (by simp))
  |int j=>obtain⟨t',rfl⟩:=ry;exact PySem.EqNone.ne_none_int (bv I q (by simp))
  |str j=>obtain⟨t',rfl⟩:=ry;exact PySem.EqNone.ne_none_str (bv I q (by simp))
  |_=>exact absurd (show false=true from hs) Rn
 |bl i=>
  cases rx
  cases y with
  |non=>cases ry;exact PySem.EqNone.ne_bool_none (bv I q (by simp))
  |bl j=>cases ry;exact ne_bool (bv I q (congrArg not Fl))
  |str j=>obtain⟨t',rfl⟩:=ry;exact PySem.EqMixed.ne_bool_str (bv I q (by simp))
  |_=>exact absurd (show false=true from hs) Rn
 |int i=>
  obtain⟨t,rfl⟩:=rx
  cases y with
  |non=>cases ry;exact PySem.EqNone.ne_int_none (bv I q (by simp))
  |int j=>obtain⟨t',rfl⟩:=ry;exact ne_int (bv I q (congrArg not yU))
  |str j=>obtain⟨t',rfl⟩:=ry;exact PySem.EqMixed.ne_int_str (bv I q (by simp))
  |_=>exact absurd (show false=true from hs) Rn
 |str i=>
  obtain⟨t,rfl⟩:=rx
  cases y with
  |non=>cases ry;exact PySem.EqNone.ne_str_none (bv I q (by simp))
  |bl j=>cases ry;exact PySem.EqMixed.ne_str_bool (bv I q (by simp))
  |int j=>obtain⟨t',rfl⟩:=ry;exact PySem.EqMixed.ne_str_int (bv I q (by simp))
  |str j=>obtain⟨t',rfl⟩:=ry;exact ne_str (bv I q (congrArg not yT))
  |_=>exact absurd (show false=true from hs) Rn
 |byt i=>
  obtain⟨t,rfl⟩:=rx
  cases y with
  |byt j=>obtain⟨t',rfl⟩:=ry;exact PySem.W.ne_bytes (bv I q (congrArg not yV))
  |_=>exact absurd (show false=true from hs) Rn
 |_=>cases y<;>exact absurd (show false=true from hs) Rn
theorem yx:iF X (Sz .Lt) (Je λi j=>.bl (decide (i<j))):=Hx λ_ _ _ _ _ _ _ q=>lt_int q
theorem Ea:iF X (Sz .LtE) (Je λi j=>.bl (decide (i≤j))):=Hx λ_ _ _ _ _ _ _ q=>le_int q
theorem uG:iF X (Sz .Gt) (Je λi j=>.bl (decide (j<i))):=Hx λ_ _ _ _ _ _ _ q=>gt_int q
theorem Jl:iF X (Sz .GtE) (Je λi j=>.bl (decide (j≤i))):=Hx λ_ _ _ _ _ _ _ q=>ge_int q
theorem oR:iF X (Sz .Is) (λx y H Q=>y=.non/\Q (.bl (decide (x=.non))) H):=by
 intro pins s σ H x y v u Q I rx ry h;obtain⟨rfl,q⟩:=h
 cases ry
 refine is_none_gen (bv I q ?_)
 cases x<;>first
  | (cases rx;rfl)
  | (obtain⟨t,rfl⟩:=rx;rfl)
theorem nP:iF X (Sz .IsNot) (λx y H Q=>y=.non/\Q (.bl (!decide (x=.non))) H):=by
 intro pins s σ H x y v u Q I rx ry h;obtain⟨rfl,q⟩:=h
 cases ry
 refine isnot_none_gen (bv I q ?_)
 cases x<;>first
  | (cases rx;rfl)
  | (obtain⟨t,rfl⟩:=rx;rfl)
theorem aX(b:RP){op:CmpOp}(h:op≠.In:=by decide)(h2:op≠.NotIn:=by decide):TW op b=false:=by
 have e1:(op==CmpOp.In)=false:=by cases op<;>first|rfl|exact absurd Z h
 have e2:(op==CmpOp.NotIn)=false:=by cases op<;>first|rfl|exact absurd Z h2
 cases b<;>simp[TW,e1,e2]
theorem Hj(ho:iF X (Sz op) r)(ha:PE X a ta)(hb:PE X b tb)(hm:TW op b=false):PE X (.Compare a [op] [b] pos) (F4 r ta tb):=by
 intro pins s σ H Q I h;exact wpAny_Compare1 (MI ha hb I h λv u s2 x y H2 I2 rx ry q=>ho pins s2 σ H2 x y v u Q I2 rx ry q) hm
def xJ(t:TE):TT:=λσ H Q=>t σ H λx H'=>Ng x λk=>Q k H'
theorem GE(ho:iF X (Sz op) r)(ha:PE X a ta)(hb:PE X b tb)(hm:TW op b=false):PT X (.Compare a [op] [b] pos) (xJ (F4 r ta tb)):=by
 intro pins s σ H Q I h;refine Ye (bQ (ha pins s σ H _ I h) λv s1 ⟨x,H1,I1,r1,q1⟩=>bQ (hb pins s1 σ H1 _ I1 q1) λu s2 ⟨y,H2,I2,r2,q2⟩=>
  bQ (ho pins s2 σ H2 x y v u _ I2 r1 r2 q2) λc s3 ⟨z,H3,I3,r3,k,e,q3⟩=>?_) hm
 subst e
 cases r3
 exact Tf ⟨H3,I3,q3⟩
def Bb(r r':R2)(ta tb tc:TE):TE:=λσ H Q=>ta σ H λx H1=>tb σ H1 λy H2=>r x y H2 λz H3=>∃k,z=.bl k∧
 (if k=true then tc σ H3 λw' H4=>r' y w' H4 Q else Q (.bl false) H3)
theorem DZ{op op':CmpOp}{r r':R2}(ho:iF X (Sz op) r)(ho':iF X (Sz op') r')(ha:PE X a ta)(hb:PE X b tb)(hc:PE X c tc)
  (hm:lastMarks [op,op'] [b,c]=false:=by with_unfolding_all rfl):PE X (.Compare a [op,op'] [b,c] pos) (Bb r r' ta tb tc):=by
 intro pins s σ H Q I h;refine Compare_chain (bQ (ha pins s σ H _ I h) λv s1 ⟨x,H1,I1,r1,q1⟩=>chain_link (bQ (hb pins s1 σ H1 _ I1 q1) λu s2 ⟨y,H2,I2,r2,q2⟩=>
  bQ (ho pins s2 σ H2 x y v u _ I2 r1 r2 q2) λd s3 ⟨z,H3,I3,r3,k,e,q3⟩=>?_)) hm
 subst e
 cases r3
 refine Tf ?_
 cases k with
 |false=>exact ite_ff ⟨.bl false,H3,I3,Z,q3⟩
 |true=>exact ite_tt (chain_last (bQ (hc pins s3 σ H3 _ I3 q3) λw' s4 ⟨z',H4,I4,r4,q4⟩=>ho' pins s4 σ H4 y z' u w' Q I4 r2 r4 q4))
theorem mB:(sizeLine:Nat)<2^63:=by rw[SU];decide
theorem jB(r:aW [x] us):∃u,us=[u]/\aY x u:=by
 cases r with
 |cons r1 r2=>cases r2;exact⟨_,Z,r1⟩
theorem xD(r:aW [x,y] us):∃u w',us=[u,w']/\aY x u/\aY y w':=by
 cases r with
 |cons r1 r2=>
  cases r2 with
  |cons r3 r4=>cases r4;exact⟨_,_,Z,r1,r3⟩
theorem pT:eF X (.builtin "abs") (λxs H Q=>∃i,xs=[.int i]/\Q (.int (if i<0 then -i else i)) H):=by
 intro pins s σ H xs us Q I r h;obtain⟨i,rfl,q⟩:=h;obtain⟨u,rfl,t,rfl⟩:=jB r;exact call_abs_int λu tk=>⟨.int (if i<0 then -i else i),H,I.tok _,⟨_,Z⟩,q⟩
theorem rL(hc:X.calm=true):eF X (.builtin "max") (λxs H Q=>∃i j,xs=[.int i,.int j]/\Q (.int (if j>i then j else i)) H):=by
 intro pins s σ H xs us Q I r h;obtain⟨i,j,rfl,q⟩:=h;obtain⟨u,w',rfl,⟨t,rfl⟩,⟨t',rfl⟩⟩:=xD r;refine max_two_ints (I.ok.hd hc) λh' tk k=>⟨_,H,I.kept k,?_,q⟩
 by_cases hj:j>i
 ·rw[if_pos hj,if_pos hj];exact⟨_,Z⟩
 ·rw[if_neg hj,if_neg hj];exact⟨_,Z⟩
theorem AA(hc:X.calm=true):eF X (.builtin "min") (λxs H Q=>∃i j,xs=[.int i,.int j]/\Q (.int (if j<i then j else i)) H):=by
 intro pins s σ H xs us Q I r h;obtain⟨i,j,rfl,q⟩:=h;obtain⟨u,w',rfl,⟨t,rfl⟩,⟨t',rfl⟩⟩:=xD r;refine min_two_ints (I.ok.hd hc) λh' tk k=>⟨_,H,I.kept k,?_,q⟩
 by_cases hj:j<i
 ·rw[if_pos hj,if_pos hj];exact⟨_,Z⟩
 ·rw[if_neg hj,if_neg hj];exact⟨_,Z⟩
end
end L2
namespace L2
open PySem PySem.Spec PyProof.Rows
structure xu(h:Ra)(x dx C:Addr)(mA:RF->Option Value):Prop where
 obj:h.get? x=some (TJ C dx)
 ns:h.Ns1 dx mA
 ne:dx≠x
theorem Ab{h:Ra}(n:h.Ns1 dx mA):∃od,h.get? dx=some od/\∀name,WP name od=some (mA name):=by
 obtain⟨o,es,ep,ho,hd,hk,_,hm⟩:=n;refine⟨o,ho,λname=>?_⟩;have e:=hm name;unfold nsFind findBy at e;rw[←Array.find?_toList] at e;unfold WP;rw[hd];dsimp only
 split
 ·rename_i y q;rw[q] at e;exact congrArg some e
 ·rename_i q;rw[q] at e;have a:es.toList.any (·.refKey)=false:=by
   rw[Xf];intro y hy;obtain⟨z,t,hkey⟩:=hk y (Yj.mp hy);simp[Yx.refKey,hkey]
  have a':¬es.toList.any (·.refKey)=true:=by rw[a];exact Rn
  rw[if_neg a'];exact congrArg some e
theorem xu.look(I:xu h x dx C mA):∃od,WQ h x (TJ C dx) C (some od)/\∀name,WP name od=some (mA name):=
 let ⟨od,ho,hl⟩:=Ab I.ns
 ⟨od,⟨I.obj,Z,Z,ho⟩,hl⟩
section
variable {prog:Rz}{w:RS}{A:RK}{E:Value->QQ->Prop}{s:QQ}{K:QJ}{x dx C f:Addr}{mA:RF->Option Value}{name:RF}{v:Value}
theorem HV(X:K.In s.heap)(I:xu s.heap x dx C mA)(hg:Wa K C name=true)(hh:U9 K C=true)
  (ha:RT K (.ref C) name=some none) (hv:mA name=some v) (hv':ZE v=true) (h:Q v { s with toks:=s.toks+1}):
  Rj (Ro prog w) A (getAttr (.ref x) name expr) Q E s:=by
 obtain⟨od,J,hl⟩:=I.look;exact PySem.W.get_value X J (Wt hg).1 (PySem.W.findObj_own hh ha Z (by rw[hl,hv])) hv' h
theorem E7(X:K.In s.heap)(I:xu s.heap x dx C mA)(hg:Wa K C name=true)
  (hf:RT K (.ref C) name=some (some (.ref f))) (ht:Wz K (.ref f)=true) (hv:mA name=none) (h:Q (.ref f,[.ref x]) s):
  Rj (Ro prog w) A (Xy (.ref x) name pl) Q E s:=by
 obtain⟨od,J,hl⟩:=I.look;exact PySem.W.method_fn X J (Wt hg).1 (Wt hg).2 hf (beq_iff_eq.mp ht) (by show(WP name od).map (·.isSome)=some false;rw[hl,hv];rfl) h
theorem Gf(X:K.In s.heap)(I:xu s.heap x dx C mA)
  (hs:RT K (.ref C) "__setattr__"=some (some (.builtin "object.__setattr__"))) (hp:Y7 K C=true) (ht:X8 K C name=some none) (hh:U9 K C=true)
  (hw:Ww mA ns) (hsz:ns.length≤sizeLine)
  (h:∀h',xu h' x dx C (λy=>if y=name then some v else mA y)->Wy dx s.heap h'->Q () { s with heap:=h',toks:=s.toks+2}):
  Rj (Ro prog w) A (setAttr (.ref x) name v) Q E s:=by
 obtain⟨od,J,hl⟩:=I.look;refine Xg X J hs (PySem.W.osa_open (s:={ s with toks:=s.toks+1}) (r:=none) X J hp ht λb=>?_);obtain⟨cd,hc,hd'⟩:=Xz hh;have hx:s.heap.get? x=some ⟨.ref C,some dx,.plain,#[]⟩:=I.obj;refine QR (wpAny_pure (QR (QR (Yk hx (QR (UU (s:={ s with toks:=s.toks+1}) (Vp X hc) ?_))))));rw[hd'];refine wpAny_pure (a:=some dx) (QR (wpAny_pure (QR ?_)));refine Y8 (s:={ s with toks:=s.toks+1}) I.ns λh' hn2 hs2=>?_
 obtain⟨oD,esD,epD,hoD,hdD,hcD⟩:=hn2.count (Ww.cons name v hw);refine QR (XA hoD (by rw[hdD];exact XB (RC hcD (by rw[RU];lia))) ?_);exact wpAny_pure (h _ ⟨(hs2.2 _ (SO I.ne)).trans I.obj,hn2,I.ne⟩ hs2)
theorem EB(X:K.In s.heap)(hm:ZV K C=true)
  (hi:RT K (.ref C) "__init__"=some (some (.ref f))) (hf:VN K (.ref f)=some (.type "function"))
  (h:VO (Ro prog w) (A.under (.builtin "type.__call__" ⟨.ref C:: vs,kw⟩)) (.call (.ref f) ⟨.ref (s.heap.objs.size+1):: vs,kw⟩) (PySem.W.InitBack (s.heap.objs.size+1) R)
   { s with heap:=(s.heap.push SV).push (TJ C s.heap.objs.size)}):
  VO (Ro prog w) A (.call (.ref C) ⟨vs,kw⟩) R s:=by
 obtain⟨hh,g,d,t,os⟩:=s;exact PySem.W.make_core (PySem.W.makes_of X hm) (Wg X hi) (λself=>ZW X self hf) (.inl Z) h
end
def gJ(f:RF)(v:V):List (RF×V)->List (RF×V)
 | []=>[(f,v)]
 | (g,x)::r=>if g=f then(g,v)::r else(g,x)::gJ f v r
theorem mU(f g:RF)(v:V):∀fs:List (RF×V),(gJ f v fs).lookup g=if g=f then some v else fs.lookup g
 | []=>by
  show VH g [(f,v)]=_;by_cases h:g=f
  ·have hb:(g==f)=true:=beq_iff_eq.mpr h;simp only[VH,hb,if_pos h]
  ·have hb:(g==f)=false:=beq_eq_false_iff_ne.mpr h;simp only[VH,hb,if_neg h]
 | (k,x)::r=>by
  have ih:=mU f g v r;rw[show gJ f v ((k,x)::r)=(if k=f then(k,v)::r else(k,x)::gJ f v r) from Z];by_cases hk:k=f
  ·rw[if_pos hk];by_cases h:g=k
   ·have hb:(g==k)=true:=beq_iff_eq.mpr h;simp only[VH,hb,if_pos (h.trans hk)]
   ·have hb:(g==k)=false:=beq_eq_false_iff_ne.mpr h;simp only[VH,hb,if_neg (λe:g=f=>h (e.trans hk.symm))]
  ·rw[if_neg hk];by_cases h:g=k
   ·have hb:(g==k)=true:=beq_iff_eq.mpr h;simp only[VH,hb,if_neg (λe:g=f=>hk (h.symm.trans e))]
   ·have hb:(g==k)=false:=beq_eq_false_iff_ne.mpr h;simp only[VH,hb];exact ih
theorem mD(f:RF)(v:V):∀fs:List (RF×V),f∈(gJ f v fs).map (·.1)/\∀g,g∈fs.map (·.1)->g∈(gJ f v fs).map (·.1)
 | []=>⟨by simp[gJ],λg h=>by simp at h⟩
 | (k,x)::r=>by
  obtain⟨i1,i2⟩:=mD f v r;rw[show gJ f v ((k,x)::r)=(if k=f then(k,v)::r else(k,x)::gJ f v r) from Z];by_cases hk:k=f
  ·rw[if_pos hk];subst hk;exact⟨by simp,λg h=>by simpa using h⟩
  ·rw[if_neg hk];refine⟨?_,λg h=>?_⟩
   ·rw[Rr];exact QX _ i1
   ·rw[Rr] at h ⊢;rcases Rm.mp h with e|e
    ·exact Rm.mpr (.inl e)
    ·exact QX _ (i2 g e)
theorem mW(f:RF)(v:V):∀fs:List (RF×V),(gJ f v fs).length≤fs.length+1
 | []=>by simp[gJ]
 | (k,x)::r=>by
  have ih:=mW f v r;rw[show gJ f v ((k,x)::r)=(if k=f then(k,v)::r else(k,x)::gJ f v r) from Z];by_cases hk:k=f
  ·rw[if_pos hk,RU,RU];lia
  ·rw[if_neg hk,RU,RU];lia
theorem fL.some_of(r:fL (some v) o):∃u,o=some u/\aY v u:=by
 cases o with
 |none=>exact(show False from r).elim
 |some u=>exact⟨u,Z,r⟩
theorem fL.none_of(r:fL none o):o=none:=by
 cases o with
 |none=>rfl
 |some u=>exact(show False from r).elim
theorem Ao(r:aY v u):ZE u=true:=by
 cases v with
 |non=>cases(show u=Uw from r);rfl
 |bl b=>cases(show u=VD b from r);rfl
 |int i=>obtain⟨t,e⟩:=(show ∃t,u=Vi i t from r);cases e;rfl
 |str x=>obtain⟨t,e⟩:=(show ∃t,u=Xw x t from r);cases e;rfl
 |byt b=>obtain⟨t,e⟩:=(show ∃t,u=Value.bytes b t from r);cases e;rfl
 |flt b=>obtain⟨t,e⟩:=(show ∃t,u=ZM b t from r);cases e;rfl
 |ref a=>cases(show u=RA a from r);rfl
 |ty n=>cases(show u=WN n from r);rfl
section
variable {P:Rz}{w:RS}{H H':Hp}{h h':Ra}{a C dx:Addr}{fs fs':List (RF×V)}
theorem nU(hok:jI P w H h)(e:H a=some (.ins C dx fs)):∃mA,xu h a dx C mA/\(∀f,fL (fs.lookup f) (mA f))/\Ww mA (fs.map (·.1))/\fs.length≤1000/\H dx=some (.own a):=by
 obtain⟨d,z,ne,ob,mA,n,r,q⟩:=(show ObjOk P w H h a (.ins C dx fs) from hok a _ e);exact⟨mA,⟨ob,n,ne⟩,r,q,z,d⟩
end
structure AK(K:QJ)(C:Addr):Prop where
 pg:Wa K C RF.empty=true
 hd:U9 K C=true
 po:Y7 K C=true
 sa:RT K (.ref C) "__setattr__"=some (some (.builtin "object.__setattr__"))
theorem AK.get{K:QJ}{C:Addr}(c:AK K C)(f:RF):Wa K C f=true:=c.pg
def dk(K:QJ)(C:Addr)(f:RF):Prop:=RT K (.ref C) f=some none
theorem dk.taker{K:QJ}{C:Addr}{f:RF}(n:dk K C f):X8 K C f=some none:=by
 unfold X8;rw[show RT K (.ref C) f=some none from n];rfl
structure jZ(K:QJ)(C:Addr)(m:RF)(f:Addr):Prop where
 at_:RT K (.ref C) m=some (some (.ref f))
 fn:Wz K (.ref f)=true
 kp:SM K (.ref f)=true
section
variable {X:Cx}{pins:List (Addr×Obj)}{σ:St}{H:Hp}{s:QQ}{a C dx:Addr}{fs:List (RF×V)}{f:RF}{v:V}{A:RK}{E:Value->QQ->Prop}
theorem wQ(I:Inv X pins σ H s)(e:H a=some (.ins C dx fs))(c:AK X.K C)(n:dk X.K C f)(l:fs.lookup f=some v)
  (h:∀u s',Inv X pins σ H s'->aY v u->Q u s'):Rj (Ro X.prog X.w) A (getAttr (.ref a) f b) Q E s:=by
 obtain⟨mA,O,r,_,_,_⟩:=nU I.hok e;obtain⟨u,hu,ru⟩:=fL.some_of (v:=v) (o:=mA f) (by rw[←l];exact r f);exact HV I.kIn O (c.get f) c.hd n hu (Ao ru) (h u _ (I.tok _) ru)
theorem pI(I:Inv X pins σ H s)(e:H a=some (.ins C dx fs))(c:AK X.K C)(k:jZ X.K C m g)(l:fs.lookup m=none)
  (h:Q (.ref g,[.ref a]) s):Rj (Ro X.prog X.w) A (Xy (.ref a) m pl) Q E s:=by
 obtain⟨mA,O,r,_,_,_⟩:=nU I.hok e;have hn:mA m=none:=fL.none_of (by rw[←l];exact r m);exact E7 I.kIn O (c.get m) k.at_ k.fn hn h
theorem vB(I:Inv X pins σ H s)(e:H a=some (.ins C dx fs))(c:AK X.K C)(n:dk X.K C f)(hl:fs.length<1000)(ry:aY y u)
  (h:∀s',Inv X pins σ (upd H a (.ins C dx (gJ f y fs))) s'->Q () s'):Rj (Ro X.prog X.w) A (setAttr (.ref a) f u) Q E s:=by
 obtain⟨mA,O,r,wi,_,ho⟩:=nU I.hok e;have hz:(fs.map (·.1)).length≤sizeLine:=by rw[QK,SU];lia
 refine Gf I.kIn O c.sa c.po n.taker c.hd wi hz λh' O' sb=>h _ ?_
 have hd:∃o,h'.get? dx=some o:=let ⟨o,_,_,e',_⟩:=O'.ns;⟨o,e'⟩;refine I.write (x:=a) (e:=dx) (by rw[e];exact Ti) (.inr ho) (λb q hb z=>(sb.2 b hb).trans z) hd ?_;refine⟨by rw[ai O.ne];exact ho,?_,O.ne,O'.obj,_,O'.ns,λg=>?_,λg hg=>?_⟩
 ·have:=mW f y fs;lia
 ·show fL ((gJ f y fs).lookup g) (if g=f then some u else mA g);rw[mU];by_cases q:g=f
  ·rw[if_pos q,if_pos q];exact ry
  ·rw[if_neg q,if_neg q];exact r g
 ·by_cases q:g=f
  ·rw[q];exact(mD f y fs).1
  ·refine(mD f y fs).2 g (wi g λz=>hg ?_);show(if g=f then some u else mA g)=none;rw[if_neg q];exact z
theorem Inv.made(I:Inv X pins σ H s):Inv X pins σ (upd (upd H s.heap.objs.size (.own (s.heap.objs.size+1))) (s.heap.objs.size+1) (.ins C s.heap.objs.size []))
  { s with heap:=(s.heap.push SV).push (TJ C s.heap.objs.size)}:=by
 have e1:(s.heap.push SV).get? s.heap.objs.size=some SV:=Rg s.heap Z;have e2:((s.heap.push SV).push (TJ C s.heap.objs.size)).get? (s.heap.objs.size+1)=some (TJ C s.heap.objs.size):=by
  have:=Rg (s.heap.push SV) (o:=TJ C s.heap.objs.size) Z
  rwa [UH] at this
 have e3:(s.heap.push SV).Ns s.heap.objs.size (λ_=>none):=⟨SV,#[],_,e1,Z,(λe he=>absurd he (by simp)),λ_=>Z⟩;have I1:=I.laid (a:=s.heap.objs.size) (o:=.own (s.heap.objs.size+1)) (h':=s.heap.push SV) (t':=s.toks) (λb u q=>QP _ q) (QY _) ⟨_,e1⟩;refine I1.laid (a:=s.heap.objs.size+1) (o:=.ins C s.heap.objs.size []) (t':=s.toks) (λb u q=>QP _ q) (UV (UH _ _)) ?_;have ne:s.heap.objs.size≠s.heap.objs.size+1:=RZ (SH _);refine⟨by rw[ai ne,aa],Rq _,ne,e2,λ_=>none,(Y9 e3).at λo q=>QP _ q,λ_=>Ti,λy hy=>absurd Z hy⟩
theorem Ir(hb:Tw e f env (eval e env)=eval e env)
  (h:Rj (Ro prog w) A (eval e env) (λo s₁=>Rj (Ro prog w) A (getAttr o f true) Q E s₁) E s):Rj (Ro prog w) A (eval (.Attribute e f pos) env) Q E s:=
 Attribute_any_ h (by rw[arm_eval_Attribute,hb])
end
inductive O1(K:QJ)(H:Hp)(x:V)(f:RF)(Q:V->Prop):Prop where
 |mk (a C dx:Addr) (fs:List (RF×V)) (v:V) (e:x=.ref a) (h:H a=some (.ins C dx fs)) (c:AK K C) (n:dk K C f) (l:fs.lookup f=some v) (k:Q v):O1 K H x f Q
def JY(K:QJ)(ta:TE)(f:RF):TE:=λσ H Q=>ta σ H λx H1=>O1 K H1 x f λv=>Q v H1
def NF(K:QJ)(ta tv:TE)(f:RF):TS:=λD σ H=>tv σ H λy H1=>ta σ H1 λx H2=>∃a C dx fs,x=.ref a/\H2 a=some (.ins C dx fs)/\AK K C/\dk K C f/\fs.length<1000∧
 D.nx σ (upd H2 a (.ins C dx (gJ f y fs)))
section
variable {X:Cx}{o e value:RP}{f:RF}{pos pos' tpos:Uh}{ta tv:TE}
theorem Lc(he:PE X e ta)(hb:Tw e f X.env (eval e X.env)=eval e X.env):PE X (.Attribute e f pos) (JY X.K ta f):=by
 intro pins s σ H Q I h;refine Ir hb (bQ (he pins s σ H _ I h) λu s1 ⟨x,H1,I1,rx,a,C,dx,fs,v,ex,ea,c,n,l,q⟩=>?_);subst ex;obtain rfl:u=RA a:=rx;exact wQ I1 ea c n l λu' s2 I2 ru=>⟨v,H1,I2,ru,q⟩
theorem KS(ha:PE X o ta)(hv:PE X value tv)(hs:TZ value (some (.Attribute o f pos')) pos.line X.env=SS false):PS X (.Assign [.Attribute o f pos'] value pos) (NF X.K ta tv f):=by
 intro pins s σ H D I h;refine VX (bQ (hv pins s σ H _ I h) λu s1 ⟨y,H1,I1,ry,q⟩=>bQ (ha pins s1 σ H1 _ I1 q) λov s2 ⟨x,H2,I2,rx,a,C,dx,fs,ex,ea,c,n,l,q2⟩=>?_) hs;subst ex;obtain rfl:ov=RA a:=rx;exact vB I2 ea c n l ry λs3 I3=>⟨σ,_,I3,q2⟩
end
section
variable {X:Cx}{pins:List (Addr×Obj)}{σ:St}{H:Hp}{s:QQ}{A:RK}{E:Value->QQ->Prop}{Q:Value->QQ->Prop}{c:Value}{b:Bool}
inductive mI(K:QJ)(H:Hp):V->Value->Prop where
 |non:mI K H .non (.type "NoneType")
 |bl (x:Bool):mI K H (.bl x) (.type "bool")
 |int (i:Int):mI K H (.int i) (.type "int")
 |str (x:RF):mI K H (.str x) (.type "str")
 |flt (x:UInt64):mI K H (.flt x) (.type "float")
 |lst {a:Addr} {xs:List V} (e:H a=some (.lst xs)):mI K H (.ref a) (.type "list")
 |frz {a:Addr} {o:Obj} {xs:List V} (e:H a=some (.frz o (.lst xs))):mI K H (.ref a) (.type "list")
 |tup {a:Addr} {xs:List V} (e:H a=some (.tup xs)):mI K H (.ref a) (.type "tuple")
 |dK {a:Addr} {kvs:List (cZ×V)} (e:H a=some (.dK kvs)):mI K H (.ref a) (.type "dict")
 |dT {a:Addr} {kvs:List (List cZ×V)} (e:H a=some (.dT kvs)):mI K H (.ref a) (.type "dict")
 |ins {a C dx:Addr} {fs:List (RF×V)} (e:H a=some (.ins C dx fs)) (cl:AK K C) (ha:RT K (.ref C) "__class__"=some (some (.builtin "object.__class__")))
   (hn:Za K (.builtin "object.__class__") "__get__"=some (some (.builtin "getset_descriptor.__get__"))) (htk:ZX K (.builtin "object.__class__")=some true)
   (hm:aam K C (.type "object")=some true):mI K H (.ref a) (.ref C)
theorem Ai(I:Inv X pins σ H s)(rx:aY x u)(ty:mI X.K H x t)(e:Z7 X.K t c=some b)(h:∀tk,Q (.bool b) { s with toks:=tk}):
  Rj (Ro X.prog X.w) A (call (.builtin "isinstance") [u,c]) Q E s:=by
 cases ty with
 |non=>cases(show u=Uw from rx);exact SF PySem.W.kitx_none I.kIn Ti e (λz=>nomatch z) h
 |bl y=>cases(show u=VD y from rx);exact SF PySem.W.kitx_bool I.kIn Ti e (λz=>nomatch z) h
 |int i=>obtain⟨t,q⟩:=(show ∃t,u=Vi i t from rx);cases q;exact SF PySem.W.kitx_int I.kIn Ti e (λz=>nomatch z) h
 |str y=>obtain⟨t,q⟩:=(show ∃t,u=Xw y t from rx);cases q;exact SF PySem.W.kitx_str I.kIn Ti e (λz=>nomatch z) h
 |flt y=>obtain⟨t,q⟩:=(show ∃t,u=ZM y t from rx);cases q;exact SF PySem.W.kitx_float I.kIn Ti e (λz=>nomatch z) h
 | @lst a xs ea=>
  cases(show u=RA a from rx)
  obtain⟨_,_,n,_,h1⟩:=(show ObjOk X.prog X.w H s.heap a (.lst xs) from I.hok a _ ea);exact SF Zb I.kIn ⟨_,h1,Z⟩ e (λz=>nomatch z) h
 | @frz a ob xs ea=>
  cases(show u=RA a from rx)
  obtain⟨_,_,_,n,_,h1⟩:=(show ObjOk X.prog X.w H s.heap a (.frz ob (.lst xs)) from I.hok a _ ea);exact SF Zb I.kIn ⟨_,h1,Z⟩ e (λz=>nomatch z) h
 | @tup a xs ea=>
  cases(show u=RA a from rx)
  obtain⟨_,_,_,p⟩:=(show ObjOk X.prog X.w H s.heap a (.tup xs) from I.hok a _ ea);obtain⟨o,h1,h2,_⟩:=p;exact SF YO I.kIn ⟨o,h1,h2⟩ e (λz=>nomatch z) h
 | @dK a kvs ea=>
  cases(show u=RA a from rx)
  obtain⟨_,_,vs,_,p⟩:=(show ObjOk X.prog X.w H s.heap a (.dK kvs) from I.hok a _ ea);obtain⟨o,es,ep,h1,h2,_⟩:=p;exact SF Zc I.kIn ⟨o,h1,h2.1⟩ e (λz=>nomatch z) h
 | @dT a kvs ea=>
  cases(show u=RA a from rx)
  obtain⟨_,_,xs,_,o,es,ep,h1,h2,_⟩:=(show ObjOk X.prog X.w H s.heap a (.dT kvs) from I.hok a _ ea);exact SF Zc I.kIn ⟨o,h1,h2.1⟩ e (λz=>nomatch z) h
 | @ins a C dx fs ea cl ha hn htk hm=>
  cases(show u=RA a from rx)
  obtain⟨mA,O,_⟩:=nU I.hok ea;obtain⟨od,J,_⟩:=O.look;exact SF (PySem.W.kitx_own (cl.get _) cl.hd ha hn htk hm) I.kIn J e (λz=>nomatch z) h
end
end L2
namespace L2
open PySem PySem.Spec PyProof.Rows
structure cA(k:Nat)(A:RK):Prop where
 hd:A.handled=none
 dp:A.depth+3*k+5<recursionLimit
 un:A.units+16*k+200<cLine
 gd:A.guards=some []
theorem cA.mono(r:cA k A)(h:j≤k):cA j A:=⟨r.hd,by have:=r.dp;lia,by have:=r.un;lia,r.gd⟩
theorem cA.deeper(r:cA (k+1) A)(env:ZU):cA k (A.deeper env):=
 ⟨r.hd,by have:=r.dp;show A.depth+1+3*k+5<_;lia,by have:=r.un;show A.units+3+16*k+200<_;lia,r.gd⟩
theorem cA.in1(r:cA (k+1) A):cA k A.in1:=
 ⟨r.hd,by have:=r.dp;show A.depth+3*k+5<_;lia,by have:=r.un;show A.units+1+16*k+200<_;lia,r.gd⟩
theorem wI{A:RK}:(A.under (.builtin "type.__call__" ⟨.ref C:: us,kw⟩)).depth=A.depth+1:=by
 first|rfl|simp[XW,Zd.weight,Zd.isCreation,Zd.isGuard,Zd.isCaller,Zd.frames,Ze,guardIds]
theorem wH{A:RK}:(A.under (.builtin "type.__call__" ⟨.ref C:: us,kw⟩)).units=A.units+1:=by
 first|rfl|simp[XW,Zd.cUnits,Zd.frames,Ze]
theorem uQ{A:RK}:(A.under (.builtin "type.__call__" ⟨.ref C:: us,kw⟩)).guards=A.guards:=by
 first|rfl|simp[XW,Zd.guards,Zd.isGuard,guardIds,pushGuards]
theorem cA.make(r:cA (k+1) A)(C:Addr)(us:List Value)(kw:List (RF×Value)):cA k (A.under (.builtin "type.__call__" ⟨.ref C:: us,kw⟩)):=
 ⟨r.hd,by have:=r.dp;rw[wI];lia,by have:=r.un;rw[wH];lia,by rw[uQ];exact r.gd⟩
theorem cA.depth(r:cA k A):A.depth<recursionLimit:=by have:=r.dp;lia
theorem cA.units(r:cA k A):A.units+64<cLine:=by have:=r.un;lia
def F6:TA:=λ_ H Q=>Q [] H
def iK(ta:TE)(tr:TA):TA:=λσ H Q=>ta σ H λx H1=>tr σ H1 λxs H2=>Q (x::xs) H2
section
variable {X:Cx}{e:RP}{es:List RP}{te:TE}{t:TA}{pos:Uh}
theorem Lg:PA X [] F6:=λ_ _ _ _ H Q I h=>Calls.spliced_nil ⟨[],H,I,.nil,h⟩
theorem Hq(ha:PE X e te)(hr:PA X es t)(hs:Q6 (e::es) X.env=(false,eval e X.env)::Q6 es X.env:=by rfl):PA X (e::es) (iK te t):=by
 intro pos pins s σ H Q I h;rw[hs];show Rj _ _ (spliced ((false,eval e X.env)::Te pos (Q6 es X.env))) _ _ s;refine Calls.spliced_cons (bQ (ha pins s σ H _ I h) λu s1 ⟨x,H1,I1,r1,q1⟩=>?_);exact bQ (hr pos pins s1 σ H1 _ I1 q1) λus s2 ⟨xs,H2,I2,r2,q2⟩=>⟨x::xs,H2,I2,.cons r1 r2,q2⟩
def No(t:TA):TE:=λσ H Q=>t σ H λxs H1=>xs.length≤sizeLine/\∀p,H1 p=none->Q (.ref p) (upd H1 p (.tup xs))
def Nu(t:TA):TE:=λσ H Q=>t σ H λxs H1=>xs.length≤sizeLine/\∀p,H1 p=none->Q (.ref p) (upd H1 p (.lst xs))
theorem K5{x1}(h:PA X es t):PE X (.Tuple es x1 pos) (No t):=by
 intro pins s σ H Q I hq;refine wpAny_Tuple_spliced (bQ (h pos pins s σ H _ I hq) λus s1 ⟨xs,H1,I1,r,z,q⟩=>⟨by rw[←r.length];exact z,?_⟩);have hf:H1 s1.heap.objs.size=none:=I1.hok.fresh (QY _);refine⟨.ref s1.heap.objs.size,upd H1 s1.heap.objs.size (.tup xs),I1.laid (t':=s1.toks) (λb u e=>QP _ e) (QY _) ?_,Z,q _ hf⟩;exact⟨z,us,r,⟨_,Rg _ Z,Z,_,Z⟩⟩
theorem La(h:PA X es t):PE X (.List es pos) (Nu t):=by
 intro pins s σ H Q I hq;refine wpAny_List_spliced (bQ (h pos pins s σ H _ I hq) λus s1 ⟨xs,H1,I1,r,z,q⟩=>⟨by rw[←r.length];exact z,?_⟩);have hf:H1 s1.heap.objs.size=none:=I1.hok.fresh (QY _);refine⟨.ref s1.heap.objs.size,upd H1 s1.heap.objs.size (.lst xs),I1.laid (t':=s1.toks) (λb u e=>QP _ e) (QY _) ?_,Z,q _ hf⟩;exact⟨z,us,0,r,Rg _ Z⟩
end
abbrev Sp:=List V->Hp->VK->XK->Prop
abbrev AL:=List ZU->Hp->QQ->XK->Value->QQ->Prop
structure xz(P:Rz)(w:RS)(K:QJ)(mg:RF->Option Value)(base:Ra)(A:RK)(outer:List ZU)(s:QQ)(H:Hp):Prop where
 frames:A.frames=some outer
 mod:Mod K mg base
 bs:∀b o,base.get? b=some o->s.heap.get? b=some o/\H b=none
 bsz:base.objs.size≤s.heap.objs.size
 funs:s.heap.FunFrames base outer
 frf:∀b∈qY outer,H b=none
 hok:jI P w H s.heap
 bare:Wx s.gens
def CE(outer:List ZU)(P:Rz)(w:RS)(H:Hp)(s:QQ)(Q:VK)(u:Value)(s':QQ):Prop:=
 ∃v H',s'.os=s.os/\Wx s'.gens/\Un (qY outer) [] H H' s.heap s'.heap/\jI P w H' s'.heap/\aY v u/\Q v H'
def CR(CX:AL)(outer:List ZU)(P:Rz)(w:RS)(H:Hp)(s:QQ)(Q:VK)(E:XK)(r:ZF)(s':QQ):Prop:=
 match r with
 | .ok (.ret u)=>CE outer P w H s Q u s'
 | .ok _=>False
 | .error e=>CX outer H s E e s'
structure aP(P:Rz)(w:RS)(K:QJ)(mg:RF->Option Value)(base:Ra)(CX:AL)(k:Nat)(f:Addr)(fd:QU)(ps:List RF)(sp:Sp):Prop where
 len:∀vs H Q E,sp vs H Q E->vs.length=ps.length
 run:∀(A:RK) (outer:List ZU) (s:QQ) (H:Hp) (args:Args) (us:List Value) (vs:List V) (Q:VK) (E:XK),cA k A->xz P w K mg base A outer s H->Zf s fd args (ps.zip us)->aW vs us->sp vs H Q E→
  VO (Ro P w) A (.call (.ref f) args) (CR CX outer P w H s Q E) s
theorem xz.make{P:Rz}{w:RS}{K:QJ}{mg:RF->Option Value}{base:Ra}{A:RK}{outer:List ZU}{s:QQ}{H:Hp}(e:xz P w K mg base A outer s H)(C:Addr)(us:List Value)(kw:List (RF×Value)) :
  xz P w K mg base (A.under (.builtin "type.__call__" ⟨.ref C::us,kw⟩)) outer s H:=⟨by first|exact e.frames | (simpa [XW,Zd.envs,Ze,pushEnvs] using e.frames),e.mod,e.bs,e.bsz,e.funs,e.frf,e.hok,e.bare⟩
section
variable {X:Cx}{pins:List (Addr×Obj)}{σ:St}{H:Hp}{s s':QQ}
theorem Inv.env0(I:Inv X pins σ H s):xz X.prog X.w X.K X.mg X.base X.A X.stack s H:=
 ⟨I.ok.frames,I.ok.mod,I.bs,RC I.ok.bsz I.sz,I.stack,I.stkFree,I.hok,I.bare⟩
theorem Inv.after(I:Inv X pins σ H s)(h:CE X.stack X.prog X.w H s Q u s'):EP X pins σ Q u s':=by
 obtain⟨v,H',os,bare,un,hok,r,q⟩:=h;obtain⟨hh,g,d,t,os'⟩:=s';obtain rfl:os'=s.os:=os;exact⟨v,H',I.call (h':=hh) (g':=g) (d':=d) (t':=t) (ch:=[]) un hok bare (λb z=>absurd z (by simp)),r,q⟩
end
def xO(sp:Sp)(dvs:List V)(E:XK)(t:TA):TE:=λσ H Q=>t σ H λvs H1=>sp (vs++dvs) H1 Q E
def xM(C:Addr)(m:RF)(sp:Sp)(dvs:List V)(E:XK)(ta:TE)(t:TA):TE:=λσ H Q=>ta σ H λx H1=>∃a dx fs,x=.ref a/\H1 a=some (.ins C dx fs)/\fs.lookup m=none∧
 t σ H1 λvs H2=>sp (x::(vs++dvs)) H2 Q E
def IR(C:Addr)(sp:Sp)(dvs:List V)(E:XK)(t:TA):TE:=λσ H Q=>t σ H λvs H1=>∀x dx,H1 x=none->H1 dx=none->dx≠x→
 sp (.ref x::(vs++dvs)) (upd (upd H1 dx (.own x)) x (.ins C dx [])) (λv H2=>v=.non/\Q (.ref x) H2) E
def aI(K:QJ)(fd:QU)(ps:List RF)(ds:List Value):Prop:=
 ∀(s:QQ) (us:List Value),K.In s.heap->(us++ds).length=ps.length->Zf s fd ⟨us,[]⟩ (ps.zip (us++ds))
theorem aI.all{K:QJ}{fd:QU}{ps:List RF}(h:∀us:List Value,us.length=ps.length->XD fd ⟨us,[]⟩=SS (ps.zip us)):aI K fd ps []:=λs us _ hl=>by
 rw[R7] at hl ⊢;exact .of_eq (h us hl)
def eZ(CX:AL)(X:Cx)(E:XK):Prop:=∀(pins:List (Addr×Obj)) (σ:St) (H:Hp) (s:QQ) (e:Value) (s':QQ),Inv X pins σ H s->CX X.stack H s E e s'->X.xe e s'
section
variable {X:Cx}{CX:AL}{k:Nat}{f C:Addr}{fd:QU}{ps:List RF}{sp:Sp}{dvs:List V}{ds:List Value}{E:XK}{x m:RF}{p pos apos:Uh}{e o:RP}{es:List RP}{ta:TE}{t:TA}
theorem vJ{pins:List (Addr×Obj)}{σ:St}{H:Hp}{s:QQ}{Q:VK}{us:List Value}{vs:List V}(F:aP X.prog X.w X.K X.mg X.base CX k f fd ps sp)(hr:cA k X.A)(hb:aI X.K fd ps ds)(hd:aW dvs ds)(hx:eZ CX X E)
  (I:Inv X pins σ H s) (r:aW vs us) (h:sp (vs++dvs) H Q E):Rj (Ro X.prog X.w) X.A (call (.ref f) us) (EP X pins σ Q) X.xe s:=by
 have r2:aW (vs++dvs) (us++ds):=r.append hd;have hl:(us++ds).length=ps.length:=by rw[←r2.length];exact F.len _ _ _ _ h
 refine XX (VP (F.run X.A X.stack s H ⟨us,[]⟩ (us++ds) (vs++dvs) Q E hr I.env0 (hb s us I.kIn hl) r2 h) λr s' hq=>?_)
 cases r with
 |error e=>exact hx pins σ H s e s' I hq
 |ok fl=>
  cases fl with
  |ret u=>exact I.after hq
  |next=>exact Sn hq
  |brk=>exact Sn hq
  |cont=>exact Sn hq
theorem Hk(F:aP X.prog X.w X.K X.mg X.base CX k f fd ps sp)(hr:cA k X.A)(hg:Gl X x)(hm:X.mg x=some (.ref f))(hk:SM X.K (.ref f)=true)(hb:aI X.K fd ps ds)(hd:aW dvs ds)(hx:eZ CX X E)
  (ha:PA X (e::es) t) (hdb:(x==("__debug__" : RF))=false:=by decide) (he:Q6 (e::es) X.env=(false,eval e X.env)::Q6 es X.env:=by rfl) (hpl:(Te pos (Q6 es X.env)).any (·.1)=false:=by rfl) :
  PE X (.Call (.Name x p) (e::es) [] pos) (xO sp dvs E t):=by
 intro pins s σ H Q I h;refine Ub (kW I hg hm ?_ hdb);refine VF (h₀:=X.base) I.ok.mod.kin hk (bQ (ha pos pins s σ H _ I h) λus s1 ⟨vs,H1,I1,r,q⟩=>⟨I1.kIn,?_⟩) he hpl;exact vJ F hr hb hd hx I1 r q
theorem Hf{pl:Sem Bool}(he:PE X o ta)(c:AK X.K C)(hm:jZ X.K C m f)(F:aP X.prog X.w X.K X.mg X.base CX k f fd ps sp)(hr:cA k X.A)(hb:aI X.K fd ps ds)(hd:aW dvs ds)(hx:eZ CX X E)(ha:PA X (e::es) t)
  (hst:Q6 (e::es) X.env=(false,eval e X.env)::Q6 es X.env:=by rfl) (hpl:(Te pos (Q6 es X.env)).any (·.1)=false:=by rfl)
  (ht:eval (.Call (.Attribute o m apos) (e::es) [] pos) X.env=(do
   let ov ←eval o X.env
   XV apos.atName
   let (f,first) ←holding [ov] (Xy ov m pl)
   Zg pos f first (Te pos (Q6 (e::es) X.env)) (WR pos (Vb [] X.env))):=by rfl) :
  PE X (.Call (.Attribute o m apos) (e::es) [] pos) (xM C m sp dvs E ta t):=by
 intro pins s σ H Q I h;refine Yg (pl:=pl) (bQ (he pins s σ H _ I h) λu s1 ⟨x,H1,I1,rx,a,dx,fs,ex,ea,l,q⟩=>?_) ht;subst ex;obtain rfl:u=RA a:=rx;refine pI I1 ea c hm l ?_;refine VF (first:=[.ref a]) (h₀:=X.base) I.ok.mod.kin hm.kp (bQ (ha pos pins s1 σ H1 _ I1 q) λus s2 ⟨vs,H2,I2,r,q2⟩=>⟨I2.kIn,?_⟩) hst hpl;exact vJ (us:=.ref a::us) (vs:=.ref a::vs) F hr hb hd hx I2 (.cons Z r) q2
theorem DW{pl:Sem Bool}(he:PE X o ta)(c:AK X.K C)(hm:jZ X.K C m f)(F:aP X.prog X.w X.K X.mg X.base CX k f fd ps sp)(hr:cA k X.A)(hb:aI X.K fd ps ds)(hd:aW dvs ds)(hx:eZ CX X E)
  (ht:eval (.Call (.Attribute o m apos) [] [] pos) X.env=(do
   let ov ←eval o X.env
   XV apos.atName
   let (f,first) ←holding [ov] (Xy ov m pl)
   Zg pos f first (Te pos (Q6 [] X.env)) (WR pos (Vb [] X.env))):=by rfl) :
  PE X (.Call (.Attribute o m apos) [] [] pos) (xM C m sp dvs E ta F6):=by
 intro pins s σ H Q I h;refine Yg (pl:=pl) (bQ (he pins s σ H _ I h) λu s1 ⟨x,H1,I1,rx,a,dx,fs,ex,ea,l,q⟩=>?_) ht;subst ex;obtain rfl:u=RA a:=rx;refine pI I1 ea c hm l ?_;exact PySem.W.callWith_K0 (first:=[.ref a]) I1.kIn hm.kp (vJ (us:=[.ref a]) (vs:=[.ref a]) F hr hb hd hx I1 (.cons Z .nil) q)
structure Mk(K:QJ)(C f:Addr):Prop where
 makes:ZV K C=true
 init:RT K (.ref C) "__init__"=some (some (.ref f))
 fn:Wz K (.ref f)=true
 kp:SM K (.ref C)=true
theorem Dd{pins:List (Addr×Obj)}{σ:St}{H:Hp}{s:QQ}{Q:VK}{us:List Value}{vs:List V}(M:Mk X.K C f)(F:aP X.prog X.w X.K X.mg X.base CX k f fd ps sp)(hr:cA (k+1) X.A)(hb:aI X.K fd ps ds)(hd:aW dvs ds)
  (hx:eZ CX X E) (I:Inv X pins σ H s) (r:aW vs us)
  (h:∀x dx,H x=none->H dx=none->dx≠x->sp (.ref x::(vs++dvs)) (upd (upd H dx (.own x)) x (.ins C dx [])) (λv H2=>v=.non/\Q (.ref x) H2) E) :
  Rj (Ro X.prog X.w) X.A (call (.ref C) us) (EP X pins σ Q) X.xe s:=by
 have hq:=h (s.heap.objs.size+1) s.heap.objs.size (I.hok.fresh (Tz _)) (I.hok.fresh (QY _)) (RZ (SH _));have I2:=Inv.made (C:=C) I;have r2:aW (V.ref (s.heap.objs.size+1)::(vs++dvs)) (RA (s.heap.objs.size+1)::(us++ds)):=.cons Z (r.append hd);have hl:(RA (s.heap.objs.size+1)::us++ds).length=ps.length:=by
  have e:=r2.length;rw[F.len _ _ _ _ hq] at e;exact e.symm
 refine XX (EB (f:=f) I.kIn M.makes M.init (beq_iff_eq.mp M.fn) (VP (F.run _ X.stack _ _ ⟨RA (s.heap.objs.size+1)::us,[]⟩ (RA (s.heap.objs.size+1)::(us++ds)) _ _ E (hr.make C us []) (I2.env0.make C us []) (hb _ (RA (s.heap.objs.size+1)::us) I2.kIn hl) r2 hq) λr s' hq'=>?_))
 cases r with
 |error e=>exact hx pins σ _ _ e s' I2 hq'
 |ok fl=>
  cases fl with
  |ret u=>
   obtain⟨v,H',I3,rv,ev,q3⟩:=I2.after hq';subst ev;exact⟨rv,⟨V.ref (s.heap.objs.size+1),H',I3,Z,q3⟩⟩
  |next=>exact Sn hq'
  |brk=>exact Sn hq'
  |cont=>exact Sn hq'
theorem Hg(M:Mk X.K C f)(F:aP X.prog X.w X.K X.mg X.base CX k f fd ps sp)(hr:cA (k+1) X.A)(hg:Gl X x)(hm:X.mg x=some (.ref C))(hb:aI X.K fd ps ds)(hd:aW dvs ds)(hx:eZ CX X E)
  (ha:PA X (e::es) t) (hdb:(x==("__debug__" : RF))=false:=by decide) (he:Q6 (e::es) X.env=(false,eval e X.env)::Q6 es X.env:=by rfl) (hpl:(Te pos (Q6 es X.env)).any (·.1)=false:=by rfl) :
  PE X (.Call (.Name x p) (e::es) [] pos) (IR C sp dvs E t):=by
 intro pins s σ H Q I h;refine Ub (kW I hg hm ?_ hdb);refine VF (h₀:=X.base) I.ok.mod.kin M.kp (bQ (ha pos pins s σ H _ I h) λus s1 ⟨vs,H1,I1,r,q⟩=>⟨I1.kIn,?_⟩) he hpl;exact Dd M F hr hb hd hx I1 r q
end
section
variable {X:Cx}{CX:AL}{k:Nat}{f C:Addr}{fd:QU}{ps ks:List RF}{sp:Sp}{E:XK}{x m:RF}{p pos apos kpos:Uh}{e o:RP}{es:List RP}{kws:List Xh}{te ta:TE}{t tk:TA}{nm:Option RF}
variable {g:List Value->List Value->List Value}{gV:List V->List V->List V}
end
structure av(N P:List RF)(sc:UG):Prop where
 kind:sc.kind=.function
 co:sc.isCoroutine=false
 gen:sc.isGenerator=false
 nd:N.Nodup
 pre:N.take P.length=P
 par:∀x∈P,sc.names.lookup x=some .local∨sc.names.lookup x=some .cell
 nofree:∀y∈sc.names,y.2≠.free
theorem rP{kindOf:RF->Option Vc}{x:RF}:∀{binds:List (RF×Value)} {m:RF->Option Value},(∀v,(x,v)∉binds)->Z8 kindOf binds m x=m x
 | [],_,_=>rfl
 | (n,v)::r,m,h=>by
  unfold Z8;rw[rP λw hw=>h w (QX _ hw)]
  split
  ·have:x≠n:=by rintro rfl;exact h v QV
   simp[this]
  ·rfl
theorem rR{kindOf:RF->Option Vc}{x:RF}:∀{binds:List (RF×Value)} {m:RF->Option Value},(∀v,(x,v)∉binds)->Z9 kindOf binds m x=m x
 | [],_,_=>rfl
 | (n,v)::r,m,h=>by
  unfold Z9;rw[rR λw hw=>h w (QX _ hw)]
  split
  ·rfl
  ·have:x≠n:=by rintro rfl;exact h v QV
   simp[this]
theorem rQ{kindOf:RF->Option Vc}{x:RF}{v:Value}:∀{P:List RF} {vs:List Value} {i:Nat} {m:RF->Option Value},P.Nodup->P[i]?=some x->vs[i]?=some v->kindOf x=some .local→
  Z8 kindOf (P.zip vs) m x=some v
 | [],_,_,_,_,h,_,_=>by simp at h
 |_::_,[],_,_,_,_,h,_=>by simp at h
 |p::P,w::vs,0,m,nd,h1,h2,hk=>by
  simp at h1 h2;subst h1;subst h2;show Z8 kindOf ((p,w)::P.zip vs) m p=_;unfold Z8;rw[rP λv hv=>(RJ.mp nd).1 (X9 hv).1,if_pos hk];simp
 |p::P,w::vs,i+1,m,nd,h1,h2,hk=>by
  show Z8 kindOf ((p,w)::P.zip vs) m x=_;unfold Z8;exact rQ (i:=i) (RJ.mp nd).2 (by simpa using h1) (by simpa using h2) hk
theorem rS{kindOf:RF->Option Vc}{x:RF}{v:Value}:∀{P:List RF} {vs:List Value} {i:Nat} {m:RF->Option Value},P.Nodup->P[i]?=some x->vs[i]?=some v->kindOf x≠some .local→
  Z9 kindOf (P.zip vs) m x=some v
 | [],_,_,_,_,h,_,_=>by simp at h
 |_::_,[],_,_,_,_,h,_=>by simp at h
 |p::P,w::vs,0,m,nd,h1,h2,hk=>by
  simp at h1 h2;subst h1;subst h2;show Z9 kindOf ((p,w)::P.zip vs) m p=_;unfold Z9;rw[rR λv hv=>(RJ.mp nd).1 (X9 hv).1,if_neg hk];simp
 |p::P,w::vs,i+1,m,nd,h1,h2,hk=>by
  show Z9 kindOf ((p,w)::P.zip vs) m x=_;unfold Z9;exact rS (i:=i) (RJ.mp nd).2 (by simpa using h1) (by simpa using h2) hk
def start(N:List RF)(vs:List V):St:=vs.map some++Q0 (N.length-vs.length) none
def ba(CX:AL)(P:Rz)(w:RS)(K:QJ)(mg:RF->Option Value)(base:Ra)(N:List RF)(qual:RF)(scope:UG)(f:Addr)(cd:Value)(A:RK)(outer:List ZU)(s:QQ)(H:Hp)(E:XK):Cx where
 prog:=P
 w:=w
 K:=K
 mg:=mg
 base:=base
 A:=A.deeper (Xo qual scope s.heap.objs.size f cd)
 N:=N
 s₀:=s
 H₀:=H
 env:=Xo qual scope s.heap.objs.size f cd
 outer:=outer
 stack:=Xo qual scope s.heap.objs.size f cd::outer
 ex:=[]
 calm:=true
 fn:=λ_=>true
 pn:=[]
 xe:=λe s'=>Rj (Ro P w) (A.deeper (Xo qual scope s.heap.objs.size f cd)) (Z2 (Xo qual scope s.heap.objs.size f cd) e) (λ_ s''=>CX outer H s E e s'') (λe' s''=>CX outer H s E e' s'') s'
theorem u5{sc:UG}(h:sc.names.lookup x=some .cell):∃c,(XE n sc.names []).lookup x=some c:=by
 have q:=XY sc.names n [] (.inl h);exact Vu.mp q
theorem Aj{CX:AL}{P:Rz}{w:RS}{K:QJ}{mg:RF->Option Value}{base:Ra}{N ps:List RF}{qual:RF}{scope:UG}{f:Addr}{cd:Value}{A:RK}{outer:List ZU}{s s1:QQ}{H:Hp}{E:XK}{us:List Value}{vs:List V}
  (S:av N ps scope) (hd:A.handled=none) (e0:xz P w K mg base A outer s H) (hl:vs.length=ps.length) (r:aW vs us)
  (x:InCallC s s.heap.objs.size (Z8 (Xo qual scope s.heap.objs.size f cd).kindOf (ps.zip us) λ_=>none) (XE (s.heap.objs.size+1) scope.names []) (Z9 (Xo qual scope s.heap.objs.size f cd).kindOf (ps.zip us) λ_=>none) s1) :
  Inv (ba CX P w K mg base N qual scope f cd A outer s H E) [] (start N vs) H s1:=by
 have hpl:ps.length≤N.length:=by have:=congrArg Yl S.pre;rw[RD] at this;lia
 obtain⟨h1,tk,rfl,hk⟩:=x.done;have noA:∀b:Addr,b∉(ba CX P w K mg base N qual scope f cd A outer s H E).ex:=λb z=>absurd (show b∈([]:List Addr) from z) (by simp)
 refine⟨⟨e0.mod,S.kind,Z,Z,QY _,λy z c h1 h2=>?_,λy hy=>?_,λy c _ h=>?_,λ_=>hd,Ym e0.frames,.inr ⟨Z,Z⟩,λb z=>absurd z (noA b),e0.bs,e0.bsz,λb _ _=>noA b,λb z=>absurd z (noA b),e0.funs,e0.frf⟩,
  rfl,e0.bare,Un.kept hk,⟨_,x.toInCall.ns,λi y v h1 h2 h3=>?_⟩,λy c h=>⟨_,x.cell y c h⟩,e0.hok.fresh (QY _),λy c h=>?_,λp hp=>absurd (show p∈([]:List (Addr×Obj)) from hp) (by simp),e0.hok.kept hk,?_⟩
 ·exact name_of_addr x.apart (UB h1) (UB h2)
 ·have hy:scope.names.lookup y=some .cell∨scope.names.lookup y=some .free:=hy;rcases hy with hy|hy
  ·exact u5 hy
  ·exact absurd Z (S.nofree _ (UB hy))
 ·exact Up (x.above y c (UB h))
 ·have hi:i<vs.length:=by
   unfold start at h2;by_cases hi:i<vs.length
   ·exact hi
   ·rw[Tj (by simpa using hi)] at h2;rw[UI] at h2
    split at h2<;>cases h2
  have ha:vs[i]?=some v:=by
   unfold start at h2;rw[RQ (by simpa using hi),Q4] at h2
   cases e:vs[i]? with
   |none=>rw[e] at h2;cases h2
   |some a=>rw[e] at h2;cases h2;rfl
  obtain⟨u,hu,rv⟩:=r.get ha;have hp:ps[i]?=some y:=by
   rw[←S.pre,Vv ω];exact h1
  have ndP:ps.Nodup:=by rw[←S.pre];exact S.nd.sublist (Zh _ _)
  refine⟨u,rv,?_⟩;rcases S.par y (QL hp) with k|k
  ·exact .inl ⟨k,rQ ndP hp hu k⟩
  ·obtain⟨c,e⟩:=u5 (n:=s.heap.objs.size+1) k;refine .inr ⟨.inl k,c,e,?_⟩;have q:=x.cell y c e;rw[rS ndP hp hu (by show scope.names.lookup y≠_;rw[k];decide)] at q;exact q
 ·exact e0.hok.fresh (Up (x.above y c (UB h)))
 ·unfold start;show _=N.length;rw[Q8,QK,R0];lia
theorem Fd{CX:AL}{P:Rz}{w:RS}{K:QJ}{mg:RF->Option Value}{base:Ra}{k:Nat}{f:Addr}{name qual:RF}{params:ZG}{body:List Stmt}{scope:UG}{dV kV doc pm cdv ct oc:Value}{an od:Option Addr}
  {osl:Array (Option Value)} {N ps:List RF} {sp:Sp} (lk:K.lookup f=some ⟨oc,od,.func (S2 name qual params body scope dV kV doc pm an cdv ct),osl⟩) (hcd:VQ K cdv qual=true) (S:av N ps scope)
  (len:∀vs H Q E,sp vs H Q E->vs.length=ps.length)
  (hbody:∀(A:RK) (outer:List ZU) (s:QQ) (H:Hp) (vs:List V) (Q:VK) (E:XK),cA k (A.deeper (Xo qual scope s.heap.objs.size f cdv))->sp vs H Q E→
   ∃t,tZ (ba CX P w K mg base N qual scope f cdv A outer s H E) body t/\t { nx:=λ_ H'=>Q .non H',rt:=Q} (start N vs) H) :
  aP P w K mg base CX (k+1) f (S2 name qual params body scope dV kV doc pm an cdv ct) ps sp:=by
 refine⟨len,λA outer s H args us vs Q E hr e0 hb r hsp=>?_⟩;have hl:=len _ _ _ _ hsp;have KX:K.In s.heap:=e0.mod.kin.keeps λb o e=>(e0.bs b o e).1
 have lim:s.heap.NoLimit:=e0.mod.nolimit.keeps λb o e=>(e0.bs b o e).1
 have hkind:∀y∈ps.zip us,scope.names.lookup y.1=some .local∨(scope.names.lookup y.1=some .cell/\((XE (s.heap.objs.size+1) scope.names []).lookup y.1).isSome=true):=λ⟨n,v⟩ hy=>by
  rcases S.par n (X9 hy).1 with q|q
  ·exact .inl q
  ·exact .inr ⟨q,XY _ _ _ (.inl q)⟩
 refine codeAny_call_function hr.depth (KX _ _ lk) Z S.co S.gen Z (PySem.W.codeRec_of KX hcd) (hb _ _ _ _ ?_);refine wpAny_newFunctionEnv_cells S.kind hkind λenv he s1 x=>?_
 subst he;refine⟨lim.keeps x.toInCall.keep,codeAny_func ?_⟩;obtain⟨t,ht,hq⟩:=hbody A outer s H vs Q E (hr.deeper _) hsp;have I:Inv (ba CX P w K mg base N qual scope f cdv A outer s H E) [] (start N vs) H s1:=Aj S hr.hd e0 hl r x;refine SA (ht [] s1 (start N vs) H _ I hq) (λfl s' hs=>?_) λe s' hs=>hs
 have fin:∀{σ':St} {H':Hp} {v:V} {u:Value},Inv (ba CX P w K mg base N qual scope f cdv A outer s H E) [] σ' H' s'->aY v u->Q v H'->CE outer P w H s Q u s':=
  λ{σ' H' v u} J rv q=>⟨v,H',J.os,J.bare,J.base,J.hok,rv,q⟩
 cases fl with
 |ret u=>
  obtain⟨v,σ',H',J,rv,q⟩:=hs;exact fin J rv q
 |next=>
  obtain⟨σ',H',J,q⟩:=hs;exact fin (v:=V.non) (u:=Uw) J Z q
 |brk=>
  obtain⟨_,_,_,q⟩:=hs;exact Sn q
 |cont=>
  obtain⟨_,_,_,q⟩:=hs;exact Sn q
end L2
namespace L2
open PySem PySem.Spec PyProof.Rows
section
variable {X:Cx}{x:RF}{p pos:Uh}{e:RP}{es:List RP}{t:TA}{id T:String}{r:List V->Hp->VK->Prop}
def O8(r:List V->Hp->VK->Prop)(t:TA):TE:=λσ H Q=>t σ H λvs H1=>r vs H1 Q
theorem D1(hc:eF X (.builtin id) r)(hg:Gl X x)(hm:X.mg x=none)(hv:TN x=some (.builtin id))(ha:PA X (e::es) t)(hn:x ≠ "__name__" := by decide)(hdb:(x==("__debug__" : RF))=false:=by decide)
  (he:Q6 (e::es) X.env=(false,eval e X.env)::Q6 es X.env:=by rfl) (hpl:(Te pos (Q6 es X.env)).any (·.1)=false:=by rfl):PE X (.Call (.Name x p) (e::es) [] pos) (O8 r t):=by
 intro pins s σ H Q I h;refine Ub (iW I hg hm hv ?_ hn hdb);exact PyProof.Rows.callWith_builtin1 (bQ (ha pos pins s σ H _ I h) λus s1 ⟨vs,H1,I1,r1,q1⟩=>hc pins s1 σ H1 vs us Q I1 r1 q1) he hpl
theorem zW(hc:eF X (.type T) r)(hg:Gl X x)(hm:X.mg x=none)(hv:TN x=some (.type T))(ha:PA X (e::es) t)(hn:x ≠ "__name__" := by decide)(hdb:(x==("__debug__" : RF))=false:=by decide)
  (he:Q6 (e::es) X.env=(false,eval e X.env)::Q6 es X.env:=by rfl) (hpl:(Te pos (Q6 es X.env)).any (·.1)=false:=by rfl):PE X (.Call (.Name x p) (e::es) [] pos) (O8 r t):=by
 intro pins s σ H Q I h;refine Ub (iW I hg hm hv ?_ hn hdb);exact Td (bQ (ha pos pins s σ H _ I h) λus s1 ⟨vs,H1,I1,r1,q1⟩=>hc pins s1 σ H1 vs us Q I1 r1 q1) he hpl
end
end L2
namespace HT
open PySem PyProof.Rows
section
open PySem.SeqAt
open PySem.AutoSeq1 (wpAny_loadPart')
open PySem.MeetsSeq PySem.MeetsSeq2 PySem.MeetsSeq3
end
section
variable {prog:Rz}{w:RS}{A:RK}{E:Value->QQ->Prop}{s:QQ}
def sIx(n d:Nat):Option Int->Nat
 |none=>d
 |some v=>if v<0 then(v+(n:Int)).toNat else min v.toNat n
theorem sIx_none(n d:Nat):sIx n d none=d:=Z
theorem sIx_nat(n d k:Nat):sIx n d (some (k:Int))=min k n:=by
 show(if(k:Int)<0 then((k:Int)+(n:Int)).toNat else min (k:Int).toNat n)=min k n;rw[if_neg ω,Us]
theorem Kj(n d:Nat)(hd:d≤n)(o:Option Int):sIx n d o≤n:=by
 cases o with
 |none=>exact hd
 |some v=>
  show(if v<0 then(v+(n:Int)).toNat else min v.toNat n)≤n;by_cases hv:v<0
  ·rw[if_pos hv];lia
  ·rw[if_neg hv];exact ZH _ _
theorem yZ(v:Int)(n d:Nat):(if v<0 then max (v+(n:Int)) 0 else min v (n:Int))=((sIx n d (some v):Nat):Int):=by
 show(if v<0 then max (v+(n:Int)) 0 else min v (n:Int))=(((if v<0 then(v+(n:Int)).toNat else min v.toNat n):Nat):Int);by_cases hv:v<0
 ·simp only[if_pos hv];lia
 ·simp only[if_neg hv];lia
theorem xg(lo hi:Option Int)(n:Nat):Vl lo hi 1 (n:Int)=(((sIx n 0 lo:Nat):Int),((sIx n n hi:Nat):Int)):=by
 have h1:¬((1:Int)<0):=ω
 unfold Vl;simp only[h1,if_false];refine Prod.ext ?_ ?_
 ·cases lo with
  |none=>rfl
  |some v=>exact yZ v n 0
 ·cases hi with
  |none=>rfl
  |some v=>exact yZ v n n
theorem vU(i j:Nat):Ui (i:Int) (j:Int) 1=j-i:=by
 unfold Ui;have h1:(1:Int)>0:=ω
 simp only[h1,if_true,Zi]
 split<;>lia
theorem oF(p:YQ v o)(h:Q o s):Rj (Ro prog w) A (R9.Slice.slicePartIndex v) Q E s:=by
 cases p with
 |none=>exact slicePart_none h
 |int i t=>exact slicePart_int h
theorem lW{sl:Addr}{vl vu:Value}{lo hi:Option Int}{n:Nat}{Q:Int×Int×Nat->QQ->Prop}(hs:s.heap.IsSliceOf sl vl vu .none)(pl:YQ vl lo)(pu:YQ vu hi)
  (h:Q (((sIx n 0 lo:Nat):Int),1,sIx n n hi-sIx n 0 lo) s):Rj (Ro prog w) A (WT (.ref sl) (SS (n:Int))) Q E s:=by
 obtain⟨os,hos,hcs,hds⟩:=id hs;unfold WT R9.Slice.sliceFields;refine QR (QR (Vd hos hds (x:=vl) Z (QR (Vd hos hds (x:=vu) Z (QR (Vd hos hds (x:=.none) Z (wpAny_pure ?_)))))));refine QR (slicePart_none ?_);show Rj _ _ (if((1:Int)==0)=true then _ else _) _ _ s;rw[if_neg δ];refine QR (oF pl (QR (oF pu (QR (wpAny_pure ?_)))));show Rj _ _ (match Vl lo hi 1 (n:Int) with | (lo,hi)=>SS (lo,(1:Int),Ui lo hi 1)) _ _ s;rw[xg lo hi n];show Rj _ _ (SS (((sIx n 0 lo:Nat):Int),(1:Int),Ui ((sIx n 0 lo:Nat):Int) ((sIx n n hi:Nat):Int) 1)) _ _ s;rw[vU];exact wpAny_pure h
theorem DO(xs:Array Value)(i k:Nat):((QM k).filterMap λ(m:Nat)=>xs[((i:Int)+(m:Int)*1).toNat]?).toArray=((xs.toList.drop i).take k).toArray:=by
 have e:(λ(m:Nat)=>xs[((i:Int)+(m:Int)*1).toNat]?)=λm=>xs[i+m]?:=by
  funext m
  have:((i:Int)+(m:Int)*1).toNat=i+m:=ω
  rw[this]
 rw[e];have:=pick_run xs i k;rw[List.filterMap_map] at this;have e2:((λx=>xs[x]?)∘λx=>i+x)=λm=>xs[i+m]?:=Z
 rw[e2] at this;rw[this]
theorem getItem_tuple_cut{t sl:Addr}{items:Array Value}{vl vu:Value}{lo hi:Option Int}{Q:Value->QQ->Prop}(ht:IsTup s.heap t items)(hs:s.heap.IsSliceOf sl vl vu .none)(pl:YQ vl lo)(pu:YQ vu hi)
  (hw:¬(sIx items.size 0 lo=0/\sIx items.size items.size hi=items.size))
  (h:Q (.ref s.heap.objs.size) { s with heap:=s.heap.push { cls:=.type "tuple",data:=.seq ((items.toList.drop (sIx items.size 0 lo)).take (sIx items.size items.size hi-sIx items.size 0 lo)).toArray} })
  (hsz:items.size≤sizeLine):Rj (Ro prog w) A (Xd (.ref t) (.ref sl)) Q E s:=by
 have htake:sizeOk (.seq ((items.toList.drop (sIx items.size 0 lo)).take (sIx items.size items.size hi-sIx items.size 0 lo)).toArray):=by
  show((items.toList.drop (sIx items.size 0 lo)).take (sIx items.size items.size hi-sIx items.size 0 lo)).toArray.size≤sizeLine;rw[Rp,RD,UJ,Tq];lia
 have hj:sIx items.size items.size hi≤items.size:=Kj _ _ (QY _) hi;obtain⟨os,hos,hcs,hds⟩:=id hs;have hTs:s.TypeIs (.ref sl) "slice" := ⟨os,hos,hcs⟩;unfold Xd
 try with_reducible refine wpAny_holding ?_
 first|refine QR (wpAny_pure ?_)|skip
 refine QR (wpAny_sequenceKey ht.typeIs δ ?_);refine QR (XF (name:=UW "__getitem__") ht.typeIs UA (XG UA ht.typeIs entry_tuple_getitem ?_ (args_tuple_getitem _ _)))
 show Rj _ _ (R9.Tuple.tupleItemsOf (.ref t) >>= _) _ _ s;refine QR (tupleItemsOf_ ht ?_);refine QR (wpAny_typeOf hTs ?_);rw[if_pos δ];refine QR (lW hs pl pu ?_);have hno:¬((((sIx items.size 0 lo:Nat):Int)==0&&(1:Int)==1&&(sIx items.size items.size hi-sIx items.size 0 lo)==items.size)=true):=by
  intro q;rw[Vj,Vj] at q;have q1:((sIx items.size 0 lo:Nat):Int)=0:=XH q.1.1;have q2:sIx items.size items.size hi-sIx items.size 0 lo=items.size:=XH q.2;exact hw ⟨ω,ω⟩
 show Rj _ _ (if(((sIx items.size 0 lo:Nat):Int)==0&&(1:Int)==1&&(sIx items.size items.size hi-sIx items.size 0 lo)==items.size)=true then _ else _) _ _ s;rw[if_neg hno,DO]
 first
  |exact QR (m:=Ux _) (Th (wpAny_pure ⟨_,rfl,wpAny_pure h⟩) htake)
  |exact QR (m:=Ux _) (Th (QR (wpAny_pure (wpAny_pure ⟨_,rfl,wpAny_pure h⟩))) htake)
  |exact QR (QR (m:=Ux _) (Th (wpAny_pure (wpAny_pure ⟨_,rfl,wpAny_pure h⟩)) htake))
  |exact QR (QR (m:=Ux _) (Th (wpAny_pure ⟨_,rfl,wpAny_pure h⟩) htake))
end
end HT
namespace L2
open PySem PySem.Spec PyProof.Rows
abbrev TO:=St->Hp->(Option Int->Hp->Prop)->Prop
def PO(X:Cx)(e:Option RP)(t:TO):Prop:=
 ∀(pins:List (Addr×Obj)) (s:QQ) (σ:St) (H:Hp) (Q:Option Int->Hp->Prop),Inv X pins σ H s->t σ H Q→
  Rj (Ro X.prog X.w) X.A (evalPart e X.env) (λu s'=>∃o H',Inv X pins σ H' s'/\YQ u o/\Q o H') X.xe s
def xL:TO:=λ_ H Q=>Q none H
def IN(t:TE):TO:=λσ H Q=>t σ H λx H1=>PZ x λi=>Q (some i) H1
section
variable {X:Cx}{e:RP}{te:TE}{lo hi:Option RP}{tl th:TO}{pos p2:Uh}
theorem GQ:PO X none xL:=by
 intro pins s σ H Q I h;rw[evalPart_none];exact wpAny_pure ⟨none,H,I,.none,h⟩
theorem GP(h:PE X e te):PO X (some e) (IN te):=by
 intro pins s σ H Q I hw;rw[evalPart_some];refine bQ (h pins s σ H _ I hw) λu s1 ⟨x,H1,I1,r1,q1⟩=>?_
 obtain⟨i,rfl,q⟩:=q1;obtain⟨t,rfl⟩:=r1;exact⟨some i,H1,I1,.int i t,q⟩
def Pf(X:Cx)(r:V->Option Int->Option Int->Hp->VK->Prop):Prop:=
 ∀(pins:List (Addr×Obj)) (s:QQ) (σ:St) (H:Hp) (x:V) (v vl vu:Value) (lo hi:Option Int) (sl:Addr) (Q:VK),Inv X pins σ H s->aY x v->s.heap.IsSliceOf sl vl vu .none->YQ vl lo->YQ vu hi->r x lo hi H Q→
  ∃T id,typeLookup (.type T) "__getitem__"=SS (some (.builtin id))/\s.TypeIs v T/\Rj (Ro X.prog X.w) X.A (Xd v (.ref sl)) (EP X pins σ Q) X.xe s
def Qf(r:V->Option Int->Option Int->Hp->VK->Prop)(te:TE)(tl th:TO):TE:=λσ H Q=>te σ H λx H1=>tl σ H1 λl H2=>th σ H2 λu H3=>r x l u H3 Q
theorem DV(hr:Pf X r)(he:PE X e te)(hl:PO X lo tl)(hu:PO X hi th):PE X (.Subscript e (.Slice lo hi none p2) pos) (Qf r te tl th):=by
 intro pins s σ H Q I h;refine Subscript_ (bQ (he pins s σ H _ I h) λv s1 ⟨x,H1,I1,r1,q1⟩=>?_);refine wpAny_Slice (bQ (hl pins s1 σ H1 _ I1 q1) λvl s2 ⟨l,H2,I2,pl,q2⟩=>bQ (hu pins s2 σ H2 _ I2 q2) λvu s3 ⟨u,H3,I3,pu,q3⟩=>?_);rw[evalPart_none];refine wpAny_pure ?_;have I4:Inv X pins σ H3 { s3 with heap:=s3.heap.push { cls:=.type "slice",data:=.fields #[vl,vu,.none]} }:=I3.kept (t':=s3.toks) λb ob q=>QP _ q
 obtain⟨T,id,hT,ht,hg⟩:=hr pins { s3 with heap:=s3.heap.push { cls:=.type "slice",data:=.fields #[vl,vu,.none]} } σ H3 x v vl vu l u s3.heap.objs.size Q I4 r1 (Ra.IsSliceOf.new ..) pl pu q3;show Rj (Ro X.prog X.w) X.A (YI e (.Slice lo hi none p2) v (.ref s3.heap.objs.size)) (EP X pins σ Q) X.xe { s3 with heap:=s3.heap.push { cls:=.type "slice",data:=.fields #[vl,vu,.none]} };exact tail_any (ops:=[.ref s3.heap.objs.size,v]) ht hT hg (by with_unfolding_all rfl)
def mH(xs:List V)(lo hi:Option Int):List V:=(xs.drop (HT.sIx xs.length 0 lo)).take (HT.sIx xs.length xs.length hi-HT.sIx xs.length 0 lo)
theorem mZ(xs:List V)(lo hi:Option Int):(mH xs lo hi).length≤xs.length:=by
 unfold mH;rw[RD,UJ];lia
def Pj(K:QJ):V->Option Int->Option Int->Hp->VK->Prop:=λx lo hi H Q=>∃a xs,x=.ref a/\cE K H a xs∧
 ¬(HT.sIx xs.length 0 lo=0/\HT.sIx xs.length xs.length hi=xs.length)/\∀p,H p=none->Q (.ref p) (upd H p (.tup (mH xs lo hi)))
theorem J3:Pf X (Pj X.K):=by
 intro pins s σ H x v vl vu lo hi sl Q I rx hs pl pu h;obtain⟨a,xs,rfl,hx,hw,q⟩:=h
 cases rx
 obtain⟨its,r,ht,hz⟩:=I.tuple hx;have hlen:its.toArray.size=xs.length:=by rw[Rp];exact r.length.symm
 refine⟨"tuple",_,UA.lookup,ht.typeIs,?_⟩;refine HT.getItem_tuple_cut ht hs pl pu (by rw[hlen];exact hw) ?_ (by rw[hlen];exact hz);rw[hlen];refine⟨.ref s.heap.objs.size,_,I.laid (t':=s.toks) (o:=.tup (mH xs lo hi)) (λb ob q=>QP _ q) (QY _) ?_,Z,q _ (I.hok.fresh (QY _))⟩;exact⟨RC (mZ xs lo hi) hz,_,(r.drop (HT.sIx xs.length 0 lo)).take (HT.sIx xs.length xs.length hi-HT.sIx xs.length 0 lo),aaC _ _⟩
end
end L2
namespace L2
open PySem PySem.Spec PyProof.Rows
def ER(n:Nat)(i:Int):Option Nat:=if 0≤i then(if i<n then some i.toNat else none) else if -(n:Int)≤i then some (i+n).toNat else none
def uc{α:Type}(xs:List α)(i:Int):Option α:=(ER xs.length i).bind λj=>xs[j]?
theorem yL(h:ER n i=some j):seqIndex? i n=some j/\j<n/\-(n:Int)≤i/\i<n:=by
 unfold ER at h;by_cases h0:0≤i
 ·rw[if_pos h0] at h;by_cases h1:i<n
  ·rw[if_pos h1] at h;have e:i.toNat=j:=R6 h;exact⟨by rw[ZN h0 h1,e],ω,ω,h1⟩
  ·rw[if_neg h1] at h;cases h
 ·rw[if_neg h0] at h;by_cases h1:-(n:Int)≤i
  ·rw[if_pos h1] at h;have e:(i+n).toNat=j:=R6 h;exact⟨by rw[Zj ω h1,e],ω,h1,ω⟩
  ·rw[if_neg h1] at h;cases h
theorem tQ{xs:List α}(h:uc xs i=some v):∃j,seqIndex? i xs.length=some j/\xs[j]?=some v/\j<xs.length/\-(xs.length:Int)≤i/\i<xs.length:=by
 unfold uc at h
 cases e:ER xs.length i with
 |none=>rw[e] at h;cases h
 |some j=>
  rw[e] at h;obtain⟨h1,h2,h3,h4⟩:=yL e;exact⟨j,h1,h,h2,h3,h4⟩
theorem aG{α:Type}{xs:List α}{j:Nat}{v:α}(h:xs[j]?=some v):uc xs (j:Int)=some v:=by
 have hj:j<xs.length:=(QN.mp h).1;have e:ER xs.length (j:Int)=some j:=by
  unfold ER;rw[if_pos ω,if_pos ω];simp
 unfold uc;rw[e];exact h
theorem pW(xs:List α)(v:α):uc (xs++[v]) (-1)=some v:=by
 have hl:(xs++[v]).length=xs.length+1:=by simp
 have e:ER (xs++[v]).length (-1)=some xs.length:=by
  unfold ER;rw[hl,if_neg δ,if_pos ω]
  congr 1
  lia
 unfold uc;rw[e];show(xs++[v])[xs.length]?=some v;simp
def tY(b:RP):Prop:=∀o i,Yn b false o i=operate [o,i] (Xd o i)
def AI(X:Cx)(r:R2):Prop:=
 ∀(value slice:RP) (pins:List (Addr×Obj)) (s:QQ) (σ:St) (H:Hp) (x y:V) (v u:Value) (Q:VK),Inv X pins σ H s->aY x v->aY y u->r x y H Q→
  Yn slice false v u=operate [v,u] (Xd v u)->Rj (Ro X.prog X.w) X.A (YI value slice v u) (EP X pins σ Q) X.xe s
def Qo(X:Cx)(id:String)(r:V->List V->Hp->VK->Prop):Prop:=
 ∀(pins:List (Addr×Obj)) (s:QQ) (σ:St) (H:Hp) (x:V) (xs:List V) (v:Value) (us:List Value) (Q:VK),Inv X pins σ H s->aY x v->aW xs us->r x xs H Q→
  Rj (Ro X.prog X.w) X.A (call (.builtin id) (v::us)) (EP X pins σ Q) X.xe s
section
variable {X:Cx}{a b:RP}{ta tb:TE}{pos:Uh}
theorem AI.or(h:AI X r)(h':AI X r'):AI X (λx y H Q=>r x y H Q∨r' x y H Q):=by
 intro value slice pins s σ H x y v u Q I rx ry q hs;rcases q with q|q
 ·exact h value slice pins s σ H x y v u Q I rx ry q hs
 ·exact h' value slice pins s σ H x y v u Q I rx ry q hs
theorem N7(hr:AI X r)(ha:PE X a ta)(hb:PE X b tb)(hs:tY b):PE X (.Subscript a b pos) (F4 r ta tb):=by
 intro pins s σ H Q I h;exact Subscript_ (MI ha hb I h λv u s2 x y H2 I2 rx ry q=>hr a b pins s2 σ H2 x y v u Q I2 rx ry q (hs _ _))
inductive PV(S:Addr->List V->Prop)(x y:V)(Q:V->Prop):Prop where
 |mk (p:Addr) (xs:List V) (i:Int) (v:V) (e:x=.ref p) (f:y=.int i) (s:S p xs) (a:uc xs i=some v) (k:Q v):PV S x y Q
def Kp(K:QJ):R2:=λx y H Q=>PV (aJ K H) x y λv=>Q v H
def Ko(K:QJ):R2:=λx y H Q=>PV (cE K H) x y λv=>Q v H
def NJ:R2:=λx y H Q=>∃z i c,x=.str z/\y=.int i/\z.length≤sizeLine/\uc z.cps.toList i=some c/\Q (.str ⟨#[c]⟩) H
theorem kY:AI X (Kp X.K):=by
 intro value slice pins s σ H x y v u Q I rx ry h hs;obtain⟨p,xs,i,z,rfl,rfl,hq,he,q⟩:=h
 cases rx
 obtain⟨t,rfl⟩:=ry;obtain⟨its,r,pl,hz⟩:=I.list hq;obtain⟨j,h1,h2,h3,h4,h5⟩:=tQ he;obtain⟨w,ew,rw'⟩:=r.get h2;have hl:=r.length;have hn:=mB;have fin:EP X pins σ Q w s:=⟨z,H,I,rw',q⟩;by_cases h0:0≤i
 ·have hj:i.toNat=j:=by
   rw[ZN h0 h5] at h1;exact R6 h1
  exact item_listR pl.isList h0 ω (by rw[hj];simpa using ew) fin hs
 ·have hj:(i+(its.toArray.size:Int)).toNat=j:=by
   rw[Zj ω h4] at h1;rw[Rp,←hl];exact R6 h1
  exact XZ (x:=w) pl.isList.typeIs Zk.lookup
   (wpAny_getItem_list_neg (Q:=λr s'=>r=w/\EP X pins σ Q r s') pl.isList ω (by rw[Rp]<;>lia) ω (by rw[hj];simpa using ew) ⟨Z,fin⟩) hs
theorem fZ:AI X (Ko X.K):=by
 intro value slice pins s σ H x y v u Q I rx ry h hs;obtain⟨p,xs,i,z,rfl,rfl,hq,he,q⟩:=h
 cases rx
 obtain⟨t,rfl⟩:=ry;obtain⟨its,r,pl,hz⟩:=I.tuple hq;obtain⟨j,h1,h2,h3,h4,h5⟩:=tQ he;obtain⟨w,ew,rw'⟩:=r.get h2;have hl:=r.length;have hn:=mB;have fin:EP X pins σ Q w s:=⟨z,H,I,rw',q⟩;exact XZ (x:=w) pl.typeIs slot_tuple_getitem.lookup
  (getItem_tuple (j:=j) (Q:=λr s'=>r=w/\EP X pins σ Q r s') pl ω ω (by rw[Rp,←hl];exact h1) (by simpa using ew) ⟨Z,fin⟩) hs
theorem Ml:AI X NJ:=by
 intro value slice pins s σ H x y v u Q I rx ry h hs;obtain⟨z,i,c,rfl,rfl,hz,he,q⟩:=h;obtain⟨t,rfl⟩:=rx;obtain⟨t',rfl⟩:=ry;obtain⟨j,h1,h2,h3,h4,h5⟩:=tQ he;have hl:z.cps.toList.length=z.length:=by simp[RF.length]
 rw[hl] at h1 h4 h5;have hn:=mB;exact tail_any (typeIs_str s z t) slot_str_getitem.lookup (getItem_str (c:=c) (by
  have e1:decide (i < -(2^63:Int))=false:=decide_eq_false ω;have e2:decide (i≥2^63)=false:=decide_eq_false ω;rw[e1,e2,YJ]) (by rw[h1];simpa using h2) ⟨.str ⟨#[c]⟩,H,I.tok _,⟨_,Z⟩,q⟩) hs
def Qz(K:QJ):R2:=λx y H Q=>Kp K x y H Q∨Ko K x y H Q∨NJ x y H Q
theorem Mm:AI X (Qz X.K):=kY.or (fZ.or Ml)
theorem wG(its:List Value)(n j:Nat)(u:Value):Obj.mapSeq (·.setIfInBounds j u) { cls:=.type "list",data:=.seq its.toArray n}={ cls:=.type "list",data:=.seq (its.set j u).toArray n}:=by
 simp[Obj.mapSeq]
theorem Inv.lst{pins:List (Addr×Obj)}{σ:St}{H:Hp}{s:QQ}{p:Addr}{xs:List V}(I:Inv X pins σ H s)(h:H p=some (.lst xs)) :
  ∃(its:List Value) (n:Nat),aW xs its/\s.heap.get? p=some { cls:=.type "list",data:=.seq its.toArray n}/\xs.length≤sizeLine:=by
 obtain⟨z,its,n,r,e⟩:=I.hok p _ h;exact⟨its,n,r,e,z⟩
theorem Inv.lstUpd{pins:List (Addr×Obj)}{σ:St}{H:Hp}{s:QQ}{p:Addr}{xs ys:List V}{its its':List Value}{n n':Nat}{f:Obj->Obj}(I:Inv X pins σ H s)(h:H p=some (.lst xs))
  (ho:s.heap.get? p=some { cls:=.type "list",data:=.seq its.toArray n}) (hf:f { cls:=.type "list",data:=.seq its.toArray n}={ cls:=.type "list",data:=.seq its'.toArray n'}) (r:aW ys its') (hz:ys.length≤sizeLine) (t:Nat) :
  Inv X pins σ (upd H p (.lst ys)) { s with heap:=s.heap.update p f,toks:=t}:=by
 have e:(s.heap.update p f).get? p=some { cls:=.type "list",data:=.seq its'.toArray n'}:=by
  rw[Ug f ho (by rw[hf]<;>rfl),hf]
 refine I.write (x:=p) (e:=p) (by rw[h];trivial) (.inl Z) (λb u hb q=>(RI _ _ (SO hb)).trans q) ⟨_,e⟩ ?_;exact⟨hz,its',n',r,e⟩
inductive O0(o i v:V)(H:Hp)(Q:Hp->Prop):Prop where
 |mk (p:Addr) (xs:List V) (k:Int) (j:Nat) (e:o=.ref p) (f:i=.int k) (h:H p=some (.lst xs)) (n:ER xs.length k=some j) (q:Q (upd H p (.lst (xs.set j v)))):O0 o i v H Q
def NG:V->V->V->Hp->(Hp->Prop)->Prop:=λo i v H Q=>O0 o i v H Q
theorem fW:FG X NG:=by
 intro pins s σ H o i v ov iv u Q I ro ri rv h;obtain⟨p,xs,k,j,rfl,rfl,hp,hj,q⟩:=h
 cases ro
 obtain⟨t,rfl⟩:=ri;obtain⟨its,n,r,ho,hz⟩:=I.lst hp;obtain⟨h1,h2,h3,h4⟩:=yL hj;have hl:=r.length;have hn:=mB;have I':Inv X pins σ (upd H p (.lst (xs.set j v))) { s with heap:=s.heap.update p (Obj.mapSeq (·.setIfInBounds j u))}:=
  I.lstUpd hp ho (wG its n j u) (r.set rv j) (by rw[Ts];exact hz) s.toks
 by_cases h0:0≤k
 ·have hk:k.toNat=j:=by
   rw[ZN h0 h4] at h1;exact R6 h1
  exact PySem.W.ki_setAt ho h0 ω (by rw[Rp,←hl];exact h4) (by rw[hk];exact⟨_,I',q⟩)
 ·have hk:(k+(its.toArray.size:Int)).toNat=j:=by
   rw[Zj ω h3] at h1;rw[Rp,←hl];exact R6 h1
  exact PySem.W.ki_setBack ho ω (by rw[Rp,←hl];exact h3) ω (by rw[hk];exact⟨_,I',q⟩)
theorem sx(lo hi:Option Int)(n:Nat):(VI lo hi none n).1=((HT.sIx n 0 lo:Nat):Int)/\(VI lo hi none n).2.1=((HT.sIx n n hi:Nat):Int)/\(VI lo hi none n).2.2=1:=by
 refine⟨?_,?_,Z⟩
 ·cases lo with
  |none=>simp[VI,HT.sIx]
  |some i=>
   simp only[VI,HT.sIx,ZI,show(1:Int)>0 by decide,if_true];by_cases h:i<0
   ·simp only[h,if_true]<;>lia
   ·simp only[h,if_false]<;>lia
 ·cases hi with
  |none=>simp[VI,HT.sIx]
  |some i=>
   simp only[VI,HT.sIx,ZI,show(1:Int)>0 by decide,if_true];by_cases h:i<0
   ·simp only[h,if_true]<;>lia
   ·simp only[h,if_false]<;>lia
theorem qf(its:List Value)(lo hi:Option Int):slicePick its.toArray lo hi none=((its.drop (HT.sIx its.length 0 lo)).take (HT.sIx its.length its.length hi-HT.sIx its.length 0 lo)).toArray:=by
 obtain⟨h1,h2,h3⟩:=sx lo hi its.toArray.size;unfold slicePick;rw[h1,h2,h3];simp only[sliceRange_one,pick_run,Rp]<;>rfl
def Pk(K:QJ):V->Option Int->Option Int->Hp->VK->Prop:=λx lo hi H Q=>∃a xs,x=.ref a/\aJ K H a xs/\∀p,H p=none->Q (.ref p) (upd H p (.lst (mH xs lo hi)))
theorem sy:Pf X (Pk X.K):=by
 intro pins s σ H x v vl vu lo hi sl Q I rx hs pl pu h;obtain⟨a,xs,rfl,hx,q⟩:=h
 cases rx
 obtain⟨its,r,ht,hz⟩:=I.list hx;have hlen:=r.length;refine⟨"list",_,Zk.lookup,ht.isList.typeIs,?_⟩;refine wpAny_getItem_list_slice ht.isList hs pl pu .none (by simp) ?_ (by rw[Rp]<;>lia);rw[qf,←hlen];refine⟨.ref s.heap.objs.size,_,I.laid (t':=s.toks) (o:=.lst (mH xs lo hi)) (λb ob q=>QP _ q) (QY _) ?_,Z,q _ (I.hok.fresh (QY _))⟩;exact⟨RC (mZ xs lo hi) hz,_,0,(r.drop (HT.sIx xs.length 0 lo)).take (HT.sIx xs.length xs.length hi-HT.sIx xs.length 0 lo),Rg _ Z⟩
inductive MZ(K:QJ)(H:Hp)(xs:List V)(Q:Int->Prop):Prop where
 |mk (p:Addr) (ys:List V) (e:xs=[.ref p]) (h:aJ K H p ys∨cE K H p ys) (k:Q ys.length):MZ K H xs Q
theorem fJ:eF X (.builtin "len") (λxs H Q=>MZ X.K H xs λn=>Q (.int n) H):=by
 intro pins s σ H xs us Q I r h;obtain⟨p,ys,rfl,hq,q⟩:=h;obtain⟨u,rfl,rx⟩:=jB r
 cases rx
 have hn:=mB;rcases hq with hq|hq
 ·obtain⟨its,r',pl,hz⟩:=I.list hq;have hlen:=r'.length;exact Calls.call_len_list pl.isList (by simp only[Rp]<;>lia) ⟨.int ys.length,H,I.tok _,⟨s.toks+1,by rw[Rp,hlen]⟩,q⟩
 ·obtain⟨its,r',pl,hz⟩:=I.tuple hq;have hlen:=r'.length;exact len_tuple pl (by simp only[Rp]<;>lia) ⟨.int ys.length,H,I.tok _,⟨s.toks+1,by rw[Rp,hlen]⟩,q⟩
theorem lD:eF X (.type "list") (λxs H Q=>∃p ys,xs=[.ref p]/\(aJ X.K H p ys∨cE X.K H p ys)/\∀l,H l=none->Q (.ref l) (upd H l (.lst ys))):=by
 intro pins s σ H xs us Q I r h;obtain⟨p,ys,rfl,hq,q⟩:=h;obtain⟨u,rfl,rx⟩:=jB r
 cases rx
 have fin:∀(its:List Value),aW ys its->ys.length≤sizeLine->∀(h':Ra) (c':Nat),(∀b o',s.heap.get? b=some o'->h'.get? b=some o')→
   h'.get? s.heap.objs.size=some { cls:=.type "list",dict:=none,data:=.seq its.toArray c',slots:=#[]}->EP X pins σ Q (.ref s.heap.objs.size) { s with heap:=h'}:=λits r' hz h' c' kp e=>
  ⟨.ref s.heap.objs.size,_,I.laid (t':=s.toks) kp (QY _) (show ObjOk X.prog X.w _ h' _ (.lst ys) from⟨hz,its,c',r',e⟩),Z,q _ (I.hok.fresh (QY _))⟩
 rcases hq with hq|hq
 ·obtain⟨its,r',pl,hz⟩:=I.list hq;have hlen:=r'.length;obtain⟨o,ho,hc,n,hd⟩:=pl.isList;exact call_list_seq p (.inl Z) ho hc hd (λh' c' kp e=>fin its r' hz h' c' kp e) (by simp only[Rp]<;>lia)
 ·obtain⟨its,r',pl,hz⟩:=I.tuple hq;have hlen:=r'.length;obtain⟨o,ho,hc,n,hd⟩:=pl;exact call_list_seq p (.inr Z) ho hc hd (λh' c' kp e=>fin its r' hz h' c' kp e) (by simp only[Rp]<;>lia)
theorem bV:eF X (.type "tuple") (λxs H Q=>∃p ys,xs=[.ref p]/\((aJ X.K H p ys/\∀l,H l=none->Q (.ref l) (upd H l (.tup ys)))∨(cE X.K H p ys/\Q (.ref p) H))):=by
 intro pins s σ H xs us Q I r h;obtain⟨p,ys,rfl,h⟩:=h;obtain⟨u,rfl,rx⟩:=jB r
 cases rx
 rcases h with⟨hq,q⟩ | ⟨hq,q⟩
 ·obtain⟨its,r',pl,hz⟩:=I.list hq;have hlen:=r'.length;refine call_tuple_list pl.isList (λh' kp=>?_) (by simp only[Rp]<;>lia);have I1:Inv X pins σ H { s with heap:=h'}:=I.kept (t':=s.toks) kp;have I2:Inv X pins σ (upd H h'.objs.size (.tup ys)) { s with heap:=h'.push { cls:=.type "tuple",data:=.seq its.toArray} }:=
   I1.laid (t':=s.toks) (λb o e=>QP _ e) (QY _) (show ObjOk X.prog X.w _ _ _ (.tup ys) from⟨hz,its,r',aaC _ _⟩)
  exact⟨.ref h'.objs.size,_,I2,Z,q _ (I1.hok.fresh (QY _))⟩
 ·obtain⟨its,r',pl,hz⟩:=I.tuple hq;exact call_tuple_same pl ⟨.ref p,H,I,Z,q⟩
def Qd(K:QJ)(T:String)(x:V)(H:Hp):Prop:=match x with
 | .str _=>T = "str"
 | .int _=>T = "int"
 | .ref p=>(T = "list"/\∃xs,aJ K H p xs)∨(T = "tuple"/\∃o,K.lookup p=some o/\o.cls=.type "tuple"/\o.dict=none)∨
   (T = "dict"/\((∃kvs,H p=some (.dK kvs))∨∃kvs,H p=some (.dT kvs)))∨(T = "set"/\∃S n,H p=some (.set S n))
 |_=>False
theorem JR{pins:List (Addr×Obj)}{σ:St}{H:Hp}{s:QQ}{T:String}{x:V}{v:Value}(I:Inv X pins σ H s)(r:aY x v)(ty:Qd X.K T x H) :
  s.TypeIs v T/\∀a,v=.ref a->∃ob,s.heap.get? a=some ob/\ob.dict=none:=by
 cases x with
 |str z=>
  obtain⟨t,rfl⟩:=r
  cases(show T = "str" from ty)
  exact⟨typeIs_str s z t,λ_ e=>nomatch e⟩
 |int i=>
  obtain⟨t,rfl⟩:=r
  cases(show T = "int" from ty)
  exact⟨typeIs_int s i t,λ_ e=>nomatch e⟩
 |ref p=>
  cases r
  rcases ty with⟨rfl,xs,hq⟩ | ⟨rfl,o,hk,hc,hd⟩ | ⟨rfl,hk⟩ | ⟨rfl,S,n,hk⟩
  ·obtain⟨its,_,pl,_⟩:=I.list hq;refine⟨pl.isList.typeIs,λa e=>?_⟩
   cases e
   obtain⟨o,n,e,c,hd,_⟩:=pl;exact⟨o,e,hd⟩
  ·refine⟨⟨o,I.kIn p o hk,hc⟩,λa e=>?_⟩
   cases e
   exact⟨o,I.kIn _ o hk,hd⟩
  ·have z:∃o,s.heap.get? p=some o/\o.ExactDict:=by
    rcases hk with⟨kvs,hk⟩ | ⟨kvs,hk⟩
    ·obtain⟨_,_,_,_,o,_,_,e,ex,_⟩:=I.hok p _ hk;exact⟨o,e,ex⟩
    ·obtain⟨_,_,_,_,o,_,_,e,ex,_⟩:=I.hok p _ hk;exact⟨o,e,ex⟩
   obtain⟨o,e,ex⟩:=z;refine⟨⟨o,e,ex.1⟩,λa e2=>?_⟩
   cases e2
   exact⟨o,e,ex.2.1⟩
  ·obtain⟨o,_,_,_,e,ex,_⟩:=I.hok p _ hk;refine⟨⟨o,e,ex.1⟩,λa e2=>?_⟩
   cases e2
   exact⟨o,e,ex.2.1⟩
 |_=>exact Sn ty
def Qh(K:QJ)(T:String)(r:V->List V->Hp->VK->Prop)(to:TE)(t:TA):TE:=λσ H Q=>to σ H λx H1=>Qd K T x H1/\t σ H1 λxs H2=>r x xs H2 Q
variable {o e:RP}{es:List RP}{to:TE}{t:TA}{name:RF}{apos cpos:Uh}{T id:String}{r:V->List V->Hp->VK->Prop}
theorem N8(pa:PlainAttrs T)(slot:Slot T name id)(hty:typeOf (.builtin id)=SS (.type "method_descriptor"))(hm:Qo X id r)(ho:PE X o to)(ha:PA X (e::es) t)
  (hbase:Tw o name X.env (eval o X.env)=eval o X.env:=by rfl)
  (hfew:((Te cpos (Q6 (e::es) X.env)).all (λx=>!x.1)&&(WR cpos (Vb [] X.env)).all (λx=>x.1.isSome)
  &&decide ((e::es).length+([]:List Xh).length+(if([]:List Xh).isEmpty then 0 else 1)<30))=true:=by rfl)
  (hline:(apos.endLine==cpos.line)=true:=by rfl) (hs:Q6 (e::es) X.env=(false,eval e X.env)::Q6 es X.env:=by rfl) (hplain:(Te cpos (Q6 es X.env)).any (·.1)=false:=by rfl) :
  PE X (.Call (.Attribute o name apos) (e::es) [] cpos) (Qh X.K T r to t):=by
 intro pins s σ H Q I h;refine wpAny_Call_method_late hbase hfew hline Z (bQ (ho pins s σ H _ I h) λv s1 ⟨x,H1,I1,r1,ty,q1⟩=>?_);obtain⟨h1,h2⟩:=JR I1 r1 ty;refine⟨T,id,pa,slot,hty,h1,h2,?_⟩;have hA:=ha cpos pins s1 σ H1 _ I1 q1;rw[hs] at hA ⊢;refine Calls.callWith_builtin (by show(false||(Te cpos (Q6 es X.env)).any (·.1))=false;rw[hplain]<;>rfl) (Calls.evalArgs_plain ?_);exact bQ hA λus s2 ⟨vs,H2,I2,r2,q2⟩=>hm pins s2 σ H2 x vs v us Q I2 r1 r2 q2
end
end L2
namespace L2
open PySem PySem.Spec PyProof.Rows
def Qp(X:Cx)(id:String)(r:V->List V->Hp->VK->Prop):Prop:=
 ∀(pins:List (Addr×Obj)) (s:QQ) (σ:St) (H:Hp) (x:V) (xs:List V) (v:Value) (us:List Value) (Q:VK),Inv X pins σ H s->aY x v->aW xs us->r x xs H Q→
  Rj (Ro X.prog X.w) X.A (call (.builtin id) (v::us)) (EP X pins σ Q) X.xe s
theorem aW.one:∀{x:V} {us:List Value},aW [x] us->∃u,us=[u]/\aY x u
 |_,_,.cons r .nil=>⟨_,Z,r⟩
theorem aW.eraseIdx:∀{xs:List V} {us:List Value} (i:Nat),aW xs us->aW (xs.eraseIdx i) (us.eraseIdx i)
 |_,_,_,.nil=>.nil
 |_,_,0,.cons _ t=>t
 |_,_,i+1,.cons r t=>.cons r (aW.eraseIdx i t)
section
variable {X:Cx}{pins:List (Addr×Obj)}{σ:St}{H:Hp}{s:QQ}{l b:Addr}{xs ys zs:List V}
theorem Inv.lset{its its':List Value}(I:Inv X pins σ H s)(hH:H l=some (.lst xs))
  (e:s.heap.get? l=some { cls:=.type "list",data:=.seq its.toArray n}) (hf:f its.toArray=its'.toArray) (hv:aW ys its') (hz:ys.length≤sizeLine):
  Inv X pins σ (upd H l (.lst ys)) { s with heap:=s.heap.update l (Obj.mapSeq f),toks:=t'}:=by
 have q:=PySem.IsL.update e f;rw[hf] at q;refine I.write (x:=l) (e:=l) (by rw[hH];exact trivial) (.inl Z) (λb' u hb hu=>(RI s.heap (Obj.mapSeq f) (SO hb)).trans hu) ⟨_,q⟩ ?_;exact⟨hz,its',_,hv,q⟩
theorem Inv.lnew(I:Inv X pins σ H s)(hv:aW ys its)(hz:ys.length≤sizeLine):
  Inv X pins σ (upd H s.heap.objs.size (.lst ys)) { s with heap:=s.heap.push { cls:=.type "list",data:=.seq its.toArray},toks:=t'}:=
 I.laid (λ_ _ q=>QP _ q) (QY _) ⟨hz,its,0,hv,Rg _ Z⟩
theorem Inv.fresh(I:Inv X pins σ H s):H s.heap.objs.size=none:=I.hok.fresh (QY _)
theorem Inv.lstM(I:Inv X pins σ H s)(hH:H l=some (.lst xs)):xs.length≤sizeLine/\∃(its:List Value) (n:Nat),aW xs its/\xs.length=its.length/\s.heap.get? l=some { cls:=.type "list",data:=.seq its.toArray n}:=by
 obtain⟨z,its,n,r,e⟩:=I.hok l _ hH;exact⟨z,its,n,r,r.length,e⟩
end
section
variable {X:Cx}
inductive O2(x:V)(vs:List V)(H:Hp)(Q:Hp->Prop):Prop where
 |mk (l:Addr) (xs:List V) (y:V) (e:x=.ref l) (f:vs=[y]) (h:H l=some (.lst xs)) (n:xs.length<sizeLine) (q:Q (upd H l (.lst (xs++[y])))):O2 x vs H Q
def Go:V->List V->Hp->VK->Prop:=λx vs H Q=>O2 x vs H λH'=>Q .non H'
theorem eV:Qp X "list.append" Go:=by
 intro pins s σ H x vs v us Q I rx rv h;obtain⟨l,xs,y,rfl,rfl,hH,hz,q⟩:=h
 cases rx
 obtain⟨u,rfl,ru⟩:=rv.one;obtain⟨z,its,n,r,hl,e⟩:=I.lstM hH;refine YR F.slot_list_append ⟨_,e,Z⟩ F.entry_list_append (F.args_list_append_2 _ _) (PySem.list_append l its.toArray n u (by rw[Rp];lia)) ⟨e,?_⟩;refine⟨.non,_,I.lset (its':=its++[u]) hH e (by simp) (r.append (.cons ru .nil)) ?_,Z,q⟩;rw[Q8,Sd];lia
def Po:R2:=λx y H Q=>∃l b xs zs,x=.ref l/\y=.ref b/\H l=some (.lst xs)/\H b=some (.lst zs)/\xs.length+zs.length≤sizeLine/\∀p,H p=none->Q (.ref p) (upd H p (.lst (xs++zs)))
theorem sW:iF X (Ua .Add) Po:=by
 intro pins s σ H x y v u Q I rx ry h;obtain⟨l,b,xs,zs,rfl,rfl,hH,hB,hz,q⟩:=h
 cases rx
 cases ry
 obtain⟨z,its,n,r,hl,e⟩:=I.lstM hH;obtain⟨z2,its2,n2,r2,hl2,e2⟩:=I.lstM hB;refine PySem.P.add_list e e2 ?_ (by rw[Rp,Rp];lia);have ea:its.toArray++its2.toArray=(its++its2).toArray:=by simp
 rw[ea];exact⟨.ref _,_,I.lnew (t':=s.toks) (r.append r2) (by rw[Q8];lia),Z,q _ I.fresh⟩
end
section
variable {prog:Rz}{w:RS}{A:RK}{E:Value->QQ->Prop}{s:QQ}
end
section
variable {X:Cx}
end
end L2
namespace Att
open PySem PySem.W PySem.Calls PyProof.Rows
theorem nk:∀(ns:List Int) (vs:List Value),WellAll P h vs (ns.map WData.int)->Xi vs ns:=by
 intro ns
 induction ns with
 |nil=>
  intro vs w;rw[X0] at w
  cases w
  exact .nil
 |cons n ns ih=>
  intro vs w;rw[Rr] at w
  cases w with
  |cons a b=>
   cases a
   exact .cons _ _ (ih _ b)
theorem zx{l:OpenLaw}(hn:l.most=some n){h:Ra} 
  (hpre:l.row.toRowW.claim.pre args=true) (hwl:WellAll P h vals args):
  ∃a vs ns,vals=[RA a]/\args=[WData.list (ns.map WData.int)]/\h.get? a=some { cls:=.type "list",data:=.seq vs.toArray}/\Xi vs ns/\ns.length≤n:=by
 have hsh:WShape.hasAll [] args [.list .int]=true:=(pre_splitW hpre).1;have hc:l.pre.holds [] { args:=args}=true:=(pre_splitW hpre).2;obtain⟨d,r,rfl,h1,h2⟩:=hasAllW_cons hsh;obtain rfl:=hasAllW_nil h2;obtain⟨xs,rfl,h3⟩:=hasW_list h1;obtain⟨ns,rfl⟩:=items_int h3;have hlen:ns.length≤n:=by
  unfold OpenLaw.pre at hc;have h4:(WTm.not (.lt (.lit (.int (n:Int))) (.len (.arg 0)))).holds [] { args:=[.list (ns.map .int)]}=true:=by
   have h4:=(holds_andW hc).1;rw[hn] at h4;exact h4
  have h5:=condW_of h4 (w_not (w_lt w_lit (w_len_list (w_arg Z))));rw[QK] at h5;refine Nat.le_of_not_lt λq=>?_
  have q':(n:Int)<((ns.length:Nat):Int):=ω
  first
   | (rw[decide_eq_true q'] at h5;exact absurd h5 δ)
   | (simp at h5;lia)
 cases hwl with
 |cons w1 w2=>
  cases w2
  cases w1 with
  |list ho hall=>exact⟨_,_,ns,Z,Z,ho,nk ns _ hall,hlen⟩
theorem zT(l:OpenLaw)(args:List WData):l.row.toRowW.claim.post args (.bool true) args=true:=
 postW_of (r:=l.row.toRowW) (X:=(true==true))
  (show WShape.has [] (.bool true) .bool=true by first|rfl|decide|simp[WShape.has,WShape.arms,WShape.armsAll])
  (show(WTm.eq .res (.lit (.bool true))).value [] { args:=args,res:=some (.bool true),after:=args}=some (.bool (true==true)) from w_eq_bool (w_res Z) w_lit) Z
theorem attach_call{l:OpenLaw}{d:DefRec}
  (hn:l.most=some n) (hdf:d.params.defaults=[])
  (call:∀(w:RS) (s₀ s₁:QQ) (mg mb:RF->Option Value) (fa:Addr) (o:Obj) (pm cd doc:Value) (a:Addr) (vs:List Value) (ns:List Int),
   Ground q loose [] XP w s₀ mg mb s₁.heap->YP w s₁.heap→
   s₁.heap.get? fa=some o->o.data=.func (docDef d.name d.params d.body d.scope pm cd doc)->s₁.heap.CodeRec cd d.name->mg d.name=some (.ref fa)→
   s₁.heap.get? a=some { cls:=.type "list",data:=.seq vs.toArray}->Xi vs ns->ns.length≤n->s₁.gens=#[]→
   VO (Ro l.prog w) Yy (.call (.ref fa) ⟨[.ref a],[]⟩) (λr s'=>r=.ok (.ret (.bool true))/\OldK s₁.heap s'.heap/\s'.os=s₁.os/\Wx s'.gens) s₁):
  WalkO q loose XP YP l.row.toRowW d [] (λf vs=>aad f vs):=by
 intro w s₀ s₁ mg mb G Y fa o pm cd doc dV kV ho hd hcd hD hmg hg args vals as hpre hlay hrd hwl hlo;obtain rfl:dV=.none:=Dflts.none hD hdf;obtain rfl:kV=.none:=Dflts.noKw hD;obtain⟨a,vs,ns,rfl,rfl,hobj,hints,hlen⟩:=zx hn hpre hwl;refine enter_call (VP (call w s₀ s₁ mg mb fa o pm cd doc a vs ns G Y ho (fd_plain hd) hcd hmg hobj hints hlen hg) λr s' hq=>?_);obtain⟨rfl,h2,h3,h4⟩:=hq;exact⟨.inl ⟨.bool true,.bool true,[],Z,λ_=>Z,.bool true,zT l _,λ_=>⟨Zl,λ_ hm=>(nomatch hm)⟩⟩,h2,h3,h4⟩
section
variable {prog:Rz}{w:RS}{A:RK}{E:Value->QQ->Prop}{s:QQ}{K:Frag}
def noObjs(h:Ra):Ra:={ h with objs:=#[]}
theorem noObjs_get(h:Ra)(b:Addr):(noObjs h).get? b=none:=by
 cases e:(noObjs h).get? b with
 |none=>rfl
 |some o=>exact absurd (Re e) (TK _)
theorem fr_all(n:h.Ns L m):Fr (noObjs h) L h m:=
 ⟨n,λb o e=>(by rw[noObjs_get] at e;cases e),Rq _⟩
end
end Att
namespace L2
open PySem PySem.Spec PyProof.Rows
theorem qp:∀{vs:List Value} {ns:List Int},Xi vs ns->aW (ns.map V.int) vs
 |_,_,.nil=>.nil
 |_,_,.cons n t h=>.cons ⟨t,Z⟩ (qp h)
end L2
namespace L2
open PySem PySem.Spec PyProof.Rows
end L2
namespace L2
open PySem PySem.Spec PyProof.Rows
def d7(s:Stmt)(j:Nat):Stmt:=match s with
 | .ClassDef _ _ _ body _ _ _ _ _ _ _=>body.getD j (.Pass ⟨0,0,0,0⟩)
 |_=>.Pass ⟨0,0,0,0⟩
def dM(s:Stmt):ZG:=match s with
 | .FunctionDef _ a _ _ _ _ _ _ _ _=>a
 |_=>{ posonlyargs:=[],args:=[],vararg:=none,kwonlyargs:=[],kw_defaults:=[],kwarg:=none,defaults:=[]}
def cY(s:Stmt):List Stmt:=match s with
 | .FunctionDef _ _ b _ _ _ _ _ _ _=>b
 |_=>[]
def ak(s:Stmt):UG:=match s with
 | .FunctionDef _ _ _ _ _ _ sc _ _ _=>sc
 |_=>{ kind:=.function,names:=[],isGenerator:=false,isCoroutine:=false}
abbrev c5:AL:=λ_ _ _ _ _ _=>False
abbrev E0:XK:=λ_ _ _=>False
theorem dS:eZ c5 X E0:=λ_ _ _ _ _ _ _ h=>h.elim
structure Fun(K:QJ)(x qual:RF)(st:Stmt)(f:Addr)(fd:QU):Prop where
 ex:∃(oc:Value) (od:Option Addr) (kV doc pm:Value) (an:Option Addr) (cdv ct:Value) (osl:Array (Option Value)),
  fd=S2 x qual (dM st) (cY st) (ak st) .none kV doc pm an cdv ct/\K.lookup f=some ⟨oc,od,.func fd,osl⟩/\VQ K cdv qual=true
 kp:SM K (.ref f)=true
section
variable {P:Rz}{w:RS}{K:QJ}{mg:RF->Option Value}{base:Ra}
theorem Fun.ok{x qual:RF}{st:Stmt}{f:Addr}{fd:QU}{N ps:List RF}{k:Nat}{sp:Sp}(F:Fun K x qual st f fd)(S:av N ps (ak st))(len:∀vs H Q E,sp vs H Q E->vs.length=ps.length)
  (hbody:∀(cdv:Value) (A:RK) (outer:List ZU) (s:QQ) (H:Hp) (vs:List V) (Q:VK) (E:XK),cA k (A.deeper (Xo qual (ak st) s.heap.objs.size f cdv))->sp vs H Q E→
   ∃t,tZ (ba c5 P w K mg base N qual (ak st) f cdv A outer s H E).nox (cY st) t/\t { nx:=λ_ H'=>Q .non H',rt:=Q} (start N vs) H):aP P w K mg base c5 (k+1) f fd ps sp:=by
 obtain⟨oc,od,kV,doc,pm,an,cdv,ct,osl,rfl,lk,hcd⟩:=F.ex;refine Fd lk hcd S len λA outer s H vs Q E hr hsp=>?_
 obtain⟨t,h,q⟩:=hbody cdv A outer s H vs Q E hr hsp;exact⟨t,h.nox,q⟩
theorem Fun.binds{x qual:RF}{st:Stmt}{f:Addr}{fd:QU}{ps:List RF}(F:Fun K x qual st f fd)
  (h:∀(kV doc pm:Value) (an:Option Addr) (cdv ct:Value) (us:List Value),us.length=ps.length->XD (S2 x qual (dM st) (cY st) (ak st) .none kV doc pm an cdv ct) ⟨us,[]⟩=SS (ps.zip us)):aI K fd ps []:=by
 obtain⟨oc,od,kV,doc,pm,an,cdv,ct,osl,rfl,lk,hcd⟩:=F.ex;exact .all (h kV doc pm an cdv ct)
theorem wS{x qual:RF}{st:Stmt}{f:Addr}{oc:Value}{od an:Option Addr}{osl:Array (Option Value)}{kV doc pm cdv ct:Value}(l:K.lookup f=some ⟨oc,od,.func (S2 x qual (dM st) (cY st) (ak st) .none kV doc pm an cdv ct),osl⟩)
  (c:VQ K cdv qual=true) (k:SM K (.ref f)=true):Fun K x qual st f (S2 x qual (dM st) (cY st) (ak st) .none kV doc pm an cdv ct):=⟨⟨oc,od,kV,doc,pm,an,cdv,ct,osl,Z,l,c⟩,k⟩
end
theorem iY(hr:cA k A):A.units+1<cLine:=RH (Vq (by decide:1≤64) _) hr.units
theorem aN(h:n≤1000):n<sizeLine:=RH h δ
section
variable {X:Cx}
theorem pv(i:Nat){x:RF}{pos:Uh}(hN:X.N[i]?=some x:=by rfl)(hv:OR X.env.scope x:=by first|exact SI Z|exact SB (SI Z)|exact SB (SB Z))(hd:(x==("__debug__" : RF))=false:=by decide)
  (hcd:(x==("__classdict__" : RF))=false:=by decide):PE X (.Name x pos) (JV i):=K4 hN hv hd hcd
end
theorem dC{A B:Prop}(h:B):if false=true then A else B:=by
 rw[if_neg Rn];exact h
theorem fC{A B:Prop}(h:A):if true=true then A else B:=by
 rw[if_pos Z];exact h
theorem HR{c A B:Prop}[Decidable c](h1:c->A)(h2:¬c->B):if c then A else B:=by
 by_cases h:c
 ·rw[if_pos h];exact h1 h
 ·rw[if_neg h];exact h2 h
theorem uT{c A B:Prop}[Decidable c](hc:c)(h:B):if(!decide c)=true then A else B:=by
 rw[decide_eq_true hc];exact dC h
def ax(H H':Hp):Prop:=∀b o,H b=some o->H' b=some o
theorem ax.refl(H:Hp):ax H H:=λ_ _ h=>h
theorem ax.trans(a:ax H H1)(b:ax H1 H2):ax H H2:=λc o h=>b c o (a c o h)
theorem ax.seq{K:QJ}{H H':Hp}{a:Addr}{xs:List V}(e:ax H H')(h:aJ K H a xs):aJ K H' a xs:=by
 rcases h with(h | ⟨o,h⟩)|h
 ·exact .inl (.inl (e _ _ h))
 ·exact .inl (.inr ⟨o,e _ _ h⟩)
 ·exact .inr h
end L2
set_option maxHeartbeats 4000000
namespace B
open PySem L2 PyProof.Rows
theorem uU{c A B:Prop}[Decidable c](hc:¬c)(h:A):if(!decide c)=true then A else B:=by
 grind
theorem bP{c A B:Prop}[Decidable c](hc:c)(h:A):if decide c=true then A else B:=by
 grind
theorem bJ{c A B:Prop}[Decidable c](hc:¬c)(h:B):if decide c=true then A else B:=by
 grind
theorem Jt{b:Bool}{A B:Prop}(hb:b=true)(h:A):if b=true then A else B:=by rw[if_pos hb];exact h
theorem Ju{b:Bool}{A B:Prop}(hb:b=false)(h:B):if b=true then A else B:=by
 grind
def EN(A B:String):Option Bool:=if(WN A==WN B)=true then some true else if PySem.W.kitMeta B=true then(fastBuiltinMro A).map (·.contains (.type B)) else none
theorem EM{K:QJ}{A B:String}{b:Bool}(h:EN A B=some b):Z7 K (.type A) (.type B)=some b:=h
inductive Ty(H:Hp):V->String->Prop where
 |non:Ty H .non "NoneType"
 |bl (b:Bool):Ty H (.bl b) "bool"
 |int (i:Int):Ty H (.int i) "int"
 |str (x:RF):Ty H (.str x) "str"
 |lst {a:Addr} {xs:List V} (e:H a=some (.lst xs)):Ty H (.ref a) "list"
 |tup {a:Addr} {xs:List V} (e:H a=some (.tup xs)):Ty H (.ref a) "tuple"
theorem Ty.of(K:QJ)(h:Ty H v n):mI K H v (.type n):=by
 cases h with
 |non=>exact .non
 |bl b=>exact .bl b
 |int i=>exact .int i
 |str x=>exact .str x
 |lst e=>exact .lst e
 |tup e=>exact .tup e
def Pm:List V->Hp->VK->Prop:=λxs H Q=>∃x n m b,xs=[x,.ty n]/\Ty H x m/\EN m n=some b/\Q (.bl b) H
theorem u8:eF X (.builtin "isinstance") Pm:=by
 intro pins s σ H xs us Q I r h;obtain⟨x,n,m,b,rfl,ty,e,q⟩:=h;obtain⟨u,u2,rfl,rx,ry⟩:=xD r;obtain rfl:u2=WN n:=ry;exact Ai I rx (ty.of X.K) (EM e) λtk=>⟨.bl b,H,I.tok tk,Z,q⟩
structure IB(t:Addr)(H H':Hp):Prop where
 keep:∀b o,b≠t->H b=some o->H' b=some o
 tp:∃xs,H t=some (.lst xs)
 tp':∃xs,H' t=some (.lst xs)
theorem IB.up(h:H t=some (.lst xs)):IB t H (upd H t (.lst ys)):=⟨λc o n e=>by rw[ai n];exact e,⟨_,h⟩,⟨_,aa⟩⟩
theorem ae(h:H p=none)(o:HO):ax H (upd H p o):=λb u q=>by rw[ai (au q h)];exact q
theorem Pq{xs:List V}(h0:0≤r)(h1:r<(xs.length:Int)):∃v,uc xs r=some v/\v∈xs:=by
 have hk:r.toNat<xs.length:=ω
 have ek:r=((r.toNat:Nat):Int):=ω
 have q:uc xs ((r.toNat:Nat):Int)=some xs[r.toNat]:=aG (QH hk);grind
theorem Jj{ns:List Int}(h0:0≤r)(h1:r<(ns.length:Int)):∃z:Int,uc (ns.map V.int) r=some (.int z):=by
 obtain⟨v,h,hv⟩:=Pq (xs:=ns.map V.int) h0 (by rw[QK];exact h1);grind
theorem uY(ha:0≤a)(hb:0<b):Rf b (a%b)=Rf a b:=by
 obtain⟨n,rfl⟩:=R3 ha;obtain⟨m,rfl⟩:=R3 (Ry hb);rw[←Int.natCast_emod];show Nat.gcd m (n%m)=Nat.gcd n m;rw[Nat.gcd_comm m,←Nat.gcd_rec,Nat.gcd_comm]
theorem xh(i:Int):(if i<0 then -i else i)=(i.natAbs:Int):=by split<;>lia
end B
namespace B
open PySem PySem.Spec L2 PyProof.Rows
mutual
inductive dL(K:QJ)(H:Hp):V->R5->Prop where
 |non:dL K H .non .none
 |bl (b:Bool):dL K H (.bl b) (.bool b)
 |int (i:Int):dL K H (.int i) (.int i)
 |str (x:RF):dL K H (.str x) (.str x)
 |lst {a:Addr} {xs:List V} {ds:List R5} (e:aJ K H a xs) (h:bi K H xs ds):dL K H (.ref a) (.list ds)
 |tup {a:Addr} {xs:List V} {ds:List R5} (e:cE K H a xs) (h:bi K H xs ds):dL K H (.ref a) (.tuple ds)
inductive bi(K:QJ)(H:Hp):List V->List R5->Prop where
 |nil:bi K H [] []
 |cons {x:V} {d:R5} {xs:List V} {ds:List R5} (h:dL K H x d) (t:bi K H xs ds):bi K H (x::xs) (d::ds)
end
mutual
theorem dL.reads{X:Cx}{pins:List (Addr×Obj)}{σ:L2.St}{H:Hp}{s:QQ}(I:Inv X pins σ H s):∀{v:V} {d:R5} {u:Value},dL X.K H v d->aY v u->∃as,ZO s.heap u d as
 |_,_,u,.non,r=>by cases(show u=Uw from r);exact⟨_,.none⟩
 |_,_,u,.bl b,r=>by cases(show u=VD b from r);exact⟨_,.bool b⟩
 |_,_,u,.int i,r=>by obtain⟨t,q⟩:=(show ∃t,u=Vi i t from r);cases q;exact⟨_,.int i t⟩
 |_,_,u,.str x,r=>by obtain⟨t,q⟩:=(show ∃t,u=Xw x t from r);cases q;exact⟨_,.str x t⟩
 |_,_,u,.lst (a:=a) e h,r=>by
  cases(show u=RA a from r)
  obtain⟨its,rv,⟨o,n,ho,hc,_,hd⟩,_⟩:=I.list e;obtain⟨as,q⟩:=bi.reads I h rv;exact⟨_,.list ho hc hd (by simpa using q)⟩
 |_,_,u,.tup (a:=a) e h,r=>by
  cases(show u=RA a from r)
  obtain⟨its,rv,⟨o,ho,hc,n,hd⟩,_⟩:=I.tuple e;obtain⟨as,q⟩:=bi.reads I h rv;exact⟨_,.tuple ho hc hd (by simpa using q)⟩
theorem bi.reads{X:Cx}{pins:List (Addr×Obj)}{σ:L2.St}{H:Hp}{s:QQ}(I:Inv X pins σ H s):∀{vs:List V} {ds:List R5} {us:List Value},bi X.K H vs ds->aW vs us->∃as,ReadsAll s.heap us ds as
 |_,_,_,.nil,.nil=>⟨_,.nil⟩
 |_,_,_,.cons h t,.cons r q=>
  let ⟨_,a⟩:=dL.reads I h r;let ⟨_,b⟩:=bi.reads I t q
  ⟨_,.cons a b⟩
end
end B
namespace B
open PySem PySem.Spec L2 PyProof.Rows
def rq(X:Cx)(N':List RF)(scope:UG)(fn:RF->Bool)(cs:List (RF×Addr))(C:Addr)(fp:List Addr)(pins:List (Addr×Obj))(s:QQ)(H:Hp):Cx:=
 { X with N:=N',s₀:=s,H₀:=H,env:=Vw scope cs C X.env,outer:=X.stack,stack:=X.stack,ex:=fp,fn:=fn,pn:=X.pn++pins,xe:=λ_ _=>False}
abbrev wX(X:Cx)(N':List RF)(scope:UG)(cl:List (RF×Addr))(C:Addr)(fp:List Addr)(pins:List (Addr×Obj))(s:QQ)(H:Hp):Cx:=rq X N' scope (λ_=>false) cl C fp pins s H
def cQ(X:Cx)(scope:UG)(cl:List (RF×Addr)):List RF->List (Option Nat)->Prop
 | [],[]=>True
 |_::N,none::r=>cQ X scope cl N r
 |x::N,some j::r=>X.N[j]?=some x/\X.env.kindOf x=some .cell/\(Vw scope cl 0 X.env).kindOf x=some .cell/\cl.lookup x=X.env.cells.lookup x/\cQ X scope cl N r
 |_,_=>False
def cI(src:List (Option Nat))(σ:L2.St):L2.St:=src.map λo=>o.bind λj=>(σ[j]?).getD none
theorem cQ.len{X:Cx}{scope:UG}{cl:List (RF×Addr)}:∀{N:List RF} {src:List (Option Nat)},cQ X scope cl N src->N.length=src.length
 | [],[],_=>rfl
 |_::_,none::_,h=>congrArg (·+1) (cQ.len (X:=X) (scope:=scope) (cl:=cl) h)
 |_::_,some _::_,h=>congrArg (·+1) (cQ.len (X:=X) (scope:=scope) (cl:=cl) h.2.2.2.2)
theorem cQ.at{X:Cx}{scope:UG}{cl:List (RF×Addr)}{σ:L2.St}:∀{N:List RF} {src:List (Option Nat)} {i:Nat} {x:RF} {v:V},cQ X scope cl N src->N[i]?=some x->(cI src σ)[i]?=some (some v)→
  ∃j:Nat,X.N[j]?=some x/\σ[j]?=some (some v)/\X.env.kindOf x=some .cell/\(Vw scope cl 0 X.env).kindOf x=some .cell/\cl.lookup x=X.env.cells.lookup x
 |y::N,none::r,0,x,v,h,e,q=>by cases q
 |y::N,none::r,i+1,x,v,h,e,q=>cQ.at (N:=N) (src:=r) (i:=i) h e q
 |y::N,some j::r,0,x,v,h,e,q=>by
  cases e
  refine⟨j,h.1,?_,h.2.1,h.2.2.1,h.2.2.2.1⟩;have q':some ((σ[j]?).getD none)=some (some v):=q;grind
 |y::N,some j::r,i+1,x,v,h,e,q=>cQ.at (N:=N) (src:=r) (i:=i) h.2.2.2.2 e q
def iw(X:Cx)(scope:UG)(cl:List (RF×Addr)):Prop:=
 (∀x,((Vw scope cl 0 X.env).kindOf x=some .cell∨(Vw scope cl 0 X.env).kindOf x=some .free)->∃c,cl.lookup x=some c)/\∀x c,cl.lookup x=some c->X.env.cells.lookup x=some c
def jw(X:Cx):List (RF×Addr)->Prop
 | []=>True
 |y::r=>X.env.cells.lookup y.1=some y.2/\jw X r
theorem jw.mem{X:Cx}:∀{cl:List (RF×Addr)},jw X cl->∀y∈cl,X.env.cells.lookup y.1=some y.2
 | [],_,y,h=>by cases h
 |z::r,k,y,h=>by
  rcases Rm.mp h with e|h
  ·rw[e];exact k.1
  ·exact jw.mem k.2 y h
theorem mem_of_lookup{α:Type}{x:RF}{v:α}:∀{l:List (RF×α)},l.lookup x=some v->(x,v)∈l
 | [],h=>by cases h
 | (y,w)::r,h=>by
  rw[ZJ] at h
  cases e:x==y with
  |true=>
   grind
  |false=>
   rw[e] at h;exact QX _ (mem_of_lookup h)
theorem cj(h1:((Zm scope X.env).names.all λy=>!(y.2==.cell||y.2==.free)||(cl.lookup y.1).isSome)=true)(h2:jw X cl):iw X scope cl:=by
 refine⟨λx h=>?_,λx c e=>h2.mem _ (mem_of_lookup e)⟩;have h3:=T7.mp h1;have key:∀k:Vc,(k=.cell∨k=.free)->(Zm scope X.env).names.lookup x=some k->∃c,cl.lookup x=some c:=λk hk e=>by
  have q:=h3 _ (mem_of_lookup e);have z:(k==YK||k==aan)=true:=by rcases hk with rfl|rfl<;>rfl
  simp only[z,aao,YL] at q;exact Vu.mp q
 rcases h with h|h
 ·exact key _ (.inl Z) h
 ·exact key _ (.inr Z) h
def fz(σ σ':L2.St):Prop:=σ'.length=σ.length/\∀(i:Nat) (v:V),σ[i]?=some (some v)->σ'[i]?=some (some v)
theorem fz.set(h:σ[i]?=some none):fz σ (σ.set i (some v)):=by
 refine⟨Ts,λj u e=>?_⟩;have ne:i≠j:=λz=>by subst z;rw[h] at e;cases e
 rw[Si ne];exact e
theorem fz.set'(e:fz σ τ)(h:σ[i]?=some none):fz σ (τ.set i (some v)):=by
 refine⟨by rw[Ts];exact e.1,λj u q=>?_⟩;have ne:i≠j:=λz=>by subst z;rw[h] at q;cases q
 rw[Si ne];exact e.2 j u q
structure xA(X:Cx)(scope:UG)(fn:RF->Bool)(cl cs:List (RF×Addr))(C:Addr):Prop where
 has:∀x,((Vw scope cl 0 X.env).kindOf x=some .cell∨(Vw scope cl 0 X.env).kindOf x=some .free)->∃c,cs.lookup x=some c
 up:∀x c,cs.lookup x=some c->(fn x=true/\c=C+1)∨X.env.cells.lookup x=some c
 one:∀x y,fn x=true->fn y=true->x=y
 low:∀x c,cl.lookup x=some c->cs.lookup x=some c
 cab:∀x c,fn x=true->cs.lookup x=some c->C≤c
section
variable {X:Cx}{N':List RF}{scope:UG}{fn:RF->Bool}{cl cs:List (RF×Addr)}{src:List (Option Nat)}{pins:List (Addr×Obj)}{σ:L2.St}{H:Hp}{s:QQ}{fp:List Addr}
theorem Cx.compG_ok{C:Addr}(I:Inv X pins σ H s)(hC:s.heap.objs.size≤C)(hk:scope.kind=.function)(hf:∀b∈fp,gc X pins H b/\b<s.heap.objs.size)(hc:xA X scope fn cl cs C) :
  (rq X N' scope fn cs C fp pins s H).Ok where
 mod:=I.ok.mod
 kind:=hk
 glob:=I.ok.glob
 blt:=I.ok.blt
 above:=hC
 inj:=λa b c e1 e2=>by
  have old:∀z,X.env.cells.lookup z=some (C+1)->False:=λz e=>by
   obtain⟨v,o,ho,_⟩:=I.cell z _ e;exact Ss _ (Q7 (RH (Tz C) (Re ho)) hC)
  rcases hc.up a c e1 with⟨h1,h2⟩|h2
  ·rcases hc.up b c e2 with⟨h3,_⟩|h4
   ·exact hc.one a b h1 h3
   ·rw[h2] at h4;exact(old b h4).elim
  ·rcases hc.up b c e2 with⟨_,h4⟩|h4
   ·rw[h4] at h2;exact(old a h2).elim
   ·exact I.ok.inj a b c h2 h4
 has:=λx h=>hc.has x h
 cab:=λx c z e=>RC hC (hc.cab x c z e)
 hd:=I.ok.hd
 frames:=I.ok.frames
 stk:=.inl Z
 exf:=λb hb=>⟨λz=>by have:=(hf b hb).2;rw[show b=C from z] at this;exact absurd (Q7 this hC) (Ss _),λx c e=>by
  rcases hc.up x c e with⟨_,h2⟩|h2
  ·intro z;have q:=(hf b hb).2;grind
  ·exact(hf b hb).1.2.2.2.2.1 x c h2⟩
 bs:=I.bs
 bsz:=RC I.ok.bsz I.sz
 noex:=λb o e hb=>by
  rcases(hf b hb).1.2.2.2.1 with z|z
  ·exact I.ok.noex b o e z
  ·rw[(I.ok.bs b o e).1] at z;cases z
 exfs:=λb hb z=>by
  rcases Rm.mp (I.stkSub b z) with q|q
  ·exact(hf b hb).1.2.1 q
  ·exact(hf b hb).1.2.2.1 q
 funs:=I.stack
 frf:=I.stkFree
theorem Inv.compG{C:Addr}{h₁:Ra}{m:RF->Option Value}{tk:Nat}(I:Inv X pins σ H s)(hC:C=s.heap.objs.size)(hns:h₁.Ns C m)(hce:∀x,fn x=true->h₁.IsCell (C+1) none)(keep:∀b o,s.heap.get? b=some o->h₁.get? b=some o)
  (hk:scope.kind=.function) (hf:∀b∈fp,gc X pins H b/\b<s.heap.objs.size) (hc:xA X scope fn cl cs C) (hfree:cQ X scope cl N' src) :
  Inv (rq X N' scope fn cs C fp pins s H) [] (cI src σ) H { s with heap:=h₁,toks:=tk} where
 ok:=Cx.compG_ok I (UV hC.symm) hk hf hc
 os:=Z
 bare:=I.bare
 base:=Un.kept keep
 loc:=⟨m,hns,λi x v e1 e2 _=>by
  obtain⟨j,hj,hσ,kc,kc',hl⟩:=hfree.at e1 e2;obtain⟨m0,hn0,hl0⟩:=I.loc;obtain⟨u,r,l⟩:=hl0 j x v hj hσ (SB (SI kc));rcases l with⟨k,_⟩ | ⟨k,c,e,o,ho,hd⟩
  ·rw[kc] at k;cases k
  ·exact⟨u,r,.inr ⟨.inl kc',c,hc.low _ _ (hl.trans e),o,keep c o ho,hd⟩⟩⟩
 cell:=λx c e=>by
  rcases hc.up x c e with⟨h1,h2⟩|h2
  ·grind
  ·obtain⟨v,o,ho,hd⟩:=I.cell x c h2;exact⟨v,o,keep _ _ ho,hd⟩
 free:=I.hok.fresh (UV hC.symm)
 freeC:=λx c e=>by
  rcases hc.up x c e with⟨_,h2⟩|h2
  ·rw[h2];exact I.hok.fresh (by rw[hC];exact Tz _)
  ·exact I.freeC x c h2
 pin:=λp hp=>by
  have hp':p∈X.pn++pins:=by
   have z:p∈(X.pn++pins)++[]:=hp;rw[R7] at z;exact z
  obtain⟨e,n,ne,nf,d⟩:=I.pin p hp';refine⟨keep _ _ e,n,λz=>?_,λz=>?_,d⟩
  ·have:=Re e;rw[show p.1=C from z,hC] at this;exact Ss _ this
  ·rcases Rm.mp (I.stkSub _ z) with q|q
   ·exact ne q
   ·exact nf q
 hok:=I.hok.kept keep
 len:=by show(cI src σ).length=N'.length;unfold cI;rw[QK,hfree.len]
end
structure qa(X:Cx)(scope:UG)(fn:RF->Bool)(cl:List (RF×Addr))(f:Addr->List (RF×Addr)):Prop where
 fun_:scope.kind=.function
 cells:∀C,xA X scope fn cl (f C) C
 make:∀{s:QQ} {Q:ZU->QQ->Prop},(∀(h:Ra) (m:RF->Option Value) (tk:Nat) (e:ZU),h.Ns s.heap.objs.size m->(∀x,fn x=true->h.IsCell (s.heap.objs.size+1) none)->(∀b o,s.heap.get? b=some o->h.get? b=some o)→
  { e with scope:=Zm scope X.env}=Vw scope (f s.heap.objs.size) s.heap.objs.size X.env->e.locals=s.heap.objs.size->Q e { s with heap:=h,toks:=tk})→
  Rj (Ro X.prog X.w) X.A (WU scope X.env.globals cl [] X.env.qual none .none (some X.env)) Q X.xe s
theorem JB(hcell:∀x∈scope.names,x.2≠.cell)(hkind:scope.kind=.function)(hcl:iw X scope cl):qa X scope (λ_=>false) cl (λ_=>cl):=
 ⟨hkind,λ_=>⟨hcl.1,λx c e=>.inr (hcl.2 x c e),λ_ _ z=>(nomatch z),λ_ _ e=>e,λ_ _ z=>(nomatch z)⟩,
  λ{s Q} k=>Yo hcell (by intro y hy;simp at hy) (λh₄ hns₄ hsb₄=>k _ _ _ _ hns₄ (λ_ z=>(nomatch z)) (λb o e=>hsb₄.extBut b o (RZ (Re e)) (QP _ e)) Z Z) hkind⟩
def M9(X:Cx)(ifs:List RP)(t:TT):Prop:=
 ∀(pins:List (Addr×Obj)) (s:QQ) (σ:L2.St) (H:Hp) (Q:Bool->Hp->Prop),Inv X pins σ H s->t σ H Q→
  Rj (Ro X.prog X.w) X.A (forIn ifs true λc r=>if r=true then do let ok ←isTrue c X.env (eval c X.env);SS (Wm ok) else SS (Wm r)) (TP X pins σ Q) X.xe s
def Nn:TT:=λ_ H Q=>Q true H
theorem GD:M9 X [] Nn:=λ_ _ _ H _ I h=>wpAny_tests_nil ⟨H,I,h⟩
theorem GC(h:PT X c t):M9 X [c] t:=λpins s σ H Q I q=>wpAny_tests_one (h pins s σ H Q I q)
section
variable {prog:Rz}{w:RS}{A:RK}{R:ZF->QQ->Prop}{s:QQ}
theorem Aw(I:Nat->QQ->Prop)
  (turn:∀n s,I n s->Rj (Ro prog w) A (pyNext it) (λr s₁=>match r with
   |none=>R (.ok .next) s₁
   |some v=>Rj (Ro prog w) A (Wj target it v) (λ_ s₁'=>Rj (Ro prog w) A (Wi target env v) (λ_ s₂=>
     Rj (Ro prog w) A (forIn ifs true λc r=>if r=true then do let ok ←isTrue c env (eval c env);SS (Wm ok) else SS (Wm r)) (λok s₃=>
      if ok=true then Rj (Ro prog w) A (eval elt env) (λx s₄=>
       Rj (Ro prog w) A (call (.builtin "list.append") [acc,x]) (λ_ s₅=>∃m,m<n/\I m s₅) (λ_ _=>False) s₄) (λ_ _=>False) s₃
      else ∃m,m<n/\I m s₃) (λ_ _=>False) s₂) (λ_ _=>False) s₁') (λ_ _=>False) s₁) (λ_ _=>False) s)
  (n:Nat) (h:I n s):VO (Ro prog w) A (.compLoop (.ListComp elt [⟨target,iter,ifs,0⟩] scope pos) 0 it acc env) R s:=by
 refine codeAny_loop Z I (λn s hI=>?_) n h;show Rj _ A ((compTurn (.ListComp elt [⟨target,iter,ifs,0⟩] scope pos) 0 it acc env).onRaise (λx=>do WK x env;theTreesLotGoes x)) _ _ s;refine wpAny_noted ?_;rw[compTurn_list];refine QR (Vt (QR (SA (turn n s hI) (λr s₁ h₁=>?_) λ_ _ h'=>h'.elim)))
 cases r with
 |none=>exact wpAny_pure h₁
 |some v=>
  refine QR (SA h₁ (λ_ s₁' h₁'=>?_) λ_ _ h'=>h'.elim);refine QR (SA h₁' (λ_ s₂ h₂=>QR (SA h₂ (λok s₃ h₃=>?_) λ_ _ h'=>h'.elim)) λ_ _ h'=>h'.elim)
  cases ok with
  |false=>exact wpAny_pure ⟨Z,h₃⟩
  |true=>
   exact QR (QR (SA h₃ (λx s₄ h₄=>QR (SA h₄ (λ_ s₅ h₅=>wpAny_pure (wpAny_pure ⟨Z,h₅⟩)) λ_ _ h'=>h'.elim)) λ_ _ h'=>h'.elim))
end
structure IG(X:Cx)(pins:List (Addr×Obj))(H:Hp)(C:Addr):Prop where
 no:H C=none
 lo:C≠X.env.locals
 fs:C∉X.fs
 old:X.s₀.heap.get? C=none
 ce:∀x c,X.env.cells.lookup x=some c->c≠C
 pn:∀p∈X.pn++pins,p.1≠C
theorem IG.turned{X:Cx}{pins:List (Addr×Obj)}{σ:L2.St}{H:Hp}{C:Addr}{s:QQ}(o:IG X pins H C)(I:Inv X pins σ H s){h':Ra}(sb:Wy C s.heap h'):Inv X pins σ H { s with heap:=h'}:=
 I.turned (it:=C) (t':=s.toks) (λb u hb e=>sb.extBut b u hb e) o.no o.lo (.inr o.old) o.ce o.pn
abbrev O5(J:It)(D:Addr)(H1:Hp)(src:List (Option Nat))(σ:L2.St)(g:TG)(tt:TT)(te:TE)(Q:Hp->Prop):Prop:=∃W:Nat->Nat->List V->Hp->Prop,
 (∃m,W 0 m [] (upd H1 D (.lst [])))/\∀i m ys H,W i m ys H->(J.stop i H/\Q H)∨(J.go i H/\∀x H',J.yld i H x H'->g x (cI src σ) H' λσ2 H2=>fz (cI src σ) σ2/\tt σ2 H2 λok H3=>
  if ok=true then te σ2 H3 λy H4=>H4 D=some (.lst ys)/\ys.length<sizeLine/\∃m',m'<m/\W (i+1) m' (ys++[y]) (upd H4 D (.lst (ys++[y]))) else ∃m',m'<m/\W (i+1) m' ys H3)
def ka(wi:TI)(src:List (Option Nat))(g:TG)(tt:TT)(te:TE):TE:=λσ H Q=>wi σ H λJ H1=>∀D,H1 D=none->O5 J D H1 src σ g tt te (Q (.ref D))
section
variable {X:Cx}{N':List RF}{scope:UG}{fn:RF->Bool}{cl:List (RF×Addr)}{f:Addr->List (RF×Addr)}{src:List (Option Nat)}{tg iter elt:RP}{ifs:List RP}{wi:TI}{g:TG}{tt:TT}{te:TE}{pos:Uh}
theorem rH(hc:X.calm=true)(hi:PI X tg iter wi)(hg:∀C fp pins s H,PG (rq X N' scope fn (f C) C fp pins s H) tg g)(ht:∀C fp pins s H,M9 (rq X N' scope fn (f C) C fp pins s H) ifs tt)
  (he:∀C fp pins s H,PE (rq X N' scope fn (f C) C fp pins s H) elt te) (hfree:cQ X scope cl N' src) (hE:qa X scope fn cl f)
  {RR:Value->Addr->ZF->QQ->Prop} {pins:List (Addr×Obj)} {s:QQ} {σ:L2.St} {H:Hp} {Q:VK} (I:Inv X pins σ H s) (h:ka wi src g tt te σ H Q)
  (hRR:∀D C H' s',Q (.ref D) H'->(∃m,s'.heap.Ns C m)->Inv X pins σ H' s'->IG X pins H' C->RR (.ref D) C (.ok .next) s') :
  Rj (Ro X.prog X.w) X.A (eval iter X.env) (λx s₁=>Rj (Ro X.prog X.w) X.A (pyIter x) (λitv s₂=>Rj (Ro X.prog X.w) X.A (newList []) (λacc s₃=>
   Rj (Ro X.prog X.w) X.A (WU scope X.env.globals cl [] X.env.qual none .none (some X.env)) (λcenv s₄=>
    VO (Ro X.prog X.w) X.A (.compStart (.ListComp elt [⟨tg,iter,ifs,0⟩] scope pos) 0 itv acc { cenv with scope:=Zm scope X.env}) (RR acc cenv.locals) s₄) X.xe s₃) X.xe s₂) X.xe s₁) X.xe s:=by
 refine bQ (hi pins s σ H _ I h) λv s1 h1=>bQ h1 λitv s2 h2=>?_
 obtain⟨it,fp,tn,J,H2,e,I2,T,st2,f2,h2⟩:=h2;subst e;refine Th ?_ (by show 0≤sizeLine;exact Rq _);have hD:H2 s2.heap.objs.size=none:=I2.fresh;have I3:Inv X pins σ (upd H2 s2.heap.objs.size (.lst [])) { s2 with heap:=s2.heap.push { cls:=.type "list",data:=.seq ([]:List Value).toArray} }:=I2.lnew (t':=s2.toks) (its:=[]) .nil (Rq _);obtain⟨W,⟨m0,w0⟩,turn⟩:=h2 s2.heap.objs.size hD;generalize hDe:s2.heap.objs.size=D at I3 turn w0 hD ⊢;have st3:tn 0 (s2.heap.push { cls:=.type "list",data:=.seq ([]:List Value).toArray}):=T.keep _ _ _ st2 λb _ o e=>QP _ e
 have f3:∀b∈fp,gc X pins (upd H2 D (.lst [])) b/\b<(s2.heap.push { cls:=.type "list",data:=.seq ([]:List Value).toArray}).objs.size:=λb hb=>by
  obtain⟨o,e,_⟩:=T.obj _ _ st2 b hb;have l:=Re e;rw[hDe] at l;refine⟨⟨?_,(f2 b hb).2⟩,by rw[UH,hDe];exact VR l⟩;rw[ai (RZ l)];exact(f2 b hb).1
 generalize (s2.heap.push { cls:=.type "list",data:=.seq ([]:List Value).toArray})=h3 at I3 st3 f3 ⊢;refine hE.make λh₄ m₄ tk₄ cenv hns₄ hce₄ keep eE eL=>?_
 rw[eE,eL];have I4:=Inv.compG (C:=h3.objs.size) (fp:=fp) (tk:=tk₄) I3 Z hns₄ hce₄ keep hE.fun_ f3 (hE.cells _) hfree;have st4:tn 0 h₄:=T.keep _ _ _ st3 λb _ o e=>keep b o e
 have fpn:∀b∈fp,(upd H2 D (.lst [])) b=none:=λb hb=>(f3 b hb).1.1
 have hn3:∀b∈fp,b≠h3.objs.size:=λb hb=>RZ (f3 b hb).2
 have stat:∀{H':Hp},(∀b∈fp,H' b=none)->∀b∈fp,gc (rq X N' scope fn (f h3.objs.size) h3.objs.size fp pins { s2 with heap:=h3} (upd H2 D (.lst []))) [] H' b:=λhn b hb=>
  ⟨hn b hb,hn3 b hb,I4.ok.exfs b hb,.inl hb,λx c e=>I4.ok.exf b hb |>.2 x c e,λp hp=>(f3 b hb).1.2.2.2.2.2 p (by
   have z:p∈(X.pn++pins)++[]:=hp;rw[R7] at z;exact z)⟩
 have back:∀{H':Hp} {s':QQ},Inv (rq X N' scope fn (f h3.objs.size) h3.objs.size fp pins { s2 with heap:=h3} (upd H2 D (.lst []))) [] (cI src σ) H' s'->(∃m,s'.heap.Ns h3.objs.size m)/\Inv X pins σ H' s'/\IG X pins H' h3.objs.size:=λ{H' s'} I'=>by
  have Ib:Inv X pins σ H' s':=I3.call' I'.os I'.base I'.hok I'.bare λb hb=>⟨(f3 b hb).1.2.2.2.1,(f3 b hb).1.2.1,(f3 b hb).1.2.2.2.2.1,(f3 b hb).1.2.2.2.2.2⟩
  refine⟨let ⟨m,hm,_⟩:=I'.loc;⟨m,hm⟩,Ib,⟨I'.free,λz=>?_,I3.nofs (QY _),Tb I3.sz,λx c e z=>?_,λp hp z=>?_⟩⟩
  ·have:=I3.lt;rw[←z] at this;exact Ss _ this
  ·obtain⟨v,o,ho,_⟩:=I3.cell x c e;have:=Re ho;rw[z] at this;exact Ss _ this
  ·obtain⟨e,_⟩:=I3.pin p hp;have:=Re e;rw[z] at this;exact Ss _ this
 have loop:VO (Ro X.prog X.w) X.A (.compLoop (.ListComp elt [⟨tg,iter,ifs,0⟩] scope pos) 0 (.ref it) (.ref D) (Vw scope (f h3.objs.size) h3.objs.size X.env)) (RR (.ref D) h3.objs.size) { s2 with heap:=h₄,toks:=tk₄}:=by
  refine Aw (λn s'=>∃i ys H',Inv (rq X N' scope fn (f h3.objs.size) h3.objs.size fp pins { s2 with heap:=h3} (upd H2 D (.lst []))) [] (cI src σ) H' s'/\tn i s'.heap/\(∀b∈fp,H' b=none)/\W i n ys H') ?_ m0 ⟨0,[],_,I4,st4,fpn,w0⟩;rintro n s5 ⟨i,ys,H5,I5,st5,fr5,w5⟩;rcases turn i n ys H5 w5 with⟨stop,qn⟩ | ⟨go,step⟩
  ·refine bQ (T.done (rq X N' scope fn (f h3.objs.size) h3.objs.size fp pins { s2 with heap:=h3} (upd H2 D (.lst []))) rfl rfl rfl hc i [] s5 _ H5 _ I5 (stat fr5) st5 stop) λr s6 ⟨hr,I6⟩=>?_
   subst hr;obtain⟨b1,b2,b3⟩:=back I6;exact hRR D _ H5 s6 qn b1 b2 b3
  ·refine bQ (T.item (rq X N' scope fn (f h3.objs.size) h3.objs.size fp pins { s2 with heap:=h3} (upd H2 D (.lst []))) rfl rfl rfl hc i [] s5 _ H5 _ I5 (stat fr5) st5 go) λr s6 ⟨u,hr,h6⟩=>?_
   subst hr;refine bQ h6 λ_ s7 ⟨x,H7,I7,r7,y7,st7,fr7⟩=>?_
   have I7':=I7.pinned (stat fr7) (T.obj _ _ st7);refine bQ (hg _ _ _ _ _ _ s7 _ H7 x u _ I7' r7 (step x H7 y7)) λ_ s8 ⟨σ8,H8,I8,ex8,q8⟩=>?_
   refine bQ (ht _ _ _ _ _ _ s8 σ8 H8 _ I8 q8) λok s9 ⟨H9,I9,q9⟩=>?_
   have again:∀{ys':List V} {Ha:Hp} {sa:QQ},Inv (rq X N' scope fn (f h3.objs.size) h3.objs.size fp pins { s2 with heap:=h3} (upd H2 D (.lst []))) ([]++oO fp s7.heap) σ8 Ha sa->(∃m',m'<n/\W (i+1) m' ys' Ha)→
     ∃m,m<n/\∃i ys H',Inv (rq X N' scope fn (f h3.objs.size) h3.objs.size fp pins { s2 with heap:=h3} (upd H2 D (.lst []))) [] (cI src σ) H' sa/\tn i sa.heap/\(∀b∈fp,H' b=none)/\W i m ys H':=λ{ys' Ha sa} Ia ⟨m',hm,wa⟩=>by
    refine⟨m',hm,i+1,ys',Ha,(Ia.unpinned).weak ex8.1.symm ex8.2,T.keep _ _ _ st7 λb hb o e=>(Ia.pin (b,o) (Rh _ (Rh _ (iq hb e)))).1,λb hb=>?_,wa⟩;obtain⟨o,e,_⟩:=T.obj _ _ st7 b hb;exact(Ia.pin (b,o) (Rh _ (Rh _ (iq hb e)))).2.1
   cases ok with
   |false=>exact again I9 q9
   |true=>
    refine bQ (he _ _ _ _ _ _ s9 σ8 H9 _ I9 q9) λy s10 ⟨yv,H10,I10,r10,q10,hz,wn⟩=>?_
    refine bQ (eV _ s10 σ8 H10 (.ref D) [yv] (.ref D) [y] (λ_ Hz=>∃m',m'<n/\W (i+1) m' (ys++[yv]) Hz) I10 Z (.cons r10 .nil) ⟨D,ys,yv,Z,Z,q10,hz,wn⟩) λ_ s11 ⟨_,H11,I11,_,q11⟩=>?_
    exact again I11 q11
 exact codeAny_compStart_list loop (T.self _ 0 _ _ _ st4 loop)
theorem qN(hc:X.calm=true)(hi:PI X tg iter wi)(hg:∀C fp pins s H,PG (rq X N' scope fn (f C) C fp pins s H) tg g)(ht:∀C fp pins s H,M9 (rq X N' scope fn (f C) C fp pins s H) ifs tt)
  (he:∀C fp pins s H,PE (rq X N' scope fn (f C) C fp pins s H) elt te) (hfree:cQ X scope cl N' src) (hclos:UX scope X.env=SS cl) (hE:qa X scope fn cl f)
  (hnames:∀x∈scope.names,x.2=.local->scope.names.lookup x.1=some .local) (hs:∀x,SJ iter X.env x=SS x:=by intro _;rfl) :
  PE X (.ListComp elt [⟨tg,iter,ifs,0⟩] scope pos) (ka wi src g tt te):=by
 intro pins s σ H Q I h;rw[eval_ListComp];refine Xp (use:=none) Z hs hclos hE.fun_ hnames (rH hc hi hg ht he hfree hE (RR:=λacc C=>compPost (Ro X.prog X.w) X.A X.xe none (EP X pins σ Q) acc C) I h λD C H' s' q hm hI hb=>?_);obtain⟨m,hm⟩:=hm;exact⟨m,hm,λh' sb=>⟨.ref D,H',hb.turned hI sb,Z,q⟩⟩
theorem GI{i:Nat}{x:RF}{pos' pos2:Uh}(hN:X.N.Nodup)(hi':X.N[i]?=some x)(hx:AT X.env.scope x)(hc:X.calm=true)(hi:PI X tg iter wi)(hg:∀C fp pins s H,PG (rq X N' scope fn (f C) C fp pins s H) tg g)(ht:∀C fp pins s H,M9 (rq X N' scope fn (f C) C fp pins s H) ifs tt)
  (he:∀C fp pins s H,PE (rq X N' scope fn (f C) C fp pins s H) elt te) (hfree:cQ X scope cl N' src) (hclos:UX scope X.env=SS cl) (hE:qa X scope fn cl f)
  (hnames:∀x∈scope.names,x.2=.local->scope.names.lookup x.1=some .local) (hs:∀x,SJ iter X.env x=SS x:=by intro _;rfl)
  (hsw:TZ (.ListComp elt [⟨tg,iter,ifs,0⟩] scope pos) (some (.Name x pos')) pos2.line X.env=SS true:=by rfl) (hf:X.fn x=true∨X.env.scope.names.lookup x=some .local:=by first|exact .inl Z|exact .inr Z|assumption) :
  PS X (.Assign [.Name x pos'] (.ListComp elt [⟨tg,iter,ifs,0⟩] scope pos) pos2) (uh (ka wi src g tt te) (mX i)):=by
 intro pins s σ H D I h;rw[exec_Assign_Name_used _ _ _ _ hsw];refine QR (Vt ?_);show Rj _ _ ((comprehension (.ListComp elt [⟨tg,iter,ifs,0⟩] scope pos) scope X.env _ (newList []) false (eval iter X.env) (some (Wi (.Name x pos') X.env)) >>= λ_=>SS ()) >>= λ_=>SS aaB) _ _ s;refine QR (QR (SA (Xp (use:=some (Wi (.Name x pos') X.env)) (Q:=λ_ s''=>SP X pins D .next s'') Z hs hclos hE.fun_ hnames (rH hc hi hg ht he hfree hE (RR:=λacc C=>compPost (Ro X.prog X.w) X.A X.xe (some (Wi (.Name x pos') X.env)) (λ_ s''=>SP X pins D .next s'') acc C) I h λE C H' s' q hm hI hb=>?_)) (λ_ s'' h''=>wpAny_pure (wpAny_pure h'')) λ_ _ e=>e));obtain⟨m,o,es,ep,ho,hd,r1,r2⟩:=hm;have I':Inv X (pins++[(C,o)]) σ H' s':=hI.pins_of λp hp=>by
  rcases Rc.mp hp with h|h
  ·exact hI.pin p (Rh _ h)
  ·rw[Q2] at h;rw[h];exact⟨ho,hb.no,hb.lo,hb.fs,λv z=>by rw[hd] at z;cases z⟩
 refine Y4 (gQ I' hN hi' hx (show aY (.ref E) (.ref E) from Z) (λs'' I''=>?_) hf);have hC:=(I''.pin (C,o) (Rh _ (Rh _ QV))).1;have I3:Inv X pins (σ.set i (some (.ref E))) H' s'':=I''.pins_of λp hp=>I''.pin p (Rh _ (RN _ hp))
 exact⟨m,⟨o,es,ep,hC,hd,r1,r2⟩,λh' sb=>⟨_,H',hb.turned I3 sb,q⟩⟩
end
def NI(K:QJ):R2:=λx y H Q=>∃d d',dL K H x d/\dL K H y d'/\d.canLay0=true/\d'.canLay0=true/\d.depth≤32/\Q (.bl (!PyData.eqv d d')) H
theorem gK(hr:cA k X.A):iF X (Sz .NotEq) (NI X.K):=by
 intro pins s σ H x y v u Q I rx ry h;obtain⟨d,d',hd,hd',c,c',dp,q⟩:=h;obtain⟨as,ra⟩:=dL.reads I hd rx;obtain⟨bs,rb⟩:=dL.reads I hd' ry;exact SeqAt.compareNe_reads ra rb c c' (by have:=hr.units;lia) ⟨.bl _,H,I,Z,q⟩
noncomputable def k9 (h:Ra) (x:Value) (d:R5) (y:Value):Bool:=
 open Classical in if y=x then true else if z:∃d',d'.canLay0=true/\d'.depth≤32/\∃as,ZO h y d' as then Sk z.choose d else false
theorem uW(rx:ZO s.heap x d as)(cx:d.canLay0=true)(hu:A.units+32<cLine)
  (hy:∃d',d'.canLay0=true/\d'.depth≤32/\∃as,ZO s.heap y d' as):WM A s y x (k9 s.heap x d y):=by
 unfold k9;by_cases e:y=x
 ·rw[if_pos e,e];exact WM.same x
 ·rw[if_neg e,dif_pos hy];obtain⟨c,dp,bs,r⟩:=hy.choose_spec;exact SeqAt.eqAt_reads _ _ A s _ _ _ _ r rx c cx ω
def JK(K:QJ)(H:Hp)(xs:List V):Prop:=∀x∈xs,∃d,dL K H x d/\d.canLay0=true/\d.depth≤32
theorem iX{X:Cx}{pins:List (Addr×Obj)}{σ:L2.St}{H:Hp}{s:QQ}(I:Inv X pins σ H s):∀{xs:List V} {us:List Value},aW xs us->JK X.K H xs->∀u∈us,∃d',d'.canLay0=true/\d'.depth≤32/\∃as,ZO s.heap u d' as
 |_,_,.nil,_,u,hu=>by cases hu
 |x::xs,w::us,.cons r t,k,u,hu=>by
  rcases Rm.mp hu with rfl|hu
  ·obtain⟨d,hd,c,dp⟩:=k x QV;obtain⟨as,ra⟩:=dL.reads I hd r;exact⟨d,c,dp,as,ra⟩
  ·exact iX I t (λy hy=>k y (QX _ hy)) u hu
end B
namespace B
abbrev R:=Int×Int
def cJ(a b:Int):R:=(a/(Rf a b:Int),b/(Rf a b:Int))
structure Wf(n:Nat)(r:R):Prop where
 pos:0<r.2
 top:r.1.natAbs<2^n
 bot:r.2.natAbs<2^n
 cop:Rf r.1 r.2=1
theorem Wf.mono(h:Wf n r)(l:n≤m):Wf m r:=⟨h.pos,Q7 h.top (Sa δ l),Q7 h.bot (Sa δ l),h.cop⟩
theorem bL(hb:0<b):0<(Rf a b:Int):=by
 have h:Rf a b≠0:=λz=>by
  simp_all
 lia
theorem gL(a:Int)(hg:0<g):(a/g).natAbs≤a.natAbs:=by
 have h1:=Int.ediv_mul_le a (show g≠0 by lia);have h2:=Int.lt_ediv_add_one_mul_self a hg;rcases Int.le_total 0 a with h|h
 ·have h3:=TL h (show 0≤g by lia);have h4:a/g≤a/g*g:=by
   have:a/g*1≤a/g*g:=SW ω h3;lia
  lia
 ·have h3:a/g≤0:=by
   have:=Int.ediv_le_ediv hg h;rw[Int.zero_ediv] at this;exact this
  have h5:a≤a/g:=by
   have:a/1≤a/g:=by
    have q:(a/g+1)*g≤(a/g+1)*1∨0<a/g+1:=by
     rcases Int.le_total (a/g+1) 0 with z|z
     ·left;have:=SW (a:=1) (b:=g) (c:=-(a/g+1)) ω ω;grind
     ·rcases YS z with z|z
      ·right;exact z
      ·left;rw[←z];simp
    rw[Zi];rcases q with q|q
    ·lia
    ·lia
   rw[Zi] at this;exact this
  lia
theorem iT(hb:0<b)(h1:a.natAbs<2^n)(h2:b.natAbs<2^n):Wf n (cJ a b):=
 ⟨Uc hb (Ry (bL hb)) (Ut a b),RH (gL _ (bL hb)) h1,RH (gL _ (bL hb)) h2,Vm (by have:=bL (a:=a) hb;lia)⟩
def aK(r q:R):R:=cJ (r.1*q.2+q.1*r.2) (r.2*q.2)
def aC(r q:R):R:=cJ (r.1*q.1) (r.2*q.2)
def aL(r q:R):Bool:=decide (r.1*q.2<q.1*r.2)
theorem dj{x y:Int}(h1:x.natAbs<2^n)(h2:y.natAbs<2^m):(x*y).natAbs<2^(n+m):=by
 rw[Tk,ZP];exact Nat.mul_lt_mul'' h1 h2
theorem DK(h:Wf n r)(k:Wf m q):(r.1*q.2+q.1*r.2).natAbs<2^(n+m+1):=by
 have a:=dj h.top k.bot;have b:=dj k.top h.bot;rw[Nat.add_comm m n] at b;have e:2^(n+m+1)=2*2^(n+m):=by rw[X1,Nat.mul_comm]
 have:=Zn (r.1*q.2) (q.1*r.2);lia
theorem GR(h:Wf n r)(k:Wf m q):Wf (n+m+1) (aK r q):=
 iT (RG h.pos k.pos) (DK h k) (Q7 (dj h.bot k.bot) (Sa δ (Tz _)))
theorem gP(h:Wf n r)(k:Wf m q):Wf (n+m) (aC r q):=
 iT (RG h.pos k.pos) (dj h.top k.top) (dj h.bot k.bot)
theorem qR{n m k:Nat}{b o r:R}(hb:Wf n b)(_:Wf m o)(hr:Wf k r)(h1:aL b o=true)(h2:aL b r=false):aL o r=false:=by
 have p1:b.1*o.2<o.1*b.2:=of_decide_eq_true h1;have p2:¬b.1*r.2<r.1*b.2:=of_decide_eq_false h2;refine decide_eq_false λp3=>?_
 have q1:b.1*o.2*r.2<o.1*b.2*r.2:=TQ p1 hr.pos;have q3:o.1*r.2*b.2<r.1*o.2*b.2:=TQ p3 hb.pos;have q2:r.1*b.2*o.2≤b.1*r.2*o.2:=SR (Int.not_lt.mp p2) (by rename_i ho;have:=ho.pos;lia);grind
theorem qS(r:R):aL r r=false:=decide_eq_false (Int.lt_irrefl _)
end B
namespace B
open PySem L2 PyProof.Rows
def Qa(i j:Int):Prop:=i.natAbs<2^8990/\j.natAbs<2^8990
def P5(_ j:Int):Prop:=0<j/\j.natAbs<2^8990
theorem y9(h:i.natAbs<2^8990):YD i≤2^20:=by
 unfold YD
 split
 ·exact Rq _
 ·rename_i z;have hz:i.natAbs≠0:=λq=>z (by
   have:i=0:=ω
   rw[this];rfl)
  have:=(ZQ hz).mpr h;lia
section
variable {X:Cx}
theorem jn:iF X (Ua .Mult) (rI Qa λi j=>.int (i*j)):=Ll λ_ _ _ _ _ _ _ hc q=>mul_int q (IntMulOk.of_bits (y9 hc.1) (y9 hc.2))
theorem oQ:iF X (Ua .FloorDiv) (rI P5 λi j=>.int (i/j)):=Ll λi j _ _ _ _ _ hc q=>by
 have h1:(0:Int)<j:=hc.1;have h2:j.natAbs<2^8990:=hc.2;refine Y6 ω (by rw[Va i ω];exact q) (.inl (Xq ?_));exact WB ((ZQ (show j.natAbs≠0 by lia)).mpr h2) δ
end
def ay(K:QJ)(H H':Hp):Prop:=∀p xs,cE K H p xs->cE K H' p xs
theorem ay.refl(K:QJ)(H:Hp):ay K H H:=λ_ _ h=>h
theorem ay.trans{K:QJ}{H H1 H2:Hp}(a:ay K H H1)(b:ay K H1 H2):ay K H H2:=λp xs h=>b p xs (a p xs h)
theorem ay.same{K:QJ}{H H':Hp}(s:ax H H'):ay K H H':=λp xs h=>by
 rcases h with(h | ⟨o,h⟩)|h
 ·exact .inl (.inl (s _ _ h))
 ·exact .inl (.inr ⟨o,s _ _ h⟩)
 ·exact .inr h
theorem ay.new{K:QJ}{H:Hp}{p:Addr}(h:H p=none)(o:HO):ay K H (upd H p o):=ay.same (ae h o)
theorem ay.step{K:QJ}{t:Addr}{H H':Hp}(S:IB t H H'):ay K H H':=λp xs h=>by
 obtain⟨ys,ht⟩:=S.tp;rcases h with(h | ⟨o,h⟩)|h
 ·exact .inl (.inl (S.keep _ _ (λz=>by subst z;rw[h] at ht;cases ht) h))
 ·exact .inl (.inr ⟨o,S.keep _ _ (λz=>by subst z;rw[h] at ht;cases ht) h⟩)
 ·exact .inr h
theorem ay.up{K:QJ}{H:Hp}{l:Addr}{xs:List V}(h:H l=some (.lst xs))(ys:List V):ay K H (upd H l (.lst ys)):=ay.step (IB.up h)
def RV(K:QJ)(H:Hp)(v:V)(r:R):Prop:=∃p,v=.ref p/\cE K H p [.int r.1,.int r.2]
theorem RV.mono{K:QJ}{H H':Hp}{v:V}{r:R}(h:RV K H v r)(t:ay K H H'):RV K H' v r:=let ⟨p,e,q⟩:=h;⟨p,e,t _ _ q⟩
theorem RV.of{K:QJ}{H:Hp}{p:Addr}{a b:Int}(h:H p=some (.tup [.int a,.int b])):RV K H (.ref p) (a,b):=⟨p,Z,cE.of h⟩
def M8(K:QJ)(H:Hp)(xs:List V)(rs:List R):Prop:=xs.length=rs.length/\∀(i:Nat) (x:V) (r:R),xs[i]?=some x->rs[i]?=some r->RV K H x r
theorem M8.at{K:QJ}{H:Hp}{xs:List V}{rs:List R}{i:Nat}{x:V}(h:M8 K H xs rs)(e:xs[i]?=some x):∃r,rs[i]?=some r/\RV K H x r:=by
 have hi:=(QN.mp e).1;have hj:i<rs.length:=by rw[←h.1];exact hi
 exact⟨rs[i],QH hj,h.2 i x _ e (QH hj)⟩
def dN(r:R):Nat->R
 |0=>(1,1)
 |k+1=>aC (dN r k) r
theorem Lm:Wf 1 (1,1):=⟨δ,δ,δ,δ⟩
theorem FR:Wf 1 (0,1):=⟨δ,δ,δ,δ⟩
theorem vR{n:Nat}{r:R}(h:Wf n r):∀k,Wf (1+k*n) (dN r k)
 |0=>by rw[Nat.zero_mul];exact Lm
 |k+1=>by
  have:=gP (vR h k) h;rw[show 1+(k+1)*n=1+k*n+n by rw[Nat.add_mul];lia];exact this
def bj(rs:List R):R:=rs.foldl aK (0,1)
def dR(r:R):R5:=.tuple [.int r.1,.int r.2]
theorem RV.deep{K:QJ}{H:Hp}{v:V}{r:R}(h:RV K H v r):dL K H v (dR r):=by
 obtain⟨p,rfl,q⟩:=h;exact .tup q (.cons (.int _) (.cons (.int _) .nil))
theorem i8(r:R):(dR r).canLay0=true:=Z
theorem i9(r:R):(dR r).depth≤32:=by show max 0 (max 0 0)+1≤32;decide
theorem Mx(h:Sk (dR r) (dR q)=true):r=q:=by
 have z:(r.1==q.1&&(r.2==q.2&&true))=true:=h;grind
theorem hV(r:R):Sk (dR r) (dR r)=true:=by
 show(r.1==r.1&&(r.2==r.2&&true))=true;simp
end B
namespace B
open PySem L2 PyProof.Rows
theorem eY{K:QJ}{H:Hp}:∀{xs:List V} {rs:List R},M8 K H xs rs->bi K H xs (rs.map dR)
 | [],[],_=>.nil
 | [],_::_,h=>by cases h.1
 |_::_,[],h=>by cases h.1
 |x::xs,r::rs,h=>.cons (h.2 0 x r Z Z).deep (eY ⟨aae.inj h.1,λi y q a b=>h.2 (i+1) y q a b⟩)
def Ou(K:QJ)(tl:TE):TI:=λσ H R=>tl σ H λx H1=>(∃a,x=.ref a/\(∃xs,aJ K H1 a xs)/\R (xx K a) H1)∨(∃a,x=.ref a/\(∃xs,cE K H1 a xs)/\R (JL K a) H1)
theorem K2(hl:PE X l tl):PI X tg l (Ou X.K tl):=by
 intro pins s σ H R I h;refine bQ (hl pins s σ H _ I h) λv s1 ⟨x,H1,I1,r1,q1⟩=>?_
 rcases q1 with⟨a,e,⟨xs,hq⟩,q⟩ | ⟨a,e,⟨xs,hq⟩,q⟩
 ·subst e;cases r1;obtain⟨its,rv,p,hz⟩:=I1.list hq;refine Xe p.isList ?_;refine⟨s1.heap.objs.size,[s1.heap.objs.size],_,_,H1,Z,I1.kept (t':=s1.toks) λb o e=>QP _ e,qr a _,⟨_,Rg _ Z,Z,Z⟩,λb hb=>?_,q⟩;have e:b=s1.heap.objs.size:=by simpa using hb
  subst e;exact I1.fpOk (QY _) (I1.hok.fresh (QY _))
 ·subst e;cases r1;obtain⟨its,rv,p,hz⟩:=I1.tuple hq;refine YN (show s1.heap.IsTuple a its.toArray from p) ?_;refine⟨s1.heap.objs.size,[s1.heap.objs.size],_,_,H1,Z,I1.kept (t':=s1.toks) λb o e=>QP _ e,oh a _,⟨_,Rg _ Z,Z,Z⟩,λb hb=>?_,q⟩;have e:b=s1.heap.objs.size:=by simpa using hb
  subst e;exact I1.fpOk (QY _) (I1.hok.fresh (QY _))
end B
namespace B
structure de(r:R):Prop where
 pos:0<r.2
 cop:Rf r.1 r.2=1
theorem dy(hb:0<b):de (cJ a b):=
 ⟨Uc hb (Ry (bL hb)) (Ut a b),Vm (by have:=bL (a:=a) hb;lia)⟩
theorem dG(hb:0<b)(hy:0<y)(g:Rf x y=1)(e:x*b=a*y):cJ a b=(x,y):=by
 have h1:Rf (a*y) (b*y)=Rf a b*y.natAbs:=Zo a y b;have h2:Rf (x*b) (y*b)=Rf x y*b.natAbs:=Zo x b y;rw[e,TR y b,h1,g,Nat.one_mul] at h2;have h3:(Rf a b:Int)*y=b:=by
  grind
 have gp:=bL (a:=a) hb;have h4:a=x*(Rf a b:Int):=by
  have z:x*(Rf a b:Int)*y=a*y:=by rw[Int.mul_assoc,h3];exact e
  exact(Ve ω z).symm
 unfold cJ;generalize (Rf a b:Int)=G at h3 h4 gp;subst h4;subst h3;rw[Int.mul_ediv_cancel _ ω,Ru _ ω]
theorem ja(h:Rf a b=1)(d:c∣a):Rf c b=1:=
 YT.mpr λz h1 h2=>YT.mp h z (Uz h1 d) h2
theorem jt(h:Rf a b=1)(d:c∣b):Rf a c=1:=by
 rw[Tx];exact ja (by rw[Tx];exact h) d
theorem nY(h:Rf a b=1)(k:Rf a c=1):Rf a (b*c)=1:=by
 rw[Int.gcd_mul_right_right_of_gcd_eq_one h];exact k
theorem lu(h:Rf a c=1)(k:Rf b c=1):Rf (a*b) c=1:=by
 rw[Tx];exact nY (by rw[Tx];exact h) (by rw[Tx];exact k)
theorem fO(hb:0<b):∃g x y:Int,(Rf a b:Int)=g/\0<g/\a=g*x/\b=g*y/\Rf x y=1:=by
 have gp:=bL (a:=a) hb;obtain⟨x,hx⟩:=ZK a b;obtain⟨y,hy⟩:=Ut a b;refine⟨_,x,y,Z,gp,hx,hy,?_⟩;have z:=Vm (i:=a) (j:=b) ω;have e1:a/(Rf a b:Int)=x:=by
  conv=>lhs;lhs;rw[hx]
  exact Ru _ ω
 have e2:b/(Rf a b:Int)=y:=by
  conv=>lhs;lhs;rw[hy]
  exact Ru _ ω
 grind
theorem jS{g y b:Int}(hb:0<b)(hg:0<g)(e:b=g*y):0<y:=by
 rcases Int.lt_or_le 0 y with h|h
 ·exact h
 ·have:=SW h (Ry hg);lia
def uD(r q:R):R:=
 let d:Int:=(Rf r.2 q.2:Nat);let t:=r.1*(q.2/d)+q.1*(r.2/d);let e:Int:=(Rf t d:Nat)
 (t/e,r.2/d*(q.2/e))
theorem DL(hr:de r)(hq:de q):uD r q=aK r q:=by
 obtain⟨d,u,v,e0,dp,e1,e2,cuv⟩:=fO (a:=r.2) hq.pos;have up:=jS hr.pos dp e1;have vp:=jS hq.pos dp e2;obtain⟨e,x,w,f0,ep,f1,f2,cxw⟩:=fO (a:=r.1*v+q.1*u) dp;have wp:=jS dp ep f2;have du:r.2/d=u:=by rw[e1];exact Ru _ ω
 have dv:q.2/d=v:=by rw[e2];exact Ru _ ω
 have te:(r.1*v+q.1*u)/e=x:=by rw[f1];exact Ru _ ω
 have qe:q.2/e=w*v:=by rw[e2,f2,Int.mul_assoc];exact Ru _ ω
 have c1:Rf r.1 u=1:=jt hr.cop ⟨d,by rw[e1,TR]⟩;have c2:Rf q.1 v=1:=jt hq.cop ⟨d,by rw[e2,TR]⟩;have xd:x∣(r.1*v+q.1*u):=⟨e,by rw[f1,TR]⟩;have t1:Rf (r.1*v+q.1*u) u=1:=by
  rw[Tx,WC,Tx];exact lu c1 (by rw[Tx];exact cuv)
 have t2:Rf (r.1*v+q.1*u) v=1:=by
  rw[Int.add_comm,Tx,WC,Tx];exact lu c2 cuv
 have cx:Rf x (u*(w*v))=1:=nY (ja t1 xd) (nY cxw (ja t2 xd));have z:uD r q=(x,u*(w*v)):=by
  unfold uD;simp only[e0,du,dv,f0,te,qe]
 rw[z];unfold aK;refine(dG (RG hr.pos hq.pos) (RG up (RG wp vp)) cx ?_).symm;grind
def oi(r q:R):R:=
 let l:Int:=(Rf r.1 q.2:Nat);let m:Int:=(Rf q.1 r.2:Nat)
 (r.1/l*(q.1/m),r.2/m*(q.2/l))
theorem zp(hr:de r)(hq:de q):oi r q=aC r q:=by
 obtain⟨l,a,b,e0,lp,e1,e2,cab⟩:=fO (a:=r.1) hq.pos;obtain⟨m,c,d,f0,mp,f1,f2,ccd⟩:=fO (a:=q.1) hr.pos;have bp:=jS hq.pos lp e2;have dp:=jS hr.pos mp f2;have z:oi r q=(a*c,d*b):=by
  unfold oi;simp only[e0,f0];rw[show r.1/l=a by rw[e1];exact Ru _ ω,show q.2/l=b by rw[e2];exact Ru _ ω,
   show q.1/m=c by rw[f1];exact Ru _ ω,show r.2/m=d by rw[f2];exact Ru _ ω]
 have cad:Rf a d=1:=ja (jt hr.cop ⟨m,by rw[f2,TR]⟩) ⟨l,by rw[e1,TR]⟩;have ccb:Rf c b=1:=ja (jt hq.cop ⟨l,by rw[e2,TR]⟩) ⟨m,by rw[f1,TR]⟩;rw[z];unfold aC;refine(dG (RG hr.pos hq.pos) (RG dp bp) (nY (lu cad ccd) (lu cab ccb)) ?_).symm;grind
theorem kN(hr:de r)(hq:de q):de (aK r q):=dy (RG hr.pos hq.pos)
theorem eP(hr:de r)(hq:de q):de (aC r q):=dy (RG hr.pos hq.pos)
theorem oM{r:R}(hr:de r):∀k:Nat,dN r k=(r.1^k,r.2^k)
 |0=>by rw[X2,X2];rfl
 |k+1=>by
  show aC (dN r k) r=_;rw[oM hr k];unfold aC;refine dG (RG (Int.pow_pos hr.pos) hr.pos) (Int.pow_pos hr.pos) (Int.pow_gcd_pow_of_gcd_eq_one hr.cop) ?_;grind
end B
namespace B
open PySem L2 PyProof.Rows
def O6(_ j:Int):Prop:=j≠0/\j.natAbs<2^8990
theorem Hu:iF X (Ua .FloorDiv) (rI O6 λi j=>.int (i.fdiv j)):=Ll λi j _ _ _ _ _ hc q=>by
 have h1:j≠0:=hc.1;have h2:j.natAbs<2^8990:=hc.2;refine Y6 h1 q (.inl (Xq ?_));exact WB ((ZQ (show j.natAbs≠0 by lia)).mpr h2) δ
def nS(a b:Int):R:=if b<0 then cJ (-a) (-b) else cJ a b
theorem jp(h:0<b):nS a b=cJ a b:=by unfold nS;rw[if_neg ω]
theorem pO{a g:Int}(h:0<g):a.fdiv g=a/g:=Va a ω
theorem rg(h:0<g):a.fdiv (-g)=-a/g:=by
 have e:a.fdiv (-g)=(-a).fdiv g:=by
  have:=Int.neg_fdiv_neg (-a) g;rw[Int.neg_neg] at this;exact this
 rw[e,pO h]
theorem Fa(a b:Int):Rf (-a) (-b)=Rf a b:=by simp[Rf]
theorem uZ(hb:b≠0):0<(Rf a b:Int):=by
 simp_all
theorem yQ(hb:b≠0)(hz:b.natAbs<2^8990):((Rf a b:Nat):Int).natAbs<2^8990:=by
 have z:Rf a b≤b.natAbs:=Nat.le_of_dvd ω (by have:=Ut a b;exact U6.mpr this);lia
theorem Ew(hb:0<b):(a.fdiv (Rf a b:Int),b.fdiv (Rf a b:Int))=nS a b:=by
 rw[jp hb,pO (bL hb),pO (bL hb)];rfl
theorem Ex(hb:b<0):(a.fdiv (-(Rf a b:Int)),b.fdiv (-(Rf a b:Int)))=nS a b:=by
 have g:=uZ (a:=a) (b:=b) ω;unfold nS;rw[if_pos hb,rg g,rg g];unfold cJ;rw[Fa]
theorem Eu(hb:b≠0)(h1:a.natAbs<2^n)(h2:b.natAbs<2^n):Wf n (nS a b):=by
 unfold nS
 split
 ·exact iT ω (by rw[VS];exact h1) (by rw[VS];exact h2)
 ·exact iT ω h1 h2
def aA(r q:R):R:=cJ (r.1*q.2-q.1*r.2) (r.2*q.2)
def d6(r q:R):R:=nS (r.1*q.2) (r.2*q.1)
theorem uM(h:Wf n r)(k:Wf m q):Wf (n+m+1) (aA r q):=by
 refine iT (RG h.pos k.pos) ?_ (Q7 (dj h.bot k.bot) (Sa δ (Tz _)));have a:=dj h.top k.bot;have b:=dj k.top h.bot;rw[Nat.add_comm m n] at b;have e:2^(n+m+1)=2*2^(n+m):=by rw[X1,Nat.mul_comm]
 have:=Int.natAbs_sub_le (r.1*q.2) (q.1*r.2);lia
theorem Hr(h:Wf n r)(k:Wf m q)(z:q.1≠0):Wf (n+m) (d6 r q):=
 Eu (Wn (by have:=h.pos;lia) z) (dj h.top k.bot) (dj h.bot k.top)
end B
namespace B
theorem eW(hb:0<b):(cJ a b).1*b=a*(cJ a b).2:=by
 obtain⟨g,x,y,_,gp,e1,e2,c⟩:=fO (a:=a) hb;have yp:=jS hb gp e2;have e:x*b=a*y:=by rw[e1,e2];ac_rfl
 rw[dG hb yp c e];exact e
theorem ph(hb:b≠0):de (nS a b)/\(nS a b).1*b=a*(nS a b).2:=by
 unfold nS
 split
 ·rename_i h;refine⟨dy ω,?_⟩;have z:=eW (a:=-a) (b:=-b) ω;grind
 ·exact⟨dy ω,eW ω⟩
theorem Ev(hb:b≠0)(hy:0<y)(g:Rf x y=1)(e:x*b=a*y):nS a b=(x,y):=by
 unfold nS
 split
 ·refine dG ω hy g ?_;grind
 ·exact dG ω hy g e
theorem Hs(hr:de r)(hq:q.1≠0):aC r (nS q.2 q.1)=d6 r q:=by
 obtain⟨hs,es⟩:=ph (a:=q.2) hq;have hp:0<r.2*(nS q.2 q.1).2:=RG hr.pos hs.pos;have ht:=dy (a:=r.1*(nS q.2 q.1).1) hp;have et:=eW (a:=r.1*(nS q.2 q.1).1) hp;unfold d6 aC;generalize hS:nS q.2 q.1=s at hs es hp ht et ⊢;generalize cJ (r.1*s.1) (r.2*s.2)=t at ht et ⊢;refine(Ev (Wn (by have:=hr.pos;lia) hq) ht.pos ht.cop ?_).symm;have k:t.1*(r.2*q.1)*s.2=r.1*q.2*t.2*s.2:=by
  grind
 exact Ve (by have:=hs.pos;lia) k
theorem uN(r q:R):aK r (-q.1,q.2)=aA r q:=by
 unfold aK aA;grind
end B
namespace B
open PySem PySem.Spec L2 PyProof.Rows
section
variable {prog:Rz}{w:RS}{A:RK}{E:Value->QQ->Prop}{h:Ra}{g:Array Zp}{d:Drawn}{t:Nat}{os:OsState}{K:QJ}
variable {nm q:RF}{C N:Addr}{bs bm bmB:List Value}{hdct:Bool}{sn:List RF}{sub:List Value}{ab:Bool}{col:Option Bool}{dd:Option Addr}{k0 k1 k2 k3 k5:Option Value}{bN newId initId:String}
theorem tO(F:ExcBaseFacts bN newId initId bmB)(T:Zq h bmB bm){rest:List Value}(X:K.In h)
  (hC:h.get? C=some (Uu nm q C N bs bm hdct sn sub ab col dd k0 k1 k2 k3 k5 newId)) (hi:RT K (.ref C) "__init__"=some (some (.ref fI))) (hf:VN K (.ref fI)=some (.type "function"))
  (hq:∀h' e,aaf h h' e (.ref C) rest->Rj (Ro prog w) A (call (.ref fI) (.ref e:: rest)) (λr s'=>r=.none/\Q (.done (.ret (.ref e))) s') E ⟨h',g,d,t,os⟩) (hz:rest.length≤sizeLine):
  Rj (Ro prog w) A (R9.«type.__call__» ⟨.ref C:: rest,[]⟩) Q E ⟨h,g,d,t,os⟩:=by
 repeat(first
  |with_reducible refine wpAny_loadPart_at hC ?_
  |with_reducible refine wpAny_madeBy_exc hC ?_
  |wp_step)
 refine codeAny_call_builtin_code (YU _ F.quiet)
  (wpAny_check_new_subT F T hC ?_)
 refine codeAny_exc_new_subT F T hC ?_ hz;show Rj _ _ _ _ _ _;have up:∀b o,h.get? b=some o->((h.push { cls:=.type "tuple",data:=.seq rest.toArray}).push
   { cls:=.ref C,data:=.fields #[.ref h.objs.size,.none,.none,.none,.bool false,.none]}).get? b=some o:=λb o e=>
  QP _ (QP _ e)
 have hC₁:=up _ _ hC;have X₁:=X.keeps up;have hx:((h.push { cls:=.type "tuple",data:=.seq rest.toArray}).push
   { cls:=.ref C,data:=.fields #[.ref h.objs.size,.none,.none,.none,.bool false,.none]}).get? (h.objs.size+1)=
   some { cls:=.ref C,data:=.fields #[.ref h.objs.size,.none,.none,.none,.bool false,.none]}:=by heap_get
 have hcC:(RA C::bm).contains (.ref C)=true:=by simp
 unfold isInstance
 repeat(first
  |with_reducible refine wpAny_loadPart_at hx ?_
  | (with_reducible refine wpAny_isSubtype_exc hC₁ ?_
     rw[hcC])
  |wp_step)
 show Rj _ _ (typeLookup (.ref C) _) _ _ _;refine(Wg X₁ hi) _ _ _ _ (λ_ _ e=>e) ?_;refine wpAny_holding (QR ?_);refine(ZW X₁ _ hf) _ _ _ _ (λ_ _ e=>e) ?_;refine QR (SA (hq _ (h.objs.size+1)
  ⟨up,Tb (Tz _),h.objs.size,hx,Tb (QY _),?_⟩) (λr s' hr=>?_) λ_ _ y=>y)
 ·exact QP _ (Ra.get?_push_at Z Z)
 ·obtain⟨rfl,hQ⟩:=hr
  wp_walk
  exact hQ
theorem Fe(F:ExcBaseFacts bN newId initId bmB)(T:Zq h bmB bm){rest:List Value}(X:K.In h)
  (hC:h.get? C=some (Uu nm q C N bs bm hdct sn sub ab col dd k0 k1 k2 k3 k5 newId)) (hi:RT K (.ref C) "__init__"=some (some (.ref fI))) (hf:VN K (.ref fI)=some (.type "function"))
  (hq:∀h' e,aaf h h' e (.ref C) rest->Rj (Ro prog w) (A.under (.builtin "type.__call__" ⟨.ref C:: rest,[]⟩)) (call (.ref fI) (.ref e:: rest)) (λr s'=>r=.none/\Q (.ref e) s') E ⟨h',g,d,t,os⟩) (hz:rest.length≤sizeLine):
  Rj (Ro prog w) A (call (.ref C) rest) Q E ⟨h,g,d,t,os⟩:=by
 have f1:=tc_lookup;have f2:=tc_bind (.ref C);have hT:(⟨h,g,d,t,os⟩:QQ).TypeIs (.ref C) "type" := ⟨_,hC,Z⟩;refine XX (codeAny_of_tree ?_);show Rj _ _ (callAny (.ref C) _) _ _ _
 repeat(any_goals(first
  |assumption
  |with_reducible refine wpAny_loadPart_at hC ?_
  |wp_step))
 refine⟨Z,?_⟩;refine codeAny_call_builtin_at (YU _ (by decide +kernel)) entry_typeCall
  (wpAny_check_type_call_sub hC (tO F T X hC hi hf (λh' e hm=>?_) hz))
 exact hq h' e hm
end
def qd:List Value:=[.type "ValueError",.type "Exception",.type "BaseException",.type "object"]
structure AJ(K:QJ)(C:Addr)(bm:List Value):Prop where
 ob:∃nm q N bs hdct sn sub ab col dd k0 k1 k2 k3 k5,K.lookup C=some (Uu nm q C N bs bm hdct sn sub ab col dd k0 k1 k2 k3 k5 "ValueError.__new__")
 tl:∀h:Ra,K.In h->Zq h qd bm
 hd:U9 K C=true
 sa:RT K (.ref C) "__setattr__"=some (some (.builtin "object.__setattr__"))
theorem HP(T:Zq h qd tl)(self:Value):refuseLoop self "__setattr__" tl=SS ():=by
 induction T with
 |base=>exact PySem.F.store_ValueError.passes self
 |own _ _ _ _ ih=>rw[refuseLoop_ref];exact ih
theorem Fs{K:QJ}{C:Addr}{bm:List Value}(c:AJ K C bm):∃cd,aar K C=some cd/\cd.mro=.ref C::bm:=by
 obtain⟨nm,q,N,bs,hdct,sn,sub,ab,col,dd,k0,k1,k2,k3,k5,lk⟩:=c.ob;unfold aar
 simp_all
section
variable {prog:Rz}{w:RS}{A:RK}{s:QQ}{K:QJ}{x C:Addr}{R:ZF->QQ->Prop}
theorem qw(X:K.In s.heap)(I:WQ s.heap x ox C od)(c:AJ K C bm)(n:dk K C name)
  (h:∀b,Rj (Ro prog w) A.in1 (R9.ObjectAttr.storeInOwnDict (.ref x) (.ref C) (.str name tk) name v b) (λfin s'=>match fin with
   | .done f=>R (.ok f) s'
   | .again c'=>c'.quiet=true/\VO (Ro prog w) A c' R s') (λe s'=>R (.error e) s') s):
  VO (Ro prog w) A (.call (.builtin "object.__setattr__") ⟨[.ref x,.str name tk,v],[]⟩) R s:=by
 have sf:=PySem.F.store_object;obtain⟨cd,hc,hm⟩:=Fs c;have T:=c.tl _ X;have hob:(RA C::bm).contains (.type "object")=true:=by
  rw[WV,T.hasType (X := "object") (b:=true) (by decide +kernel),WD]
 have isO:TX (Ro prog w) s.heap (isInstance (.ref x) (.type "object")) true:=by
  refine I.type.andThen (PySem.W.looks_mroIn X ?_);unfold aam;grind
 have ms:TX (Ro prog w) s.heap (mroOf (.ref C)) (.ref C::bm):=by
  rw[←hm];exact(Vp X hc).andThen .now
 refine codeAny_call_builtin sf.slot.plain sf.entry (PySem.W.check_slot (i := "object.__setattr__") (owner := "object") (n := "__setattr__") sf.kind sf.split isO (sf.args _ _ _) ?_);rw[PySem.W.osa_eq,refuse_eq];refine QR (QR (I.type.here (QR (ms.here ?_))));rw[refuseLoop_ref,HP T];refine wpAny_pure (QR (I.type.here (QR ((Wg X n).here (QR ?_)))));exact UU (r:=none) .now (h _)
end
def O3(a C:Addr)(dx:Option Addr):Ra->Prop:=λh=>∃t:Addr,h.get? a=some { cls:=.ref C,dict:=dx,data:=.fields #[.ref t,.none,.none,.none,.bool false,.none]}
def rh(a C:Addr)(dx:Option Addr):HO:=.ext (O3 a C dx)
theorem Ff(e:O3 a C dx h):ObjOk P w H h a (rh a C dx):=
 ⟨e,let ⟨_,q⟩:=e;⟨_,q⟩,λ_ _ ⟨t,q⟩ k=>⟨t,k _ q⟩⟩
def Fk(H:Hp)(a:Addr):Hp:=λb=>if b=a then none else H b
theorem pS:Fk H a a=none:=by unfold Fk;rw[if_pos Z]
theorem jV(h:b≠a):Fk H a b=H b:=by unfold Fk;rw[if_neg h]
section
variable {X:Cx}{pins:List (Addr×Obj)}{σ:L2.St}{H:Hp}{s:QQ}{a C:Addr}{dx:Option Addr}
theorem Inv.forget(I:L2.Inv X pins σ H s)(e:H a=some (.ext φ))(new:X.s₀.heap.get? a=none):L2.Inv X pins σ (Fk H a) s:=by
 have none_of:∀b,H b=none->Fk H a b=none:=λb h=>by
  by_cases z:b=a
  ·rw[z];exact pS
  ·rw[jV z];exact h
 refine⟨I.ok,I.os,I.bare,⟨I.base.keep,I.base.slot,λb o q n hx=>none_of b (I.base.free b o q n hx),I.base.there,λb xs q=>?_,λb o u q=>?_,λb ps q=>?_⟩,I.loc,I.cell,none_of _ I.free,λx c q=>none_of _ (I.freeC x c q),λp hp=>?_,λb o q=>?_,I.len⟩
 ·have z:=I.base.tups b xs q;rw[jV (λk=>by rw[k,e] at z;cases z)];exact z
 ·have z:=I.base.frzs b o u q;rw[jV (λk=>by rw[k,e] at z;cases z)];exact z
 ·obtain⟨m,z⟩:=I.base.tbls b ps q;exact⟨m,by rw[jV (λk=>by rw[k,e] at z;cases z)];exact z⟩
 ·obtain⟨p1,p2,p3⟩:=I.pin p hp;exact⟨p1,none_of _ p2,p3⟩
 ·have nb:b≠a:=λz=>by rw[z,pS] at q;cases q
  rw[jV nb] at q;refine(I.hok b o q).stay (λc u _ z=>z) (λc z=>?_) (λc xs z=>?_)
  ·rw[jV (λk=>by rw[k,e] at z;cases z)];exact z
  ·rw[jV (λk=>by rw[k,e] at z;cases z)];exact z
end
theorem ObjOk.get(x:L2.ObjOk P w H h a o):∃u,h.get? a=some u:=by
 cases o with
 |lst xs=>obtain⟨_,_,_,_,e⟩:=x;exact⟨_,e⟩
 |tup xs=>obtain⟨_,_,_,o,e,_⟩:=x;exact⟨_,e⟩
 |dK kvs=>obtain⟨_,_,_,_,o,_,_,e,_⟩:=x;exact⟨_,e⟩
 |dT kvs=>obtain⟨_,_,_,_,o,_,_,e,_⟩:=x;exact⟨_,e⟩
 |set S n=>obtain⟨o,_,_,_,e,_⟩:=x;exact⟨_,e⟩
 |ins C dx fs=>obtain⟨_,_,_,e,_⟩:=x;exact⟨_,e⟩
 |own y=>exact x
 |xd fs=>obtain⟨_,⟨_,_,_,e,_⟩,_⟩:=x;exact⟨_,e⟩
 |rng lo hi=>obtain⟨_,_,_,e⟩:=x;exact⟨_,e⟩
 |frz ob u=>obtain⟨e,_⟩:=x;exact⟨_,e⟩
 |tbl ps=>exact⟨_,show h.get? a=some _ from x⟩
 |met f y=>exact⟨_,show h.get? a=some _ from x⟩
 |ext φ=>exact x.2.1
structure gF(X:Cx)(pins:List (Addr×Obj))(a:Addr):Prop where
 st:X.s₀.heap.get? a=none
 lo:a≠X.env.locals
 ce:∀x c,X.env.cells.lookup x=some c->c≠a
 pi:∀p∈X.pn++pins,p.1≠a
 fr:a∉qY X.stack
section
variable {X:Cx}{pins:List (Addr×Obj)}{σ:L2.St}{H H':Hp}{s:QQ}{a:Addr}
theorem Inv.newAt(I:L2.Inv X pins σ H s)(hex:X.ex=[])(h:s.heap.get? a=none):gF X pins a where
 st:=by
  cases e:X.s₀.heap.get? a with
  |none=>rfl
  |some o=>
   obtain⟨o',q⟩:=I.base.there a o e (by rw[hex];simp);rw[h] at q;cases q
 lo:=λz=>by
  obtain⟨m,⟨o,_,_,q,_⟩,_⟩:=I.loc;grind
 ce:=λx c e z=>by
  obtain⟨v,o,q,_⟩:=I.cell x c e;rw[z,h] at q;cases q
 pi:=λp hp z=>by
  obtain⟨q,_⟩:=I.pin p hp;rw[z,h] at q;cases q
 fr:=λz=>by
  obtain⟨_,o,q,_⟩:=I.stack.mem z;rw[h] at q;cases q
end
section
variable {X:Cx}{pins:List (Addr×Obj)}{σ:L2.St}{H:Hp}{s:QQ}{a:Addr}{o:HO}
theorem Inv.adopt(I:L2.Inv X pins σ H s)(na:gF X pins a)(ha:H a=none)(hex:X.ex=[])(new:L2.ObjOk X.prog X.w (upd H a o) s.heap a o):L2.Inv X pins σ (upd H a o) s:=by
 have keep:∀b u,H b=some u->upd H a o b=some u:=λb u q=>by rw[ai (au q ha)];exact q
 have nn:∀b,b≠a->H b=none->upd H a o b=none:=λb nb q=>by rw[ai nb];exact q
 refine⟨I.ok,I.os,I.bare,⟨I.base.keep,I.base.slot,λb u q n hx=>nn b (λz=>by rw[z,na.st] at q;cases q) (I.base.free b u q n hx),I.base.there,λb xs q=>keep _ _ (I.base.tups b xs q),λb u v q=>keep _ _ (I.base.frzs b u v q),λb ps q=>?_⟩,I.loc,I.cell,nn _ na.lo.symm I.free,λx c q=>nn _ (na.ce x c q) (I.freeC x c q),λp hp=>?_,λb u q=>?_,I.len⟩
 ·obtain⟨m,z⟩:=I.base.tbls b ps q;exact⟨m,keep _ _ z⟩
 ·obtain⟨p1,p2,p3⟩:=I.pin p hp;exact⟨p1,nn _ (na.pi p hp) p2,p3⟩
 ·by_cases z:b=a
  ·subst z;rw[aa] at q;cases q;exact new
  ·rw[ai z] at q;exact(I.hok b u q).stay (λc v _ w=>w) (λc w=>keep _ _ w) (λc xs w=>keep _ _ w)
theorem Inv.none_of(I:L2.Inv X pins σ H s)(h:s.heap.get? a=none):H a=none:=by
 cases q:H a with
 |none=>rfl
 |some o=>obtain⟨u,z⟩:=ObjOk.get (I.hok a o q);rw[h] at z;cases z
end
structure XC(K:QJ)(C f:Addr)(bm:List Value):Prop where
 ob:∃nm q N bs hdct sn sub ab col dd k0 k1 k2 k3 k5,K.lookup C=some (Uu nm q C N bs bm hdct sn sub ab col dd k0 k1 k2 k3 k5 "ValueError.__new__")
 tl:∀h:Ra,K.In h->Zq h qd bm
 init:RT K (.ref C) "__init__"=some (some (.ref f))
 fn:VN K (.ref f)=some (.type "function")
 kp:SM K (.ref C)=true
 cl:AJ K C bm
section
variable {X:Cx}{k:Nat}{f C:Addr}{fd:QU}{ps:List RF}{sp:Sp}{bm:List Value}
theorem Gg{pins:List (Addr×Obj)}{σ:L2.St}{H:Hp}{s:QQ}{Q:Addr->Hp->Prop}{us:List Value}{vs:List V}{E':Value->QQ->Prop}(M:XC X.K C f bm)(hex:X.ex=[])(F:aP X.prog X.w X.K X.mg X.base c5 k f fd ps sp)(hr:cA (k+1) X.A)(hb:aI X.K fd ps [])
  (I:L2.Inv X pins σ H s) (r:aW vs us) (hz:us.length≤sizeLine) (h:∀a,H a=none->sp (.ref a::vs) (upd H a (rh a C none)) (λv H2=>v=.non/\Q a H2) E0) :
  Rj (Ro X.prog X.w) X.A (call (.ref C) us) (λv s'=>∃a H',v=.ref a/\gF X pins a/\L2.Inv X pins σ H' s'/\Q a H') E' s:=by
 obtain⟨nm,q,N,bs,hdct,sn,sub,ab,col,dd,k0,k1,k2,k3,k5,lk⟩:=M.ob;obtain⟨hp,g,d,t,os⟩:=s;refine Fe PySem.F.excBase_ValueError (M.tl hp I.kIn) I.kIn (I.kIn _ _ lk) M.init M.fn (λh' e hm=>?_) hz;have na:=B.Inv.newAt I hex hm.new;have he:=B.Inv.none_of I hm.new;obtain⟨tt,ho,_⟩:=hm.there;have I1:L2.Inv X pins σ H ⟨h',g,d,t,os⟩:=I.kept (t':=t) hm.keeps;have I2:L2.Inv X pins σ (upd H e (rh e C none)) ⟨h',g,d,t,os⟩:=B.Inv.adopt I1 na he hex (Ff ⟨tt,ho⟩);have hq:=h e he;have r2:aW (V.ref e::vs) (RA e::us):=.cons Z r;have hl:(RA e::us).length=ps.length:=by
  have z:=r2.length;rw[F.len _ _ _ _ hq] at z;exact z.symm
 have hbd:=hb ⟨h',g,d,t,os⟩ (RA e::us) I2.kIn (by rw[R7];exact hl);rw[R7] at hbd;refine XX (VP (F.run _ X.stack _ _ ⟨RA e::us,[]⟩ (RA e::us) _ _ E0 (hr.make C us []) (I2.env0.make C us []) hbd r2 hq) λr s' hq'=>?_)
 cases r with
 |error e=>exact Sn hq'
 |ok fl=>
  cases fl with
  |ret u=>
   obtain⟨v,H',I3,rv,ev,q3⟩:=I2.after hq';subst ev;exact⟨rv,e,H',Z,na,I3,q3⟩
  |next=>exact Sn hq'
  |brk=>exact Sn hq'
  |cont=>exact Sn hq'
theorem zI 
  (hbase:bm.contains (.type "BaseException")=true) (hh:A.handled=none)
  (h:Rj M A x (λv s₁=>∃e t dx,v=.ref e/\s₁.heap.get? C=some (Uu nm q C N bs bm hdct sn sub ab col dd k0 k1 k2 k3 k5 newId)∧
   s₁.heap.get? e=some { cls:=.ref C,dict:=dx,data:=.fields #[.ref t,.none,.none,.none,.bool false,.none]}/\E (.ref e) s₁) E s):
  Rj M A (raiseStmt env (some x) none) Q E s:=by
 have hcB:(RA C::bm).contains (.type "BaseException")=true:=by rw[WV,hbase,WD]
 unfold raiseStmt;refine QR (SA h (λv s₁ h₁=>?_) λ_ _ y=>y);obtain⟨e,t,dx,rfl,hC,he,hE⟩:=h₁;obtain⟨hp,g,d,tk,os⟩:=s₁
 repeat(first
  |with_reducible refine wpAny_loadPart_at he ?_
  |with_reducible refine wpAny_loadPart_at hC ?_
  | (with_reducible refine wpAny_isSubtype_exc hC ?_
     rw[hcB])
  |wp_step)
 exact wpAny_raiseNew_none hh hE
end
section
variable {X:Cx}{pins:List (Addr×Obj)}{σ:L2.St}{H:Hp}{s:QQ}{a C T:Addr}{a0:Value}
end
def OB(N:List RF):L2.St:=Q0 N.length none
theorem E1{X:Cx}{pins:List (Addr×Obj)}{σ:L2.St}{H:Hp}{s:QQ}(I:L2.Inv X pins σ H s):L2.Inv X pins (OB X.N) H s:=
 I.weak (by rw[I.len];exact R0) λi v q=>by
  unfold OB at q;rw[UI] at q
  split at q<;>cases q
def qW(X:Cx)(e:Addr):Cx:={ X with A:=X.A.mark (some (.ref e)),calm:=false,xe:=λ_ _=>False}
section
variable {X:Cx}{pins pins':List (Addr×Obj)}{σ:L2.St}{H:Hp}{s:QQ}{R:Addr->Hp->Prop}{e:Addr}
theorem IK(I:L2.Inv X pins σ H s):L2.Inv (qW X e) pins σ H s:=
 ⟨⟨I.ok.mod,I.ok.kind,I.ok.glob,I.ok.blt,I.ok.above,I.ok.inj,I.ok.has,I.ok.cab,(λz=>nomatch z),I.ok.frames,I.ok.stk,I.ok.exf,I.ok.bs,I.ok.bsz,I.ok.noex,I.ok.exfs,I.ok.funs,I.ok.frf⟩,I.os,I.bare,I.base,I.loc,I.cell,I.free,I.freeC,I.pin,I.hok,I.len⟩
theorem ofExc(ok:X.Ok)(I:L2.Inv (qW X e) pins σ H s):L2.Inv X pins σ H s:=
 ⟨ok,I.os,I.bare,I.base,I.loc,I.cell,I.free,I.freeC,I.pin,I.hok,I.len⟩
theorem SP.ofExc(ok:X.Ok)(h:SP (qW X e) pins D f s):SP X pins D f s:=by
 cases f with
 |next=>obtain⟨σ',H',I,q⟩:=h;exact⟨σ',H',B.ofExc ok I,q⟩
 |brk=>obtain⟨σ',H',I,q⟩:=h;exact⟨σ',H',B.ofExc ok I,q⟩
 |cont=>obtain⟨σ',H',I,q⟩:=h;exact⟨σ',H',B.ofExc ok I,q⟩
 |ret u=>obtain⟨v,σ',H',I,r,q⟩:=h;exact⟨v,σ',H',B.ofExc ok I,r,q⟩
end
section
variable {X:Cx}{R:Addr->Hp->Prop}{body:List Stmt}{b₀:Stmt}{suite:List Stmt}{x:RF}{p hpos pos:Uh}{u:Value}{tb th:TS}
end
section
variable {X:Cx}{o value:RP}{f:RF}{ta tv:TE}{pos' pos:Uh}
end
theorem JO(a:Addr):(RA a::qd).contains (.type "BaseException")=true:=by rw[WV,(by decide +kernel:qd.contains (.type "BaseException")=true),WD]
def ol(es:Array Yx):Bool:=es.toList.all λe=>match e.key with
 | .str _ _=>true
 |_=>false
theorem vy(h:ol es=true):StrKeys es:=λe he=>by
 have z:=T7.mp h e (Yj.mpr he);grind
theorem Nk{K:QJ}{bs bsB:List Value}{sn snB:List RF}{sub subB:List Value} 
  
  (lc:K.lookup C=some (Uu nm q C N bs (.ref B0:: [.type "ValueError",.type "Exception",.type "BaseException",.type "object"]) hdct sn sub ab col dd k0 k1 k2 k3 k5 "ValueError.__new__"))
  (lb:K.lookup B0=some (Uu nmB qB B0 NB bsB [.type "ValueError",.type "Exception",.type "BaseException",.type "object"] hdctB snB subB abB colB ddB j0 j1 j2 j3 j5 "ValueError.__new__"))
  (ln:K.lookup NB=some ⟨oc,od,.dict es n,sl⟩) (hs:ol es=true) (hn:(nsFind es "__init__").isNone=true)
  (fi:RT K (.ref C) "__init__"=some (some (.ref f))) (ti:VN K (.ref f)=some (.type "function")) (kc:SM K (.ref C)=true) (hh:U9 K C=true) (sa:RT K (.ref C) "__setattr__"=some (some (.builtin "object.__setattr__"))):XC K C f (.ref B0:: qd):=
 have ob:∃nm q N bs hdct sn sub ab col dd k0 k1 k2 k3 k5,K.lookup C=some (Uu nm q C N bs (.ref B0::qd) hdct sn sub ab col dd k0 k1 k2 k3 k5 "ValueError.__new__"):=⟨_,_,_,_,_,_,_,_,_,_,_,_,_,_,_,lc⟩;have tl:∀h:Ra,K.In h->Zq h qd (.ref B0::qd):=λh X=>.own (X _ _ lb) ⟨_,es,n,X _ _ ln,Z,vy hs,λ_=>Z⟩ (Option.isNone_iff_eq_none.mp hn) .base
 ⟨ob,tl,fi,ti,kc,ob,tl,hh,sa⟩
structure P1(K:QJ)(C:Addr):Prop where
 ga:RT K (.ref C) "__getattribute__"=some (some (.builtin "BaseException.__getattribute__"))
 gn:RT K (.ref C) "__getattr__"=some none
 cl:RT K (.ref C) "__class__"=some (some (.builtin "object.__class__"))
 cg:Za K (.builtin "object.__class__") "__get__"=some (some (.builtin "getset_descriptor.__get__"))
 ct:ZX K (.builtin "object.__class__")=some true
section
variable {prog:Rz}{w:RS}{A:RK}{E:Value->QQ->Prop}{s:QQ}{K:QJ}{x C:Addr}{ox:Obj}{odo:Option Obj}{bm:List Value}{name:RF}{tk:Tok}{R:ZF->QQ->Prop}
end
section
variable {K:QJ}{x C:Addr}{ox od:Obj}{bm:List Value}
end
structure ji(S ch:List Addr)(h h':Ra):Prop where
 same:∀b o,b∉S->b∉ch->h.get? b=some o->h'.get? b=some o
 slot:∀b o,b∉ch->h.get? b=some o->∃sl,h'.get? b=some { o with slots:=sl}
theorem ji.trans(a:ji S c1 h h1)(b:ji S c2 h1 h2):ji S (c1++c2) h h2 where
 same:=λx o n1 n2 q=>b.same x o n1 (λz=>n2 (Rh _ z)) (a.same x o n1 (λz=>n2 (RN _ z)) q)
 slot:=λx o n2 q=>by
  obtain⟨sl,z⟩:=a.slot x o (λz=>n2 (RN _ z)) q;obtain⟨sl',z'⟩:=b.slot x _ (λz=>n2 (Rh _ z)) z;exact⟨sl',z'⟩
theorem ji.upd:ji S [T] h (h.update T f) where
 same:=λb o _ n q=>by rw[RI _ _ (λz=>n (by rw[z];exact Q2.mpr Z))];exact q
 slot:=λb o n q=>⟨o.slots,by rw[RI _ _ (λz=>n (by rw[z];exact Q2.mpr Z))];exact q⟩
def lJ(h:Ra)(x C T:Addr)(dx:Option Addr)(fl:Value):Prop:=
 ∃oe vs oT ts,h.get? x=some oe/\oe.cls=.ref C/\oe.dict=dx/\oe.data=.fields vs/\vs[1]?=some (.ref T)/\T≠x/\h.get? T=some oT/\oT.data=.fields ts/\ts[3]?=some fl
section
variable {M:Model}{A:RK}{E:Value->QQ->Prop}{s:QQ}{base:Ra}{env:ZU}{outer:List ZU}{L e C T:Addr}{oe:Obj}{vs:Array Value}{dx:Option Addr}{fl:Value}
theorem Ar(f:Array Value->Array Value)(o:Obj):(Obj.mapFields f o).dict=o.dict:=by
 unfold Obj.mapFields;split<;>rfl
theorem Fg(hfr:A.frames=some (env:: outer))(hl:s.heap.FunFrames base (env:: outer))(hf:env.frame=some L)
  (he:s.heap.get? e=some oe) (hd:oe.data=.fields vs) (hsz:1<vs.size) (hc:oe.cls=.ref C) (hx:oe.dict=dx)
  (h:∀h' T,ji (qY (env:: outer)) [e] s.heap h'->s.heap.get? T=none->lJ h' e C T dx (rawInt L)->Q () { s with heap:=h'}):
  Rj M A (do let a ←frameOf env;let pl ←entryPlaceOf L hadNext;let b ←EntryCells.newEntry head a .none (rawInt L) .none pl;setField (.ref e) 1 b) Q E s:=by
 have hene:e∉qY (env::outer):=λhm=>by
  obtain⟨_,o,ho,hnf⟩:=hl.mem hm;rw[he] at ho;cases ho;exact hnf vs hd
 refine QR (wpAny_frameOf_fun hfr hl hf λh1 s1=>QR (wpAny_entryPlaceOf λpl hpl=>?_));unfold EntryCells.newEntry newFields;refine QR (Th ?_ (hpl.sizeOk5 _ _ _ _ _));have he1:h1.get? e=some oe:=(s1.2.1 e hene).trans he;generalize hob:({ cls:=.type "traceback",dict:=none,data:=.fields ([head,.ref L,.none,rawInt L,.none]++(if pl.isEmpty then Q0 6 Uw else pl)).toArray}:Obj)=ob;have he2:=QP (h:=h1) ob he1;refine Yp he2 hd hsz (h _ h1.objs.size ⟨λb o n1 n2 q=>?_,λb o n2 q=>?_⟩ ?_ ?_)
 ·rw[RI _ _ (λz=>n2 (by rw[z];exact Q2.mpr Z))];exact QP _ ((s1.2.1 b n1).trans q)
 ·obtain⟨sl,z⟩:=s1.2.2 b o q;refine⟨sl,?_⟩;rw[RI _ _ (λz=>n2 (by rw[z];exact Q2.mpr Z))];exact QP _ z
 ·exact Tb (UV s1.1.symm)
 ·have nT:h1.objs.size≠e:=Ur (Re he1);have d3:=Obj.data_mapFields hd (·.setIfInBounds 1 (RA h1.objs.size));refine⟨_,_,ob,_,Ug _ he2 (Obj.isFreed_of_fields d3),(Obj.cls_mapFields _ _).trans hc,(Ar _ _).trans hx,d3,by simp[hsz],nT,?_,by rw[←hob],?_⟩
  ·rw[RI _ _ (SO nT)];exact Rg h1 (by rw[←hob];rfl)
  ·first | (simp;done) | (rcases hpl with rfl | ⟨_,_,_,_,_,_,_,rfl⟩<;>simp)
theorem tN(t:lJ s.heap e C T dx fl)(h:∀h',ji [] [T] s.heap h'->lJ h' e C T dx .none->Q () { s with heap:=h'}):Rj M A (Yz (.ref e) none) Q E s:=by
 obtain⟨oe,vs,oT,ts,q1,q2,q3,q4,q5,q6,q7,q8,q9⟩:=t;have z3:3<ts.size:=(Ud.mp q9).1;unfold Yz;refine QR (Vd q1 q4 q5 ?_);rw[if_pos (by simp)];refine Yp q7 q8 z3 (h _ ji.upd ?_);have d3:=Obj.data_mapFields q8 (·.setIfInBounds 3 ((none:Option Addr).elim Uw λf=>rawInt f));exact⟨oe,vs,_,_,(RI _ _ q6).trans q1,q2,q3,q4,q5,q6,Ug _ q7 (Obj.isFreed_of_fields d3),d3,by simp[z3]⟩
theorem Om(hfr:A.frames=some (env:: outer))(hl:s.heap.FunFrames base (env:: outer))(hf:env.frame=some L)(he:s.heap.get? e=some oe)(hd:oe.data=.fields vs)(h1:vs[1]?=some .none)(hc:oe.cls=.ref C)(hx:oe.dict=dx)
  (h:∀h' T,ji (qY (env:: outer)) [e] s.heap h'->s.heap.get? T=none->lJ h' e C T dx (rawInt L)->Q () { s with heap:=h'}):Rj M A (WK (.ref e) env) Q E s:=by
 unfold WK;simp only[hf];refine QR (Vd he hd h1 ?_);rw[if_neg δ];exact Fg hfr hl hf he hd (Ud.mp h1).1 hc hx h
theorem Ol(hfr:A.frames=some (env:: outer))(hl:s.heap.FunFrames base (env:: outer))(hf:env.frame=some L)(t:lJ s.heap e C T dx .none)
  (h:∀h' T',ji (qY (env:: outer)) [T,e] s.heap h'->s.heap.get? T'=none->lJ h' e C T' dx (rawInt L)->Q () { s with heap:=h'}):Rj M A (WK (.ref e) env) Q E s:=by
 obtain⟨oe,vs,oT,ts,q1,q2,q3,q4,q5,q6,q7,q8,q9⟩:=t;unfold WK;simp only[hf];refine QR (Vd q1 q4 q5 ?_);rw[if_pos (by simp)];refine QR (Vd q7 q8 q9 ?_);rw[if_neg (by simp[rawInt])];refine QR (Yp q7 q8 (Ud.mp q9).1 ?_);have k1:ji (qY (env::outer)) [T] s.heap (s.heap.update T (Obj.mapFields (·.setIfInBounds 3 Uw))):=ji.upd;have nf:∀b o,s.heap.get? b=some o->(∀us,o.data≠.fields us)->b∉[T]:=λb o hb hn z=>by
  grind
 refine Fg (base:=base) hfr (hl.of_keeps λb o hb hn=>?_) hf ((RI _ _ q6).trans q1) q4 (Ud.mp q5).1 q2 q3 λh' T' k nT t'=>h h' T' (k1.trans k) ?_ t'
 ·obtain⟨sl,z⟩:=k1.slot b o (nf b o hb hn) hb;exact⟨_,z,Z⟩
 ·cases q:s.heap.get? T' with
  |none=>rfl
  |some o=>
   exfalso;by_cases z:T'=T
   ·have d3:=Obj.data_mapFields q8 (·.setIfInBounds 3 Uw);rw[z,Ug _ q7 (Obj.isFreed_of_fields d3)] at nT;cases nT
   ·rw[RI _ _ (SO z)] at nT;rw[q] at nT;cases nT
end
def O4(d:Addr)(fs:List (RF×V)):Ra->Prop:=λh=>∃mA,h.Ns1 d mA/\∀f,fL (fs.lookup f) (mA f)
def dO(d:Addr)(fs:List (RF×V)):HO:=.ext (O4 d fs)
theorem JD(e:O4 d fs h):ObjOk P w H h d (dO d fs):=
 ⟨e,let ⟨_,⟨_,_,_,q,_⟩,_⟩:=e;⟨_,q⟩,λ_ _ ⟨mA,n,r⟩ k=>⟨mA,n.at k,r⟩⟩
theorem zH(r:fL a b)(h:b≠none):a≠none:=λz=>by
 subst z
 cases b with
 |none=>exact h Z
 |some _=>exact r.elim
theorem qI{fs:List (RF×V)}{mA:RF->Option Value}(r:∀g,fL (fs.lookup g) (mA g))(q:aY y u):∀g,fL (((f,y):: fs).lookup g) (if g=f then some u else mA g):=λg=>by
 by_cases z:g=f
 ·subst z;rw[if_pos Z,List.lookup_cons_self];exact q
 grind
theorem qm{fs:List (RF×V)}(r:∀g,fL (fs.lookup g) (mA g)):Ww mA (fs.map (·.1)):=λg hg=>by
 have z:=zH (r g) hg;grind
section
variable {X:Cx}{pins:List (Addr×Obj)}{σ:L2.St}{H:Hp}{s:QQ}{a C:Addr}
theorem setX1(hex:X.ex=[])(I:L2.Inv X pins σ H s)(e:H a=some (rh a C none))(c:AJ X.K C bm)(n:dk X.K C f)(ry:aY y u)
  (h:∀d s',H d=none->d≠a->L2.Inv X pins σ (upd (upd H a (rh a C (some d))) d (dO d [(f,y)])) s'->Q () s'):Rj (Ro X.prog X.w) A (setAttr (.ref a) f u) Q E s:=by
 obtain⟨t,hx⟩:=(show ObjOk X.prog X.w H s.heap a (rh a C none) from I.hok a _ e).1;have J:WQ s.heap a _ C none:=⟨hx,Z,Z,trivial⟩;refine Xg I.kIn J c.sa (qw (s:={ s with toks:=s.toks+1}) I.kIn J c n λb=>?_);obtain⟨cd,hc,hd'⟩:=Xz c.hd;refine QR (wpAny_pure (QR (QR (Yk hx (QR (UU (s:={ s with toks:=s.toks+1}) (Vp I.kIn hc) ?_))))));rw[hd'];show Rj _ _ (alloc { cls:=.type "dict",data:=.dict #[]} >>= λd=>update a (λo=>{ o with dict:=some d}) >>= λ_=>dictMade (.ref C) a d) _ _ _;have la:a<s.heap.objs.size:=Re hx;have nad:s.heap.objs.size≠a:=Ur la;have g1:=QP (h:=s.heap) { cls:=.type "dict",data:=.dict #[]} hx;refine QR (wpAny_alloc (QR (wpAny_update g1 ?_)));have g2:=Ug (λo=>{ o with dict:=some s.heap.objs.size}) g1 rfl;have e1:((s.heap.push { cls:=.type "dict",data:=.dict #[]}).update a λo=>{ o with dict:=some s.heap.objs.size}).get? s.heap.objs.size=some { cls:=.type "dict",data:=.dict #[]}:=by
  rw[RI _ _ nad.symm];exact Rg s.heap Z
 have e3:((s.heap.push { cls:=.type "dict",data:=.dict #[]}).update a λo=>{ o with dict:=some s.heap.objs.size}).Ns s.heap.objs.size (λ_=>none):=
  ⟨_,#[],_,e1,Z,(λe he=>absurd he (by simp)),λ_=>Z⟩
 have keep:∀b o,b≠a->s.heap.get? b=some o->((s.heap.push { cls:=.type "dict",data:=.dict #[]}).update a λo=>{ o with dict:=some s.heap.objs.size}).get? b=some o:=λb o nb q=>by
  rw[RI _ _ (SO nb)];exact QP _ q
 refine wpAny_pure (a:=some s.heap.objs.size) (QR (wpAny_pure (QR ?_)));refine Y8 (Y9 e3) λh' hn2 hs2=>?_
 have rel:∀g,fL ([(f,y)].lookup g) (if g=f then some u else none):=qI (fs:=[]) (mA:=λ_=>none) (λ_=>trivial) ry;obtain⟨oD,esD,epD,hoD,hdD,hcD⟩:=hn2.count (qm rel);refine QR (XA hoD (by rw[hdD];exact XB (RC hcD (Nat.le_add_left _ _))) ?_);have hno:s.heap.get? s.heap.objs.size=none:=Tb (QY _);have hH:H s.heap.objs.size=none:=B.Inv.none_of I hno;refine wpAny_pure (h s.heap.objs.size _ hH nad ?_);have ga:h'.get? a=some { cls:=.ref C,dict:=some s.heap.objs.size,data:=.fields #[.ref t,.none,.none,.none,.bool false,.none]}:=(hs2.2 a nad.symm).trans g2;have I2:L2.Inv X pins σ (upd H a (rh a C (some s.heap.objs.size))) { s with heap:=h',toks:=s.toks+1+1}:=I.write (x:=a) (e:=a) (o:=rh a C (some s.heap.objs.size)) (h':=h') (by rw[e];trivial) (.inl rfl) (λb o nb q=>by
  have nb2:b≠s.heap.objs.size:=RZ (Re q);exact(hs2.2 b nb2).trans (keep b o nb q)) ⟨_,ga⟩ (Ff ⟨t,ga⟩)
 exact B.Inv.adopt I2 (B.Inv.newAt I hex hno) (by rw[ai nad];exact hH) hex (JD ⟨_,hn2,rel⟩)
theorem setX2(I:L2.Inv X pins σ H s)(e:H a=some (rh a C (some d)))(ed:H d=some (dO d fs))(hl:fs.length≤100)(c:AJ X.K C bm)(n:dk X.K C f)(ry:aY y u)
  (h:∀s',L2.Inv X pins σ (upd H d (dO d ((f,y):: fs))) s'->Q () s'):Rj (Ro X.prog X.w) A (setAttr (.ref a) f u) Q E s:=by
 obtain⟨t,hx⟩:=(show ObjOk X.prog X.w H s.heap a (rh a C (some d)) from I.hok a _ e).1;obtain⟨mA,hn,rel0⟩:=(show ObjOk X.prog X.w H s.heap d (dO d fs) from I.hok d _ ed).1;obtain⟨od,_,_,hod,_⟩:=id hn;have J:WQ s.heap a _ C (some od):=⟨hx,Z,Z,hod⟩;refine Xg I.kIn J c.sa (qw (s:={ s with toks:=s.toks+1}) I.kIn J c n λb=>?_);obtain⟨cd,hc,hd'⟩:=Xz c.hd;refine QR (wpAny_pure (QR (QR (Yk hx (QR (UU (s:={ s with toks:=s.toks+1}) (Vp I.kIn hc) ?_))))));rw[hd'];refine wpAny_pure (a:=some d) (QR (wpAny_pure (QR ?_)));refine Y8 (s:={ s with toks:=s.toks+1}) hn λh' hn2 hs2=>?_
 have rel:=qI (f:=f) rel0 ry;obtain⟨oD,esD,epD,hoD,hdD,hcD⟩:=hn2.count (qm rel);have hz:esD.size≤101:=by rw[QK,RU] at hcD;lia
 refine QR (XA hoD (by rw[hdD];exact XB (RC hz δ)) ?_);refine wpAny_pure (h _ ?_);exact I.write (x:=d) (e:=d) (o:=dO d ((f,y)::fs)) (h':=h') (by rw[ed];trivial) (.inl Z) (λb o nb q=>(hs2.2 b nb).trans q) ⟨_,hoD⟩ (JD ⟨_,hn2,rel⟩)
end
section
variable {X:Cx}{o value:RP}{f:RF}{ta tv:TE}{pos' pos:Uh}
def Ja(K:QJ)(ta tv:TE)(f:RF):TS:=λD σ H=>tv σ H λy H1=>ta σ H1 λx H2=>∃a C bm,x=.ref a/\AJ K C bm/\dk K C f∧
 ((H2 a=some (rh a C none)/\∀d,H2 d=none->d≠a->D.nx σ (upd (upd H2 a (rh a C (some d))) d (dO d [(f,y)])))∨
  ∃d fs,H2 a=some (rh a C (some d))/\H2 d=some (dO d fs)/\fs.length≤100/\D.nx σ (upd H2 d (dO d ((f,y)::fs))))
theorem GJ(hex:X.ex=[])(ha:PE X o ta)(hv:PE X value tv)(hs:TZ value (some (.Attribute o f pos')) pos.line X.env=SS false):PS X (.Assign [.Attribute o f pos'] value pos) (Ja X.K ta tv f):=by
 intro pins s σ H D I h;refine VX (bQ (hv pins s σ H _ I h) λu s1 ⟨y,H1,I1,ry,q⟩=>bQ (ha pins s1 σ H1 _ I1 q) λov s2 ⟨x,H2,I2,rx,a,C,bm,ex,c,n,q2⟩=>?_) hs;subst ex;obtain rfl:ov=RA a:=rx;rcases q2 with⟨ea,k⟩ | ⟨d,fs,ea,ed,hl,k⟩
 ·exact B.setX1 hex I2 ea c n ry λd s' hd nd I'=>⟨σ,_,I',k d hd nd⟩
 ·exact B.setX2 I2 ea ed hl c n ry λs' I'=>⟨σ,_,I',k⟩
end
theorem ji.any(k:ji [] ch h h'):ji S ch h h':=⟨λb o _ n q=>k.same b o (λz=>by cases z) n q,k.slot⟩
section
variable {X:Cx}{pins:List (Addr×Obj)}{σ:L2.St}{H:Hp}{s:QQ}{a C T:Addr}{dx:Option Addr}{fl:Value}
theorem Inv.leftK(I:L2.Inv X pins σ H s)(hch:∀b∈ch,H b=none/\gF X pins b)(k:ji (qY X.stack) ch s.heap h'):L2.Inv X pins σ H { s with heap:=h',toks:=tk}:=by
 have JS:∀b o,H b=some o->b∉qY X.stack/\b∉ch:=λb o q=>
  ⟨(λz=>by rw[I.stkFree b z] at q;cases q),(λz=>by rw[(hch b z).1] at q;cases q)⟩
 refine I.call' (s':={ s with heap:=h',toks:=tk}) (ch:=ch) rfl ⟨λb o q _ n1 n2=>k.same b o n1 n2 q,λb o q _ n1 n2=>k.slot b o n2 q,λb o _ n _=>n,λb o q n2=>?_,λb xs q=>q,λb o u q=>q,λb ps q=>⟨#[],by rw[Array.append_empty];exact q⟩⟩ (λb o q=>?_) I.bare
  (λb hb=>⟨.inr (hch b hb).2.st,(hch b hb).2.lo,(hch b hb).2.ce,(hch b hb).2.pi⟩)
 ·obtain⟨sl,z⟩:=k.slot b o n2 q;exact⟨_,z⟩
 ·refine(I.hok b o q).stay (λc u hc z=>?_) (λc z=>z) (λc xs z=>z);rcases hc with rfl|hc
  ·obtain⟨n1,n2⟩:=JS _ _ q;exact k.same _ _ n1 n2 z
  ·obtain⟨n1,n2⟩:=JS _ _ hc;exact k.same _ _ n1 n2 z
theorem L3{A:RK}{E':Value->QQ->Prop}{Q:QQ->Prop}{oe:Obj}(hA:A.frames=X.A.frames)(I:L2.Inv X pins σ H s)(hex:X.ex=[])(hst:X.stack=X.env:: X.outer)(hfr:X.env.frame=some X.env.locals)
  (ha:H a=none) (na:gF X pins a) (hx:s.heap.get? a=some oe) (hd:oe.data=.fields vs) (h1:vs[1]?=some .none) (hc:oe.cls=.ref C) (hdx:oe.dict=dx)
  (h:∀(s':QQ) (T:Addr),L2.Inv X pins σ H s'->gF X pins T->H T=none->lJ s'.heap a C T dx .none->Q s'):
  Rj (Ro X.prog X.w) A (WK (.ref a) X.env) (λ_ s2=>Rj (Ro X.prog X.w) A (Yz (.ref a) none) (λ_ s3=>Q s3) E' s2) E' s:=by
 have hfrm:A.frames=some (X.env::X.outer):=by rw[hA,I.ok.frames,hst]
 refine Om (base:=X.base) hfrm (by rw[←hst];exact I.stack) hfr hx hd h1 hc hdx λh1 T k1 nT t1=>?_
 refine tN (s:={ s with heap:=h1}) t1 λh2 k2 t2=>?_
 have nt:=B.Inv.newAt I hex nT;have hT:=B.Inv.none_of I nT;rw[←hst] at k1;refine h { s with heap:=h2} T (B.Inv.leftK (tk:=s.toks) I (λb hb=>?_) (k1.trans k2.any)) nt hT t2;simp only[Wb,U3,Rm,UK,or_false] at hb;rcases hb with rfl|rfl
 ·exact⟨ha,na⟩
 ·exact⟨hT,nt⟩
theorem Eo{A:RK}{E':Value->QQ->Prop}{Q:QQ->Prop}(hA:A.frames=X.A.frames)(I:L2.Inv X pins σ H s)(hex:X.ex=[])(hst:X.stack=X.env::X.outer)(hfr:X.env.frame=some X.env.locals)
  (ha:H a=none) (na:gF X pins a) (hT:H T=none) (nT:gF X pins T) (t:lJ s.heap a C T dx .none)
  (h:∀(s':QQ) (T':Addr),L2.Inv X pins σ H s'->gF X pins T'->H T'=none->lJ s'.heap a C T' dx .none->Q s') :
  Rj (Ro X.prog X.w) A (WK (.ref a) X.env) (λ_ s2=>Rj (Ro X.prog X.w) A (Yz (.ref a) none) (λ_ s3=>Q s3) E' s2) E' s:=by
 have hfrm:A.frames=some (X.env::X.outer):=by rw[hA,I.ok.frames,hst]
 refine Ol (base:=X.base) hfrm (by rw[←hst];exact I.stack) hfr t λh1 T' k1 nT' t1=>?_
 refine tN (s:={ s with heap:=h1}) t1 λh2 k2 t2=>?_
 have nt:=B.Inv.newAt I hex nT';have hT':=B.Inv.none_of I nT';rw[←hst] at k1;refine h { s with heap:=h2} T' (B.Inv.leftK (tk:=s.toks) I (λb hb=>?_) (k1.trans k2.any)) nt hT' t2;simp only[Wb,U3,Rm,UK,or_false] at hb;rcases hb with rfl|rfl|rfl
 ·exact⟨hT,nT⟩
 ·exact⟨ha,na⟩
 ·exact⟨hT',nt⟩
theorem Mw{E':Value->QQ->Prop}{Q:QQ->Prop}(I:L2.Inv X pins σ H s)(hT:H T=none)(nT:gF X pins T)(t:lJ s.heap a C T dx .none)
  (h:∀(s':QQ),L2.Inv X pins σ H s'->lJ s'.heap a C T dx .none->Q s'):Rj (Ro X.prog X.w) A (Yz (.ref a) none) (λ_ s3=>Q s3) E' s:=by
 refine tN t λh2 k2 t2=>h _ (B.Inv.leftK (tk:=s.toks) I (λb hb=>?_) k2.any) t2
 rw[Q2.mp hb];exact⟨hT,nT⟩
end
def FP(P:Rz)(w:RS):AL:=λouter H s E e s'=>∃(x C T:Addr) (dx:Option Addr) (H':Hp),e=.ref x/\s'.os=s.os/\Wx s'.gens/\Un (qY outer) [] H H' s.heap s'.heap/\jI P w H' s'.heap/\s.heap.get? x=none/\s.heap.get? T=none/\H' x=none/\H' T=none∧
 lJ s'.heap x C T dx .none/\E (.ref C) dx H'
section
variable {P:Rz}{w:RS}{K:QJ}{mg:RF->Option Value}{base:Ra}{N:List RF}{qual:RF}{scope:UG}{f:Addr}{cd:Value}{A:RK}{outer:List ZU}{s:QQ}{H:Hp}{E:XK}
theorem Jk:eZ (FP P w) (ba (FP P w) P w K mg base N qual scope f cd A outer s H E) E:=by
 intro pins σ H1 s1 e s2 I hx;obtain⟨x,C,T,dx,H2,rfl,ho,hb,un,hok,nx,nT,hx2,hT2,tr,hE⟩:=hx;have na:=B.Inv.newAt I Z nx;have nt:=B.Inv.newAt I Z nT;have I2:L2.Inv (ba (FP P w) P w K mg base N qual scope f cd A outer s H E) pins σ H2 s2:=I.call' ho un hok hb (λb hb=>by cases hb);show Rj (Ro P w) _ (Z2 _ _) _ _ s2;unfold Z2;refine QR (Eo Z I2 Z Z Z hx2 na hT2 nt tr λs3 T' I3 nT' hT' tr'=>?_);exact⟨x,C,T',dx,H2,Z,I3.os,I3.bare,I3.base,I3.hok,na.st,nT'.st,hx2,hT',tr',hE⟩
def xj(X:Cx)(E:XK):Prop:=∀(pins:List (Addr×Obj)) (σ:L2.St) (H:Hp) (s:QQ) (a C:Addr) (dx:Option Addr) (oe:Obj) (vs:Array Value),L2.Inv X pins σ H s->H a=none->gF X pins a->s.heap.get? a=some oe->oe.data=.fields vs→
 vs[1]?=some .none->oe.cls=.ref C->oe.dict=dx->E (.ref C) dx H->X.xe (.ref a) s
theorem JU:xj (ba (FP P w) P w K mg base N qual scope f cd A outer s H E) E:=by
 intro pins σ H1 s1 a C dx oe vs I ha na hx hd h1 hc hdx hE;show Rj (Ro P w) _ (Z2 _ _) _ _ s1;unfold Z2;refine QR (L3 Z I Z Z Z ha na hx hd h1 hc hdx λs3 T' I3 nT' hT' tr'=>?_);exact⟨a,C,T',dx,H1,Z,I3.os,I3.bare,I3.base,I3.hok,na.st,nT'.st,ha,hT',tr',hE⟩
theorem Fun.okD{x:RF}{st:Stmt}{fd:QU}{ps:List RF}{k:Nat}{sp:Sp}(F:Fun K x qual st f fd)(S:av N ps (ak st))(len:∀vs H Q E,sp vs H Q E->vs.length=ps.length)
  (hbody:∀(cdv:Value) (A:RK) (outer:List ZU) (s:QQ) (H:Hp) (vs:List V) (Q:VK) (E:XK),cA k (A.deeper (Xo qual (ak st) s.heap.objs.size f cdv))->sp vs H Q E→
   ∃t,tZ (ba (FP P w) P w K mg base N qual (ak st) f cdv A outer s H E) (cY st) t/\t { nx:=λ_ H'=>Q .non H',rt:=Q} (start N vs) H):aP P w K mg base (FP P w) (k+1) f fd ps sp:=by
 obtain⟨oc,od,kV,doc,pm,an,cdv,ct,osl,rfl,lk,hcd⟩:=F.ex;exact Fd lk hcd S len λA outer s H vs Q E hr hsp=>hbody cdv A outer s H vs Q E hr hsp
end
section
variable {X:Cx}{k:Nat}{f C:Addr}{fd:QU}{ps:List RF}{sp:Sp}{bm:List Value}
def xK(C:Addr)(sp:Sp)(E:XK)(t:TA):TS:=λ_ σ H=>t σ H λvs H1=>vs.length≤sizeLine/\∀a,H1 a=none->sp (.ref a::vs) (upd H1 a (rh a C none)) (λv H2=>v=.non/\∃dx,H2 a=some (rh a C dx)/\E (.ref C) dx (Fk H2 a)) E0
theorem zO{x:RF}{p cpos pos:Uh}{e:RP}{es:List RP}{t:TA}{E:XK}(M:XC X.K C f bm)(hbase:bm.contains (.type "BaseException")=true)(hex:X.ex=[])(tk:xj X E)(F:aP X.prog X.w X.K X.mg X.base c5 k f fd ps sp)(hr:cA (k+1) X.A)(hb:aI X.K fd ps [])
  (hg:Gl X x) (hm:X.mg x=some (.ref C)) (ha:PA X (e::es) t) (hdb:(x==("__debug__" : RF))=false:=by decide) (he:Q6 (e::es) X.env=(false,eval e X.env)::Q6 es X.env:=by rfl) (hpl:(Te cpos (Q6 es X.env)).any (·.1)=false:=by rfl) :
  PS X (.Raise (some (.Call (.Name x p) (e::es) [] cpos)) none pos) (xK C sp E t):=by
 intro pins s σ H D I h;obtain⟨nm,q,N,bs,hdct,sn,sub,ab,col,dd,k0,k1,k2,k3,k5,lk⟩:=M.ob;rw[arm_exec_Raise];refine QR (Vt (zI (C:=C) (bm:=bm) (nm:=nm) (q:=q) (N:=N) (bs:=bs) (hdct:=hdct) (sn:=sn) (sub:=sub) (ab:=ab) (col:=col) (dd:=dd) (k0:=k0) (k1:=k1) (k2:=k2) (k3:=k3) (k5:=k5) (newId := "ValueError.__new__") hbase hr.hd ?_));refine QR (SA (Q:=λv s'=>∃a H',v=.ref a/\gF X pins a/\L2.Inv X pins σ H' s'/\∃dx,H' a=some (rh a C dx)/\E (.ref C) dx (Fk H' a)) ?_ (λv s1 h1=>QR (Vt (wpAny_pure ?_))) λ_ _ y=>y)
 ·refine Ub (kW I hg hm ?_ hdb);refine VF (h₀:=X.base) I.ok.mod.kin M.kp (bQ (ha cpos pins s σ H _ I h) λus s1 ⟨vs,H1,I1,r,hz,q⟩=>⟨I1.kIn,?_⟩) he hpl;exact Gg M hex F hr hb I1 (us:=[]++us) r (by rw[U3,←r.length];exact hz) q
 ·obtain⟨a,H',rfl,na,I1,dx,hx,hE⟩:=h1;obtain⟨tt,ho⟩:=(show L2.ObjOk X.prog X.w H' s1.heap a (rh a C dx) from I1.hok a _ hx).1;exact⟨a,tt,dx,Z,I1.kIn _ _ lk,ho,tk pins σ (Fk H' a) s1 a C dx _ _ (B.Inv.forget I1 hx na.st) pS na ho Z Z Z Z hE⟩
end
abbrev RX:=Addr->Option Addr->Hp->Prop
def P3(X:Cx)(pins:List (Addr×Obj))(R:RX):Value->QQ->Prop:=λe s=>∃(x C T:Addr) (dx:Option Addr) (H:Hp),e=.ref x/\L2.Inv X pins (OB X.N) H s/\H x=none/\gF X pins x/\H T=none/\gF X pins T/\lJ s.heap x C T dx .none/\R C dx H
def jU(X:Cx)(pins:List (Addr×Obj))(R:RX):Cx:={ X with pn:=X.pn++pins,xe:=P3 X pins R}
section
variable {X:Cx}{pins pins':List (Addr×Obj)}{σ:L2.St}{H:Hp}{s:QQ}{R:RX}{e:Addr}
theorem JT(I:L2.Inv X pins σ H s):L2.Inv (jU X pins R) [] σ H s:=
 ⟨⟨I.ok.mod,I.ok.kind,I.ok.glob,I.ok.blt,I.ok.above,I.ok.inj,I.ok.has,I.ok.cab,I.ok.hd,I.ok.frames,I.ok.stk,I.ok.exf,I.ok.bs,I.ok.bsz,I.ok.noex,I.ok.exfs,I.ok.funs,I.ok.frf⟩,I.os,I.bare,I.base,I.loc,I.cell,I.free,I.freeC,
  λp hp=>I.pin p (by rw[R7] at hp;exact hp),I.hok,I.len⟩
theorem ofTryD(I:L2.Inv (jU X pins R) pins' σ H s):L2.Inv X pins σ H s:=
 ⟨⟨I.ok.mod,I.ok.kind,I.ok.glob,I.ok.blt,I.ok.above,I.ok.inj,I.ok.has,I.ok.cab,I.ok.hd,I.ok.frames,I.ok.stk,I.ok.exf,I.ok.bs,I.ok.bsz,I.ok.noex,I.ok.exfs,I.ok.funs,I.ok.frf⟩,I.os,I.bare,I.base,I.loc,I.cell,I.free,I.freeC,
  λp hp=>I.pin p (RN _ hp),I.hok,I.len⟩
def P4(R:RX):XK:=λv dx H=>∃C,v=.ref C/\R C dx H
theorem Lf(hex:X.ex=[]):eZ (FP X.prog X.w) (jU X pins R) (P4 R):=by
 intro pins' σ H1 s1 e s2 I hx;obtain⟨x,C,T,dx,H2,rfl,ho,hb,un,hok,nx,nT,hx2,hT2,tr,C',e',hr⟩:=hx
 cases e'
 have na:=B.Inv.newAt I hex nx;have nt:=B.Inv.newAt I hex nT;have I2:L2.Inv (jU X pins R) pins' σ H2 s2:=I.call' ho un hok hb (λb hb=>by cases hb);exact⟨x,C,T,dx,H2,Z,E1 (ofTryD I2),hx2,⟨na.st,na.lo,na.ce,λp hp=>na.pi p (RN _ hp),na.fr⟩,hT2,⟨nt.st,nt.lo,nt.ce,λp hp=>nt.pi p (RN _ hp),nt.fr⟩,tr,hr⟩
theorem SP.ofTryD(h:SP (jU X pins R) [] D f s):SP X pins D f s:=by
 cases f with
 |next=>obtain⟨σ',H',I,q⟩:=h;exact⟨σ',H',B.ofTryD I,q⟩
 |brk=>obtain⟨σ',H',I,q⟩:=h;exact⟨σ',H',B.ofTryD I,q⟩
 |cont=>obtain⟨σ',H',I,q⟩:=h;exact⟨σ',H',B.ofTryD I,q⟩
 |ret u=>obtain⟨v,σ',H',I,r,q⟩:=h;exact⟨v,σ',H',B.ofTryD I,r,q⟩
end
def IL(N:List RF)(R:RX)(Ok:Addr->Prop)(tb th:TS):TS:=λD σ H=>tb D σ H/\∀C dx H',R C dx H'->Ok C/\th D (OB N) H'
section
variable {X:Cx}{R:RX}{body:List Stmt}{b₀:Stmt}{suite:List Stmt}{x:RF}{p hpos pos:Uh}{u:Value}{tb th:TS}
theorem JQ(t:lJ h a C T dx fl):TX M h (typeOf (.ref a)) (.ref C):=by
 obtain⟨oe,_,_,_,q1,q2,_⟩:=t;rw[←q2];exact(TX.ld q1).andThen .now
theorem GH(hex:X.ex=[])(hst:X.stack=X.env::X.outer)(hfr:X.env.frame=some X.env.locals)(hg:Gl X x)(hm:X.mg x=some u)(hb:∀pins,tZ (jU X pins R) body tb)(hs:∀e,tZ (qW X e) (b₀::suite) th)(hd:(x==("__debug__" : RF))=false:=by decide) :
  PS X (.Try body [.ExceptHandler (some (.Name x p)) none (b₀::suite) hpos] [] [] pos) (IL X.N R (λC=>Yq X.K (.ref C) u=some true) tb th):=by
 intro pins s σ H D I ⟨h1,h2⟩;refine wpAny_Try_except (SA (hb pins [] s σ H D (JT I) h1) (λf s1 q=>?_) λe s1 q=>?_)
 ·have q':=SP.ofTryD q
  cases f with
  |next=>exact Vy q'
  |brk=>exact q'
  |cont=>exact q'
  |ret u=>exact q'
 ·obtain⟨a,C,T,dx,H1,rfl,I1,ha,na,hT,nT,tr,hR⟩:=q;obtain⟨hk,hth⟩:=h2 C dx H1 hR;refine Eo Z I1 hex hst hfr ha na hT nT tr λs2 T2 I2 nT2 hT2 tr2=>?_
  refine wpAny_handleBy_cons (codeAny_handlers_test ?_) (by intro z;cases z);refine kW (X:=qW X a) (IK I2) hg hm ?_ hd;refine UU (s:=s2) (PySem.W.exm_one (M:=Ro X.prog X.w) I2.kIn (JQ tr2) hk) ?_;refine codeAny_handlers_suite ?_;refine Mw I2 hT2 nT2 tr2 λs3 I3 tr3=>?_
  refine SA (hs a pins s3 (OB X.N) H1 D (IK I3) hth) (λf s4 q4=>SP.ofExc I.ok q4) λ_ _ z=>z.elim
end
section
variable {X:Cx}{pins:List (Addr×Obj)}{σ:L2.St}{H:Hp}{s:QQ}{a C d:Addr}{fs:List (RF×V)}
end
theorem xI{X:Cx}{pins:List (Addr×Obj)}{σ:L2.St}{H:Hp}{s:QQ}{h':Ra}{t':Nat}{fp:List Addr}(I:Inv X pins σ H s)
  (k:∀b o,b∉fp->s.heap.get? b=some o->h'.get? b=some o) (hf:∀b∈fp,gc X pins H b):Inv X pins σ H { s with heap:=h',toks:=t'}:=by
 have off:∀b u,H b=some u->b∉fp:=λb u e z=>by rw[(hf b z).1] at e;cases e
 refine I.step (g':=s.gens) (d':=s.drawn) (ch:=fp) (λb hb=>?_) (λb o _ _ hc e _=>k b o hc e) (λb o _ _ hc e _=>⟨o.slots,k b o hc e⟩) (λ_ _ _ _ n=>n)
  (λb o hc e=>⟨o,k b o hc e⟩) (λ_ _ e=>e) (λ_ _ _ e=>e) (λb ps e=>⟨#[],by rw[e];simp⟩) (λm hm=>?_) (λb u e=>?_) I.bare
 ·obtain⟨_,f1,_,f3,f4,f5⟩:=hf b hb;exact⟨f3,f1,f4,f5⟩
 ·obtain⟨o,es,ep,ho,r⟩:=hm;exact⟨o,es,ep,k _ o (λz=>(hf _ z).2.1 Z) ho,r⟩
 ·refine(I.hok b u e).stay (λc v hc q=>k c v ?_ q) (λ_ q=>q) λ_ _ q=>q
  grind
section
variable {prog:Rz}{w:RS}{A:RK}{E:Value->QQ->Prop}{s:QQ}
end
theorem xH{X:Cx}{pins:List (Addr×Obj)}{σ:L2.St}{H:Hp}{s:QQ}{h':Ra}{t':Nat}{fp:List Addr}{p:Addr}{v:HO}(I:Inv X pins σ H s)
  (k:∀b o,b∉fp->s.heap.get? b=some o->h'.get? b=some o) (hf:∀b∈fp,gc X pins H b) (hp:s.heap.objs.size≤p) (new:ObjOk X.prog X.w (upd H p v) h' p v) :
  Inv X pins σ (upd H p v) { s with heap:=h',toks:=t'}:=by
 have off:∀b u,H b=some u->b∉fp:=λb u e z=>by rw[(hf b z).1] at e;cases e
 have hn:H p=none:=I.hok.fresh hp;have old:∀b u,H b=some u->upd H p v b=some u:=λb u e=>by rw[ai (au e hn)];exact e
 refine I.step (g':=s.gens) (d':=s.drawn) (ch:=fp) (λb hb=>?_) (λb o _ _ hc e _=>k b o hc e) (λb o _ _ hc e _=>⟨o.slots,k b o hc e⟩) (λb o _ e n=>?_)
  (λb o hc e=>⟨o,k b o hc e⟩) (λb xs e=>old b _ e) (λb o u e=>old b _ e) (λb ps e=>⟨#[],by rw[old b _ e];simp⟩) (λm hm=>?_) (λb u e=>?_) I.bare
 ·obtain⟨_,f1,_,f3,f4,f5⟩:=hf b hb;exact⟨f3,f1,f4,f5⟩
 ·rw[ai (RZ (Q7 (Re e) hp))];exact n
 ·obtain⟨o,es,ep,ho,r⟩:=hm;exact⟨o,es,ep,k _ o (λz=>(hf _ z).2.1 Z) ho,r⟩
 ·by_cases hb:b=p
  ·subst hb;rw[aa] at e;cases e;exact new
  ·rw[ai hb] at e;refine(I.hok b u e).stay (λc v hc q=>k c v ?_ q) (λc q=>old c _ q) λc xs q=>old c _ q
   grind
abbrev zA(h:Ra)(a:Addr):Ra:=h.push { cls:=.type "tuple_iterator",data:=.fields #[.ref a,.int 0 0]}
abbrev zB(h:Ra)(a b:Addr):Ra:=zA (zA h a) b
abbrev zC(h:Ra)(a b:Addr):Ra:=(zB h a b).push { cls:=.type "tuple",data:=.seq #[.ref h.objs.size,.ref (zA h a).objs.size]}
abbrev zD(h:Ra)(a b:Addr):Ra:=(zC h a b).push { cls:=.type "tuple",data:=.seq #[.none,.none]}
abbrev zE(h:Ra)(a b:Addr):Ra:=(zD h a b).push { cls:=.type "zip",data:=.fields #[.none,.bool false,.bool false,.ref (zB h a b).objs.size,.ref (zC h a b).objs.size]}
theorem Gc{X:Cx}{pins:List (Addr×Obj)}{σ:L2.St}{H:Hp}{s:QQ}{a b:Addr}{xs:List V}(I:Inv X pins σ H s)(h:aJ X.K H a xs)(f:gc X pins H b):a≠b:=λz=>by
 subst z;rcases h with(h | ⟨o,h⟩) | ⟨o,its,n,hk,_⟩
 ·rw[f.1] at h;cases h
 ·rw[f.1] at h;cases h
 ·have e:=I.ok.mod.kin a o hk;rcases f.2.2.2.1 with z|z
  ·exact I.ok.noex a o e z
  ·rw[(I.ok.bs a o e).1] at z;cases z
theorem wJ{h h':Ra}(x:h.IsListIter i a n)(k:∀o,h.get? i=some o->h'.get? i=some o):h'.IsListIter i a n:=x.at k
structure Qs(K:QJ)(sq:Hp->Addr->List V->Prop)(tn:Ra->Addr->Addr->Nat->Prop)(st:Ra->Addr->Array Value->Prop):Prop where
 ob:∀{h i a n},tn h i a n->∃o,h.get? i=some o/\∀v,o.data≠.cell v
 at_:∀{h h' i a n},tn h i a n->(∀o,h.get? i=some o->h'.get? i=some o)->tn h' i a n
 off:∀{X:Cx} {pins:List (Addr×Obj)} {σ:L2.St} {H:Hp} {s:QQ} {a b:Addr} {xs:List V},X.K=K->Inv X pins σ H s->sq H a xs->gc X pins H b->a≠b
 rd:∀{X:Cx} {pins:List (Addr×Obj)} {σ:L2.St} {H:Hp} {s:QQ} {a:Addr} {xs:List V},X.K=K->Inv X pins σ H s->sq H a xs->(∀ys,sq H a ys->ys=xs)/\∃its:List Value,aW xs its/\st s.heap a its.toArray
 dr:∀{prog:Rz} {w:RS} {A:RK},A.handled=none->∀it a:Addr,a≠it->∀items:Array Value,Draws prog w A it [it,a] items.size (λi v=>items[i]?=some v) (λi h=>tn h it a i/\st h a items)
 en:∀{prog:Rz} {w:RS} {A:RK} {s:QQ} {it a:Addr} {i:Nat} {items:Array Value} {Q E:Value->QQ->Prop},A.handled=none->tn s.heap it a i->st s.heap a items->items[i]?=none→
  (∀h' e,Ra.ExtBut it s.heap h'->(∃o,h'.get? e=some o/\o.cls=.type "StopIteration")->E (.ref e) { s with heap:=h'})->Rj (Ro prog w) A (R9.SmallTypes.nextOf (.ref it)) Q E s
theorem PD(K:QJ):Qs K (aJ K) (λh i a n=>h.IsListIter i a n) (λh a xs=>h.IsList a xs) where
 ob:=λ⟨o,h,_,d⟩=>⟨o,h,λv q=>by rw[d] at q;cases q⟩
 at_:=wJ
 off:=λe I h f=>Gc I (e▸h) f
 rd:=λe I h=>by subst e;exact⟨λys h'=>I.list_inj h' h,let ⟨its,rv,p,_⟩:=I.list h;⟨its,rv,p.isList⟩⟩
 dr:=Draws.list
 en:=wpAny_nextOf_list_end
def OY(sq:Hp->Addr->List V->Prop)(a:Addr):It:=
 ⟨λi H=>∃xs x,sq H a xs/\xs[i]?=some x,
  λi H v H'=>∃p x,H p=none/\v=.ref p/\H'=upd H p (.tup [.int i,x])/\∀xs,sq H a xs->xs[i]?=some x,
  λi H=>∃xs,sq H a xs/\xs.length≤i⟩
abbrev OX(K:QJ)(a:Addr):It:=OY (aJ K) a
theorem A3{P:Rz}{w:RS}{K:QJ}{sq:Hp->Addr->List V->Prop}{tn:Ra->Addr->Addr->Nat->Prop}{st_:Ra->Addr->Array Value->Prop}(G:Qs K sq tn st_){elts:List RP}{x1}{pos:Uh}{e it a:Addr}(hei:e≠it) :
  xi P w K (.Tuple elts x1 pos) (OY sq a) [e,it] e (λi h=>(∃old,IsEnum h e it (i:Nat) old)/\tn h it a i) where
 mem:=by simp
 obj:=λi h st c hc=>by
  obtain⟨⟨old,h1⟩,h2⟩:=st;obtain⟨o2,h2,d2⟩:=G.ob h2;grind
 keep:=λi h h' st k=>by
  obtain⟨⟨old,h1⟩,h2⟩:=st;exact⟨⟨old,k e (by simp) _ h1⟩,G.at_ h2 λo q=>k it (by simp) o q⟩
 item:=by
  intro X hP hw hK hc i pins s σ H E I hf st hg;subst hP hw;obtain⟨xs,x,q1,hx⟩:=hg;obtain⟨uq,its,rv,p1⟩:=G.rd hK I q1;obtain⟨u,hu,ru⟩:=rv.get hx;have off:∀c∈[e,it],a≠c:=λc hc=>G.off hK I q1 (hf c hc)
  obtain⟨⟨old,h1⟩,h2⟩:=st;have hh:X.A.in1.handled=none:=I.ok.hd hc;have na:a≠it:=off it (by simp);have ne:e∉[it,a]:=λq=>by
   simp only[Rm,UK,or_false] at q;rcases q with q|q
   ·exact hei q
   ·exact off e (by simp) q.symm
  have hi:i<its.toArray.size:=by have:=(QN.mp hu).1;simpa using this
  have el:e<s.heap.objs.size:=Re h1;have il:it<s.heap.objs.size:=by obtain⟨o2,q2,_⟩:=G.ob h2;exact Re q2
  refine wpAny_pyNext_enum_itemD (G.dr hh it a na its.toArray) h1 ⟨h2,p1⟩ hi hei ne λv h' tk hv eo st' tup hz hk=>⟨_,Z,wpAny_letOwnedTupleGo_enum eo λh'' e2 sb=>?_⟩
  have ev:v=u:=by
   have:its.toArray[i]?=some u:=by simpa using hu
   rw[this] at hv;exact(R6 hv).symm
  subst ev;have nt:s.heap.objs.size≠e:=Ur el;have ni:s.heap.objs.size≠it:=Ur il;have P:ObjOk X.prog X.w (upd H s.heap.objs.size (.tup [.int i,x])) h'' s.heap.objs.size (.tup [.int i,x]):=
   ⟨by show 2≤sizeLine;decide,[.int i tk,v],.cons ⟨_,Z⟩ (.cons ru .nil),⟨_,sb.extBut _ _ nt tup,Z,_,Z⟩⟩
  have I2:Inv X pins σ (upd H s.heap.objs.size (.tup [.int i,x])) { s with heap:=h'',toks:=tk+1}:=xH I (λc o' n q=>by
   have n1:c≠e:=λr=>n (by simp[r])
   have n2:c≠it:=λr=>n (by simp[r])
   exact sb.extBut _ _ n1 (hk c o' n1 n2 q)) hf (QY _) P
  refine⟨.ref s.heap.objs.size,_,I2,Z,⟨_,x,I.fresh,Z,Z,λys hy=>by rw[uq ys hy];exact hx⟩,⟨⟨_,by simpa using e2⟩,G.at_ st'.1 λo q=>sb.extBut _ _ hei.symm q⟩,λc hc=>?_⟩;have lt:c<s.heap.objs.size:=by
   simp only[Rm,UK,or_false] at hc;rcases hc with rfl|rfl
   ·exact el
   ·exact il
  rw[ai (RZ lt)];exact(hf c hc).1
 done:=by
  intro X hP hw hK hc i pins s σ H E I hf st hg;subst hP hw;obtain⟨xs,q1,hx⟩:=hg;obtain⟨uq,its,rv,p1⟩:=G.rd hK I q1;have off:∀c∈[e,it],a≠c:=λc hc=>G.off hK I q1 (hf c hc)
  obtain⟨⟨old,h1⟩,h2⟩:=st;have hh:X.A.in1.handled=none:=I.ok.hd hc;have hl:=rv.length;have nn:its.toArray[i]?=none:=by rw[Array.getElem?_eq_none_iff];simp;lia
  have hT:s.TypeIs (.ref e) "enumerate" := ⟨_,h1,Z⟩;unfold pyNext;refine QR (wpAny_attempt (XF (name:=UW "__next__") hT F.slot_enumerate_next (XG F.slot_enumerate_next hT F.entry_enumerate_next ?_ (F.args_enumerate_next_1 _))))
  show Rj _ _ (field (.ref e) 2 >>= _) _ _ _;refine QR (Vd h1 Z (x:=.ref it) Z ?_);refine QR (G.en hh h2 p1 nn λh' x he' hx'=>?_);obtain⟨o,ho,hcl⟩:=hx';refine QR (wpAny_isInstance (T := "StopIteration") (b:=true) ⟨o,ho,hcl⟩ isSubtype_stop ?_);refine wpAny_pure ⟨Z,?_⟩;exact xI (t':=s.toks) I (λc o' n q=>he' c o' (λr=>n (by simp[r])) q) hf
 self:=λA i s Q E st h=>by
  obtain⟨⟨old,h1⟩,_⟩:=st;exact Zr h1 h
def Ov(K:QJ)(ta:TA):TI:=λσ H R=>ta σ H λvs H1=>∃a,vs=[.ref a]/\(∃xs,aJ K H1 a xs)/\R (OX K a) H1
theorem DR{X:Cx}{elts:List RP}{x1}{tp p pos:Uh}{a:RP}{ta:TA}(hg:Gl X "enumerate")(hm:X.mg "enumerate"=none)(ha:PA X [a] ta)(hs:Q6 [a] X.env=[(false,eval a X.env)]:=by rfl) :
  PI X (.Tuple elts x1 tp) (.Call (.Name "enumerate" p) [a] [] pos) (Ov X.K ta):=by
 intro pins s σ H R I h;refine Call_ (iW I hg hm (show TN "enumerate"=some (.type "enumerate") by kernel_rfl) (Td (bQ (ha pos pins s σ H _ I h) λus s1 ⟨vs,H1,I1,r1,q1⟩=>?_) hs Z));obtain⟨a,e,⟨xs,hx⟩,q⟩:=q1;subst e;obtain⟨u,rfl,ru⟩:=r1.one
 cases ru
 obtain⟨its,_,p1,_⟩:=I1.list hx;refine call_enumerate_list p1.isList λh' he hi sz kk=>Zr he ?_
 have I2:Inv X pins σ H1 { s1 with heap:=h'}:=I1.kept (t':=s1.toks) kk;refine⟨_,[s1.heap.objs.size+1,s1.heap.objs.size],_,_,H1,rfl,I2,A3 (PD _) (a:=a) (Nat.succ_ne_self _),⟨⟨_,he⟩,hi⟩,λc hc=>?_,q⟩;have le:s1.heap.objs.size≤c:=by
  grind
 exact I1.fpOk le (I1.hok.fresh le)
section
variable {prog:Rz}{w:RS}{A:RK}{E:Value->QQ->Prop}
end
section
variable {prog:Rz}{w:RS}{A:RK}{E:Value->QQ->Prop}{s:QQ}
end
end B
namespace B
theorem Mc(hb:0<b)(hd:0<d)(e:a*d=c*b):cJ a b=cJ c d:=by
 have hr:=dy (a:=c) hd;have hc:=eW (a:=c) hd;generalize cJ c d=m at hr hc ⊢;refine dG hb hr.pos hr.cop ?_;refine Ve (show d≠0 by lia) ?_;grind
structure Bq(D N:Nat)(r:R):Prop where
 pos:0<r.2
 cop:Rf r.1 r.2=1
 dvd:r.2∣(D:Int)
 le:r.1.natAbs≤N*r.2.natAbs
theorem Bq.red(h:Bq D N r):de r:=⟨h.pos,h.cop⟩
theorem pU{D N:Nat}{a b:Int}(hb:0<b)(hd:b∣(D:Int))(hl:a.natAbs≤N*b.natAbs):Bq D N (cJ a b):=by
 obtain⟨g,x,y,e0,gp,e1,e2,c⟩:=fO (a:=a) hb;have yp:=jS hb gp e2;have e:cJ a b=(x,y):=by
  unfold cJ;rw[e0,show a/g=x by rw[e1];exact Ru _ ω,show b/g=y by rw[e2];exact Ru _ ω]
 rw[e];refine⟨yp,c,Uz ⟨g,by rw[e2,TR]⟩ hd,?_⟩;rw[e1,e2,Tk,Tk] at hl;have gn:0<g.natAbs:=ω
 refine Nat.le_of_mul_le_mul_left (c:=g.natAbs) ?_ gn;grind
theorem Bq.mono(h:Bq D N r)(hd:D∣D')(hn:N≤N'):Bq D' N' r:=
 ⟨h.pos,h.cop,Uz h.dvd (Int.ofNat_dvd.mpr hd),RC h.le (Tc _ hn)⟩
theorem Bq.plus(hD:0<D)(h:Bq D N r)(k:Bq D M q):Bq D (N+M) (aK r q):=by
 obtain⟨y,ey⟩:=h.dvd;obtain⟨v,ev⟩:=k.dvd;have dp:(0:Int)<(D:Int):=ω
 have e:aK r q=cJ (r.1*y+q.1*v) (D:Int):=by
  unfold aK;refine Mc (RG h.pos k.pos) dp ?_;grind
 rw[e];refine pU dp (WH _) ?_;have b1:(r.1*y).natAbs≤N*D:=by
  have:(D:Int).natAbs=r.2.natAbs*y.natAbs:=by rw[ey,Tk]
  rw[Tk];have z:=Tc y.natAbs h.le;rw[Nat.mul_assoc,←this] at z
  simpa using z
 have b2:(q.1*v).natAbs≤M*D:=by
  have:(D:Int).natAbs=q.2.natAbs*v.natAbs:=by rw[ev,Tk]
  rw[Tk];have z:=Tc v.natAbs k.le;rw[Nat.mul_assoc,←this] at z
  simpa using z
 have b3:=Zn (r.1*y) (q.1*v);have b4:(D:Int).natAbs=D:=YV D;rw[b4,Nat.add_mul];lia
theorem Bq.neg(h:Bq D N r):Bq D N (-r.1,r.2):=⟨h.pos,by show Rf (-r.1) r.2=1;rw[Int.neg_gcd];exact h.cop,h.dvd,by show(-r.1).natAbs≤_;rw[VS];exact h.le⟩
theorem Bq.minus(hD:0<D)(h:Bq D N r)(k:Bq D M q):Bq D (N+M) (aA r q):=by
 rw[←uN];exact h.plus hD k.neg
theorem Bq.times(h:Bq D N r)(k:Bq E M q):Bq (D*E) (N*M) (aC r q):=by
 refine pU (RG h.pos k.pos) ?_ ?_
 ·rw[ZY];exact Int.mul_dvd_mul h.dvd k.dvd
 ·rw[Tk,Tk];have z:=Nat.mul_le_mul h.le k.le;grind
theorem yD(ha:0<a)(hb:0<b):0<(cJ a b).1:=Uc ha (Ry (bL hb)) (ZK a b)
theorem Bq.bot(hD:0<D)(h:Bq D N r):r.2.natAbs≤D:=by
 have:=U6.mpr h.dvd;rw[YV] at this;exact Nat.le_of_dvd hD this
theorem Bq.wf(h:Bq D N r)(hD:0<D)(h1:D<2^n)(h2:N*D<2^n):Wf n r:=
 ⟨h.pos,RH (RC h.le (UC _ (h.bot hD))) h2,RH (h.bot hD) h1,h.cop⟩
theorem gZ:aL r q=true↔r.1*q.2<q.1*r.2:=by unfold aL;exact decide_eq_true_iff
theorem fy:aL r q=false↔q.1*r.2≤r.1*q.2:=by unfold aL;rw[decide_eq_false_iff_not,Int.not_lt]
theorem Oq(pa:0<a.2)(pb:0<b.2)(pc:0<c.2)(h:aL a b=true)(k:aL c b=false):aL a c=true:=by
 rw[gZ] at h ⊢;rw[fy] at k;have h1:=TQ h pc;have k1:=SR k (Ry pa);have e1:b.1*a.2*c.2=b.1*c.2*a.2:=by ac_rfl
 have z:a.1*b.2*c.2<c.1*b.2*a.2:=ω
 refine WW (a:=b.2) ?_ (Ry pb);grind
theorem Jq(pa:0<a.2)(pb:0<b.2)(pc:0<c.2)(h:aL b a=false)(k:aL b c=true):aL a c=true:=by
 rw[gZ] at k ⊢;rw[fy] at h;have h1:=SR h (Ry pc);have k1:=TQ k pa;have e1:b.1*a.2*c.2=b.1*c.2*a.2:=by ac_rfl
 refine WW (a:=b.2) ?_ (Ry pb);grind
theorem jq(h:aL a b=true):aL b a=false:=by
 rw[gZ] at h;rw[fy];lia
theorem Mb(ha:0≤a):0≤(cJ a b).1:=TL ha ω
theorem GS(hr:de r)(hq:de q)(h1:0≤r.1)(h2:0≤q.1):0≤(aK r q).1:=
 Mb (Int.add_nonneg (Vf h1 (Ry hq.pos)) (Vf h2 (Ry hr.pos)))
theorem Ey(hr:de r)(hq:de q)(h:aL q r=true):(aA r q).1≠0:=λz=>by
 have bp:=RG hr.pos hq.pos;have c:=eW (a:=r.1*q.2-q.1*r.2) bp;have p:=(dy (a:=r.1*q.2-q.1*r.2) bp).pos;rw[show(cJ (r.1*q.2-q.1*r.2) (r.2*q.2)).1=0 from z,Int.zero_mul] at c;rw[gZ] at h;have:=RG (show 0<r.1*q.2-q.1*r.2 by lia) p;lia
theorem yA:aL r (0,1)=false↔0≤r.1:=by
 rw[fy];lia
end B
namespace B
open PySem PySem.Spec L2 PyProof.Rows
inductive Rl where
 |pow (k:Int)
 |tab (rows:List (R×R))
def jx:R×R:=((0,1),(0,1))
def bu(lo hi:R×R):R:=d6 (aA hi.2 lo.2) (aA hi.1 lo.1)
def AQ(rows:List (R×R))(k:Nat):R:=bu (rows.getD k jx) (rows.getD (k+1) jx)
def cO(rows:List (R×R))(s:R):Nat:=rows.countP λr=>aL r.1 s
def FK(rows:List (R×R))(s:R):Nat:=rows.countP λr=>!aL s r.1
def jF(rows:List (R×R))(s:R):R:=if cO rows s=0 then(0,1) else AQ rows (cO rows s-1)
def cN(rows:List (R×R))(s:R):Option R:=if FK rows s<rows.length then some (AQ rows (FK rows s-1)) else none
def jR(k:Int)(s:R):R:=aC (k,1) (dN s (k-1).toNat)
def sH:Rl->R->R×Option R
 | .pow k,s=>(jR k s,some (jR k s))
 | .tab rows,s=>(jF rows s,cN rows s)
def Pg(rows:List (R×R)):Prop:=rows.Pairwise λa b=>aL a.1 b.1=true
def FJ(rows:List (R×R)):Prop:=∀r∈rows,0<r.1.2
theorem jc{s:R}(hs:0<s.2):∀{rows:List (R×R)},Pg rows->FJ rows->∀{k:Nat} {r:R×R},rows[k]?=some r->aL r.1 s=decide (k<cO rows s)
 | [],_,_,k,r,e=>by simp at e
 |x::t,hi,hp,k,r,e=>by
  have hi':=SN.mp hi;have hpt:FJ t:=λy hy=>hp y (QX _ hy)
  unfold cO
  cases c:aL x.1 s with
  |true=>
   rw[XI (p:=λr:R×R=>aL r.1 s) c]
   cases k with
   |zero=>
    simp at e;rw[←e,c];simp
   |succ k=>
    rw[jc hs hi'.2 hpt (k:=k) (by simpa using e)];unfold cO;simp
  |false=>
   have z:t.countP (λr=>aL r.1 s)=0:=by
    rw[Wu];intro y hy;have h1:=hi'.1 y hy;have h2:aL s y.1=true:=Jq hs (hp x QV) (hpt y hy) c h1;rw[jq h2];simp
   rw[List.countP_cons_of_neg (by rw[c];simp),z]
   cases k with
   |zero=>simp at e;rw[←e,c];simp
   |succ k=>
    have my:r∈t:=QL (i:=k) (by simpa using e);have:=(Wu.mp z) r my;simp at this;rw[this];simp
theorem yW{s:R}(hs:0<s.2):∀{rows:List (R×R)},Pg rows->FJ rows->∀{k:Nat} {r:R×R},rows[k]?=some r->aL s r.1=decide (FK rows s≤k)
 | [],_,_,k,r,e=>by simp at e
 |x::t,hi,hp,k,r,e=>by
  have hi':=SN.mp hi;have hpt:FJ t:=λy hy=>hp y (QX _ hy)
  unfold FK
  cases c:aL s x.1 with
  |false=>
   rw[XI (by rw[c];rfl)]
   cases k with
   |zero=>
    simp at e;rw[←e,c];simp
   |succ k=>
    rw[yW hs hi'.2 hpt (k:=k) (by simpa using e)];unfold FK;simp
  |true=>
   have all:∀y∈t,aL s y.1=true:=λy hy=>Oq hs (hp x QV) (hpt y hy) c (jq (hi'.1 y hy))
   have z:t.countP (λr=>!aL s r.1)=0:=by
    rw[Wu];intro y hy;rw[all y hy];simp
   grind
abbrev D0:Nat:=15619184301399823400256000
abbrev N1:Nat:=8192
abbrev NR:Nat:=11000
abbrev N2:Nat:=536870912
structure bg(rows:List (R×R)):Prop where
 n2:2≤rows.length
 n12:rows.length≤12
 inc:Pg rows
 zero:∃y,rows[0]?=some ((0,1),y)
 sp:∀r∈rows,Bq D0 NR r.1
 pw:∀r∈rows,Bq (D0*D0) N2 r.2
def c7:Rl->Prop
 | .pow k=>2≤k/\k≤4
 | .tab rows=>bg rows
structure jX(s:R):Prop where
 bq:Bq (D0*2) N1 s
 nn:0≤s.1
def bA:Rl->R->Prop
 | .pow _,_=>True
 | .tab rows,s=>∃r,rows[rows.length-1]?=some r/\aL r.1 s=false
theorem jX.wf(h:jX s):Wf 98 s:=h.bq.wf δ δ δ
theorem M3(h:Bq D0 NR r):Wf 98 r:=h.wf δ δ δ
theorem Qc(h:Bq (D0*D0) N2 r):Wf 197 r:=h.wf δ δ δ
theorem bg.allP(h:bg rows):FJ rows:=λr hr=>(h.sp r hr).pos
theorem bg.slope(h:bg rows){i j:Nat}{a b:R×R}(hij:i<j)(ha:rows[i]?=some a)(hb:rows[j]?=some b):
  (aA b.1 a.1).1≠0/\Wf 99 (aA b.1 a.1)/\Wf 198 (aA b.2 a.2)/\Wf 300 (bu a b):=by
 have ma:=QL ha;have mb:=QL hb;have lt:aL a.1 b.1=true:=by
  obtain⟨h1,e1⟩:=QN.mp ha;obtain⟨h2,e2⟩:=QN.mp hb;have:=R8.mp h.inc i j h1 h2 hij;grind
 have ne:=Ey (h.sp b mb).red (h.sp a ma).red lt;have w1:Wf 99 (aA b.1 a.1):=((h.sp b mb).minus δ (h.sp a ma)).wf δ δ δ;have w2:Wf 198 (aA b.2 a.2):=((h.pw b mb).minus δ (h.pw a ma)).wf δ δ δ;exact⟨ne,w1,w2,(Hr w2 w1 ne).mono δ⟩
theorem bS{rows:List (R×R)}(h:rows[k]?=some a):rows.getD k jx=a:=by rw[Q1,h];rfl
theorem oC(ha:rows[k]?=some a)(hb:rows[k+1]?=some b):AQ rows k=bu a b:=by unfold AQ;rw[bS ha,bS hb]
theorem bg.p_lt(h:bg rows)(hs:0<s.2)(hb:bA (.tab rows) s):cO rows s<rows.length:=by
 obtain⟨r,e,c⟩:=hb;have:=jc hs h.inc h.allP e;grind
theorem bg.pq(h:bg rows)(hs:0<s.2)(hn:0≤s.1)(hp:cO rows s<rows.length)(e:rows[cO rows s]?=some r):
  (aL s r.1=true->0<cO rows s/\FK rows s=cO rows s)/\(aL s r.1=false->FK rows s=cO rows s+1):=by
 have c1:=jc hs h.inc h.allP e;have c2:=yW hs h.inc h.allP e;have le:∀k,k<cO rows s->k<FK rows s:=λk hk=>by
  have ek:rows[k]?=some (rows[k]' ω):=QH _;have d1:=jc hs h.inc h.allP ek;have d2:=yW hs h.inc h.allP ek;rw[decide_eq_true hk] at d1;rw[jq d1] at d2;have:=of_decide_eq_false d2.symm;lia
 constructor
 ·intro z;rw[z] at c2;have q:=of_decide_eq_true c2.symm;have pp:0<cO rows s:=by
   rcases Nat.eq_zero_or_pos (cO rows s) with w|w
   ·obtain⟨y,ey⟩:=h.zero;rw[w] at e;rw[ey] at e
    cases e
    have:=yA.mpr hn;rw[z] at this
    cases this
   ·exact w
  refine⟨pp,?_⟩;have:=le (cO rows s-1) ω;lia
 ·intro z;rw[z] at c2;have q:=of_decide_eq_false c2.symm;have up:FK rows s≤cO rows s+1:=by
   by_cases w:cO rows s+1<rows.length
   ·have ek:rows[cO rows s+1]?=some (rows[cO rows s+1]'w):=QH _;have d2:=yW hs h.inc h.allP ek;have lt:aL r.1 (rows[cO rows s+1]'w).1=true:=by
     obtain⟨h1,e1⟩:=QN.mp e;have:=R8.mp h.inc _ _ h1 w (SH _);rw[e1] at this;exact this
    have c1':aL r.1 s=false:=by rw[c1];simp
    have lt2:aL s (rows[cO rows s+1]'w).1=true:=Jq hs (h.allP r (QL e)) (h.allP _ (Ri _)) c1' lt;grind
   ·have:FK rows s≤rows.length:=List.countP_le_length;lia
  lia
theorem Mj(h:2≤k/\k≤4):Wf 3 (k,1):=⟨by show(0:Int)<1;decide,by show k.natAbs<2^3;lia,by show(1:Int).natAbs<2^3;decide,by show Rf k 1=1;simp⟩
theorem yo(h:2≤k/\k≤4)(w:Wf 98 s):Wf 300 (jR k s):=by
 have a:=gP (Mj h) (vR w (k-1).toNat);refine a.mono ?_;lia
def Fx(l:R)(r:Option R)(g:R):Bool:=!aL g l&&(match r with|none=>true|some x=>!aL x g)
end B
namespace B
def val(r:R):Rat:=(r.1:Rat)/(r.2:Rat)
theorem cG{b:Int}(h:0<b):(b:Rat)≠0:=λz=>by
 simp_all
theorem AZ{r:R}{a b:Int}(hr:0<r.2)(hb:(b:Rat)≠0)(h:r.1*b=a*r.2):val r=(a:Rat)/(b:Rat):=by
 have h2:(r.1:Rat)*(b:Rat)=(a:Rat)*(r.2:Rat):=by rw[←S3,←S3,h]
 have h1:=cG hr;unfold val;grind
theorem lT(hb:0<b):val (cJ a b)=(a:Rat)/(b:Rat):=AZ (dy hb).pos (cG hb) (eW hb)
theorem dg(hr:0<r.2)(hq:0<q.2):val (aK r q)=val r+val q:=by
 unfold aK;rw[lT (RG hr hq)];have h1:=cG hr;have h2:=cG hq;unfold val;grind
theorem dt(hr:0<r.2)(hq:0<q.2):val (aA r q)=val r-val q:=by
 unfold aA;rw[lT (RG hr hq)];have h1:=cG hr;have h2:=cG hq;unfold val;grind
theorem cM(hr:0<r.2)(hq:0<q.2):val (aC r q)=val r*val q:=by
 unfold aC;rw[lT (RG hr hq)];have h1:=cG hr;have h2:=cG hq;unfold val;grind
theorem uI{b:Int}(h:b≠0):(b:Rat)≠0:=λz=>h (Vz.mp (by rw[z];rfl))
theorem j9(hr:0<r.2)(hq:0<q.2)(h:q.1≠0):val (d6 r q)=val r/val q:=by
 have hn:r.2*q.1≠0:=Wn ω h;obtain⟨hs,es⟩:=ph (a:=r.1*q.2) hn;unfold d6;rw[AZ hs.pos (uI hn) es];have h1:=cG hr;have h2:=cG hq;have h3:=uI h;unfold val;grind
theorem c8(hr:de r)(hq:de q)(h:val r=val q):r=q:=by
 have h1:=cG hr.pos;have h2:=cG hq.pos;have e:r.1*q.2=q.1*r.2:=by
  refine Vz.mp ?_;rw[S3,S3];unfold val at h;grind
 have e1:cJ r.1 r.2=(r.1,r.2):=dG hr.pos hr.pos hr.cop Z;have e2:cJ r.1 r.2=(q.1,q.2):=dG hr.pos hq.pos hq.cop e.symm;exact e1.symm.trans e2
theorem bX(hr:0<r.2):val r=0↔r.1=0:=by
 have h1:=cG hr;unfold val;constructor
 ·intro h;refine Vz.mp ?_;grind
 ·intro h;rw[h];show((0:Int):Rat)/_=0;rw[show((0:Int):Rat)=0 from Z];generalize (r.2:Rat)=y at *;grind
theorem kQ(hr:0<r.2)(h:q.1≠0):de (d6 r q):=(ph (a:=r.1*q.2) (Wn ω h)).1
theorem eX(hr:0<r.2)(hq:0<q.2):de (aA r q):=dy (RG hr hq)
theorem ED(a0:de a.1)(a1:de a.2)(b0:de b.1)(b1:de b.2)(h:(aA b.1 a.1).1≠0):aK a.2 (aC (bu a b) (aA b.1 a.1))=b.2:=by
 have m0:=eX b0.pos a0.pos;have m1:=eX b1.pos a1.pos;have so:=kQ (r:=aA b.2 a.2) m1.pos h;have st:=eP so m0;refine c8 (kN a1 st) b1 ?_;unfold bu;rw[dg a1.pos st.pos,cM so.pos m0.pos,j9 m1.pos m0.pos h,dt b1.pos a1.pos];have hz:val (aA b.1 a.1)≠0:=λz=>h ((bX m0.pos).mp z)
 grind
theorem Ac(ha:de a)(hs:de s)(hx:de x):aK a (aC s (aA x x))=a:=by
 have m0:=eX hx.pos hx.pos;have st:=eP hs m0;refine c8 (kN ha st) ha ?_;rw[dg ha.pos st.pos,cM hs.pos m0.pos,dt hx.pos hx.pos];grind
end B
namespace B
section
variable {s p:Nat->Rat}{n:Nat}
def sl(s p:Nat->Rat)(i:Nat):Rat:=(p (i+1)-p i)/(s (i+1)-s i)
theorem Bp(h:s i<s (i+1)):p (i+1)=p i+sl s p i*(s (i+1)-s i):=by
 unfold sl;grind
theorem oE{i:Nat}(hc:∀j,j+1<n->sl s p j≤sl s p (j+1)):∀d,i+d<n->sl s p i≤sl s p (i+d)
 |0,_=>by simp only[Zs];exact R1
 |d+1,h=>by
  have a:=oE (i:=i) hc d ω;grind
theorem xG{i:Nat}(hs:∀j,j<n->s j<s (j+1))(hc:∀j,j+1<n->sl s p j≤sl s p (j+1)):∀d,i+d≤n->i<n->p i+sl s p i*(s (i+d)-s i)≤p (i+d)
 |0,_,_=>by simp only[Zs];grind
 |d+1,h,hi=>by
  have a:=xG (i:=i) hs hc d ω hi;have b:=Bp (p:=p) (hs (i+d) ω);have c:=oE (i:=i) hc d ω;have g:=hs (i+d) ω;have e:i+(d+1)=i+d+1:=ω
  rw[e];have m:sl s p i*(s (i+d+1)-s (i+d))≤sl s p (i+d)*(s (i+d+1)-s (i+d)):=RE c (by grind);grind
theorem rj{i:Nat}(hs:∀j,j<n->s j<s (j+1))(hc:∀j,j+1<n->sl s p j≤sl s p (j+1)):∀d,d≤i->i<n->p i+sl s p i*(s (i-d)-s i)≤p (i-d)
 |0,_,_=>by simp only[Zt];grind
 |d+1,h,hi=>by
  have a:=rj (i:=i) hs hc d ω hi;have e:i-d=(i-(d+1))+1:=ω
  have g:=hs (i-(d+1)) ω;have b:=Bp (p:=p) g;have c:=oE hc (i:=i-(d+1)) (d+1) ω;rw[show i-(d+1)+(d+1)=i by lia] at c;rw[e] at a;generalize hj:i-(d+1)=j at *;have m:sl s p j*(s (j+1)-s j)≤sl s p i*(s (j+1)-s j):=RE c (by grind);grind
theorem Ed(hs:∀j,j<n->s j<s (j+1))(hc:∀j,j+1<n->sl s p j≤sl s p (j+1))(hi:i<n)(hm:m<n)(h1:s m≤x)(h2:x≤s (m+1)):
  p i+sl s p i*(x-s i)≤p m+sl s p m*(x-s m):=by
 by_cases c:i≤m
 ·have a:=xG hs hc (i:=i) (m-i) ω hi;have b:=oE hc (i:=i) (m-i) ω;rw[show i+(m-i)=m by lia] at a b;have q:sl s p i*(x-s m)≤sl s p m*(x-s m):=RE b (by grind);grind
 ·have a:=rj hs hc (i:=i) (i-(m+1)) ω hi;have b:=oE hc (i:=m) (i-m) ω;rw[show i-(i-(m+1))=m+1 by lia] at a;rw[show m+(i-m)=i by lia] at b;have e:=Bp (p:=p) (hs m hm);have q:sl s p m*(s (m+1)-x)≤sl s p i*(s (m+1)-x):=RE b (by grind);generalize sl s p i=u at *;generalize sl s p m=w at *;grind
end
theorem zS(x s:Rat):s*s+2*s*(x-s)≤x*x:=by
 have h:0≤(x-s)*(x-s):=by
  rcases Rat.le_total (a:=0) (b:=x-s) with h|h
  ·exact TC h h
  ·have:=TC (a:=-(x-s)) (b:=-(x-s)) (by grind) (by grind);grind
 grind
theorem xU(x:Rat):0≤x*x:=by
 rcases Rat.le_total (a:=0) (b:=x) with h|h
 ·exact TC h h
 ·have:=TC (a:=-x) (b:=-x) (by grind) (by grind);grind
theorem zR{x s:Rat}(hx:0≤x)(hs:0≤s):s*s*s+3*(s*s)*(x-s)≤x*x*x:=by
 have h:=TC (xU (x-s)) (show 0≤x+2*s by grind);grind
theorem zQ{x s:Rat}(hx:0≤x)(hs:0≤s):s*s*s*s+4*(s*s*s)*(x-s)≤x*x*x*x:=by
 have h1:=TC hx hs;have h:=TC (xU (x-s)) (show 0≤x*x+2*(x*s)+3*(s*s) by
  have:=xU x;have:=xU s;grind)
 grind
end B
namespace B
open PySem PySem.Spec L2 PyProof.Rows
structure QE(X:Cx)(e:RP)(t:TE):Prop where
 p:PE X e t
structure QT(X:Cx)(e:RP)(t:TT):Prop where
 p:PT X e t
structure QW(X:Cx)(e:RP)(t:TT):Prop where
 p:PW X e t
structure QA(X:Cx)(es:List RP)(t:TA):Prop where
 p:PA X es t
structure QS(X:Cx)(st:Stmt)(t:TS):Prop where
 p:PS X st t
structure cR(X:Cx)(st:List Stmt)(t:TS):Prop where
 p:tZ X st t
structure QI(X:Cx)(tg iter:RP)(wi:TI):Prop where
 p:PI X tg iter wi
structure QG(X:Cx)(target:RP)(t:TG):Prop where
 p:PG X target t
structure OT(X:Cx)(ts:List RP)(t:AR):Prop where
 p:Nb X ts t
theorem cR.ok(h:cR X b t)(r:t D σ H):∃t:TS,tZ X b t/\t D σ H:=⟨t,h.p,r⟩
structure QO(X:Cx)(o:Option RP)(t:L2.TO):Prop where
 p:PO X o t
section
set_option autoImplicit true
set_option relaxedAutoImplicit true
theorem qv(i:Nat){x:RF}{pos:Uh}(hN:X.N[i]?=some x:=by rfl)(hv:OR X.env.scope x:=by first|exact SI Z|exact SB (SI Z)|exact SB (SB Z))(hd:(x==("__debug__" : RF))=false:=by decide)(hcd:(x==("__classdict__" : RF))=false:=by decide):QE X (.Name x pos) (JV i):=⟨pv i hN hv hd hcd⟩
theorem bf{i j pos}:QE X (.Constant (.int i) j pos) (tC (.int i)):=⟨Lb ⟩
theorem NU{b j pos}:QE X (.Constant (.bool b) j pos) (tC (.bl b)):=⟨N9 ⟩
theorem fX{j pos}:QE X (.Constant .none j pos) (tC .non):=⟨K9 ⟩
theorem Dt{x j pos}:QE X (.Constant (.str x) j pos) (tC (.str x)):=⟨K6 ⟩
theorem fH{x:RF}{v:V}{u:Value}{pos:Uh}(hg:Gl X x)(hm:X.mg x=some u)(r:aY v u)(hd:(x==("__debug__" : RF))=false:=by decide):QE X (.Name x pos) (tC v):=⟨Hh hg hm r hd⟩
theorem nM{x:RF}{v:V}{u:Value}{pos:Uh}(hg:Gl X x)(hm:X.mg x=none)(hv:TN x=some u)(r:aY v u)(hn:x ≠ "__name__" := by decide)(hd:(x==("__debug__" : RF))=false:=by decide):QE X (.Name x pos) (tC v):=⟨Hl hg hm hv r hn hd⟩
theorem yi(ho:Pe X (unaryOp op) r)(ha:QE X a ta):QE X (.UnaryOp op a pos) (Qe r ta):=⟨N4 ho ha.p⟩
theorem Ku(ha:QE X a ta):QE X (.UnaryOp .Not a pos) (IP ta):=⟨K8 ha.p⟩
theorem fq(ho:iF X (Ua op) r)(ha:QE X a ta)(hb:QE X b tb):QE X (.BinOp a op b pos) (F4 r ta tb):=⟨N6 ho ha.p hb.p⟩
theorem Dv{op}(h:QE X a t):QE X (.BoolOp op [a] pos) t:=⟨K7 h.p⟩
theorem Kz{rest:List RP}(ha:QE X a ta)(hb:QE X (.BoolOp .And (b::rest) pos) tb):QE X (.BoolOp .And (a::b::rest) pos) (IV ta tb):=⟨Ld ha.p hb.p⟩
theorem NT{rest:List RP}(ha:QE X a ta)(hb:QE X (.BoolOp .Or (b::rest) pos) tb):QE X (.BoolOp .Or (a::b::rest) pos) (Nr ta tb):=⟨N5 ha.p hb.p⟩
theorem gz(ho:iF X (Sz op) r)(ha:QE X a ta)(hb:QE X b tb)(hm:TW op b=false):QE X (.Compare a [op] [b] pos) (F4 r ta tb):=⟨Hj ho ha.p hb.p hm⟩
theorem DA{op op':CmpOp}{r r':R2}(ho:iF X (Sz op) r)(ho':iF X (Sz op') r')(ha:QE X a ta)(hb:QE X b tb)(hc:QE X c tc)(hm:lastMarks [op,op'] [b,c]=false:=by with_unfolding_all rfl):QE X (.Compare a [op,op'] [b,c] pos) (Bb r r' ta tb tc):=⟨DZ ho ho' ha.p hb.p hc.p hm⟩
theorem sR(h:QA X es t):QE X (.List es pos) (Nu t):=⟨La h.p⟩
theorem im{x1}(h:QA X es t):QE X (.Tuple es x1 pos) (No t):=⟨K5 h.p⟩
theorem kM{lo hi:Option RP}{r:V->Option Int->Option Int->Hp->VK->Prop}(hr:Pf X r)(he:QE X e te)(hl:QO X lo tl)(hu:QO X hi th):QE X (.Subscript e (.Slice lo hi none p2) pos) (Qf r te tl th):=⟨DV hr he.p hl.p hu.p⟩
theorem nL   : QO X none xL:=⟨GQ ⟩
theorem nK(h:QE X e te):QO X (some e) (IN te):=⟨GP h.p⟩
theorem fx(hr:AI X r)(ha:QE X a ta)(hb:QE X b tb)(hs:tY b):QE X (.Subscript a b pos) (F4 r ta tb):=⟨N7 hr ha.p hb.p hs⟩
theorem d5(F:aP X.prog X.w X.K X.mg X.base CX k f fd ps sp)(hr:cA k X.A)(hg:Gl X x)(hm:X.mg x=some (.ref f))(hk:SM X.K (.ref f)=true)(hb:aI X.K fd ps ds)(hd:aW dvs ds)(hx:eZ CX X E)(ha:QA X (e::es) t)(hdb:(x==("__debug__" : RF))=false:=by decide)(he:Q6 (e::es) X.env=(false,eval e X.env)::Q6 es X.env:=by rfl)(hpl:(Te pos (Q6 es X.env)).any (·.1)=false:=by rfl):QE X (.Call (.Name x p) (e::es) [] pos) (xO sp dvs E t):=⟨Hk F hr hg hm hk hb hd hx ha.p hdb he hpl⟩
theorem bG{id:String}(hc:eF X (.builtin id) r)(hg:Gl X x)(hm:X.mg x=none)(hv:TN x=some (.builtin id))(ha:QA X (e::es) t)(hn:x ≠ "__name__" := by decide)(hdb:(x==("__debug__" : RF))=false:=by decide)(he:Q6 (e::es) X.env=(false,eval e X.env)::Q6 es X.env:=by rfl)(hpl:(Te pos (Q6 es X.env)).any (·.1)=false:=by rfl):QE X (.Call (.Name x p) (e::es) [] pos) (O8 r t):=⟨D1 hc hg hm hv ha.p hn hdb he hpl⟩
theorem cC(hc:eF X (.type T) r)(hg:Gl X x)(hm:X.mg x=none)(hv:TN x=some (.type T))(ha:QA X (e::es) t)(hn:x ≠ "__name__" := by decide)(hdb:(x==("__debug__" : RF))=false:=by decide)(he:Q6 (e::es) X.env=(false,eval e X.env)::Q6 es X.env:=by rfl)(hpl:(Te pos (Q6 es X.env)).any (·.1)=false:=by rfl):QE X (.Call (.Name x p) (e::es) [] pos) (O8 r t):=⟨zW hc hg hm hv ha.p hn hdb he hpl⟩
theorem mT{id:String}(pa:PlainAttrs T)(slot:Slot T name id)(hty:typeOf (.builtin id)=SS (.type "method_descriptor"))(hm:Qo X id r)(ho:QE X o to)(ha:QA X (e::es) t)(hbase:Tw o name X.env (eval o X.env)=eval o X.env:=by rfl) (hfew:((Te cpos (Q6 (e::es) X.env)).all (λx=>!x.1)&&(WR cpos (Vb [] X.env)).all (λx=>x.1.isSome)
  &&decide ((e::es).length+([]:List Xh).length+(if([]:List Xh).isEmpty then 0 else 1)<30))=true:=by rfl) (hline:(apos.endLine==cpos.line)=true:=by rfl) (hs:Q6 (e::es) X.env=(false,eval e X.env)::Q6 es X.env:=by rfl) (hplain:(Te cpos (Q6 es X.env)).any (·.1)=false:=by rfl):QE X (.Call (.Attribute o name apos) (e::es) [] cpos) (Qh X.K T r to t):=⟨N8 pa slot hty hm ho.p ha.p hbase hfew hline hs hplain⟩
theorem aH   : QA X [] F6:=⟨Lg ⟩
theorem aj(ha:QE X e te)(hr:QA X es t)(hs:Q6 (e::es) X.env=(false,eval e X.env)::Q6 es X.env:=by rfl):QA X (e::es) (iK te t):=⟨Hq ha.p hr.p hs⟩
theorem aV(ho:iF X (Sz op) r)(ha:QE X a ta)(hb:QE X b tb)(hm:TW op b=false):QT X (.Compare a [op] [b] pos) (xJ (F4 r ta tb)):=⟨GE ho ha.p hb.p hm⟩
theorem iR{e:RP}{t:TE}(h:QE X e t)(he:∀whole,isTrue e X.env whole=(do let v ←whole;XV e.pos;holding [v] (truthy v)):=by intro _;rfl):QT X e (tB t):=⟨KM h.p he⟩
theorem Dk(ha:QT X a tA):QT X (.UnaryOp .Not a pos) (Nt tA):=⟨KN ha.p⟩
theorem jQ{rest:List RP}(ha:QT X a tA)(hb:QW X (.BoolOp .And (b::rest) pos) tB'):QW X (.BoolOp .And (a::b::rest) pos) (Nz tA tB'):=⟨KJ ha.p hb.p⟩
theorem kH(ha:QT X a tA):QW X (.BoolOp .And [a] pos) tA:=⟨GB ha.p⟩
theorem Jf{rest:List RP}(ha:QT X a tA)(hb:QW X (.BoolOp .Or (b::rest) pos) tB'):QW X (.BoolOp .Or (a::b::rest) pos) (Qg tA tB'):=⟨NW ha.p hb.p⟩
theorem Dj(ha:QT X a tA):QW X (.BoolOp .Or [a] pos) tA:=⟨KI ha.p⟩
theorem uz(h:QW X e t):QT X e t:=⟨PW.pt h.p⟩
theorem Dm{i:Nat}{x:RF}{e:RP}{te:TE}{pos':Uh}(hN:X.N.Nodup)(hi:X.N[i]?=some x)(hx:AT X.env.scope x)(he:QE X e te)(hs:TZ e (some (.Name x pos')) pos.line X.env=SS false:=by rfl)(hf:X.fn x=true∨X.env.scope.names.lookup x=some .local:=by first|exact .inl Z|exact .inr Z|assumption):QS X (.Assign [.Name x pos'] e pos) (uh te (mX i)):=⟨KO hN hi hx he.p hs hf⟩
theorem Dn{i j:Nat}{x y:RF}{a b:RP}{ta:TA}{px py pt:Uh}{kt k2 pt2}(hc:X.calm=true)(hN:X.N.Nodup)(hi:X.N[i]?=some x)(hj:X.N[j]?=some y)(hij:i≠j)(hx:X.env.scope.names.lookup x=some .local)(hy:X.env.scope.names.lookup y=some .local)(ha:QA X [a,b] ta)(hw:Xn [.Tuple [.Name x px,.Name y py] kt pt] (.Tuple [a,b] k2 pt2) X.env=SS (some [x,y]))(hs:Xm [.Tuple [.Name x px,.Name y py] kt pt] (.Tuple [a,b] k2 pt2) pos.line X.env=SS false:=by rfl):QS X (.Assign [.Tuple [.Name x px,.Name y py] kt pt] (.Tuple [a,b] k2 pt2) pos) (Nq i j ta):=⟨KQ hc hN hi hj hij hx hy ha.p hw hs⟩
theorem sO{tg e:RP}{te:TE}{g:TG}(he:QE X e te)(hg:QG X tg g)(hs:Xm [tg] e pos.line X.env=SS false:=by rfl)(hw:Xn [tg] e X.env=SS none:=by rfl)(h1:(So [tg] X.env).map (·.2)=[Wi tg X.env]:=by rfl):QS X (.Assign [tg] e pos) (uh te g):=⟨KW he.p hg.p hs hw h1⟩
theorem Dp{i:Nat}{x:RF}{e:RP}{te:TE}{op:Y3}{ti:JH}{pos':Uh}(hN:X.N.Nodup)(hi:X.N[i]?=some x)(hx:AT X.env.scope x)(he:QE X e te)(ho:Na X op ti)(hf:X.fn x=true∨X.env.scope.names.lookup x=some .local:=by first|exact .inl Z|exact .inr Z|assumption):QS X (.AugAssign (.Name x pos') op e pos) (Ny i te ti):=⟨KU hN hi hx he.p ho hf⟩
theorem cy(hc:QT X c tc)(ha:cR X a t)(hb:cR X b u):QS X (.If c a b pos) (Nv tc t u):=⟨NZ hc.p ha.p hb.p⟩
theorem dF(hp:PassesOwn (Ro X.prog X.w) X.A X.env X.xe)(hc:QT X c tc)(hb:cR X body tb):QS X (.While c body [] pos) (A7 tc tb):=⟨DF hp hc.p hb.p⟩
theorem dh{iter:RP}{body:List Stmt}{wi:TI}{g:TG}{tb:TS}{pos:Uh}(hp:PassesOwn (Ro X.prog X.w) X.A X.env X.xe)(hc:X.calm=true)(hi:QI X tg iter wi)(hg:QG X tg g)(hb:cR X body tb)(hs:∀x,SJ iter X.env x=SS x:=by intro _;rfl):QS X (.For tg iter body [] pos) (Nw wi g tb):=⟨KR hp hc hi.p hg.p hb.p hs⟩
theorem bC(he:QE X e te):QS X (.Return (some e) pos) (Np te):=⟨KP he.p⟩
theorem dZ(he:QE X e te)(hs:TZ e none pos.line X.env=SS false:=by rfl):QS X (.Expr e pos) (IS te):=⟨GK he.p hs⟩
theorem Do   : QS X (.Break pos) Bc:=⟨DH ⟩
theorem gX{st:Stmt}  : QS X st A8:=⟨DG ⟩
theorem be   : cR X [] IQ:=⟨GG ⟩
theorem aw{st:Stmt}(h1:QS X st t):cR X [st] t:=⟨GF h1.p⟩
theorem Dl{st:Stmt}{rest:List Stmt}(h1:QS X st t)(h2:cR X rest u):cR X (st::rest) (JX t u):=⟨DE h1.p h2.p⟩
theorem dQ{a:RP}{ta:TA}{p pos:Uh}(hg:Gl X "range")(hm:X.mg "range"=none)(ha:QA X [a] ta)(hs:Q6 [a] X.env=[(false,eval a X.env)]:=by rfl):QI X tg (.Call (.Name "range" p) [a] [] pos) (Jy ta):=⟨zV hg hm ha.p hs⟩
theorem zK{a b:RP}{ta:TA}{p pos:Uh}(hg:Gl X "range")(hm:X.mg "range"=none)(ha:QA X [a,b] ta)(hs:Q6 [a,b] X.env=[(false,eval a X.env),(false,eval b X.env)]:=by rfl)(hs2:Q6 [b] X.env=[(false,eval b X.env)]:=by rfl):QI X tg (.Call (.Name "range" p) [a,b] [] pos) (Jx ta):=⟨zU hg hm ha.p hs hs2⟩
theorem da(hl:QE X l tl):QI X tg l (EV X.K tl):=⟨GW hl.p⟩
theorem sP(hl:QE X l tl):QI X tg l (HU X.K tl):=⟨DP hl.p⟩
theorem bb{i:Nat}{x:RF}(hN:X.N.Nodup)(hi:X.N[i]?=some x)(hx:AT X.env.scope x)(hf:X.fn x=true∨X.env.scope.names.lookup x=some .local:=by first|exact .inl Z|exact .inr Z|assumption):QG X (.Name x pos) (mX i):=⟨G0 hN hi hx hf⟩
theorem vN{es:List RP}{k:Nat}{t:AR}{n:Nat}(hc:X.calm=true)(h:OT X es t)(hn:(So es X.env).length=n:=by rfl)(hst:(So es X.env).findIdx? (·.1)=none:=by rfl):QG X (.Tuple es k pos) (Fc X.K n t):=⟨DT hc h.p hn hst⟩
theorem Ds{o i:RP}{to ti:TE}{t:xm}(ho:QE X o to)(hi:QE X i ti)(hs:FG X t) (ha:∀v,Wi (.Subscript o i pos) X.env v=(do
   let ov ←holding [v] (eval o X.env);let iv ←holding [v,ov] (eval i X.env)
   XV pos
   holding [v,ov,iv] (Y2 ov iv v)
   release [v,ov,iv] []):=by intro _;rfl):QG X (.Subscript o i pos) (OF to ti t):=⟨K3 ho.p hi.p hs ha⟩
theorem kL   : OT X [] Mu:=⟨GY ⟩
theorem di{e:RP}{es:List RP}{t:TG}{u:AR}(h1:QG X e t)(h2:OT X es u)(hs:(So (e::es) X.env).map (·.2)=Wi e X.env::(So es X.env).map (·.2):=by rfl):OT X (e::es) (yR t u):=⟨DS h1.p h2.p hs⟩
end
structure JI(X:Cx)(ifs:List RP)(t:TT):Prop where
 p:M9 X ifs t
section
set_option autoImplicit true
set_option relaxedAutoImplicit true
theorem jk:JI X [] Nn:=⟨GD ⟩
theorem dY(h:QT X c t):JI X [c] t:=⟨GC h.p⟩
theorem gY(hc:X.calm=true)(hi:QI X tg iter wi)(hg:∀C fp pins s H,QG (wX X N' scope cl C fp pins s H) tg g)(ht:∀C fp pins s H,JI (wX X N' scope cl C fp pins s H) ifs tt)(he:∀C fp pins s H,QE (wX X N' scope cl C fp pins s H) elt te)(hfree:cQ X scope cl N' src)(hclos:UX scope X.env=SS cl)(hcell:∀x∈scope.names,x.2≠.cell)(hkind:scope.kind=.function)(hnames:∀x∈scope.names,x.2=.local->scope.names.lookup x.1=some .local)(hcl:iw X scope cl)(hs:∀x,SJ iter X.env x=SS x:=by intro _;rfl):QE X (.ListComp elt [⟨tg,iter,ifs,0⟩] scope pos) (ka wi src g tt te):=⟨qN hc hi.p (λz0 z1 z2 z3 z4=>(hg z0 z1 z2 z3 z4).p) (λz0 z1 z2 z3 z4=>(ht z0 z1 z2 z3 z4).p) (λz0 z1 z2 z3 z4=>(he z0 z1 z2 z3 z4).p) hfree hclos (JB hcell hkind hcl) hnames hs⟩
theorem Gq{i:Nat}{x:RF}{pos' pos2:Uh}(hN:X.N.Nodup)(hi':X.N[i]?=some x)(hx:AT X.env.scope x)(hc:X.calm=true)(hi:QI X tg iter wi)(hg:∀C fp pins s H,QG (wX X N' scope cl C fp pins s H) tg g)(ht:∀C fp pins s H,JI (wX X N' scope cl C fp pins s H) ifs tt)(he:∀C fp pins s H,QE (wX X N' scope cl C fp pins s H) elt te)(hfree:cQ X scope cl N' src)(hclos:UX scope X.env=SS cl)(hcell:∀x∈scope.names,x.2≠.cell)(hkind:scope.kind=.function)(hnames:∀x∈scope.names,x.2=.local->scope.names.lookup x.1=some .local)(hcl:iw X scope cl)(hs:∀x,SJ iter X.env x=SS x:=by intro _;rfl)(hsw:TZ (.ListComp elt [⟨tg,iter,ifs,0⟩] scope pos) (some (.Name x pos')) pos2.line X.env=SS true:=by rfl)(hf:X.fn x=true∨X.env.scope.names.lookup x=some .local:=by first|exact .inl Z|exact .inr Z|assumption):QS X (.Assign [.Name x pos'] (.ListComp elt [⟨tg,iter,ifs,0⟩] scope pos) pos2) (uh (ka wi src g tt te) (mX i)):=⟨GI hN hi' hx hc hi.p (λz0 z1 z2 z3 z4=>(hg z0 z1 z2 z3 z4).p) (λz0 z1 z2 z3 z4=>(ht z0 z1 z2 z3 z4).p) (λz0 z1 z2 z3 z4=>(he z0 z1 z2 z3 z4).p) hfree hclos (JB hcell hkind hcl) hnames hs hsw hf⟩
end
section
variable {X:Cx}{K:QJ}
theorem GZ{es:List RP}{k:Nat}{t:AR}{n:Nat}{pos:Uh}(hK:X.K=K)(hc:X.calm=true)(h:Nb X es t)
  (hn:(So es X.env).length=n:=by rfl) (hst:(So es X.env).findIdx? (·.1)=none:=by rfl):PG X (.Tuple es k pos) (Fc K n t):=hK▸DT hc h hn hst
theorem GV(hK:X.K=K)(hl:PE X l tl):PI X tg l (HU K tl):=hK▸DP hl
theorem js(hK:X.K=K):AI X (Ko K):=hK▸fZ
theorem dI(hK:X.K=K):AI X (Kp K):=hK▸kY
def Pl(K:QJ):List V->Hp->VK->Prop:=λxs H Q=>MZ K H xs λn=>Q (.int n) H
theorem AB(hK:X.K=K):eF X (.builtin "len") (Pl K):=hK▸fJ
end
theorem kg:Q6 (.BinOp a op b pos:: es) env=(false,eval (.BinOp a op b pos) env):: Q6 es env:=Z
end B
namespace B
open PySem
section
variable {es:List RP}{env:ZU}
theorem iL{a b c}:Q6 (.Tuple a b c::es) env=(false,eval (.Tuple a b c) env)::Q6 es env:=Z
theorem Bk{a b}:Q6 (.List a b::es) env=(false,eval (.List a b) env)::Q6 es env:=Z
theorem dW{a b c}:Q6 (.Subscript a b c::es) env=(false,eval (.Subscript a b c) env)::Q6 es env:=Z
theorem aM{a b c d}:Q6 (.Call a b c d::es) env=(false,eval (.Call a b c d) env)::Q6 es env:=Z
theorem aB{a b}:Q6 (.Name a b::es) env=(false,eval (.Name a b) env)::Q6 es env:=Z
theorem gR{a b c}:Q6 (.Constant a b c::es) env=(false,eval (.Constant a b c) env)::Q6 es env:=Z
theorem Gb{a b c}:Q6 (.UnaryOp a b c::es) env=(false,eval (.UnaryOp a b c) env)::Q6 es env:=Z
theorem Bl{a b c}:Q6 (.Attribute a b c::es) env=(false,eval (.Attribute a b c) env)::Q6 es env:=Z
theorem cU{a b c d}:Q6 (.ListComp a b c d::es) env=(false,eval (.ListComp a b c d) env)::Q6 es env:=Z
end
end B
namespace B
open PySem L2 PyProof.Rows
inductive bR{α:Type}(P:V->α->Prop):List V->List α->Prop where
 |nil:bR P [] []
 |cons {x:V} {d:α} {xs:List V} {ds:List α} (h:P x d) (t:bR P xs ds):bR P (x::xs) (d::ds)
theorem bR.len{α:Type}{P:V->α->Prop}:∀{xs:List V} {ds:List α},bR P xs ds->xs.length=ds.length
 |_,_,.nil=>rfl
 |_,_,.cons _ t=>congrArg (·+1) t.len
theorem bR.mono{α:Type}{P P':V->α->Prop}(m:∀v d,P v d->P' v d):∀{xs:List V} {ds:List α},bR P xs ds->bR P' xs ds
 |_,_,.nil=>.nil
 |_,_,.cons h t=>.cons (m _ _ h) (t.mono m)
theorem bR.snoc{α:Type}{P:V->α->Prop}{x:V}{d:α}(k:P x d):∀{xs:List V} {ds:List α},bR P xs ds->bR P (xs++[x]) (ds++[d])
 |_,_,.nil=>.cons k .nil
 |_,_,.cons h t=>.cons h (t.snoc k)
theorem bR.at{α:Type}{P:V->α->Prop}:∀{xs:List V} {ds:List α},bR P xs ds->∀{i:Nat} {x:V},xs[i]?=some x->∃d,ds[i]?=some d/\P x d
 |_,_,.cons h _,0,x,e=>by
  grind
 |_,_,.cons _ t,i+1,x,e=>t.at (i:=i) (by rw[UL] at e;exact e)
 |_,_,.nil,_,_,e=>by cases e
theorem bR.deep{α:Type}{K:QJ}{H:Hp}{P:V->α->Prop}{f:α->R5}(m:∀v d,P v d->dL K H v (f d)):∀{xs:List V} {ds:List α},bR P xs ds->bi K H xs (ds.map f)
 |_,_,.nil=>.nil
 |_,_,.cons h t=>.cons (m _ _ h) (t.deep m)
end B
namespace B
open PySem PySem.Spec L2 PyProof.Rows
theorem bR.last{ds:List α}(h:bR P xs ds)(hn:ds.length=n+1):∃x d,uc xs (-1)=some x/\ds[n]?=some d/\P x d/\xs[n]?=some x:=by
 have hl:=h.len;have hx:xs[n]?=some (xs[n]' ω):=QH _;obtain⟨d,hd,p⟩:=h.at hx;refine⟨_,d,?_,hd,p,hx⟩;have e:xs=xs.take n++[xs[n]' ω]:=by
  have:=U7 n xs;rw[Vn ω] at this;rw[List.drop_eq_nil_of_le ω] at this;exact this.symm
 have:=pW (xs.take n) (xs[n]' ω);rw[←e] at this;exact this
theorem Fm(h:1≤xs.length):mH xs (some 1) none=xs.drop 1:=by
 unfold mH;rw[show(some (1:Int))=some (((1:Nat):Int)) from Z,HT.sIx_nat,HT.sIx_none,VB h];exact SC (by rw[UJ];lia)
section
set_option autoImplicit true
set_option relaxedAutoImplicit true
theorem sQ(hl:QE X l tl):QI X tg l (Ou X.K tl):=⟨K2 hl.p⟩
theorem yg{K:QJ}{es:List RP}{k:Nat}{t:AR}{n:Nat}{pos:Uh}(hK:X.K=K)(hc:X.calm=true)(h:OT X es t)(hn:(So es X.env).length=n:=by rfl)(hst:(So es X.env).findIdx? (·.1)=none:=by rfl):QG X (.Tuple es k pos) (Fc K n t):=⟨GZ hK hc h.p hn hst⟩
theorem Gs{K:QJ}{l tg:RP}{tl:TE}(hK:X.K=K)(hl:QE X l tl):QI X tg l (HU K tl):=⟨GV hK hl.p⟩
end
def Pn(K:QJ):R2:=λx y H Q=>∃d d',dL K H x d/\dL K H y d'/\d.canLay0=true/\d'.canLay0=true/\d.depth≤32/\Q (.bl (Sk d d')) H
theorem Eb(hr:cA k X.A):iF X (Sz .Eq) (Pn X.K):=by
 intro pins s σ H x y v u Q I rx ry h;obtain⟨d,d',hd,hd',c,c',dp,q⟩:=h;obtain⟨as,ra⟩:=dL.reads I hd rx;obtain⟨bs,rb⟩:=dL.reads I hd' ry;exact SeqAt.compareEq_reads ra rb c c' (by have:=hr.units;lia) ⟨.bl _,H,I,Z,q⟩
theorem gC:Sk (dR r) (dR q)=decide (r=q):=by
 by_cases h:r=q
 ·rw[decide_eq_true h,h];exact hV q
 ·rw[decide_eq_false h]
  cases c:Sk (dR r) (dR q) with
  |false=>rfl
  |true=>exact absurd (Mx c) h
def NK(K:QJ):List V->Hp->VK->Prop:=λxs H Q=>∃a ys n b,xs=[.ref a,.ty n]/\cE K H a ys/\EN "tuple" n=some b/\Q (.bl b) H
theorem rM:eF X (.builtin "isinstance") (NK X.K):=by
 intro pins s σ H xs us Q I r h;obtain⟨a,ys,n,b,rfl,hS,e,q⟩:=h;obtain⟨u,u2,rfl,rx,ry⟩:=xD r;obtain rfl:u2=WN n:=ry
 cases(show u=RA a from rx)
 obtain⟨its,_,⟨o,h1,h2,_⟩,_⟩:=I.tuple hS;exact SF YO I.kIn ⟨o,h1,h2⟩ (EM e) (λz=>nomatch z) λtk=>⟨.bl b,H,I.tok tk,Z,q⟩
section
set_option autoImplicit true
set_option relaxedAutoImplicit true
theorem Gr(hex:X.ex=[])(ha:QE X o ta)(hv:QE X value tv)(hs:TZ value (some (.Attribute o f pos')) pos.line X.env=SS false):QS X (.Assign [.Attribute o f pos'] value pos) (Ja X.K ta tv f):=⟨GJ hex ha.p hv.p hs⟩
theorem zJ{x:RF}{p cpos pos:Uh}{e:RP}{es:List RP}{t:TA}{E:XK}(M:XC X.K C f bm)(hbase:bm.contains (.type "BaseException")=true)(hex:X.ex=[])(tk:xj X E)(F:aP X.prog X.w X.K X.mg X.base c5 k f fd ps sp)(hr:cA (k+1) X.A)(hb:aI X.K fd ps [])(hg:Gl X x)(hm:X.mg x=some (.ref C))(ha:QA X (e::es) t)(hdb:(x==("__debug__" : RF))=false:=by decide)(he:Q6 (e::es) X.env=(false,eval e X.env)::Q6 es X.env:=by rfl)(hpl:(Te cpos (Q6 es X.env)).any (·.1)=false:=by rfl):QS X (.Raise (some (.Call (.Name x p) (e::es) [] cpos)) none pos) (xK C sp E t):=⟨zO M hbase hex tk F hr hb hg hm ha.p hdb he hpl⟩
theorem Gp{R:RX}{suite:List Stmt}(hex:X.ex=[])(hst:X.stack=X.env::X.outer)(hfr:X.env.frame=some X.env.locals)(hg:Gl X x)(hm:X.mg x=some u)(hb:∀pins,cR (jU X pins R) body tb)(hs:∀e,cR (qW X e) (b₀::suite) th)(hd:(x==("__debug__" : RF))=false:=by decide):QS X (.Try body [.ExceptHandler (some (.Name x p)) none (b₀::suite) hpos] [] [] pos) (IL X.N R (λC=>Yq X.K (.ref C) u=some true) tb th):=⟨GH hex hst hfr hg hm (λz0=>(hb z0).p) (λz0=>(hs z0).p) hd⟩
end
end B
namespace L2
open PySem PySem.Spec PyProof.Rows
section
variable {κ:Type} [DecidableEq κ]
def gH(kvs:List (κ×V))(k:κ):Option V:=(kvs.find? λkv=>decide (kv.1=k)).map (·.2)
def fY(kvs:List (κ×V))(k:κ)(v:V):List (κ×V):=
 if(kvs.any λkv=>decide (kv.1=k))=true then kvs.map (λkv=>if kv.1=k then(kv.1,v) else kv) else kvs++[(k,v)]
theorem fh{p:κ×V}{r:List (κ×V)}{k:κ}(e:p.1=k):gH (p::r) k=some p.2:=by simp[gH,U4,e]
theorem fj{p:κ×V}{r:List (κ×V)}{k:κ}(e:¬p.1=k):gH (p::r) k=gH r k:=by simp[gH,U4,e]
theorem og(k:κ):∀kvs:List (κ×V),(kvs.any λkv=>decide (kv.1=k))=(gH kvs k).isSome
 | []=>rfl
 |p::r=>by
  rw[U5];by_cases e:p.1=k
  ·simp only[fh e,decide_eq_true e,Bool.true_or,YW]
  ·rw[fj e,decide_eq_false e,YL];exact og k r
theorem mV(kvs:List (κ×V))(k:κ)(v:V):(fY kvs k v).length≤kvs.length+1:=by
 unfold fY
 split
 ·rw[QK];lia
 ·rw[Q8,RU,Z0];lia
theorem uA{kvs:List (κ×V)}{k:κ}(v:V)(h:gH kvs k=none):fY kvs k v=kvs++[(k,v)]:=by
 unfold fY;rw[og,h];exact if_neg δ
theorem fL.isSome_eq(r:fL o u):o.isSome=u.isSome:=by
 cases o with
 |none=>cases u with
  |none=>rfl
  |some _=>exact(show False from r).elim
 |some _=>cases u with
  |none=>exact(show False from r).elim
  |some _=>rfl
theorem fL.getD(r:fL o u)(rd:aY d d'):aY (o.getD d) (u.getD d'):=by
 cases o with
 |none=>cases u with
  |none=>exact rd
  |some _=>exact(show False from r).elim
 |some _=>cases u with
  |none=>exact(show False from r).elim
  |some _=>exact r
theorem KV.val{kvs:List (κ×V)}{vs:List (κ×Value)}(r:KV kvs vs)(k:κ):fL (gH kvs k) (YA vs k):=by
 unfold KV at r
 induction r with
 |nil=>exact Ti
 | @cons p q ps qs h t ih=>
  obtain⟨h1,h2⟩:=h;by_cases e:p.1=k
  ·have e':q.1=k:=h1.symm.trans e;have b:YA (q::qs) k=some q.2:=by simp[YA,U4,e']
   rw[fh e,b];exact h2
  ·have e':¬q.1=k:=λz=>e (h1.trans z)
   have b:YA (q::qs) k=YA qs k:=by simp[YA,U4,e']
   rw[fj e,b];exact ih
theorem KV.any{kvs:List (κ×V)}{vs:List (κ×Value)}(r:KV kvs vs)(k:κ):(kvs.any λkv=>decide (kv.1=k))=vs.any λkv=>decide (kv.1=k):=by
 unfold KV at r
 induction r with
 |nil=>rfl
 |cons h t ih=>rw[U5,U5,ih,h.1]
theorem KV.repl{kvs:List (κ×V)}{vs:List (κ×Value)}(r:KV kvs vs)(k:κ){y:V}{u:Value}(ry:aY y u) :
  KV (kvs.map λkv=>if kv.1=k then(kv.1,y) else kv) (vs.map λkv=>if kv.1=k then(kv.1,u) else kv):=by
 unfold KV at r ⊢
 induction r with
 |nil=>exact .nil
 | @cons p q ps qs h t ih=>
  rw[Rr,Rr];refine .cons ?_ ih;obtain⟨h1,h2⟩:=h;by_cases e:p.1=k
  ·rw[if_pos e,if_pos (h1.symm.trans e)];exact⟨h1,ry⟩
  ·rw[if_neg e,if_neg (λz=>e (h1.trans z))];exact⟨h1,h2⟩
theorem KV.put{kvs:List (κ×V)}{vs:List (κ×Value)}(r:KV kvs vs)(k:κ){y:V}{u:Value}(ry:aY y u):KV (fY kvs k y) (stored vs k u):=by
 unfold fY stored;rw[r.any k];by_cases e:(vs.any λkv=>decide (kv.1=k))=true
 ·rw[if_pos e,if_pos e];exact r.repl k ry
 ·rw[if_neg e,if_neg e];exact Paired.snoc r ⟨Z,ry⟩
theorem KV.length{kvs:List (κ×V)}{vs:List (κ×Value)}(r:KV kvs vs):kvs.length=vs.length:=Paired.length r
end
theorem qT(r:aY (kV k) u):(bK P w).is k u=true:=by
 cases k with
 |inl i=>obtain⟨t,e⟩:=(show ∃t,u=Vi i t from r);subst e;exact uL P w i t
 |inr x=>obtain⟨t,e⟩:=(show ∃t,u=Xw x t from r);subst e;exact uK P w x t
theorem qU{P:Rz}{w:RS}:∀{ks:List cZ} {us:List Value},aW (ks.map kV) us->ItemsAre (bK P w) ks us
 | [],_,r=>by rw[X0] at r;cases r;exact .nil
 |k::ks,_,r=>by
  rw[Rr] at r
  cases r with
  |cons h t=>exact .cons (qT h) (qU t)
abbrev KT(H:Hp):List (List cZ×V)->List (List cZ×Addr×Value)->Prop:=Paired λp q=>p.1=q.1/\H q.2.1=some (.tup (p.1.map kV))/\aY p.2 q.2.2
theorem KT.val(r:KT H kvs xs)(k:List cZ):fL (gH kvs k) ((ZR xs k).map (·.2)):=by
 induction r with
 |nil=>exact Ti
 | @cons p q ps qs h t ih=>
  obtain⟨h1,_,h2⟩:=h;by_cases e:p.1=k
  ·have e':q.1=k:=h1.symm.trans e;have b:ZR (q::qs) k=some q.2:=by simp[ZR,U4,e']
   rw[fh e,b];exact h2
  ·have e':¬q.1=k:=λz=>e (h1.trans z)
   have b:ZR (q::qs) k=ZR qs k:=by simp[ZR,U4,e']
   rw[fj e,b];exact ih
theorem KT.repl(r:KT H kvs xs)(k:List cZ)(ry:aY y u):
  KT H (kvs.map λkv=>if kv.1=k then(kv.1,y) else kv) (xs.map (putAt k u)):=by
 induction r with
 |nil=>exact .nil
 | @cons p q ps qs h t ih=>
  rw[Rr,Rr];refine .cons ?_ ih;obtain⟨h1,h2,h3⟩:=h;unfold putAt;by_cases e:p.1=k
  ·rw[if_pos e,if_pos (h1.symm.trans e)];exact⟨h1,h2,ry⟩
  ·rw[if_neg e,if_neg (λz=>e (h1.trans z))];exact⟨h1,h2,h3⟩
theorem KT.put(r:KT H kvs xs)(k:List cZ)(hb:H b=some (.tup (k.map kV)))(ry:aY y u):
  KT H (fY kvs k y) (storedH xs k b u):=by
 have e:(kvs.any λkv=>decide (kv.1=k))=(ZR xs k).isSome:=by
  rw[og,(r.val k).isSome_eq,Xj]
 unfold fY storedH;rw[e];by_cases q:(ZR xs k).isSome=true
 ·rw[if_pos q,if_pos q];exact r.repl k ry
 ·rw[if_neg q,if_neg q];exact Paired.snoc r ⟨Z,hb,ry⟩
theorem KT.keeps(r:KT H kvs xs)(ht:∀b ys,H b=some (.tup ys)->H' b=some (.tup ys)):KT H' kvs xs:=
 Paired.mapP r λ_ _ z=>⟨z.1,ht _ _ z.2.1,z.2.2⟩
section
variable {P:Rz}{w:RS}{H:Hp}{h:Ra}{a:Addr}
theorem Jd(ok:jI P w H h)(e:Rd H a u):ObjOk P w H h a u:=e.ok ok
theorem mY(ok:jI P w H h)(e:Rd H a (.dK kvs)):kvs.length≤sizeLine/\(a==UT)=false/\∃vs,KV kvs vs/\h.DictOf (bK P w) a vs:=
 show ObjOk P w H h a (.dK kvs) from Jd ok e
theorem Fh(ok:jI P w H h)(e:H a=some (.dK kvs)):kvs.length≤sizeLine/\(a==UT)=false/\∃vs,KV kvs vs/\h.DictOf (bK P w) a vs:=mY ok (.inl e)
theorem mE(ok:jI P w H h)(e:H a=some (.tup (ks.map kV))):(Xx (bK P w)).is h ks a:=by
 obtain⟨_,its,r,o,h1,h2,n,h3⟩:=(show ObjOk P w H h a (.tup (ks.map kV)) from ok a _ e);exact⟨o,its.toArray,n,h1,h2,h3,by simpa using qU r⟩
theorem pQ(ok:jI P w H h)(e:Rd H a (.dT kvs)):kvs.length≤sizeLine/\(a==UT)=false∧
  ∃xs,KT H kvs xs/\h.DictOfH (Xx (bK P w)) a xs:=by
 obtain⟨z,y,xs,r,o,es,ep,h1,h2,h3,h4,h5⟩:=(show ObjOk P w H h a (.dT kvs) from Jd ok e);refine⟨z,y,xs,r,o,es,ep,h1,h2,h3,h4,λx hx=>?_,h5⟩;have all:∀{l:List (List cZ×V)} {m:List (List cZ×Addr×Value)},KT H l m->∀x∈m,(Xx (bK P w)).is h x.1 x.2.1:=by
  intro l m q
  induction q with
  |nil=>intro x hx;exact nomatch hx
  | @cons p q ps qs hq t ih=>
   intro x hx;rcases Rm.mp hx with e|hx
   ·subst e;exact mE ok (by rw[←hq.1];exact hq.2.1)
   ·exact ih x hx
 exact all r x hx
theorem OI(ok:jI P w H h)(e:H a=some (.dT kvs)):kvs.length≤sizeLine/\(a==UT)=false∧
  ∃xs,KT H kvs xs/\h.DictOfH (Xx (bK P w)) a xs:=pQ ok (.inl e)
end
def lM(H:Hp)(a:Addr)(y:V)(r:Option V):Prop:=
 (∃kvs k,Rd H a (.dK kvs)/\y=kV k/\r=gH kvs k)∨∃kvs k b,Rd H a (.dT kvs)/\y=.ref b/\H b=some (.tup (k.map kV))/\r=gH kvs k
def vf(H:Hp)(a:Addr)(y v:V)(H':Hp):Prop:=
 (∃kvs k,H a=some (.dK kvs)/\y=kV k/\kvs.length<sizeLine/\H'=upd H a (.dK (fY kvs k v)))∨
 ∃kvs k b,H a=some (.dT kvs)/\y=.ref b/\H b=some (.tup (k.map kV))/\kvs.length<sizeLine/\H'=upd H a (.dT (fY kvs k v))
theorem lM.k{H:Hp}{a:Addr}{kvs:List (cZ×V)}{k:cZ}(e:H a=some (.dK kvs)):lM H a (kV k) (gH kvs k):=.inl ⟨kvs,k,.inl e,Z,Z⟩
theorem vf.k{H:Hp}{a:Addr}{kvs:List (cZ×V)}{k:cZ}{v:V}(e:H a=some (.dK kvs))(hl:kvs.length<sizeLine):vf H a (kV k) v (upd H a (.dK (fY kvs k v))):=.inl ⟨kvs,k,e,Z,hl,Z⟩
section
variable {X:Cx}{pins:List (Addr×Obj)}{σ:St}{H:Hp}{s:QQ}{a:Addr}{y v:V}{u r:Value}{o:Option V}{A:RK}{E:Value->QQ->Prop}
theorem Inv.big(I:Inv X pins σ H s):UT<s.heap.objs.size:=by
 have h:RB<s.heap.objs.size:=(I.mod.glob.keeps I.bk).lt;exact WB δ h
theorem Au(hu:A.units+1<cLine)(I:Inv X pins σ H s)(g:lM H a y (some v))(ry:aY y u)(h:∀w' s',Inv X pins σ H s'->aY v w'->Q w' s'):
  Rj (Ro X.prog X.w) A (Xd (.ref a) u) Q E s:=by
 rcases g with⟨kvs,k,e,ey,l⟩ | ⟨kvs,k,b,e,ey,eb,l⟩
 ·subst ey;obtain⟨z,hd,vs,rel,dd⟩:=mY I.hok e;obtain⟨w',hw,rw'⟩:=fL.some_of (v:=v) (o:=YA vs k) (by rw[l];exact rel.val k);exact wpAny_getItem_of (qT ry) dd.mapOf hw (h w' _ (I.tok _) rw')
 ·subst ey
  cases(show u=RA b from ry)
  obtain⟨z,hd,xs,rel,dd⟩:=pQ I.hok e;obtain⟨w',hw,rw'⟩:=fL.some_of (v:=v) (o:=(ZR xs k).map (·.2)) (by rw[l];exact rel.val k);obtain⟨p,hp,hp2⟩:=Tn.mp hw;refine wpAny_getItem_heap (UY hu) (mE I.hok eb) dd hp ?_;rw[hp2];exact h w' _ (I.tok _) rw'
theorem PF(hu:A.units+1<cLine)(I:Inv X pins σ H s)(g:lM H a y o)(ry:aY y u)(h:∀s',Inv X pins σ H s'->Q (.bool o.isSome) s'):
  Rj (Ro X.prog X.w) A (Sz .In u (.ref a)) Q E s:=by
 rcases g with⟨kvs,k,e,ey,l⟩ | ⟨kvs,k,b,e,ey,eb,l⟩
 ·subst ey;obtain⟨z,hd,vs,rel,dd⟩:=mY I.hok e;refine wpAny_in_of (qT ry) hd dd.mapOf ?_;rw[←(rel.val k).isSome_eq,←l];exact h _ (I.tok _)
 ·subst ey
  cases(show u=RA b from ry)
  obtain⟨z,hd,xs,rel,dd⟩:=pQ I.hok e;refine wpAny_in_heap (UY hu) (mE I.hok eb) hd dd ?_;have q:=(rel.val k).isSome_eq;rw[Xj] at q;rw[←q,←l];exact h _ (I.tok _)
theorem Ig(hu:A.units+1<cLine)(I:Inv X pins σ H s)(g:lM H a y o)(ry:aY y u)(h:∀s',Inv X pins σ H s'->Q (.bool (!o.isSome)) s'):
  Rj (Ro X.prog X.w) A (Sz .NotIn u (.ref a)) Q E s:=by
 rcases g with⟨kvs,k,e,ey,l⟩ | ⟨kvs,k,b,e,ey,eb,l⟩
 ·subst ey;obtain⟨z,hd,vs,rel,dd⟩:=mY I.hok e;refine wpAny_notIn_of (qT ry) hd dd.mapOf ?_;rw[←(rel.val k).isSome_eq,←l];exact h _ (I.tok _)
 ·subst ey
  cases(show u=RA b from ry)
  obtain⟨z,hd,xs,rel,dd⟩:=pQ I.hok e;refine wpAny_notIn_heap (UY hu) (mE I.hok eb) hd dd ?_;have q:=(rel.val k).isSome_eq;rw[Xj] at q;rw[←q,←l];exact h _ (I.tok _)
theorem nX(I:Inv X pins σ H s)(mu:OV (H a))(hs:Wy a s.heap h')(he:∃q,h'.get? a=some q)(new:ObjOk X.prog X.w (upd H a ob) h' a ob):
  Inv X pins σ (upd H a ob) { s with heap:=h',toks:=t'}:=
 I.write (x:=a) (e:=a) mu (.inl Z) (λb q hb z=>(hs.2 b hb).trans z) he new
theorem MC(z:kvs.length≤sizeLine)(hd:(a==UT)=false)(rel:KV kvs vs)(dd:h'.DictOf (bK P w) a vs):
  ObjOk P w H' h' a (.dK kvs):=⟨z,hd,vs,rel,dd⟩
theorem As(hu:A.units+1<cLine)(I:Inv X pins σ H s)(g:vf H a y v H')(ry:aY y u)(rv:aY v r)(h:∀s',Inv X pins σ H' s'->Q () s'):
  Rj (Ro X.prog X.w) A (Y2 (.ref a) u r) Q E s:=by
 rcases g with⟨kvs,k,e,ey,l,eH⟩ | ⟨kvs,k,b,e,ey,eb,l,eH⟩
 ·subst ey eH;obtain⟨z,hd,vs,rel,dd⟩:=Fh I.hok e;have hz:vs.length≤sizeLine:=by rw[←rel.length];exact z
  have hl:(fY kvs k v).length≤sizeLine:=by have:=mV kvs k v;lia
  refine wpAny_setItem_pairs (hsz:=hz) (qT ry) dd λh' dd' hs=>h _ ?_
  have he:∃q,h'.get? a=some q:=let ⟨q,_,_,hq,_⟩:=dd';⟨q,hq⟩;exact nX I (by rw[e];exact Ti) hs he (MC hl hd (rel.put k rv) dd')
 ·subst ey eH
  cases(show u=RA b from ry)
  obtain⟨z,hd,xs,rel,dd⟩:=OI I.hok e;have hz:xs.length≤sizeLine:=by rw[←Paired.length rel];exact z
  have hl:(fY kvs k v).length≤sizeLine:=by have:=mV kvs k v;lia
  refine wpAny_setItem_heap (hsz:=hz) (UY hu) (mE I.hok eb) dd λh' dd' hs=>h _ ?_
  obtain⟨q,es,ep,hq,h2,h3,h4,_,h5⟩:=dd';refine nX I (by rw[e];exact Ti) hs ⟨q,hq⟩ ⟨hl,hd,_,(rel.put k eb rv).keeps λc ys ec=>?_,q,es,ep,hq,h2,h3,h4,h5⟩;rw[ai (On ec e (λz=>nomatch z))];exact ec
end
section
variable {X:Cx}{pins:List (Addr×Obj)}{σ:St}{H:Hp}{s:QQ}{a:Addr}{kvs:List (cZ×V)}{k:cZ}{u:Value}{A:RK}{E:Value->QQ->Prop}
theorem OJ(I:Inv X pins σ H s)(e:Rd H a (.dK kvs))(h:∀t s',Inv X pins σ H s'->Q (.int kvs.length t) s'):Rj (Ro X.prog X.w) A (call (.builtin "len") [.ref a]) Q E s:=by
 obtain⟨z,hd,vs,rel,dd⟩:=mY I.hok e;refine call_len_dict hd dd (by rw[←rel.length];rw[SU] at z;lia) ?_;rw[←rel.length];exact h _ _ (I.tok _)
end
def MX(i:RP):Prop:=∀ov iv,Yn i false ov iv=operate [ov,iv] (Xd ov iv)
theorem Ga{prog:Rz}{w:RS}{A:RK}{E:Value->QQ->Prop}{s:QQ}{env:ZU}{value slice:RP}{pos:Uh}{T id:String}{Q:Value->QQ->Prop}
  (hl:typeLookup (.type T) "__getitem__"=SS (some (.builtin id))) (hs:MX slice)
  (h:Rj (Ro prog w) A (eval value env) (λo s₁=>Rj (Ro prog w) A (eval slice env) (λi s₂=>s₂.TypeIs o T/\Rj (Ro prog w) A (Xd o i) Q E s₂) E s₁) E s) :
  Rj (Ro prog w) A (eval (.Subscript value slice pos) env) Q E s:=by
 refine Subscript_ (SA h (λo s₁ h₁=>SA h₁ (λi s₂ h₂=>?_) λ_ _ x=>x) λ_ _ x=>x);obtain⟨hT,h₂⟩:=h₂;unfold YI;refine QR ?_;rw[getitemInPython_of_ne hT.not_modules];refine QR (wpAny_specialOf hT hl ?_);have fin:Rj (Ro prog w) A (Yn slice false o i) (λr s₃=>Rj (Ro prog w) A (letTemporaryGo value o r >>= λ_=>SS r) Q E s₃) E s₂:=by
  rw[hs o i];exact wpAny_operating (SA h₂ (λr s₃ h₃=>QR (wpAny_letTemporaryGo (wpAny_pure h₃))) λ_ _ x=>x)
 first
  |exact wpAny_pure (QR fin)
  |exact QR (wpAny_pure (QR fin))
  |exact QR fin
theorem u4{X:Cx}{pins:List (Addr×Obj)}{σ:St}{H:Hp}{s:QQ}{a:Addr}{y:V}{o:Option V}(I:Inv X pins σ H s)(g:lM H a y o):s.TypeIs (.ref a) "dict" := by
 rcases g with⟨kvs,k,e,_,_⟩ | ⟨kvs,k,b,e,_,_,_⟩
 ·obtain⟨_,_,vs,_,dd⟩:=mY I.hok e;exact dd.typeIs
 ·obtain⟨_,_,xs,_,dd⟩:=pQ I.hok e;exact dd.typeIs
def IT(td ty:TE):TE:=λσ H Q=>td σ H λx H1=>ty σ H1 λy H2=>∃a v,x=.ref a/\lM H2 a y (some v)/\Q v H2
def Nx(ty td:TE):TE:=λσ H Q=>ty σ H λy H1=>td σ H1 λx H2=>∃a o,x=.ref a/\lM H2 a y o/\Q (.bl o.isSome) H2
def xN(ty td:TE):TE:=λσ H Q=>ty σ H λy H1=>td σ H1 λx H2=>∃a o,x=.ref a/\lM H2 a y o/\Q (.bl (!o.isSome)) H2
def Jb(td ty tv:TE):TS:=λD σ H=>tv σ H λv H1=>td σ H1 λx H2=>ty σ H2 λy H3=>∃a H4,x=.ref a/\vf H3 a y v H4/\D.nx σ H4
section
variable {X:Cx}{o i e value:RP}{pos pos' tpos:Uh}{td ty tv:TE}
theorem Hi(hu:X.A.units+1<cLine)(ho:PE X o td)(hi:PE X i ty)(hs:MX i):PE X (.Subscript o i pos) (IT td ty):=by
 intro pins s σ H Q I h;refine Ga PySem.F.slot_dict_getitem.lookup hs (bQ (ho pins s σ H _ I h) λu s1 ⟨x,H1,I1,rx,q1⟩=>bQ (hi pins s1 σ H1 _ I1 q1) λiv s2 ⟨y,H2,I2,ry,a,v,ex,g,q2⟩=>?_);subst ex;obtain rfl:u=RA a:=rx;exact⟨u4 I2 g,Au hu I2 g ry λw' s3 I3 rw'=>⟨v,H2,I3,rw',q2⟩⟩
theorem Le(hu:X.A.units+1<cLine)(hi:PE X i ty)(ho:PE X o td):PC X .In i o (Nx ty td):=by
 intro pins s σ H Q I h;refine bQ (hi pins s σ H _ I h) λiv s1 ⟨y,H1,I1,ry,q1⟩=>bQ (ho pins s1 σ H1 _ I1 q1) λu s2 ⟨x,H2,I2,rx,a,ov,ex,g,q2⟩=>?_
 subst ex;obtain rfl:u=RA a:=rx;exact PF hu I2 g ry λs3 I3=>⟨.bl ov.isSome,H2,I3,Z,q2⟩
theorem zX(hu:X.A.units+1<cLine)(hi:PE X i ty)(ho:PE X o td):PC X .NotIn i o (xN ty td):=by
 intro pins s σ H Q I h;refine bQ (hi pins s σ H _ I h) λiv s1 ⟨y,H1,I1,ry,q1⟩=>bQ (ho pins s1 σ H1 _ I1 q1) λu s2 ⟨x,H2,I2,rx,a,ov,ex,g,q2⟩=>?_
 subst ex;obtain rfl:u=RA a:=rx;exact Ig hu I2 g ry λs3 I3=>⟨.bl (!ov.isSome),H2,I3,Z,q2⟩
theorem GL(hu:X.A.units+1<cLine)(ho:PE X o td)(hi:PE X i ty)(hv:PE X value tv)(hs:TZ value (some (.Subscript o i pos')) pos.line X.env=SS false) :
  PS X (.Assign [.Subscript o i pos'] value pos) (Jb td ty tv):=by
 intro pins s σ H D I h;refine wpAny_Assign_Subscript (bQ (hv pins s σ H _ I h) λr s1 ⟨v,H1,I1,rv,q1⟩=>bQ (ho pins s1 σ H1 _ I1 q1) λu s2 ⟨x,H2,I2,rx,q2⟩=>bQ (hi pins s2 σ H2 _ I2 q2) λiv s3 ⟨y,H3,I3,ry,a,H4,ex,g,q3⟩=>?_) hs;subst ex;obtain rfl:u=RA a:=rx;exact As hu I3 g ry rv λs4 I4=>⟨σ,H4,I4,q3⟩
end
theorem Fi(h:Ra)(hb:UT<h.objs.size):ObjOk P w H (h.push { cls:=.type "dict",data:=.dict #[]}) h.objs.size (.dK []):=
 ⟨Rq _,beq_eq_false_iff_ne.mpr (SO (RZ hb)),[],.nil,Ra.DictOf.new h⟩
def A9:TE:=λ_ H Q=>∀p,H p=none->Q (.ref p) (upd H p (.dK []))
section
variable {X:Cx}{pos:Uh}
theorem DX:PE X (.Dict [] [] pos) A9:=λpins s σ H Q I h=>
 wpAny_Dict_empty ⟨.ref s.heap.objs.size,_,I.laid (a:=s.heap.objs.size) (o:=.dK []) (t':=s.toks) (λ_ _ q=>QP _ q) (QY _) (Fi s.heap I.big),Z,h _ (I.hok.fresh (QY _))⟩
end
structure M2(X:Cx)(o:RP)(m:RF)(apos:Uh)(e f:RP)(cpos:Uh):Prop where
 base:Tw o m X.env (eval o X.env)=eval o X.env
 few:((Te cpos (Q6 [e,f] X.env)).all (λx=>!x.1)&&(WR cpos (Vb [] X.env)).all (λx=>x.1.isSome)
 &&decide (([e,f]:List RP).length+([]:List Xh).length+(if([]:List Xh).isEmpty then 0 else 1)<30))=true
 line:(apos.endLine==cpos.line)=true
 trees:Te cpos (Q6 [e,f] X.env)=[(false,eval e X.env),(false,eval f X.env)]
def Qq(H:Hp)(a:Addr):Prop:=(∃kvs,Rd H a (.dK kvs))∨∃kvs,Rd H a (.dT kvs)
theorem ES{X:Cx}{pins:List (Addr×Obj)}{σ:St}{H:Hp}{s:QQ}{a:Addr}(I:Inv X pins σ H s)(d:Qq H a) :
  s.TypeIs (.ref a) "dict"/\(∀b,RA a=.ref b->∃ob,s.heap.get? b=some ob/\ob.dict=none)/\(a==UT)=false:=by
 rcases d with⟨kvs,e⟩ | ⟨kvs,e⟩
 ·obtain⟨_,hd,vs,_,dd⟩:=mY I.hok e;refine⟨dd.typeIs,λb q=>?_,hd⟩
  cases q
  obtain⟨ob,_,_,h1,h2,_⟩:=dd;exact⟨ob,h1,h2.2.1⟩
 ·obtain⟨_,hd,xs,_,dd⟩:=pQ I.hok e;refine⟨dd.typeIs,λb q=>?_,hd⟩
  cases q
  obtain⟨ob,_,_,h1,h2,_⟩:=dd;exact⟨ob,h1,h2.2.1⟩
section
variable {X:Cx}{pins:List (Addr×Obj)}{σ:St}{H:Hp}{s:QQ}{a:Addr}{y d:V}{u r:Value}{o:Option V}{A:RK}{E:Value->QQ->Prop}
theorem MD(hu:A.units+1<cLine)(I:Inv X pins σ H s)(g:lM H a y o)(ry:aY y u)(rd:aY d r)(h:∀w' s',Inv X pins σ H s'->aY (o.getD d) w'->Q w' s'):
  Rj (Ro X.prog X.w) A (call (.builtin "dict.get") [.ref a,u,r]) Q E s:=by
 rcases g with⟨kvs,k,e,ey,l⟩ | ⟨kvs,k,b,e,ey,eb,l⟩
 ·subst ey;obtain⟨z,hd,vs,rel,dd⟩:=mY I.hok e;refine call_meetsIn VY dd.typeIs X3 (XJ _ _ _) (meets_dict_get_default (bK X.prog X.w) a (qT ry) hd r) ⟨_,dd.mapOf,h _ _ (I.tok _) ?_⟩;rw[l];exact(rel.val k).getD rd
 ·subst ey
  cases(show u=RA b from ry)
  obtain⟨z,hd,xs,rel,dd⟩:=pQ I.hok e;refine call_meetsIn VY dd.typeIs X3 (XJ _ _ _) (meetsH_dict_get_default (Xx (bK X.prog X.w)) a b hd r) ⟨UY hu,k,xs,mE I.hok eb,dd,h _ _ (I.tok _) ?_⟩;rw[l];exact(rel.val k).getD rd
end
def Ba(td ty tx:TE):TE:=λσ H Q=>td σ H λx H1=>∃a,x=.ref a/\Qq H1 a/\ty σ H1 λy H2=>tx σ H2 λz H3=>∃o,lM H3 a y o/\Q (o.getD z) H3
section
variable {X:Cx}{o e f:RP}{apos cpos:Uh}{td ty tx:TE}
theorem DY(hu:X.A.units+1<cLine)(ho:PE X o td)(he:PE X e ty)(hf:PE X f tx)(m:M2 X o "get" apos e f cpos):PE X (.Call (.Attribute o "get" apos) [e,f] [] cpos) (Ba td ty tx):=by
 intro pins s σ H Q I h;refine Zu m.base m.few m.line XM VY PySem.F.type_dict_get (bQ (ho pins s σ H _ I h) λu s1 ⟨x,H1,I1,rx,a,ex,d,q1⟩=>?_);subst ex;obtain rfl:u=RA a:=rx;obtain⟨t1,t2,_⟩:=ES I1 d;refine⟨t1,t2,?_⟩;rw[m.trees];refine Calls.callWith_builtin Z (Calls.evalArgs_plain (Calls.spliced_cons (bQ (he pins s1 σ H1 _ I1 q1) λiv s2 ⟨y,H2,I2,ry,q2⟩=>
  Calls.spliced_cons (bQ (hf pins s2 σ H2 _ I2 q2) λfv s3 ⟨z,H3,I3,rz,ov,g,q3⟩=>Calls.spliced_nil ?_))))
 exact MD hu I3 g ry rz λw' s4 I4 rw'=>⟨_,H3,I4,rw',q3⟩
end
end L2
namespace B
open PySem PySem.Spec L2 PyProof.Rows
theorem rJ{α:Type}{K:QJ}{H:Hp}{D a:Addr}{xs:List V}{ds:List α}{P:Hp->V->α->Prop}{Ok:α->Prop}{src:List (Option Nat)}{σ:L2.St}{g:TG}{tt:TT}{te:TE}{Q:Hp->Prop}
  (mono:∀H H' v d,ay K H H'->P H v d->P H' v d) (hD:H D=none) (hS:aJ K H a xs) (als:bR (P H) xs ds) (hn:ds.length≤1000)
  (turn:∀(i:Nat) (x:V) (d:α) (H':Hp),xs[i]?=some x->ds[i]?=some d->ax H H'->P H' x d->∀(R:VK) (E:Hp->Prop),(∀H'',ax H' H''->Ok d->R x H'')->(∀H'',ax H' H''->¬Ok d->E H'')→
   g x (cI src σ) H' λσ2 H2=>fz (cI src σ) σ2/\tt σ2 H2 λok H3=>if ok=true then te σ2 H3 R else E H3)
  (fin:∀H' ys es,ax H H'->H' D=some (.lst ys)->bR (P H') ys es->es.length≤ds.length->(∀e∈es,e∈ds/\Ok e)->(∀d∈ds,Ok d->d∈es)->Q H') :
  ∃W:Nat->Nat->List V->Hp->Prop,(∃m,W 0 m [] (upd H D (.lst [])))/\∀i m ys H,W i m ys H->((xx K a).stop i H/\Q H)∨((xx K a).go i H/\∀x H',(xx K a).yld i H x H'→
   g x (cI src σ) H' λσ2 H2=>fz (cI src σ) σ2/\tt σ2 H2 λok H3=>
    if ok=true then te σ2 H3 λy H4=>H4 D=some (.lst ys)/\ys.length<sizeLine/\∃m',m'<m/\W (i+1) m' (ys++[y]) (upd H4 D (.lst (ys++[y]))) else ∃m',m'<m/\W (i+1) m' ys H3):=by
 refine⟨λi m ys H'=>i≤ds.length/\m=ds.length-i/\H' D=some (.lst ys)/\ax H H'/\∃es,bR (P H') ys es/\es.length≤i/\(∀e∈es,e∈ds/\Ok e)/\∀d∈ds.take i,Ok d->d∈es,⟨_,Rq _,Z,aa,ae hD _,[],.nil,QY _,(λd hd=>by cases hd),λd hd=>by simp at hd⟩,?_⟩;rintro i m ys H1 ⟨hi,rfl,d1,s1,es,al1,hlen,ok,all⟩;have hS1:aJ K H1 a xs:=s1.seq hS;by_cases hix:i<ds.length
 ·have hx0:xs[i]?=some (xs[i]'(by rw[als.len];exact hix)):=QH _;refine .inr ⟨⟨xs,_,hS1,hx0⟩,?_⟩;rintro x H2 ⟨rfl,hy⟩;have hx:=hy xs hS1;obtain⟨d,hd,pd⟩:=als.at hx;have tk:∀z,z∈ds.take (i+1)->z∈ds.take i∨z=d:=λz hz=>by
   rw[Rt,hd] at hz;rcases Rc.mp hz with h|h
   ·exact .inl h
   ·exact .inr (by simpa using h)
  refine turn i x d _ hx hd s1 (mono _ _ _ _ (ay.same s1) pd) _ _ (λH3 s3 o3=>?_) λH3 s3 n3=>?_
  ·have d3:H3 D=some (.lst ys):=s3 _ _ d1;have tm:ay K H2 (upd H3 D (.lst (ys++[x]))):=(ay.same s3).trans (ay.up d3 _);refine⟨d3,aN (by rw[al1.len];lia),ds.length-(i+1),ω,hix,Z,aa,λb o q=>?_,es++[d],(al1.mono λv d p=>mono _ _ _ _ tm p).snoc (mono _ _ _ _ ((ay.same s1).trans tm) pd),by rw[Q8];exact XN hlen,λz hz=>?_,λz hz oz=>?_⟩
   ·rw[ai (au q hD)];exact s3 _ _ (s1 _ _ q)
   ·rcases Rc.mp hz with h|h
    ·exact ok z h
    ·rw[Q2] at h;rw[h];exact⟨QL hd,o3⟩
   grind
  ·refine⟨ds.length-(i+1),ω,hix,Z,s3 _ _ d1,s1.trans s3,es,al1.mono λv d p=>mono _ _ _ _ (ay.same s3) p,ω,ok,λz hz oz=>?_⟩;rcases tk z hz with h|h
   ·exact all z h oz
   ·rw[h] at oz;exact absurd oz n3
 ·have e:i=ds.length:=ω
  subst e;rw[RW] at all;exact .inl ⟨⟨xs,hS1,by rw[als.len];exact QY _⟩,fin H1 ys es s1 d1 al1 hlen ok all⟩
theorem bi.len{K:QJ}{H:Hp}:∀{xs:List V} {ds:List R5},bi K H xs ds->xs.length=ds.length
 |_,_,.nil=>rfl
 |_,_,.cons _ t=>congrArg aae t.len
mutual
theorem dL.same{K:QJ}{H H':Hp}(s:ax H H'):∀{v:V} {d:R5},dL K H v d->dL K H' v d
 |_,_,.non=>.non
 |_,_,.bl b=>.bl b
 |_,_,.int i=>.int i
 |_,_,.str x=>.str x
 |_,_,.lst e t=>.lst (s.seq e) (bi.same s t)
 |_,_,.tup e t=>.tup (ay.same s _ _ e) (bi.same s t)
theorem bi.same{K:QJ}{H H':Hp}(s:ax H H'):∀{vs:List V} {ds:List R5},bi K H vs ds->bi K H' vs ds
 |_,_,.nil=>.nil
 |_,_,.cons h t=>.cons (dL.same s h) (bi.same s t)
end
end B
namespace B
open PySem PySem.Spec L2 PyProof.Rows
theorem MF{xs:List V}(h:n≤xs.length):mH xs none (some (n:Int))=xs.take n:=by
 unfold mH;rw[HT.sIx_nat,HT.sIx_none,VB h,Zt,Yr]
section
set_option autoImplicit true
set_option relaxedAutoImplicit true
theorem kK{X:Cx}{elts:List RP}{x1}{tp p pos:Uh}{a:RP}{ta:TA}(hg:Gl X "enumerate")(hm:X.mg "enumerate"=none)(ha:QA X [a] ta)(hs:Q6 [a] X.env=[(false,eval a X.env)]:=by rfl):QI X (.Tuple elts x1 tp) (.Call (.Name "enumerate" p) [a] [] pos) (Ov X.K ta):=⟨DR hg hm ha.p hs⟩
end
theorem tJ:∀{ns:List Int} {us:List Value},aW (ns.map V.int) us->Xi us ns
 | [],_,.nil=>.nil
 |n::ns,_,.cons r t=>by
  obtain⟨tk,rfl⟩:=(show ∃t,_=Vi n t from r);exact .cons _ _ (tJ t)
theorem rK(hc:X.calm=true):eF X (.builtin "sum") (λxs H Q=>∃(p:Addr) (ns:List Int),xs=[.ref p]/\aJ X.K H p (ns.map V.int)/\Q (.int ns.sum) H):=by
 intro pins s σ H xs us Q I r h;obtain⟨p,ns,rfl,hq,q⟩:=h;obtain⟨u,rfl,rx⟩:=jB r
 cases rx
 obtain⟨its,rv,pl,hz⟩:=I.list hq;have hi:=tJ rv;obtain⟨zs,ez⟩:=hi.allInts.items;have hl:=pl.isList;rw[ez] at hl;have en:numsOf its=ns:=hi.numsOf;rw[show its=its.toArray.toList from Z,ez,nums_intItems] at en;refine sum_intListG (I.ok.hd hc) hl λh' tk t' hk=>?_
 rw[preSum_eq,SC (by simp),en];exact⟨.int ns.sum,H,I.kept (t':=tk) hk,⟨_,Z⟩,q⟩
section
variable {prog:Rz}{w:RS}{A:RK}{E:Value->QQ->Prop}{s:QQ}
end
def upTo(n:Nat):List Int:=(QM n).map λi:Nat=>(i:Int)
theorem vn(h:ItemsOf (λi v=>∃t,v=.int ((0:Int)+i*1) t) acc n):aW ((upTo n).map V.int) acc.toList:=by
 obtain⟨hl,ha⟩:=h;have key:∀m,m≤n->aW ((upTo m).map V.int) (acc.toList.take m):=by
  intro m
  induction m with
  |zero=>intro _;rw[Vg];exact .nil
  |succ m ih=>
   intro hm;have hlt:m<acc.size:=ω
   have e1:acc.toList.take (m+1)=acc.toList.take m++[acc[m]]:=by
    rw[Rt];simp[hlt]
   have e2:(upTo (m+1)).map V.int=(upTo m).map V.int++[V.int m]:=by
    unfold upTo;rw[S7];simp
   rw[e1,e2];refine(ih ω).append (.cons ?_ .nil);obtain⟨t,e⟩:=ha m acc[m] (by simp[hlt]);exact⟨t,by rw[e];simp⟩
 have:=key n (QY _)
 rwa [SC (by simp[hl])] at this
def IM(ta:TA):TE:=λσ H Q=>ta σ H λvs H1=>∃j:Int,vs=[.int j]/\∀p,H1 p=none->Q (.ref p) (upd H1 p (.rng 0 j))
theorem He{X:Cx}{a:RP}{ta:TA}{p pos:Uh}(hg:Gl X "range")(hm:X.mg "range"=none)(ha:PA X [a] ta)(hs:Q6 [a] X.env=[(false,eval a X.env)]:=by rfl) :
  PE X (.Call (.Name "range" p) [a] [] pos) (IM ta):=by
 intro pins s σ H Q I h;refine Call_ (iW I hg hm Z6 (Td (bQ (ha pos pins s σ H _ I h) λus s1 ⟨vs,H1,I1,r1,q1⟩=>?_) hs Z));obtain⟨j,e,q⟩:=q1;subst e;obtain⟨u,rfl,t,rfl⟩:=jB r1;refine call_range_1 ?_;exact⟨.ref s1.heap.objs.size,_,I1.laid (o:=.rng 0 j) (λb o e=>QP _ e) (QY _) ⟨_,t,_,Rg _ Z⟩,Z,q _ (I1.hok.fresh (QY _))⟩
theorem Ge(n:Nat):VG 0 n 1=n:=by rw[YH];split<;>lia
section
set_option autoImplicit true
set_option relaxedAutoImplicit true
theorem yj{X:Cx}{a:RP}{ta:TA}{p pos:Uh}(hg:Gl X "range")(hm:X.mg "range"=none)(ha:QA X [a] ta)(hs:Q6 [a] X.env=[(false,eval a X.env)]:=by rfl):QE X (.Call (.Name "range" p) [a] [] pos) (IM ta):=⟨He hg hm ha.p hs⟩
end
structure Iz(J:It)(H:Hp)(n:Nat)(P:Nat->V->Hp->Prop):Prop where
 go:∀i H',i<n->ax H H'->J.go i H'
 stop:∀H',ax H H'->J.stop n H'
 yld:∀i H' x H'',i<n->ax H H'->J.yld i H' x H''->ax H' H''/\P i x H''
theorem cK{K:QJ}{H:Hp}{a:Addr}{xs:List V}(h:aJ K H a xs):Iz (xx K a) H xs.length (λi x _=>xs[i]?=some x) where
 go:=λi H' hi s=>⟨xs,_,s.seq h,QH hi⟩
 stop:=λH' s=>⟨xs,s.seq h,QY _⟩
 yld:=λi H' x H'' hi s y=>by obtain⟨rfl,hy⟩:=y;exact⟨ax.refl _,hy xs (s.seq h)⟩
theorem rX{K:QJ}{H:Hp}{a:Addr}{xs:List V}(h:cE K H a xs):Iz (JL K a) H xs.length (λi x _=>xs[i]?=some x) where
 go:=λi H' hi s=>⟨xs,_,ay.same s _ _ h,QH hi⟩
 stop:=λH' s=>⟨xs,ay.same s _ _ h,QY _⟩
 yld:=λi H' x H'' hi s y=>by obtain⟨rfl,hy⟩:=y;exact⟨ax.refl _,hy xs (ay.same s _ _ h)⟩
theorem j7{lo:Int}{n:Nat}:Iz (FO lo n) H n (λi x _=>x=.int (lo+i)) where
 go:=λi H' hi s=>hi
 stop:=λH' s=>QY _
 yld:=λi H' x H'' hi s y=>by obtain⟨rfl,rfl⟩:=y;exact⟨ax.refl _,Z⟩
theorem nF{K:QJ}{H:Hp}{a:Addr}{xs:List V}(h:aJ K H a xs):Iz (OX K a) H xs.length (λi v H'=>∃p x,v=.ref p/\xs[i]?=some x/\H' p=some (.tup [.int i,x])) where
 go:=λi H' hi s=>⟨xs,_,s.seq h,QH hi⟩
 stop:=λH' s=>⟨xs,s.seq h,QY _⟩
 yld:=λi H' x H'' hi s y=>by obtain⟨p,v,hp,rfl,rfl,hy⟩:=y;exact⟨ae hp _,p,v,Z,hy xs (s.seq h),aa⟩
theorem cr(w:Iz J H n P)(c:Nat->Bool)(f:Nat->V)(hD:H D=none)(hn:n≤1000)
  (turn:∀(i:Nat) (x:V) (H':Hp),i<n->ax H H'->P i x H'->∀(R:VK) (E:Hp->Prop),(c i=true->∀H'',ax H' H''->R (f i) H'')->(c i=false->∀H'',ax H' H''->E H'')→
   g x (cI src σ) H' λσ2 H2=>fz (cI src σ) σ2/\tt σ2 H2 λok H3=>if ok=true then te σ2 H3 R else E H3)
  (fin:∀H',ax H H'->H' D=some (.lst (((QM n).filter c).map f))->Q H'):
  O5 J D H src σ g tt te Q:=by
 refine⟨λi m ys H'=>i≤n/\m=n-i/\ys=((QM i).filter c).map f/\ax H H'/\H' D=some (.lst ys),⟨_,Rq _,Z,Z,ae hD _,aa⟩,?_⟩;rintro i m ys H1 ⟨hi,rfl,rfl,s1,d1⟩;by_cases hix:i<n
 ·refine .inr ⟨w.go i H1 hix s1,λx H2 y=>?_⟩;obtain⟨s2,p⟩:=w.yld i H1 x H2 hix s1 y;have d2:=s2 _ _ d1;have len:(((QM i).filter c).map f).length≤i:=by
   grind
  refine turn i x H2 hix (s1.trans s2) p _ _ (λhc H3 s3=>?_) λhc H3 s3=>?_
  ·have d3:=s3 _ _ d2;refine⟨d3,aN ω,n-(i+1),ω,hix,Z,?_,λb o q=>?_,aa⟩
   ·rw[S7,Sm,Rb];simp[hc]
   ·rw[ai (au q hD)];exact s3 _ _ (s2 _ _ (s1 _ _ q))
  ·refine⟨n-(i+1),ω,hix,Z,?_,(s1.trans s2).trans s3,s3 _ _ d2⟩;rw[S7,Sm,Rb];simp[hc]
 ·have e:i=n:=ω
  subst e;exact .inl ⟨w.stop H1 s1,fin H1 s1 d1⟩
theorem lE{α β:Type}(d:α)(p:α->Bool)(f:α->β):∀l:List α,((QM l.length).filter λi=>p (l.getD i d)).map (λi=>f (l.getD i d))=(l.filter p).map f
 | []=>rfl
 |x::l=>by
  have ih:=lE d p f l;rw[RU,X4,Wc,Wc];have e:(((QM l.length).map aae).filter λi=>p ((x::l).getD i d)).map (λi=>f ((x::l).getD i d))=(l.filter p).map f:=by
   rw[Wo,RO];exact ih
  grind
theorem bH{α β:Type}(d:α)(f:α->β)(l:List α):((QM l.length).filter λ_=>true).map (λi=>f (l.getD i d))=l.map f:=by
 have:=lE d (λ_=>true) f l;rw[this,Sg.mpr (by intros;rfl)]
theorem aD{α:Type}{l:List α}{i:Nat}{x:α}(d:α)(h:l[i]?=some x):l.getD i d=x:=by rw[Q1,h];rfl
section
variable {prog:Rz}{w:RS}{A:RK}{E:Value->QQ->Prop}{s:QQ}
theorem Dh(hl:s.heap.get? l=some { cls:=.type "list",dict:=none,data:=.seq items k,slots:=#[]})
  (hlo:-(2^63:Int)≤x) (hhi:x<2^63) (hsz:items.size*x.toNat≤2^24)
  (h:Q (.ref s.heap.objs.size) { s with heap:=s.heap.push { cls:=.type "list",data:=.seq (aag (λx1 x2=>x1++x2) #[] (Q0 (if items.isEmpty=true then 0 else x.toNat) items))} }):
  Rj (Ro prog w) A (Ua .Mult (.ref l) (.int x u)) Q E s:=
 wpAny_binaryOp_repeat_ref (T := "list") (U := "int") δ ⟨_,hl,Z⟩ (λs'=>typeIs_int s' x u) noFill_list_mul F.fills_int_mul F.slot_int_rmul repeat_list F.slot_int_index.lookup
  (YR F.slot_int_rmul (typeIs_int s x u) F.entry_int_rmul (F.args_int_rmul_2 _ _) (int___rmul___int_list x u l items k)
   ⟨hl,Z,⟨_,hl,Z⟩,YR F.slot_list_mul ⟨_,hl,Z⟩ F.entry_list_mul (F.args_list_mul_2 _ _)
    (AutoListH.list___mul___list_int_3 l items k x u (by simp[R9.List.listFitsIndex];lia) ω (by simp[R9.List.listTooLong,sizeLine];lia))
    ⟨hl,h⟩⟩)
end
theorem u3(u:Value):∀(n:Nat) (acc:Array Value),(aag (λx1 x2=>x1++x2) acc (Q0 n #[u])).toList=acc.toList++Q0 n u
 |0,acc=>by simp
 |n+1,acc=>by
  rw[YE,Yb,u3 u n,YE];simp
theorem uf{v:V}{u:Value}(r:aY v u):∀n:Nat,aW (Q0 n v) (Q0 n u)
 |0=>.nil
 |n+1=>.cons r (uf r n)
theorem nO:iF X (Ua .Mult) (λx y H Q=>∃(p:Addr) (v:V) (n:Nat),x=.ref p/\y=.int n/\H p=some (.lst [v])/\n≤1000/\∀l,H l=none->Q (.ref l) (upd H l (.lst (Q0 n v)))):=by
 intro pins s σ H x y xv yv Q I rx ry h;obtain⟨p,v,n,rfl,rfl,hp,hn,q⟩:=h
 cases(show xv=RA p from rx)
 obtain⟨t,rfl⟩:=(show ∃t,yv=Vi n t from ry);obtain⟨_,its,c,rv,e⟩:=(show ObjOk X.prog X.w H s.heap p (.lst [v]) from I.hok p _ hp)
 cases rv with
 | @cons _ u _ _ r0 rr=>
 cases rr
 refine Dh e ω ω (by simp;lia) ?_;have el:(aag (λx1 x2=>x1++x2) #[] (Q0 (if([u]:List Value).toArray.isEmpty=true then 0 else(n:Int).toNat) [u].toArray))=(Q0 n u).toArray:=by
  apply Array.ext';have:=u3 u n #[]
  simpa using this
 rw[el];have I2:Inv X pins σ (upd H s.heap.objs.size (.lst (Q0 n v))) { s with heap:=s.heap.push { cls:=.type "list",data:=.seq (Q0 n u).toArray} }:=
  I.laid (t':=s.toks) (λb o e=>QP _ e) (QY _) (show ObjOk X.prog X.w _ _ _ (.lst (Q0 n v)) from⟨by rw[R0,SU];lia,Q0 n u,_,uf r0 n,Rg _ Z⟩)
 exact⟨.ref s.heap.objs.size,_,I2,Z,q _ (I.hok.fresh (QY _))⟩
theorem w8(hc:X.calm=true):eF X (.type "list") (λxs H Q=>∃p,∃n:Nat,xs=[.ref p]/\H p=some (.rng 0 n)/\n≤1000/\∀l,H l=none->Q (.ref l) (upd H l (.lst ((upTo n).map V.int)))):=by
 intro pins s σ H xs us Q I r h;obtain⟨p,n,rfl,hp,hn,q⟩:=h;obtain⟨u,rfl,rx⟩:=jB r
 cases rx
 obtain⟨t,u,w,e⟩:=(show ObjOk X.prog X.w H s.heap p (.rng 0 n) from I.hok p _ hp);refine call_list_range (I.ok.hd hc) (show IsRange s.heap p 0 n 1 t u w from e) (small_one ω ω ω ω) (Ge n) ω λh' tk acc c' hk hS hi=>?_
 have rv:=vn hi;have hl:(upTo n).length=n:=by unfold upTo;simp
 have I2:Inv X pins σ (upd H s.heap.objs.size (.lst ((upTo n).map V.int))) { s with heap:=h',toks:=tk}:=
  I.laid (t':=tk) hk (QY _) (show ObjOk X.prog X.w _ _ _ (.lst ((upTo n).map V.int)) from⟨by rw[QK,hl,SU];lia,acc.toList,c',rv,by simpa using hS⟩)
 exact⟨.ref s.heap.objs.size,_,I2,Z,q _ (I.hok.fresh (QY _))⟩
theorem Mp(rx:ZO h x d as)(ry:ZO h y e bs)(cd:d.canLay0=true)(ce:e.canLay0=true)(dp:e.depth≤32)(rf:Sk d d=true):k9 h x d y=Sk e d:=by
 unfold k9;by_cases q:y=x
 ·subst q;rw[if_pos Z,YX _ _ _ _ _ ce ry rx,rf]
 ·have z:∃d',d'.canLay0=true/\d'.depth≤32/\∃as,ZO h y d' as:=⟨e,ce,dp,bs,ry⟩;rw[if_neg q,dif_pos z];obtain⟨c,_,cs,r⟩:=z.choose_spec;rw[YX _ _ _ _ _ ce ry r]
def FH(ds:List R5):Prop:=∀e∈ds,e.canLay0=true/\e.depth≤32
theorem pH{X:Cx}{pins:List (Addr×Obj)}{σ:L2.St}{H:Hp}{s:QQ}(I:Inv X pins σ H s){v:Value}{d:R5}{as:List Addr}(rx:ZO s.heap v d as)(cd:d.canLay0=true)(rf:Sk d d=true) :
  ∀{xs:List V} {us:List Value} {ds:List R5},aW xs us->bi X.K H xs ds->FH ds->us.map (k9 s.heap v d)=ds.map λe=>Sk e d
 |_,_,_,.nil,.nil,_=>rfl
 |_,_,_,.cons r t,.cons h k,l=>by
  obtain⟨bs,ry⟩:=dL.reads I h r;obtain⟨ce,dp⟩:=l _ QV;rw[Rr,Rr,Mp rx ry cd ce dp rf,pH I rx cd rf t k λe he=>l e (QX _ he)]
theorem bi.known{K:QJ}{H:Hp}:∀{xs:List V} {ds:List R5},bi K H xs ds->FH ds->JK K H xs
 |_,_,.nil,_,x,hx=>by cases hx
 |_,_,.cons h t,l,x,hx=>by
  rcases Rm.mp hx with rfl|hx
  ·obtain⟨a,b⟩:=l _ QV;exact⟨_,h,a,b⟩
  ·exact bi.known t (λe he=>l e (QX _ he)) x hx
def Gn(K:QJ):R2:=λx y H Q=>∃p xs ds d,y=.ref p/\aJ K H p xs/\bi K H xs ds/\FH ds/\dL K H x d/\d.canLay0=true/\Sk d d=true/\Q (.bl (!ds.any λe=>Sk e d)) H
theorem pX{α β:Type}{f:α->Bool}{g:β->Bool}:∀{l:List α} {m:List β},l.map f=m.map g->l.any f=m.any g
 | [],[],_=>rfl
 | [],_::_,h=>by simp at h
 |_::_,[],h=>by simp at h
 |a::l,b::m,h=>by
  rw[Rr,Rr] at h;injection h with h1 h2;rw[U5,U5,h1,pX h2]
theorem zY(hr:cA k X.A):iF X (Sz .NotIn) (Gn X.K):=by
 intro pins s σ H x y v u Q I rx ry h;obtain⟨p,xs,ds,d,rfl,hq,hd,ls,hx,cd,rf,q⟩:=h
 cases ry
 obtain⟨its,r,pl,hz⟩:=I.list hq;obtain⟨as,ra⟩:=dL.reads I hx rx;refine SeqAt.notIn_listAt (k9 s.heap v d) pl.isList (λw hw=>uW ra cd (by show X.A.units+1+32<cLine;have:=hr.units;lia) (iX I r (hd.known ls) w (by simpa using hw))) ⟨_,H,I,?_,q⟩;show VD (!its.toArray.any (k9 s.heap v d))=VD (!ds.any λe=>Sk e d);rw[List.any_toArray,pX (pH I ra cd rf r hd ls)]
theorem AE{α β γ:Type}{f:α->γ}{g:β->γ}{l:List α}{m:List β}(h:l.map f=m.map g){j:Nat}{a:α}{b:β}(ha:l[j]?=some a)(hb:m[j]?=some b):f a=g b:=by
 have e:(l.map f)[j]?=(m.map g)[j]?:=by rw[h]
 rw[Q4,Q4,ha,hb] at e;exact R6 e
mutual
def QC:R5->Bool
 | .int i=>decide (i.natAbs<2^230)
 | .tuple ds=>wN ds
 | .list ds=>wN ds
 | .dict _=>false
 |_=>true
def wN:List R5->Bool
 | []=>true
 |d::ds=>QC d&&wN ds
end
theorem mC:∀{ds:List R5},(∀d∈ds,d.canLay0=true)->Zv ds=true
 | [],_=>rfl
 |d::ds,h=>by
  show(d.canLay0&&Zv ds)=true;rw[h d QV,mC λe he=>h e (QX _ he)];rfl
end B
namespace B
open PySem PySem.Spec L2 PyProof.Rows
theorem Az(hc:X.calm=true):eF X (.builtin "min") (λxs H Q=>∃(p:Addr) (ns:List Int),xs=[.ref p]/\aJ X.K H p (ns.map V.int)/\0<ns.length/\∀M,M∈ns->(∀a∈ns,M≤a)->Q (.int M) H):=by
 intro pins s σ H xs us Q I r h;obtain⟨p,ns,rfl,hq,hne,q⟩:=h;obtain⟨u,rfl,rx⟩:=jB r
 cases rx
 obtain⟨its,rv,pl,hz⟩:=I.list hq;have hi:=tJ rv;obtain⟨zs,ez⟩:=hi.allInts.items;have hl:=pl.isList;rw[ez] at hl;have en:numsOf its=ns:=hi.numsOf;rw[show its=its.toArray.toList from Z,ez,nums_intItems] at en;have hlen:zs.size=ns.length:=by rw[←en,QK,Tq]
 refine min_intList (I.ok.hd hc) hl ω λv h' tk hv hk=>?_
 obtain⟨t,rfl⟩:=intItems_at hv;obtain⟨h1,h2⟩:=argBest_lt (numAt zs) (zs.size-1);refine⟨.int _,H,I.kept (t':=tk) hk,⟨_,Z⟩,q _ ?_ λa ha=>?_⟩
 ·rw[numAt_eq,en];exact getD_mem ω
 ·rw[←en] at ha;obtain⟨j,hj,rfl⟩:=mem_getD ha;rw[QK,Tq] at hj;rw[←numAt_eq];exact h2 j ω
theorem jb(Pv:Nat->List V->Hp->Prop)(h0:Pv 0 [] (upd H D (.lst [])))
  (go:∀i ys H',i<n->Pv i ys H'->J.go i H') (stop:∀ys H',Pv n ys H'->J.stop n H'/\Q H')
  (turn:∀i ys H' x H'',i<n->Pv i ys H'->J.yld i H' x H''->∀(R:VK) (E:Hp->Prop),(∀y H4,H4 D=some (.lst ys)->ys.length<sizeLine->Pv (i+1) (ys++[y]) (upd H4 D (.lst (ys++[y])))->R y H4)->(∀H3,Pv (i+1) ys H3->E H3)→
   g x (cI src σ) H'' λσ2 H2=>fz (cI src σ) σ2/\tt σ2 H2 λok H3=>if ok=true then te σ2 H3 R else E H3):
  O5 J D H src σ g tt te Q:=by
 refine⟨λi m ys H'=>i≤n/\m=n-i/\Pv i ys H',⟨_,Rq _,Z,h0⟩,?_⟩;rintro i m ys H1 ⟨hi,rfl,p⟩;by_cases hix:i<n
 ·refine .inr ⟨go i ys H1 hix p,λx H2 y=>?_⟩;refine turn i ys H1 x H2 hix p y _ _ (λy H4 a b c=>⟨a,b,n-(i+1),ω,hix,Z,c⟩) λH3 c=>⟨n-(i+1),ω,hix,Z,c⟩
 ·have e:i=n:=ω
  subst e;exact .inl (stop ys H1 p)
def Pi(t:TS):TS:=λD σ H=>∃M:L2.St->Hp->Prop,t { D with nx:=M} σ H/\∀σ' H',M σ' H'->D.nx σ' H'
theorem sN{X:Cx}{st:Stmt}{t:TS}(h:QS X st t):QS X st (Pi t):=⟨by
 intro pins s σ H D I q;obtain⟨M,q,k⟩:=q;refine bQ (h.p pins s σ H _ I q) λf s' z=>?_
 cases f with
 |next=>obtain⟨σ',H',I',m⟩:=z;exact⟨σ',H',I',k _ _ m⟩
 |brk=>exact z
 |cont=>exact z
 |ret u=>exact z⟩
end B
namespace B
end B
namespace B
open PySem PySem.Spec L2 PyProof.Rows
theorem Ii{xs:List V}{n:Nat}:mH xs none (some (n:Int))=xs.take n:=by
 by_cases h:n≤xs.length
 ·exact MF h
 ·unfold mH;rw[HT.sIx_nat,HT.sIx_none,Zt,Yr,Wd ω,SC (QY _),SC ω]
section
variable {prog:Rz}{w:RS}{A:RK}{E:Value->QQ->Prop}{s:QQ}
end
end B
namespace B
theorem u7{b:Int}(h:0<b):(0:Rat)<(b:Rat):=by
 have:=SD.mpr h;exact this
theorem bM(hr:0<r.2)(hq:0<q.2):aL r q=true↔val r<val q:=by
 rw[gZ,←SD,S3,S3];have h1:=u7 hr;have h2:=u7 hq;have e1:(r.1:Rat)=val r*(r.2:Rat):=by
  have:=cG hr;unfold val;grind
 have e2:(q.1:Rat)=val q*(q.2:Rat):=by
  have:=cG hq;unfold val;generalize (q.1:Rat)=x at *;generalize (q.2:Rat)=y at *;grind
 rw[e1,e2];generalize val r=x at *;generalize val q=y at *;generalize (r.2:Rat)=u at *;generalize (q.2:Rat)=v at *;have c:0<u*v:=ZS h1 h2;constructor
 ·intro h;have h':x*(u*v)<y*(u*v):=by grind
  by_cases w:x<y
  ·exact w
  ·have z:y≤x:=X5.mp w;have:=RE z (SE c);grind
 ·intro h;have:=R4 h c;grind
theorem bD(hr:0<r.2)(hq:0<q.2):aL r q=false↔val q≤val r:=by
 have a:=bM hr hq;grind
end B
namespace B
open PySem PySem.Spec L2 PyProof.Rows
theorem ML{zs:List R}:((zs.map dR).any λe=>Sk e (dR s))=decide (s∈zs):=by
 rw[List.any_map];by_cases c:s∈zs
 ·rw[decide_eq_true c,We];exact⟨s,c,hV s⟩
 ·rw[decide_eq_false c,Xf];intro z hz;show ¬Sk (dR z) (dR s)=true;rw[gC,decide_eq_true_iff];grind
theorem tG(zs:List R):FH (zs.map dR):=λe he=>by
 obtain⟨z,_,rfl⟩:=QZ.mp he;exact⟨i8 z,i9 z⟩
theorem bR.take{α:Type}{P:V->α->Prop}:∀{xs:List V} {ds:List α} (n:Nat),bR P xs ds->bR P (xs.take n) (ds.take n)
 |_,_,0,_=>by rw[Vg,Vg];exact .nil
 |_,_,_+1,.nil=>.nil
 |_,_,n+1,.cons h t=>.cons h (bR.take n t)
theorem bR.join{α:Type}{P:V->α->Prop}:∀{xs ys:List V} {ds es:List α},bR P xs ds->bR P ys es->bR P (xs++ys) (ds++es)
 |_,_,_,_,.nil,k=>k
 |_,_,_,_,.cons h t,k=>.cons h (bR.join t k)
end B
namespace L2
open PySem PySem.Spec PyProof.Rows
section
variable {X:Cx}{CX:AL}{k:Nat}{f C:Addr}{fd:QU}{ps:List RF}{sp:Sp}{dvs:List V}{ds:List Value}{E:XK}{x m:RF}{p pos apos:Uh}{e o:RP}{es:List RP}{ta:TE}{t:TA}
end
section
variable {P:Rz}{w:RS}{K:QJ}{mg:RF->Option Value}{base:Ra}
end
end L2
namespace B
open PySem PySem.Spec L2 PyProof.Rows
section
set_option autoImplicit true
set_option relaxedAutoImplicit true
end
def OW(d:Addr)(ob:Obj)(kvs:List (cZ×V)):It:=
 ⟨λi H=>H d=some (.frz ob (.dK kvs))/\i<kvs.length,
  λi H x H'=>∃p k v,H p=none/\x=.ref p/\kvs[i]?=some (k,v)/\H'=upd H p (.tup [kV k,v]),
  λi H=>H d=some (.frz ob (.dK kvs))/\kvs.length≤i⟩
theorem KV.get:∀{kvs:List (cZ×V)} {vs:List (cZ×Value)},KV kvs vs->∀{i:Nat} {k:cZ} {v:V},kvs[i]?=some (k,v)->∃u,vs[i]?=some (k,u)/\aY v u
 |_,_,.nil,i,k,v,h=>by simp at h
 | (a,b)::r,(c,d)::t,.cons h z,0,k,v,e=>by
  grind
 |_::r,_::t,.cons h z,i+1,k,v,e=>by
  obtain⟨u,q,w⟩:=KV.get z (i:=i) (by simpa using e);exact⟨u,by simpa using q,w⟩
theorem Js(h:pF k u=true):aY (kV k) u:=by
 rcases bU h with⟨i,t,rfl,rfl⟩ | ⟨x,t,rfl,rfl⟩
 ·exact⟨t,Z⟩
 ·exact⟨t,Z⟩
theorem MA:entryFor table "dict_itemiterator.__iter__"=some R9.«dict_keyiterator.__iter__»:=
 entryFor_alias (by kernel_rfl) (by first|rfl|decide +kernel | (unfold String.splitOn;simp +decide [String.splitOnAux])) (by decide +kernel) (by kernel_rfl) (id' := "dict_keyiterator.__iter__")
theorem vt{P:Rz}{w:RS}{K:QJ}{elts:List RP}{x1}{pos:Uh}{it d:Addr}{ob:Obj}{kvs:List (cZ×V)}{es:Array Yx}{ep:Nat}(hob:ob.data=.dict es ep) :
  xi P w K (.Tuple elts x1 pos) (OW d ob kvs) [it] it (λi h=>∃ok ov,IsItemIter h it d i kvs.length ep ok ov) where
 mem:=by simp
 obj:=λi h st c hc=>by
  grind
 keep:=λi h h' ⟨ok,ov,e⟩ k=>⟨ok,ov,k it (by simp) _ e⟩
 item:=by
  intro X hP hw hK hc i pins s σ H E I hf st hg;subst hP hw hK;obtain⟨hd,hi⟩:=hg;obtain⟨ok,ov,e⟩:=st;obtain⟨q0,z,hds,vs,rel,o,es',ep',d1,d2,d3,d4⟩:=(show ObjOk X.prog X.w H s.heap d (.frz ob (.dK kvs)) from I.hok d _ hd);have eo:o=ob:=R6 (d1.symm.trans q0);subst eo;rw[hob] at d3
  cases d3
  have dat:s.heap.DictAt (bK X.prog X.w) d vs ep:=⟨o,es,d1,d2,hob,d4⟩;obtain⟨k,v,hkv'⟩:∃k v,kvs[i]?=some (k,v):=⟨(kvs[i]'hi).1,(kvs[i]'hi).2,QH hi⟩;obtain⟨u,hu,ru⟩:=KV.get rel hkv';have ndi:it≠d:=λq=>by rw[q] at hf;have:=(hf d (by simp)).1;rw[hd] at this;cases this
  have itl:it<s.heap.objs.size:=Re e;rw[rel.length] at e;refine wpAny_pyNext_items_item e dat hu λkey h1 hkey eo tup hz hk=>⟨_,Z,wpAny_letOwnedTupleGo_items eo λh2 e2 sb=>?_⟩
  have nt:s.heap.objs.size≠it:=Ur itl;have P:ObjOk X.prog X.w (upd H s.heap.objs.size (.tup [kV k,v])) h2 s.heap.objs.size (.tup [kV k,v]):=
   ⟨by show 2≤sizeLine;decide,[key,u],.cons (Js hkey) (.cons ru .nil),⟨_,sb.extBut _ _ nt tup,Z,_,Z⟩⟩
  have I2:Inv X pins σ (upd H s.heap.objs.size (.tup [kV k,v])) { s with heap:=h2,toks:=s.toks}:=xH I (λc o' n q=>by
   have n':c≠it:=λr=>n (by simp[r])
   exact sb.extBut _ _ n' (hk c o' n' q)) hf (QY _) P
  refine⟨.ref s.heap.objs.size,_,I2,Z,⟨_,k,v,I.fresh,Z,hkv',Z⟩,⟨key,u,by rw[rel.length];exact e2⟩,λc hc=>?_⟩;have hc':c=it:=by simpa using hc
  rw[hc',ai (SO nt)];exact(hf it (by simp)).1
 done:=by
  intro X hP hw hK hc i pins s σ H E I hf st hg;subst hP hw hK;obtain⟨hd,hi⟩:=hg;obtain⟨ok,ov,e⟩:=st;obtain⟨q0,z,hds,vs,rel,o,es',ep',d1,d2,d3,d4⟩:=(show ObjOk X.prog X.w H s.heap d (.frz ob (.dK kvs)) from I.hok d _ hd);have eo:o=ob:=R6 (d1.symm.trans q0);subst eo;rw[hob] at d3
  cases d3
  have dat:s.heap.DictAt (bK X.prog X.w) d vs ep:=⟨o,es,d1,d2,hob,d4⟩;have hh:X.A.in1.handled=none:=I.ok.hd hc;rw[rel.length] at e hi;refine wpAny_pyNext_items_end hh e dat (Yh hi) λh1 ex=>⟨Z,?_⟩
  exact xI (t':=s.toks) I (λc o' n q=>ex c o' (λr=>n (by simp[r])) q) hf
 self:=λA i s Q E st h=>by
  obtain⟨ok,ov,e⟩:=st;have hT:s.TypeIs (.ref it) "dict_itemiterator" := ⟨_,e,Z⟩;refine wpAny_pyIter_slot hT Vx (XG Vx hT MA ?_ (PySem.F.args_dict_itemiterator_iter_1 _));show Rj _ _ (ret (.ref it)) _ _ s;exact wpAny_pure ⟨_,Z,"dict_itemiterator",_,hT,PySem.F.slot_dict_itemiterator_next.lookup,h⟩
def EW(td:TE):TI:=λσ H R=>td σ H λx H1=>∃d kvs,x=.ref d/\H1 d=some (.dK kvs)/\∀ob,R (OW d ob kvs) (upd H1 d (.frz ob (.dK kvs)))
theorem DQ{X:Cx}{elts:List RP}{x1}{tp apos pos:Uh}{o:RP}{td:TE}(ho:PE X o td)(hb:Tw o "items" X.env (eval o X.env)=eval o X.env:=by rfl)(hl:(apos.endLine==pos.line)=true:=by rfl) :
  PI X (.Tuple elts x1 tp) (.Call (.Attribute o "items" apos) [] [] pos) (EW td):=by
 intro pins s σ H R I h;refine Zu (T := "dict") (id := "dict.items") hb Z hl XM XO PySem.F.type_dict_items (bQ (ho pins s σ H _ I h) λu s1 ⟨x,H1,I1,rx,d,kvs,ex,e,q⟩=>?_);subst ex;obtain rfl:u=RA d:=rx;obtain⟨z,hds,vs,rel,dd⟩:=Fh I1.hok e;obtain⟨t1,t2,_⟩:=ES I1 (.inl ⟨kvs,.inl e⟩);refine⟨t1,t2,?_⟩;show Rj _ _ (Zg pos (.builtin "dict.items") [.ref d] [] []) _ _ _;refine method_meetsIn XO PySem.F.entry_dict_items Z (PySem.evalArgs_none ⟨Z,t1,PySem.F.args_dict_items_1 _,_,meets_dict_items (bK X.prog X.w) d hds,⟨vs,dd⟩,?_⟩);obtain⟨o',es,ep,d1,d2,d3,d4⟩:=id dd;have dat:s1.heap.DictAt (bK X.prog X.w) d vs ep:=⟨o',es,d1,d2,d3,d4⟩;refine wpAny_pyIter_items (d:=d) (kvs:=vs) (ep:=ep) ⟨_,Rg _ Z,Z,Z⟩ (dat.push _) ?_;have sz:(s1.heap.push { cls:=.type "dict_items",data:=.fields #[.ref d]}).objs.size=s1.heap.objs.size+1:=UH ..;have I2:=I1.kept (t':=s1.toks) (h':=(s1.heap.push { cls:=.type "dict_items",data:=.fields #[.ref d]}).push { cls:=.type "dict_itemiterator",data:=.fields #[.none,.bool false,.ref d,.int 0 0,.int vs.length 0,.int ep 0,.none,.none]}) λb o q=>QP _ (QP _ q)
 have hit:=Rg (s1.heap.push { cls:=.type "dict_items",data:=.fields #[.ref d]}) (o:={ cls:=.type "dict_itemiterator",data:=.fields #[.none,.bool false,.ref d,.int 0 0,.int vs.length 0,.int ep 0,.none,.none]}) Z;have dl:d<s1.heap.objs.size:=Re d1;have k2:∀b o,s1.heap.get? b=some o->((s1.heap.push { cls:=.type "dict_items",data:=.fields #[.ref d]}).push { cls:=.type "dict_itemiterator",data:=.fields #[.none,.bool false,.ref d,.int 0 0,.int vs.length 0,.int ep 0,.none,.none]}).get? b=some o:=λb o q=>QP _ (QP _ q)
 generalize (s1.heap.push { cls:=.type "dict_items",data:=.fields #[.ref d]}).push { cls:=.type "dict_itemiterator",data:=.fields #[.none,.bool false,.ref d,.int 0 0,.int vs.length 0,.int ep 0,.none,.none]}=hE at I2 hit k2 ⊢;rw[sz] at hit ⊢;have I3:=nX (h':=hE) (t':=s1.toks) (ob:=.frz o' (.dK kvs)) I2 (by rw[e];exact Ti) ⟨Z,λ_ _=>Z⟩ ⟨_,k2 _ _ d1⟩ ⟨k2 _ _ d1,z,hds,vs,rel,o',es,ep,k2 _ _ d1,d2,d3,d4⟩;have nd:s1.heap.objs.size+1≠d:=Ur (VR dl);refine⟨_,[s1.heap.objs.size+1],_,_,_,Z,I3,vt d3,⟨.none,.none,by rw[rel.length];exact hit⟩,λc hc=>?_,q o'⟩;have hc':c=s1.heap.objs.size+1:=by simpa using hc
 subst hc';exact I1.fpOk (Tz _) (by rw[ai nd];exact I1.hok.fresh (Tz _))
theorem Ap{d:Addr}{ob:Obj}{kvs:List (cZ×V)}{g:TG}{tb:TS}{D:nC}{σ:L2.St}{H:Hp}(Pv:Nat->L2.St->Hp->Prop)(h0:Pv 0 σ H)
  (hl:∀i σ H,Pv i σ H->H d=some (.frz ob (.dK kvs)))
  (hs:∀i k v p σ H,kvs[i]?=some (k,v)->Pv i σ H->H p=none->g (.ref p) σ (upd H p (.tup [kV k,v])) λσ2 H2=>tb { D with nx:=Pv (i+1),ct:=Pv (i+1),bk:=D.nx} σ2 H2) (hd:∀σ H,Pv kvs.length σ H->D.nx σ H) :
  ∃W:Nat->Nat->L2.St->Hp->Prop,(∃m,W 0 m σ H)/\∀i m σ H,W i m σ H→
   ((OW d ob kvs).stop i H/\D.nx σ H)∨((OW d ob kvs).go i H/\∃N:L2.St->Hp->Prop,(∀σ' H',N σ' H'->∃m',m'<m/\W (i+1) m' σ' H')/\∀x H',(OW d ob kvs).yld i H x H'->g x σ H' λσ2 H2=>tb { D with nx:=N,ct:=N,bk:=D.nx} σ2 H2):=by
 refine⟨λi m σ H=>m=kvs.length-i/\i≤kvs.length/\Pv i σ H,⟨_,Z,Rq _,h0⟩,?_⟩;rintro i m σ H ⟨rfl,hi,p⟩;have q:=hl i σ H p;by_cases hlt:i<kvs.length
 ·refine .inr ⟨⟨q,hlt⟩,Pv (i+1),λσ' H' p'=>⟨kvs.length-(i+1),ω,Z,hlt,p'⟩,λx H' y=>?_⟩;obtain⟨pp,k,v,hp,rfl,hkv,rfl⟩:=y;exact hs i k v pp σ _ hkv p hp
 ·have e:i=kvs.length:=ω
  subst e;exact .inl ⟨⟨q,QY _⟩,hd σ H p⟩
def wT(ps:List (Int×Int)):List (cZ×V):=ps.map λp=>(RL p.1,V.int p.2)
def zn:List (Int×Int)->Int->Int
 | [],_=>0
 | (c,u)::r,b=>if c=b then u else zn r b
def ia:List (Int×Int)->Int->Int->List (Int×Int)
 | [],b,t=>[(b,0+t)]
 | (c,u)::r,b,t=>if c=b then(c,u+t)::r else(c,u)::ia r b t
theorem DC{p:cZ×V}(e:p.1=k)(n:∀q∈r,q.1≠k):fY (p:: r) k v=(k,v):: r:=by
 unfold fY;rw[if_pos (by simp[e]),Rr,if_pos e,e]
 congr 1
 exact(Wv (g:=id) (λq hq=>by rw[if_neg (n q hq)];rfl)).trans (Ys r)
theorem zN{p:cZ×V}(e:¬p.1=k):fY (p:: r) k v=p:: fY r k v:=by
 unfold fY;grind
theorem yP:∀(ps:List (Int×Int)) (b:Int),(gH (wT ps) (RL b)).getD (V.int 0)=V.int (zn ps b)
 | [],b=>rfl
 | (c,u)::r,b=>by
  show(gH ((RL c,V.int u)::wT r) (RL b)).getD (V.int 0)=V.int (if c=b then u else zn r b);by_cases e:c=b
  ·rw[if_pos e,fh (by rw[e])];rfl
  ·rw[if_neg e,fj (λz=>e (by injection z)),yP r b]
theorem yk:∀(ps:List (Int×Int)) (b t:Int),(ps.map (·.1)).Nodup->fY (wT ps) (RL b) (V.int (zn ps b+t))=wT (ia ps b t)
 | [],b,t,_=>rfl
 | (c,u)::r,b,t,nd=>by
  have nd':=RJ.mp nd;show fY ((RL c,V.int u)::wT r) (RL b) (V.int ((if c=b then u else zn r b)+t))=wT (if c=b then(c,u+t)::r else(c,u)::ia r b t);by_cases e:c=b
  ·rw[if_pos e,if_pos e,DC (by rw[e]) (λq hq z=>?_)]
   ·show _=(RL c,V.int (u+t))::wT r;rw[e]
   ·obtain⟨p,hp,rfl⟩:=QZ.mp hq;grind
  ·rw[if_neg e,if_neg e,zN (λz=>e (by injection z)),yk r b t nd'.2];rfl
def kd:List (Int×Int)->Rat
 | []=>0
 |p::r=>(p.2:Rat)/(p.1:Rat)+kd r
theorem Pd{a b c:Rat}:(a+b)/c=a/c+b/c:=by rw[ZT,ZT,ZT,Rat.add_mul]
theorem ui:∀(ps:List (Int×Int)) (b t:Int),kd (ia ps b t)=kd ps+(t:Rat)/(b:Rat)
 | [],b,t=>by
  show((0+t:Int):Rat)/(b:Rat)+0=0+(t:Rat)/(b:Rat);rw[S8];grind
 | (c,u)::r,b,t=>by
  show kd (if c=b then(c,u+t)::r else(c,u)::ia r b t)=(u:Rat)/(c:Rat)+kd r+(t:Rat)/(b:Rat);by_cases e:c=b
  ·rw[if_pos e];show((u+t:Int):Rat)/(c:Rat)+kd r=_;grind
  ·rw[if_neg e];show(u:Rat)/(c:Rat)+kd (ia r b t)=_;rw[ui r b t];grind
theorem qt:∀(ps:List (Int×Int)) (p:Int×Int),kd (ps++[p])=kd ps+(p.2:Rat)/(p.1:Rat)
 | [],p=>by show(p.2:Rat)/(p.1:Rat)+0=0+_;grind
 |q::r,p=>by
  show(q.2:Rat)/(q.1:Rat)+kd (r++[p])=(q.2:Rat)/(q.1:Rat)+kd r+_;rw[qt r p];grind
structure ny(n i:Nat)(ps:List (Int×Int)):Prop where
 nd:(ps.map (·.1)).Nodup
 len:ps.length≤i
 bot:∀p∈ps,0<p.1/\p.1.natAbs<2^n
 top:∀p∈ps,p.2.natAbs≤i*2^n
theorem lI:∀(ps:List (Int×Int)) (b t:Int) (c:Int),c∈(ia ps b t).map (·.1)↔c∈ps.map (·.1)∨c=b
 | [],b,t,c=>by simp[ia]
 | (d,u)::r,b,t,c=>by
  show c∈(if d=b then(d,u+t)::r else(d,u)::ia r b t).map (·.1)↔_;by_cases e:d=b
  ·grind
  ·rw[if_neg e,Rr,Rr,Rm,Rm,lI r b t c];exact or_assoc.symm
theorem FC:∀(ps:List (Int×Int)) (b t:Int),(ps.map (·.1)).Nodup->((ia ps b t).map (·.1)).Nodup
 | [],b,t,_=>by simp[ia]
 | (d,u)::r,b,t,nd=>by
  have nd':=RJ.mp nd;show((if d=b then(d,u+t)::r else(d,u)::ia r b t).map (·.1)).Nodup;by_cases e:d=b
  ·rw[if_pos e];exact nd
  ·rw[if_neg e,Rr,RJ];refine⟨λz=>?_,FC r b t nd'.2⟩;rcases(lI r b t d).mp z with h|h
   ·exact nd'.1 h
   ·exact e h
theorem zg:∀(ps:List (Int×Int)) (b t:Int),(ia ps b t).length≤ps.length+1
 | [],b,t=>QY 1
 | (d,u)::r,b,t=>by
  show(if d=b then(d,u+t)::r else(d,u)::ia r b t).length≤_
  split
  ·exact Tz _
  ·exact XN (zg r b t)
theorem zf:∀(ps:List (Int×Int)) (b t:Int) (M N:Nat),(∀p∈ps,p.2.natAbs≤M)->t.natAbs≤N->∀p∈ia ps b t,p.2.natAbs≤M+N
 | [],b,t,M,N,_,ht,p,hp=>by
  have e:p=(b,0+t):=by simpa [ia] using hp
  rw[e];show(0+t).natAbs≤M+N;lia
 | (d,u)::r,b,t,M,N,h,ht,p,hp=>by
  have hu:u.natAbs≤M:=h (d,u) QV;have hr:∀q∈r,q.2.natAbs≤M:=λq hq=>h q (QX _ hq)
  have hp':p∈(if d=b then(d,u+t)::r else(d,u)::ia r b t):=hp
  split at hp'
  ·rcases Rm.mp hp' with e|e
   ·rw[e];show(u+t).natAbs≤M+N;lia
   ·have:=hr p e;lia
  ·rcases Rm.mp hp' with e|e
   ·rw[e];show u.natAbs≤M+N;lia
   ·exact zf r b t M N hr ht p e
theorem ny.add(h:ny n i ps)(w:Wf n r):ny n (i+1) (ia ps r.2 r.1) where
 nd:=FC ps r.2 r.1 h.nd
 len:=RC (zg ps r.2 r.1) (XN h.len)
 bot:=λp hp=>by
  rcases(lI ps r.2 r.1 p.1).mp (QZ.mpr ⟨p,hp,Z⟩) with z|z
  ·obtain⟨q,hq,e⟩:=QZ.mp z;rw[←e];exact h.bot q hq
  ·rw[z];exact⟨w.pos,w.bot⟩
 top:=λp hp=>by
  have:=zf ps r.2 r.1 (i*2^n) (2^n) h.top (Up w.top) p hp;grind
theorem ny.nil(n:Nat):ny n 0 []:=⟨SG,QY _,(λ_ h=>nomatch h),(λ_ h=>nomatch h)⟩
theorem ny.wf(h:ny n i ps)(hi:i≤255)(hp:p∈ps):Wf (n+8) (cJ p.2 p.1):=by
 refine iT (h.bot p hp).1 ?_ (Q7 (h.bot p hp).2 (Sa δ ω));have a:=h.top p hp;have b:i*2^n≤255*2^n:=Tc _ hi;grind
def gO:List R->Rat
 | []=>0
 |r::t=>val r+gO t
theorem qo:∀(rs:List R) (r:R),gO (rs++[r])=gO rs+val r
 | [],r=>by show val r+0=0+val r;grind
 |q::t,r=>by show val q+gO (t++[r])=val q+gO t+val r;rw[qo t r];grind
theorem iJ:∀(rs:List R) (acc:R),de acc->(∀r∈rs,de r)->de (rs.foldl aK acc)/\val (rs.foldl aK acc)=val acc+gO rs
 | [],acc,ha,_=>⟨ha,by show val acc=val acc+0;grind⟩
 |r::t,acc,ha,h=>by
  have hr:=h r QV;obtain⟨a,b⟩:=iJ t (aK acc r) (kN ha hr) λq hq=>h q (QX _ hq)
  refine⟨a,?_⟩;rw[Yb,b,dg ha.pos hr.pos];show val acc+val r+gO t=val acc+(val r+gO t);grind
theorem jJ:val (0,1)=0:=by decide +kernel
theorem vM:de (0,1):=⟨δ,δ⟩
theorem cF(h:∀r∈rs,de r):de (bj rs)/\val (bj rs)=gO rs:=by
 obtain⟨a,b⟩:=iJ rs (0,1) vM h;refine⟨a,b.trans ?_⟩;rw[jJ];grind
theorem JZ(h:∀r∈rs,de r)(hx:de x)(e:val x=gO rs):x=bj rs:=
 c8 hx (cF h).1 (e.trans (cF h).2.symm)
theorem Wf.red(h:Wf n r):de r:=⟨h.pos,h.cop⟩
section
set_option autoImplicit true
set_option relaxedAutoImplicit true
theorem oI   : QE X (.Dict [] [] pos) A9:=⟨DX ⟩
theorem Dz(hu:X.A.units+1<cLine)(ho:QE X o td)(he:QE X e ty)(hf:QE X f tx)(m:M2 X o "get" apos e f cpos):QE X (.Call (.Attribute o "get" apos) [e,f] [] cpos) (Ba td ty tx):=⟨DY hu ho.p he.p hf.p m⟩
theorem nJ(hu:X.A.units+1<cLine)(ho:QE X o td)(hi:QE X i ty)(hv:QE X value tv)(hs:TZ value (some (.Subscript o i pos')) pos.line X.env=SS false):QS X (.Assign [.Subscript o i pos'] value pos) (Jb td ty tv):=⟨GL hu ho.p hi.p hv.p hs⟩
theorem Dr{X:Cx}{elts:List RP}{x1}{tp apos pos:Uh}{o:RP}{td:TE}(ho:QE X o td)(hb:Tw o "items" X.env (eval o X.env)=eval o X.env:=by rfl)(hl:(apos.endLine==pos.line)=true:=by rfl):QI X (.Tuple elts x1 tp) (.Call (.Attribute o "items" apos) [] [] pos) (EW td):=⟨DQ ho.p hb hl⟩
end
end B
namespace B
end B
namespace B
open PySem PySem.Spec L2 PyProof.Rows
def PN(xs:Array Nat):Prop:=∀i j (_:i<j) (hj:j<xs.size),xs[i]' ω<xs[j]
def PL(t:SetTable):Prop:=t.plain=true->t.dummies=#[]/\PN t.place
section
variable {prog:Rz}{w:RS}{A:RK}{E:Value->QQ->Prop}{s:QQ}
def Ph:Value->Int
 | .int n _=>n
 |_=>0
def MY(w:RS)(h:Ra)(a:Addr)(ks:List Int):Prop:=∃o es ep t,h.get? a=some o/\o.ExactSet/\o.data=.set es ep t/\(∀e∈es.toList,∃n u,e=(hashInt n,Vi n u))∧
 (es.toList.map λe=>Ph e.2).Perm ks/\t.fits es.size=true/\PL t/\t.led=!w.params.followText "set-order"
end
section
variable {prog:Rz}{w:RS}{A:RK}{E:Value->QQ->Prop}{s:QQ}
variable {R:ZF->QQ->Prop}{I:Addr}{fp wr:List Addr}{G:Array Zp->Array Zp->Prop}{n:Nat}{P:Nat->Value->Prop}{St:Nat->QQ->Prop}
end
section
variable {prog:Rz}{w:RS}{A:RK}{E:Value->QQ->Prop}{s:QQ}
end
namespace FS
end FS
section
variable {prog:Rz}{w:RS}{A:RK}{E:Value->QQ->Prop}{s:QQ}
end
end B
namespace B
open PySem PySem.Spec L2 PyProof.Rows
section
variable {prog:Rz}{w:RS}{A:RK}{E:Value->QQ->Prop}{s:QQ}
end
section
variable {prog:Rz}{w:RS}{A:RK}{E:Value->QQ->Prop}{s:QQ}
end
section
variable {prog:Rz}{w:RS}{A:RK}{E:Value->QQ->Prop}{s:QQ}
end
def setO(w:RS)(a:Addr)(ks:List Int):HO:=.ext λh=>MY w h a ks
section
set_option autoImplicit true
set_option relaxedAutoImplicit true
end
theorem rO:∀{bs:List Bool} {us:List Value},aW (bs.map V.bl) us->∀{i:Nat} {v:Value},us[i]?=some v->v=.bool (bs.getD i false)
 | [],_,.nil,i,v,e=>by cases e
 |b::bs,_,.cons r t,0,v,e=>by
  rw[XQ] at e
  cases e
  exact(show _=VD b from r)
 |b::bs,_,.cons r t,i+1,v,e=>by
  rw[UL] at e;exact rO t e
theorem rT:∀(bs:List Bool),(QM bs.length).any (λi=>bs.getD i false)=bs.any id
 | []=>rfl
 |b::bs=>by
  rw[RU,X4,U5,List.any_map,U5];have:=rT bs;show(b||(QM bs.length).any (λi=>bs.getD i false))=(id b||bs.any id);rw[this];rfl
theorem AD(hc:X.calm=true):eF X (.builtin "any") (λxs H Q=>∃(p:Addr) (bs:List Bool),xs=[.ref p]/\aJ X.K H p (bs.map V.bl)/\Q (.bl (bs.any id)) H):=by
 intro pins s σ H xs us Q I r h;obtain⟨p,bs,rfl,hq,q⟩:=h;obtain⟨u,rfl,rx⟩:=jB r
 cases rx
 obtain⟨its,rv,pl,hz⟩:=I.list hq;have ne:p≠s.heap.objs.size:=by
  obtain⟨o,ho,_⟩:=pl.isList;exact RZ (Re ho)
 have hlen:its.toArray.size=bs.length:=by rw[Rp,←rv.length,QK]
 refine call_any_walk (Xe pl.isList ?_);refine⟨_,_,_,_,_,_,λi=>bs.getD i false,Z,Walks.list (A:=X.A.in1) (I.ok.hd hc) _ p ne its.toArray,⟨⟨_,Rg _ Z,Z,Z⟩,pl.isList.push _⟩,λi v s' Q' E' hv hQ=>?_,λh' tk hk=>?_⟩
 ·have e:=rO rv (i:=i) (v:=v) (by simpa using hv);subst e;exact Tf hQ
 ·rw[hlen,rT];refine⟨.bl _,H,I.kept (t':=tk) λb o e=>hk b o (λz=>?_) (QP _ e),Z,q⟩;rw[Q2.mp z] at e;exact absurd (Re e) (Ss _)
theorem LZ{h:Ra}(x:h.Ns a m)(y:h.Ns a m'):m=m':=by
 obtain⟨o,es,ep,e1,e2,_,e3⟩:=x;obtain⟨o',es',ep',f1,f2,_,f3⟩:=y;grind
theorem MH{X:Cx}{pins:List (Addr×Obj)}{σ:L2.St}{H:Hp}{s:QQ}{h':Ra}{t':Nat}{ch:List Addr}(I:Inv X pins σ H s)(hch:∀b∈ch,gc X pins H b)
  (k:∀b o,b≠X.env.locals->b∉ch->s.heap.get? b=some o->h'.get? b=some o) (ns:∃m,s.heap.Ns X.env.locals m/\h'.Ns X.env.locals m):Inv X pins σ H { s with heap:=h',toks:=t'}:=by
 have nch:∀b u,H b=some u->b∉ch:=λb u e z=>by rw[(hch b z).1] at e;cases e
 have nl:∀b u,H b=some u->b≠X.env.locals:=λb u e z=>by rw[z,I.free] at e;cases e
 refine I.step (g':=s.gens) (d':=s.drawn) (ch:=ch) (λb hb=>?_) (λb o hL _ hc e _=>k b o hL hc e) (λb o hL _ hc e _=>⟨o.slots,k b o hL hc e⟩) (λ_ _ _ _ n=>n) (λb o hc e=>?_) (λ_ _ e=>e) (λ_ _ _ e=>e) (λb ps e=>⟨#[],by rw[e];simp⟩) (λm hm=>?_) (λb u e=>?_) I.bare
 ·obtain⟨_,f2,_,f4,f5,f6⟩:=hch b hb;exact⟨f4,f2,f5,f6⟩
 ·by_cases z:b=X.env.locals
  ·obtain⟨m,_,o',es,ep,ho,_⟩:=ns;exact⟨o',by rw[z];exact ho⟩
  ·exact⟨o,k b o z hc e⟩
 ·obtain⟨m0,n1,n2⟩:=ns;rw[LZ hm n1];exact n2
 ·refine(I.hok b u e).stay (λc v hc q=>?_) (λ_ q=>q) λ_ _ q=>q
  grind
section
variable {prog:Rz}{w:RS}{A:RK}{E:Value->QQ->Prop}{s:QQ}
theorem tK{a b c:Int}{n:Nat}(hh:A.handled=none)(hr:IsRange s.heap r a b c t u v)(hs:R9.Range.small a b c=true)(hn:VG a b c=n)(hl:n≤2^24)
  (hQ:∀h' tk acc,(∀b o,s.heap.get? b=some o->h'.get? b=some o)->ItemsOf (λi v=>∃t,v=.int (a+i*c) t) acc n->Q acc.toList { s with heap:=h',toks:=tk}):
  Rj (Ro prog w) A (collect (.ref r)) Q E s:=by
 unfold collect;refine QR (wpAny_runValue (Wp F.entry_proto_collect ?_));rw[Vh F.plain_proto_collect _];show Rj (Ro prog w) A.in1 (newList [] >>= λl=>again (.builtin "list.__iadd__" ⟨[l,.ref r],[]⟩)) _ _ s;refine QR (Th (wpAny_pure ⟨YM F.plain_list_iadd _,Wp F.entry_list_iadd ?_⟩));rw[Vh F.plain_list_iadd _];show Rj (Ro prog w) A.in1 (R9.List.listExtendWith (.ref s.heap.objs.size) (.ref r) (.ref s.heap.objs.size)) _ _ _;have hS:(s.heap.push { cls:=.type "list",data:=.seq ([]:List Value).toArray}).get? s.heap.objs.size=some { cls:=.type "list",data:=.seq #[]}:=Rg _ Z;refine wpAny_extend_range (R:=λr s'=>match r with | .ok (.ret v)=>Rj (Ro prog w) A (match v with | .ref a=>(do let o ←load a;match o.data with | .seq xs _=>SS xs.toList|_=>unsupported "internal:collect")|_=>unsupported "internal:collect") Q E s' | .ok _=>False | .error e=>E e s') (s:={ s with heap:=s.heap.push { cls:=.type "list",data:=.seq ([]:List Value).toArray} }) hh (QP _ hr) hs hn hl s.heap.objs.size (.ref s.heap.objs.size) _ hS λh' tk acc' c' hk hS' hacc=>?_
 show Rj (Ro prog w) A (load s.heap.objs.size >>= _) _ _ _;refine QR (wpAny_load hS' (wpAny_pure (hQ h' tk acc' (λb o e=>hk b o (RZ (Re e)) (QP _ e)) hacc)))
end
section
variable {X:Cx}{pins:List (Addr×Obj)}{σ:L2.St}{H:Hp}{A:RK}{E:Value->QQ->Prop}{a kS:Addr}{vs:List Value}{kz:List Int}{f:Value}{e1:Nat}
theorem GU(I:Inv X pins σ H s)(fa:gc X pins H a)(fk:gc X pins H kS)(ha:s.heap.get? a=some oa)(hk:s.heap.get? kS=some ok)(ca:∀v,oa.data≠.cell v)(ck:∀v,ok.data≠.cell v):Inv X ((a,oa):: (kS,ok):: pins) σ H s:=by
 refine I.pins_of λp hp=>?_
 rcases Rm.mp hp with rfl|hp
 ·exact⟨ha,fa.1,fa.2.1,fa.2.2.1,ca⟩
 rcases Rm.mp hp with rfl|hp
 ·exact⟨hk,fk.1,fk.2.1,fk.2.2.1,ck⟩
 ·exact I.pin p (Rh _ hp)
theorem zk(I:Inv X ((a,oa):: (kS,ok):: pins) σ H s):Inv X pins σ H s/\s.heap.get? a=some oa/\s.heap.get? kS=some ok:=by
 refine⟨I.pins_of λp hp=>I.pin p (Rh _ (QX _ (QX _ hp))),(I.pin (a,oa) ?_).1,(I.pin (kS,ok) ?_).1⟩
 ·exact Rh _ QV
 grind
def zi(X:Cx)(σ:L2.St)(H:Hp)(A:RK)(f:Value)(vs:List Value)(kz:List Int):Prop:=
 ∀(i:Nat) (v:Value) (k:Int),vs[i]?=some v->kz[i]?=some k->∀(pins:List (Addr×Obj)) (s:QQ),Inv X pins σ H s→
  Rj (Ro X.prog X.w) A (call f [v]) (λu s2=>(∃t,u=.int k t)/\Inv X pins σ H s2) (λ_ _=>False) s
theorem EQ(I:Inv X pins σ H s)(fa:gc X pins H a)(fk:gc X pins H kS)(hka:kS≠a)(ha:s.heap.get? a=some (Vr "list" #[] e1))(hk:s.heap.get? kS=some (Vr "list" #[] 0))
  (hlen:kz.length=vs.length) (h64:vs.length<64) (turn:zi X σ H A f vs kz)
  (h:∀s' out c,Inv X pins σ H s'->s'.heap.get? a=some (Vr "list" out c)->KskOut false kz vs out.toList->P (.done (.ret .none)) s'):
  Rj (Ro X.prog X.w) A (ksk_rest a f false vs.toArray e1 (.ref kS)) P E s:=by
 unfold ksk_rest;refine QR (wpAny_rule ?_);rw[List.forIn_toArray];refine QR (ksk_fold (λi s'=>∃kA e,Inv X pins σ H s'/\s'.heap.get? kS=some (Vr "list" kA e)/\s'.heap.get? a=some (Vr "list" #[] e1)/\Xi kA.toList (kz.take i)) vs 0 s ⟨#[],0,I,hk,ha,by simpa using Xi.nil⟩ ?_ ?_)
 ·rintro j x s' hx ⟨kA,e,I',k',a',hi⟩;simp only[Nat.zero_add] at hi ⊢;have hj:j<vs.length:=(QN.mp hx).1;obtain⟨k,hkj⟩:∃k,kz[j]?=some k:=⟨_,QH ω⟩;have hz:kA.size≤vs.length:=by
   have:=hi.length;rw[Tq,RD] at this;lia
  refine QR (wpAny_attempt (SA (turn j x k hx hkj _ s' (GU I' fa fk a' k' (λv q=>nomatch q) λv q=>nomatch q)) (λu s2 he=>?_) λ_ _ hF=>hF.elim));obtain⟨⟨t2,rfl⟩,I2⟩:=he;obtain⟨I3,a3,k3⟩:=zk I2;obtain⟨c2,hc2⟩:∃c2,(s2.heap.update kS (Obj.mapSeq (·.push (.int k t2)))).get? kS=some (Vr "list" (kA.push (.int k t2)) c2):=⟨_,get?_update_seq k3 (·.push (.int k t2))⟩;have ek:kz.take (j+1)=kz.take j++[k]:=by rw[Rt,hkj];rfl
  have ea:(kA.push (Vi k t2)).toList=kA.toList++[.int k t2]:=by simp
  refine QR (listUpdate_at k3 Z (wpAny_pure ⟨Z,kA.push (.int k t2),c2,?_,hc2,?_,by rw[ek,ea];exact ksk_snoc hi⟩) (by rw[SU];lia) (RC (UV (Array.size_push ..)) (by rw[SU];lia)))
  ·exact I3.turned (t':=s2.toks) (it:=kS) (λb o n q=>(RI _ _ (SO n)).trans q) fk.1 fk.2.1 fk.2.2.2.1 fk.2.2.2.2.1 fk.2.2.2.2.2
  ·exact(RI _ _ hka).trans a3
 ·rintro s' ⟨kA,e,I',k',a',hi⟩;have hi':Xi kA.toList kz:=by
   have e3:kz.take (0+vs.length)=kz:=SC ω;rw[e3] at hi;exact hi
  refine QR (listItems_at k' Z ?_);obtain⟨m,hm,_⟩:=id I'.loc;have hmem:∀p,p∈(lH (Att.noObjs s'.heap) s'.heap X.env.locals).filter (λp=>decide (p.1≠kS/\p.1≠a))↔p.1≠X.env.locals/\s'.heap.get? p.1=some p.2/\p.1≠kS/\p.1≠a:=λp=>by
   rw[Q3];constructor
   ·rintro⟨x,y⟩;obtain⟨z1,_,z3⟩:=oZ x;exact⟨z1,z3,of_decide_eq_true y⟩
   ·rintro⟨x,y,z⟩;exact⟨uO x (Att.noObjs_get _ _) y,decide_eq_true z⟩
  refine ksk_end_ (h₀:=Att.noObjs s'.heap) (L:=X.env.locals) (m:=m) (e:=e) (news:=(lH (Att.noObjs s'.heap) s'.heap X.env.locals).filter (λp=>decide (p.1≠kS/\p.1≠a))) (Att.fr_all hm) (λp hp=>?_) hka (λp hp=>((hmem p).mp hp).2.2.1) (λp hp=>((hmem p).mp hp).2.2.2) hi' hlen h64 λh3 tk3 out c F3 N3 k3=>?_
  ·rcases Rc.mp hp with hp|hp
   ·obtain⟨z1,z2,_⟩:=(hmem p).mp hp;exact⟨z2,z1,Att.noObjs_get _ _⟩
   rcases Rm.mp hp with rfl|hp
   ·exact⟨k',fk.2.1,Att.noObjs_get _ _⟩
   ·rw[Q2.mp hp];exact⟨a',fa.2.1,Att.noObjs_get _ _⟩
  ·refine h _ out c (MH (ch:=[kS,a]) I' (λb hb=>?_) (λb o hL hb e=>?_) ⟨m,hm,F3.ns⟩) (N3.get QV) k3
   ·grind
   ·refine N3.get (QX _ ((hmem (b,o)).mpr ⟨hL,e,λz=>hb (by simp[show b=kS from z]),λz=>hb (by simp[show b=a from z])⟩))
theorem EO(I:Inv X pins σ H s)(fa:gc X pins H a)(ho:s.heap.get? a=some (Vr "list" vs.toArray n))(hlen:kz.length=vs.length)(h64:vs.length<64)(turn:zi X σ H A f vs kz)
  (h:∀s' out c,Inv X pins σ H s'->s'.heap.get? a=some (Vr "list" out c)->KskOut false kz vs out.toList->P (.done (.ret .none)) s'):
  Rj (Ro X.prog X.w) A (ksk_tree a f false) P E s:=by
 obtain⟨e1,ho1⟩:∃e1,(s.heap.update a (Obj.mapSeq λ_=>(#[]:Array Value))).get? a=some (Vr "list" #[] e1):=⟨_,get?_update_seq ho λ_=>#[]⟩;have I1:Inv X pins σ H { s with heap:=s.heap.update a (Obj.mapSeq λ_=>(#[]:Array Value)),toks:=s.toks}:=I.turned (it:=a) (λb o n q=>(RI _ _ (SO n)).trans q) fa.1 fa.2.1 fa.2.2.2.1 fa.2.2.2.2.1 fa.2.2.2.2.2;unfold ksk_tree;refine QR (listItems_at ho rfl (QR (listUpdate_at ho rfl ?_ (by rw[Rp,SU];lia) (Rq _))));refine QR (seqEpoch_at ho1 rfl (QR (wpAny_newTuple (QR (wpAny_newList (wpAny_holding ?_) (Rq _))) (by show vs.length≤sizeLine;rw[SU];lia))));generalize s.heap.update a (Obj.mapSeq λ_=>(#[]:Array Value))=h1 at ho1 I1 ⊢;have la:a<h1.objs.size:=Re ho1;have I2:=I1.kept (t':=s.toks) (h':=(h1.push (Vr "tuple" vs.toArray 0)).push (Vr "list" #[] 0)) λb o e=>QP _ (QP _ e)
 have sz:(h1.push (Vr "tuple" vs.toArray 0)).objs.size=h1.objs.size+1:=UH ..;exact EQ (kS:=(h1.push (Vr "tuple" vs.toArray 0)).objs.size) I2 fa (I1.fpOk (by rw[sz];exact Tz _) (I1.hok.fresh (by rw[sz];exact Tz _))) (by rw[sz];exact Ur (VR la)) (QP _ (QP _ ho1)) (Rg _ Z) hlen h64 turn h
end
theorem MS{X:Cx}{pins:List (Addr×Obj)}{σ:L2.St}{H:Hp}{s:QQ}{p:Addr}{v:HO}(I:Inv X pins σ H s)(f:gc X pins H p)(new:ObjOk X.prog X.w (upd H p v) s.heap p v):Inv X pins σ (upd H p v) s:=by
 have old:∀b u,H b=some u->upd H p v b=some u:=λb u e=>by rw[ai (au e f.1)];exact e
 refine I.step (h':=s.heap) (t':=s.toks) (g':=s.gens) (d':=s.drawn) (ch:=[p]) (λb hb=>?_) (λb o _ _ hc e _=>e) (λb o _ _ hc e _=>⟨o.slots,e⟩) (λb o hc e n=>?_)
  (λb o hc e=>⟨o,e⟩) (λb xs e=>old b _ e) (λb o u e=>old b _ e) (λb ps e=>⟨#[],by rw[old b _ e];simp⟩) (λm hm=>hm) (λb u e=>?_) I.bare
 ·rw[Q2] at hb;subst hb;obtain⟨_,f1,_,f3,f4,f5⟩:=f;exact⟨f3,f1,f4,f5⟩
 ·rw[ai (λz=>hc (by simp[z]))];exact n
 ·by_cases hb:b=p
  ·subst hb;rw[aa] at e;cases e;exact new
  ·rw[ai hb] at e;exact(I.hok b u e).stay (λc v hc q=>q) (λc q=>old c _ q) λc xs q=>old c _ q
theorem DU{α β:Type}{g:α->β}:∀{ps l2:List β},ps.Perm l2->∀l:List α,l2=l.map g->∃ms:List α,ms.Perm l/\ps=ms.map g:=by
 intro ps l2 h
 induction h with
 |nil=>
  simp_all
 |cons x p ih=>
  intro l e
  cases l with
  |nil=>simp at e
  |cons a l=>
   rw[Rr] at e;injection e with e1 e2;obtain⟨ms,h1,h2⟩:=ih l e2;exact⟨a::ms,h1.cons a,by rw[Rr,←e1,h2]⟩
 |swap x y t=>
  intro l e
  match l,e with
  |a::b::l,e=>
   rw[Rr,Rr] at e;injection e with e1 e2;injection e2 with e2 e3;exact⟨b::a::l,.swap a b l,by rw[Rr,Rr,←e1,←e2,←e3]⟩
 |trans p1 p2 ih1 ih2=>
  intro l e;obtain⟨m2,h1,h2⟩:=ih2 l e;obtain⟨ms,h3,h4⟩:=ih1 m2 h2;exact⟨ms,h3.trans h1,h4⟩
abbrev PH(X:Cx)(N':List RF)(scope:UG)(y:RF)(cl:List (RF×Addr))(C:Addr)(fp:List Addr)(pins:List (Addr×Obj))(s:QQ)(H:Hp):Cx:=rq X N' scope (λz=>z==y) ((y,C+1)::cl) C fp pins s H
structure xB(X:Cx)(scope:UG)(y:RF)(cl:List (RF×Addr)):Prop where
 has:∀x,((Vw scope cl 0 X.env).kindOf x=some .cell∨(Vw scope cl 0 X.env).kindOf x=some .free)->x=y∨∃c,cl.lookup x=some c
 up:∀x c,cl.lookup x=some c->X.env.cells.lookup x=some c
 no:cl.lookup y=none
theorem Ax(h1:((Zm scope X.env).names.all λz=>!(z.2==.cell||z.2==.free)||(z.1==y)||(cl.lookup z.1).isSome)=true)(h2:jw X cl)(h3:cl.lookup y=none):xB X scope y cl:=by
 refine⟨λx h=>?_,λx c e=>h2.mem _ (mem_of_lookup e),h3⟩;have h4:=T7.mp h1;have key:∀k:Vc,(k=.cell∨k=.free)->(Zm scope X.env).names.lookup x=some k->x=y∨∃c,cl.lookup x=some c:=λk hk e=>by
  have q:=h4 _ (mem_of_lookup e);have z:(k==YK||k==aan)=true:=by rcases hk with rfl|rfl<;>rfl
  simp only[z,aao,YL,Bool.or_eq_true] at q;rcases q with q|q
  ·exact .inl (XH q)
  ·exact .inr (Vu.mp q)
 rcases h with h|h
 ·exact key _ (.inl Z) h
 ·exact key _ (.inr Z) h
theorem uS{cl:List (RF×Addr)}(h:((y,a):: cl).lookup x=some c):(x=y/\c=a)∨(x≠y/\cl.lookup x=some c):=by
 grind
theorem yG{cl:List (RF×Addr)}(n:cl.lookup y=none)(h:cl.lookup x=some c):((y,a):: cl).lookup x=some c:=by
 grind
section
variable {M:Model}{A:RK}{E:Value->QQ->Prop}{s:QQ}
theorem HH(hs:∀n:Nat,XE n scope.names cl=(y,n):: cl)(hp:∀h:Ra,pushCells h scope.names=h.push { cls:=.type "cell",data:=.cell none})
  (hQ:Q { scope,locals:=s.heap.objs.size,globals,cells:=(y,s.heap.objs.size+1):: cl,qual,func:=none,code:=outer.code,frame:=outer.frame,builtins:=outer.builtins} { s with heap:=(s.heap.push { cls:=.type "dict",data:=.dict #[]}).push { cls:=.type "cell",data:=.cell none} }):
  Rj M A (WU scope globals cl [] qual none .none (some outer)) Q E s:=by
 simp only[WU,YW,if_true];refine QR (wpAny_alloc (QR (wpAny_layCells _ (λname kind cells=>by cases hkc:kind==YK<;>simp[hkc]) _ _ _ _ ?_)));rw[hs,hp];refine QR (wpAny_pure (wpAny_pure ?_));rw[show({ s with heap:=s.heap.push { cls:=.type "dict",data:=.dict #[]} }:QQ).heap.objs.size=s.heap.objs.size+1 from UH ..];exact hQ
end
theorem OH(hcf:∀n:Nat,XE n scope.names cl=(y,n):: cl)(hcp:∀h:Ra,pushCells h scope.names=h.push { cls:=.type "cell",data:=.cell none})(hkind:scope.kind=.function)(hcl:xB X scope y cl):qa X scope (λz=>z==y) cl (λC=>(y,C+1):: cl) where
 fun_:=hkind
 cells:=λC=>⟨λx h=>by
  rcases hcl.has x h with z | ⟨c,z⟩
  ·simp_all
  ·exact⟨c,yG hcl.no z⟩,λx c e=>by
  rcases uS e with⟨h1,h2⟩ | ⟨_,h2⟩
  ·exact .inl ⟨by rw[h1];exact beq_self_eq_true y,h2⟩
  ·exact .inr (hcl.up x c h2),λa b h1 h2=>(XH h1).trans (XH h2).symm,λx c e=>yG hcl.no e,λx c h e=>by
  rcases uS e with⟨_,h2⟩ | ⟨h1,_⟩
  ·rw[h2];exact Tz C
  ·exact absurd (XH h) h1⟩
 make:=λ{s Q} k=>HH hcf hcp (k _ _ s.toks _ ((Ra.Ns.new s.heap (.type "dict")).keeps λb o e=>QP { cls:=.type "cell",data:=.cell none} e)
  (λ_ _=>⟨_,by rw[←show(s.heap.push { cls:=.type "dict",data:=.dict #[]}).objs.size=s.heap.objs.size+1 from UH ..];exact Rg _ Z,Z⟩)
  (λb o e=>QP _ (QP _ e)) Z Z)
section
variable {X:Cx}{N':List RF}{scope:UG}{y:RF}{cl:List (RF×Addr)}{src:List (Option Nat)}{tg iter elt:RP}{ifs:List RP}{wi:TI}{g:TG}{tt:TT}{te:TE}{pos:Uh}
theorem zM(hc:X.calm=true)(hi:QI X tg iter wi)(hg:∀C fp pins s H,QG (PH X N' scope y cl C fp pins s H) tg g)(ht:∀C fp pins s H,JI (PH X N' scope y cl C fp pins s H) ifs tt)(he:∀C fp pins s H,QE (PH X N' scope y cl C fp pins s H) elt te)(hfree:cQ X scope cl N' src)(hclos:UX scope X.env=SS cl)(hcf:∀n:Nat,XE n scope.names cl=(y,n)::cl)(hcp:∀h:Ra,pushCells h scope.names=h.push { cls:=.type "cell",data:=.cell none})(hkind:scope.kind=.function)(hnames:∀x∈scope.names,x.2=.local->scope.names.lookup x.1=some .local)(hcl:xB X scope y cl)(hs:∀x,SJ iter X.env x=SS x:=by intro _;rfl):QE X (.ListComp elt [⟨tg,iter,ifs,0⟩] scope pos) (ka wi src g tt te):=⟨qN hc hi.p (λz0 z1 z2 z3 z4=>(hg z0 z1 z2 z3 z4).p) (λz0 z1 z2 z3 z4=>(ht z0 z1 z2 z3 z4).p) (λz0 z1 z2 z3 z4=>(he z0 z1 z2 z3 z4).p) hfree hclos (OH hcf hcp hkind hcl) hnames hs⟩
theorem zL(hclos:UX scope X.env=SS cl)(hc:X.calm=true)(hi:QI X tg iter wi)(hg:∀C fp pins s H,QG (wX X N' scope cl C fp pins s H) tg g)(ht:∀C fp pins s H,JI (wX X N' scope cl C fp pins s H) ifs tt)(he:∀C fp pins s H,QE (wX X N' scope cl C fp pins s H) elt te)(hfree:cQ X scope cl N' src)(hcell:∀x∈scope.names,x.2≠.cell)(hkind:scope.kind=.function)(hnames:∀x∈scope.names,x.2=.local->scope.names.lookup x.1=some .local)(hcl:iw X scope cl)(hs:∀x,SJ iter X.env x=SS x:=by intro _;rfl):QE X (.ListComp elt [⟨tg,iter,ifs,0⟩] scope pos) (ka wi src g tt te):=gY hc hi hg ht he hfree hclos hcell hkind hnames hcl hs
theorem Dq{K:QJ}{l tg:RP}{tl:TE}(hK:X.K=K)(hl:QE X l tl):QI X tg l (EV K tl):=by subst hK;exact da hl
theorem Hv{K:QJ}{k:Nat}(hK:X.K=K)(hr:cA k X.A):iF X (Sz .NotEq) (NI K):=hK▸gK hr
end
structure dU(K:QJ)(n:RF)(st:Stmt)(f:Addr)(d:QU):Prop where
 p:PySem.W.nsIn K RB n=some (some (.ref f))
 F:Fun K n n st f d
section
variable {K:QJ}{n:RF}{st:Stmt}{f:Addr}{d:QU}
theorem isF{oc:Value}{od an:Option Addr}{sl:Array (Option Value)}{kV dc pm cd ct:Value}(p:PySem.W.nsIn K RB n=some (some (.ref f)))
  (l:K.lookup f=some ⟨oc,od,.func (S2 n n (dM st) (cY st) (ak st) .none kV dc pm an cd ct),sl⟩) (c:VQ K cd n=true) (k:SM K (.ref f)=true) :
  dU K n st f (S2 n n (dM st) (cY st) (ak st) .none kV dc pm an cd ct):=⟨p,wS l c k⟩
abbrev BA(n:RF)(st:Stmt)(us:List Value)(ps:List RF):Prop:=∀(kV dc pm:Value) (an:Option Addr) (cd ct:Value),XD (S2 n n (dM st) (cY st) (ak st) .none kV dc pm an cd ct) ⟨us,[]⟩=SS (ps.zip us)
theorem dU.b1{x:RF}(I:dU K n st f d)(h:∀u,BA n st [u] [x]:=by exact λ_ _ _ _ _ _ _=>Z):aI K d [x] []:=I.F.binds λa b c e g i us hl=>match us,hl with | [u],_=>h u a b c e g i
theorem dU.b2{x y:RF}(I:dU K n st f d)(h:∀u v,BA n st [u,v] [x,y]:=by exact λ_ _ _ _ _ _ _ _=>Z):aI K d [x,y] []:=I.F.binds λa b c e g i us hl=>match us,hl with | [u,v],_=>h u v a b c e g i
theorem dU.b3{x y z:RF}(I:dU K n st f d)(h:∀u v w,BA n st [u,v,w] [x,y,z]:=by exact λ_ _ _ _ _ _ _ _ _=>Z):aI K d [x,y,z] []:=I.F.binds λa b c e g i us hl=>match us,hl with | [u,v,w],_=>h u v w a b c e g i
end
theorem ac{X:Cx}{st:Stmt}{rest:List Stmt}{t u:TS}(h1:QS X st t)(h2:cR X rest u):cR X (st::rest) (let Uq:=u;JX t Uq):=Dl h1 h2
section
variable {prog:Rz}{w:RS}{A:RK}{E:Value->QQ->Prop}{s:QQ}
end
section
variable {X:Cx}{pos:Uh}
end
section
variable {prog:Rz}{w:RS}{A:RK}{E:Value->QQ->Prop}
end
section
variable {prog:Rz}{w:RS}{A:RK}{E:Value->QQ->Prop}{s:QQ}
end
theorem Av{β:Type}{K:QJ}{J:It}{H:Hp}{D:Addr}{n:Nat}{P₀:Nat->V->Hp->Prop}{P:Hp->V->β->Prop}(wk:Iz J H n P₀)(f:Nat->β){src:List (Option Nat)}{σ:L2.St}{g:TG}{tt:TT}{te:TE}{Q:Hp->Prop}
  (mono:∀H H' v d,ay K H H'->P H v d->P H' v d) (hD:H D=none) (hn:n≤1000)
  (turn:∀(i:Nat) (x:V) (H':Hp),i<n->ax H H'->P₀ i x H'->∀(R:VK) (E:Hp->Prop),(∀v H'',ax H' H''->P H'' v (f i)->R v H'')→
   g x (cI src σ) H' λσ2 H2=>fz (cI src σ) σ2/\tt σ2 H2 λok H3=>if ok=true then te σ2 H3 R else E H3)
  (fin:∀H' ys,ax H H'->H' D=some (.lst ys)->bR (P H') ys ((QM n).map f)->Q H') :
  O5 J D H src σ g tt te Q:=by
 refine⟨λi m ys H'=>i≤n/\m=n-i/\H' D=some (.lst ys)/\ax H H'/\bR (P H') ys ((QM i).map f),⟨_,Rq _,Z,aa,ae hD _,.nil⟩,?_⟩;rintro i m ys H1 ⟨hi,rfl,d1,s1,al1⟩;by_cases hix:i<n
 ·refine .inr ⟨wk.go i H1 hix s1,λx H2 y=>?_⟩;obtain⟨s2,p⟩:=wk.yld i H1 x H2 hix s1 y;refine turn i x H2 hix (s1.trans s2) p _ _ λv H3 s3 p3=>?_
  have d3:H3 D=some (.lst ys):=s3 _ _ (s2 _ _ d1);have tm:ay K H1 (upd H3 D (.lst (ys++[v]))):=(ay.same (s2.trans s3)).trans (ay.up d3 _);refine⟨d3,aN (by rw[al1.len,QK,Rx];lia),n-(i+1),ω,hix,Z,aa,λb o q=>?_,?_⟩
  ·rw[ai (au q hD)];exact s3 _ _ (s2 _ _ (s1 _ _ q))
  ·rw[S7,Rb];exact(al1.mono λv d p=>mono _ _ _ _ tm p).snoc (mono _ _ _ _ (ay.up d3 _) p3)
 ·have e:i=n:=ω
  subst e;exact .inl ⟨wk.stop H1 s1,fin H1 ys s1 d1 al1⟩
section
variable {X:Cx}{K:QJ}
theorem oJ(hu:X.A.units+1<cLine)(ho:QE X o td)(hi:QE X i ty)(hs:MX i):QE X (.Subscript o i pos) (IT td ty):=⟨Hi hu ho.p hi.p hs⟩
end
section
set_option autoImplicit true
set_option relaxedAutoImplicit true
theorem Dy(he:QE X e ta)(hb:Tw e f X.env (eval e X.env)=eval e X.env):QE X (.Attribute e f pos) (JY X.K ta f):=⟨Lc he.p hb⟩
theorem lZ(ha:QE X o ta)(hv:QE X value tv)(hs:TZ value (some (.Attribute o f pos')) pos.line X.env=SS false):QS X (.Assign [.Attribute o f pos'] value pos) (NF X.K ta tv f):=⟨KS ha.p hv.p hs⟩
theorem fc{pl:Sem Bool}(he:QE X o ta)(c:AK X.K C)(hm:jZ X.K C m f)(F:aP X.prog X.w X.K X.mg X.base CX k f fd ps sp)(hr:cA k X.A)(hb:aI X.K fd ps ds)(hd:aW dvs ds)(hx:eZ CX X E)(ha:QA X (e::es) t)(hst:Q6 (e::es) X.env=(false,eval e X.env)::Q6 es X.env:=by rfl)(hpl:(Te pos (Q6 es X.env)).any (·.1)=false:=by rfl) (ht:eval (.Call (.Attribute o m apos) (e::es) [] pos) X.env=(do
   let ov ←eval o X.env
   XV apos.atName
   let (f,first) ←holding [ov] (Xy ov m pl)
   Zg pos f first (Te pos (Q6 (e::es) X.env)) (WR pos (Vb [] X.env))):=by rfl):QE X (.Call (.Attribute o m apos) (e::es) [] pos) (xM C m sp dvs E ta t):=⟨Hf he.p c hm F hr hb hd hx ha.p hst hpl ht⟩
theorem Dw{pl:Sem Bool}(he:QE X o ta)(c:AK X.K C)(hm:jZ X.K C m f)(F:aP X.prog X.w X.K X.mg X.base CX k f fd ps sp)(hr:cA k X.A)(hb:aI X.K fd ps ds)(hd:aW dvs ds)(hx:eZ CX X E) (ht:eval (.Call (.Attribute o m apos) [] [] pos) X.env=(do
   let ov ←eval o X.env
   XV apos.atName
   let (f,first) ←holding [ov] (Xy ov m pl)
   Zg pos f first (Te pos (Q6 [] X.env)) (WR pos (Vb [] X.env))):=by rfl):QE X (.Call (.Attribute o m apos) [] [] pos) (xM C m sp dvs E ta F6):=⟨DW he.p c hm F hr hb hd hx ht⟩
end
structure qk(K:QJ)(C:Addr)(n q:RF)(st:Stmt)(f:Addr)(d:QU):Prop where
 p:RT K (.ref C) n=some (some (.ref f))
 fn:Wz K (.ref f)=true
 F:Fun K n q st f d
section
variable {K:QJ}{C:Addr}{n q:RF}{st:Stmt}{f:Addr}{d:QU}
theorem isM{oc:Value}{od an:Option Addr}{sl:Array (Option Value)}{kV dc pm cd ct:Value}(p:RT K (.ref C) n=some (some (.ref f)))(fn:Wz K (.ref f)=true)
  (l:K.lookup f=some ⟨oc,od,.func (S2 n q (dM st) (cY st) (ak st) .none kV dc pm an cd ct),sl⟩) (c:VQ K cd q=true) (k:SM K (.ref f)=true) :
  qk K C n q st f (S2 n q (dM st) (cY st) (ak st) .none kV dc pm an cd ct):=⟨p,fn,wS l c k⟩
theorem qk.meth(I:qk K C n q st f d):jZ K C n f:=⟨I.p,I.fn,I.F.kp⟩
abbrev BM(n q:RF)(st:Stmt)(us:List Value)(ps:List RF):Prop:=∀(kV dc pm:Value) (an:Option Addr) (cd ct:Value),XD (S2 n q (dM st) (cY st) (ak st) .none kV dc pm an cd ct) ⟨us,[]⟩=SS (ps.zip us)
theorem qk.b1{x:RF}(I:qk K C n q st f d)(h:∀u,BM n q st [u] [x]:=by exact λ_ _ _ _ _ _ _=>Z):aI K d [x] []:=I.F.binds λa b c e g i us hl=>match us,hl with | [u],_=>h u a b c e g i
theorem qk.b2{x y:RF}(I:qk K C n q st f d)(h:∀u v,BM n q st [u,v] [x,y]:=by exact λ_ _ _ _ _ _ _ _=>Z):aI K d [x,y] []:=I.F.binds λa b c e g i us hl=>match us,hl with | [u,v],_=>h u v a b c e g i
theorem qk.b3{x y z:RF}(I:qk K C n q st f d)(h:∀u v w,BM n q st [u,v,w] [x,y,z]:=by exact λ_ _ _ _ _ _ _ _ _=>Z):aI K d [x,y,z] []:=I.F.binds λa b c e g i us hl=>match us,hl with | [u,v,w],_=>h u v w a b c e g i
theorem qk.b4{x y z t:RF}(I:qk K C n q st f d)(h:∀u v w r,BM n q st [u,v,w,r] [x,y,z,t]:=by exact λ_ _ _ _ _ _ _ _ _ _=>Z):aI K d [x,y,z,t] []:=I.F.binds λa b c e g i us hl=>match us,hl with | [u,v,w,r],_=>h u v w r a b c e g i
end
theorem Fp{α β:Type}{K:QJ}{H:Hp}{D a:Addr}{xs:List V}{ds:List α}{P:Hp->V->β->Prop}{f:α->β}{p:α->Bool}{src:List (Option Nat)}{σ:L2.St}{g:TG}{tt:TT}{te:TE}{Q:Hp->Prop}
  (mono:∀H H' v d,ay K H H'->P H v d->P H' v d) (hD:H D=none) (hS:aJ K H a xs) (hl:xs.length=ds.length) (hn:ds.length≤1000)
  (turn:∀(i:Nat) (x:V) (d:α) (H':Hp),xs[i]?=some x->ds[i]?=some d->ax H H'->∀(R:VK) (E:Hp->Prop),(p d=true->∀v H'',ax H' H''->P H'' v (f d)->R v H'')->(p d=false->∀H'',ax H' H''->E H'')→
   g x (cI src σ) H' λσ2 H2=>fz (cI src σ) σ2/\tt σ2 H2 λok H3=>if ok=true then te σ2 H3 R else E H3)
  (fin:∀H' ys,ax H H'->H' D=some (.lst ys)->bR (P H') ys ((ds.filter p).map f)->Q H') :
  ∃W:Nat->Nat->List V->Hp->Prop,(∃m,W 0 m [] (upd H D (.lst [])))/\∀i m ys H,W i m ys H->((xx K a).stop i H/\Q H)∨((xx K a).go i H/\∀x H',(xx K a).yld i H x H'→
   g x (cI src σ) H' λσ2 H2=>fz (cI src σ) σ2/\tt σ2 H2 λok H3=>
    if ok=true then te σ2 H3 λy H4=>H4 D=some (.lst ys)/\ys.length<sizeLine/\∃m',m'<m/\W (i+1) m' (ys++[y]) (upd H4 D (.lst (ys++[y]))) else ∃m',m'<m/\W (i+1) m' ys H3):=by
 refine⟨λi m ys H'=>i≤ds.length/\m=ds.length-i/\H' D=some (.lst ys)/\ax H H'/\bR (P H') ys (((ds.take i).filter p).map f),⟨_,Rq _,Z,aa,ae hD _,.nil⟩,?_⟩;rintro i m ys H1 ⟨hi,rfl,d1,s1,al1⟩;have hS1:aJ K H1 a xs:=s1.seq hS;by_cases hix:i<ds.length
 ·have hx0:xs[i]?=some (xs[i]' ω):=QH _;refine .inr ⟨⟨xs,_,hS1,hx0⟩,?_⟩;rintro x H2 ⟨rfl,hy⟩;have hx:=hy xs hS1;obtain⟨d,hd⟩:∃d,ds[i]?=some d:=⟨_,QH hix⟩;have tk:ds.take (i+1)=ds.take i++[d]:=by rw[Rt,hd];rfl
  refine turn i x d _ hx hd s1 _ _ (λo3 v H3 s3 p3=>?_) λn3 H3 s3=>?_
  ·have d3:H3 D=some (.lst ys):=s3 _ _ d1;have tm:ay K H2 (upd H3 D (.lst (ys++[v]))):=(ay.same s3).trans (ay.up d3 _);have ly:ys.length≤1000:=by
    rw[al1.len,QK];grind
   refine⟨d3,aN ly,ds.length-(i+1),ω,hix,Z,aa,λb o q=>?_,?_⟩
   ·rw[ai (au q hD)];exact s3 _ _ (s1 _ _ q)
   ·rw[tk,Sm,RY o3,Ul,Rb];exact(al1.mono λv d p=>mono _ _ _ _ tm p).snoc (mono _ _ _ _ (ay.up d3 _) p3)
  ·refine⟨ds.length-(i+1),ω,hix,Z,s3 _ _ d1,s1.trans s3,?_⟩;rw[tk,Sm,Sq (by rw[n3];decide),Ul,R7];exact al1.mono λv d p=>mono _ _ _ _ (ay.same s3) p
 ·have e:i=ds.length:=ω
  subst e;rw[RW] at al1;exact .inl ⟨⟨xs,hS1,ω⟩,fin H1 ys s1 d1 al1⟩
def PU(d:Addr)(ob:Obj)(kvs:List (cZ×V)):It:=
 ⟨λi H=>H d=some (.frz ob (.dK kvs))/\i<kvs.length,
  λi H x H'=>H'=H/\∃k v,x=kV k/\kvs[i]?=some (k,v),
  λi H=>H d=some (.frz ob (.dK kvs))/\kvs.length≤i⟩
theorem zm{P:Rz}{w:RS}{K:QJ}{tg:RP}{it d:Addr}{ob:Obj}{kvs:List (cZ×V)}{es:Array Yx}{ep:Nat}(hob:ob.data=.dict es ep) :
  xi P w K tg (PU d ob kvs) [it] it (λi h=>h.IsKeyIter it d i kvs.length ep) where
 mem:=by simp
 obj:=λi h st c hc=>by
  have e:c=it:=by simpa using hc
  subst e;obtain⟨o,e,cc,dd⟩:=st;grind
 keep:=λi h h' st k=>st.at λo e=>k it (by simp) o e
 item:=by
  intro X hP hw hK hc i pins s σ H E I hf st hg;subst hP hw hK;obtain⟨hd,hi⟩:=hg;obtain⟨q0,z,hds,vs,rel,o,es',ep',d1,d2,d3,d4⟩:=(show ObjOk X.prog X.w H s.heap d (.frz ob (.dK kvs)) from I.hok d _ hd);have eo:o=ob:=R6 (d1.symm.trans q0);subst eo;rw[hob] at d3
  cases d3
  have dat:s.heap.DictAt (bK X.prog X.w) d vs ep:=⟨o,es,d1,d2,hob,d4⟩;obtain⟨k,v,hkv'⟩:∃k v,kvs[i]?=some (k,v):=⟨(kvs[i]'hi).1,(kvs[i]'hi).2,QH hi⟩;obtain⟨u,hu,ru⟩:=KV.get rel hkv';rw[rel.length] at st;obtain⟨f0,f1,f2,f3,f4,f5⟩:=hf it (by simp);refine wpAny_pyNext_dict_item st dat hu λkey h1 hkey st' sb=>?_
  have I1:Inv X pins σ H { s with heap:=h1}:=I.turned (t':=s.toks) (λb o hb e=>sb.extBut b o hb e) f0 f1 f3 f4 f5;obtain⟨o2,e2,c2,dd2⟩:=id st';exact⟨key,Z,yO (s:={ s with heap:=h1}) e2 c2 dd2 δ ⟨kV k,H,I1,Js hkey,⟨rfl,k,v,rfl,hkv'⟩,by rw[rel.length];exact st',λb hb=>(hf b hb).1⟩⟩
 done:=by
  intro X hP hw hK hc i pins s σ H E I hf st hg;subst hP hw hK;obtain⟨hd,hi⟩:=hg;obtain⟨q0,z,hds,vs,rel,o,es',ep',d1,d2,d3,d4⟩:=(show ObjOk X.prog X.w H s.heap d (.frz ob (.dK kvs)) from I.hok d _ hd);have eo:o=ob:=R6 (d1.symm.trans q0);subst eo;rw[hob] at d3
  cases d3
  have dat:s.heap.DictAt (bK X.prog X.w) d vs ep:=⟨o,es,d1,d2,hob,d4⟩;rw[rel.length] at st hi;obtain⟨f0,f1,f2,f3,f4,f5⟩:=hf it (by simp);exact wpAny_pyNext_dict_end (I.ok.hd hc) st dat (Yh hi) λh1 ex=>⟨Z,I.turned (t':=s.toks) (λb o hb e=>ex b o hb e) f0 f1 f3 f4 f5⟩
 self:=λ_ _ _ _ _ st h=>wpAny_pyIter_keyiter st h
def Jz(td:TE):TI:=λσ H R=>td σ H λx H1=>∃d kvs,x=.ref d/\H1 d=some (.dK kvs)/\∀ob,R (PU d ob kvs) (upd H1 d (.frz ob (.dK kvs)))
theorem GX(ho:PE X o td):PI X tg o (Jz td):=by
 intro pins s σ H R I h;refine bQ (ho pins s σ H _ I h) λu s1 ⟨x,H1,I1,rx,d,kvs,ex,e,q⟩=>?_
 subst ex;obtain rfl:u=RA d:=rx;obtain⟨z,hds,vs,rel,dd⟩:=Fh I1.hok e;obtain⟨o',es,ep,d1,d2,d3,d4⟩:=id dd;have dat:s1.heap.DictAt (bK X.prog X.w) d vs ep:=⟨o',es,d1,d2,d3,d4⟩;refine wpAny_pyIter_dict hds dat ?_;have k2:∀b o,s1.heap.get? b=some o->(s1.heap.push { cls:=.type "dict_keyiterator",data:=.fields #[.ref d,.int 0 0,.int vs.length 0,.int ep 0]}).get? b=some o:=λb o q=>QP _ q
 have I2:=I1.kept (t':=s1.toks) k2;have hit:=Rg s1.heap (o:={ cls:=.type "dict_keyiterator",data:=.fields #[.ref d,.int 0 0,.int vs.length 0,.int ep 0]}) Z;have dl:d<s1.heap.objs.size:=Re d1;generalize s1.heap.push { cls:=.type "dict_keyiterator",data:=.fields #[.ref d,.int 0 0,.int vs.length 0,.int ep 0]}=hE at I2 hit k2 ⊢;have I3:=nX (h':=hE) (t':=s1.toks) (ob:=.frz o' (.dK kvs)) I2 (by rw[e];exact Ti) ⟨Z,λ_ _=>Z⟩ ⟨_,k2 _ _ d1⟩ ⟨k2 _ _ d1,z,hds,vs,rel,o',es,ep,k2 _ _ d1,d2,d3,d4⟩;have nd:s1.heap.objs.size≠d:=Ur dl;refine⟨_,[s1.heap.objs.size],_,_,_,Z,I3,zm d3,⟨_,hit,Z,by rw[rel.length];rfl⟩,λc hc=>?_,q o'⟩;have hc':c=s1.heap.objs.size:=by simpa using hc
 subst hc';exact I1.fpOk (QY _) (by rw[ai nd];exact I1.hok.fresh (QY _))
theorem Gu(ho:QE X o td):QI X tg o (Jz td):=⟨GX ho.p⟩
theorem jm{X:Cx}{K:QJ}{e:RP}{f:RF}{pos:Uh}{ta:TE}(hK:X.K=K)(he:QE X e ta)(hb:Tw e f X.env (eval e X.env)=eval e X.env):QE X (.Attribute e f pos) (JY K ta f):=by subst hK;exact Dy he hb
theorem qJ(hu:X.A.units+1<cLine)(hi:QE X i ty)(ho:QE X o td)(hm:TW .NotIn o=false):QT X (.Compare i [.NotIn] [o] pos) (xJ (xN ty td)):=⟨DD (zX hu hi.p ho.p) hm⟩
theorem Kr(hu:X.A.units+1<cLine)(hi:QE X i ty)(ho:QE X o td)(hm:TW .In o=false):QT X (.Compare i [.In] [o] pos) (xJ (Nx ty td)):=⟨DD (Le hu hi.p ho.p) hm⟩
theorem AX(h:H d=some (.frz ob (.dK kvs))):Iz (PU d ob kvs) H kvs.length (λi x _=>∃k v,x=kV k/\kvs[i]?=some (k,v)) where
 go:=λi H' hi s=>⟨s _ _ h,hi⟩
 stop:=λH' s=>⟨s _ _ h,QY _⟩
 yld:=λi H' x H'' hi s y=>by obtain⟨rfl,q⟩:=y;exact⟨ax.refl _,q⟩
theorem AC:eF X (.builtin "len") (λxs H Q=>∃(a:Addr) (kvs:List (cZ×V)),xs=[.ref a]/\Rd H a (.dK kvs)/\Q (.int kvs.length) H):=by
 intro pins s σ H vs us Q I r h;obtain⟨a,kvs,rfl,e,q⟩:=h
 cases r with
 |cons r1 r2=>
  cases r2
  cases r1
  exact OJ I e λt s' I'=>⟨.int kvs.length,H,I',⟨t,Z⟩,q⟩
section
variable {X:Cx}{pos:Uh}
def NL(K:QJ):V->V->Hp->VK->Prop:=λx y H Q=>∃(p:Addr) (xs:List V) (i:Nat) (v:V),x=.ref p/\y=.int (i:Nat)/\aJ K H p xs/\xs[i]?=some v/\Q v H
theorem hU:MW X (NL X.K):=by
 intro pins s σ H o i ov iv Q I ro ri h;obtain⟨p,xs,n,v,rfl,rfl,hq,he,q⟩:=h
 cases ro
 obtain⟨t,rfl⟩:=ri;obtain⟨its,r,pl,hz⟩:=I.list hq;obtain⟨w,ew,rw'⟩:=r.get he;have hl:=r.length;have hn:=mB;have hi:=(QN.mp he).1;exact wpAny_getItem_list pl.isList ω ω (by simpa using ew) ⟨v,H,I,rw',q⟩
theorem kI{o i e:RP}{to ti te:TE}{tget:V->V->Hp->VK->Prop}{tip:JH}{tset:xm}{op:Y3}{tpos:Uh}(ho:QE X o to)(hi:QE X i ti)(hg:MW X tget)(he:QE X e te)(hp:Na X op tip)(hs:FG X tset)
  (ha:∀ov iv new,augStore i ov iv new=(do holding [new,ov,iv] (Y2 ov iv new);release [new,ov,iv] [];SS .next):=by intros;rfl):QS X (.AugAssign (.Subscript o i tpos) op e pos) (IU to ti te tget tip tset):=⟨GM ho.p hi.p hg he.p hp hs ha⟩
set_option autoImplicit true in
set_option relaxedAutoImplicit true in
theorem Gw(M:Mk X.K C f)(F:aP X.prog X.w X.K X.mg X.base CX k f fd ps sp)(hr:cA (k+1) X.A)(hg:Gl X x)(hm:X.mg x=some (.ref C))(hb:aI X.K fd ps ds)(hd:aW dvs ds)(hx:eZ CX X E)(ha:QA X (e::es) t)(hdb:(x==("__debug__" : RF))=false:=by decide)(he:Q6 (e::es) X.env=(false,eval e X.env)::Q6 es X.env:=by rfl)(hpl:(Te pos (Q6 es X.env)).any (·.1)=false:=by rfl):QE X (.Call (.Name x p) (e::es) [] pos) (IR C sp dvs E t):=⟨Hg M F hr hg hm hb hd hx ha.p hdb he hpl⟩
end
theorem Fo{β:Type}{K:QJ}{J:It}{H:Hp}{D:Addr}{n:Nat}{Pw:Nat->V->Hp->Prop}(w:Iz J H n Pw){P:Hp->V->β->Prop}{f:Nat->β}{p:Nat->Bool}{src:List (Option Nat)}{σ:L2.St}{g:TG}{tt:TT}{te:TE}{Q:Hp->Prop}
  (mono:∀H H' v d,ay K H H'->P H v d->P H' v d) (hD:H D=none) (hn:n≤1000)
  (turn:∀(i:Nat) (x:V) (H':Hp),i<n->ax H H'->Pw i x H'->∀(R:VK) (E:Hp->Prop),(p i=true->∀v H'',ax H' H''->P H'' v (f i)->R v H'')->(p i=false->∀H'',ax H' H''->E H'')→
   g x (cI src σ) H' λσ2 H2=>fz (cI src σ) σ2/\tt σ2 H2 λok H3=>if ok=true then te σ2 H3 R else E H3)
  (fin:∀H' ys,ax H H'->H' D=some (.lst ys)->bR (P H') ys (((QM n).filter p).map f)->Q H') :
  ∃W:Nat->Nat->List V->Hp->Prop,(∃m,W 0 m [] (upd H D (.lst [])))/\∀i m ys H,W i m ys H->(J.stop i H/\Q H)∨(J.go i H/\∀x H',J.yld i H x H'→
   g x (cI src σ) H' λσ2 H2=>fz (cI src σ) σ2/\tt σ2 H2 λok H3=>
    if ok=true then te σ2 H3 λy H4=>H4 D=some (.lst ys)/\ys.length<sizeLine/\∃m',m'<m/\W (i+1) m' (ys++[y]) (upd H4 D (.lst (ys++[y]))) else ∃m',m'<m/\W (i+1) m' ys H3):=by
 refine⟨λi m ys H'=>i≤n/\m=n-i/\H' D=some (.lst ys)/\ax H H'/\bR (P H') ys (((QM i).filter p).map f),⟨_,Rq _,Z,aa,ae hD _,.nil⟩,?_⟩;rintro i m ys H1 ⟨hi,rfl,d1,s1,al1⟩;by_cases hix:i<n
 ·refine .inr ⟨w.go i H1 hix s1,λx H2 y=>?_⟩;obtain⟨s2,pw⟩:=w.yld i H1 x H2 hix s1 y;have d2:=s2 _ _ d1;have al2:=al1.mono λv d p=>mono _ _ _ _ (ay.same s2) p
  have tk:QM (i+1)=QM i++[i]:=S7;refine turn i x H2 hix (s1.trans s2) pw _ _ (λo3 v H3 s3 p3=>?_) λn3 H3 s3=>?_
  ·have d3:H3 D=some (.lst ys):=s3 _ _ d2;have tm:ay K H2 (upd H3 D (.lst (ys++[v]))):=(ay.same s3).trans (ay.up d3 _);have ly:ys.length≤1000:=by
    rw[al1.len,QK];grind
   refine⟨d3,aN ly,n-(i+1),ω,hix,Z,aa,λb o q=>?_,?_⟩
   ·rw[ai (au q hD)];exact s3 _ _ (s2 _ _ (s1 _ _ q))
   ·rw[tk,Sm,RY o3,Ul,Rb];exact(al2.mono λv d p=>mono _ _ _ _ tm p).snoc (mono _ _ _ _ (ay.up d3 _) p3)
  ·refine⟨n-(i+1),ω,hix,Z,s3 _ _ d2,(s1.trans s2).trans s3,?_⟩;rw[tk,Sm,Sq (by rw[n3];decide),Ul,R7];exact al2.mono λv d p=>mono _ _ _ _ (ay.same s3) p
 ·have e:i=n:=ω
  subst e;exact .inl ⟨w.stop H1 s1,fin H1 ys s1 d1 al1⟩
end B
namespace B
def qK(rows:List (R×R))(s:R):R:=if cO rows s=0 then(rows.getD 0 jx).2 else aK (rows.getD (cO rows s-1) jx).2 (aC (bu (rows.getD (cO rows s-1) jx) (rows.getD (cO rows s) jx)) (aA s (rows.getD (cO rows s-1) jx).1))
theorem AW(h:bg rows)(hs:jX s)(hp:cO rows s=0):s=(0,1):=by
 obtain⟨y,ey⟩:=h.zero;have c:=jc hs.bq.pos h.inc h.allP ey;rw[hp] at c;have c':aL (0,1) s=false:=c;rw[fy] at c';have z:s.1*1≤0*s.2:=c';have nn:=hs.nn;have e:s.1=0:=ω
 have cop:=hs.bq.cop;have pos:=hs.bq.pos;rw[e] at cop;have:s.2.natAbs=1:=by simpa [Rf] using cop
 grind
def Sv(rows:List (R×R))(i:Nat):Rat:=val (rows.getD i jx).1
def Pv(rows:List (R×R))(i:Nat):Rat:=val (rows.getD i jx).2
def Cvx(rows:List (R×R)):Prop:=∀j,j+2<rows.length->sl (Sv rows) (Pv rows) j≤sl (Sv rows) (Pv rows) (j+1)
theorem iE(h:rows[i]?=some a):Sv rows i=val a.1:=by unfold Sv;rw[bS h]
theorem rV(h:rows[i]?=some a):Pv rows i=val a.2:=by unfold Pv;rw[bS h]
theorem bg.up(h:bg rows):∀j,j<rows.length-1->Sv rows j<Sv rows (j+1):=λj hj=>by
 obtain⟨a,ea⟩:∃a,rows[j]?=some a:=⟨_,QH ω⟩;obtain⟨b,eb⟩:∃b,rows[j+1]?=some b:=⟨_,QH ω⟩;rw[iE ea,iE eb];obtain⟨h1,e1⟩:=QN.mp ea;obtain⟨h2,e2⟩:=QN.mp eb;have:=R8.mp h.inc j (j+1) h1 h2 ω;rw[e1,e2] at this;exact(bM (h.sp a (QL ea)).pos (h.sp b (QL eb)).pos).mp this
theorem Cvx.of(h:Cvx rows):∀j,j+1<rows.length-1->sl (Sv rows) (Pv rows) j≤sl (Sv rows) (Pv rows) (j+1):=λj hj=>h j ω
theorem zu(h:bg rows)(ea:rows[i]?=some a)(eb:rows[i+1]?=some b):val (bu a b)=sl (Sv rows) (Pv rows) i:=by
 have ma:=QL ea;have mb:=QL eb;have ne:=(h.slope (SH i) ea eb).1;unfold bu sl;rw[j9 (eX (h.pw b mb).pos (h.pw a ma).pos).pos (eX (h.sp b mb).pos (h.sp a ma).pos).pos ne,dt (h.pw b mb).pos (h.pw a ma).pos,dt (h.sp b mb).pos (h.sp a ma).pos,iE ea,iE eb,rV ea,rV eb]
theorem uE(h:bg rows)(hs:jX s)(hb:bA (.tab rows) s):
  ∃m,m<rows.length-1/\Sv rows m≤val s/\val s≤Sv rows (m+1)/\val (qK rows s)=Pv rows m+sl (Sv rows) (Pv rows) m*(val s-Sv rows m):=by
 have n2:=h.n2;have pl:=h.p_lt hs.bq.pos hb;by_cases c0:cO rows s=0
 ·obtain⟨y,ey⟩:=h.zero;have e:=AW h hs c0;refine⟨0,ω,?_,?_,?_⟩
  ·rw[iE ey,e];exact R1
  ·have:=h.up 0 ω;rw[iE ey] at this;rw[e];grind
  ·unfold qK;rw[if_pos c0,bS ey,rV ey,iE ey,e];grind
 ·obtain⟨a,ea⟩:∃a,rows[cO rows s-1]?=some a:=⟨_,QH ω⟩;obtain⟨b,eb⟩:∃b,rows[cO rows s]?=some b:=⟨_,QH pl⟩;have eb':rows[cO rows s-1+1]?=some b:=by rw[YY ω];exact eb
  have ma:=QL ea;have mb:=QL eb;have c1:=jc hs.bq.pos h.inc h.allP ea;have c2:=jc hs.bq.pos h.inc h.allP eb;rw[decide_eq_true ω] at c1;rw[decide_eq_false ω] at c2;refine⟨cO rows s-1,ω,?_,?_,?_⟩
  ·rw[iE ea];exact SE ((bM (h.sp a ma).pos hs.bq.pos).mp c1)
  ·rw[iE eb'];exact(bD (h.sp b mb).pos hs.bq.pos).mp c2
  ·unfold qK;rw[if_neg c0,bS ea,bS eb];have sr:de (bu a b):=let w:=(h.slope (SH _) ea eb').2.2.2;⟨w.pos,w.cop⟩;have mr:=eX hs.bq.pos (h.sp a ma).pos;rw[dg (h.pw a ma).pos (eP sr mr).pos,cM sr.pos mr.pos,dt hs.bq.pos (h.sp a ma).pos,zu h ea eb',rV ea,iE ea]
theorem above(h:bg rows)(hc:Cvx rows)(hs:jX s)(hb:bA (.tab rows) s)(hi:i<rows.length-1):
  Pv rows i+sl (Sv rows) (Pv rows) i*(val s-Sv rows i)≤val (qK rows s):=by
 obtain⟨m,hm,m1,m2,em⟩:=uE h hs hb;rw[em];exact Ed h.up hc.of hi hm m1 m2
def Cv(rows:List (R×R))(x:Rat):Prop:=Cvx rows/\∀j,j+2=rows.length->sl (Sv rows) (Pv rows) j≤x
theorem Br(h:j+1<rows.length):sl (Sv (rows++[w])) (Pv (rows++[w])) j=sl (Sv rows) (Pv rows) j:=by
 have g:∀i,i<rows.length->(rows++[w]).getD i jx=rows.getD i jx:=λi hi=>by
  grind
 unfold sl Sv Pv;rw[g j ω,g (j+1) h]
theorem Cv.snoc(hl:rows.length=i+1)(hw:rows[i]?=some w)(h:Cv rows (val slo))(w1:0<w.1.2)(w2:0<w.2.2)(hs:de slo)(ht:de st)(hp:0<st.1):
  Cv (rows++[(aK w.1 st,aK w.2 (aC slo st))]) (val slo):=by
 have tr:=eP hs ht;have g1:(rows++[(aK w.1 st,aK w.2 (aC slo st))])[i]?=some w:=by rw[RQ ω];exact hw
 have g2:(rows++[(aK w.1 st,aK w.2 (aC slo st))])[i+1]?=some (aK w.1 st,aK w.2 (aC slo st)):=by
  rw[Tj ω,show i+1-rows.length=0 by lia];rfl
 have ne:val st≠0:=λz=>by have:=(bX ht.pos).mp z;lia
 have e:sl (Sv (rows++[(aK w.1 st,aK w.2 (aC slo st))])) (Pv (rows++[(aK w.1 st,aK w.2 (aC slo st))])) i=val slo:=by
  unfold sl;rw[iE g1,iE g2,rV g1,rV g2];show(val (aK w.2 (aC slo st))-val w.2)/(val (aK w.1 st)-val w.1)=val slo;rw[dg w2 tr.pos,dg w1 ht.pos,cM hs.pos ht.pos];generalize val slo=u at *;generalize val st=v at *;generalize val w.1=a at *;generalize val w.2=b at *;grind
 refine⟨λj hj=>?_,λj hj=>?_⟩
 ·rw[Q8] at hj;have hj':j+2<rows.length+1:=hj;rw[Br (show j+1<rows.length by lia)];by_cases c:j+2<rows.length
  ·rw[Br (show j+1+1<rows.length by lia)];exact h.1 j c
  ·have ej:j+1=i:=ω
   rw[ej,e];exact h.2 j ω
 ·rw[Q8] at hj;have hj':j+2=rows.length+1:=hj;have ej:j=i:=ω
  rw[ej,e];exact R1
end B
namespace B
open PySem PySem.Spec PySem.Calls L2 PyProof.Rows
def Pb(X:Cx)(A:RK)(N':List RF)(qual:RF)(scope:UG)(f:Addr)(cd:Value)(cl:List (RF×Addr))(s:QQ)(H:Hp):Cx where
 prog:=X.prog
 w:=X.w
 K:=X.K
 mg:=X.mg
 base:=X.base
 A:=A.deeper (Zw qual scope s.heap.objs.size f cd cl)
 N:=N'
 s₀:=s
 H₀:=H
 env:=Zw qual scope s.heap.objs.size f cd cl
 outer:=X.stack
 stack:=Zw qual scope s.heap.objs.size f cd cl::X.stack
 ex:=[]
 fn:=λ_=>false
 calm:=true
 pn:=[]
 xe:=λ_ _=>False
structure vb(scope:UG)(p y:RF):Prop where
 kind:scope.kind=.function
 co:scope.isCoroutine=false
 gen:scope.isGenerator=false
 loc:scope.names.lookup p=some .local
 fre:scope.names.lookup y=some .free
 all:(scope.names.all λz=>z.2 != .cell&&(z.2 != .free||z.1==y))=true
theorem Pa(h:([(y,c)]:List (RF×Addr)).lookup x=some c'):x=y/\c'=c:=by
 grind
theorem Qj:([(y,c)]:List (RF×Addr)).lookup y=some c:=by
 grind
section
variable {X:Cx}{pins:List (Addr×Obj)}{σ:L2.St}{H:Hp}{s:QQ}{A:RK}{p y:RF}{qual:RF}{scope:UG}{f c:Addr}{cd:Value}{h₁:Ra}{tk:Nat}{j:Nat}{v:V}{u:Value}
theorem vb.only(S:vb scope p y)(h:scope.names.lookup x=some .cell∨scope.names.lookup x=some .free):x=y:=by
 have key:∀k:Vc,scope.names.lookup x=some k->(k=.cell∨k=.free)->x=y:=λk e hk=>by
  have q:=T7.mp S.all _ (mem_of_lookup e);grind
 rcases h with h|h
 ·exact key _ h (.inl Z)
 ·exact key _ h (.inr Z)
theorem HS(I:L2.Inv X pins σ H s)(S:vb scope p y)(hA:A.frames=some X.stack)(hd:A.handled=none)(hj:X.N[j]?=some y)(hk:X.env.kindOf y=some .cell)(hc:X.env.cells.lookup y=some c)
  (hns:h₁.Ns s.heap.objs.size (λx=>[(p,u)].reverse.lookup x)) (keep:∀b o,s.heap.get? b=some o->h₁.get? b=some o) (r:aY v u) :
  L2.Inv (Pb X A [p,y] qual scope f cd [(y,c)] s H) [] [some v,(σ[j]?).getD none] H { s with heap:=h₁,toks:=tk} where
 ok:={
     mod:=I.ok.mod,kind:=S.kind,glob:=Z,blt:=Z,above:=QY _
     inj:=λx z c' e1 e2=>by rw[(Pa e1).1,(Pa e2).1]
     has:=λx h=>by
      have e:=S.only h;subst e;exact⟨c,Qj⟩
     cab:=λx c z=>nomatch z
     hd:=λ_=>hd,frames:=Ym hA,stk:=.inr ⟨Z,Z⟩
     exf:=λb z=>absurd (show b∈([]:List Addr) from z) (by simp)
     bs:=I.bs,bsz:=RC I.ok.bsz I.sz
     noex:=λb o _ z=>absurd (show b∈([]:List Addr) from z) (by simp)
     exfs:=λb z=>absurd (show b∈([]:List Addr) from z) (by simp)
     funs:=I.stack,frf:=I.stkFree}
 os:=Z
 bare:=I.bare
 base:=Un.kept keep
 loc:=⟨_,hns,λi x v' e1 e2 _=>by
  match i,e1,e2 with
  |0,e1,e2=>
   cases e1
   cases e2
   exact⟨u,r,.inl ⟨S.loc,by show([(p,u)]:List (RF×Value)).lookup p=some u;rw[ZJ,beq_self_eq_true]⟩⟩
  |1,e1,e2=>
   cases e1
   have e3:σ[j]?=some (some v'):=by
    have e2':some ((σ[j]?).getD none)=some (some v'):=e2;injection e2' with e2'
    cases z:σ[j]? with
    |none=>rw[z] at e2';cases e2'
    |some o=>rw[z] at e2';exact congrArg some e2'
   obtain⟨m0,hn0,hl0⟩:=I.loc;obtain⟨u',r',l⟩:=hl0 j y v' hj e3 (SB (SI hk));refine⟨u',r',?_⟩;rcases l with⟨k,_⟩ | ⟨k,c',e,o,ho,hd⟩
   ·rw[hk] at k;cases k
   ·rw[hc] at e
    cases e
    exact .inr ⟨.inr S.fre,c,Qj,o,keep c o ho,hd⟩
  |i+2,e1,_=>cases e1⟩
 cell:=λx c' e=>by
  obtain⟨_,rfl⟩:=Pa e;obtain⟨v,o,ho,hd⟩:=I.cell y c' hc;exact⟨v,o,keep _ _ ho,hd⟩
 free:=I.hok.fresh (QY _)
 freeC:=λx c' e=>by
  obtain⟨_,rfl⟩:=Pa e;exact I.freeC y c' hc
 pin:=λq hq=>absurd (show q∈([]:List (Addr×Obj)) from hq) (by simp)
 hok:=I.hok.kept keep
 len:=Z
theorem EH(I:L2.Inv X pins σ H s)(S:vb scope p y)(hA:A.frames=some X.stack)(hd:A.handled=none)(hroom:A.depth<recursionLimit)
  (hj:X.N[j]?=some y) (hk:X.env.kindOf y=some .cell) (hc:X.env.cells.lookup y=some c)
  (hf:s.heap.get? f=some (VC nm qual params body scope [(y,c)] pm c' ctv)) (hcd:s.heap.CodeRec (.ref c') qual)
  (bind:∀w:Value,XD (aah nm qual params body scope [(y,c)] pm (.ref c') ctv) ⟨[w],[]⟩=SS [(p,w)])
  (hb:PE (Pb X A [p,y] qual scope f (.ref c') [(y,c)] s H) body te) (r:aY v u) (h:te [some v,(σ[j]?).getD none] H Qk):
  VO (Ro X.prog X.w) A (.call (.ref f) ⟨[u],[]⟩) (CR c5 X.stack X.prog X.w H s Qk (λ_ _ _=>False)) s:=by
 refine PySem.W.kla_callFunE hroom hf Z S.co S.gen Z hcd ?_;rw[bind];refine wpAny_pure (Yo (λx hx z=>?_) (λx hx=>?_) (λh₁ hns hsb=>⟨(I.nolimit).fresh _ hsb,?_⟩) S.kind)
 ·have q:=T7.mp S.all _ hx;grind
 ·have e:x=(p,u):=by simpa using hx
  rw[e];exact S.loc
 have keep:∀b o,s.heap.get? b=some o->h₁.get? b=some o:=λb o e=>hsb.extBut b o (RZ (Re e)) (QP _ e)
 have J:L2.Inv (Pb X A [p,y] qual scope f (.ref c') [(y,c)] s H) [] [some v,(σ[j]?).getD none] H { s with heap:=h₁,toks:=s.toks+1}:=HS I S hA hd hj hk hc hns keep r;refine PySem.W.kla_codeExpr (SA (hb [] _ _ H Qk J h) (λu' s' ⟨v',H',J',r',q'⟩=>?_) λ_ _ z=>Sn z);exact⟨v',H',J'.os,J'.bare,J'.base,J'.hok,r',q'⟩
end
abbrev tS:HO:=.ext λ_=>True
def xk(H:Hp)(T:Addr)(qual:RF)(lp:Uh):Prop:=
 H T=some (.tbl #[])∨∃(c:Addr) (o:Obj) (vs:Array Value) (t:Tok),H T=some (.tbl #[rawInt lp.line,rawInt lp.col,.ref c])/\H c=some (.frz o tS)/\o.data=.fields vs/\vs[1]?=some (.str qual t)
def jh(T:Addr)(H H':Hp):Prop:=∀b o,b≠T->H b=some o->H' b=some o
theorem xk.code{X:Cx}{pins:List (Addr×Obj)}{σ:L2.St}{H:Hp}{s:QQ}{c:Addr}{o:Obj}{vs:Array Value}{t:Tok}{q:RF}(I:L2.Inv X pins σ H s)(hc:H c=some (.frz o tS))(d:o.data=.fields vs)(e:vs[1]?=some (.str q t)):s.heap.CodeRec (.ref c) q:=
 ⟨c,o,vs,t,Z,(I.hok c _ hc).1,d,e⟩
theorem FA:codeAmong lp #[rawInt lp.line,rawInt lp.col,v].toList=some v:=codeAmong_snoc (pos:=lp) (c:=v) [] trivial Z
section
variable {X:Cx}{pins:List (Addr×Obj)}{σ:L2.St}{H:Hp}{s:QQ}{c T:Addr}{params:ZG}{body:RP}{scope:UG}{lp:Uh}{clos:List (RF×Addr)}{Q:Value->QQ->Prop}{E:Value->QQ->Prop}
theorem EI(I:L2.Inv X pins σ H s)(hcode:X.env.code=.ref c)(hc:UM X.K c T=true)(hT:xk H T (X.env.qual ++ "<lambda>") lp)(hB:X.base.BuiltinsAt X.mg T)(hcl:UX scope X.env=SS clos)(hdef:defaultsOf params X.env=([],[]))
  (h:∀(f:Addr) (H':Hp) (s':QQ) (c':Addr) (ctv:Value) (o:Obj) (vs:Array Value) (t:Tok),L2.Inv X pins σ H' s'->jh T H H'->xk H' T (X.env.qual ++ "<lambda>") lp->H f=none→
   H' f=some (.frz (VC "<lambda>" (X.env.qual ++ "<lambda>") params body scope clos ((X.mg "__name__").getD .none) c' ctv) tS)->H' c'=some (.frz o tS)->o.data=.fields vs->vs[1]?=some (.str (X.env.qual ++ "<lambda>") t)->Q (.ref f) s') :
  Rj (Ro X.prog X.w) X.A (eval (.Lambda params body scope lp) X.env) Q E s:=by
 refine PySem.W.kla_eval hdef ?_;have hg:s.heap.Ns RB X.mg:=I.mod.glob.keeps I.bk;have C:PySem.W.CodeHd s.heap c T:=YF I.kIn hc;obtain⟨bm,ob,b1,b2,b3,b4,b5,b6⟩:=hB;have hB':s.heap.BuiltinsAt X.mg T:=⟨bm,ob,b1,b2,b3,b4,I.bk _ _ b5,b6⟩;rcases hT with hT | ⟨c',o,vs,t,hT,hc',d,e⟩
 ·have hP:s.heap.get? T=some (VT #[]):=I.hok T _ hT;have hgT:RB≠T:=λq=>by
   obtain⟨o,es,ep,e,hd,_⟩:=hg;rw[q,hP] at e;cases e;cases hd
  refine PySem.W.kla_makeFunction hcl I.ok.glob hg hcode C hP trivial Z hgT hB' λc' ctv h' tk hx hge hlt hrec htb=>?_
  obtain⟨c₂,oc,vs,t,e2,hoc,hd,hv⟩:=hrec
  cases e2
  have nc:H c'=none:=I.hok.fresh hge;have szf:s.heap.objs.size≤h'.objs.size:=RC hge (Up hlt);have nf:H h'.objs.size=none:=I.hok.fresh szf;have fT:h'.objs.size≠T:=λz=>by rw[z,hT] at nf;cases nf
  have cT:c'≠T:=λz=>by rw[z,hT] at nc;cases nc
  have cf:c'≠h'.objs.size:=RZ hlt;have ff:(VC "<lambda>" (X.env.qual ++ "<lambda>") params body scope clos ((X.mg "__name__").getD .none) c' ctv).isFreed=false:=Z;generalize hfo:VC "<lambda>" (X.env.qual ++ "<lambda>") params body scope clos ((X.mg "__name__").getD .none) c' ctv=fo at ff;generalize hH':upd (upd (upd H T (.tbl (#[]++#[rawInt lp.line,rawInt lp.col,.ref c']))) c' (.frz oc tS)) h'.objs.size (.frz fo tS)=H';have hf':H' h'.objs.size=some (.frz fo tS):=by rw[←hH',aa]
  have hc2:H' c'=some (.frz oc tS):=by rw[←hH',ai cf,aa]
  have hT':H' T=some (.tbl (#[]++#[rawInt lp.line,rawInt lp.col,.ref c'])):=by rw[←hH',ai (SO fT),ai (SO cT),aa]
  have old:∀b u,b≠T->H b=some u->H' b=some u:=λb u n q=>by
   rw[←hH',ai (au q nf),ai (au q nc),ai n];exact q
  have kp:∀b o,b≠T->s.heap.get? b=some o->(h'.push fo).get? b=some o:=λb o n q=>QP _ (hx b o n q)
  have un:Un X.fs [] H H' s.heap (h'.push fo):=by
   refine⟨λb o q n _ _=>kp b o (λz=>by rw[z,hT] at n;cases n) q,λb o q n _ _=>⟨o.slots,kp b o (λz=>by rw[z,hT] at n;cases n) q⟩,λb o q n _=>?_,λb o q _=>?_,λb xs q=>old b _ (λz=>by rw[z,hT] at q;cases q) q,λb o u q=>old b _ (λz=>by rw[z,hT] at q;cases q) q,λb ps q=>?_⟩
   ·have l:=Re q;rw[←hH',ai (RZ (Q7 l szf)),ai (RZ (Q7 l hge)),ai (λz=>by rw[z,hT] at n;cases n)];exact n
   ·by_cases z:b=T
    ·exact⟨_,by rw[z];exact QP _ htb⟩
    ·exact⟨o,kp b o z q⟩
   ·by_cases z:b=T
    ·rw[z,hT] at q
     cases q
     exact⟨_,by rw[z];exact hT'⟩
    ·exact⟨#[],by rw[old b _ z q];simp⟩
  have hok:jI X.prog X.w H' (h'.push fo):=λb u q=>by
   by_cases z1:b=h'.objs.size
   ·rw[z1,hf'] at q
    cases q
    rw[z1];exact⟨Rg _ ff,trivial,⟨_,Rg _ ff⟩,λ_ _ _ _=>trivial⟩
   by_cases z2:b=c'
   ·rw[z2,hc2] at q
    cases q
    rw[z2];exact⟨QP _ hoc,trivial,⟨_,QP _ hoc⟩,λ_ _ _ _=>trivial⟩
   by_cases z3:b=T
   ·rw[z3,hT'] at q
    cases q
    rw[z3];exact QP _ htb
   ·rw[←hH',ai z1,ai z2,ai z3] at q;refine(I.hok b u q).stay (λa v ha e=>kp a v (λz=>?_) e) (λa e=>old a _ (λz=>by rw[z,hT] at e;cases e) e) (λa xs e=>old a _ (λz=>by rw[z,hT] at e;cases e) e);grind
  have J:L2.Inv X pins σ H' { s with heap:=h'.push fo,toks:=tk}:=I.un un hok;subst hfo;exact h _ H' _ c' ctv oc vs t J old (.inr ⟨c',oc,vs,t,by rw[hT'];rfl,hc2,hd,hv⟩) nf hf' hc2 hd hv
 ·have hP:s.heap.get? T=some (VT #[rawInt lp.line,rawInt lp.col,.ref c']):=I.hok T _ hT;refine PySem.W.kla_makeFunctionHit hcl I.ok.glob hg hcode C hP trivial FA hB' λctv h' tk hk hsz=>?_
  have nf:H h'.objs.size=none:=I.hok.fresh hsz;have old:∀(u:HO) b v,H b=some v->upd H h'.objs.size u b=some v:=λu b v q=>by rw[ai (au q nf)];exact q
  refine h _ _ _ c' ctv o vs t (I.laid (o:=.frz (VC "<lambda>" (X.env.qual ++ "<lambda>") params body scope clos ((X.mg "__name__").getD .none) c' ctv) tS) (t':=tk) (λb u q=>QP _ (hk b u q)) hsz ⟨Rg _ Z,trivial,⟨_,Rg _ Z⟩,λ_ _ _ _=>trivial⟩) (λb v _ q=>old _ b v q) (.inr ⟨c',o,vs,t,old _ _ _ hT,old _ _ _ hc',d,e⟩) nf aa (old _ _ _ hc') d e
end
theorem wZ{X:Cx}{f:Addr}{key:Nat->Int}{pins:List (Addr×Obj)}{s:QQ}{σ:L2.St}{H:Hp}{p:Addr}{n:Nat}{us:List Value}{Q:VK}(hc:X.calm=true)
  (I:L2.Inv X pins σ H s) (r:aW [.ref p] us) (hp:H p=some (.rng 0 n)) (h64:n<64)
  (turn:∀(i:Nat) (t:Tok),i<n->∀(pins:List (Addr×Obj)) (s:QQ),L2.Inv X pins σ H s->Rj (Ro X.prog X.w) X.A.in1.in1 (call (.ref f) [.int (i:Int) t]) (λu s2=>(∃t,u=.int (key i) t)/\L2.Inv X pins σ H s2) (λ_ _=>False) s)
  (q:∀(l:Addr) (ms:List Nat),ms.Perm (QM n)->ms.Pairwise (λa b=>key a≤key b)->H l=none->Q (.ref l) (upd H l (.lst (ms.map λi:Nat=>V.int i)))) :
  Rj (Ro X.prog X.w) X.A (call (.builtin "sorted") us [(UW "key",.ref f)]) (EP X pins σ Q) X.xe s:=by
 obtain⟨u,rfl,rx⟩:=jB r
 cases rx
 obtain⟨t,u,w,e⟩:=(show ObjOk X.prog X.w H s.heap p (.rng 0 n) from I.hok p _ hp);have hh:X.A.in1.handled=none:=I.ok.hd hc;refine call_function_entry_kw kind_sorted plain_sorted entry_sorted (ksk_s1 _ _) ?_;unfold R9.«sorted»;refine QR (m:=checkCount "sorted" 1 1 _) (wpAny_pure (QR (tK (n:=n) hh (show IsRange s.heap p 0 (n:Int) 1 t u w from e) (small_one ω ω ω ω) (by rw[YH];split<;>lia) ω λh1 tk acc kp hi=>?_)));obtain⟨hl,ha⟩:=hi;have ll:acc.toList.length=n:=by rw[Tq,hl]
 have ha':∀(i:Nat) (v:Value),acc.toList[i]?=some v->∃t,v=.int (i:Int) t:=λi v e=>by
  obtain⟨t,q⟩:=ha i v (by rw[←Array.getElem?_toList];exact e);exact⟨t,by rw[q,Int.mul_one,S8]⟩
 refine QR (wpAny_newList ?_ (by rw[ll,SU];lia));have I1:L2.Inv X pins σ H { s with heap:=h1,toks:=tk}:=I.kept kp;have I2:L2.Inv X pins σ H { s with heap:=h1.push (Vr "list" acc.toList.toArray 0),toks:=tk}:=I1.kept (t':=tk) λb o e=>QP _ e
 have hoL:(h1.push (Vr "list" acc.toList.toArray 0)).get? h1.objs.size=some (Vr "list" acc.toList.toArray 0):=Rg _ Z;have fp:gc X pins H h1.objs.size:=I1.fpOk (QY _) I1.fresh;show Rj _ _ _ _ _ { s with heap:=h1.push (Vr "list" acc.toList.toArray 0),toks:=tk};refine QR (wpAny_holding (wpAny_call_entry_kw slot_list_sort ⟨_,hoL,rfl⟩ entry_list_sort ?_ (ksk_l1 _ _)));show Rj _ X.A.in1.in1 (R9.«list.sort» ⟨[.ref h1.objs.size],[(UW "key",.ref f)]⟩) _ _ _;rw[ksk_t1];refine EO (kz:=(QM n).map key) I2 fp hoL (by rw[QK,Rx,ll]) (by rw[ll];exact h64) (λi v kk hv hk pins' s' I'=>?_) λs' out c I' ho hout=>⟨_,rfl,wpAny_pure ⟨_,rfl,?_⟩⟩
 ·have hi:i<n:=by rw[←ll];exact(QN.mp hv).1
  obtain⟨t',rfl⟩:=ha' i v hv;rw[Q4,Tr hi] at hk;have ek:key i=kk:=R6 hk;subst ek;exact turn i t' hi pins' s' I'
 ·obtain⟨ps,hperm,eout,hsort⟩:=hout;have zl:((QM n).map key).zip acc.toList=(QM n).map λi=>(key i,acc.toList.getD i .none):=by
   refine XR (by rw[List.length_zip,QK,QK,Rx,ll,Nat.min_self]) λi h1 h2=>?_
   rw[QK,Rx] at h2;rw[List.getElem_zip,UN,UN,YZ];rw[Q1,QH ω];rfl
  rw[zl] at hperm;obtain⟨ms,hms,eps⟩:∃ms:List Nat,ms.Perm (QM n)/\ps=ms.map λi=>(key i,acc.toList.getD i .none):=by
   exact DU hperm _ Z
  have inr:∀i∈ms,i<n:=λi hi=>Q5.mp (hms.mem_iff.mp hi)
  have hv:aW (ms.map λi:Nat=>V.int i) out.toList:=by
   rw[eout,eps,RO];have go:∀l:List Nat,(∀i∈l,i<n)->aW (l.map λi:Nat=>V.int i) (l.map (Prod.snd∘λi=>(key i,acc.toList.getD i Uw))):=by
    intro l
    induction l with
    |nil=>intro _;exact .nil
    |cons i l ih=>
     intro hl;have hi:=hl i QV;have e:acc.toList[i]?=some (acc.toList[i]' ω):=QH _;obtain⟨t,q⟩:=ha' i _ e;refine .cons ⟨t,?_⟩ (ih λj hj=>hl j (QX _ hj));show acc.toList.getD i Uw=_;rw[Q1,e,Option.getD_some,q]
   exact go ms inr
  have hso:ms.Pairwise (λa b=>key a≤key b):=by
   rw[eps,Xk] at hsort;exact hsort.imp λ{a b} h=>h
  have hsz:(ms.map λi:Nat=>V.int i).length≤sizeLine:=by rw[QK,hms.length_eq,Rx,SU];lia
  have I4:L2.Inv X pins σ (upd H h1.objs.size (.lst (ms.map λi:Nat=>V.int i))) s':=MS I' fp ⟨hsz,out.toList,c,hv,by simpa using ho⟩;exact⟨.ref h1.objs.size,_,I4,Z,q _ ms hms hso fp.1⟩
def JW(T:Addr)(qual:RF)(lp:Uh)(j:Nat)(te:TE)(t:TA):TE:=λσ H Q=>t σ H λvs H1=>∃(p:Addr) (n:Nat) (key:Nat->Int),vs=[.ref p]/\H1 p=some (.rng 0 n)/\n<64/\xk H1 T qual lp∧
 (∀(i:Nat) (H':Hp) (Qk:VK),i<n->jh T H1 H'->Qk (.int (key i)) H'->te [some (.int i),(σ[j]?).getD none] H' Qk)∧
 ∀(l:Addr) (ms:List Nat) (H':Hp),ms.Perm (QM n)->ms.Pairwise (λa b=>key a≤key b)->jh T H1 H'->xk H' T qual lp->H' l=some (.lst (ms.map λi:Nat=>V.int i))->H1 l=none->Q (.ref l) H'
theorem Du{X:Cx}{c c0 T:Addr}{x y:RF}{p kp pos lp:Uh}{e body:RP}{params:ZG}{scope:UG}{t:TA}{te:TE}{j:Nat}(hcode:X.env.code=.ref c0)(hch:UM X.K c0 T=true)(hB:X.base.BuiltinsAt X.mg T)(hr:cA 2 X.A)(hc:X.calm=true)
  (S:vb scope x y) (hj:X.N[j]?=some y) (hk:X.env.kindOf y=some .cell) (hcy:X.env.cells.lookup y=some c) (hcl:UX scope X.env=SS [(y,c)]) (hdef:defaultsOf params X.env=([],[]))
  (bind:∀(pm cv ctv w:Value),XD (aah "<lambda>" (X.env.qual ++ "<lambda>") params body scope [(y,c)] pm cv ctv) ⟨[w],[]⟩=SS [(x,w)])
  (hb:∀A f cd s H,QE (Pb X A [x,y] (X.env.qual ++ "<lambda>") scope f cd [(y,c)] s H) body te)
  (hg:Gl X "sorted") (hm:X.mg "sorted"=none) (ha:QA X [e] t) (hs:Q6 [e] X.env=[(false,eval e X.env)]:=by rfl) :
  QE X (.Call (.Name "sorted" p) [e] [⟨some "key",.Lambda params body scope lp,kp⟩] pos) (JW T (X.env.qual ++ "<lambda>") lp j te t):=by
 refine⟨λpins s σ H Q I h=>?_⟩;refine Ub (iW I hg hm PyProof.Rows.boot_sorted ?_);refine callWith_kw (bQ (ha.p pos pins s σ H _ I h) λus s1 ⟨vs,H1,I1,r1,q1⟩=>?_) (by rw[hs];rfl) (by rw[hs];rfl);obtain⟨p,n,key,rfl,hp,h64,hT,hbody,q⟩:=q1;have nT:p≠T:=λz=>by
  rcases hT with hT | ⟨_,_,_,_,hT,_⟩
  ·rw[z,hT] at hp;cases hp
  grind
 refine kws_cons (EI I1 hcode hch hT hB hcl hdef λf H2 s2 c' ctv o vs' t' I2 sm tb nf hf2 hc2 od ov=>kws_nil ?_);refine wZ (key:=key) hc I2 r1 (sm p _ nT hp) h64 (λi t hi pins' s' I'=>?_) λl ms hms hso hl=>?_
 ·have hA:X.A.in1.in1.frames=some X.stack:=I1.ok.frames;refine XX (VP (EH (v:=.int (i:Nat)) (Qk:=λv H'=>v=.int (key i)/\H'=H2) I' S hA (I1.ok.hd hc) hr.in1.in1.depth hj hk hcy (I'.hok f _ hf2).1 (xk.code I' hc2 od ov) (bind _ _ _) (hb _ _ _ _ _).p ⟨t,Z⟩ (hbody i H2 _ hi sm ⟨Z,Z⟩)) λr s2 hq=>?_)
  cases r with
  |error e=>exact hq.elim
  |ok fl=>
   cases fl with
   |ret u=>
    obtain⟨v2,H3,I3,rv2,rfl,rfl⟩:=I'.after hq;obtain⟨t3,rfl⟩:=rv2;exact⟨⟨t3,Z⟩,I3⟩
   |next=>exact Sn hq
   |brk=>exact Sn hq
   |cont=>exact Sn hq
 ·have k2:∀b u,H2 b=some u->upd H2 l (.lst (ms.map λi:Nat=>V.int i)) b=some u:=λb u e=>by rw[ai (au e hl)];exact e
  refine q l ms _ hms hso (λb u nb e=>k2 b u (sm b u nb e)) ?_ aa ?_
  ·rcases tb with tb | ⟨c,o,vs,t,h1,h2,h3⟩
   ·exact .inl (k2 _ _ tb)
   ·exact .inr ⟨c,o,vs,t,k2 _ _ h1,k2 _ _ h2,h3⟩
  ·cases e:H1 l with
   |none=>rfl
   |some u=>
    by_cases z:l=T
    ·rcases tb with tb | ⟨_,_,_,_,tb,_⟩
     ·rw[z,tb] at hl;cases hl
     ·rw[z,tb] at hl;cases hl
    ·rw[sm l u z e] at hl;cases hl
end B
namespace B
open PySem PySem.Spec L2 PyProof.Rows
def OU(H:Hp)(T:Addr):Prop:=∀b,H b=none∨(∃o xs,H b=some (.frz o (.lst xs)))∨(b=T/\H b=some (.tbl #[]))
theorem Af{K:QJ}{s₁:QQ}{vs:List Value}{ns:List Int}
  (KX:K.In s₁.heap) (hns:s₁.heap.Ns RB mg) (hb:s₁.heap.Ns Z3 mb) (hbb:∀x:RF,x ≠ "__name__"->mb x=TN x) (hlim:s₁.heap.NoLimit) (hg:s₁.gens=#[])
  (hT:s₁.heap.get? T=some (VT #[])) (hC:UM K c T=true) (hnt:Yt K=true) (hbm:s₁.heap.BuiltinsAt mg T)
  (ha:s₁.heap.get? a=some { cls:=.type "list",data:=.seq vs.toArray}) (hi:Xi vs ns) (hl:ns.length≤sizeLine) (hr:cA k Yy)
  (F:∀base:Ra,K.In base->base.Ns RB mg->base.BuiltinsAt mg T->aP P w K mg base CX k fa fd [x] sp) (hbind:∀(s:QQ) (u:Value),Zf s fd ⟨[u],[]⟩ [(x,u)])
  (hsp:∀H:Hp,H T=some (.tbl #[])->aJ K H a (ns.map V.int)->sp [.ref a] H (λv _=>v=.bl true) λ_ _ _=>False)
  (hCX:∀H e s',CX [] H s₁ (λ_ _ _=>False) e s'->False):
  VO (Ro P w) Yy (.call (.ref fa) ⟨[.ref a],[]⟩) (λr s'=>r=.ok (.ret (.bool true))/\OldK s₁.heap s'.heap/\s'.os=s₁.os/\Wx s'.gens) s₁:=by
 have rv:=qp hi;have lenV:=hi.length;have aT:a≠T:=λz=>by rw[z,hT] at ha;cases ha
 have kT:∀{o:Obj},K.lookup T≠some o:=λ{o} e=>by
  have h2:=T7.mp hnt (T,o) (PySem.W.mem_of_lookupK e);have e2:=KX T o e;rw[hT] at e2
  cases e2
  exact absurd (show false=true from h2) Rn
 have core:∀H:Hp,OU H T->H T=some (.tbl #[])->aJ K H a (ns.map V.int)->jI P w H s₁.heap->(∀b,H b≠none->b=a∨b=T)->(H a≠none->K.lookup a=none)→
   VO (Ro P w) Yy (.call (.ref fa) ⟨[.ref a],[]⟩) (λr s'=>r=.ok (.ret (.bool true))/\OldK s₁.heap s'.heap/\s'.os=s₁.os/\Wx s'.gens) s₁:=by
  intro H hO hHT hS hok hA hK;have base_of:∀{b:Addr} {o:Obj},s₁.heap.get? b=some o->H b=none->(qh s₁.heap H).get? b=some o:=λe n=>E3 e n
  have noA:∀{b:Addr} {o:Obj},s₁.heap.get? b=some o->(∀v e,o.data≠.seq v e)->(∀v,o.data≠.fields v)->H b=none:=λ{b o} e d1 d2=>by
   grind
  have nsK:∀{b:Addr} {m:RF->Option Value},s₁.heap.Ns b m->(qh s₁.heap H).Ns b m:=λ{b m} ⟨o,es,ep,e,d,r⟩=>⟨o,es,ep,base_of e (noA e (λv e z=>by rw[d] at z;cases z) λv z=>by rw[d] at z;cases z),d,r⟩
  have hKb:K.In (qh s₁.heap H):=λb o e=>base_of (KX b o e) (by
   cases q:H b with
   |none=>rfl
   |some u=>
    rcases hA b (by rw[q];simp) with e'|e'
    ·subst e';rw[hK (by rw[q];simp)] at e;cases e
    ·subst e';exact absurd e kT)
  have hM:Mod K mg (qh s₁.heap H):=⟨hKb,nsK hns,⟨mb,nsK hb,hbb⟩,let ⟨mc,h1,h2⟩:=hlim;⟨mc,nsK h1,h2⟩⟩;have hbm':(qh s₁.heap H).BuiltinsAt mg T:=by
   obtain⟨bm,ob,b1,b2,b3,b4,b5,b6,b7,b8⟩:=hbm;exact⟨bm,ob,b1,b2,b3,b4,base_of b5 (noA b5 (λv e z=>by rw[b8] at z;cases z) λv z=>by rw[b8] at z;cases z),b6,b7,b8⟩
  have e0:xz P w K mg (qh s₁.heap H) Yy [] s₁ H:=⟨Z,hM,λb o e=>Hy e,UV (An _ _),trivial,λb hb=>absurd (show b∈([]:List Addr) from hb) (by simp),hok,.of_eq hg⟩;refine VP ((F _ hKb (nsK hns) hbm').run Yy [] s₁ H ⟨[.ref a],[]⟩ [.ref a] [.ref a] _ _ hr e0 (hbind s₁ (.ref a)) (.cons Z .nil) (hsp H hHT hS)) λr s' h=>?_
  cases r with
  |error e=>exact(hCX H e s' h).elim
  |ok fl=>
   cases fl with
   |next=>exact Sn h
   |brk=>exact Sn h
   |cont=>exact Sn h
   |ret u=>
    obtain⟨v,H',os,bare,un,hok',r',q⟩:=h;have q':v=.bl true:=q;subst q';obtain rfl:u=VD true:=r';have was:∀b o,s₁.heap.get? b=some o->b≠T->s'.heap.get? b=some o:=λb o e nb=>by
     cases q:H b with
     |none=>exact un.keep b o e q (by intro z;exact absurd (show b∈([]:List Addr) from z) (by simp)) (by simp)
     |some u=>
      rcases hO b with z | ⟨ob,xs,z⟩ | ⟨z,_⟩
      ·rw[q] at z;cases z
      ·have z2:=un.frzs b ob _ z;obtain⟨e1,_⟩:=hok b _ z;obtain⟨e2,_⟩:=hok' b _ z2;rw[e] at e1;cases e1;exact e2
      ·exact absurd z nb
    obtain⟨more,eT⟩:=un.tbls T _ hHT;have eT':s'.heap.get? T=some { cls:=.none,data:=.fields (#[]++more)}:=hok' T _ eT;refine⟨Z,⟨λb o e=>?_,λb o e=>?_⟩,os,bare⟩
    ·by_cases z:b=T
     ·subst z;rw[hT] at e
      cases e
      exact .inr (.inl ⟨((YF KX hC).tab hT).isCodeTable,Z,#[],more,Z,eT'⟩)
     ·exact .inl (was b o e z)
    ·by_cases z:b=T
     ·subst z;exact⟨_,eT'⟩
     ·exact⟨o,was b o e z⟩
 cases hk:K.lookup a with
 |some o=>
  have e:=KX a o hk;rw[ha] at e
  cases e
  refine core (λb=>if b=T then some (.tbl #[]) else none) (λb=>?_) (if_pos Z) (.inr ⟨_,vs.toArray,_,hk,Z,Z,Z,by rw[Rp,lenV];exact hl,by simpa using rv⟩) (λb u z=>?_) (λb z=>?_) λz=>absurd (if_neg aT) z
  ·by_cases hb:b=T
   ·exact .inr (.inr ⟨hb,if_pos hb⟩)
   ·exact .inl (if_neg hb)
  ·by_cases hb:b=T
   ·have z':=(if_pos hb).symm.trans z
    cases z'
    subst hb;exact hT
   ·have z':=(if_neg hb).symm.trans z
    cases z'
  ·by_cases hb:b=T
   ·exact .inr hb
   ·exact absurd (if_neg hb) z
 |none=>
  refine core (λb=>if b=T then some (.tbl #[]) else if b=a then some (.frz { cls:=.type "list",data:=.seq vs.toArray} (.lst (ns.map V.int))) else none) (λb=>?_) (if_pos Z) (.inl (.inr ⟨{ cls:=.type "list",data:=.seq vs.toArray},(if_neg aT).trans (if_pos Z)⟩)) (λb u z=>?_) (λb z=>?_) λ_=>hk
  ·by_cases hb:b=T
   ·exact .inr (.inr ⟨hb,if_pos hb⟩)
   by_cases ha:b=a
   ·exact .inr (.inl ⟨_,_,(if_neg hb).trans (if_pos ha)⟩)
   ·exact .inl ((if_neg hb).trans (if_neg ha))
  ·by_cases hb:b=T
   ·have z':=(if_pos hb).symm.trans z
    cases z'
    subst hb;exact hT
   by_cases h2:b=a
   ·have z':=((if_neg hb).trans (if_pos h2)).symm.trans z
    cases z'
    subst h2;exact⟨ha,by rw[QK];exact hl,vs,_,rv,ha⟩
   ·have z':=((if_neg hb).trans (if_neg h2)).symm.trans z
    cases z'
  ·by_cases hb:b=T
   ·exact .inr hb
   by_cases h2:b=a
   ·exact .inl h2
   ·exact absurd ((if_neg hb).trans (if_neg h2)) z
theorem walk_ofT{l:Z1}{loose:List RF}{XP:(RF->Option Value)->Ra->Prop}{YP:RS->Ra->Prop}{d:DefRec}{K:Params->QJ}{CX:RS->AL}{sp:RS->Sp} 
  (hn:l.most=some n) (hn2:n≤sizeLine) (hdf:d.params.defaults=[]) (hr:cA k Yy)
  (hY:∀(w:RS) (h:Ra),YP w h->(K w.params).In h/\h.get? T=some (VT #[]))
  (hC:∀w:RS,UM (K w.params) c T=true) (hnt:∀w:RS,Yt (K w.params)=true)
  (F:∀(w:RS) (mg:RF->Option Value) (fa:Addr) (h:Ra),(K w.params).In h->h.Ns RB mg->mg d.name=some (.ref fa)→
   ∃fd:QU,(∀(s:QQ) (u:Value),Zf s fd ⟨[u],[]⟩ [(x,u)])∧
    ∀base:Ra,(K w.params).In base->base.Ns RB mg->base.BuiltinsAt mg T->aP l.prog w (K w.params) mg base (CX w) k fa fd [x] (sp w))
  (hsp:∀(w:RS) (H:Hp) (a:Addr) (ns:List Int),ns.length≤n->H T=some (.tbl #[])->aJ (K w.params) H a (ns.map V.int)->sp w [.ref a] H (λv _=>v=.bl true) λ_ _ _=>False)
  (hCX:∀(w:RS) (H:Hp) (s:QQ) (e:Value) (s':QQ),CX w [] H s (λ_ _ _=>False) e s'->False):
  aat q loose XP YP l.row.toRowW d [] (λf vs=>aad f vs):=by
 refine Att.attach_call hn hdf λw s₀ s₁ mg mb fa o pm cd doc a vs ns G Y ho hd hcd hmg hobj hints hlen hg=>?_
 obtain⟨KX,hT⟩:=hY w _ Y;obtain⟨fd,hb,hF⟩:=F w mg fa _ KX G.T.g hmg;have hbm:s₁.heap.BuiltinsAt mg T:=by
  obtain⟨bm,ob,a1,a2,a3,a4,a5,a6⟩:=G.T.bmain;refine⟨bm,ob,a1,a2,λz=>?_,λz=>?_,a3,a4,a5,a6⟩
  ·obtain⟨o,es,ep,e,hd,_⟩:=G.T.g;grind
  ·rw[z,hT] at a3;cases a3;cases a4
 exact Af KX G.T.g G.T.b G.T.builtins G.T.nolimit hg hT (hC w) (hnt w) hbm hobj hints (RC hlen hn2) hr hF hb (λH hO hS=>hsp w H a ns hlen hO hS) λH e s'=>hCX w H s₁ e s'
theorem Fun.okC{P:Rz}{w:RS}{K:QJ}{mg:RF->Option Value}{base:Ra}{x qual:RF}{st:Stmt}{f c:Addr}{fd:QU}{N ps:List RF}{k:Nat}{sp:Sp}(F:Fun K x qual st f fd)(hc:fd.code=.ref c)(S:av N ps (ak st))(len:∀vs H Q E,sp vs H Q E->vs.length=ps.length)
  (hbody:∀(A:RK) (outer:List ZU) (s:QQ) (H:Hp) (vs:List V) (Q:VK) (E:XK),cA k (A.deeper (Xo qual (ak st) s.heap.objs.size f (.ref c)))->sp vs H Q E→
   ∃t,tZ (ba c5 P w K mg base N qual (ak st) f (.ref c) A outer s H E).nox (cY st) t/\t { nx:=λ_ H'=>Q .non H',rt:=Q} (start N vs) H):aP P w K mg base c5 (k+1) f fd ps sp:=by
 obtain⟨oc,od,kV,doc,pm,an,cdv,ct,osl,rfl,lk,hcd⟩:=F.ex;have hc':cdv=.ref c:=hc;subst hc';refine Fd lk hcd S len λA outer s H vs Q E hr hsp=>?_
 obtain⟨t,h,q⟩:=hbody A outer s H vs Q E hr hsp;exact⟨t,h.nox,q⟩
end B
namespace Rv
open PySem
open Builtin Builtin.Str
def At(h:Ra)(I l:Addr)(n i:Nat):Prop:=∃o,h.get? I=some o/\o.cls=.type "list_reverseiterator"/\o.data=.fields #[.ref l,.int ((n:Int)-1-i) 0]
section
variable {prog:Rz}{w:RS}{A:RK}{E:Value->QQ->Prop}{s:QQ}
end
end Rv
namespace Rv
open PySem
open Builtin Builtin.Str
section
variable {prog:Rz}{w:RS}{A:RK}{E:Value->QQ->Prop}{s:QQ}
end
end Rv
namespace Rv
open PySem
open Builtin Builtin.Str
section
variable {prog:Rz}{w:RS}{A:RK}{E:Value->QQ->Prop}{s:QQ}
end
end Rv
namespace Rv
open PySem
open Builtin Builtin.Str
section
variable {prog:Rz}{w:RS}{A:RK}{s:QQ}{R:ZF->QQ->Prop}
variable {I:Addr}{fp wr:List Addr}{G:Array Zp->Array Zp->Prop}{n:Nat}{P:Nat->Value->Prop}{St:Nat->QQ->Prop}
end
section
variable {prog:Rz}{w:RS}{A:RK}{E:Value->QQ->Prop}{s:QQ}
end
end Rv
namespace B
open PySem PySem.Spec L2 PyProof.Rows
section
variable {X:Cx}
variable {e:RP}{te:TE}{p1 p2 pos1 pos2:Uh}
end
theorem Gk(p:Addr)(us:Array Value)(n:Nat)(u:Value)(ht:Value->Bool)(j:Nat)(lt:j<us.size)(yes:ht us[j]=true)(small:us.size≤sizeLine)(k:Nat) :
  ∀i:Nat,j-i=k->i≤j->(∀m (hm:m<us.size),i≤m->m<j->ht us[m]=false)->Meets (R9.«list.remove.loop» ⟨[.ref p,u,rawInt i],[]⟩)
   (λA G s=>s.heap.get? p=some ⟨.type "list",none,.seq us n,#[]⟩/\(∀y,y∈us->WM A.in1 s y u (ht y))/\G (.ok (.ret .none)) { s with heap:=s.heap.update p (Obj.mapSeq λxs=>xs.eraseIdxIfInBounds j)}):=by
 induction k with
 |zero=>
  intro i e1 e2 no P w A G s h;obtain⟨hp,g,d,tk,os⟩:=s;obtain⟨hl,he,q⟩:=h;obtain rfl:i=j:=ω
  wp_walk using wpAny_loadPart' hl
  rw[show us[((i:Nat):Int).toNat]?=some us[i] by simp[lt]];refine QR (he _ (Zx lt) P w _ _ ?_);rw[yes];have z:(us.eraseIdxIfInBounds i).size≤sizeLine+1:=RC (MeetsSeq.size_erased us _) (Nat.le_succ_of_le small)
  wp_walk using(wpAny_updateSeq hl Z (hz:=small) (_hz':=z)),wpAny_loadPart' hl
  simpa using q
 |succ k ih=>
  intro i e1 e2 no P w A G s h;obtain⟨hp,g,d,tk,os⟩:=s;obtain⟨hl,he,q⟩:=h;have il:i<us.size:=ω
  wp_walk using wpAny_loadPart' hl
  rw[show us[((i:Nat):Int).toNat]?=some us[i] by simp[il]];refine QR (he _ (Zx il) P w _ _ ?_);rw[no i il (QY _) ω]
  wp_walk
  rw[show((i:Int)+1)=((i+1:Nat):Int) by lia];exact⟨YM Ue _,Wp WX (by
   rw[Vh Ue _];exact ih (i+1) ω ω (λm hm h1 h2=>no m hm ω h2) P w A G _ ⟨hl,he,q⟩)⟩
theorem Dg(p:Addr)(us:Array Value)(n:Nat)(u:Value)(ht:Value->Bool)(j:Nat)(lt:j<us.size)(yes:ht us[j]=true)(no:∀m (hm:m<us.size),m<j->ht us[m]=false)(small:us.size≤sizeLine) :
  Meets (R9.«list.remove» ⟨[.ref p,u],[]⟩)
   (λA G s=>s.heap.get? p=some ⟨.type "list",none,.seq us n,#[]⟩/\(∀y,y∈us->WM A.in1 s y u (ht y))/\G (.ok (.ret .none)) { s with heap:=s.heap.update p (Obj.mapSeq λxs=>xs.eraseIdxIfInBounds j)}):=by
 intro P w A G s h;obtain⟨hp,g,d,tk,os⟩:=s;obtain⟨hl,he,q⟩:=h
 wp_walk using wpAny_loadPart' hl
 exact⟨YM Ue _,Wp WX (by
  rw[Vh Ue _];exact Gk p us n u ht j lt yes small _ 0 Z (Rq _) (λm hm _ h2=>no m hm h2) P w A G _ ⟨hl,he,q⟩)⟩
def NH(K:QJ):V->List V->Hp->VK->Prop:=λx vs H Q=>∃(l:Addr) (xs:List V) (ds:List R5) (w:V) (d e:R5) (j:Nat),x=.ref l/\vs=[w]/\H l=some (.lst xs)/\bi K H xs ds/\FH ds/\dL K H w d/\d.canLay0=true/\Sk d d=true/\ds[j]?=some e/\Sk e d=true/\(∀m f,m<j->ds[m]?=some f->Sk f d=false)/\Q .non (upd H l (.lst (xs.eraseIdx j)))
theorem yC(hr:cA k X.A):Qp X "list.remove" (NH X.K):=by
 intro pins s σ H x vs v us Q I rx rv h;obtain⟨l,xs,ds,w,d,e0,j,rfl,rfl,hH,hd,ls,hx,cd,rf,hj,ej,no,q⟩:=h
 cases(show v=RA l from rx)
 obtain⟨u,rfl,ru⟩:=rv.one;obtain⟨z,its,n,r,hl,e⟩:=I.lstM hH;obtain⟨as,ra⟩:=dL.reads I hx ru;have mp:=pH I ra cd rf r hd ls;have h2:=hd.len;have l12:its.length=ds.length:=ω
 have jl:j<ds.length:=(QN.mp hj).1;have at_:∀m (hm:m<its.toArray.size) f,ds[m]?=some f->k9 s.heap u d its.toArray[m]=Sk f d:=λm hm f hf=>by
  have e1:its[m]?=some (its.toArray[m]):=by simp only[List.getElem_toArray];exact QH (by simpa using hm)
  exact AE mp e1 hf
 refine YR F.slot_list_remove ⟨_,e,Z⟩ F.entry_list_remove (F.args_list_remove_2 _ _)
  (Dg l its.toArray n u (k9 s.heap u d) j (by rw[Rp];lia) ((at_ j _ e0 hj).trans ej) (λm hm lt=>?_) (by rw[Rp];lia)) ⟨e,λy hy=>uW ra cd (by show X.A.units+1+32<cLine;have:=hr.units;lia) (iX I r (hd.known ls) y (by simpa using hy)),?_⟩
 ·have hm':m<ds.length:=by rw[Rp] at hm;lia
  have hf:ds[m]?=some ds[m]:=QH hm';exact(at_ m hm _ hf).trans (no m _ lt hf)
 refine⟨.non,_,I.lset (its':=its.eraseIdx j) hH e ?_ (r.eraseIdx j) ?_,Z,q⟩
 ·show its.toArray.eraseIdxIfInBounds j=(its.eraseIdx j).toArray;rw[List.eraseIdxIfInBounds_toArray]
 ·have:=List.length_eraseIdx_le xs j;lia
structure FX(K:QJ)(mg:RF->Option Value)(n:RF)(ps:List RF)(st:Stmt)(a:Addr)(d:QU):Prop where
 F:Fun K n n st a d
 b:aI K d ps []
 m:mg n=some (.ref a)
structure CF(P:Rz)(w:RS)(K:QJ)(mg:RF->Option Value)(base:Ra)(n:RF)(ps:List RF)(a:Addr)(d:QU)(k:Nat)(sp:Sp):Prop where
 m:mg n=some (.ref a)
 kp:SM K (.ref a)=true
 b:aI K d ps []
 F:aP P w K mg base c5 k a d ps sp
section
set_option autoImplicit true
set_option relaxedAutoImplicit true
theorem cS{P:Rz}{K:QJ}{mg:RF->Option Value}{n:RF}{ps:List RF}{st:Stmt}{a:Addr}{d:QU}{sp:Sp}(g:FX K mg n ps st a d)(F:aP P w K mg base c5 k a d ps sp):CF P w K mg base n ps a d k sp:=⟨g.m,g.F.kp,g.b,F⟩
theorem ni(i:Nat){l:List RF}(h:l[i]?=some x):l[i]?=some x:=h
theorem DB(g:CF X.prog X.w X.K X.mg X.base x ps f fd k sp)(hr:cA k X.A)(hg:Gl X x)(hdb:(x==("__debug__": RF))=false)(ha:QA X (e:: es) t)(he:Q6 (e:: es) X.env=(false,eval e X.env):: Q6 es X.env)(hpl:(Te pos (Q6 es X.env)).any (·.1)=false):QE X (.Call (.Name x p) (e:: es) [] pos) (xO sp [] E0 t):=d5 g.F hr hg g.m g.kp g.b .nil dS ha hdb he hpl
theorem Gy(ha:QE X (.Name a b) te)(hr:QA X es t):QA X (.Name a b::es) (iK te t):=aj ha hr aB
theorem KF(ha:QE X (.Constant a b c) te)(hr:QA X es t):QA X (.Constant a b c::es) (iK te t):=aj ha hr gR
theorem KC(ha:QE X (.Subscript a b c) te)(hr:QA X es t):QA X (.Subscript a b c::es) (iK te t):=aj ha hr dW
theorem Gz(ha:QE X (.Call a b c d) te)(hr:QA X es t):QA X (.Call a b c d::es) (iK te t):=aj ha hr aM
theorem KG(ha:QE X (.BinOp a b c d) te)(hr:QA X es t):QA X (.BinOp a b c d::es) (iK te t):=aj ha hr kg
theorem KB(ha:QE X (.Tuple a b c) te)(hr:QA X es t):QA X (.Tuple a b c::es) (iK te t):=aj ha hr iL
theorem KD(ha:QE X (.List a b) te)(hr:QA X es t):QA X (.List a b::es) (iK te t):=aj ha hr Bk
theorem KH(ha:QE X (.Attribute a b c) te)(hr:QA X es t):QA X (.Attribute a b c::es) (iK te t):=aj ha hr Bl
theorem NV(ha:QE X (.UnaryOp a b c) te)(hr:QA X es t):QA X (.UnaryOp a b c::es) (iK te t):=aj ha hr Gb
noncomputable def KA {X:Cx} {pos:Uh} (ha:QE X a ta) (hb:QE X b tb):=fq (op:=.Add) (pos:=pos) Ec ha hb
noncomputable def Kt {X:Cx} {pos:Uh} (ha:QE X a ta) (hb:QE X b tb):=fq (op:=.Sub) (pos:=pos) D8 ha hb
noncomputable def Kw {X:Cx} {pos:Uh} (ha:QE X a ta) (hb:QE X b tb):=fq (op:=.Mod) (pos:=pos) Lk ha hb
noncomputable def NS {X:Cx} {pos:Uh} (ha:QE X a ta) (hb:QE X b tb):=aV (op:=.Eq) (pos:=pos) qO ha hb (aX _)
noncomputable def NN {X:Cx} {pos:Uh} (ha:QE X a ta) (hb:QE X b tb):=aV (op:=.Lt) (pos:=pos) yx ha hb (aX _)
noncomputable def NO {X:Cx} {pos:Uh} (ha:QE X a ta) (hb:QE X b tb):=aV (op:=.LtE) (pos:=pos) Ea ha hb (aX _)
noncomputable def NP {X:Cx} {pos:Uh} (ha:QE X a ta) (hb:QE X b tb):=aV (op:=.Gt) (pos:=pos) uG ha hb (aX _)
noncomputable def NQ {X:Cx} {pos:Uh} (ha:QE X a ta) (hb:QE X b tb):=aV (op:=.GtE) (pos:=pos) Jl ha hb (aX _)
noncomputable def NM {X:Cx} {pos:Uh} (ha:QE X a ta) (hb:QE X b tb):=aV (op:=.NotEq) (pos:=pos) Oa ha hb (aX _)
noncomputable def Gv {X:Cx} {pos:Uh} (h:iF X (Ua .Mult) r) (ha:QE X a ta) (hb:QE X b tb):=fq (op:=.Mult) (pos:=pos) h ha hb
noncomputable def Gx {X:Cx} {pos:Uh} (h:iF X (Ua .FloorDiv) r) (ha:QE X a ta) (hb:QE X b tb):=fq (op:=.FloorDiv) (pos:=pos) h ha hb
noncomputable def Kv {X:Cx} {pos:Uh} (ha:QE X a ta):=yi (op:=.USub) (pos:=pos) sg ha
theorem Dx(hm:X.mg x=some (.int k u))(hg:Gl X x)(hd:(x==("__debug__": RF))=false):QE X (.Name x pos) (tC (.int k)):=fH hg hm ⟨_,Z⟩ hd
noncomputable def Kx {X:Cx} {e:RP} {es:List RP} {t:TA} {p pos:Uh} (hg:Gl X "len") (hm:X.mg "len"=none) (ha:QA X (e::es) t) (he:Q6 (e::es) X.env=(false,eval e X.env)::Q6 es X.env) (hpl:(Te pos (Q6 es X.env)).any (·.1)=false):=bG (p:=p) fJ hg hm PySem.boot_len ha δ δ he hpl
noncomputable def Ky {X:Cx} {o e:RP} {es:List RP} {to:TE} {t:TA} {apos cpos:Uh} (ho:QE X o to) (ha:QA X (e::es) t) (h1:Tw o "append" X.env (eval o X.env)=eval o X.env) (h2:((Te cpos (Q6 (e::es) X.env)).all (λx=>!x.1)&&(WR cpos (Vb [] X.env)).all (λx=>x.1.isSome)
  &&decide ((e::es).length+([]:List Xh).length+(if([]:List Xh).isEmpty then 0 else 1)<30))=true) (h3:(apos.endLine==cpos.line)=true) (h4:Q6 (e::es) X.env=(false,eval e X.env)::Q6 es X.env) (h5:(Te cpos (Q6 es X.env)).any (·.1)=false):=mT Sr SY SZ eV ho ha h1 h2 h3 h4 h5
theorem Ks{X:Cx}{K:QJ}{a b:RP}{k:Nat}{pos:Uh}{g1 g2:TG}(hK:X.K=K)(h1:QG X a g1)(h2:QG X b g2)(hc:X.calm=true)(hn:(So [a,b] X.env).length=2)(hst:(So [a,b] X.env).findIdx? (·.1)=none)(s1:(So [a,b] X.env).map (·.2)=Wi a X.env::(So [b] X.env).map (·.2))(s2:(So [b] X.env).map (·.2)=Wi b X.env::(So [] X.env).map (·.2)):QG X (.Tuple [a,b] k pos) (Fc K 2 (yR g1 (yR g2 Mu))):=yg hK hc (di h1 (di h2 kL s2) s1) hn hst
theorem aZ{X:Cx}(N':List RF)(src:List (Option Nat))(hclos:UX scope X.env=SS cl)(hi:QI X tg iter wi)(hg:∀C fp pins s H,N'.Nodup->QG (wX X N' scope cl C fp pins s H) tg g)(ht:∀C fp pins s H,JI (wX X N' scope cl C fp pins s H) ifs tt)(he:∀C fp pins s H,QE (wX X N' scope cl C fp pins s H) elt te)(hd:N'.Nodup:=by decide +kernel)(hc:X.calm=true:=by exact Z)(hfree:cQ X scope cl N' src:=by first|exact trivial|exact⟨Z,Z,Z,Z,trivial⟩|exact⟨Z,Z,Z,Z,Z,Z,Z,Z,trivial⟩|exact⟨Z,Z,Z,Z,Z,Z,Z,Z,Z,Z,Z,Z,trivial⟩|exact⟨Z,Z,Z,Z,Z,Z,Z,Z,Z,Z,Z,Z,Z,Z,Z,Z,trivial⟩)(hcell:∀x∈scope.names,x.2≠.cell:=by decide +kernel)(hkind:scope.kind=.function:=by exact Z)(hnames:∀x∈scope.names,x.2=.local->scope.names.lookup x.1=some .local:=by decide +kernel)(hcl:iw X scope cl:=by first|exact cj Z trivial|exact cj Z ⟨Z,trivial⟩|exact cj Z ⟨Z,Z,trivial⟩|exact cj Z ⟨Z,Z,Z,trivial⟩|exact cj Z ⟨Z,Z,Z,Z,trivial⟩)(hs:∀x,SJ iter X.env x=SS x:=by intro _;rfl):QE X (.ListComp elt [⟨tg,iter,ifs,0⟩] scope pos) (ka wi src g tt te):=gY hc hi (λa b c d e=>hg a b c d e hd) ht he hfree hclos hcell hkind hnames hcl hs
theorem fm{X:Cx}(i:Nat)(N':List RF)(src:List (Option Nat))(hclos:UX scope X.env=SS cl)(hi:QI X tg iter wi)(hg:∀C fp pins s H,N'.Nodup->QG (wX X N' scope cl C fp pins s H) tg g)(ht:∀C fp pins s H,JI (wX X N' scope cl C fp pins s H) ifs tt)(he:∀C fp pins s H,QE (wX X N' scope cl C fp pins s H) elt te)(hd:N'.Nodup:=by decide +kernel)(hc:X.calm=true:=by exact Z)(hfree:cQ X scope cl N' src:=by first|exact trivial|exact⟨Z,Z,Z,Z,trivial⟩|exact⟨Z,Z,Z,Z,Z,Z,Z,Z,trivial⟩|exact⟨Z,Z,Z,Z,Z,Z,Z,Z,Z,Z,Z,Z,trivial⟩|exact⟨Z,Z,Z,Z,Z,Z,Z,Z,Z,Z,Z,Z,Z,Z,Z,Z,trivial⟩)(hcell:∀x∈scope.names,x.2≠.cell:=by decide +kernel)(hkind:scope.kind=.function:=by exact Z)(hnames:∀x∈scope.names,x.2=.local->scope.names.lookup x.1=some .local:=by decide +kernel)(hcl:iw X scope cl:=by first|exact cj Z trivial|exact cj Z ⟨Z,trivial⟩|exact cj Z ⟨Z,Z,trivial⟩|exact cj Z ⟨Z,Z,Z,trivial⟩|exact cj Z ⟨Z,Z,Z,Z,trivial⟩)(hs:∀x,SJ iter X.env x=SS x:=by intro _;rfl){x:RF}{pos' pos2:Uh}(hN:X.N.Nodup:=by assumption)(hi':X.N[i]?=some x:=by rfl)(hx:AT X.env.scope x:=by first|exact .inl Z|exact .inr Z)(hsw:TZ (.ListComp elt [⟨tg,iter,ifs,0⟩] scope pos) (some (.Name x pos')) pos2.line X.env=SS true:=by rfl)(hf:X.fn x=true∨X.env.scope.names.lookup x=some .local:=by first|exact .inl Z|exact .inr Z):QS X (.Assign [.Name x pos'] (.ListComp elt [⟨tg,iter,ifs,0⟩] scope pos) pos2) (uh (ka wi src g tt te) (mX i)):=Gq hN hi' hx hc hi (λa b c d e=>hg a b c d e hd) ht he hfree hclos hcell hkind hnames hcl hs hsw hf
end
end B
local macro_rules
 | `(tactic| nofun)=>`(tactic| (extract_lets +lift;try dsimp -zeta -zetaDelta only[L2.Cx.nox,L2.Cx.wish,L2.ba]))
namespace My
open PySem L2 B PyProof.Rows
theorem kJ{X:Cx}{pos:Uh}(i:Nat){x:RF}{e:RP}{te:TE}{pos':Uh}(hN:X.N.Nodup)(he:QE X e te)(hi:X.N[i]?=some x:=by rfl)(hx:AT X.env.scope x:=by first|exact SI Z|exact SB Z)(hs:TZ e (some (.Name x pos')) pos.line X.env=SS false:=by rfl)(hf:X.fn x=true∨X.env.scope.names.lookup x=some .local:=by first|exact .inl Z|exact .inr Z|assumption):QS X (.Assign [.Name x pos'] e pos) (uh te (mX i)):=Dm hN hi hx he hs hf
theorem dE{N P:List RF}{sc:UG}(a:sc.kind=.function:=by rfl)(b:sc.isCoroutine=false:=by rfl)(c:sc.isGenerator=false:=by rfl)(d:N.Nodup:=by decide +kernel)(e:N.take P.length=P:=by rfl)(f:∀x∈P,sc.names.lookup x=some .local∨sc.names.lookup x=some .cell:=by decide +kernel)(g:∀y∈sc.names,y.2≠.free:=by decide +kernel):av N P sc:=⟨a,b,c,d,e,f,g⟩
theorem qg{X:Cx}{k j:Nat}{f:Addr}{fd:QU}{ps:List RF}{sp:Sp}{x:RF}{p pos:Uh}{e:RP}{es:List RP}{t:TA}(F:aP X.prog X.w X.K X.mg X.base c5 k f fd ps sp)(hr:cA j X.A){st:Stmt}(g:FX X.K X.mg x ps st f fd)(ha:QA X (e::es) t)(hl:k≤j:=by decide)(hg:Gl X x:=by rfl)(hdb:(x==("__debug__" : RF))=false:=by decide)(he:Q6 (e::es) X.env=(false,eval e X.env)::Q6 es X.env:=by rfl)(hpl:(Te pos (Q6 es X.env)).any (·.1)=false:=by rfl):QE X (.Call (.Name x p) (e::es) [] pos) (xO sp [] E0 t):=d5 F (hr.mono hl) hg g.m g.F.kp g.b .nil dS ha hdb he hpl
theorem Kq{X:Cx}{a b:RP}{ta tb:TE}{pos:Uh}{r:R2}(hr:AI X r)(ha:QE X a ta)(hb:QE X b tb)(hs:tY b:=by exact λ_ _=>Z):QE X (.Subscript a b pos) (F4 r ta tb):=fx hr ha hb hs
theorem QF{K:QJ}{x qual:RF}{st:Stmt}{f:Addr}{fd:QU}{ps:List RF}(F:Fun K x qual st f fd) (h:∀(kV doc pm:Value) (an:Option Addr) (cdv ct:Value) (us:List Value),us.length=ps.length->XD (S2 x qual (dM st) (cY st) (ak st) .none kV doc pm an cdv ct) ⟨us,[]⟩=SS (ps.zip us):=by
 intro _ _ _ _ _ _ us hl
 match us,hl with
 | [],h2=>first|rfl | (simp at h2)
 | [_],h2=>first|rfl | (simp at h2)
 | [_,_],h2=>first|rfl | (simp at h2)
 | [_,_,_],h2=>first|rfl | (simp at h2)
 | [_,_,_,_],h2=>first|rfl | (simp at h2)
 |_::_::_::_::_::_,h2=>simp at h2):aI K fd ps []:=F.binds h
def top(i:Nat):Stmt:=PySem.Challenge.pw_paceplan_k62_whole_no_plan_of_hands_has.main.body.getD i (.Pass ⟨0,0,0,0⟩)
abbrev Cn:Stmt:=top 1
abbrev Kf:Stmt:=top 8
abbrev Ci:Stmt:=top 9
abbrev Cd:Stmt:=top 10
abbrev Ch:Stmt:=top 11
abbrev Cg:Stmt:=top 12
abbrev Cc:Stmt:=top 13
abbrev Cm:Stmt:=top 14
abbrev Cp:Stmt:=top 15
abbrev Cf:Stmt:=top 16
abbrev CA:Stmt:=top 17
abbrev CZ:Stmt:=top 18
abbrev Db:Stmt:=top 19
abbrev Da:Stmt:=top 23
abbrev Ck:Stmt:=top 24
abbrev CN:Stmt:=top 25
abbrev C9:Stmt:=top 26
abbrev Cz:Stmt:=top 27
abbrev Cy:Stmt:=top 28
abbrev C8:Stmt:=top 29
abbrev CM:Stmt:=top 30
abbrev CY:Stmt:=top 31
abbrev CL:Stmt:=top 34
abbrev Cw:Stmt:=top 36
abbrev C7:Stmt:=top 38
abbrev CW:Stmt:=top 39
abbrev CQ:Stmt:=top 40
abbrev CV:Stmt:=top 41
abbrev CP:Stmt:=top 44
abbrev Cb:Stmt:=top 45
abbrev Ke:Stmt:=top 46
abbrev Ce:Stmt:=top 47
abbrev Co:Stmt:=top 48
abbrev CU:Stmt:=top 49
abbrev CT:Stmt:=top 51
abbrev CK:Stmt:=top 52
abbrev Cu:Stmt:=top 53
abbrev Ct:Stmt:=top 54
abbrev Cs:Stmt:=top 55
abbrev CJ:Stmt:=top 56
abbrev CI:Stmt:=top 57
abbrev Cj:Stmt:=top 58
abbrev CS:Stmt:=top 59
abbrev CH:Stmt:=top 60
abbrev Cr:Stmt:=top 61
abbrev CG:Stmt:=top 62
abbrev CO:Stmt:=top 63
abbrev CD:Stmt:=top 64
abbrev CC:Stmt:=top 65
abbrev Cq:Stmt:=top 66
abbrev Kc:Stmt:=top 67
abbrev J9:Stmt:=top 68
abbrev C3:Stmt:=top 69
abbrev CB:Stmt:=top 70
abbrev Ca:Stmt:=top 71
abbrev C2:Stmt:=d7 (top 43) 0
abbrev Dc:Stmt:=d7 (top 43) 1
abbrev Kb:Stmt:=d7 (top 43) 2
abbrev Kd:Stmt:=d7 (top 43) 3
abbrev Kh:Stmt:=d7 (top 43) 4
abbrev Kg:Stmt:=d7 (top 43) 5
abbrev Ki:Stmt:=d7 (top 43) 6
abbrev C1:Stmt:=d7 (top 43) 7
abbrev C0:Stmt:=d7 (top 43) 8
abbrev Ka:Stmt:=d7 (top 43) 9
abbrev qF:Stmt:=d7 (top 4) 0
set_option genInjectivity false in
structure Ad where
 a_Q55:Addr
 d_Q55:QU
 a_Q3:Addr
 d_Q3:QU
 a_Q59:Addr
 d_Q59:QU
 a_Q64:Addr
 d_Q64:QU
 a_Q60:Addr
 d_Q60:QU
 a_Q61:Addr
 d_Q61:QU
 a_Q65:Addr
 d_Q65:QU
 a_Q56:Addr
 d_Q56:QU
 a_Q51:Addr
 d_Q51:QU
 a_Q62:Addr
 d_Q62:QU
 a_Q42:Addr
 d_Q42:QU
 a_Q20:Addr
 d_Q20:QU
 a_Q11:Addr
 d_Q11:QU
 a_Q12:Addr
 d_Q12:QU
 a_Q57:Addr
 d_Q57:QU
 a_Q30:Addr
 d_Q30:QU
 a_Q13:Addr
 d_Q13:QU
 a_Q43:Addr
 d_Q43:QU
 a_Q44:Addr
 d_Q44:QU
 a_Q14:Addr
 d_Q14:QU
 a_Q31:Addr
 d_Q31:QU
 a_Q21:Addr
 d_Q21:QU
 a_Q32:Addr
 d_Q32:QU
 a_Q45:Addr
 d_Q45:QU
 a_Q15:Addr
 d_Q15:QU
 a_Q22:Addr
 d_Q22:QU
 a_Q27:Addr
 d_Q27:QU
 a_Q23:Addr
 d_Q23:QU
 a_Q28:Addr
 d_Q28:QU
 a_Q66:Addr
 d_Q66:QU
 a_Q4:Addr
 d_Q4:QU
 a_Q63:Addr
 d_Q63:QU
 a_Q52:Addr
 d_Q52:QU
 a_Q24:Addr
 d_Q24:QU
 a_Q25:Addr
 d_Q25:QU
 a_Q33:Addr
 d_Q33:QU
 a_Q46:Addr
 d_Q46:QU
 a_Q47:Addr
 d_Q47:QU
 a_Q48:Addr
 d_Q48:QU
 a_Q34:Addr
 d_Q34:QU
 a_Q35:Addr
 d_Q35:QU
 a_Q58:Addr
 d_Q58:QU
 a_Q26:Addr
 d_Q26:QU
 a_Q36:Addr
 d_Q36:QU
 a_Q49:Addr
 d_Q49:QU
 a_Q37:Addr
 d_Q37:QU
 a_Q29:Addr
 d_Q29:QU
 a_Q38:Addr
 d_Q38:QU
 a_Q39:Addr
 d_Q39:QU
 a_Q50:Addr
 d_Q50:QU
 a_Q6:Addr
 d_Q6:QU
 a_Q9:Addr
 d_Q9:QU
 a_Q16:Addr
 d_Q16:QU
 a_Q40:Addr
 d_Q40:QU
 a_Q67:Addr
 d_Q67:QU
 a_Q17:Addr
 d_Q17:QU
 a_Q10:Addr
 d_Q10:QU
 a_Q7:Addr
 d_Q7:QU
 a_Q5:Addr
 d_Q5:QU
 a_Q1:Addr
 d_Q1:QU
 a_Q2:Addr
 d_Q2:QU
 a_Q0:Addr
 d_Q0:QU
 a_Q18:Addr
 d_Q18:QU
 a_Q19:Addr
 d_Q19:QU
 a_Q8:Addr
 d_Q8:QU
 c_Pouring:Addr
 c_NOUGHT:Addr
 k_POWER:Tok
 k_TABLE:Tok
 k_TURNS:Tok
 c_base:Addr
 c_Q53:Addr
 a_Q53:Addr
 d_Q53:QU
 c_Q41:Addr
 c_Q54:Addr
 c_LC:Addr
 c_LT:Addr
abbrev gFx(P:Rz)(w:RS)(base:Ra){K:QJ}{mg:RF->Option Value}{n ps st a d}(_:FX K mg n ps st a d)(k:Nat)(sp:Sp):Prop:=aP P w K mg base c5 k a d ps sp
structure dA(K:QJ)(mg:RF->Option Value)(t:Ad):Prop where
 lhd:UM K t.c_LC t.c_LT=true
 lcd:t.d_Q11.code=.ref t.c_LC
 Q55:FX K mg "copied" ["thing"] Cn t.a_Q55 t.d_Q55
 Q3:FX K mg "greatest_divisor" ["one","other"] Kf t.a_Q3 t.d_Q3
 Q59:FX K mg "ratio" ["top","bottom"] Ci t.a_Q59 t.d_Q59
 Q64:FX K mg "plus" ["one","other"] Cd t.a_Q64 t.d_Q64
 Q60:FX K mg "minus" ["one","other"] Ch t.a_Q60 t.d_Q60
 Q61:FX K mg "times" ["one","other"] Cg t.a_Q61 t.d_Q61
 Q65:FX K mg "over" ["one","other"] Cc t.a_Q65 t.d_Q65
 Q56:FX K mg "raised" ["one","power"] Cm t.a_Q56 t.d_Q56
 Q51:FX K mg "is_less" ["one","other"] Cp t.a_Q51 t.d_Q51
 Q62:FX K mg "total" ["some"] Cf t.a_Q62 t.d_Q62
 Q42:FX K mg "greatest" ["some"] CA t.a_Q42 t.d_Q42
 Q20:FX K mg "whole_parts" ["some"] CZ t.a_Q20 t.d_Q20
 Q11:FX K mg "falling_order" ["some"] Db t.a_Q11 t.d_Q11
 Q12:FX K mg "slope_between" ["low","high"] Da t.a_Q12 t.d_Q12
 Q57:FX K mg "top_of" ["rule"] Ck t.a_Q57 t.d_Q57
 Q30:FX K mg "is_beyond" ["rule","speed"] CN t.a_Q30 t.d_Q30
 Q13:FX K mg "ask_greatest" ["rule","speeds"] C9 t.a_Q13 t.d_Q13
 Q43:FX K mg "place_of" ["rows","speed"] Cz t.a_Q43 t.d_Q43
 Q44:FX K mg "power_at" ["rule","speed"] Cy t.a_Q44 t.d_Q44
 Q14:FX K mg "table_slopes" ["rows","speed"] C8 t.a_Q14 t.d_Q14
 Q31:FX K mg "slopes_at" ["rule","speed"] CM t.a_Q31 t.d_Q31
 Q21:FX K mg "plain_slope" ["rule","speed"] CY t.a_Q21 t.d_Q21
 Q32:FX K mg "in_window" ["work","turn"] CL t.a_Q32 t.d_Q32
 Q45:FX K mg "power_of" ["rule","speeds"] Cw t.a_Q45 t.d_Q45
 Q15:FX K mg "plain_prices" ["rule","speeds"] C7 t.a_Q15 t.d_Q15
 Q22:FX K mg "hand_speeds" ["hands","amounts"] CW t.a_Q22 t.d_Q22
 Q27:FX K mg "turn_power" ["rule","hands","amounts"] CQ t.a_Q27 t.d_Q27
 Q23:FX K mg "hands_power" ["rule","hands","plan"] CV t.a_Q23 t.d_Q23
 Q28:FX K mg "busy_hands" ["works","free"] CP t.a_Q28 t.d_Q28
 Q66:FX K mg "pace" ["works","free"] Cb t.a_Q66 t.d_Q66
 Q4:FX K mg "tightest_pouring" ["works","free"] Ke t.a_Q4 t.d_Q4
 Q63:FX K mg "paced" ["works","hands"] Ce t.a_Q63 t.d_Q63
 Q52:FX K mg "plan_of" ["rows"] Co t.a_Q52 t.d_Q52
 Q24:FX K mg "hands_least" ["works","rule","hands"] CU t.a_Q24 t.d_Q24
 Q25:FX K mg "_law_cell_at" ["_law_script","_law_k"] CT t.a_Q25 t.d_Q25
 Q33:FX K mg "_law_draws" ["_law_cell","_law_many"] CK t.a_Q33 t.d_Q33
 Q46:FX K mg "_law_take" ["_law_tape","_law_many"] Cu t.a_Q46 t.d_Q46
 Q47:FX K mg "_law_made" ["_law_top","_law_bottom"] Ct t.a_Q47 t.d_Q47
 Q48:FX K mg "_law_plus" ["_law_one","_law_other"] Cs t.a_Q48 t.d_Q48
 Q34:FX K mg "_law_minus" ["_law_one","_law_other"] CJ t.a_Q34 t.d_Q34
 Q35:FX K mg "_law_times" ["_law_one","_law_other"] CI t.a_Q35 t.d_Q35
 Q58:FX K mg "_law_by" ["_law_one","_law_other"] Cj t.a_Q58 t.d_Q58
 Q26:FX K mg "_law_is_less" ["_law_one","_law_other"] CS t.a_Q26 t.d_Q26
 Q36:FX K mg "_law_total" ["_law_some"] CH t.a_Q36 t.d_Q36
 Q49:FX K mg "_law_most" ["_law_some"] Cr t.a_Q49 t.d_Q49
 Q37:FX K mg "_law_works" ["_law_tape","_law_most_here","_law_turns"] CG t.a_Q37 t.d_Q37
 Q29:FX K mg "_law_raised" ["_law_one","_law_many"] CO t.a_Q29 t.d_Q29
 Q38:FX K mg "_law_slope" ["_law_rows","_law_k"] CD t.a_Q38 t.d_Q38
 Q39:FX K mg "_law_power" ["_law_rule_here","_law_speed"] CC t.a_Q39 t.d_Q39
 Q50:FX K mg "_law_rule" ["_law_tape","_law_some"] Cq t.a_Q50 t.d_Q50
 Q6:FX K mg "_law_hand_speeds" ["_law_hands","_law_amounts"] Kc t.a_Q6 t.d_Q6
 Q9:FX K mg "_law_plan_power" ["_law_rule_here","_law_hands","_law_plan"] J9 t.a_Q9 t.d_Q9
 Q16:FX K mg "_law_any_plan" ["_law_tape","_law_works_here"] C3 t.a_Q16 t.d_Q16
 Q40:FX K mg "_law_least" ["_law_works_here","_law_rule_here","_law_hands"] CB t.a_Q40 t.d_Q40
 Q67:FX K mg "law" ["_law_script"] Ca t.a_Q67 t.d_Q67
 F_Q17:Fun K "__init__" "Pouring.__init__" C2 t.a_Q17 t.d_Q17
 b_Q17:aI K t.d_Q17 ["self","works","free","speed"] []
 K_Pouring:L2.Mk K t.c_Pouring t.a_Q17
 F_Q10:Fun K "beside" "Pouring.beside" Dc t.a_Q10 t.d_Q10
 b_Q10:aI K t.d_Q10 ["self","node"] []
 M_Pouring_beside:jZ K t.c_Pouring "beside" t.a_Q10
 F_Q7:Fun K "reached" "Pouring.reached" Kb t.a_Q7 t.d_Q7
 b_Q7:aI K t.d_Q7 ["self","numbers"] []
 M_Pouring_reached:jZ K t.c_Pouring "reached" t.a_Q7
 F_Q5:Fun K "turns_of" "Pouring.turns_of" Kd t.a_Q5 t.d_Q5
 b_Q5:aI K t.d_Q5 ["self","sources"] []
 M_Pouring_turns_of:jZ K t.c_Pouring "turns_of" t.a_Q5
 F_Q1:Fun K "has_way_on" "Pouring.has_way_on" Kh t.a_Q1 t.d_Q1
 b_Q1:aI K t.d_Q1 ["self","number"] []
 M_Pouring_has_way_on:jZ K t.c_Pouring "has_way_on" t.a_Q1
 F_Q2:Fun K "pour_along" "Pouring.pour_along" Kg t.a_Q2 t.d_Q2
 b_Q2:aI K t.d_Q2 ["self","sources","turn"] []
 M_Pouring_pour_along:jZ K t.c_Pouring "pour_along" t.a_Q2
 F_Q0:Fun K "most_between" "Pouring.most_between" Ki t.a_Q0 t.d_Q0
 b_Q0:aI K t.d_Q0 ["self","source","node"] []
 M_Pouring_most_between:jZ K t.c_Pouring "most_between" t.a_Q0
 F_Q18:Fun K "move" "Pouring.move" C1 t.a_Q18 t.d_Q18
 b_Q18:aI K t.d_Q18 ["self","source","node","amount"] []
 M_Pouring_move:jZ K t.c_Pouring "move" t.a_Q18
 F_Q19:Fun K "pour" "Pouring.pour" C0 t.a_Q19 t.d_Q19
 b_Q19:aI K t.d_Q19 ["self"] []
 M_Pouring_pour:jZ K t.c_Pouring "pour" t.a_Q19
 F_Q8:Fun K "amounts" "Pouring.amounts" Ka t.a_Q8 t.d_Q8
 b_Q8:aI K t.d_Q8 ["self","number"] []
 M_Pouring_amounts:jZ K t.c_Pouring "amounts" t.a_Q8
 m_Pouring:mg "Pouring"=some (.ref t.c_Pouring)
 cl_Pouring:AK K t.c_Pouring
 n_Pouring_inside:dk K t.c_Pouring "inside"
 n_Pouring_most:dk K t.c_Pouring "most"
 n_Pouring_whole:dk K t.c_Pouring "whole"
 n_Pouring_rest:dk K t.c_Pouring "rest"
 n_Pouring_room:dk K t.c_Pouring "room"
 n_Pouring_poured:dk K t.c_Pouring "poured"
 m_NOUGHT:mg "NOUGHT"=some (.ref t.c_NOUGHT)
 q_NOUGHT:∀H,cE K H t.c_NOUGHT [.int (0),.int (1)]
 m_POWER:mg "POWER"=some (.str "power" t.k_POWER)
 m_TABLE:mg "TABLE"=some (.str "table" t.k_TABLE)
 m_TURNS:mg "TURNS"=some (.int (24) t.k_TURNS)
 X_Q53:XC K t.c_Q53 t.a_Q53 (.ref t.c_base::qd)
 F_Q53:Fun K "__init__" "NoSpeed.__init__" qF t.a_Q53 t.d_Q53
 b_Q53:aI K t.d_Q53 ["self","speed"] []
 m_Q53:mg "NoSpeed"=some (.ref t.c_Q53)
 n_Q53_speed:dk K t.c_Q53 "speed"
 g_Q53:P1 K t.c_Q53
 m_Q41:mg "PaceError"=some (.ref t.c_Q41)
 m_Q54:mg "NoRatio"=some (.ref t.c_Q54)
 x_catch:Yq K (.ref t.c_Q53) (.ref t.c_Q53)=some true
 z_abs:mg "abs"=none
 z_any:mg "any"=none
 z_enumerate:mg "enumerate"=none
 z_isinstance:mg "isinstance"=none
 z_len:mg "len"=none
 z_list:mg "list"=none
 z_max:mg "max"=none
 z_min:mg "min"=none
 z_range:mg "range"=none
 z_sorted:mg "sorted"=none
 z_sum:mg "sum"=none
 z_tuple:mg "tuple"=none
inductive fF(K_:QJ)(vs:List V)(H:Hp)(Q:VK)(E_:XK):Prop where
 |mk (a b:Int) (h0_:vs=[.int a,.int b]) (h1_:Q (.int (Rf a b:Nat)) H):fF K_ vs H Q E_
theorem jT(h:H a=none)(o:HO):ax H (upd H a o)/\upd H a o a=some o:=⟨ae h o,aa⟩
theorem bR.ofAt{α:Type}{P:V->α->Prop}:∀{xs:List V} {ds:List α},xs.length=ds.length->(∀(i:Nat) (x:V) (d:α),xs[i]?=some x->ds[i]?=some d->P x d)->bR P xs ds
 | [],[],_,_=>.nil
 | [],_::_,h,_=>nomatch h
 |_::_,[],h,_=>nomatch h
 |x::_,d::_,h,k=>.cons (k 0 x d Z Z) (bR.ofAt (aae.inj h) λi y e a b=>k (i+1) y e a b)
theorem dz{α β:Type}{K:QJ}{J:It}{H:Hp}{D:Addr}{xs:List V}{ds:List α}{P:Hp->V->β->Prop}{f:α->β}{src:List (Option Nat)}{σ:L2.St}{g:TG}{tt:TT}{te:TE}{Q:Hp->Prop}
  (mono:∀H H' v d,ay K H H'->P H v d->P H' v d) (hD:H D=none) (wk:Iz J H xs.length (λi x _=>xs[i]?=some x)) (hl:xs.length=ds.length) (hn:ds.length≤1000)
  (turn:∀(i:Nat) (x:V) (d:α) (H':Hp),xs[i]?=some x->ds[i]?=some d->ax H H'->∀(R:VK) (E:Hp->Prop),(∀v H'',ax H' H''->P H'' v (f d)->R v H'')→
   g x (cI src σ) H' λσ2 H2=>fz (cI src σ) σ2/\tt σ2 H2 λok H3=>if ok=true then te σ2 H3 R else E H3)
  (fin:∀H' ys,ax H H'->H' D=some (.lst ys)->bR (P H') ys (ds.map f)->Q H') :
  O5 J D H src σ g tt te Q:=
 Av (K:=K) (P:=λH v i=>∀d,ds[i]?=some d->P H v (f d)) wk (λi:Nat=>i) (λ_ _ _ _ t h d e=>mono _ _ _ _ t (h d e)) hD ω
  (λi x H' hi s p R E kR=>by
   have hd:ds[i]?=some (ds[i]' ω):=QH _;exact turn i x _ H' p hd s R E λv H'' s' h=>kR v H'' s' λd' e=>by rw[hd] at e;cases e;exact h)
  λH' ys s e al=>fin H' ys s e (bR.ofAt (by have:=al.len;rw[QK,Rx] at this;rw[QK];lia) λi y d a b=>by
   obtain⟨j,c,h⟩:=al.at a;rw[Q4] at b c;obtain⟨d',e',rfl⟩:=Tn.mp b;obtain⟨j',e2,rfl⟩:=Tn.mp c;rw[Tr (by have:=(QN.mp e').1;lia)] at e2
   cases e2
   exact h d' e')
def o1(H:Hp)(Q:VK)(r:R):Prop:=∀p,H p=none->Q (.ref p) (upd H p (.tup [.int r.1,.int r.2]))
def AN(K:QJ)(H:Hp)(Q:VK)(r:R):Prop:=∀(v:V) (H':Hp),ax H H'->RV K H' v r->Q v H'
theorem nR(K:QJ)(h:∀(p:Addr) (H':Hp),ax H H'->RV K H' (.ref p) r->Q (.ref p) H'):o1 H Q r:=λp hp=>h p _ (ae hp _) (RV.of aa)
inductive ut(K_:QJ)(vs:List V)(H:Hp)(Q:VK)(E_:XK):Prop where
 |mk (a b:Int) (h0_:vs=[.int a,.int b]) (h1_:b≠0) (h2_:b.natAbs<2^8990) (h3_:o1 H Q (nS a b)):ut K_ vs H Q E_
inductive xV(K:QJ)(vs:List V)(H:Hp)(Q:VK)(E_:XK):Prop where
 |mk (v w:V) (r q:R) (n m:Nat) (h0_:vs=[v,w]) (h1_:RV K H v r) (h2_:RV K H w q) (h3_:Wf n r) (h4_:Wf m q) (h5_:n+m+1≤3000) (h6_:o1 H Q (aK r q)):xV K vs H Q E_
inductive uv(K:QJ)(vs:List V)(H:Hp)(Q:VK)(E_:XK):Prop where
 |mk (v w:V) (r q:R) (n m:Nat) (h0_:vs=[v,w]) (h1_:RV K H v r) (h2_:RV K H w q) (h3_:Wf n r) (h4_:Wf m q) (h5_:n+m+1≤3000) (h6_:AN K H Q (aA r q)):uv K vs H Q E_
inductive ur(K:QJ)(vs:List V)(H:Hp)(Q:VK)(E_:XK):Prop where
 |mk (v w:V) (r q:R) (n m:Nat) (h0_:vs=[v,w]) (h1_:RV K H v r) (h2_:RV K H w q) (h3_:Wf n r) (h4_:Wf m q) (h5_:n+m+1≤3000) (h6_:o1 H Q (aC r q)):ur K vs H Q E_
inductive xX(K:QJ)(vs:List V)(H:Hp)(Q:VK)(E_:XK):Prop where
 |mk (v w:V) (r q:R) (n m:Nat) (h0_:vs=[v,w]) (h1_:RV K H v r) (h2_:RV K H w q) (h3_:Wf n r) (h4_:Wf m q) (h5_:n+m+1≤3000) (h6_:q.1≠0) (h7_:AN K H Q (d6 r q)):xX K vs H Q E_
inductive jL(K:QJ)(vs:List V)(H:Hp)(Q:VK)(E_:XK):Prop where
 |mk (v w:V) (r q:R) (n m:Nat) (h0_:vs=[v,w]) (h1_:RV K H v r) (h2_:RV K H w q) (h3_:Wf n r) (h4_:Wf m q) (h5_:n+m+1≤3000) (h6_:Q (.bl (aL r q)) H):jL K vs H Q E_
inductive qy(K:QJ)(vs:List V)(H:Hp)(Q:VK)(E_:XK):Prop where
 |mk (v:V) (r:R) (k:Int) (h0_:vs=[v,.int k]) (h1_:RV K H v r) (h2_:Wf 98 r) (h3_:0≤k) (h4_:k≤4) (h5_:AN K H Q (dN r k.toNat)):qy K vs H Q E_
theorem aO{i:Int}(h:i.natAbs<2^n)(hn:n≤8990):i.natAbs<2^8990:=Q7 h (Sa δ hn)
theorem cV{K:QJ}{H:Hp}{p:Addr}{x y:Int}(_:ax H (upd H p (.tup [.int x,.int y]))):RV K (upd H p (.tup [.int x,.int y])) (.ref p) (x,y):=RV.of aa
theorem Fn(h:Rf a b=1):Rf (-a) b=1:=by rw[Int.neg_gcd];exact h
theorem i6{a g:Int}(hg:0<g)(h:a.natAbs<2^8990):(a/g).natAbs<2^8990:=RH (gL a hg) h
theorem pK(hb:0<b)(h:b.natAbs<2^8990):((Rf a b:Nat):Int).natAbs<2^8990:=yQ ω h
theorem IJ(h0:0≤n)(h1:n≤100):-(2^62)≤n/\n<2^62:=by constructor<;>lia
theorem uC{a:Int}(h:a.natAbs<2^98)(hi:i≤4):(a^i).natAbs<2^8990:=by
 rw[Int.natAbs_pow];refine RH (Nat.pow_le_pow_left (Up h) i) ?_;rw[←Nat.pow_mul];exact Nat.pow_lt_pow_right δ ω
def lK(K:QJ)(H:Hp)(v:V)(w:R×R):Prop:=∃p x y,v=.ref p/\cE K H p [x,y]/\RV K H x w.1/\RV K H y w.2
theorem lK.mono{K:QJ}{H H':Hp}{v:V}{w:R×R}(h:lK K H v w)(t:ay K H H'):lK K H' v w:=let ⟨p,q,q',a,b,c,d⟩:=h;⟨p,q,q',a,t _ _ b,c.mono t,d.mono t⟩
def ud(K:QJ)(H:Hp)(v:V):Rl->Prop
 | .pow k=>∃p,v=.ref p/\cE K H p [.str (UW "power"),.int k]
 | .tab rows=>∃p q xs,v=.ref p/\cE K H p [.str (UW "table"),.ref q]/\cE K H q xs/\bR (lK K H) xs rows
theorem ud.mono{K:QJ}{H H':Hp}{v:V}{rl:Rl}(h:ud K H v rl)(t:ay K H H'):ud K H' v rl:=by
 cases rl with
 |pow k=>obtain⟨p,a,b⟩:=h;exact⟨p,a,t _ _ b⟩
 |tab rows=>obtain⟨p,q,xs,a,b,c,d⟩:=h;exact⟨p,q,xs,a,t _ _ b,t _ _ c,d.mono λ_ _ z=>z.mono t⟩
structure MV(a b:R×R):Prop where
 ne:(aA b.1 a.1).1≠0
 w1:Wf 99 (aA b.1 a.1)
 w2:Wf 198 (aA b.2 a.2)
 a1:Wf 98 a.1
 b1:Wf 98 b.1
 a2:Wf 197 a.2
 b2:Wf 197 b.2
theorem vA(h:bg rows){i j:Nat}(hij:i<j)(ha:rows[i]?=some a)(hb:rows[j]?=some b):MV a b:=
 let ⟨e1,e2,e3,_⟩:=h.slope hij ha hb;let ma:=QL ha;let mb:=QL hb
 ⟨e1,e2,e3,M3 (h.sp a ma),M3 (h.sp b mb),Qc (h.pw a ma),Qc (h.pw b mb)⟩
inductive gT(K:QJ)(vs:List V)(H:Hp)(Q:VK)(E_:XK):Prop where
 |mk (v w:V) (a b:R×R) (h0_:vs=[v,w]) (h1_:lK K H v a) (h2_:lK K H w b) (h3_:MV a b) (h4_:AN K H Q (bu a b)):gT K vs H Q E_
inductive mM(K:QJ)(vs:List V)(H:Hp)(Q:VK)(E_:XK):Prop where
 |mk (q:Addr) (v:V) (xs:List V) (rows:List (R×R)) (s:R) (h0_:vs=[.ref q,v]) (h1_:cE K H q xs) (h2_:bR (lK K H) xs rows) (h3_:bg rows) (h4_:RV K H v s) (h5_:jX s) (h6_:bA (.tab rows) s) (h7_:Q (.int (cO rows s)) H):mM K vs H Q E_
theorem Kl(h:bg rows){k:Nat}{r:R×R}(e:rows[k]?=some r):0≤r.1.1:=by
 obtain⟨y,ey⟩:=h.zero
 cases k with
 |zero=>rw[ey] at e;cases e;exact TF _
 |succ k=>
  obtain⟨h1,e1⟩:=QN.mp e;obtain⟨h2,e2⟩:=QN.mp ey;have:=R8.mp h.inc 0 (k+1) h2 h1 (Nat.succ_pos k);rw[e1,e2,gZ] at this;lia
def si(rows:List (R×R)):R:=(rows.getD (rows.length-1) jx).1
def qQ(a b:R×R)(s:R):R:=aK a.2 (aC (bu a b) (aA s a.1))
def vT(rows:List (R×R))(s:R):R:=if cO rows s=0 then(rows.getD 0 jx).2 else qQ (rows.getD (cO rows s-1) jx) (rows.getD (cO rows s) jx) s
def bO:Rl->R->R
 | .pow k,s=>dN s k.toNat
 | .tab rows,s=>vT rows s
def df:Rl->R->Bool
 | .pow _,_=>false
 | .tab rows,s=>aL (si rows) s
theorem yJ(h:bg rows):∃r,rows[rows.length-1]?=some r/\si rows=r.1:=by
 have n:=h.n2;have e:rows[rows.length-1]?=some (rows[rows.length-1]' ω):=QH _;exact⟨_,e,by unfold si;rw[bS e]⟩
theorem iu(h:c7 rl):df rl s=false↔bA rl s:=by
 cases rl with
 |pow k=>exact⟨λ_=>trivial,λ_=>Z⟩
 |tab rows=>
  obtain⟨r,e,er⟩:=yJ (show bg rows from h);constructor
  ·intro z;have z':aL (si rows) s=false:=z;exact⟨r,e,by rw[←er];exact z'⟩
  ·rintro⟨r',e',z⟩;rw[e] at e'
   cases e'
   show aL (si rows) s=false;rw[er];exact z
theorem yH(ok:MV a b)(w:Wf 300 (bu a b))(ws:Wf 98 s):Wf 197 (aA s a.1)/\Wf 497 (aC (bu a b) (aA s a.1))/\Wf 700 (qQ a b s):=by
 have m:=uM ws ok.a1;have tm:=gP w m;exact⟨m,tm,(GR ok.a2 tm).mono δ⟩
theorem xC(h:bg rows)(hs:jX s)(hp:cO rows s=0):s=(0,1):=by
 obtain⟨y,ey⟩:=h.zero;have c:=jc hs.bq.pos h.inc h.allP ey;rw[hp] at c;have c':aL (0,1) s=false:=c;rw[fy] at c';have z:s.1*1≤0*s.2:=c';have nn:=hs.nn;have e:s.1=0:=ω
 have cop:=hs.bq.cop;have pos:=hs.bq.pos;rw[e] at cop;have:s.2.natAbs=1:=by simpa [Rf] using cop
 grind
inductive oA(K_:QJ)(vs:List V)(H:Hp)(Q:VK)(E_:XK):Prop where
 |mk (i:Int) (h0_:vs=[.int i]) (h1_:Q (.int i) H):oA K_ vs H Q E_
inductive qA(K:QJ)(vs:List V)(H:Hp)(Q:VK)(E_:XK):Prop where
 |mk (v:V) (r:R) (h0_:vs=[v]) (h1_:RV K H v r) (h2_:AN K H Q r):qA K vs H Q E_
inductive qx(K:QJ)(vs:List V)(H:Hp)(Q:VK)(E_:XK):Prop where
 |mk (v:V) (rl:Rl) (h0_:vs=[v]) (h1_:ud K H v rl) (h2_:c7 rl) (h3_:(∀k,rl=.pow k->Q .non H)) (h4_:∀rows x,rl=.tab rows->RV K H x (si rows)->Q x H):qx K vs H Q E_
inductive kC(K:QJ)(vs:List V)(H:Hp)(Q:VK)(E_:XK):Prop where
 |mk (v w:V) (rl:Rl) (s:R) (h0_:vs=[v,w]) (h1_:ud K H v rl) (h2_:c7 rl) (h3_:RV K H w s) (h4_:Wf 98 s) (h5_:Q (.bl (df rl s)) H):kC K vs H Q E_
theorem Fw(h:bg rows)(hs:0<s.2)(hp:cO rows s<rows.length):bA (.tab rows) s:=by
 have n:=h.n2;obtain⟨r,e⟩:∃r,rows[rows.length-1]?=some r:=⟨_,QH ω⟩;refine⟨r,e,?_⟩;rw[jc hs h.inc h.allP e];grind
theorem FU:val (1,1)=1:=by decide +kernel
theorem A0(k:Int):val (k,1)=(k:Rat):=by unfold val;show(k:Rat)/((1:Int):Rat)=k;rw[show((1:Int):Rat)=1 from Z];grind
abbrev Wk:=Nat×Nat×R
def tX(K:QJ)(H:Hp)(v:V)(w:Wk):Prop:=∃p x,v=.ref p/\cE K H p [.int w.1,.int w.2.1,x]/\RV K H x w.2.2
theorem tX.mono{K:QJ}{H H':Hp}{v:V}{w:Wk}(h:tX K H v w)(t:ay K H H'):tX K H' v w:=let ⟨p,x,e,s,r⟩:=h;⟨p,x,e,t _ _ s,r.mono t⟩
def va(K:QJ)(H:Hp)(v:V)(ws:List Wk):Prop:=∃p xs,v=.ref p/\cE K H p xs/\bR (tX K H) xs ws
theorem va.mono{K:QJ}{H H':Hp}{v:V}{ws:List Wk}(h:va K H v ws)(t:ay K H H'):va K H' v ws:=let ⟨p,xs,e,s,a⟩:=h;⟨p,xs,e,t _ _ s,a.mono λ_ _ q=>q.mono t⟩
def g8(w:Wk)(t:Nat):Bool:=decide (w.1≤t)&&decide (t≤w.2.1)
def Ih(w:Wk):R5:=.tuple [.int w.1,.int w.2.1,dR w.2.2]
theorem tX.deep{K:QJ}{H:Hp}{v:V}{w:Wk}(h:tX K H v w):dL K H v (Ih w):=by
 obtain⟨p,x,rfl,hS,rx⟩:=h;exact .tup hS (.cons (.int _) (.cons (.int _) (.cons rx.deep .nil)))
theorem eh{K:QJ}{H:Hp}{xs:List V}{rs:List R}(h:bR (RV K H) xs rs):M8 K H xs rs:=⟨h.len,λi x r hx hr=>by obtain⟨d,hd,p⟩:=h.at hx;rw[hr] at hd;cases hd;exact p⟩
theorem bR.rep{α:Type}{P:V->α->Prop}{v:V}{d:α}(k:P v d):∀n:Nat,bR P (Q0 n v) (Q0 n d)
 |0=>.nil
 |n+1=>.cons k (bR.rep k n)
theorem kZ(h:t<n):ER n (t:Int)=some t:=by
 unfold ER;simp;lia
def aQ(ls:List Nat):List V:=ls.map λn:Nat=>V.int n
def bI:Wk:=(0,0,(0,1))
def PM(K:QJ)(H:Hp)(a:Addr)(xs:List V):Prop:=aJ K H a xs∨cE K H a xs
inductive uo(K:QJ)(vs:List V)(H:Hp)(Q:VK)(E_:XK):Prop where
 |mk (a:Addr) (xs:List V) (rs:List R) (n D:Nat) (h0_:vs=[.ref a]) (h1_:PM K H a xs) (h2_:M8 K H xs rs) (h3_:(∀r∈rs,Wf n r/\r.2∣(D:Int))) (h4_:0<D) (h5_:D<2^n) (h6_:rs.length≤64) (h7_:n≤900) (h8_:∀(v':V) (H':Hp),ax H H'->RV K H' v' (bj rs)->Q v' H'):uo K vs H Q E_
theorem Ix{D i n:Nat}{r:R}(h:∀p∈ps,p.1∣(D:Int))(hr:r.2∣(D:Int)):∀p∈ia ps r.2 r.1,p.1∣(D:Int):=λp hp=>by
 rcases(lI ps r.2 r.1 p.1).mp (QZ.mpr ⟨p,hp,Z⟩) with z|z
 ·grind
 ·rw[z];exact hr
theorem Mr{D n i:Nat}(ok:ny n i ps)(hd:∀p∈ps,p.1∣(D:Int))(hi:i≤64){q:Int×Int}(hq:q∈ps):Bq D (64*2^n) (cJ q.2 q.1):=by
 have b:=(ok.bot q hq).1;refine pU b (hd q hq) (RC (ok.top q hq) ?_);refine RC (Tc _ hi) (Nat.le_mul_of_pos_right _ ω)
theorem MT(h:Bq D (64*2^n*j) r)(hj:j≤64)(h0:0<D)(hD:D<2^n):Wf (2*n+12) r:=by
 refine h.wf h0 (Q7 hD (Sa δ ω)) ?_;have a:64*2^n*j≤64*2^n*64:=UC _ hj;have b:64*2^n*j*D<64*2^n*64*2^n:=RH (Tc _ a) (Nat.mul_lt_mul_of_pos_left hD (Nat.mul_pos (Nat.mul_pos δ (Nat.pow_pos δ)) δ));refine Q7 b ?_;rw[show 2*n+12=n+(n+12) by lia,ZP,ZP,show(2:Nat)^12=4096 by decide];lia
theorem Bi{D N:Nat}(hD:0<D):∀{rs:List R},(∀r∈rs,Bq D N r)->∀{a:R} {M:Nat},Bq D M a->Bq D (M+N*rs.length) (rs.foldl aK a)
 | [],_,a,M,h=>by simpa using h
 |r::rs,hr,a,M,h=>by
  have:=Bi hD (λq hq=>hr q (QX _ hq)) (h.plus hD (hr r QV));grind
theorem PJ:Bq D 0 ((0,1):R):=⟨δ,δ,⟨(D:Int),by show(D:Int)=1*D;lia⟩,by show 0≤_;exact Rq _⟩
theorem jj(hD:0<D)(h:∀r∈rs,Bq D N r):Bq D (N*rs.length) (bj rs):=by
 have:=Bi hD h (PJ (D:=D));rw[Nat.zero_add] at this;exact this
theorem Bh:∀{rs:List R} {a:R},de a->0≤a.1->(∀r∈rs,de r/\0≤r.1)->0≤(rs.foldl aK a).1
 | [],_,_,h,_=>h
 |r::rs,a,ha,h,hr=>by
  obtain⟨h1,h2⟩:=hr r QV;show 0≤(rs.foldl aK (aK a r)).1;exact Bh (a:=aK a r) (dy (RG ha.pos h1.pos)) (GS ha h1 h h2) λq hq=>hr q (QX _ hq)
theorem A5(ha:0<a.2)(hb:0<b.2)(h:0≤a.1)(k:0≤b.1):0≤(aC a b).1:=by
 have c:=eW (a:=a.1*b.1) (RG ha hb);have p:=(dy (a:=a.1*b.1) (RG ha hb)).pos;have e:(aC a b).1*(a.2*b.2)=a.1*b.1*(aC a b).2:=c;have z:0≤a.1*b.1*(aC a b).2:=Vf (Vf h k) (Ry p);rw[←e] at z;have q:=RG ha hb;rcases(show 0≤(aC a b).1∨(aC a b).1<0 by lia) with w|w
 ·exact w
 ·have:=Int.mul_neg_of_neg_of_pos w q;lia
theorem yr{D N:Nat}{r:R}(h:Bq D N r):∀k,Bq (D^k) (N^k) (dN r k)
 |0=>by
  show Bq 1 1 ((1,1):R);exact⟨δ,δ,⟨1,δ⟩,δ⟩
 |k+1=>by
  rw[X1,X1];exact(yr h k).times h
theorem wM(h:i.natAbs≤n):Bq 1 n ((i,1):R):=⟨by show(0:Int)<1;decide,by show Rf i 1=1;simp,⟨1,by show((1:Nat):Int)=1*1;decide⟩,by show i.natAbs≤n*1;lia⟩
abbrev DM:Nat:=260319738356663723337600
structure FI(r:R):Prop where
 bq:Bq DM 60 r
 pos:0<r.1
 bot:r.2<1073741824
structure iH(r:R):Prop where
 bq:Bq D0 540 r
 nn:0≤r.1
theorem iH.sp(h:iH r):jX r:=⟨h.bq.mono ⟨2,Z⟩ δ,h.nn⟩
def xp:Rl->Prop
 | .pow _=>True
 | .tab rows=>(∀r∈rows,Bq D0 541 r.1/\Bq 93715105808398940401536000 227222 r.2)/\∀k,k+1<rows.length->Bq 6 21 (AQ rows k)
theorem vS(ok:c7 rl)(sm:xp rl)(hs:iH s)(hb:bA rl s):Bq 59515953789365123158852704845422783159809256379678131039657860673594879039351138912567296000000000000 85030560000 (bO rl s):=by
 cases rl with
 |pow k=>
  have ok':2≤k/\k≤4:=ok;show Bq 59515953789365123158852704845422783159809256379678131039657860673594879039351138912567296000000000000 85030560000 (dN s k.toNat);have:=yr hs.bq k.toNat;rcases(show k.toNat=2∨k.toNat=3∨k.toNat=4 by lia) with e|e|e<;>rw[e] at this ⊢
  ·exact this.mono ⟨D0*D0,δ⟩ δ
  ·exact this.mono ⟨D0,δ⟩ δ
  lia
 |tab rows=>
  have ok':bg rows:=ok;obtain⟨s1,s2⟩:=sm;have pl:=ok'.p_lt hs.sp.bq.pos hb;show Bq 59515953789365123158852704845422783159809256379678131039657860673594879039351138912567296000000000000 85030560000 (vT rows s);unfold vT
  split
  ·have e:rows[0]?=some (rows[0]' ω):=QH _;rw[bS e];exact(s1 _ (QL e)).2.mono ⟨635073217662964864871227229578019405610959137574557610426507329536000000000,δ⟩ δ
  ·rename_i c;have e1:rows[cO rows s-1]?=some (rows[cO rows s-1]' ω):=QH _;have e2:rows[cO rows s]?=some (rows[cO rows s]'pl):=QH _;have e2':rows[cO rows s-1+1]?=some (rows[cO rows s]'pl):=by rw[show cO rows s-1+1=cO rows s by lia];exact e2
   have sl:=s2 (cO rows s-1) ω;rw[oC e1 e2'] at sl;rw[bS e1,bS e2];obtain⟨m1,m2⟩:=s1 _ (QL e1);unfold qQ;have t:Bq 93715105808398940401536000 22701 (aC (bu (rows[cO rows s-1]' ω) (rows[cO rows s]'pl)) (aA s (rows[cO rows s-1]' ω).1)):=(sl.times (Bq.minus δ hs.bq m1)).mono ⟨1,δ⟩ δ;exact(Bq.plus δ m2 t).mono ⟨635073217662964864871227229578019405610959137574557610426507329536000000000,δ⟩ δ
theorem d9(ok:c7 rl)(h:df rl s=false):bA rl s:=by
 cases rl with
 |pow k=>exact trivial
 |tab rows=>exact(iu ok).mp h
def gM(K:QJ)(H:Hp)(v:V):Option R->Prop
 |none=>v=.non
 |some r=>RV K H v r
theorem gM.mono{K:QJ}{H H':Hp}{v:V}{o:Option R}(h:gM K H v o)(t:ay K H H'):gM K H' v o:=by
 cases o with
 |none=>exact h
 |some r=>exact RV.mono h t
def OS(K:QJ)(H:Hp)(v:V)(w:R×Option R):Prop:=∃p x y,v=.ref p/\cE K H p [x,y]/\RV K H x w.1/\gM K H y w.2
inductive ix(K:QJ)(vs:List V)(H:Hp)(Q:VK)(E_:XK):Prop where
 |mk (q:Addr) (v:V) (xs:List V) (rows:List (R×R)) (s:R) (h0_:vs=[.ref q,v]) (h1_:cE K H q xs) (h2_:bR (lK K H) xs rows) (h3_:bg rows) (h4_:RV K H v s) (h5_:jX s) (h6_:bA (.tab rows) s) (h7_:∀(v':V) (H':Hp),ax H H'->OS K H' v' (jF rows s,cN rows s)->Q v' H'):ix K vs H Q E_
inductive kj(K:QJ)(vs:List V)(H:Hp)(Q:VK)(E_:XK):Prop where
 |mk (v w:V) (rl:Rl) (s:R) (h0_:vs=[v,w]) (h1_:ud K H v rl) (h2_:c7 rl) (h3_:RV K H w s) (h4_:jX s) (h5_:bA rl s) (h6_:∀(v':V) (H':Hp),ax H H'->OS K H' v' (sH rl s)->Q v' H'):kj K vs H Q E_
def K1(w:R×Option R):R:=match w.2 with|none=>w.1|some x=>x
inductive iN(K:QJ)(vs:List V)(H:Hp)(Q:VK)(E_:XK):Prop where
 |mk (v w:V) (rl:Rl) (s:R) (h0_:vs=[v,w]) (h1_:ud K H v rl) (h2_:c7 rl) (h3_:RV K H w s) (h4_:jX s) (h5_:bA rl s) (h6_:AN K H Q (K1 (sH rl s))):iN K vs H Q E_
inductive mL(K:QJ)(vs:List V)(H:Hp)(Q:VK)(E_:XK):Prop where
 |mk (v w:V) (rl:Rl) (s:R) (h0_:vs=[v,w]) (h1_:ud K H v rl) (h2_:c7 rl) (h3_:RV K H w s) (h4_:jX s) (h5_:bA rl s) (h6_:AN K H Q (bO rl s)):mL K vs H Q E_
inductive oB(K:QJ)(C:Addr)(vs:List V)(H:Hp)(Q:VK)(E_:XK):Prop where
 |mk (a:Addr) (v:V) (r:R) (h0_:vs=[.ref a,v]) (h1_:H a=some (rh a C none)) (h2_:RV K H v r) (h3_:∀(d:Addr) (u:V) (H1:Hp),ax H H1->RV K H1 u r->H1 d=none->d≠a->Q .non (upd (upd H1 a (rh a C (some d))) d (dO d [("speed",u)]))):oB K C vs H Q E_
theorem Os{B b:Int}{D:Nat}(hB:0<B)(hb:0<b)(h1:B∣(D:Int))(h2:b∣(D:Int)):0<B*(b/(Rf B b:Int))/\B*(b/(Rf B b:Int))∣(D:Int)/\B∣B*(b/(Rf B b:Int))/\b∣B*(b/(Rf B b:Int)):=by
 obtain⟨m,rfl⟩:=R3 (Ry hB);obtain⟨n,rfl⟩:=R3 (Ry hb);have e:(m:Int)*((n:Int)/(Rf m n:Int))=((Nat.lcm m n:Nat):Int):=by
  show(m:Int)*((n:Int)/((Nat.gcd m n:Nat):Int))=_;rw[←Int.natCast_ediv,←ZY];unfold Nat.lcm;rw[Nat.mul_div_assoc _ (Nat.gcd_dvd_right m n)]
 rw[e];have p:=Nat.lcm_pos (show 0<m by lia) (show 0<n by lia);exact⟨ω,SL.mpr (Nat.lcm_dvd (SL.mp h1) (SL.mp h2)),SL.mpr (Nat.dvd_lcm_left m n),SL.mpr (Nat.dvd_lcm_right m n)⟩
def rW(B:Int)(rs:List R):List Int:=rs.map λr=>r.1*(B/r.2)
abbrev Px:Uh:=⟨81,41,81,68⟩
abbrev Pu:RF:=("falling_order" : RF) ++ ".<locals>." ++ "<lambda>"
abbrev TB(H:Hp)(T:Addr):Prop:=xk H T Pu Px
def JM(rs:List R)(ms:List Nat):Prop:=ms.Perm (QM rs.length)/\ms.Pairwise λi j=>aL (rs.getD i (0,1)) (rs.getD j (0,1))=false
theorem vi(hB:0<B)(hr:0<r.2)(hq:0<q.2)(dr:r.2∣B)(dq:q.2∣B)(h:-(r.1*(B/r.2))≤-(q.1*(B/q.2))):aL r q=false:=by
 rw[fy];obtain⟨x,rfl⟩:=id dr;obtain⟨y,ey⟩:=id dq;rw[Ru _ ω] at h;rw[show r.2*x/q.2=y by rw[ey];exact Ru _ ω] at h;have h':q.1*y≤r.1*x:=ω
 have yp:0<y:=Int.pos_of_mul_pos_right (by rw[←ey];exact hB) ω;have m:=SR h' (show 0≤r.2*q.2 from Vf ω ω);refine WY (a:=r.2*x) ?_ hB;have e1:q.1*r.2*(r.2*x)=q.1*y*(r.2*q.2):=by rw[ey];ac_rfl
 grind
theorem A1(hr:0<r.2):0≤val r↔0≤r.1:=by
 have a:=bD hr (show(0:Int)<((0,1):R).2 by decide);rw[jJ] at a;rw[←a];exact yA
theorem Qi{r:R}{m:Nat}(hr:0<r.2)(h:0<m):d6 r ((m:Int),1)=aC r (1,(m:Int)):=by
 unfold d6 aC;show nS (r.1*1) (r.2*(m:Int))=cJ (r.1*1) (r.2*(m:Int));exact jp (RG hr ω)
def jY(l:List R):Prop:=l.Pairwise λa b=>aL a b=false
theorem qC:∀{l m:List R},l.Perm m->(∀r∈l,de r)->jY l->jY m->l=m
 | [],m,p,_,_,_=>UO.nil_eq p
 |a::l,[],p,_,_,_=>by have:=p.length_eq;simp at this
 |a::l,b::m,p,hr,s1,s2=>by
  have h1:=SN.mp s1;have h2:=SN.mp s2;have ra:=hr a QV;have rb:=hr b (p.mem_iff.mpr QV);have e:a=b:=by
   have ma:a∈b::m:=p.mem_iff.mp QV;have mb:b∈a::l:=p.mem_iff.mpr QV;have l1:val a≤val b:=by
    rcases Rm.mp ma with z|z
    ·grind
    ·exact(bD rb.pos ra.pos).mp (h2.1 a z)
   have l2:val b≤val a:=by
    rcases Rm.mp mb with z|z
    ·grind
    ·exact(bD ra.pos rb.pos).mp (h1.1 b z)
   exact c8 ra rb (Um l1 l2)
  subst e;rw[qC (UZ p) (λr hr'=>hr r (QX _ hr')) h1.2 h2.2]
def cH(h:Nat)(S:List R)(k:Nat):R:=d6 (bj (S.drop k)) (((h-k:Nat):Int),1)
def uX(h:Nat)(S:List R)(k:Nat):Bool:=aL (cH h S k) (S.getD k (0,1))
structure JN(h:Nat)(S:List R)(k:Nat):Prop where
 le:k≤S.length
 go:∀j,j<k->uX h S j=true
 st:k<S.length->uX h S k=false
theorem JN.uniq(a:JN h S k)(b:JN h S l):k=l:=by
 rcases Nat.lt_trichotomy k l with z|z|z
 ·have:=a.st (Q7 z b.le);rw[b.go k z] at this;cases this
 ·exact z
 ·have:=b.st (Q7 z a.le);rw[a.go l z] at this;cases this
def Am(h:Nat)(S:List R)(k:Nat):List R:=S.take k++Q0 (h-k) (cH h S k)
structure bW(S:List R):Prop where
 ok:∀r∈S,FI r
 len:S.length≤9
theorem bW.perm(h:bW S)(p:T.Perm S):bW T:=⟨λr hr=>h.ok r (p.mem_iff.mp hr),by rw[p.length_eq];exact h.len⟩
theorem bW.red(h:bW S):∀r∈S,de r:=λr hr=>(h.ok r hr).bq.red
theorem i5(h:bW S)(k:Nat):∀r∈S.drop k,de r:=λr hr=>h.red r (Sw hr)
theorem cX(h:bW S)(k:Nat):Bq DM 540 (bj (S.drop k)):=
 (jj δ λr hr=>(h.ok r (Sw hr)).bq).mono (To _) (by have:=h.len;rw[UJ];have:60*(S.length-k)≤60*9:=UC _ ω;lia)
theorem Ie(h:bW S)(k:Nat):0≤(bj (S.drop k)).1:=
 Bh (by exact⟨δ,δ⟩) δ λr hr=>⟨i5 h k r hr,Ry (h.ok r (Sw hr)).pos⟩
theorem Hm(h:0<m):Bq m 1 ((1,(m:Int)):R):=⟨by show(0:Int)<_;lia,by simp,WH _,by show(1:Int).natAbs≤1*((m:Int)).natAbs;lia⟩
theorem yE(a:bW S)(hk:k<h)(h9:h≤5):iH (cH h S k):=by
 unfold cH;have m0:0<h-k:=ω
 rw[Qi (cX a k).pos m0];refine⟨((cX a k).times (Hm m0)).mono ?_ δ,A5 (cX a k).pos (by show(0:Int)<_;lia) (Ie a k) (by show(0:Int)≤1;decide)⟩;have z:∀m:Fin 6,0<m.val->DM*m.val∣D0:=δ
 exact z ⟨h-k,ω⟩ m0
theorem iV(a:bW S)(hk:k<h):val (cH h S k)*((h-k:Nat):Rat)=gO (S.drop k):=by
 unfold cH;have ne:(((h-k:Nat):Int),(1:Int)).1≠0:=by show((h-k:Nat):Int)≠0;lia
 rw[j9 (cX a k).pos (by show(0:Int)<1;decide) ne,A0,(cF (i5 a k)).2];have nz:(((h-k:Nat):Int):Rat)≠0:=λz=>by
  simp_all
 show gO (S.drop k)/(((h-k:Nat):Int):Rat)*(((h-k:Nat):Int):Rat)=_;grind
theorem FT(h:∀r∈l,FI r):0≤gO l:=by
 induction l with
 |nil=>exact R1
 |cons a l ih=>
  have:=ih λr hr=>h r (QX _ hr)
  have b:=h a QV;have p:=(A1 b.bq.pos).mpr (Ry b.pos);show 0≤val a+gO l;grind
theorem pR{S:List R}(hk:k<S.length):gO (S.drop k)=val (S.getD k (0,1))+gO (S.drop (k+1)):=by
 rw[Vn hk,Q1,QH hk];rfl
theorem fN{S:List R}(hk:k<S.length):S.getD k (0,1)∈S:=by
 simp_all
theorem tW(a:bW S)(h1:1≤h)(le:k≤S.length)(go:∀j,j<k->uX h S j=true):k<h:=by
 rcases Nat.lt_or_ge k h with z|z
 ·exact z
 exfalso;have g:=go (h-1) ω;have hl:h-1<S.length:=ω
 have mo:=(a.ok _ (fN hl)).bq.pos;unfold uX at g;have m:=iV a (show h-1<h by lia);have mp:0<(cH h S (h-1)).2:=by
  unfold cH;exact(kQ (cX a _).pos (by show((h-(h-1):Nat):Int)≠0;lia)).pos
 have l:=(bM mp mo).mp g;rw[pR hl,show h-(h-1)=1 by lia,show((1:Nat):Rat)=1 from Z] at m;have n:=FT (l:=S.drop (h-1+1)) λr hr=>a.ok r (Sw hr)
 grind
theorem Ez(a:bW S)(hk:k<h):de (cH h S k):=kQ (cX a k).pos (by show((h-k:Nat):Int)≠0;lia)
theorem pE(a:bW S)(hk:k+1<h)(hl:k<S.length)(go:uX h S k=true):val (cH h S (k+1))≤val (S.getD k (0,1)):=by
 have l:=(bM (Ez a (show k<h by lia)).pos (a.ok _ (fN hl)).bq.pos).mp go;have m1:=iV a (show k<h by lia);have m2:=iV a hk;rw[pR hl] at m1;have e:((h-k:Nat):Rat)=((h-(k+1):Nat):Rat)+1:=by
  rw[show h-k=h-(k+1)+1 by lia,TM];rfl
 have p:0<((h-(k+1):Nat):Rat):=Uo.mpr ω;rw[e] at m1;generalize ((h-(k+1):Nat):Rat)=c at *;generalize val (cH h S k)=x at *;generalize val (cH h S (k+1))=y at *;generalize val (S.getD k (0,1))=z at *;have q:x*(c+1)<z*(c+1):=R4 l (by grind);have r:y*c<z*c:=by grind
 by_cases w:y≤z
 ·exact w
 ·have:z*c≤y*c:=RE (by grind) (by grind);grind
theorem Oz(a:bW S)(hk:k<h)(h9:h≤5):∀s∈Am h S k,iH s:=λs hs=>by
 rcases Rc.mp hs with z|z
 ·have o:=a.ok s (Sx z);exact⟨o.bq.mono δ δ,Ry o.pos⟩
 ·rw[(Uf.mp z).2];exact yE a hk h9
theorem Mo(le:k≤S.length)(hk:k<h):(Am h S k).length=h:=by
 unfold Am;grind
theorem Mn(a:bW S)(so:jY S)(al:JN h S k)(hk:k<h):∀s∈Am h S k,val s≤val ((Am h S k).getD 0 (0,1)):=by
 by_cases k0:k=0
 ·subst k0;intro s hs;have e:Am h S 0=Q0 h (cH h S 0):=by unfold Am;rw[Vg,U3];rfl
  simp_all
 ·have le:=al.le;have e0:(Am h S k).getD 0 (0,1)=S.getD 0 (0,1):=by
   unfold Am;rw[Q1,RQ (by rw[RD];lia),Vv ω,←Q1]
  have up:∀j,j<S.length->val (S.getD j (0,1))≤val (S.getD 0 (0,1)):=λj hj=>by
   by_cases j0:j=0
   ·rw[j0];exact R1
   ·have h1:S.getD 0 (0,1)=S[0]' ω:=by rw[Q1,QH ω];rfl
    have h2:S.getD j (0,1)=S[j]'hj:=by rw[Q1,QH hj];rfl
    have:=R8.mp so 0 j ω hj ω;rw[h1,h2];exact(bD (a.ok _ (Ri _)).bq.pos (a.ok _ (Ri _)).bq.pos).mp this
  intro s hs;rw[e0];rcases Rc.mp hs with z|z
  ·obtain⟨j,hj⟩:=Sb (Sx z);have jl:=(QN.mp hj).1;have:=up j jl;rw[Q1,hj] at this;exact this
  ·rw[(Uf.mp z).2];have g:=al.go (k-1) ω;have b:=pE a (k:=k-1) ω ω g;rw[show k-1+1=k by lia] at b;exact SK b (up (k-1) ω)
theorem zF(a:bW S)(hk:k<S.length):aA (bj (S.drop k)) (S.getD k (0,1))=bj (S.drop (k+1)):=by
 have o:=a.ok _ (fN hk);refine c8 (eX (cX a k).pos o.bq.pos) (cX a (k+1)).red ?_;rw[dt (cX a k).pos o.bq.pos,(cF (i5 a k)).2,(cF (i5 a (k+1))).2,pR hk];grind
theorem uk(p:l.Perm m)(h:∀r∈l,de r):bj l=bj m:=by
 have hm:∀r∈m,de r:=λr hr=>h r (p.mem_iff.mpr hr)
 refine c8 (cF h).1 (cF hm).1 ?_;rw[(cF h).2,(cF hm).2];clear h hm
 induction p with
 |nil=>rfl
 |cons x p ih=>show val x+_=val x+_;rw[ih]
 |swap x y l=>show val y+(val x+_)=val x+(val y+_);grind
 |trans _ _ i1 i2=>exact i1.trans i2
def Ak(z:R):List R->List R
 | []=>[z]
 |a::t=>if aL a z=true then z::a::t else a::Ak z t
def fR:List R->List R
 | []=>[]
 |a::t=>Ak a (fR t)
theorem mF(z:R):∀l:List R,(Ak z l).Perm (z::l)
 | []=>WZ _
 |a::t=>by
  unfold Ak
  split
  ·exact WZ _
  ·exact((mF z t).cons a).trans (aai z a t)
theorem dX:∀l:List R,(fR l).Perm l
 | []=>WZ _
 |a::t=>(mF a (fR t)).trans ((dX t).cons a)
theorem uV{z:R}(hz:0<z.2):∀{l:List R},(∀r∈l,0<r.2)->jY l->jY (Ak z l)
 | [],_,_=>VJ _ _
 |a::t,hp,h=>by
  have h':=SN.mp h;have pa:=hp a QV;have pt:∀r∈t,0<r.2:=λr hr=>hp r (QX _ hr)
  unfold Ak
  split
  ·rename_i c;refine SN.mpr ⟨λb hb=>?_,h⟩;rcases Rm.mp hb with e|hb
   ·rw[e];exact jq c
   ·have l1:=(bM pa hz).mp c;have l2:=(bD pa (pt b hb)).mp (h'.1 b hb);exact(bD hz (pt b hb)).mpr (by grind)
  ·rename_i c;refine SN.mpr ⟨λb hb=>?_,uV hz pt h'.2⟩;rcases Rm.mp ((mF z t).mem_iff.mp hb) with e|hb
   ·rw[e];simpa using c
   ·exact h'.1 b hb
theorem ki:∀{l:List R},(∀r∈l,0<r.2)->jY (fR l)
 | [],_=>Zl
 |a::t,h=>uV (h a QV) (λr hr=>h r (QX _ ((dX t).mem_iff.mp hr))) (ki λr hr=>h r (QX _ hr))
def JG(h:Nat)(S:List R):Nat:=((QM S.length).find? λk=>!uX h S k).getD S.length
theorem jg(h:Nat)(S:List R):JN h S (JG h S):=by
 unfold JG
 cases e:(QM S.length).find? λk=>!uX h S k with
 |none=>
  rw[List.find?_eq_none] at e;refine⟨QY _,λj hj=>?_,λz=>absurd z (Ss _)⟩
  simp_all
 |some k=>
  rw[List.find?_range_eq_some] at e;obtain⟨e1,e2,e3⟩:=e;refine⟨Up (Q5.mp e2),λj hj=>?_,λ_=>?_⟩
  ·have:=e3 j hj
   simpa using this
  ·show uX h S k=false
   simpa using e1
def iG(h:Nat)(rs:List R):List R:=Am h (fR rs) (JG h (fR rs))
def E5(h:Nat)(rs:List R):R:=(iG h rs).getD 0 (0,1)
theorem OA(a:bW rs)(p:S.Perm rs)(so:jY S)(al:JN h S k):Am h S k=iG h rs:=by
 have e:S=fR rs:=qC (p.trans (dX rs).symm) (λr hr=>a.red r (p.mem_iff.mp hr)) so (ki λr hr=>(a.red r hr).pos);subst e;unfold iG;rw[al.uniq (jg h (fR rs))]
theorem pY(a:bW rs)(h1:1≤h):JG h (fR rs)<h:=tW (a.perm (dX rs)) h1 (jg h _).le (jg h _).go
theorem f8(a:bW rs)(h1:1≤h)(h9:h≤5):∀s∈iG h rs,iH s:=Oz (a.perm (dX rs)) (pY a h1) h9
theorem gB(a:bW rs)(h1:1≤h):(iG h rs).length=h:=Mo (jg h _).le (pY a h1)
theorem yM(a:bW rs)(h1:1≤h):∀s∈iG h rs,val s≤val (E5 h rs):=Mn (a.perm (dX rs)) (ki λr hr=>(a.red r hr).pos) (jg h _) (pY a h1)
theorem E4(a:bW rs)(h1:1≤h):(iG h rs)[0]?=some (E5 h rs):=by
 have:=gB a h1;unfold E5;grind
theorem Mq(a:bW rs)(h1:1≤h)(h9:h≤5):iH (E5 h rs):=f8 a h1 h9 _ (QL (E4 a h1))
theorem hZ(hs:0<s.2)(hz:0<z.2)(ok:c7 rl)(l:val s≤val z)(b:bA rl z):bA rl s:=by
 cases rl with
 |pow k=>trivial
 |tab rows=>
  obtain⟨r,e,q⟩:=b;have rp:=((show bg rows from ok).sp r (QL e)).pos;exact⟨r,e,(bD rp hs).mpr (SK l ((bD rp hz).mp q))⟩
theorem qX(ok:c7 rl)(a:bW rs)(h1:1≤h)(h9:h≤5)(b:df rl (E5 h rs)=false):∀s∈iG h rs,bA rl s:=λs hs=>
 hZ (f8 a h1 h9 s hs).bq.pos (Mq a h1 h9).bq.pos ok (yM a h1 s hs) (d9 ok b)
theorem Aa(ok:c7 rl)(b:df rl s=true):¬bA rl s:=by
 cases rl with
 |pow k=>cases b
 |tab rows=>exact λz=>by rw[(iu ok).mpr z] at b;cases b
def Jg(rl:Rl)(h:Nat)(rs:List R):R:=bj ((iG h rs).map (bO rl))
theorem E8{l:List R}:(QM l.length).map (λi=>l.getD i (0,1))=l:=by
 refine List.ext_getElem? λi=>?_
 grind
theorem OG(f:JM rs ms):(ms.map λi=>rs.getD i (0,1)).Perm rs/\jY (ms.map λi=>rs.getD i (0,1)):=by
 refine⟨?_,?_⟩
 ·have:=f.1.map λi=>rs.getD i (0,1)
  rw[E8] at this;exact this
 ·unfold jY;rw[Xk];exact f.2
theorem Er{i x:Nat}(h:ls[i]?=some x):(aQ ls)[i]?=some (V.int x):=by unfold aQ;rw[Q4,h];rfl
theorem uJ:(aQ ls).length=ls.length:=QK _
theorem AO(s:ax H H')(tb:TB H T):TB H' T:=by
 rcases tb with tb | ⟨c,o,vs,tt,h1,h2,h3⟩
 ·exact .inl (s _ _ tb)
 ·exact .inr ⟨c,o,vs,tt,s _ _ h1,s _ _ h2,h3⟩
theorem TB.tbl(tb:TB H T):∃ps,H T=some (.tbl ps):=by
 rcases tb with tb | ⟨c,o,vs,tt,h1,h2,h3⟩
 ·exact⟨_,tb⟩
 ·exact⟨_,h1⟩
theorem eU{K:QJ}{T:Addr}{H H':Hp}(s:jh T H H')(tb:TB H T):ay K H H':=λp xs h=>by
 obtain⟨ps,e⟩:=tb.tbl;rcases h with h|h
 ·rcases h with h | ⟨o,h⟩
  ·exact .inl (.inl (s _ _ (λz=>by rw[z,e] at h;cases h) h))
  ·exact .inl (.inr ⟨o,s _ _ (λz=>by rw[z,e] at h;cases h) h⟩)
 ·exact .inr h
inductive iQ(K:QJ)(T:Addr)(vs:List V)(H:Hp)(Q:VK)(E_:XK):Prop where
 |mk (h:Nat) (pa:Addr) (xs:List V) (rs:List R) (h0_:vs=[.int h,.ref pa]) (h1_:cE K H pa xs) (h2_:bR (RV K H) xs rs) (h3_:bW rs) (h4_:1≤h) (h5_:h≤5) (h6_:TB H T) (h7_:∀(l:Addr) (ys:List V) (H':Hp),jh T H H'->TB H' T->H' l=some (.lst ys)->bR (RV K H') ys (iG h rs)->Q (.ref l) H'):iQ K T vs H Q E_
theorem qj{z:Int}{n:Nat}(h0:0≤z)(h:z≤(n:Int))(hn:n<2^300):z.natAbs<2^8990:=RH (show z.natAbs≤n by lia) (Q7 hn (Sa δ δ))
inductive iM(K:QJ)(vs:List V)(H:Hp)(Q:VK)(E_:XK):Prop where
 |mk (a:Addr) (xs:List V) (rs:List R) (D:Nat) (h0_:vs=[.ref a]) (h1_:PM K H a xs) (h2_:bR (RV K H) xs rs) (h3_:rs.length≤60) (h4_:0<D) (h5_:D<2^300) (h6_:(∀r∈rs,0<r.2/\r.2∣(D:Int)/\r.1.natAbs<2^8990)) (h7_:∀(l:Addr) (B:Int) (H':Hp),ax H H'->H l=none->0<B->B∣(D:Int)->(∀r∈rs,r.2∣B)->H' l=some (.lst ((rW B rs).map V.int))->Q (.ref l) H'):iM K vs H Q E_
inductive gU(K:QJ)(T:Addr)(vs:List V)(H:Hp)(Q:VK)(E_:XK):Prop where
 |mk (a:Addr) (xs:List V) (rs:List R) (D:Nat) (h0_:vs=[.ref a]) (h1_:cE K H a xs) (h2_:bR (RV K H) xs rs) (h3_:rs.length≤60) (h4_:0<D) (h5_:D<2^300) (h6_:(∀r∈rs,0<r.2/\r.2∣(D:Int)/\r.1.natAbs<2^8990)) (h7_:TB H T) (h8_:∀(l:Addr) (ms:List Nat) (H':Hp),jh T H H'->TB H' T->H l=none->JM rs ms->H' l=some (.lst (ms.map λi:Nat=>V.int i))->Q (.ref l) H'):gU K T vs H Q E_
inductive mK(K:QJ)(vs:List V)(H:Hp)(Q:VK)(E_:XK):Prop where
 |mk (v:V) (l:Addr) (rl:Rl) (ys:List V) (ss:List R) (h0_:vs=[v,.ref l]) (h1_:ud K H v rl) (h2_:c7 rl) (h3_:xp rl) (h4_:aJ K H l ys) (h5_:bR (RV K H) ys ss) (h6_:ss.length≤9) (h7_:(∀s∈ss,iH s/\bA rl s)) (h8_:AN K H Q (bj (ss.map (bO rl)))):mK K vs H Q E_
inductive jC(K:QJ)(T:Addr)(vs:List V)(H:Hp)(Q:VK)(E_:XK):Prop where
 |mk (v:V) (rl:Rl) (h:Nat) (pa:Addr) (xs:List V) (rs:List R) (h0_:vs=[v,.int h,.ref pa]) (h1_:ud K H v rl) (h2_:c7 rl) (h3_:xp rl) (h4_:cE K H pa xs) (h5_:bR (RV K H) xs rs) (h6_:bW rs) (h7_:1≤h) (h8_:h≤5) (h9_:TB H T) (h10_:df rl (E5 h rs)=false) (h11_:∀(u:V) (H':Hp),jh T H H'->TB H' T->RV K H' u (Jg rl h rs)->Q u H'):jC K T vs H Q E_
inductive mS(K:QJ)(vs:List V)(H:Hp)(Q:VK)(E_:XK):Prop where
 |mk (a:Addr) (xs:List V) (rs:List R) (h0_:vs=[.ref a]) (h1_:PM K H a xs) (h2_:M8 K H xs rs) (h3_:(∀r∈rs,Wf 98 r)) (h4_:0<rs.length) (h5_:∀(j:Nat) (v:V) (r:R),xs[j]?=some v->rs[j]?=some r->(∀q∈rs,aL r q=false)->Q v H):mS K vs H Q E_
inductive kD(K:QJ)(vs:List V)(H:Hp)(Q:VK)(E_:XK):Prop where
 |mk (v:V) (w:Wk) (t:Nat) (h0_:vs=[v,.int t]) (h1_:tX K H v w) (h2_:Q (.bl (g8 w t)) H):kD K vs H Q E_
theorem i7{k:Nat}:∀{ds:List R5},(∀d∈ds,d.depth≤k)->Yc ds≤k
 | [],_=>Rq _
 |d::ds,h=>Nat.max_le.mpr ⟨h d QV,i7 λe he=>h e (QX _ he)⟩
theorem fe{i:Nat}(h:(aQ ls)[i]?=some x):∃n,ls[i]?=some n/\x=.int (n:Nat):=by
 unfold aQ at h;rw[Q4] at h;obtain⟨n,hn,rfl⟩:=Tn.mp h;exact⟨n,hn,Z⟩
def cb(ws:List Wk)(t:Nat):Nat:=(ws.filter λw=>g8 w t).length
def f9(ws:List Wk)(fr:List Nat):List Nat:=(QM fr.length).map λt=>min (fr.getD t 0) (cb ws t)
inductive jE(K:QJ)(vs:List V)(H:Hp)(Q:VK)(E_:XK):Prop where
 |mk (a b:Addr) (xs:List V) (ws:List Wk) (fr:List Nat) (h0_:vs=[.ref a,.ref b]) (h1_:aJ K H a xs) (h2_:bR (tX K H) xs ws) (h3_:ws.length≤20) (h4_:aJ K H b (aQ fr)) (h5_:fr.length=24) (h6_:∀(l:Addr) (H':Hp),ax H H'->H l=none->H' l=some (.lst (aQ (f9 ws fr)))->Q (.ref l) H'):jE K vs H Q E_
def dD(ws:List Wk)(fr:List Nat):Nat:=(f9 ws fr).sum
def iD(ws:List Wk)(fr:List Nat):R:=aC (bj (ws.map λw=>w.2.2)) (1,(dD ws fr:Int))
inductive xW(K:QJ)(vs:List V)(H:Hp)(Q:VK)(E_:XK):Prop where
 |mk (a b:Addr) (xs:List V) (ws:List Wk) (fr:List Nat) (h0_:vs=[.ref a,.ref b]) (h1_:aJ K H a xs) (h2_:bR (tX K H) xs ws) (h3_:ws.length≤20) (h4_:(∀w∈ws,Bq 84 12 w.2.2)) (h5_:aJ K H b (aQ fr)) (h6_:fr.length=24) (h7_:0<dD ws fr) (h8_:dD ws fr≤200) (h9_:AN K H Q (iD ws fr)):xW K vs H Q E_
theorem Ep(l:List Nat):aQ l=(l.map λn:Nat=>(n:Int)).map V.int:=by unfold aQ;rw[RO];rfl
theorem xR:∀l:List Nat,(l.map λn:Nat=>(n:Int)).sum=(l.sum:Nat)
 | []=>rfl
 |a::l=>by
  rw[Rr,Sc,Sc,xR l];lia
def sm(f:Nat->Int):Nat->Int
 |0=>0
 |n+1=>sm f n+f n
theorem bZ{f g:Nat->Int}:∀{n:Nat},(∀i,i<n->f i=g i)->sm f n=sm g n
 |0,_=>rfl
 |n+1,h=>by
  show sm f n+f n=sm g n+g n;rw[bZ λi hi=>h i ω,h n ω]
theorem gv{f g:Nat->Int}:∀{n:Nat},(∀i,i<n->f i≤g i)->sm f n≤sm g n
 |0,_=>TF _
 |n+1,h=>by
  show sm f n+f n≤sm g n+g n;have:=gv (f:=f) (g:=g) (n:=n) λi hi=>h i ω
  grind
theorem kG{f g:Nat->Int}:∀{n:Nat},(∀i,i<n->f i≤g i)->sm f n=sm g n->∀i,i<n->f i=g i
 |0,_,_,i,hi=>ω
 |n+1,h,e,i,hi=>by
  have e':sm f n+f n=sm g n+g n:=e;have a:=gv (f:=f) (g:=g) (n:=n) λi hi=>h i ω
  have b:=h n ω;by_cases c:i=n
  ·subst c;lia
  ·exact kG (λi hi=>h i ω) (show sm f n=sm g n by lia) i ω
theorem lV{f g:Nat->Int}:∀n:Nat,sm (λi=>f i+g i) n=sm f n+sm g n
 |0=>rfl
 |n+1=>by
  show sm _ n+(f n+g n)=sm f n+f n+(sm g n+g n);rw[lV n];lia
theorem jN(c:Int){f:Nat->Int}:∀n:Nat,sm (λi=>c*f i) n=c*sm f n
 |0=>(VU c).symm
 |n+1=>by
  show sm _ n+c*f n=c*(sm f n+f n);rw[jN c n,Int.mul_add]
theorem ij:∀n:Nat,sm (λ_=>0) n=0
 |0=>rfl
 |n+1=>by
  show sm _ n+0=0;rw[ij n];rfl
theorem xZ(f:Nat->Nat->Int)(m:Nat):∀n:Nat,sm (λi=>sm (λt=>f i t) m) n=sm (λt=>sm (λi=>f i t) n) m
 |0=>(ij m).symm
 |n+1=>by
  show sm _ n+sm (λt=>f n t) m=sm (λt=>sm (λi=>f i t) n+f n t) m;rw[xZ f m n,lV]
theorem NC(h:∀i,i<n->0≤f i):0≤sm f n:=by
 have:=gv (f:=λ_=>0) (g:=f) (n:=n) h;rw[ij] at this;exact this
theorem sw(h:∀i,i<n->0≤f i)(hi:i<n):f i≤sm f n:=by
 induction n with
 |zero=>lia
 |succ n ih=>
  show f i≤sm f n+f n;have a:=NC (f:=f) (n:=n) λi hi=>h i ω
  grind
def iB(b:Bool)(x:Int):Int:=if b=true then x else 0
theorem Ow(x:Int):iB true x=x:=Z
theorem EX(x:Int):iB false x=0:=Z
theorem Ox(b:Bool)(f:Nat->Int)(m:Nat):iB b (sm f m)=sm (λt=>iB b (f t)) m:=by
 cases b with
 |true=>rfl
 |false=>exact(ij m).symm
structure fP where
 n:Nat
 win:Nat->Nat->Bool
 A:Nat->Int
 fr:Nat->Nat
 M:Int
def fP.cnt(N:fP)(S:Nat->Bool)(t:Nat):Int:=sm (λi=>iB (S i&&N.win i t) 1) N.n
def fP.busy(N:fP)(S:Nat->Bool)(t:Nat):Int:=min (N.fr t:Int) (N.cnt S t)
def fP.bz(N:fP)(S:Nat->Bool):Int:=sm (N.busy S) 24
def fP.am(N:fP)(S:Nat->Bool):Int:=sm (λi=>iB (S i) (N.A i)) N.n
def fP.rest(N:fP)(P:Nat->Nat->Int)(i:Nat):Int:=N.A i-sm (P i) 24
def fP.room(N:fP)(P:Nat->Nat->Int)(t:Nat):Int:=N.M*N.fr t-sm (λi=>P i t) N.n
structure nA(N:fP)(P:Nat->Nat->Int):Prop where
 m0:0≤N.M
 lo:∀i t,i<N.n->t<24->0≤P i t
 hi:∀i t,i<N.n->t<24->P i t≤N.M
 out:∀i t,i<N.n->t<24->N.win i t=false->P i t=0
 rs:∀i,i<N.n->0≤N.rest P i
 rm:∀t,t<24->0≤N.room P t
section
variable {N:fP}{P:Nat->Nat->Int}
theorem nA.col(F:nA N P)(S:Nat->Bool)(ht:t<24):sm (λi=>iB (S i) (P i t)) N.n≤N.M*N.busy S t:=by
 have a:sm (λi=>iB (S i) (P i t)) N.n≤sm (λi=>P i t) N.n:=gv λi hi=>by
  have:=F.lo i t hi ht
  cases S i with
  |true=>exact TF _
  |false=>exact this
 have b:=F.rm t ht;unfold fP.room at b;have c:sm (λi=>iB (S i) (P i t)) N.n≤N.M*N.cnt S t:=by
  unfold fP.cnt;rw[←jN];refine gv λi hi=>?_
  have h1:=F.hi i t hi ht;have h0:=F.m0
  cases c1:S i with
  |false=>show(0:Int)≤N.M*iB (false&&N.win i t) 1;rw[VM,EX,VU];exact TF _
  |true=>
   cases c2:N.win i t with
   |true=>show P i t≤N.M*1;lia
   |false=>
    have:=F.out i t hi ht c2;show P i t≤N.M*0;lia
 unfold fP.busy;grind
theorem tV(N:fP)(P:Nat->Nat->Int)(S:Nat->Bool):sm (λi=>iB (S i) (N.A i-N.rest P i)) N.n=sm (λt=>sm (λi=>iB (S i) (P i t)) N.n) 24:=by
 rw[←xZ];refine bZ λi _=>?_
 rw[←Ox]
 congr 1
 unfold fP.rest;lia
theorem nA.le(F:nA N P)(S:Nat->Bool):sm (λi=>iB (S i) (N.A i-N.rest P i)) N.n≤N.M*N.bz S:=by
 rw[tV];unfold fP.bz;rw[←jN];exact gv λt ht=>F.col S ht
structure FD(N:fP)(P:Nat->Nat->Int)(W T:Nat->Bool):Prop where
 fwd:∀i t,i<N.n->t<24->W i=true->N.win i t=true->P i t<N.M->T t=true
 full:∀t,t<24->T t=true->N.room P t=0
 bwd:∀t i,t<24->i<N.n->T t=true->0<P i t->W i=true
theorem FD.eq(C:FD N P W T)(F:nA N P):sm (λi=>iB (W i) (N.A i-N.rest P i)) N.n=N.M*N.bz W:=by
 refine Int.le_antisymm (F.le W) ?_;rw[tV];unfold fP.bz;rw[←jN];refine gv λt ht=>?_
 have m0:=F.m0
 cases c:T t with
 |true=>
  have e:sm (λi=>iB (W i) (P i t)) N.n=sm (λi=>P i t) N.n:=bZ λi hi=>by
   cases d:W i with
   |true=>rfl
   |false=>
    have h0:=F.lo i t hi ht;have:¬0<P i t:=λz=>by rw[C.bwd t i ht hi c z] at d;cases d
    show(0:Int)=P i t;lia
  have r:=C.full t ht c;unfold fP.room at r;rw[e,show sm (λi=>P i t) N.n=N.M*N.fr t by lia];exact SW (Int.min_le_left _ _) m0
 |false=>
  have e:sm (λi=>iB (W i) (P i t)) N.n=N.M*N.cnt W t:=by
   unfold fP.cnt;rw[←jN];refine bZ λi hi=>?_
   cases d:W i with
   |false=>show(0:Int)=N.M*iB (false&&N.win i t) 1;rw[VM,EX,VU]
   |true=>
    cases d2:N.win i t with
    |false=>
     have:=F.out i t hi ht d2;show P i t=N.M*0;rw[this,VU]
    |true=>
     have h1:=F.hi i t hi ht;have:¬P i t<N.M:=λz=>by rw[C.fwd i t hi ht d d2 z] at c;cases c
     show P i t=N.M*1;lia
  rw[e];exact SW (Int.min_le_right _ _) m0
theorem vx(F:nA N P)(fu:∀i,i<N.n->N.rest P i=0)(e:N.am S=N.M*N.bz S):∀t,t<24->sm (λi=>iB (S i) (P i t)) N.n=N.M*N.busy S t:=by
 refine kG (λt ht=>F.col S ht) ?_;rw[←tV,jN];show _=N.M*N.bz S;rw[←e];unfold fP.am;refine bZ λi hi=>?_
 simp_all
theorem Al{S:Nat->Bool}{f:Nat->Int}(h:∀i,i<n->0≤f i):sm (λi=>iB (S i) (f i)) n≤sm f n:=gv λi hi=>by
 have:=h i hi
 cases S i with
 |true=>exact TF _
 |false=>exact this
theorem vw(F:nA N P)(fu:∀i,i<N.n->N.rest P i=0)(e:N.am S=N.M*N.bz S):∃T:Nat->Bool,FD N P S T:=by
 have cols:=vx F fu e;refine⟨λt=>(QM N.n).any λi=>S i&&N.win i t&&decide (P i t<N.M),?_⟩;have key:∀t,t<24->(QM N.n).any (λi=>S i&&N.win i t&&decide (P i t<N.M))=true->sm (λi=>iB (S i) (P i t)) N.n=N.M*N.fr t:=λt ht h=>by
  obtain⟨i,hi,hb⟩:=We.mp h;rw[Vj,Vj,decide_eq_true_iff] at hb;have hi':=Q5.mp hi;have c:=cols t ht;have lt:sm (λi=>iB (S i) (P i t)) N.n<N.M*N.cnt S t:=by
   unfold fP.cnt;rw[←jN];have le:∀i,i<N.n->iB (S i) (P i t)≤N.M*iB (S i&&N.win i t) 1:=λi hi=>by
    have h1:=F.hi i t hi ht
    cases c1:S i with
    |false=>show(0:Int)≤N.M*iB (false&&N.win i t) 1;rw[VM,EX,VU];exact TF _
    |true=>
     cases c2:N.win i t with
     |true=>show P i t≤N.M*1;lia
     |false=>
      have:=F.out i t hi ht c2;show P i t≤N.M*0;rw[this,VU];exact TF _
   have l:=gv le;by_cases q:sm (λi=>iB (S i) (P i t)) N.n=sm (λi=>N.M*iB (S i&&N.win i t) 1) N.n
   ·have:=kG le q i hi';rw[hb.1.1,hb.1.2] at this;have e2:P i t=N.M*1:=this;have:=hb.2;lia
   ·lia
  rw[c];rw[c] at lt;unfold fP.busy at lt ⊢;lia
 refine⟨λi t hi ht w v p=>We.mpr ⟨i,Q5.mpr hi,by rw[w,v,decide_eq_true p];rfl⟩,λt ht h=>?_,λt i ht hi h p=>?_⟩
 ·have k:=key t ht h;have a:=Al (S:=S) (f:=λi=>P i t) (n:=N.n) λi hi=>F.lo i t hi ht
  have r:=F.rm t ht;unfold fP.room at r ⊢;lia
 ·have k:=key t ht h;have r:=F.rm t ht;unfold fP.room at r;have le:∀i,i<N.n->iB (S i) (P i t)≤P i t:=λi hi=>by
   have:=F.lo i t hi ht
   cases S i with
   |true=>exact TF _
   |false=>exact this
  have l:=gv le;have q:=kG le ω i hi
  cases d:S i with
  |true=>rfl
  |false=>
   rw[d,EX] at q;lia
end
inductive jv(N:fP)(P:Nat->Nat->Int)(s:Nat->Prop):Nat->Prop where
 |st {i:Nat} (hi:i<N.n) (h:s i):jv N P s i
 |fw {i t:Nat} (r:jv N P s i) (hi:i<N.n) (ht:t<24) (w:N.win i t=true) (p:P i t<N.M):jv N P s (N.n+t)
 |bw {t i:Nat} (r:jv N P s (N.n+t)) (ht:t<24) (hi:i<N.n) (p:0<P i t):jv N P s i
noncomputable def dB (p:Prop):Bool:=@decide p (UP p)
theorem jy:dB p=true↔p:=@decide_eq_true_iff p (UP p)
section
variable {N:fP}{P:Nat->Nat->Int}{s:Nat->Prop}
theorem jv.trans(a:jv N P s j)(hj:j<N.n)(b:jv N P (λi=>i=j) v):jv N P s v:=by
 induction b with
 |st hi h=>subst h;exact a
 |fw r hi ht w p ih=>exact .fw ih hi ht w p
 |bw r ht hi p ih=>exact .bw ih ht hi p
theorem jv.node(h:jv N P s v):v<N.n+24:=by
 cases h with
 |st hi _=>lia
 |fw _ _ ht _ _=>lia
 |bw _ _ hi _=>lia
noncomputable def wR (N:fP) (P:Nat->Nat->Int) (s:Nat->Prop):Nat->Bool:=λi=>dB (jv N P s i)
noncomputable def tR (N:fP) (P:Nat->Nat->Int) (s:Nat->Prop):Nat->Bool:=λt=>dB (jv N P s (N.n+t))
theorem Di(full:∀t,t<24->jv N P s (N.n+t)->N.room P t=0):FD N P (wR N P s) (tR N P s):=by
 refine⟨λi t hi ht w v p=>?_,λt ht h=>full t ht (jy.mp h),λt i ht hi h p=>?_⟩
 ·exact jy.mpr (.fw (jy.mp w) hi ht v p)
 ·exact jy.mpr (.bw (jy.mp h) ht hi p)
theorem FB(N:fP)(P:Nat->Nat->Int)(S:Nat->Bool):N.am S=sm (λi=>iB (S i) (N.A i-N.rest P i)) N.n+sm (λi=>iB (S i) (N.rest P i)) N.n:=by
 rw[←lV];unfold fP.am;refine bZ λi _=>?_
 cases S i with
 |true=>show N.A i=N.A i-N.rest P i+N.rest P i;lia
 |false=>rfl
theorem ND(F:nA N P)(full:∀t,t<24->jv N P (λi=>0<N.rest P i) (N.n+t)->N.room P t=0)(hi:i<N.n)(h:0<N.rest P i):N.M*N.bz (wR N P λi=>0<N.rest P i)<N.am (wR N P λi=>0<N.rest P i):=by
 have e:=(Di full).eq F;rw[FB N P,e];have nn:∀j,j<N.n->0≤iB (wR N P (λi=>0<N.rest P i) j) (N.rest P j):=λj hj=>by
  cases wR N P (λi=>0<N.rest P i) j with
  |true=>exact F.rs j hj
  |false=>exact TF _
 have m:=sw nn hi;have w:wR N P (λi=>0<N.rest P i) i=true:=jy.mpr (.st hi h);rw[w,Ow] at m;lia
theorem MQ(F:nA N P)(fu:∀i,i<N.n->N.rest P i=0)(S:Nat->Bool):N.am S≤N.M*N.bz S:=by
 have l:=F.le S;refine Vk (Int.le_of_eq ?_) l;unfold fP.am;refine bZ λi hi=>?_
 simp_all
noncomputable def uR (N:fP) (P:Nat->Nat->Int):Nat->Bool:=λi=>dB (∀t,t<24->jv N P (λk=>k=i) (N.n+t)->N.room P t=0)
theorem FY(F:nA N P)(fu:∀i,i<N.n->N.rest P i=0):N.am (uR N P)=N.M*N.bz (uR N P):=by
 have C:FD N P (uR N P) (λt=>dB (∃j,j<N.n/\uR N P j=true/\jv N P (λk=>k=j) (N.n+t))):=by
  refine⟨λi t hi ht w v p=>?_,λt ht h=>?_,λt i ht hi h p=>?_⟩
  ·exact jy.mpr ⟨i,hi,w,.fw (.st hi Z) hi ht v p⟩
  ·obtain⟨j,hj,u,r⟩:=jy.mp h;unfold uR at u;exact jy.mp u t ht r
  ·obtain⟨j,hj,u,r⟩:=jy.mp h;unfold uR at u ⊢;have u':=jy.mp u;have ri:jv N P (λk=>k=j) i:=.bw r ht hi p;exact jy.mpr λt' ht' r'=>u' t' ht' (ri.trans hi r')
 have e:=C.eq F;rw[←e];unfold fP.am;refine bZ λi hi=>?_
 simp_all
theorem FZ(F:nA N P)(fu:∀i,i<N.n->N.rest P i=0)(e:N.am S=N.M*N.bz S)(hi:i<N.n)(h:S i=true):uR N P i=true:=by
 obtain⟨T,C⟩:=vw F fu e;unfold uR;refine jy.mpr λt ht r=>?_
 have key:∀v,jv N P (λk=>k=i) v->(v<N.n->S v=true)/\∀t,t<24->v=N.n+t->T t=true:=λv r=>by
  induction r with
  | @st j hj hh=>
   lia
  | @fw j t' r hj ht' w p ih=>
   refine⟨λz=>ω,λt _ z=>?_⟩;obtain rfl:t'=t:=ω
   exact C.fwd j t' hj ht' (ih.1 hj) w p
  | @bw t' j r ht' hj p ih=>
   refine⟨λ_=>C.bwd t' j ht' hj (ih.2 t' ht' Z) p,λt _ z=>ω⟩
 exact C.full t ht ((key _ r).2 t ht Z)
end
structure Ps where
 ws:List Wk
 fr:List Nat
 M:Int
 A:List Int
 R:List Int
 O:List Int
 P:List (List Int)
def QD(M:Int)(li lw lr lo lp:Addr):List (RF×V):=[("inside",.ref li),("most",.int M),("whole",.ref lw),("rest",.ref lr),("room",.ref lo),("poured",.ref lp)]
structure j6 where
 a:Addr
 li:Addr
 lw:Addr
 lr:Addr
 lo:Addr
 lp:Addr
 rows:List Addr
def j6.l(p:j6):List Addr:=[p.a,p.lw,p.lr,p.lo,p.lp]++p.rows
structure ib(K:QJ)(C:Addr)(H:Hp)(p:j6)(s:Ps):Prop where
 ins:∃dx,H p.a=some (.ins C dx (QD s.M p.li p.lw p.lr p.lo p.lp))
 hi:∃xs,aJ K H p.li xs/\bR (tX K H) xs s.ws
 hw:H p.lw=some (.lst (s.A.map V.int))
 hr:H p.lr=some (.lst (s.R.map V.int))
 ho:H p.lo=some (.lst (s.O.map V.int))
 hp:H p.lp=some (.lst (p.rows.map V.ref))
 rl:p.rows.length=s.P.length
 row:∀(i:Nat) (q:Addr) (r:List Int),p.rows[i]?=some q->s.P[i]?=some r->H q=some (.lst (r.map V.int))
 nd:p.l.Nodup
 nl:p.li∉p.l
theorem ib.same{K:QJ}{C:Addr}{H H':Hp}{p:j6}{s:Ps}(h:ib K C H p s)(z:ax H H'):ib K C H' p s:=by
 obtain⟨dx,i⟩:=h.ins;obtain⟨xs,x1,x2⟩:=h.hi;exact⟨⟨dx,z _ _ i⟩,⟨xs,z.seq x1,x2.mono λ_ _ q=>q.mono (ay.same z)⟩,z _ _ h.hw,z _ _ h.hr,z _ _ h.ho,z _ _ h.hp,h.rl,λi q r a b=>z _ _ (h.row i q r a b),h.nd,h.nl⟩
structure fM(s:Ps):Prop where
 n20:s.ws.length≤20
 f24:s.fr.length=24
 wk:∀w∈s.ws,w.1≤w.2.1/\w.2.1<24
 la:s.A.length=s.ws.length
 lr:s.R.length=s.ws.length
 lo:s.O.length=24
 lp:s.P.length=s.ws.length
 row:∀r∈s.P,r.length=24
def Ps.pf(s:Ps)(i t:Nat):Int:=(s.P.getD i []).getD t 0
def Ps.net(s:Ps):fP:=⟨s.ws.length,λi t=>g8 (s.ws.getD i bI) t,λi=>s.A.getD i 0,λt=>s.fr.getD t 0,s.M⟩
theorem ib.cell{K:QJ}{C:Addr}{H:Hp}{p:j6}{s:Ps}(pv:ib K C H p s)(ok:fM s){i t:Nat}(hi:i<s.ws.length)(ht:t<24):∃(q:Addr) (r:List Int),H p.lp=some (.lst (p.rows.map V.ref))/\(p.rows.map V.ref)[i]?=some (.ref q)/\H q=some (.lst (r.map V.int))/\(r.map V.int)[t]?=some (.int (s.pf i t)):=by
 have hpl:=pv.rl;have olp:=ok.lp;have h1:i<p.rows.length:=ω
 have h2:i<s.P.length:=ω
 have e1:=QH h1;have e2:=QH h2;have lr:=ok.row _ (Ri h2);refine⟨p.rows[i],s.P[i],pv.hp,by rw[Q4,e1];rfl,pv.row i _ _ e1 e2,?_⟩;have h3:t<s.P[i].length:=ω
 rw[Q4,QH h3];unfold Ps.pf
 simp_all
def fK(s:Ps)(v:Nat):List Nat:=if s.ws.length≤v then(QM s.ws.length).filter λi=>decide (0<s.pf i (v-s.ws.length)) else((QM ((s.ws.getD v bI).2.1+1-(s.ws.getD v bI).1)).filter λk=>decide (s.pf v ((s.ws.getD v bI).1+k)<s.M)).map λk=>s.ws.length+((s.ws.getD v bI).1+k)
inductive gu(K:QJ)(C:Addr)(vs:List V)(H:Hp)(Q:VK)(E_:XK):Prop where
 |mk (p:j6) (s:Ps) (v:Nat) (h0_:vs=[.ref p.a,.int (v:Nat)]) (h1_:ib K C H p s) (h2_:fM s) (h3_:v<s.ws.length+24) (h4_:∀(l:Addr) (H':Hp),ax H H'->H l=none->H' l=some (.lst (aQ (fK s v)))->Q (.ref l) H'):gu K C vs H Q E_
theorem mz:∀{n:Nat} {l:List Nat},l.Nodup->(∀j∈l,j<n)->l.length≤n
 |0,l,_,h=>by
  cases l with
  |nil=>exact QY _
  |cons a r=>exact absurd (h a QV) ω
 |n+1,l,nd,h=>by
  have a:=mz (n:=n) (l:=l.erase n) (nd.sublist List.erase_sublist) λj hj=>by
   grind
  grind
abbrev Sl:=List (Nat×Option Nat)
def oV(o:Option Nat):V:=o.elim V.non λu=>V.int (u:Nat)
def cP(sl:Sl):List (cZ×V):=sl.map λx=>(RL (x.1:Int),oV x.2)
structure mJ(s:Ps)(ns:List Nat)(sl:Sl):Prop where
 nd:(sl.map (·.1)).Nodup
 lt:∀x∈sl,x.1<s.ws.length+24
 st:∀v∈ns,v∈sl.map (·.1)
 src:∀(i v u:Nat),sl[i]?=some (v,some u)->v∈fK s u/\∃j,j<i/\∃o,sl[j]?=some (u,o)
 root:∀v,(v,none)∈sl->v∈ns
def M6(s:Ps)(sl:Sl)(p:Nat):Prop:=∀(i v:Nat) (o:Option Nat),i<p->sl[i]?=some (v,o)->∀u∈fK s v,u∈sl.map (·.1)
theorem JP{sl:Sl}{v:Nat}:(gH (cP sl) (RL (v:Int))).isSome=decide (v∈sl.map (·.1)):=by
 induction sl with
 |nil=>rfl
 |cons x r ih=>
  by_cases c:x.1=v
  ·rw[show cP (x::r)=(RL (x.1:Int),oV x.2)::cP r from Z,fh (by rw[c]),decide_eq_true (by rw[Rr];exact Rm.mpr (.inl c.symm))];rfl
  ·rw[show cP (x::r)=(RL (x.1:Int),oV x.2)::cP r from Z,fj (λz=>c (by have:(RL (x.1:Int):cZ)=RL (v:Int):=z;injection this with this;lia)),ih];grind
theorem NY{sl:Sl}{v:Nat}(h:v∉sl.map (·.1)):fY (cP sl) (RL (v:Int)) (oV o)=cP (sl++[(v,o)]):=by
 have n:gH (cP sl) (RL (v:Int))=none:=by
  have:=JP (sl:=sl) (v:=v)
  simp_all
 rw[uA _ n];unfold cP;rw[Rb];rfl
theorem oG{s:Ps}{sl:Sl}(h:mJ s ns sl):sl.length≤s.ws.length+24:=by
 have:=mz (n:=s.ws.length+24) h.nd λj hj=>by
  obtain⟨x,hx,rfl⟩:=QZ.mp hj;exact h.lt x hx
 simp_all
theorem mJ.more{s:Ps}{sl:Sl}(h:mJ s ns sl){v u j:Nat}(hv:v<s.ws.length+24)(nv:v∉sl.map (·.1))(e:v∈fK s u)(hj:sl[j]?=some (u,o)):mJ s ns (sl++[(v,some u)]):=by
 refine⟨?_,λx hx=>?_,λw hw=>?_,λi w x hi=>?_,λw hw=>?_⟩
 ·rw[Rb,TH];exact⟨h.nd,RJ.mpr ⟨by simp,SG⟩,λa ha b hb z=>nv (by
   have hb':b=v:=by simpa using hb
   rw[←hb',←z];exact ha)⟩
 ·rcases Rc.mp hx with z|z
  ·exact h.lt x z
  ·rw[Q2.mp z];exact hv
 ·rw[Rb];exact RN _ (h.st w hw)
 ·by_cases c:i<sl.length
  ·rw[RQ c] at hi;obtain⟨a,k,hk,o',ek⟩:=h.src i w x hi;exact⟨a,k,hk,o',by rw[RQ ω];exact ek⟩
  ·rw[Tj ω] at hi;have hl:=(QN.mp hi).1;rw[Sd] at hl;have e0:i-sl.length=0:=ω
   rw[e0] at hi;have e1:(v,some u)=(w,some x):=by simpa using hi
   injection e1 with e1 e2;injection e2 with e2;subst e1 e2;have jl:=(QN.mp hj).1;exact⟨e,j,ω,o,by rw[RQ jl];exact hj⟩
 ·rcases Rc.mp hw with z|z
  ·exact h.root w z
  simp_all
theorem zt(nd:ns.Nodup)(lt:∀v∈ns,v<s.ws.length):mJ s ns (ns.map λv=>(v,none)):=by
 have e:(ns.map λv=>((v,none):Nat×Option Nat)).map (·.1)=ns:=by rw[RO];exact Ys _
 refine⟨by rw[e];exact nd,λx hx=>?_,λv hv=>by rw[e];exact hv,λi v u hi=>?_,λv hv=>?_⟩
 ·obtain⟨v,hv,rfl⟩:=QZ.mp hx;have:=lt v hv;show v<_;lia
 ·simp_all
 ·obtain⟨w,hw,q⟩:=QZ.mp hv;injection q with q _;rw[←q];exact hw
theorem MK(ok:fM s)(hv:v<s.ws.length+24)(h:u∈fK s v):u<s.ws.length+24:=by
 unfold fK at h
 split at h
 ·have:=Q5.mp (Q3.mp h).1;lia
 ·rename_i c;obtain⟨k,hk,rfl⟩:=QZ.mp h;have hk':=Q5.mp (Q3.mp hk).1;have hl:v<s.ws.length:=ω
  have:=ok.wk (s.ws.getD v bI) (by rw[aD bI (QH hl)];exact Ri hl);lia
inductive fU(K:QJ)(C:Addr)(vs:List V)(H:Hp)(Q:VK)(E_:XK):Prop where
 |mk (p:j6) (s:Ps) (a:Addr) (ns:List Nat) (h0_:vs=[.ref p.a,.ref a]) (h1_:ib K C H p s) (h2_:fM s) (h3_:aJ K H a (aQ ns)) (h4_:ns.Nodup) (h5_:(∀v∈ns,v<s.ws.length)) (h6_:∀(d:Addr) (sl:Sl) (H':Hp),ax H H'->H d=none->mJ s ns sl->M6 s sl sl.length->H' d=some (.dK (cP sl))->Q (.ref d) H'):fU K C vs H Q E_
theorem nV:g8 w t=true↔w.1≤t/\t≤w.2.1:=by
 unfold g8;lia
theorem je(ok:fM s)(hv:v<s.ws.length):u∈fK s v↔∃t,t<24/\u=s.ws.length+t/\g8 (s.ws.getD v bI) t=true/\s.pf v t<s.M:=by
 have hw:=ok.wk (s.ws.getD v bI) (by rw[aD bI (QH hv)];exact Ri hv);unfold fK;rw[if_neg ω,QZ];constructor
 ·rintro⟨k,hk,rfl⟩;obtain⟨h1,h2⟩:=Q3.mp hk;have h1:=Q5.mp h1;exact⟨_,ω,Z,nV.mpr ⟨ω,ω⟩,of_decide_eq_true h2⟩
 ·rintro⟨t,ht,rfl,h1,h2⟩;obtain⟨a,b⟩:=nV.mp h1;have e:(s.ws.getD v bI).1+(t-(s.ws.getD v bI).1)=t:=ω
  exact⟨t-(s.ws.getD v bI).1,Q3.mpr ⟨Q5.mpr ω,decide_eq_true (by rw[e];exact h2)⟩,by rw[e]⟩
theorem lF:u∈fK s (s.ws.length+t)↔u<s.ws.length/\0<s.pf u t:=by
 unfold fK
 simp_all
theorem Gm(ok:fM s)(r:jv s.net s.pf q v)(h:u∈fK s v):jv s.net s.pf q u:=by
 have vl:=r.node;change v<s.ws.length+24 at vl;by_cases c:v<s.ws.length
 ·obtain⟨t,ht,rfl,h1,h2⟩:=(je ok c).mp h;exact .fw r c ht h1 h2
 ·obtain⟨t,rfl⟩:∃t,v=s.ws.length+t:=⟨v-s.ws.length,ω⟩;obtain⟨h1,h2⟩:=lF.mp h;exact .bw r ω h1 h2
theorem xS{s:Ps}(ok:fM s){sl:Sl}(S:mJ s ns sl)(C:M6 s sl sl.length)(lt:∀v∈ns,v<s.ws.length):v∈sl.map (·.1)↔jv s.net s.pf (λi=>i∈ns) v:=by
 constructor
 ·intro h;obtain⟨x,hx,rfl⟩:=QZ.mp h;obtain⟨i,hi,rfl⟩:=Sy.mp hx;have key:∀k i (hi:i<sl.length),i<k->jv s.net s.pf (λi=>i∈ns) sl[i].1:=λk=>by
   induction k with
   |zero=>intro i _ z;lia
   |succ k ih=>
    intro i hi z;rcases he:sl[i] with⟨w,o⟩;show jv s.net s.pf _ w
    cases o with
    |none=>
     have m:=S.root w (by rw[←he];exact Ri hi);exact .st (lt w m) m
    |some u=>
     obtain⟨b,j,hj,o',ej⟩:=S.src i w u (by rw[QH hi,he]);obtain⟨jl,ej⟩:=QN.mp ej;have r:=ih j jl ω;rw[ej] at r;exact Gm ok r b
  exact key (i+1) i hi ω
 ·intro r;have step:∀v u,v∈sl.map (·.1)->u∈fK s v->u∈sl.map (·.1):=λv u hv hu=>by
   obtain⟨x,hx,rfl⟩:=QZ.mp hv;obtain⟨i,hi,rfl⟩:=Sy.mp hx;exact C i _ _ hi (QH hi) u hu
  induction r with
  |st hi h=>exact S.st _ h
  |fw r hi ht w p ih=>exact step _ _ ih ((je ok hi).mpr ⟨_,ht,Z,w,p⟩)
  |bw r ht hi p ih=>exact step _ _ ih (lF.mpr ⟨hi,p⟩)
def jK(n:Nat)(sl:Sl):List Nat:=((QM sl.length).filter λi=>decide (n≤(sl.getD i (0,none)).1)).map λi=>(sl.getD i (0,none)).1-n
theorem tF{sl:Sl}:t∈jK n sl↔n+t∈sl.map (·.1):=by
 unfold jK;rw[QZ];constructor
 ·grind
 ·intro h;obtain⟨x,hx,e⟩:=QZ.mp h;obtain⟨i,hi,rfl⟩:=Sy.mp hx;have g:sl.getD i (0,none)=sl[i]:=aD _ (QH hi);grind
inductive fG(K:QJ)(C:Addr)(vs:List V)(H:Hp)(Q:VK)(E_:XK):Prop where
 |mk (p:j6) (s:Ps) (d:Addr) (sl:Sl) (h0_:vs=[.ref p.a,.ref d]) (h1_:ib K C H p s) (h2_:fM s) (h3_:H d=some (.dK (cP sl))) (h4_:sl.length≤60) (h5_:∀(l:Addr) (ob:Obj) (H':Hp),(∀b o,b≠d->H b=some o->H' b=some o)->H' d=some (.frz ob (.dK (cP sl)))->H l=none->H' l=some (.lst (aQ (jK s.ws.length sl)))->Q (.ref l) H'):fG K C vs H Q E_
theorem Mz{sl:Sl}{i:Nat}{k:cZ}{v:V}(h:(cP sl)[i]?=some (k,v)):∃x,sl[i]?=some x/\k=RL (x.1:Int)/\v=oV x.2:=by
 unfold cP at h;rw[Q4] at h;obtain⟨x,hx,q⟩:=Tn.mp h
 simp_all
structure zh(s:Ps):Prop where
 ok:fM s
 fl:nA s.net s.pf
 rr:∀i,i<s.ws.length->s.R.getD i 0=s.net.rest s.pf i
 oo:∀t,t<24->s.O.getD t 0=s.net.room s.pf t
 am:∀i,i<s.ws.length->0<s.A.getD i 0
theorem dJ{l:List Int}(h:i<l.length):(l.map V.int)[i]?=some (.int (l.getD i 0)):=by
 simp_all
theorem A4{s:Ps}{ns:List Nat}{sl:Sl}(S:mJ s ns sl){t:Nat}(h:t∈jK s.ws.length sl):t<24:=by
 obtain⟨x,hx,e⟩:=QZ.mp (tF.mp h);have:=S.lt x hx;lia
theorem Nl{s:Ps}(F:zh s)(hv:v<s.ws.length){sl:Sl}(S:mJ s [v] sl)(C:M6 s sl sl.length):((jK s.ws.length sl).map λt=>decide (0<s.O.getD t 0)).any id=!uR s.net s.pf v:=by
 have iff:∀t,t<24->(t∈jK s.ws.length sl↔jv s.net s.pf (λk=>k=v) (s.ws.length+t)):=λt _=>by
  rw[tF,xS F.ok S C (λw hw=>by rw[Q2.mp hw];exact hv)]
  simp_all
 cases h:uR s.net s.pf v with
 |true=>
  unfold uR at h;have h':=jy.mp h;show _=false;rw[Xf];intro x hx;obtain⟨t,ht,rfl⟩:=QZ.mp hx;have tl:=A4 S ht;have z:=h' t tl ((iff t tl).mp ht);rw[←F.oo t tl] at z;rw[z];decide
 |false=>
  show _=true;apply Q9;intro no;have:uR s.net s.pf v=true:=by
   unfold uR;refine jy.mpr λt tl r=>?_
   have m:=(iff t tl).mpr r;have nn:=F.fl.rm t tl;rw[←F.oo t tl] at nn ⊢;apply Q9;intro nz;exact no (We.mpr ⟨_,QZ.mpr ⟨t,m,Z⟩,decide_eq_true ω⟩)
  grind
inductive eN(K:QJ)(C:Addr)(vs:List V)(H:Hp)(Q:VK)(E_:XK):Prop where
 |mk (p:j6) (s:Ps) (v:Nat) (h0_:vs=[.ref p.a,.int (v:Nat)]) (h1_:ib K C H p s) (h2_:zh s) (h3_:v<s.ws.length) (h4_:∀H',ax H H'->Q (.bl (!uR s.net s.pf v)) H'):eN K C vs H Q E_
def EA(s:Ps)(u v:Nat):Int:=if u<s.ws.length then s.M-s.pf u (v-s.ws.length) else s.pf v (u-s.ws.length)
def M0(s:Ps)(u v:Nat):Prop:=(u<s.ws.length/\s.ws.length≤v/\v<s.ws.length+24)∨(s.ws.length≤u/\u<s.ws.length+24/\v<s.ws.length)
inductive dP(K:QJ)(C:Addr)(vs:List V)(H:Hp)(Q:VK)(E_:XK):Prop where
 |mk (p:j6) (s:Ps) (u v:Nat) (h0_:vs=[.ref p.a,.int (u:Nat),.int (v:Nat)]) (h1_:ib K C H p s) (h2_:fM s) (h3_:M0 s u v) (h4_:Q (.int (EA s u v)) H):dP K C vs H Q E_
def nj(P:List (List Int))(i t:Nat)(x:Int):List (List Int):=P.set i ((P.getD i []).set t x)
def Ps.mv(s:Ps)(u v:Nat)(a:Int):Ps:=if u<s.ws.length then { s with P:=nj s.P u (v-s.ws.length) (s.pf u (v-s.ws.length)+a)} else { s with P:=nj s.P v (u-s.ws.length) (s.pf v (u-s.ws.length)-a)}
def pZ(p:j6)(H H':Hp):Prop:=∀b o,b∉p.l->H b=some o->H' b=some o
theorem pZ.of(z:ax H H'):pZ p H H':=λb o _ h=>z b o h
theorem pZ.trans(a:pZ p H H1)(b:pZ p H1 H2):pZ p H H2:=λc o n h=>b c o n (a c o n h)
theorem j6.row_mem{p:j6}{i:Nat}(h:p.rows[i]?=some q):q∈p.l:=Rh _ (QL h)
theorem pZ.up(h:q∈p.l)(o:HO):pZ p H (upd H q o):=λb o' n e=>by
 have nb:b≠q:=λz=>n (by rw[z];exact h)
 rw[ai nb];exact e
section
variable {K:QJ}{C:Addr}{H:Hp}{p:j6}{s:Ps}
theorem ib.kind(pv:ib K C H p s)(h:b∈p.l):(∃dx fs,H b=some (.ins C dx fs))∨∃xs,H b=some (.lst xs):=by
 obtain⟨dx,e⟩:=pv.ins;have h':b=p.a∨b=p.lw∨b=p.lr∨b=p.lo∨b=p.lp∨b∈p.rows:=by
  unfold j6.l at h
  simpa [or_assoc] using h
 rcases h' with rfl|rfl|rfl|rfl|rfl|h
 ·exact .inl ⟨_,_,e⟩
 ·exact .inr ⟨_,pv.hw⟩
 ·exact .inr ⟨_,pv.hr⟩
 ·exact .inr ⟨_,pv.ho⟩
 ·exact .inr ⟨_,pv.hp⟩
 ·obtain⟨i,hi,rfl⟩:=Sy.mp h;have:=pv.rl;exact .inr ⟨_,pv.row i _ _ (QH hi) (QH ω)⟩
theorem ib.nds(pv:ib K C H p s):p.a≠p.lw/\p.a≠p.lr/\p.a≠p.lo/\p.a≠p.lp/\p.lw≠p.lr/\p.lw≠p.lo/\p.lw≠p.lp/\p.lr≠p.lo/\p.lr≠p.lp/\p.lo≠p.lp/\(∀q∈p.rows,q≠p.a/\q≠p.lw/\q≠p.lr/\q≠p.lo/\q≠p.lp)/\p.rows.Nodup:=by
 have h:=pv.nd;unfold j6.l at h;simp only[Wb,U3,RJ,Rm,not_or] at h;obtain⟨⟨a1,a2,a3,a4,a5⟩,⟨b1,b2,b3,b4⟩,⟨c1,c2,c3⟩,⟨d1,d2⟩,e1,f⟩:=h;exact⟨a1,a2,a3,a4,b1,b2,b3,c1,c2,d1,λq hq=>⟨λz=>a5 (z▸hq),λz=>b4 (z▸hq),λz=>c3 (z▸hq),λz=>d2 (z▸hq),λz=>e1 (z▸hq)⟩,f⟩
theorem ib.up(pv:ib K C H p s)(m:q∈p.l)(e:H q=some (.lst xs))(ys:List V)(R' O':List Int)(P':List (List Int))(rl:P'.length=s.P.length)
  (hr:upd H q (.lst ys) p.lr=some (.lst (R'.map V.int))) (ho:upd H q (.lst ys) p.lo=some (.lst (O'.map V.int))) (hw:upd H q (.lst ys) p.lw=some (.lst (s.A.map V.int))) (hp:upd H q (.lst ys) p.lp=some (.lst (p.rows.map V.ref)))
  (row:∀(i:Nat) (b:Addr) (r:List Int),p.rows[i]?=some b->P'[i]?=some r->upd H q (.lst ys) b=some (.lst (r.map V.int))):ib K C (upd H q (.lst ys)) p { s with R:=R',O:=O',P:=P'}:=by
 obtain⟨dx,i⟩:=pv.ins;obtain⟨xw,x1,x2⟩:=pv.hi;have na:p.a≠q:=λz=>by rw[z,e] at i;cases i
 have nl:p.li≠q:=λz=>pv.nl (z▸m)
 have t:=ay.up (K:=K) e ys;refine⟨⟨dx,by rw[ai na];exact i⟩,⟨xw,?_,x2.mono λ_ _ z=>z.mono t⟩,hw,hr,ho,hp,pv.rl.trans rl.symm,row,pv.nd,pv.nl⟩;rcases x1 with(g | ⟨o,g⟩)|g
 ·exact .inl (.inl (by rw[ai nl];exact g))
 ·exact .inl (.inr ⟨o,by rw[ai nl];exact g⟩)
 ·exact .inr g
theorem ib.setR(pv:ib K C H p s)(R':List Int):ib K C (upd H p.lr (.lst (R'.map V.int))) p { s with R:=R'}/\pZ p H (upd H p.lr (.lst (R'.map V.int))):=by
 obtain⟨n1,n2,n3,n4,n5,n6,n7,n8,n9,n10,nr,_⟩:=pv.nds;have m:p.lr∈p.l:=by simp[j6.l]
 refine⟨pv.up m pv.hr _ R' s.O s.P Z aa (by rw[ai n8.symm];exact pv.ho) (by rw[ai n5];exact pv.hw) (by rw[ai n9.symm];exact pv.hp) (λi b r h1 h2=>?_),pZ.up m _⟩;rw[ai (nr b (QL h1)).2.2.1];exact pv.row i b r h1 h2
theorem ib.setO(pv:ib K C H p s)(O':List Int):ib K C (upd H p.lo (.lst (O'.map V.int))) p { s with O:=O'}/\pZ p H (upd H p.lo (.lst (O'.map V.int))):=by
 obtain⟨n1,n2,n3,n4,n5,n6,n7,n8,n9,n10,nr,_⟩:=pv.nds;have m:p.lo∈p.l:=by simp[j6.l]
 refine⟨pv.up m pv.ho _ s.R O' s.P Z (by rw[ai n8];exact pv.hr) aa (by rw[ai n6];exact pv.hw) (by rw[ai n10.symm];exact pv.hp) (λi b r h1 h2=>?_),pZ.up m _⟩;rw[ai (nr b (QL h1)).2.2.2.1];exact pv.row i b r h1 h2
theorem ib.setRow(pv:ib K C H p s)(hq:p.rows[j]?=some q)(r':List Int):ib K C (upd H q (.lst (r'.map V.int))) p { s with P:=s.P.set j r'}/\pZ p H (upd H q (.lst (r'.map V.int))):=by
 obtain⟨n1,n2,n3,n4,n5,n6,n7,n8,n9,n10,nr,nd⟩:=pv.nds;have m:=j6.row_mem hq;have hj:=(QN.mp hq).1;obtain⟨m1,m2,m3,m4,m5⟩:=nr q (QL hq);have rl:=pv.rl;have e:=pv.row j q _ hq (QH ω);refine⟨pv.up m e _ s.R s.O (s.P.set j r') (Ts ..) (by rw[ai m3.symm];exact pv.hr) (by rw[ai m4.symm];exact pv.ho) (by rw[ai m2.symm];exact pv.hw) (by rw[ai m5.symm];exact pv.hp) (λi b r h1 h2=>?_),pZ.up m _⟩;by_cases c:i=j
 ·subst c;rw[hq] at h1
  cases h1
  rw[SQ ω] at h2
  cases h2
  exact aa
 ·rw[Si (SO c)] at h2;have nb:b≠q:=λz=>by
   obtain⟨k1,e1⟩:=QN.mp h1;obtain⟨k2,e2⟩:=QN.mp hq;exact c ((TY nd).mp (e1.trans (z.trans e2.symm)))
  rw[ai nb];exact pv.row i b r h1 h2
end
inductive iA(K:QJ)(C:Addr)(vs:List V)(H:Hp)(Q:VK)(E_:XK):Prop where
 |mk (p:j6) (s:Ps) (u v:Nat) (a:Int) (h0_:vs=[.ref p.a,.int (u:Nat),.int (v:Nat),.int a]) (h1_:ib K C H p s) (h2_:fM s) (h3_:M0 s u v) (h4_:∀H',pZ p H H'->ib K C H' p (s.mv u v a)->Q .non H'):iA K C vs H Q E_
theorem su{f:Nat->Int}{m:Nat}{d:Int}:∀{n:Nat},sm (λi=>f i+if i=m then d else 0) n=sm f n+if m<n then d else 0
 |0=>by show(0:Int)=0+_;rw[if_neg ω];rfl
 |n+1=>by
  show sm _ n+(f n+if n=m then d else 0)=sm f n+f n+_;rw[su (n:=n)];lia
theorem Hb(hi:i<P.length)(ht:t<(P.getD i []).length):((nj P i t x).getD i' []).getD t' 0=if i'=i/\t'=t then x else(P.getD i' []).getD t' 0:=by
 unfold nj;by_cases c:i'=i
 ·subst c;have e:(P.set i' ((P.getD i' []).set t x)).getD i' []=(P.getD i' []).set t x:=aD [] (SQ hi);rw[e];by_cases c2:t'=t
  ·simp_all
  ·rw[if_neg (λz=>c2 z.2),Q1,Si (SO c2),←Q1]
 ·rw[if_neg (λz=>c z.1),Q1 (l:=P.set _ _),Si (SO c),←Q1]
theorem Bt:(nj P i t x).length=P.length:=Ts ..
theorem Bs(h:∀r∈P,r.length=24)(hi:i<P.length):∀r∈nj P i t x,r.length=24:=λr hr=>by
 rcases Vo hr with z|z
 ·exact h r z
 simp_all
structure xn(s s':Ps):Prop where
 ws:s'.ws=s.ws
 fr:s'.fr=s.fr
 M:s'.M=s.M
 A:s'.A=s.A
theorem xn.refl(s:Ps):xn s s:=⟨Z,Z,Z,Z⟩
theorem xn.trans(x:xn a b)(y:xn b c):xn a c:=⟨y.ws.trans x.ws,y.fr.trans x.fr,y.M.trans x.M,y.A.trans x.A⟩
theorem xn.net(x:xn s s'):s'.net=s.net:=by unfold Ps.net;rw[x.ws,x.fr,x.M,x.A]
theorem Op(ok:fM s)(a:Int)(e:M0 s u v):∃(i t:Nat) (d:Int),i<s.ws.length/\t<24/\((u=i/\v=s.ws.length+t/\d=a)∨(u=s.ws.length+t/\v=i/\d=-a))∧
  (∀i' t',(s.mv u v a).pf i' t'=s.pf i' t'+if i'=i/\t'=t then d else 0)/\fM (s.mv u v a)/\xn s (s.mv u v a)/\(s.mv u v a).R=s.R/\(s.mv u v a).O=s.O:=by
 have lp:=ok.lp;have key:∀(i t:Nat) (d:Int),i<s.ws.length->t<24->(∀i' t',((nj s.P i t (s.pf i t+d)).getD i' []).getD t' 0=s.pf i' t'+if i'=i/\t'=t then d else 0)/\fM { s with P:=nj s.P i t (s.pf i t+d)}:=λi t d hi ht=>by
  have hl:i<s.P.length:=ω
  have h24:(s.P.getD i []).length=24:=by rw[aD [] (QH hl)];exact ok.row _ (Ri hl)
  refine⟨λi' t'=>?_,⟨ok.n20,ok.f24,ok.wk,ok.la,ok.lr,ok.lo,Bt.trans ok.lp,Bs ok.row hl⟩⟩;rw[Hb hl ω];by_cases c:i'=i/\t'=t
  ·rw[if_pos c,if_pos c,c.1,c.2]
  ·rw[if_neg c,if_neg c,Zy];rfl
 rcases e with⟨h1,h2,h3⟩ | ⟨h1,h2,h3⟩
 ·obtain⟨t,rfl⟩:∃t,v=s.ws.length+t:=⟨v-s.ws.length,ω⟩;obtain⟨k1,k2⟩:=key u t a h1 ω;have ev:s.mv u (s.ws.length+t) a={ s with P:=nj s.P u t (s.pf u t+a)}:=by
   unfold Ps.mv;rw[if_pos h1,show s.ws.length+t-s.ws.length=t by lia]
  rw[ev];exact⟨u,t,a,h1,ω,.inl ⟨Z,Z,Z⟩,k1,k2,⟨Z,Z,Z,Z⟩,Z,Z⟩
 ·obtain⟨t,rfl⟩:∃t,u=s.ws.length+t:=⟨u-s.ws.length,ω⟩;obtain⟨k1,k2⟩:=key v t (-a) h3 ω;have ev:s.mv (s.ws.length+t) v a={ s with P:=nj s.P v t (s.pf v t+-a)}:=by
   unfold Ps.mv;rw[if_neg ω,show s.ws.length+t-s.ws.length=t by lia,Int.sub_eq_add_neg]
  rw[ev];exact⟨v,t,-a,h3,ω,.inr ⟨Z,Z,Z⟩,k1,k2,⟨Z,Z,Z,Z⟩,Z,Z⟩
def t9(s:Ps)(way:List Nat)(a:Int):Nat->Ps
 |0=>s
 |j+1=>(t9 s way a j).mv (way.getD (j+1) 0) (way.getD j 0) a
structure FM(s:Ps)(way:List Nat):Prop where
 nd:way.Nodup
 ed:∀j,j+1<way.length->way.getD j 0∈fK s (way.getD (j+1) 0)
 lt:∀j,j<way.length->way.getD j 0<s.ws.length+24
theorem tP(ok:fM s)(hu:u<s.ws.length+24)(h:v∈fK s u):M0 s u v:=by
 by_cases c:u<s.ws.length
 ·obtain⟨t,ht,rfl,_,_⟩:=(je ok c).mp h;exact .inl ⟨c,ω,ω⟩
 ·obtain⟨t,rfl⟩:∃t,u=s.ws.length+t:=⟨u-s.ws.length,ω⟩;exact .inr ⟨ω,hu,(lF.mp h).1⟩
theorem FM.inj(W:FM s way)(hi:i<way.length)(hj:j<way.length)(e:way.getD i 0=way.getD j 0):i=j:=by
 rw[aD 0 (QH hi),aD 0 (QH hj)] at e;exact(TY W.nd).mp e
def hJ(p:Prop)[Decidable p](a:Int):Int:=if p then a else 0
structure Qn(s:Ps)(way:List Nat)(a:Int)(j:Nat)(s':Ps):Prop where
 ok:fM s'
 sm:xn s s'
 R:s'.R=s.R
 O:s'.O=s.O
 row:∀i,i<s.ws.length->My.sm (s'.pf i) 24=My.sm (s.pf i) 24+hJ (way.getD j 0=i) a-hJ (way.getD 0 0=i) a
 col:∀t,t<24->My.sm (λi=>s'.pf i t) s.ws.length=My.sm (λi=>s.pf i t) s.ws.length+hJ (way.getD 0 0=s.ws.length+t) a-hJ (way.getD j 0=s.ws.length+t) a
 cell:∀i t,i<s.ws.length->t<24->s'.pf i t=s.pf i t∨(∃k,k<j/\way.getD (k+1) 0=i/\way.getD k 0=s.ws.length+t/\s'.pf i t=s.pf i t+a)∨(∃k,k<j/\way.getD (k+1) 0=s.ws.length+t/\way.getD k 0=i/\s'.pf i t=s.pf i t-a)
theorem Pr{s:Ps}(ok:fM s){way:List Nat}(W:FM s way)(a:Int):∀j,j<way.length->Qn s way a j (t9 s way a j)
 |0,_=>⟨ok,.refl s,Z,Z,λi _=>by rw[show t9 s way a 0=s from Z];lia,λt _=>by rw[show t9 s way a 0=s from Z];lia,λ_ _ _ _=>.inl Z⟩
 |j+1,hj=>by
  have ih:=Pr ok W a j ω;have ed:=tP ok (W.lt (j+1) hj) (W.ed j hj);have ed':M0 (t9 s way a j) (way.getD (j+1) 0) (way.getD j 0):=by unfold M0 at ed ⊢;rw[ih.sm.ws];exact ed
  obtain⟨i,t,d,hi,ht,cs,pf,ok',sm',R',O'⟩:=Op ih.ok a ed';rw[ih.sm.ws] at hi cs;show Qn s way a (j+1) ((t9 s way a j).mv (way.getD (j+1) 0) (way.getD j 0) a);refine⟨ok',ih.sm.trans sm',R'.trans ih.R,O'.trans ih.O,λi' hi'=>?_,λt' ht'=>?_,λi' t' hi' ht'=>?_⟩
  ·have e:sm (((t9 s way a j).mv (way.getD (j+1) 0) (way.getD j 0) a).pf i') 24=sm ((t9 s way a j).pf i') 24+hJ (way.getD (j+1) 0=i') a-hJ (way.getD j 0=i') a:=by
    rw[bZ (g:=λt'=>(t9 s way a j).pf i' t'+if t'=t then(if i'=i then d else 0) else 0) λt' _=>by
     rw[pf i' t']
     congr 1
     by_cases c1:i'=i<;>by_cases c2:t'=t<;>simp[c1,c2]]
    rw[su,if_pos ht];unfold hJ;lia
   rw[e,ih.row i' hi'];lia
  ·have e:sm (λi'=>((t9 s way a j).mv (way.getD (j+1) 0) (way.getD j 0) a).pf i' t') s.ws.length=sm (λi'=>(t9 s way a j).pf i' t') s.ws.length+hJ (way.getD j 0=s.ws.length+t') a-hJ (way.getD (j+1) 0=s.ws.length+t') a:=by
    rw[bZ (g:=λi'=>(t9 s way a j).pf i' t'+if i'=i then(if t'=t then d else 0) else 0) λi' _=>by
     rw[pf i' t']
     congr 1
     by_cases c1:i'=i<;>by_cases c2:t'=t<;>simp[c1,c2]]
    rw[su,if_pos hi];unfold hJ;lia
   rw[e,ih.col t' ht'];lia
  ·rw[pf i' t'];by_cases c:i'=i/\t'=t
   ·obtain⟨rfl,rfl⟩:=c;rw[if_pos ⟨Z,Z⟩];have base:(t9 s way a j).pf i' t'=s.pf i' t':=by
     rcases ih.cell i' t' hi' ht' with z | ⟨k,hk,z1,z2,_⟩ | ⟨k,hk,z1,z2,_⟩
     ·exact z
     ·exfalso;rcases cs with⟨c1,c2,_⟩ | ⟨c1,c2,_⟩
      ·have:=W.inj (i:=k+1) (j:=j+1) ω hj ω;lia
      ·have:=W.inj (i:=k+1) (j:=j) ω ω ω;have:=W.inj (i:=k) (j:=j+1) ω hj ω;lia
     ·exfalso;rcases cs with⟨c1,c2,_⟩ | ⟨c1,c2,_⟩
      ·have:=W.inj (i:=k+1) (j:=j) ω ω ω;have:=W.inj (i:=k) (j:=j+1) ω hj ω;lia
      ·have:=W.inj (i:=k+1) (j:=j+1) ω hj ω;lia
    rw[base];rcases cs with⟨c1,c2,c3⟩ | ⟨c1,c2,c3⟩
    ·exact .inr (.inl ⟨j,ω,c1,c2,by rw[c3]⟩)
    ·exact .inr (.inr ⟨j,ω,c1,c2,by rw[c3];lia⟩)
   ·rw[if_neg c,Zy];rcases ih.cell i' t' hi' ht' with z | ⟨k,hk,z⟩ | ⟨k,hk,z⟩
    ·exact .inl z
    ·exact .inr (.inl ⟨k,ω,z⟩)
    ·exact .inr (.inr ⟨k,ω,z⟩)
theorem pJ{l:List Int}(hi:i<l.length):(l.set i x).getD j 0=if j=i then x else l.getD j 0:=by
 grind
def Ps.less(s:Ps)(tn la:Nat)(a:Int):Ps:={ s with O:=s.O.set tn (s.O.getD tn 0-a),R:=s.R.set la (s.R.getD la 0-a)}
theorem yI(ok:fM s)(tn la:Nat)(a:Int):fM (s.less tn la a):=⟨ok.n20,ok.f24,ok.wk,ok.la,(Ts ..).trans ok.lr,(Ts ..).trans ok.lo,ok.lp,ok.row⟩
theorem OP(F:zh s)(W:FM s way)(l0:0<way.length)(ht:tn<24)(h0:way.getD 0 0=s.ws.length+tn)(hla:la<s.ws.length)(hl:way.getD (way.length-1) 0=la)(a0:0<a)(ao:a≤s.O.getD tn 0)(ar:a≤s.R.getD la 0)
  (am:∀j,j+1<way.length->a≤EA s (way.getD (j+1) 0) (way.getD j 0)):zh (t9 (s.less tn la a) way a (way.length-1))/\xn s (t9 (s.less tn la a) way a (way.length-1))/\(t9 (s.less tn la a) way a (way.length-1)).R=s.R.set la (s.R.getD la 0-a):=by
 have ok:=F.ok;have W1:FM (s.less tn la a) way:=⟨W.nd,W.ed,W.lt⟩;have m:=Pr (yI ok tn la a) W1 a (way.length-1) ω;generalize t9 (s.less tn la a) way a (way.length-1)=s' at m ⊢;have sb:xn s s':=⟨m.sm.ws,m.sm.fr,m.sm.M,m.sm.A⟩;have nt:=sb.net;have lo:=ok.lo;have lr:=ok.lr;have row:∀i,i<s.ws.length->s.net.rest s'.pf i=s.net.rest s.pf i-hJ (i=la) a:=λi hi=>by
  have r:=m.row i hi;rw[hl,h0] at r;unfold fP.rest;rw[r];show s.A.getD i 0-(sm (s.pf i) 24+_-_)=s.A.getD i 0-sm (s.pf i) 24-_;unfold hJ;lia
 have col:∀t,t<24->s.net.room s'.pf t=s.net.room s.pf t-hJ (t=tn) a:=λt h=>by
  have r:=m.col t h;rw[hl,h0] at r;unfold fP.room;show s.M*(s.fr.getD t 0:Nat)-sm (λi=>s'.pf i t) s.ws.length=s.M*(s.fr.getD t 0:Nat)-sm (λi=>s.pf i t) s.ws.length-_;have r':sm (λi=>s'.pf i t) s.ws.length=sm (λi=>s.pf i t) s.ws.length+hJ (s.ws.length+tn=s.ws.length+t) a-hJ (la=s.ws.length+t) a:=r;rw[r'];unfold hJ;rw[if_neg (show ¬la=s.ws.length+t by lia)];by_cases c:t=tn
  ·rw[if_pos c,if_pos ω];lia
  ·rw[if_neg c,if_neg ω];lia
 have eR:s'.R=s.R.set la (s.R.getD la 0-a):=m.R;have eO:s'.O=s.O.set tn (s.O.getD tn 0-a):=m.O;have bnd:∀i t,i<s.ws.length->t<24->0≤s'.pf i t/\s'.pf i t≤s.M/\(g8 (s.ws.getD i bI) t=false->s'.pf i t=0):=λi t hi h=>by
  have b0:0≤s.pf i t:=F.fl.lo i t hi h;have b1:s.pf i t≤s.M:=F.fl.hi i t hi h;have b2:g8 (s.ws.getD i bI) t=false->s.pf i t=0:=F.fl.out i t hi h;rcases m.cell i t hi h with z | ⟨k,hk,z1,z2,z3⟩ | ⟨k,hk,z1,z2,z3⟩
  ·have z':s'.pf i t=s.pf i t:=z;rw[z'];exact⟨b0,b1,b2⟩
  ·have z2':way.getD k 0=s.ws.length+t:=z2;have z3':s'.pf i t=s.pf i t+a:=z3;have q:=am k ω;have e:=W.ed k ω;rw[z1,z2'] at q e;unfold EA at q;rw[if_pos hi,show s.ws.length+t-s.ws.length=t by lia] at q;obtain⟨t',_,e1,e2,_⟩:=(je ok hi).mp e;obtain rfl:t=t':=ω
   rw[z3'];refine⟨ω,ω,λz=>?_⟩;rw[z] at e2
   cases e2
  ·have z1':way.getD (k+1) 0=s.ws.length+t:=z1;have z3':s'.pf i t=s.pf i t-a:=z3;have q:=am k ω;rw[z1',z2] at q;unfold EA at q;rw[if_neg ω,show s.ws.length+t-s.ws.length=t by lia] at q;rw[z3'];refine⟨ω,ω,λz=>?_⟩;have:=b2 z;lia
 refine⟨⟨m.ok,?_,λi hi=>?_,λt h=>?_,λi hi=>?_⟩,sb,eR⟩
 ·rw[nt];refine⟨F.fl.m0,λi t hi h=>(bnd i t hi h).1,λi t hi h=>(bnd i t hi h).2.1,λi t hi h=>(bnd i t hi h).2.2,λi hi=>?_,λt h=>?_⟩
  ·rw[row i hi];have z:=F.fl.rs i hi;have rr:=F.rr i hi;unfold hJ;by_cases c:i=la
   ·subst c;rw[if_pos Z];lia
   ·rw[if_neg c];lia
  ·rw[col t h];have z:=F.fl.rm t h;have oo:=F.oo t h;unfold hJ;by_cases c:t=tn
   ·subst c;rw[if_pos Z];lia
   ·rw[if_neg c];lia
 ·rw[sb.ws] at hi;rw[nt,row i hi,eR,pJ ω];have rr:=F.rr i hi;unfold hJ;by_cases c:i=la
  ·subst c;rw[if_pos Z,if_pos Z];lia
  ·rw[if_neg c,if_neg c];lia
 ·rw[nt,col t h,eO,pJ ω];have oo:=F.oo t h;unfold hJ;by_cases c:t=tn
  ·subst c;rw[if_pos Z,if_pos Z];lia
  ·rw[if_neg c,if_neg c];lia
 ·rw[sb.ws] at hi;rw[sb.A];exact F.am i hi
def Ps.mu(s:Ps):Nat:=(sm (λi=>s.R.getD i 0) s.ws.length).toNat
theorem HM{s s':Ps}(F:zh s)(hla:la<s.ws.length)(a0:0<a)(ar:a≤s.R.getD la 0)(e:s'.R=s.R.set la (s.R.getD la 0-a))(w:s'.ws=s.ws):s'.mu<s.mu:=by
 have lr:=F.ok.lr;unfold Ps.mu;rw[w,bZ (f:=λi=>s'.R.getD i 0) (g:=λi=>s.R.getD i 0+if i=la then -a else 0) λi hi=>by
  rw[e,pJ ω];by_cases c:i=la
  ·grind
  ·rw[if_neg c,if_neg c];lia]
 rw[su,if_pos hla];have h:=sw (f:=λi=>s.R.getD i 0) (n:=s.ws.length) (i:=la) (λi hi=>by
  have r:=F.rr i hi;have z:=F.fl.rs i hi;show 0≤s.R.getD i 0;lia) hla
 lia
theorem EG(h:0<way.length):uc (aQ way) (-1)=some (.int ((way.getD (way.length-1) 0:Nat):Int)):=by
 have ne:way≠[]:=λz=>by rw[z] at h;exact absurd h δ
 have e:=Wq ne;have e2:way.getLast ne=way.getD (way.length-1) 0:=by
  rw[List.getLast_eq_getElem,aD 0 (QH ω)]
 rw[←e2];have e3:aQ way=aQ way.dropLast++[V.int ((way.getLast ne:Nat):Int)]:=by
  rw[show aQ way=aQ (way.dropLast++[way.getLast ne]) by rw[e]];unfold aQ;rw[Rb];rfl
 rw[e3];exact pW _ _
theorem rZ:∀{sl:Sl} {m v:Nat} {o:Option Nat},(sl.map (·.1)).Nodup->sl[m]?=some (v,o)->gH (cP sl) (RL (v:Int))=some (oV o)
 | [],m,v,o,_,h=>nomatch h
 |x::r,0,v,o,_,h=>by
  have h':some x=some (v,o):=h;injection h' with h';subst h';exact fh (p:=((RL (v:Int):cZ),oV o)) rfl
 |x::r,m+1,v,o,nd,h=>by
  have h':r[m]?=some (v,o):=h;rw[Rr,RJ] at nd;have ne:x.1≠v:=λz=>nd.1 (z▸QZ.mpr ⟨_,QL h',Z⟩)
  rw[show cP (x::r)=(RL (x.1:Int),oV x.2)::cP r from Z,fj (λz=>ne (by have:(RL (x.1:Int):cZ)=RL (v:Int):=z;injection this with this;lia))];exact rZ nd.2 h'
theorem J4{sl:Sl}(nd:(sl.map (·.1)).Nodup){i j v:Nat}(h1:sl[i]?=some (v,o))(h2:sl[j]?=some (v,o')):i=j:=by
 obtain⟨a,e1⟩:=QN.mp h1;obtain⟨b,e2⟩:=QN.mp h2;have:=(TY (i:=i) (j:=j) (h₀:=by rw[QK];exact a) (h₁:=by rw[QK];exact b) nd).mp (by rw[UN,UN,e1,e2]);exact this
theorem iZ{α:Type}{l:List α}{x d:α}{j:Nat}(h:j<l.length):(l++[x]).getD j d=l.getD j d:=by
 grind
theorem jG{α:Type}{l:List α}{x d:α}:(l++[x]).getD l.length d=x:=by
 simp_all
theorem FM.more(W:FM s way)(l:0<way.length)(nu:u∉way)(e:way.getD (way.length-1) 0∈fK s u)(hu:u<s.ws.length+24):FM s (way++[u]):=by
 refine⟨?_,λj hj=>?_,λj hj=>?_⟩
 ·rw[TH];exact⟨W.nd,RJ.mpr ⟨(λz=>nomatch z),SG⟩,λa ha b hb z=>nu (by
   rw[←Q2.mp hb,←z];exact ha)⟩
 ·rw[Q8,Sd] at hj;by_cases c:j+1<way.length
  ·rw[iZ (j:=j) ω,iZ (j:=j+1) c];exact W.ed j c
  ·obtain rfl:j=way.length-1:=ω
   rw[iZ (j:=way.length-1) ω,show way.length-1+1=way.length by lia,jG];exact e
 ·rw[Q8,Sd] at hj;by_cases c:j<way.length
  ·rw[iZ c];exact W.lt j c
  simp_all
def Iq(s:Ps)(way:List Nat)(tn la n:Nat):List Int:=[s.O.getD tn 0,s.R.getD la 0]++(QM n).map λj=>EA s (way.getD (j+1) 0) (way.getD j 0)
theorem Ip(s:Ps)(way:List Nat)(tn la n:Nat):Iq s way tn la (n+1)=Iq s way tn la n++[EA s (way.getD (n+1) 0) (way.getD n 0)]:=by
 unfold Iq;rw[S7,Rb,Uv];rfl
theorem Md(ok:fM s)(hu:u<s.ws.length+24)(h:v∈fK s u):0<EA s u v:=by
 unfold EA;by_cases c:u<s.ws.length
 ·obtain⟨t,ht,rfl,_,z⟩:=(je ok c).mp h
  simp_all
 ·obtain⟨t,rfl⟩:∃t,u=s.ws.length+t:=⟨u-s.ws.length,ω⟩;rw[if_neg c,show s.ws.length+t-s.ws.length=t by lia];exact(lF.mp h).2
inductive eK(K:QJ)(C:Addr)(vs:List V)(H:Hp)(Q:VK)(E_:XK):Prop where
 |mk (p:j6) (s:Ps) (d:Addr) (ns:List Nat) (sl:Sl) (tn:Nat) (h0_:vs=[.ref p.a,.ref d,.int (tn:Nat)]) (h1_:ib K C H p s) (h2_:zh s) (h3_:Rd H d (.dK (cP sl))) (h4_:mJ s ns sl) (h5_:(∀v∈ns,v<s.ws.length/\0<s.R.getD v 0)) (h6_:s.ws.length+tn∈sl.map (·.1)) (h7_:0<s.O.getD tn 0) (h8_:∀s' H',pZ p H H'->ib K C H' p s'->zh s'->xn s s'->s'.mu<s.mu->Q .non H'):eK K C vs H Q E_
theorem jv.congr(h:∀i,i<N.n->a i->b i)(r:jv N P a v):jv N P b v:=by
 induction r with
 |st hi x=>exact .st hi (h _ hi x)
 |fw r hi ht w p ih=>exact .fw ih hi ht w p
 |bw r ht hi p ih=>exact .bw ih ht hi p
def M4(s:Ps):List Nat:=(QM s.ws.length).filter λi=>decide (0<s.R.getD i 0)
theorem kU:i∈M4 s↔i<s.ws.length/\0<s.R.getD i 0:=by
 unfold M4
 simp_all
structure IE(s:Ps)(sl:Sl):Prop where
 F:zh s
 key:∀v,v∈sl.map (·.1)↔jv s.net s.pf (λi=>0<s.net.rest s.pf i) v
 full:∀t,t<24->jv s.net s.pf (λi=>0<s.net.rest s.pf i) (s.ws.length+t)->s.net.room s.pf t=0
 nd:(sl.map (·.1)).Nodup
theorem Hc{s:Ps}(F:zh s){sl:Sl}(S:mJ s (M4 s) sl)(C:M6 s sl sl.length)(no:∀t∈jK s.ws.length sl,¬0<s.O.getD t 0):IE s sl:=by
 have key:∀v,v∈sl.map (·.1)↔jv s.net s.pf (λi=>0<s.net.rest s.pf i) v:=λv=>by
  rw[xS F.ok S C λv hv=>(kU.mp hv).1];constructor
  ·exact jv.congr λi hi h=>by rw[←F.rr i hi];exact(kU.mp h).2
  ·exact jv.congr λi hi h=>kU.mpr ⟨hi,by rw[F.rr i hi];exact h⟩
 refine⟨F,key,λt ht r=>?_,S.nd⟩;have q:=no t (tF.mpr ((key _).mpr r));have z:=F.fl.rm t ht;have o:=F.oo t ht;lia
inductive iz(K:QJ)(C:Addr)(vs:List V)(H:Hp)(Q:VK)(E_:XK):Prop where
 |mk (p:j6) (s:Ps) (h0_:vs=[.ref p.a]) (h1_:ib K C H p s) (h2_:zh s) (h3_:∀s' sl d H',pZ p H H'->ib K C H' p s'->xn s s'->IE s' sl->Rd H' d (.dK (cP sl))->Q (.ref d) H'):iz K C vs H Q E_
def gW(WS:List Wk)(L:List Nat):List Wk:=L.map λj=>WS.getD j bI
def iI(ws:List Wk):Rat:=(ws.map λw=>val w.2.2).sum
theorem Bj(a b:List Rat):(a++b).sum=a.sum+b.sum:=by
 simp_all
theorem yu{S:Nat->Bool}{f:Nat->Int}{g:Nat->Rat}{c:Rat}:∀{n:Nat},(∀i,i<n->(f i:Rat)=c*g i)->((sm (λi=>iB (S i) (f i)) n:Int):Rat)=c*(((QM n).filter S).map g).sum
 |0,_=>by
  show((0:Int):Rat)=c*0;rw[Zz];rfl
 |n+1,h=>by
  have ih:=yu (S:=S) (n:=n) λi hi=>h i ω
  have e:=h n ω;show((sm _ n+iB (S n) (f n):Int):Rat)=_;rw[Yd,ih,S7,Sm,Rb,Bj,Rat.mul_add]
  cases c1:S n with
  |true=>
   rw[RY c1,Ul,Rr,X0,Sc,List.sum_nil,Ow,e];grind
  |false=>
   rw[Sq (by rw[c1];exact Rn),Ul,X0,List.sum_nil,EX,Zz];rfl
theorem uF{S p:Nat->Bool}:∀n:Nat,sm (λi=>iB (S i&&p i) 1) n=((((QM n).filter S).filter p).length:Nat)
 |0=>rfl
 |n+1=>by
  show sm _ n+iB (S n&&p n) 1=_;rw[uF n,S7,Sm,Sm,Q8]
  cases c1:S n with
  |true=>
   rw[RY c1,Ul]
   cases c2:p n with
   |true=>
    rw[RY c2];show _+(1:Int)=((_+1:Nat):Int);lia
   |false=>
    rw[Sq (by rw[c2];exact Rn)];show _+(0:Int)=((_+0:Nat):Int);lia
  |false=>
   rw[Sq (by rw[c1];exact Rn)];show _+(0:Int)=((_+0:Nat):Int);lia
theorem qu(f:Nat->Nat):∀n:Nat,((((QM n).map f).sum:Nat):Int)=sm (λt=>((f t:Nat):Int)) n
 |0=>rfl
 |n+1=>by
  show _=sm _ n+((f n:Nat):Int);rw[S7,Rb,S9,←qu f n]
  simp_all
theorem gE(h:fr.length=24):((dD ws fr:Nat):Int)=sm (λt=>((min (fr.getD t 0) (cb ws t):Nat):Int)) 24:=by
 unfold dD f9;rw[qu,h]
theorem Fq(ws:List Wk)(S:Nat->Bool)(n t:Nat):((cb (gW ws ((QM n).filter S)) t:Nat):Int)=sm (λi=>iB (S i&&g8 (ws.getD i bI) t) 1) n:=by
 rw[uF (p:=λi=>g8 (ws.getD i bI) t)];unfold cb gW;rw[Wo,QK];rfl
section
variable {s:Ps}
theorem L4(ok:fM s)(S:Nat->Bool):s.net.bz S=((dD (gW s.ws ((QM s.ws.length).filter S)) s.fr:Nat):Int):=by
 rw[gE ok.f24];unfold fP.bz;refine bZ λt _=>?_
 have e:s.net.cnt S t=((cb (gW s.ws ((QM s.ws.length).filter S)) t:Nat):Int):=(Fq ..).symm;unfold fP.busy;rw[e];show min ((s.fr.getD t 0:Nat):Int) _=_;lia
structure JJ(s:Ps)(r:R)(B:Int):Prop where
 b0:0<B
 M:(s.M:Rat)=(B:Rat)*val r
 A:∀i,i<s.ws.length->((s.A.getD i 0:Int):Rat)=(B:Rat)*val (s.ws.getD i bI).2.2
theorem wD(L:JJ s r B)(S:Nat->Bool):((s.net.am S:Int):Rat)=(B:Rat)*iI (gW s.ws ((QM s.ws.length).filter S)):=by
 have q:=yu (S:=S) (f:=λi=>s.A.getD i 0) (g:=λi=>val (s.ws.getD i bI).2.2) (n:=s.ws.length) L.A;unfold iI gW;rw[RO];exact q
theorem Pt(ok:fM s)(L:JJ s r B)(S:Nat->Bool):((s.M*s.net.bz S:Int):Rat)=(B:Rat)*(val r*((dD (gW s.ws ((QM s.ws.length).filter S)) s.fr:Nat):Rat)):=by
 rw[S3,L4 ok S,L.M,UD];grind
theorem lN{B:Int}(h:0<B):(0:Rat)<(B:Rat):=by
 have:=SD.mpr h;exact this
theorem o5{B x y:Rat}(h:0<B):B*x<B*y↔x<y:=by
 constructor
 ·intro z;apply Q9;intro n;have:=Se (X5.mp n) (SE h);grind
 ·intro z;have:=R4 z h;grind
theorem ip{B x y:Rat}(h:0<B):B*x≤B*y↔x≤y:=by
 constructor
 ·intro z;apply Q9;intro n;have:=(o5 h).mpr (Tu.mp n);grind
 ·intro z;exact Se z (SE h)
theorem wF{B x y:Rat}(h:0<B):B*x=B*y↔x=y:=by
 constructor
 ·intro z;exact Um ((ip h).mp (by rw[z];exact R1)) ((ip h).mp (by rw[z];exact R1))
 ·intro z;rw[z]
end
structure lO(WS:List Wk)(ns fr:List Nat)(r:R)(U:Nat->Bool):Prop where
 rd:de r
 nn:0≤val r
 atn:∃S:Nat->Bool,0<dD (gW WS (ns.filter S)) fr/\iI (gW WS (ns.filter S))=val r*((dD (gW WS (ns.filter S)) fr:Nat):Rat)
 all:∀S:Nat->Bool,iI (gW WS (ns.filter S))≤val r*((dD (gW WS (ns.filter S)) fr:Nat):Rat)
 u:∀j∈ns,U j=true↔∃S:Nat->Bool,S j=true/\iI (gW WS (ns.filter S))=val r*((dD (gW WS (ns.filter S)) fr:Nat):Rat)
section
variable {s:Ps}
theorem Qx(F:zh s)(L:JJ s r B)(rd:de r)(nn:0≤val r)(fu:∀i,i<s.ws.length->s.net.rest s.pf i=0)(b0:0<dD (gW s.ws ((QM s.ws.length).filter S₀)) s.fr)(e0:iI (gW s.ws ((QM s.ws.length).filter S₀))=val r*((dD (gW s.ws ((QM s.ws.length).filter S₀)) s.fr:Nat):Rat)):
  lO s.ws (QM s.ws.length) s.fr r (uR s.net s.pf):=by
 have eqv:∀S,s.net.am S=s.net.M*s.net.bz S↔iI (gW s.ws ((QM s.ws.length).filter S))=val r*((dD (gW s.ws ((QM s.ws.length).filter S)) s.fr:Nat):Rat):=λS=>by
  rw[←wF (lN L.b0),←wD L,←Pt F.ok L];exact Vz.symm
 refine⟨rd,nn,⟨S₀,b0,e0⟩,λS=>?_,λj hj=>⟨λh=>⟨uR s.net s.pf,h,(eqv _).mp (FY F.fl fu)⟩,λ⟨S,h,e⟩=>FZ F.fl fu ((eqv S).mpr e) (Q5.mp hj) h⟩⟩;rw[←ip (lN L.b0),←wD L,←Pt F.ok L];exact TU.mpr (MQ F.fl fu S)
theorem vX{sl:Sl}(E:IE s sl)(L:JJ s r B)(ne:sl≠[]):val r*((dD (gW s.ws ((QM s.ws.length).filter λi=>decide (i∈sl.map (·.1)))) s.fr:Nat):Rat)<iI (gW s.ws ((QM s.ws.length).filter λi=>decide (i∈sl.map (·.1)))):=by
 obtain⟨i,hi,h⟩:∃i,i<s.ws.length/\0<s.net.rest s.pf i:=by
  cases sl with
  |nil=>exact absurd Z ne
  |cons x t=>
   have rr:=(E.key x.1).mp QV;have:∀v,jv s.net s.pf (λi=>0<s.net.rest s.pf i) v->∃i,i<s.ws.length/\0<s.net.rest s.pf i:=λv z=>by
    induction z with
    |st hi h=>exact⟨_,hi,h⟩
    |fw _ _ _ _ _ ih=>exact ih
    |bw _ _ _ _ ih=>exact ih
   exact this _ rr
 have q:=ND E.F.fl E.full hi h;have e:(QM s.ws.length).filter (λi=>decide (i∈sl.map (·.1)))=(QM s.ws.length).filter (wR s.net s.pf λi=>0<s.net.rest s.pf i):=by
  refine Sj λi _=>?_
  unfold wR;rw[Uk,decide_eq_true_iff,jy];exact E.key i
 rw[e,←o5 (lN L.b0),←wD L,←Pt E.F.ok L];exact SD.mpr q
theorem qM{sl:Sl}(E:IE s sl)(e:sl=[]):∀i,i<s.ws.length->s.net.rest s.pf i=0:=λi hi=>by
 have nn:=E.F.fl.rs i hi;apply Q9;intro z;have:=(E.key i).mpr (.st hi ω)
 simp_all
end
section
variable {WS:List Wk}{S T:Nat->Bool}{ns fr:List Nat}
theorem ju(j:Nat)(r:List Nat)(S:Nat->Bool):iI (gW WS ((j::r).filter S))=(if S j=true then val (WS.getD j bI).2.2 else 0)+iI (gW WS (r.filter S)):=by
 cases c:S j with
 |true=>
  rw[RY c,if_pos Z];exact Sc
 |false=>
  grind
theorem lC(j:Nat)(r:List Nat)(S:Nat->Bool)(t:Nat):cb (gW WS ((j::r).filter S)) t=(if(S j&&g8 (WS.getD j bI) t)=true then 1 else 0)+cb (gW WS (r.filter S)) t:=by
 cases c:S j with
 |true=>
  rw[RY c];show((WS.getD j bI::gW WS (r.filter S)).filter λw=>g8 w t).length=_
  cases d:g8 (WS.getD j bI) t with
  |true=>
   rw[RY (p:=λw=>g8 w t) d,RU,Xr,if_pos Z];show cb _ t+1=_;lia
  |false=>
   rw[Sq (p:=λw=>g8 w t) (by show ¬g8 _ t=true;rw[d];exact Rn),if_neg δ];show cb _ t=_;lia
 |false=>
  simp_all
theorem tz(S T:Nat->Bool):∀ns:List Nat,iI (gW WS (ns.filter λj=>S j||T j))+iI (gW WS (ns.filter λj=>S j&&T j))=iI (gW WS (ns.filter S))+iI (gW WS (ns.filter T))
 | []=>rfl
 |j::r=>by
  have ih:=tz S T r;rw[ju,ju,ju,ju]
  cases S j<;>cases T j<;>simp only[WD,YJ,Xr,Yu,Y0,if_true,if_false]<;>grind
theorem nQ(S T:Nat->Bool)(t:Nat):∀ns:List Nat,cb (gW WS (ns.filter λj=>S j||T j)) t+cb (gW WS (ns.filter λj=>S j&&T j)) t=cb (gW WS (ns.filter S)) t+cb (gW WS (ns.filter T)) t/\cb (gW WS (ns.filter S)) t≤cb (gW WS (ns.filter λj=>S j||T j)) t/\cb (gW WS (ns.filter T)) t≤cb (gW WS (ns.filter λj=>S j||T j)) t
 | []=>⟨Z,QY _,QY _⟩
 |j::r=>by
  obtain⟨a,b,c⟩:=nQ S T t r;rw[lC,lC,lC,lC]
  cases S j<;>cases T j<;>cases g8 (WS.getD j bI) t<;>simp only[WD,YJ,Xr,Yu,Y0,if_true,if_false]<;>lia
theorem J1(h:fr.length=24)(S T:Nat->Bool):dD (gW WS (ns.filter λj=>S j||T j)) fr+dD (gW WS (ns.filter λj=>S j&&T j)) fr≤dD (gW WS (ns.filter S)) fr+dD (gW WS (ns.filter T)) fr:=by
 have e1:=gE (ws:=gW WS (ns.filter λj=>S j||T j)) h;have e2:=gE (ws:=gW WS (ns.filter λj=>S j&&T j)) h;have e3:=gE (ws:=gW WS (ns.filter S)) h;have e4:=gE (ws:=gW WS (ns.filter T)) h;have l:=gv (f:=λt=>((min (fr.getD t 0) (cb (gW WS (ns.filter λj=>S j||T j)) t):Nat):Int)+((min (fr.getD t 0) (cb (gW WS (ns.filter λj=>S j&&T j)) t):Nat):Int)) (g:=λt=>((min (fr.getD t 0) (cb (gW WS (ns.filter S)) t):Nat):Int)+((min (fr.getD t 0) (cb (gW WS (ns.filter T)) t):Nat):Int)) (n:=24) λt _=>by
  obtain⟨a,b,c⟩:=nQ (WS:=WS) S T t ns;lia
 rw[lV,lV] at l;lia
theorem ON(h:∀j∈ns,0<val (WS.getD j bI).2.2)(S:Nat->Bool):0≤iI (gW WS (ns.filter S)):=by
 induction ns with
 |nil=>exact R1
 |cons j r ih=>
  rw[ju];grind
theorem xf(h:∀j∈ns,0<val (WS.getD j bI).2.2)(hj:j∈ns)(hS:S j=true):0<iI (gW WS (ns.filter S)):=by
 induction ns with
 |nil=>cases hj
 |cons i r ih=>
  rw[ju];have a:=h i QV;have b:=ON (λj hj=>h j (QX _ hj)) S;grind
theorem nZ(h:∀j∈ns,S j=false):ns.filter S=[]:=Tp.mpr λj hj z=>by rw[h j hj] at z;cases z
theorem Fv(h:fr.length=24):dD [] fr=0:=by
 have e:=gE (ws:=[]) h;rw[bZ (g:=λ_=>0) (λt _=>by show((min _ 0:Nat):Int)=0;lia),ij] at e;lia
theorem A6(h:fr.length=24)(nn:0≤v)(all:∀S:Nat->Bool,iI (gW WS (ns.filter S))≤v*((dD (gW WS (ns.filter S)) fr:Nat):Rat))(a:iI (gW WS (ns.filter S))=v*((dD (gW WS (ns.filter S)) fr:Nat):Rat))(b:iI (gW WS (ns.filter T))=v*((dD (gW WS (ns.filter T)) fr:Nat):Rat)):iI (gW WS (ns.filter λj=>S j||T j))=v*((dD (gW WS (ns.filter λj=>S j||T j)) fr:Nat):Rat):=by
 have m:=tz (WS:=WS) S T ns;have s:=TV.mpr (J1 (WS:=WS) (ns:=ns) h S T);rw[TM,TM] at s;have l:=Se s nn;grind
theorem lO.tight(F:lO WS ns fr r U)(h:fr.length=24):iI (gW WS (ns.filter U))=val r*((dD (gW WS (ns.filter U)) fr:Nat):Rat):=by
 have key:∀l:List Nat,(∀j∈l,j∈ns)->∃S:Nat->Bool,iI (gW WS (ns.filter S))=val r*((dD (gW WS (ns.filter S)) fr:Nat):Rat)/\(∀j∈l,U j=true->S j=true)/\∀j∈ns,S j=true->U j=true:=λl=>by
  induction l with
  |nil=>
   intro _;refine⟨λ_=>false,?_,(λj hj=>by cases hj),λj _ z=>by cases z⟩;rw[nZ λ_ _=>Z];show(0:Rat)=_*((dD [] fr:Nat):Rat);rw[Fv h];exact(Zz _).symm
  |cons i l ih=>
   intro hl;obtain⟨S,t,a,b⟩:=ih λj hj=>hl j (QX _ hj)
   by_cases c:U i=true
   ·obtain⟨T,ti,et⟩:=(F.u i (hl i QV)).mp c;refine⟨λj=>S j||T j,A6 h F.nn F.all t et,λj hj hu=>?_,λj hj z=>?_⟩
    ·grind
    ·rcases Bool.or_eq_true_iff.mp z with z|z
     ·exact b j hj z
     ·exact(F.u j hj).mpr ⟨T,z,et⟩
   grind
 obtain⟨S,t,a,b⟩:=key ns λ_ h=>h
 have e:ns.filter U=ns.filter S:=Sj λj hj=>by
  rw[Uk];exact⟨a j hj,b j hj⟩
 rw[e];exact t
def xt(WS:List Wk)(ns fr:List Nat):Prop:=∀j∈ns,∃t,t<24/\g8 (WS.getD j bI) t=true/\0<fr.getD t 0
theorem Ij(hj:j∈ns)(hS:S j=true)(hw:g8 (WS.getD j bI) t=true):0<cb (gW WS (ns.filter S)) t:=by
 unfold cb;exact X6 (Q3.mpr ⟨QZ.mpr ⟨j,Q3.mpr ⟨hj,hS⟩,Z⟩,hw⟩)
theorem DJ(h:fr.length=24)(P:xt WS ns fr)(hj:j∈ns)(hS:S j=true):0<dD (gW WS (ns.filter S)) fr:=by
 obtain⟨t,ht,hw,hf⟩:=P j hj;have e:=gE (ws:=gW WS (ns.filter S)) h;have c:=Ij (WS:=WS) hj hS hw;have m:=sw (f:=λt=>((min (fr.getD t 0) (cb (gW WS (ns.filter S)) t):Nat):Int)) (n:=24) (i:=t) (λ_ _=>Y1 _) ht;lia
def i4(fr:List Nat)(ws:List Wk):List Nat:=(QM 24).map λt=>fr.getD t 0-min (fr.getD t 0) (cb ws t)
theorem mG(ht:t<24):(i4 fr ws).getD t 0=fr.getD t 0-min (fr.getD t 0) (cb ws t):=aD 0 (by unfold i4;rw[Q4,Tr ht];rfl)
theorem lj:(i4 fr ws).length=24:=by unfold i4;rw[QK,Rx]
theorem lO.next(F:lO WS ns fr r U)(h:fr.length=24)(am:∀j∈ns,0<val (WS.getD j bI).2.2):xt WS (ns.filter λj=>!U j) (i4 fr (gW WS (ns.filter U))):=λj hj=>by
 obtain⟨hj,hu⟩:=Q3.mp hj;have hu:U j=false:=by cases c:U j with|true=>rw[c] at hu;cases hu|false=>rfl
 apply Q9;intro no;have cap:∀t,t<24->g8 (WS.getD j bI) t=true->fr.getD t 0≤cb (gW WS (ns.filter U)) t:=λt ht hw=>by
  apply Q9;intro z;exact no ⟨t,ht,hw,by rw[mG ht];lia⟩
 have le:dD (gW WS (ns.filter λi=>U i||(i==j))) fr≤dD (gW WS (ns.filter U)) fr:=by
  have e1:=gE (ws:=gW WS (ns.filter λi=>U i||(i==j))) h;have e2:=gE (ws:=gW WS (ns.filter U)) h;have l:=gv (f:=λt=>((min (fr.getD t 0) (cb (gW WS (ns.filter λi=>U i||(i==j))) t):Nat):Int)) (g:=λt=>((min (fr.getD t 0) (cb (gW WS (ns.filter U)) t):Nat):Int)) (n:=24) λt ht=>by
   obtain⟨a,b,c⟩:=nQ (WS:=WS) U (λi=>i==j) t ns;by_cases hw:g8 (WS.getD j bI) t=true
   ·grind
   ·have z:cb (gW WS (ns.filter λi=>i==j)) t=0:=by
     unfold cb;rw[VL,Tp];intro w hm q;obtain⟨i,hi,rfl⟩:=QZ.mp hm;grind
    lia
  lia
 have m:=tz (WS:=WS) U (λi=>i==j) ns;rw[nZ (S:=λi=>U i&&(i==j)) (λi _=>by
  by_cases c:i=j
  ·rw[c,hu];rfl
  ·rw[beq_eq_false_iff_ne.mpr c,Yu])] at m
 have p:=xf (S:=λi=>i==j) am hj (beq_self_eq_true j);have t:=F.tight h;have a:=F.all λi=>U i||(i==j)
 have l:=Se (TV.mpr le) F.nn;have z:iI (gW WS [])=0:=Z;grind
theorem lO.some(F:lO WS ns fr r U)(h:fr.length=24):∃j∈ns,U j=true:=by
 obtain⟨S,b,e⟩:=F.atn
 cases q:ns.filter S with
 |nil=>
  rw[q] at b;have:dD (gW WS []) fr=0:=Fv h;lia
 |cons j t=>
  have m:=Q3.mp (show j∈ns.filter S by rw[q];exact QV);exact⟨j,m.1,(F.u j m.1).mpr ⟨S,m.2,e⟩⟩
theorem lO.uniq(F:lO WS ns fr r U)(F':lO WS ns fr r' U'):r=r'/\∀j∈ns,U j=U' j:=by
 have le:∀{r r':R} {U U':Nat->Bool},lO WS ns fr r U->lO WS ns fr r' U'->val r≤val r':=λ{r r' U U'} F F'=>by
  obtain⟨S,b,e⟩:=F.atn;have a:=F'.all S;rw[e] at a;have b':(0:Rat)<((dD (gW WS (ns.filter S)) fr:Nat):Rat):=Uo.mpr b;apply Q9;intro z;have:=R4 (Tu.mp z) b';grind
 have e:r=r':=c8 F.rd F'.rd (Um (le F F') (le F' F));subst e;refine⟨Z,λj hj=>?_⟩;rw[Uk,F.u j hj,F'.u j hj]
end
inductive FF(WS:List Wk)(f:Nat->R):List Nat->List Nat->Prop where
 |nil {fr:List Nat}:FF WS f [] fr
 |step {ns fr:List Nat} {r:R} {U:Nat->Bool} (F:lO WS ns fr r U) (h:∀j∈ns,U j=true->f j=r) (n:FF WS f (ns.filter λj=>!U j) (i4 fr (gW WS (ns.filter U)))):FF WS f ns fr
theorem FF.uniq(a:FF WS f ns fr)(b:FF WS g ns fr):∀j∈ns,f j=g j:=by
 induction a with
 |nil=>intro j hj;cases hj
 | @step ns fr r U F h n ih=>
  intro j hj
  cases b with
  |nil=>cases hj
  | @step _ _ r' U' F' h' n'=>
   obtain⟨e,eu⟩:=F.uniq F';have e1:ns.filter U=ns.filter U':=Sj eu;have e2:(ns.filter λj=>!U j)=ns.filter λj=>!U' j:=Sj λj hj=>by rw[eu j hj]
   grind
def zj(w:Wk):Prop:=w.1≤w.2.1/\w.2.1<10/\Bq 84 12 w.2.2/\0<w.2.2.1
structure Iy(ws:List Wk):Prop where
 len:ws.length≤6
 gd:∀w∈ws,zj w
def Nj:List Int:=Q0 24 0
def fB(B:Int)(r:R):Int:=r.1*(B/r.2)
def FL(ws:List Wk)(fr:List Nat)(B:Int)(r:R):Ps:=⟨ws,fr,fB B r,ws.map λw=>fB B w.2.2,ws.map λw=>fB B w.2.2,fr.map λf:Nat=>fB B r*(f:Int),Q0 ws.length Nj⟩
theorem Es(p:0<r.2)(d:r.2∣B):((fB B r:Int):Rat)=(B:Rat)*val r:=by
 obtain⟨q,rfl⟩:=d;unfold fB;rw[Ru _ ω,S3,S3];have:=cG p;unfold val;grind
theorem Et(p:0<r.2)(d:r.2∣B)(b:0<B)(t:0<r.1):0<fB B r:=RG t (Uc b (Ry p) d)
section
variable {ws:List Wk}{fr:List Nat}{B:Int}{r:R}
theorem oK(i t:Nat):(FL ws fr B r).pf i t=0:=by
 unfold Ps.pf FL Nj;grind
theorem DI(h:i<ws.length):(ws.map λw=>fB B w.2.2).getD i 0=fB B (ws.getD i bI).2.2:=by
 simp_all
theorem jA(h:i<ws.length):ws.getD i bI∈ws:=by
 simp_all
theorem KY(g:Iy ws)(f:fr.length=24):fM (FL ws fr B r):=by
 have l:=g.len;refine⟨by show ws.length≤20;lia,f,λw hw=>⟨(g.gd w hw).1,WB (g.gd w hw).2.1 δ⟩,QK _,QK _,(QK _).trans f,R0,λq hq=>?_⟩;rw[(Uf.mp hq).2];rfl
theorem N0(g:Iy ws)(f:fr.length=24)(b0:0<B)(p:0<r.2)(d:r.2∣B)(t0:0<r.1)(dw:∀w∈ws,w.2.2.2∣B):zh (FL ws fr B r)/\JJ (FL ws fr B r) r B:=by
 have m0:=Et p d b0 t0;have a0:∀i,i<ws.length->0<(ws.map λw=>fB B w.2.2).getD i 0:=λi hi=>by
  rw[DI hi];have m:=jA hi;have gg:=g.gd _ m;exact Et gg.2.2.1.pos (dw _ m) b0 gg.2.2.2
 have rest:∀i,(FL ws fr B r).net.rest (FL ws fr B r).pf i=(ws.map λw=>fB B w.2.2).getD i 0:=λi=>by
  unfold fP.rest;rw[bZ (g:=λ_=>0) (λt _=>oK i t),ij];exact Int.sub_zero _
 have room:∀t,(FL ws fr B r).net.room (FL ws fr B r).pf t=fB B r*((fr.getD t 0:Nat):Int):=λt=>by
  unfold fP.room;rw[bZ (g:=λ_=>0) (λi _=>oK i t),ij];exact Int.sub_zero _
 refine⟨⟨KY g f,⟨Ry m0,λi t _ _=>?_,λi t _ _=>?_,λi t _ _ _=>oK i t,λi hi=>?_,λt _=>?_⟩,λi hi=>(rest i).symm,λt ht=>?_,a0⟩,⟨b0,Es p d,λi hi=>?_⟩⟩
 ·rw[oK];exact TF _
 ·rw[oK];exact Ry m0
 ·rw[rest];exact Ry (a0 i hi)
 ·rw[room];exact Vf (Ry m0) (Y1 _)
 ·rw[room];exact aD 0 (by
   show(fr.map λf:Nat=>fB B r*(f:Int))[t]?=_;rw[Q4,QH (by lia:t<fr.length),aD 0 (QH (by lia:t<fr.length))];rfl)
 ·have hi:i<ws.length:=hi;show(((ws.map λw=>fB B w.2.2).getD i 0:Int):Rat)=(B:Rat)*val (ws.getD i bI).2.2;rw[DI hi];have m:=jA hi;exact Es (g.gd _ m).2.2.1.pos (dw _ m)
end
theorem none_of{H H':Hp}{q:Addr}(k:∀o,H q=some o->H' q=some o)(h:H' q=none):H q=none:=by
 cases c:H q with
 |none=>rfl
 |some o=>rw[k o c] at h;cases h
inductive iC(K:QJ)(C:Addr)(vs:List V)(H:Hp)(Q:VK)(E_:XK):Prop where
 |mk (x dx a b:Addr) (v:V) (xs:List V) (ws:List Wk) (fr:List Nat) (r:R) (D:Nat) (h0_:vs=[.ref x,.ref a,.ref b,v]) (h1_:H x=some (.ins C dx [])) (h2_:H a=some (.lst xs)) (h3_:bR (tX K H) xs ws) (h4_:Iy ws) (h5_:b≠x) (h6_:aJ K H b (aQ fr)) (h7_:fr.length=24) (h8_:(∀f∈fr,f<2^40)) (h9_:RV K H v r) (h10_:0<r.2) (h11_:0<r.1) (h12_:r.1.natAbs<2^60) (h13_:0<D) (h14_:D<2^60) (h15_:84∣D) (h16_:r.2∣(D:Int)) (h17_:∀(p:j6) (B:Int) (H':Hp),(∀b o,b≠x->H b=some o->H' b=some o)->p.a=x->p.li=a->(∀q∈p.l,q≠x->H q=none)->0<B->B∣(D:Int)->r.2∣B->(∀w∈ws,w.2.2.2∣B)->ib K C H' p (FL ws fr B r)->Q .non H'):iC K C vs H Q E_
theorem iJ:∀{rs:List R},(∀r∈rs,de r)->∀{a:R},de a->de (rs.foldl aK a)/\val (rs.foldl aK a)=val a+(rs.map val).sum
 | [],_,a,ha=>⟨ha,by show val a=val a+0;grind⟩
 |r::rs,h,a,ha=>by
  have hr:=h r QV;obtain⟨x,y⟩:=iJ (λq hq=>h q (QX _ hq)) (kN ha hr);refine⟨x,?_⟩;rw[Yb,y,dg ha.pos hr.pos,Rr,Sc];grind
theorem ue:de ((0,1):R):=⟨δ,δ⟩
theorem MM(h:∀w∈ws,de w.2.2):de (bj (ws.map λw=>w.2.2))/\val (bj (ws.map λw=>w.2.2))=iI ws:=by
 obtain⟨x,y⟩:=iJ (rs:=ws.map λw=>w.2.2) (λr hr=>by obtain⟨w,hw,rfl⟩:=QZ.mp hr;exact h w hw) ue;refine⟨x,?_⟩;have e:val ((0,1):R)=0:=(bX (r:=(0,1)) δ).mpr Z;rw[e,RO] at y;show val ((ws.map λw=>w.2.2).foldl aK (0,1))=_;rw[y];show 0+iI ws=iI ws;grind
theorem Ho(f:fr.length=24)(g:∀w∈ws,zj w)(l:ws.length≤6)(b:0<dD ws fr)(ne:ws≠[]):Bq (84*dD ws fr) 72 (iD ws fr)/\0<(iD ws fr).1/\val (iD ws fr)*((dD ws fr:Nat):Rat)=iI ws:=by
 have sq:=(jj (D:=84) (N:=12) δ (rs:=ws.map λw=>w.2.2) λr hr=>by obtain⟨w,hw,rfl⟩:=QZ.mp hr;exact(g w hw).2.2.1).mono (To _) (show 12*(ws.map λw=>w.2.2).length≤72 by rw[QK];lia);have oq:Bq (dD ws fr) 1 ((1,(dD ws fr:Int)):R):=⟨by show(0:Int)<dD ws fr;lia,by show Rf 1 _=1;exact Int.one_gcd,WH _,by show 1≤1*((dD ws fr:Nat):Int).natAbs;lia⟩;obtain⟨rd,ev⟩:=MM (ws:=ws) λw hw=>(g w hw).2.2.1.red
 have q:=sq.times oq;have p:val (iD ws fr)*((dD ws fr:Nat):Rat)=iI ws:=by
  unfold iD;rw[cM rd.pos oq.pos,ev];have e1:val ((1,(dD ws fr:Int)):R)=1/((dD ws fr:Nat):Rat):=by
   unfold val;show((1:Int):Rat)/(((dD ws fr:Nat):Int):Rat)=_;rw[UD];rfl
  have e2:((dD ws fr:Nat):Rat)≠0:=λz=>by
   simp_all
  grind
 refine⟨q,?_,p⟩;have ap:0<iI ws:=by
  have h:=xf (WS:=ws) (ns:=QM ws.length) (S:=λ_=>true) (j:=0) (λj hj=>by
   have m:=jA (Q5.mp hj);have gg:=g _ m;apply Q9;intro z;have v0:val (ws.getD j bI).2.2≤0:=X5.mp z;have:0<val (ws.getD j bI).2.2:=by
    have x1:(0:Rat)<(((ws.getD j bI).2.2.1:Int):Rat):=lN gg.2.2.2;have x2:(0:Rat)<(((ws.getD j bI).2.2.2:Int):Rat):=lN gg.2.2.1.pos;unfold val;rw[VV x2];rw[X7];exact x1
   grind) (Q5.mpr (UE.mpr ne)) Z
  rw[show gW ws ((QM ws.length).filter λ_=>true)=ws by
   have e:=bH bI (λw:Wk=>w) ws;rw[WI ] at e;exact e] at h
  exact h
 apply Q9;intro z;have nb:(0:Rat)<((dD ws fr:Nat):Rat):=Uo.mpr b;have vle:val (iD ws fr)≤0:=by
  apply Q9;intro w;have w:=Tu.mp w;have x2:(0:Rat)<(((iD ws fr).2:Int):Rat):=lN q.pos;unfold val at w;rw[VV x2,X7] at w;have w':((0:Int):Rat)<(((iD ws fr).1:Int):Rat):=w;exact z (SD.mp w')
 have:=RE vle (SE nb);grind
def qD(ns:List Nat):List (List Nat):=ns.foldl (λf j=>f++f.map (·++[j])) [[]]
theorem zw(ns:List Nat)(j:Nat):qD (ns++[j])=qD ns++(qD ns).map (·++[j]):=by
 unfold qD
 simp_all
theorem iU:∀{n:Nat} {ns L:List Nat},ns.length=n->(L∈qD ns↔L.Sublist ns)
 |0,ns,L,h=>by
  rw[VL.mp h];show L∈[[]]↔_
  simp_all
 |n+1,ns,L,h=>by
  have ne:ns≠[]:=λz=>by rw[z] at h;cases h
  obtain⟨a,j,rfl⟩:∃a j,ns=a++[j]:=⟨ns.dropLast,ns.getLast ne,(Wq ne).symm⟩;rw[Q8,Sd] at h;rw[zw,Rc,QZ,List.sublist_append_iff];constructor
  ·rintro (z | ⟨M,hM,rfl⟩)
   ·exact⟨L,[],(R7 L).symm,(iU (n:=n) ω).mp z,List.nil_sublist _⟩
   ·exact⟨M,[j],Z,(iU (n:=n) ω).mp hM,List.Sublist.refl _⟩
  ·rintro⟨a',b',rfl,h1,h2⟩
   cases h2 with
   |cons _ h2=>
    rw[ZL.mp h2,R7];exact .inl ((iU (n:=n) ω).mpr h1)
   |cons_cons _ h2=>
    rw[ZL.mp h2];exact .inr ⟨a',(iU (n:=n) ω).mpr h1,Z⟩
theorem qZ{α:Type}{p q:α->Bool}:∀{l:List α},(∀x∈l,p x=true->q x=true)->(∃y∈l,q y=true/\p y=false)->(l.filter p).length<(l.filter q).length
 | [],_,h=>by obtain⟨y,hy,_⟩:=h;cases hy
 |x::l,h,e=>by
  have le:∀l:List α,(∀x∈l,p x=true->q x=true)->(l.filter p).length≤(l.filter q).length:=λl=>by
   induction l with
   |nil=>intro _;exact QY _
   |cons x l ih=>
    grind
  have hl:=le l λy hy=>h y (QX _ hy)
  obtain⟨y,hy,y1,y2⟩:=e;rw[Wc,Wc];rcases Rm.mp hy with z|z
  ·subst z;rw[y1,y2,if_neg Rn,if_pos Z,RU];lia
  ·have ih:=qZ (λy hy=>h y (QX _ hy)) ⟨y,z,y1,y2⟩;grind
def pq(ws:List Wk)(fr:List Nat)(L:List Nat):Rat:=iI (gW ws L)/((dD (gW ws L) fr:Nat):Rat)
def O9(ws:List Wk)(fr:List Nat)(x:Rat):Nat:=((qD (QM ws.length)).filter λL=>decide (x<pq ws fr L)).length
theorem Ma(b:0<dD (gW ws ((QM ws.length).filter S)) fr)(h:x*((dD (gW ws ((QM ws.length).filter S)) fr:Nat):Rat)<iI (gW ws ((QM ws.length).filter S))):O9 ws fr (pq ws fr ((QM ws.length).filter S))<O9 ws fr x:=by
 have b':(0:Rat)<((dD (gW ws ((QM ws.length).filter S)) fr:Nat):Rat):=Uo.mpr b;have lt:x<pq ws fr ((QM ws.length).filter S):=by
  unfold pq;rw[VV b'];exact h
 unfold O9;refine qZ (λL _ hL=>?_) ⟨_,(iU Z).mpr Vs,decide_eq_true lt,decide_eq_false Rat.lt_irrefl⟩;grind
theorem Mt(ws:List Wk):gW ws (QM ws.length)=ws:=by
 have e:=bH bI (λw:Wk=>w) ws;rw[WI,Sg.mpr (by intros;rfl)] at e;exact e
theorem jf{K:QJ}{H:Hp}{xs:List V}{ws:List Wk}(al:bR (tX K H) xs ws):∀{L:List Nat},(∀i∈L,i<ws.length)->bR (tX K H) (L.map λi=>xs.getD i V.non) (gW ws L)
 | [],_=>.nil
 |i::L,h=>by
  have hi:=h i QV;have ll:=al.len;obtain⟨xw,hxw⟩:∃xw,xs[i]?=some xw:=⟨_,QH ω⟩;obtain⟨w,hw,wv⟩:=al.at hxw;refine .cons ?_ (jf al λj hj=>h j (QX _ hj))
  simp_all
theorem Jp{B:Int}{r:R}{D:Nat}(b0:0<B)(bd:B∣(D:Int))(d0:0<D)(d:D<2^60)(r2:0<r.2)(t:r.1.natAbs<2^60):(fB B r).natAbs<2^200:=by
 have h1:=Sh ω bd;have h2:=UQ r.2 (Ry b0);have h3:=TL (Ry b0) (Ry r2);have h4:(B/r.2).natAbs<2^60:=ω
 exact WB (dj t h4) δ
section
variable {WS:List Wk}{ns fr:List Nat}
theorem Fb(h:p<ns.length):(gW WS ns).getD p bI=WS.getD (ns.getD p 0) bI:=by
 rw[aD 0 (QH h)];exact aD bI (by unfold gW;rw[Q4,QH h];rfl)
theorem OE(h:∀p∈L,p<ns.length):gW (gW WS ns) L=gW WS (L.map λp=>ns.getD p 0):=by
 show L.map (λp=>(gW WS ns).getD p bI)=(L.map λp=>ns.getD p 0).map λj=>WS.getD j bI
 rw[RO];exact Wv λp hp=>Fb (h p hp)
theorem DN(S:Nat->Bool):((QM ns.length).filter λp=>S (ns.getD p 0)).map (λp=>ns.getD p 0)=ns.filter S:=by
 have e:=lE 0 S (λj:Nat=>j) ns;rw[WI] at e;exact e
theorem tM(S:Nat->Bool):gW (gW WS ns) ((QM ns.length).filter λp=>S (ns.getD p 0))=gW WS (ns.filter S):=by
 rw[OE λp hp=>Q5.mp (Q3.mp hp).1,DN]
theorem ET(nd:ns.Nodup)(h:p<ns.length):ns.idxOf (ns.getD p 0)=p:=by
 simp_all
theorem xc(h:j∈ns):ns.idxOf j<ns.length/\ns.getD (ns.idxOf j) 0=j:=by
 have hl:=List.idxOf_lt_length_of_mem h
 simp_all
theorem vV(nd:ns.Nodup)(S:Nat->Bool):(QM ns.length).filter S=(QM ns.length).filter λp=>S (ns.idxOf (ns.getD p 0)):=Sj λp hp=>by rw[ET nd (Q5.mp hp)]
theorem lO.tr(nd:ns.Nodup)(F:lO (gW WS ns) (QM ns.length) fr r U):lO WS ns fr r λj=>U (ns.idxOf j):=by
 have to:∀S:Nat->Bool,gW (gW WS ns) ((QM ns.length).filter S)=gW WS (ns.filter λj=>S (ns.idxOf j)):=λS=>by rw[vV nd S];exact tM λj=>S (ns.idxOf j)
 refine⟨F.rd,F.nn,?_,λS=>?_,λj hj=>?_⟩
 ·obtain⟨S,h1,h2⟩:=F.atn;grind
 ·have h:=F.all λp=>S (ns.getD p 0)
  rw[tM] at h;exact h
 ·obtain⟨hl,e⟩:=xc hj;rw[F.u _ (Q5.mpr hl)];constructor
  ·grind
  ·rintro⟨S,h1,h2⟩;refine⟨λp=>S (ns.getD p 0),by show S (ns.getD (ns.idxOf j) 0)=true;rw[e];exact h1,?_⟩;rw[tM];exact h2
theorem xt.tr(P:xt WS ns fr):xt (gW WS ns) (QM ns.length) fr:=λp hp=>by
 have hl:=Q5.mp hp;obtain⟨t,a,b,c⟩:=P (ns.getD p 0) (by rw[aD 0 (QH hl)];exact Ri hl);exact⟨t,a,by rw[Fb hl];exact b,c⟩
end
inductive mR(K_:QJ)(vs:List V)(H:Hp)(Q:VK)(E_:XK):Prop where
 |mk (a b:Int) (h0_:vs=[.int a,.int b]) (h1_:0<b) (h2_:b.natAbs<2^8990) (h3_:o1 H Q (cJ a b)):mR K_ vs H Q E_
structure cq(H:Hp)(t l:Addr):Prop where
 ex:∃(ns:List Int) (p:Int),H t=some (.lst [.ref l,.int p])/\H l=some (.lst (ns.map V.int))/\l≠t/\0<ns.length/\ns.length≤1000
theorem cq.lst(h:cq H t l):∃xs,H t=some (.lst xs):=let ⟨_,_,e,_⟩:=h.ex;⟨_,e⟩
theorem cq.lst'(h:cq H t l):∃xs,H l=some (.lst xs):=let ⟨_,_,_,e,_⟩:=h.ex;⟨_,e⟩
theorem cq.same(h:cq H t l)(s:ax H H'):cq H' t l:=let ⟨ns,p,a,b,c⟩:=h.ex;⟨ns,p,s _ _ a,s _ _ b,c⟩
theorem cq.upl(h:cq H t l)(h1:a≠t)(h2:a≠l)(o:HO):cq (upd H a o) t l:=by
 obtain⟨ns,p,e,f,c⟩:=h.ex;exact⟨ns,p,by rw[ai h1.symm];exact e,by rw[ai h2.symm];exact f,c⟩
inductive mN(K_:QJ)(vs:List V)(H:Hp)(Q:VK)(E_:XK):Prop where
 |mk (t l:Addr) (m:Int) (h0_:vs=[.ref t,.int m]) (h1_:cq H t l) (h2_:0<m) (h3_:m<1073741824) (h4_:∀(r:Int) (xs:List V),0≤r->r<m->cq (upd H t (.lst xs)) t l->Q (.int r) (upd H t (.lst xs))):mN K_ vs H Q E_
inductive iO(K:QJ)(vs:List V)(H:Hp)(Q:VK)(E_:XK):Prop where
 |mk (a:Addr) (ns:List Int) (k:Nat) (h0_:vs=[.ref a,.int k]) (h1_:aJ K H a (ns.map V.int)) (h2_:∀z:Int,Q (.int z) H):iO K vs H Q E_
inductive kB(K_:QJ)(vs:List V)(H:Hp)(Q:VK)(E_:XK):Prop where
 |mk (c:Int) (m:Nat) (h0_:vs=[.int c,.int m]) (h1_:0<m) (h2_:m≤1000) (h3_:∀(l:Addr) (ns:List Int) (H':Hp),ax H H'->H l=none->H' l=some (.lst (ns.map V.int))->ns.length=m->Q (.ref l) H'):kB K_ vs H Q E_
inductive mP(K:QJ)(vs:List V)(H:Hp)(Q:VK)(E_:XK):Prop where
 |mk (v w:V) (r q:R) (n m:Nat) (h0_:vs=[v,w]) (h1_:RV K H v r) (h2_:RV K H w q) (h3_:Wf n r) (h4_:Wf m q) (h5_:n+m+1≤3000) (h6_:o1 H Q (aK r q)):mP K vs H Q E_
theorem Bg{rs:List R}(h:rs[i]?=some r):bj (rs.take (i+1))=aK (bj (rs.take i)) r:=by
 unfold bj;rw[Rt,h,Xl];rfl
theorem cq.keep(h:cq H t l)(h1:∀o,H t=some o->H' t=some o)(h2:∀o,H l=some o->H' l=some o):cq H' t l:=by
 obtain⟨ns,p,e,f,c⟩:=h.ex;exact⟨ns,p,h1 _ e,h2 _ f,c⟩
def jH(S:List Addr)(H H':Hp):Prop:=∀b o,b∉S->H b=some o->H' b=some o
theorem jH.trans(a:jH S H H1)(b:jH S H1 H2):jH S H H2:=λc o n e=>b c o n (a c o n e)
theorem jH.of(z:ax H H'):jH S H H':=λb o _ e=>z b o e
theorem jH.tp(o:HO):jH [t] H (upd H t o):=λb o' n e=>by rw[ai (λz=>n (by rw[z];exact Q2.mpr Z))];exact e
theorem EC(h1:1≤a)(h3:1≤b):0<(cJ a b).1:=yD ω ω
theorem jo(z:ax H H')(e:H' x=none):H x=none:=by
 cases q:H x with
 |none=>rfl
 |some o=>rw[z x o q] at e;cases e
inductive ko(K:QJ)(vs:List V)(H:Hp)(Q:VK)(E_:XK):Prop where
 |mk (v w:V) (r q:R) (n m:Nat) (h0_:vs=[v,w]) (h1_:RV K H v r) (h2_:RV K H w q) (h3_:Wf n r) (h4_:Wf m q) (h5_:n+m≤3000) (h6_:o1 H Q (aC r q)):ko K vs H Q E_
structure Wl(K:QJ)(H0:Hp)(t l lw:Addr)(H:Hp)(ws:List Wk):Prop where
 st:jH [t] H0 H
 tb:cq H t l
 hw:∃zs,H lw=some (.lst zs)/\bR (tX K H) zs ws
 ne:lw≠t
 nl:lw≠l
 f0:H0 lw=none
 gd:∀w∈ws,zj w
section
variable {K:QJ}{H0 H H':Hp}{t l lw:Addr}{ws:List Wk}
theorem Wl.same(h:Wl K H0 t l lw H ws)(z:ax H H'):Wl K H0 t l lw H' ws:=by
 obtain⟨zs,e,al⟩:=h.hw;exact⟨h.st.trans (jH.of z),h.tb.same z,⟨zs,z _ _ e,al.mono λ_ _ q=>q.mono (ay.same z)⟩,h.ne,h.nl,h.f0,h.gd⟩
theorem Wl.tape(h:Wl K H0 t l lw H ws)(tb:cq (upd H t (.lst xs)) t l):Wl K H0 t l lw (upd H t (.lst xs)) ws:=by
 obtain⟨zs,e,al⟩:=h.hw;obtain⟨ys,et⟩:=h.tb.lst;exact⟨h.st.trans (jH.tp _),tb,⟨zs,by rw[ai h.ne];exact e,al.mono λ_ _ q=>q.mono (ay.up et xs)⟩,h.ne,h.nl,h.f0,h.gd⟩
theorem Wl.push(h:Wl K H0 t l lw H ws)(e:H lw=some (.lst zs))(al:bR (tX K H) zs ws)(wv:tX K H v w)(gd:zj w):Wl K H0 t l lw (upd H lw (.lst (zs++[v]))) (ws++[w]):=by
 have t':=ay.up (K:=K) e (zs++[v]);refine⟨λb o n q=>by rw[ai (au q h.f0)];exact h.st b o n q,h.tb.keep (λo q=>by rw[ai h.ne.symm];exact q) (λo q=>by rw[ai h.nl.symm];exact q),⟨_,aa,(al.mono λ_ _ q=>q.mono t').snoc (wv.mono t')⟩,h.ne,h.nl,h.f0,λx hx=>?_⟩;rcases Rc.mp hx with z|z
 ·exact h.gd x z
 simp_all
end
def PP(K:QJ)(H:Hp)(v:V)(x y:Int):Prop:=∃p,v=.ref p/\cE K H p [.int x,.int y]
theorem EF(ws:List Wk):(Yv (ws.map Ih)).canLay0=true:=mC λd hd=>by
 obtain⟨c,_,rfl⟩:=QZ.mp hd;rfl
theorem Fj(ws:List Wk):(Yv (ws.map Ih)).depth≤32:=by
 show Yc (ws.map Ih)+1≤32;have:=i7 (k:=2) (ds:=ws.map Ih) λd hd=>by
  obtain⟨x,hx,rfl⟩:=QZ.mp hd;exact QY 2
 lia
inductive km(K:QJ)(vs:List V)(H:Hp)(Q:VK)(E_:XK):Prop where
 |mk (t l:Addr) (mo tu:Int) (h0_:vs=[.ref t,.int mo,.int tu]) (h1_:cq H t l) (h2_:0≤mo) (h3_:mo≤20) (h4_:1≤tu) (h5_:tu≤10) (h6_:∀(v:V) (ws:List Wk) (H':Hp),jH [t] H H'->cq H' t l->va K H' v ws->(ws.length:Int)≤mo->(∀w∈ws,zj w)->Q v H'):km K vs H Q E_
def qc(H H':Hp):Prop:=∀b o,(∀k,o≠HO.dK k)->H b=some o->H' b=some o
section
variable {K:QJ}{C:Addr}{H H' H2:Hp}{p:j6}{s:Ps}
theorem qc.of(z:ax H H'):qc H H':=λb o _ h=>z b o h
theorem qc.up(e:H d=some (.dK k))(k':List (cZ×V)):qc H (upd H d (.dK k')):=λb o n h=>by
 have nb:b≠d:=λz=>by
  grind
 rw[ai nb];exact h
theorem qc.seq(z:qc H H')(h:aJ K H a xs):aJ K H' a xs:=by
 rcases h with(g | ⟨o,g⟩)|g
 ·exact .inl (.inl (z _ _ (λk q=>by cases q) g))
 ·exact .inl (.inr ⟨o,z _ _ (λk q=>by cases q) g⟩)
 ·exact .inr g
theorem qc.tst(z:qc H H'):ay K H H':=λb xs h=>by
 rcases h with(g | ⟨o,g⟩)|g
 ·exact .inl (.inl (z _ _ (λk q=>by cases q) g))
 ·exact .inl (.inr ⟨o,z _ _ (λk q=>by cases q) g⟩)
 ·exact .inr g
theorem qc.lst(z:qc H H')(h:H a=some (.lst xs)):H' a=some (.lst xs):=z _ _ (λk q=>by cases q) h
theorem ib.nod(h:ib K C H p s)(z:qc H H'):ib K C H' p s:=by
 obtain⟨dx,i⟩:=h.ins;obtain⟨xs,x1,x2⟩:=h.hi;exact⟨⟨dx,z _ _ (λk q=>by cases q) i⟩,⟨xs,z.seq x1,x2.mono λ_ _ q=>q.mono z.tst⟩,z.lst h.hw,z.lst h.hr,z.lst h.ho,z.lst h.hp,h.rl,λi q r a b=>z.lst (h.row i q r a b),h.nd,h.nl⟩
end
abbrev Tl:=List (Nat×V)
def ir(tl:Tl):List (cZ×V):=tl.map λx=>(RL (x.1:Int),x.2)
theorem Nm{tl:Tl}{v:Nat}:(gH (ir tl) (RL (v:Int))).isSome=decide (v∈tl.map (·.1)):=by
 induction tl with
 |nil=>rfl
 |cons x r ih=>
  by_cases c:x.1=v
  ·rw[show ir (x::r)=(RL (x.1:Int),x.2)::ir r from Z,fh (by rw[c]),decide_eq_true (by rw[Rr];exact Rm.mpr (.inl c.symm))];rfl
  ·rw[show ir (x::r)=(RL (x.1:Int),x.2)::ir r from Z,fj (λz=>c (by have:(RL (x.1:Int):cZ)=RL (v:Int):=z;injection this with this;lia)),ih];grind
theorem Pp{tl:Tl}{v:Nat}(h:v∉tl.map (·.1)):fY (ir tl) (RL (v:Int)) o=ir (tl++[(v,o)]):=by
 have n:gH (ir tl) (RL (v:Int))=none:=by
  have:=Nm (tl:=tl) (v:=v)
  simp_all
 rw[uA _ n];unfold ir;rw[Rb];rfl
theorem rY:∀{tl:Tl} {v:Nat} {o:V},(tl.map (·.1)).Nodup->(v,o)∈tl->gH (ir tl) (RL (v:Int))=some o
 | [],v,o,_,h=>nomatch h
 |x::r,v,o,nd,h=>by
  rw[Rr,RJ] at nd;rcases Rm.mp h with z|z
  ·subst z;exact fh (p:=((RL (v:Int):cZ),o)) Z
  ·have ne:x.1≠v:=λq=>nd.1 (q▸QZ.mpr ⟨_,z,Z⟩)
   rw[show ir (x::r)=(RL (x.1:Int),x.2)::ir r from Z,fj (λz=>ne (by have:(RL (x.1:Int):cZ)=RL (v:Int):=z;injection this with this;lia))];exact rY nd.2 z
theorem A2(n:Nat):(B.upTo n).map V.int=aQ (QM n):=by unfold aQ B.upTo;rw[RO];rfl
theorem GT{ns:List Nat}(nd:ns.Nodup)(S:Nat->Bool):((QM ns.length).filter S).map (λp=>ns.getD p 0)=ns.filter λj=>S (ns.idxOf j):=by rw[vV nd S];exact DN λj=>S (ns.idxOf j)
theorem Ms(nd:ns.Nodup)(S:Nat->Bool):gW (gW WS ns) ((QM ns.length).filter S)=gW WS (ns.filter λj=>S (ns.idxOf j)):=by rw[vV nd S];exact tM λj=>S (ns.idxOf j)
theorem Mv(h:fr.length=24)(ht:t<24):((fr.getD t 0:Nat):Int)-(((f9 ws fr).getD t 0:Nat):Int)=(((i4 fr ws).getD t 0:Nat):Int):=by
 have e:(f9 ws fr).getD t 0=min (fr.getD t 0) (cb ws t):=aD 0 (by unfold f9;rw[Q4,Tr ω];rfl);rw[mG ht,e];lia
theorem pL:(gW WS L).length=L.length:=QK _
theorem qc.ex(e:H d=some (.dK k))(z:∀b o,b≠d->H b=some o->H' b=some o):qc H H':=λb o n h=>z b o (λq=>by
 rw[q,e] at h;injection h with h;exact n k h.symm) h
theorem zd{β:Type}{P:V->β->Prop}{a:Nat->V}{b:Nat->β}:∀{L:List Nat},(∀i∈L,P (a i) (b i))->bR P (L.map a) (L.map b)
 | [],_=>.nil
 |i::L,h=>.cons (h i QV) (zd λj hj=>h j (QX _ hj))
theorem HX{α:Type}(l:List α):l.filter (λ_=>true)=l:=Sg.mpr λ_ _=>Z
theorem OK(f:fr.length=24)(f5:∀x∈fr,x≤5)(g:∀w∈ws,zj w):dD ws fr≤50:=by
 have e:=gE (ws:=ws) f;have l:=gv (f:=λt=>((min (fr.getD t 0) (cb ws t):Nat):Int)) (g:=λt=>if t<10 then 5 else 0) (n:=24) λt ht=>by
  have a:=f5 (fr.getD t 0) (by rw[aD 0 (QH (by lia:t<fr.length))];exact Ri _)
  split
  ·lia
  ·rename_i c;have z:cb ws t=0:=by
    unfold cb;rw[Tp.mpr λw hw i=>?_]
    ·rfl
    ·have:=(nV.mp i).2;have:=(g w hw).2.1;lia
   lia
 have z:sm (λt=>if t<10 then 5 else 0) 24=50:=δ
 lia
section
variable {WS:List Wk}{ns fr:List Nat}
theorem lO.down(F:lO WS ns fr r U)(h:fr.length=24)(F':lO WS (ns.filter λj=>!U j) (i4 fr (gW WS (ns.filter U))) r' U'):val r'≤val r:=by
 obtain⟨S,b,e⟩:=F'.atn;have ef:(ns.filter λj=>!U j).filter S=ns.filter λj=>S j&&!U j:=Ta
 rw[ef] at b e;have no:∀j∈ns,(U j&&(S j&&!U j))=false:=λj _=>by cases U j<;>cases S j<;>rfl
 have m:=tz (WS:=WS) U (λj=>S j&&!U j) ns;rw[nZ (S:=λj=>U j&&(S j&&!U j)) no] at m;have z:iI (gW WS [])=0:=Z;have le:dD (gW WS (ns.filter λj=>U j||(S j&&!U j))) fr≤dD (gW WS (ns.filter U)) fr+dD (gW WS (ns.filter λj=>S j&&!U j)) (i4 fr (gW WS (ns.filter U))):=by
  have e1:=gE (ws:=gW WS (ns.filter λj=>U j||(S j&&!U j))) h;have e2:=gE (ws:=gW WS (ns.filter U)) h;have e3:=gE (ws:=gW WS (ns.filter λj=>S j&&!U j)) (fr:=i4 fr (gW WS (ns.filter U))) lj;have l:=gv (f:=λt=>((min (fr.getD t 0) (cb (gW WS (ns.filter λj=>U j||(S j&&!U j))) t):Nat):Int)) (g:=λt=>((min (fr.getD t 0) (cb (gW WS (ns.filter U)) t):Nat):Int)+((min ((i4 fr (gW WS (ns.filter U))).getD t 0) (cb (gW WS (ns.filter λj=>S j&&!U j)) t):Nat):Int)) (n:=24) λt ht=>by
   obtain⟨a,_,_⟩:=nQ (WS:=WS) U (λj=>S j&&!U j) t ns;have c0:cb (gW WS (ns.filter λj=>U j&&(S j&&!U j))) t=0:=by rw[nZ no];rfl
   rw[mG ht];lia
  rw[lV] at l;lia
 have t:=F.tight h;have a:=F.all λj=>U j||(S j&&!U j)
 have l:=Se (TV.mpr le) F.nn;rw[TM,Rat.mul_add] at l;have b':(0:Rat)<((dD (gW WS (ns.filter λj=>S j&&!U j)) (i4 fr (gW WS (ns.filter U))):Nat):Rat):=Uo.mpr b;apply Q9;intro q;have:=R4 (Tu.mp q) b';grind
theorem FF.le(a:FF WS f ns fr):fr.length=24->∀{r:R} {U:Nat->Bool},lO WS ns fr r U->∀j∈ns,val (f j)≤val r:=by
 induction a with
 |nil=>intro _ _ _ _ j hj;cases hj
 | @step ns fr r0 U0 F0 h n ih=>
  intro f24 r U F j hj;obtain⟨e,eu⟩:=F.uniq F0;by_cases c:U0 j=true
  ·simp_all
  ·have m:j∈ns.filter λj=>!U0 j:=Q3.mpr ⟨hj,by cases d:U0 j with|true=>exact absurd d c|false=>rfl⟩
   generalize e1:ns.filter (λj=>!U0 j)=ns' at n ih m;generalize e2:i4 fr (gW WS (ns.filter U0))=fr' at n ih
   cases n with
   |nil=>cases m
   | @step _ _ r2 U2 F2 h2 n2=>
    have l:=ih (by rw[←e2];exact lj) F2 j m;rw[←e1,←e2] at F2;have:=F0.down f24 F2;rw[e];exact SK l this
end
def sr(f:Nat->Rat):Nat->Rat
 |0=>0
 |n+1=>sr f n+f n
theorem aU{f g:Nat->Rat}:∀{n:Nat},(∀i,i<n->f i=g i)->sr f n=sr g n
 |0,_=>rfl
 |n+1,h=>by
  show sr f n+f n=sr g n+g n;rw[aU λi hi=>h i ω,h n ω]
theorem eJ{f g:Nat->Rat}:∀{n:Nat},(∀i,i<n->f i≤g i)->sr f n≤sr g n
 |0,_=>R1
 |n+1,h=>by
  show sr f n+f n≤sr g n+g n;have a:=eJ (f:=f) (g:=g) (n:=n) λi hi=>h i ω
  grind
theorem ii(f g:Nat->Rat):∀n:Nat,sr (λi=>f i+g i) n=sr f n+sr g n
 |0=>by show(0:Rat)=0+0;grind
 |n+1=>by
  show sr _ n+(f n+g n)=sr f n+f n+(sr g n+g n);rw[ii f g n];grind
theorem fA(f g:Nat->Rat):∀n:Nat,sr (λi=>f i-g i) n=sr f n-sr g n
 |0=>by show(0:Rat)=0-0;grind
 |n+1=>by
  show sr _ n+(f n-g n)=sr f n+f n-(sr g n+g n);rw[fA f g n];grind
theorem gI(c:Rat)(f:Nat->Rat):∀n:Nat,sr (λi=>c*f i) n=c*sr f n
 |0=>by show(0:Rat)=c*0;grind
 |n+1=>by
  show sr _ n+c*f n=c*(sr f n+f n);rw[gI c f n];grind
theorem gh:∀n:Nat,sr (λ_=>0) n=0
 |0=>rfl
 |n+1=>by
  show sr _ n+0=0;rw[gh n];grind
theorem IW(h:∀i,i<n->0≤f i):0≤sr f n:=by
 have:=eJ (f:=λ_=>0) (g:=f) (n:=n) h;rw[gh] at this;exact this
theorem bY(c:Rat):∀n:Nat,sr (λ_=>c) n=(n:Rat)*c
 |0=>by show(0:Rat)=((0:Nat):Rat)*c;rw[show((0:Nat):Rat)=0 from Z];grind
 |n+1=>by
  show sr _ n+c=_;rw[bY c n,show((n+1:Nat):Rat)=(n:Rat)+1 from TM n 1];grind
theorem eQ(f:Nat->Rat)(a:Nat):∀b:Nat,sr f (a+b)=sr f a+sr (λk=>f (a+k)) b
 |0=>by show sr f a=sr f a+0;grind
 |b+1=>by
  show sr f (a+b)+f (a+b)=_+(sr _ b+f (a+b));rw[eQ f a b];grind
theorem OQ(w f:Nat->Rat):∀n:Nat,sr (λu=>(w u-w (u+1))*sr f (u+1)) n=sr (λu=>w u*f u) n-w n*sr f n
 |0=>by show(0:Rat)=0-w 0*0;grind
 |n+1=>by
  show sr _ n+(w n-w (n+1))*(sr f n+f n)=sr _ n+w n*f n-w (n+1)*(sr f n+f n);rw[OQ w f n];grind
theorem Pz{P:Rat->Rat}{g v u:Nat->Rat}(sub:∀k,k<h->P (v k)+g k*(u k-v k)≤P (u k))(gm:∀k,k+1<h->g (k+1)≤g k)(pre:∀m,m≤h->sr v m≤sr u m)(tot:sr v h=sr u h):sr (λk=>P (v k)) h≤sr (λk=>P (u k)) h:=by
 have e:=eJ sub;rw[ii] at e;have key:0≤sr (λk=>g k*(u k-v k)) h:=by
  have ab:=OQ g (λk=>u k-v k) h;have z:sr (λk=>u k-v k) h=0:=by rw[fA,tot];grind
  rw[z] at ab;have e2:sr (λk=>g k*(u k-v k)) h=sr (λk=>(g k-g (k+1))*sr (λk=>u k-v k) (k+1)) h:=by rw[ab];grind
  rw[e2];refine IW λk hk=>?_
  have p:0≤sr (λk=>u k-v k) (k+1):=by
   rw[fA];grind
  by_cases c:k+1<h
  ·have:=gm k c;exact TC (by grind) p
  ·rw[show k+1=h by lia,z];grind
 grind
structure Ni(h:Nat)(v u:Nat->Rat)(al:Nat)(m:Rat):Prop where
 ah:al≤h
 one:∀k,k≤al->sr v k≤sr u k
 mean:∀k,al≤k->k<h->v k=m
 tot:sr v h=sr u h
 dec:∀k,k+1<h->u (k+1)≤u k
theorem wW{u:Nat->Rat}{h:Nat}(dec:∀k,k+1<h->u (k+1)≤u k){a:Nat}:∀{b:Nat},a≤b->b<h->u b≤u a
 |0,l,_=>by rw[show a=0 by lia];exact R1
 |b+1,l,hb=>by
  by_cases c:a=b+1
  ·simp_all
  ·have:=wW (u:=u) dec (a:=a) (b:=b) ω ω;have:=dec b hb;grind
theorem Ni.pre(E:Ni h v u al m)(hk:k≤h):sr v k≤sr u k:=by
 by_cases c:k≤al
 ·exact E.one k c
 obtain⟨d,rfl⟩:∃d,k=al+d:=⟨k-al,ω⟩;obtain⟨e,rfl⟩:∃e,h=al+d+e:=⟨h-(al+d),ω⟩;have v1:sr v (al+d)=sr v al+(d:Rat)*m:=by
  rw[eQ,aU (g:=λ_=>m) λi hi=>E.mean (al+i) ω ω,bY]
 have v2:sr v (al+d+e)=sr v al+(d:Rat)*m+(e:Rat)*m:=by
  rw[eQ,v1,aU (g:=λ_=>m) λi hi=>E.mean (al+d+i) ω ω,bY]
 apply Q9;intro no;have lt:=Tu.mp no;have o:=E.one al (QY _);have t:=E.tot;by_cases e0:e=0
 ·grind
 have ub:(d:Rat)*u (al+d-1)≤sr u (al+d)-sr u al:=by
  rw[eQ u al d,←bY];have:=eJ (f:=λ_=>u (al+d-1)) (g:=λk=>u (al+k)) (n:=d) λi hi=>wW E.dec (a:=al+i) (b:=al+d-1) ω ω
  grind
 have ua:sr u (al+d+e)-sr u (al+d)≤(e:Rat)*u (al+d-1):=by
  rw[eQ u (al+d) e,←bY];have:=eJ (f:=λk=>u (al+d+k)) (g:=λ_=>u (al+d-1)) (n:=e) λi hi=>wW E.dec (a:=al+d-1) (b:=al+d+i) ω ω
  grind
 have d0:(0:Rat)<(d:Rat):=by
  have:((0:Nat):Rat)<(d:Rat):=VW.mpr ω;exact this
 have e0':(0:Rat)<(e:Rat):=by
  have:((0:Nat):Rat)<(e:Rat):=VW.mpr ω;exact this
 rw[v1] at lt;rw[v2] at t;generalize (d:Rat)=x at *;generalize (e:Rat)=y at *;generalize u (al+d-1)=z at *;have a1:x*z<x*m:=by grind
 have a2:z<m:=by
  apply Q9;intro q;have:=Se (X5.mp q) (SE d0);grind
 have a3:=Se (SE a2) (SE e0');grind
def lQ(f:Nat->Rat)(L:List Nat):Rat:=(L.map f).sum
theorem cW(f:Nat->Rat)(j:Nat)(L:List Nat):lQ f (j::L)=f j+lQ f L:=by
 unfold lQ
 simp_all
theorem dH{f g:Nat->Rat}:∀{L:List Nat},(∀j∈L,f j=g j)->lQ f L=lQ g L
 | [],_=>rfl
 |j::L,h=>by
  rw[cW,cW,h j QV,dH λx hx=>h x (QX _ hx)]
theorem Jr{f:Nat->Rat}:∀{L:List Nat},(∀j∈L,0≤f j)->0≤lQ f L
 | [],_=>R1
 |j::L,h=>by
  have a:=h j QV;have b:=Jr (L:=L) λx hx=>h x (QX _ hx)
  rw[cW];grind
theorem jr(f:Nat->Rat)(U:Nat->Bool):∀L:List Nat,lQ f L=lQ f (L.filter U)+lQ f (L.filter λj=>!U j)
 | []=>by show(0:Rat)=0+0;grind
 |j::L=>by
  have ih:=jr f U L
  cases c:U j with
  |true=>
   rw[RY c,Sq (p:=λj=>!U j) (by rw[c];decide),cW,cW,ih];grind
  |false=>
   rw[Sq (by rw[c];decide),RY (p:=λj=>!U j) (by rw[c];rfl),cW,cW,ih];grind
theorem kX(q:Nat->Nat->Rat)(n:Nat):∀L:List Nat,lQ (λj=>sr (q j) n) L=sr (λt=>lQ (λj=>q j t) L) n
 | []=>(gh n).symm
 |j::L=>by
  rw[cW,kX q n L,←ii];exact aU λt _=>(cW (λj=>q j t) j L).symm
theorem EJ(h:∀j∈L,0≤f j):lQ f (L.filter U)≤lQ f L:=by
 rw[jr f U L];have:=Jr (f:=f) (L:=L.filter λj=>!U j) λj hj=>h j (Q3.mp hj).1
 grind
def jW(WS:List Wk)(L:List Nat)(t:Nat):Nat:=(L.filter λj=>g8 (WS.getD j bI) t).length
theorem yY(WS:List Wk)(L:List Nat)(t:Nat):cb (gW WS L) t=jW WS L t:=by
 unfold cb gW jW;rw[Wo,QK];rfl
theorem yX(WS:List Wk)(U:Nat->Bool)(t:Nat)(L:List Nat):jW WS L t=jW WS (L.filter U) t+jW WS (L.filter λj=>!U j) t:=by
 induction L with
 |nil=>rfl
 |cons j L ih=>
  unfold jW at ih ⊢;grind
theorem EK{WS:List Wk}{q:Nat->Nat->Rat}{c:Rat}{t:Nat}(c0:0≤c):∀{L:List Nat},(∀j∈L,q j t≤c/\(q j t≠0->g8 (WS.getD j bI) t=true))->lQ (λj=>q j t) L≤c*((jW WS L t:Nat):Rat)
 | [],_=>by
  show(0:Rat)≤c*((0:Nat):Rat);rw[show((0:Nat):Rat)=0 from Z];grind
 |j::L,h=>by
  have ih:=EK (WS:=WS) c0 (L:=L) λx hx=>h x (QX _ hx)
  obtain⟨a,b⟩:=h j QV;rw[cW];unfold jW at ih ⊢
  cases d:g8 (WS.getD j bI) t with
  |true=>
   rw[RY (p:=λj=>g8 (WS.getD j bI) t) d,RU,show(((L.filter λj=>g8 (WS.getD j bI) t).length+1:Nat):Rat)=(((L.filter λj=>g8 (WS.getD j bI) t).length:Nat):Rat)+1 from TM _ 1];grind
  |false=>
   grind
theorem yc(f:Nat->Int):∀n:Nat,((sm f n:Int):Rat)=sr (λi=>(f i:Rat)) n
 |0=>rfl
 |n+1=>by
  show((sm f n+f n:Int):Rat)=sr _ n+(f n:Rat);rw[Yd,yc f n]
def bT(WS:List Wk)(ns fr:List Nat)(U:Nat->Bool)(t:Nat):Nat:=min (fr.getD t 0) (jW WS (ns.filter U) t)
theorem Fu(h:fr.length=24):((dD (gW WS (ns.filter U)) fr:Nat):Rat)=sr (λt=>((bT WS ns fr U t:Nat):Rat)) 24:=by
 have e:=gE (ws:=gW WS (ns.filter U)) h;have e2:(((dD (gW WS (ns.filter U)) fr:Nat):Int):Rat)=((sm (λt=>((min (fr.getD t 0) (cb (gW WS (ns.filter U)) t):Nat):Int)) 24:Int):Rat):=by rw[e]
 rw[UD,yc] at e2;rw[e2];refine aU λt _=>?_
 rw[UD,yY];rfl
theorem zc(WS:List Wk)(L:List Nat):iI (gW WS L)=lQ (λj=>val (WS.getD j bI).2.2) L:=by
 unfold iI gW lQ;rw[RO];rfl
structure IH(WS:List Wk)(q:Nat->Nat->Rat)(r:R)(j:Nat):Prop where
 bd:∀t,t<24->0≤q j t/\q j t≤val r/\(q j t≠0->g8 (WS.getD j bI) t=true)
 am:sr (q j) 24=val (WS.getD j bI).2.2
inductive jz(WS:List Wk)(f:Nat->R)(q:Nat->Nat->Rat):List Nat->List Nat->Prop where
 |nil {fr:List Nat}:jz WS f q [] fr
 |step {ns fr:List Nat} {r:R} {U:Nat->Bool} (F:lO WS ns fr r U) (h:∀j∈ns,U j=true->f j=r) (a:∀j∈ns,U j=true->IH WS q r j) (c:∀t,t<24->lQ (λj=>q j t) (ns.filter U)≤val r*((fr.getD t 0:Nat):Rat)) (n:jz WS f q (ns.filter λj=>!U j) (i4 fr (gW WS (ns.filter U)))):jz WS f q ns fr
theorem jz.rnd(h:jz WS f q ns fr):FF WS f ns fr:=by
 induction h with
 |nil=>exact .nil
 |step F h a c n ih=>exact .step F h ih
theorem lU{f g:Nat->Rat}:∀{n:Nat},(∀i,i<n->f i≤g i)->sr f n=sr g n->∀i,i<n->f i=g i
 |0,_,_,i,hi=>absurd hi (TK _)
 |n+1,h,e,i,hi=>by
  have a:=eJ (f:=f) (g:=g) (n:=n) λi hi=>h i ω
  have b:=h n ω;have e':sr f n+f n=sr g n+g n:=e;by_cases c:i=n
  ·subst c;grind
  ·exact lU (n:=n) (λi hi=>h i ω) (by grind) i ω
section
variable {WS:List Wk}{f:Nat->R}{q:Nat->Nat->Rat}{ns fr:List Nat}{r:R}{U:Nat->Bool}
theorem Km(F:lO WS ns fr r U)(a:∀j∈ns,U j=true->IH WS q r j)(c:∀t,t<24->lQ (λj=>q j t) (ns.filter U)≤val r*((fr.getD t 0:Nat):Rat))(ht:t<24):lQ (λj=>q j t) (ns.filter U)≤val r*((bT WS ns fr U t:Nat):Rat):=by
 have x:=c t ht;have y:=EK (WS:=WS) (q:=q) (t:=t) F.nn (L:=ns.filter U) λj hj=>by
  obtain⟨h1,h2⟩:=Q3.mp hj;exact((a j h1 h2).bd t ht).2
 unfold bT;lia
theorem Kn(h24:fr.length=24)(F:lO WS ns fr r U)(a:∀j∈ns,U j=true->IH WS q r j)(c:∀t,t<24->lQ (λj=>q j t) (ns.filter U)≤val r*((fr.getD t 0:Nat):Rat)):∀t,t<24->lQ (λj=>q j t) (ns.filter U)=val r*((bT WS ns fr U t:Nat):Rat):=by
 refine lU (λt ht=>Km F a c ht) ?_;rw[←kX,gI,←Fu h24,←F.tight h24,zc];refine dH λj hj=>?_
 obtain⟨h1,h2⟩:=Q3.mp hj;exact(a j h1 h2).am
end
theorem tw(a b:Nat):((a+b:Nat):Rat)=(a:Rat)+(b:Rat):=TM a b
theorem L7{a b:Nat}(h:a≤b):(a:Rat)≤(b:Rat):=TV.mpr h
theorem sk(nn:∀k,k<h->0≤u k)(ab:a≤b)(bh:b≤h):sr u a≤sr u b:=by
 obtain⟨d,rfl⟩:∃d,b=a+d:=⟨b-a,ω⟩;rw[eQ];have:=IW (f:=λk=>u (a+k)) (n:=d) λk hk=>nn (a+k) ω
 grind
def Ay(b:Nat)(s:Rat)(u:Nat->Rat)(k:Nat):Rat:=if k<b then s else u (k-b)
theorem Ft(b:Nat)(s:Rat)(u:Nat->Rat)(h:a≤b):sr (Ay b s u) a=(a:Rat)*s:=by
 rw[aU (f:=Ay b s u) (g:=λ_=>s) λk hk=>if_pos ω,bY]
theorem wY(b:Nat)(s:Rat)(u:Nat->Rat)(a:Nat):sr (Ay b s u) (b+a)=(b:Rat)*s+sr u a:=by
 rw[eQ,Ft b s u (QY b)]
 congr 1
 refine aU λk _=>?_
 unfold Ay;grind
theorem MG(P:Rat->Rat)(b:Nat)(s:Rat)(u:Nat->Rat)(a:Nat):sr (λk=>P (Ay b s u k)) (b+a)=(b:Rat)*P s+sr (λk=>P (u k)) a:=by
 rw[←wY b (P s) (λk=>P (u k)) a];refine aU λk _=>?_
 unfold Ay
 split<;>rfl
theorem Ik{b:Nat}{h x y:Nat}(us:∀k,k<h->u k≤s)(xb:x≤b)(yh:y≤h):(x:Rat)*s+sr u y≤sr (Ay b s u) (x+y):=by
 by_cases c:x+y≤b
 ·rw[Ft b s u c,tw];have:=eJ (f:=u) (g:=λ_=>s) (n:=y) λk hk=>us k ω
  rw[bY] at this;grind
 ·obtain⟨d,rfl⟩:∃d,b=x+d:=⟨b-x,ω⟩;obtain⟨e,rfl⟩:∃e,y=e+d:=⟨y-d,ω⟩;rw[show x+(e+d)=x+d+e by lia,wY,eQ u e d,tw];have:=eJ (f:=λk=>u (e+k)) (g:=λ_=>s) (n:=d) λk hk=>us (e+k) ω
  rw[bY] at this;grind
structure AS(WS:List Wk)(h:Nat)(a:Nat->Nat->Rat)(v:Nat->Nat->Rat):Prop where
 dom:∀t,t<24->∀T:Nat->Bool,lQ (λj=>a j t) ((QM WS.length).filter T)≤sr (v t) (min h (jW WS ((QM WS.length).filter T) t))
 tot:∀t,t<24->lQ (λj=>a j t) (QM WS.length)=sr (v t) h
 am:∀j,j<WS.length->sr (a j) 24=val (WS.getD j bI).2.2
structure Cvx(P g:Rat->Rat)(D:Rat->Prop):Prop where
 sub:∀s x,D s->D x->P s+g s*(x-s)≤P x
 up:∀s x,D s->D x->s≤x->g s≤g x
 z:D 0
structure IA(WS:List Wk)(q:Nat->Nat->Rat)(f:Nat->R)(ns:List Nat)(n t:Nat)(P:Rat->Rat)(ρ:Rat)(u:Nat->Rat):Prop where
 dec:∀k,k+1<n->u (k+1)≤u k
 val_:∀k,k<n->u k=0∨∃j∈ns,u k=val (f j)
 nn:∀k,k<n->0≤u k
 pw:sr (λk=>P (u k)) n=ρ
 sub:∀T:Nat->Bool,lQ (λj=>q j t) (ns.filter T)≤sr u (min n (jW WS (ns.filter T) t))
 tot:lQ (λj=>q j t) ns=sr u n
section
variable {WS:List Wk}{f:Nat->R}{q:Nat->Nat->Rat}{P g:Rat->Rat}{D:Rat->Prop}
theorem pN(U T:Nat->Bool)(L:List Nat):(L.filter T).filter U=(L.filter U).filter T:=by
 rw[Ta,Ta];refine Sj λj _=>?_
 exact aav _ _
theorem IA.cons(h24:fr.length=24)(ht:t<24)(F:lO WS ns fr r U)(hf:∀j∈ns,U j=true->f j=r)(a:∀j∈ns,U j=true->IH WS q r j)(c:∀t,t<24->lQ (λj=>q j t) (ns.filter U)≤val r*((fr.getD t 0:Nat):Rat))(le:∀j∈ns,val (f j)≤val r)(I:IA WS q f (ns.filter λj=>!U j) ((i4 fr (gW WS (ns.filter U))).getD t 0) t P ρ u):IA WS q f ns (fr.getD t 0) t P (((bT WS ns fr U t:Nat):Rat)*P (val r)+ρ) (Ay (bT WS ns fr U t) (val r) u):=by
 have eq:=Kn h24 F a c t ht;have e:=mG (fr:=fr) (ws:=gW WS (ns.filter U)) ht;rw[yY] at e;have eb:bT WS ns fr U t=min (fr.getD t 0) (jW WS (ns.filter U) t):=Z;obtain⟨n',hn⟩:∃n',n'=(i4 fr (gW WS (ns.filter U))).getD t 0:=⟨_,Z⟩;rw[←hn] at I e;have en:fr.getD t 0=bT WS ns fr U t+n':=ω
 have us:∀k,k<n'->u k≤val r:=λk hk=>by
  rcases I.val_ k hk with z | ⟨j,hj,z⟩
  ·rw[z];exact F.nn
  ·rw[z];exact le j (Q3.mp hj).1
 obtain⟨j0,hj0,uj0⟩:=F.some h24;rw[en];generalize bT WS ns fr U t=b at *;refine⟨λk hk=>?_,λk hk=>?_,λk hk=>?_,?_,λT=>?_,?_⟩
 ·unfold Ay;by_cases c1:k+1<b
  ·rw[if_pos c1,if_pos ω];exact R1
  ·rw[if_neg c1];by_cases c2:k<b
   ·rw[if_pos c2];exact us _ ω
   ·rw[if_neg c2,show k+1-b=k-b+1 by lia];exact I.dec _ ω
 ·unfold Ay;by_cases c1:k<b
  ·grind
  ·rw[if_neg c1];rcases I.val_ (k-b) ω with z | ⟨j,hj,z⟩
   ·exact .inl z
   ·exact .inr ⟨j,(Q3.mp hj).1,z⟩
 ·unfold Ay
  split
  ·exact F.nn
  ·exact I.nn _ ω
 ·rw[MG,I.pw]
 ·have p:=jr (λj=>q j t) U (ns.filter T);have pc:=yX WS U t (ns.filter T);have s2:=I.sub T;have e1:((ns.filter T).filter λj=>!U j)=(ns.filter λj=>!U j).filter T:=pN _ _ _;rw[e1] at p pc;have x1:lQ (λj=>q j t) ((ns.filter T).filter U)≤((min b (jW WS ((ns.filter T).filter U) t):Nat):Rat)*val r:=by
   rcases Nat.le_total b (jW WS ((ns.filter T).filter U) t) with z|z
   ·rw[VB z,pN];have s1:=EJ (f:=λj=>q j t) (U:=T) (L:=ns.filter U) λj hj=>by
     obtain⟨h1,h2⟩:=Q3.mp hj;exact((a j h1 h2).bd t ht).1
    rw[eq] at s1;grind
   ·rw[Wd z];have s1:=EK (WS:=WS) (q:=q) (t:=t) F.nn (L:=(ns.filter T).filter U) λj hj=>by
     obtain⟨h1,h2⟩:=Q3.mp hj;exact((a j (Q3.mp h1).1 h2).bd t ht).2
    grind
  have sb:=Ik (b:=b) (s:=val r) (u:=u) (h:=n') (x:=min b (jW WS ((ns.filter T).filter U) t)) (y:=min n' (jW WS ((ns.filter λj=>!U j).filter T) t)) us ω ω;have mo:=sk (u:=Ay b (val r) u) (h:=b+n') (λk hk=>by
   unfold Ay
   split
   ·exact F.nn
   ·exact I.nn _ ω) (a:=min b (jW WS ((ns.filter T).filter U) t)+min n' (jW WS ((ns.filter λj=>!U j).filter T) t)) (b:=min (b+n') (jW WS (ns.filter T) t)) ω ω
  grind
 ·rw[jr _ U ns,eq,I.tot,wY];grind
end
section
variable {WS:List Wk}{h:Nat}{a:Nat->Nat->Rat}{v:Nat->Nat->Rat}
def qi(WS:List Wk)(h:Nat)(v:Nat->Nat->Rat)(ns fr:List Nat):Rat:=lQ (λj=>val (WS.getD j bI).2.2) ns-sr (λt=>sr (v t) h-sr (v t) (h-fr.getD t 0)) 24
structure At(WS:List Wk)(h:Nat)(ns fr:List Nat):Prop where
 len:fr.length=24
 ex:∃S:Nat->Bool,ns=(QM WS.length).filter S/\∀t,t<24->fr.getD t 0=h-min h (jW WS ((QM WS.length).filter λj=>!S j) t)
theorem At.next(A:At WS h ns fr):At WS h (ns.filter λj=>!U j) (i4 fr (gW WS (ns.filter U))):=by
 obtain⟨S,rfl,e⟩:=A.ex;refine⟨lj,λj=>S j&&!U j,?_,λt ht=>?_⟩
 ·rw[Ta];refine Sj λj _=>?_
  exact aav _ _
 ·rw[mG ht,yY,e t ht];have p:=yX WS (λj=>!S j) t ((QM WS.length).filter λj=>!(S j&&!U j));have e1:(((QM WS.length).filter λj=>!(S j&&!U j)).filter λj=>!S j)=(QM WS.length).filter λj=>!S j:=by
   rw[Ta];refine Sj λj _=>?_
   cases S j<;>cases U j<;>rfl
  have e2:(((QM WS.length).filter λj=>!(S j&&!U j)).filter λj=>!!S j)=((QM WS.length).filter S).filter U:=by
   rw[Ta,Ta];refine Sj λj _=>?_
   cases S j<;>cases U j<;>rfl
  rw[e1,e2] at p;rw[p];lia
theorem At.start:At WS h (QM WS.length) (Q0 24 h):=by
 refine⟨R0,λ_=>true,(Sg.mpr λ_ _=>Z).symm,λt ht=>?_⟩;rw[aD 0 (SX ht)];have:((QM WS.length).filter λj=>!(λ_=>true) j)=[]:=Tp.mpr λj _=>by simp
 rw[this];show h=h-min h 0;lia
theorem AS.tot_am(O:AS WS h a v):sr (λt=>sr (v t) h) 24=lQ (λj=>val (WS.getD j bI).2.2) (QM WS.length):=by
 rw[aU (g:=λt=>lQ (λj=>a j t) (QM WS.length)) λt ht=>(O.tot t ht).symm,←kX];exact dH λj hj=>O.am j (Q5.mp hj)
theorem yS(O:AS WS h a v)(A:At WS h ns fr):0≤qi WS h v ns fr:=by
 obtain⟨S,rfl,e⟩:=A.ex;have t1:=O.tot_am;have p:=jr (λj=>val (WS.getD j bI).2.2) S (QM WS.length);have d:lQ (λj=>val (WS.getD j bI).2.2) ((QM WS.length).filter λj=>!S j)≤sr (λt=>sr (v t) (h-fr.getD t 0)) 24:=by
  have x:lQ (λj=>val (WS.getD j bI).2.2) ((QM WS.length).filter λj=>!S j)=lQ (λj=>sr (a j) 24) ((QM WS.length).filter λj=>!S j):=dH λj hj=>(O.am j (Q5.mp (Q3.mp hj).1)).symm
  rw[x,kX];refine eJ λt ht=>?_
  rw[e t ht,show h-(h-min h (jW WS ((QM WS.length).filter λj=>!S j) t))=min h (jW WS ((QM WS.length).filter λj=>!S j) t) by lia];exact O.dom t ht λj=>!S j
 unfold qi;rw[fA,t1,p];grind
theorem wV(O:AS WS h a v):qi WS h v (QM WS.length) (Q0 24 h)=0:=by
 unfold qi;rw[aU (g:=λt=>sr (v t) h) λt ht=>by
  rw[aD 0 (SX ht),ZA];show sr (v t) h-0=_;grind,O.tot_am]
 grind
end
section
variable {WS:List Wk}{f:Nat->R}{q:Nat->Nat->Rat}{P g:Rat->Rat}{D:Rat->Prop}{h:Nat}
def Jh(P:Rat->Rat)(h:Nat)(v:Nat->Nat->Rat)(fr:List Nat):Rat:=sr (λt=>sr (λk=>P (v t k)) h-sr (λk=>P (v t k)) (h-fr.getD t 0)) 24
theorem vK(C:Cvx P g D)(R:jz WS f q ns fr):At WS h ns fr->(∀j∈ns,D (val (f j)))->∃ρ:Nat->Rat,(∀t,t<24->∃u,IA WS q f ns (fr.getD t 0) t P (ρ t) u)/\∀(a v:Nat->Nat->Rat),AS WS h a v->(∀t,t<24->∀k,k<h->D (v t k))->∀γ,g 0≤γ->(∀j∈ns,g (val (f j))≤γ)->sr ρ 24-γ*qi WS h v ns fr≤Jh P h v fr:=by
 induction R with
 | @nil fr=>
  intro A _;refine⟨λt=>((fr.getD t 0:Nat):Rat)*P 0,λt _=>⟨λ_=>0,λk _=>R1,λk _=>.inl Z,λk _=>R1,bY _ _,λT=>?_,?_⟩,λa v O dv γ g0 _=>?_⟩
  ·rw[gh];exact R1
  ·rw[gh];rfl
  ·have dn:=yS O A;obtain⟨S,_,e⟩:=A.ex;have key:sr (λt=>((fr.getD t 0:Nat):Rat)*P 0+g 0*(sr (v t) h-sr (v t) (h-fr.getD t 0))) 24≤Jh P h v fr:=by
    refine eJ λt ht=>?_
    have hl:fr.getD t 0≤h:=by rw[e t ht];lia
    obtain⟨m,hm⟩:∃m,h=m+fr.getD t 0:=⟨h-fr.getD t 0,ω⟩;have x:=eJ (f:=λk=>P 0+g 0*v t (m+k)) (g:=λk=>P (v t (m+k))) (n:=fr.getD t 0) λk hk=>by
     have:=C.sub 0 (v t (m+k)) C.z (dv t ht _ ω);grind
    rw[ii,bY,gI] at x;have e1:sr (λk=>P (v t k)) h=sr (λk=>P (v t k)) (h-fr.getD t 0)+sr (λk=>P (v t (m+k))) (fr.getD t 0):=by
     rw[show h-fr.getD t 0=m by lia,←eQ (λk=>P (v t k)) m,←hm]
    have e2:sr (v t) h=sr (v t) (h-fr.getD t 0)+sr (λk=>v t (m+k)) (fr.getD t 0):=by
     rw[show h-fr.getD t 0=m by lia,←eQ (v t) m,←hm]
    rw[e1,e2];grind
   rw[ii,gI] at key;have ed:qi WS h v [] fr=0-sr (λt=>sr (v t) h-sr (v t) (h-fr.getD t 0)) 24:=Z;have mg:=RE g0 dn;rw[ed] at mg ⊢;grind
 | @step ns fr r U F hf am cp n ih=>
  intro A hd;have h24:=A.len;have A':=A.next (U:=U);obtain⟨ρ,s1,low⟩:=ih A' λj hj=>hd j (Q3.mp hj).1
  have rn:=(jz.step F hf am cp n).rnd;have le:=rn.le h24 F;obtain⟨j0,hj0,uj0⟩:=F.some h24;have dr:D (val r):=by rw[←hf j0 hj0 uj0];exact hd j0 hj0
  refine⟨λt=>((bT WS ns fr U t:Nat):Rat)*P (val r)+ρ t,λt ht=>?_,λa v O dv γ g0 gj=>?_⟩
  ·obtain⟨u,I⟩:=s1 t ht;exact⟨_,IA.cons h24 ht F hf am cp le I⟩
  ·have gr:g (val r)≤γ:=by rw[←hf j0 hj0 uj0];exact gj j0 hj0
   have L:=low a v O dv (g (val r)) (C.up 0 (val r) C.z dr F.nn) λj hj=>C.up _ _ (hd j (Q3.mp hj).1) dr (le j (Q3.mp hj).1)
   have dn:=yS O A;obtain⟨S,eS,e⟩:=A.ex;have fb:∀t,t<24->(i4 fr (gW WS (ns.filter U))).getD t 0+bT WS ns fr U t=fr.getD t 0/\fr.getD t 0≤h:=λt ht=>by
    have x:=mG (fr:=fr) (ws:=gW WS (ns.filter U)) ht;rw[yY] at x;have y:bT WS ns fr U t=min (fr.getD t 0) (jW WS (ns.filter U) t):=Z;grind
   have key:sr (λt=>((bT WS ns fr U t:Nat):Rat)*P (val r)+g (val r)*(sr (v t) (h-(i4 fr (gW WS (ns.filter U))).getD t 0)-sr (v t) (h-fr.getD t 0)-((bT WS ns fr U t:Nat):Rat)*val r)) 24≤sr (λt=>sr (λk=>P (v t k)) (h-(i4 fr (gW WS (ns.filter U))).getD t 0)-sr (λk=>P (v t k)) (h-fr.getD t 0)) 24:=by
    refine eJ λt ht=>?_
    obtain⟨f1,f2⟩:=fb t ht;generalize bT WS ns fr U t=b at *;obtain⟨m,hm⟩:∃m,h-fr.getD t 0=m:=⟨_,Z⟩;have hm':h-(i4 fr (gW WS (ns.filter U))).getD t 0=m+b:=ω
    rw[hm,hm',eQ (v t) m,eQ (λk=>P (v t k)) m];have x:=eJ (f:=λk=>P (val r)+g (val r)*(v t (m+k)-val r)) (g:=λk=>P (v t (m+k))) (n:=b) λk hk=>C.sub _ _ dr (dv t ht _ ω)
    rw[ii,bY,gI,fA,bY] at x;grind
   have es:=F.tight h24;rw[zc,Fu h24] at es;have p:=jr (λj=>val (WS.getD j bI).2.2) U ns;have ed:qi WS h v (ns.filter λj=>!U j) (i4 fr (gW WS (ns.filter U)))=qi WS h v ns fr-lQ (λj=>val (WS.getD j bI).2.2) (ns.filter U)+sr (λt=>sr (v t) (h-(i4 fr (gW WS (ns.filter U))).getD t 0)-sr (v t) (h-fr.getD t 0)) 24:=by
    unfold qi;rw[p,fA,fA,fA];grind
   have ep:Jh P h v fr=Jh P h v (i4 fr (gW WS (ns.filter U)))+sr (λt=>sr (λk=>P (v t k)) (h-(i4 fr (gW WS (ns.filter U))).getD t 0)-sr (λk=>P (v t k)) (h-fr.getD t 0)) 24:=by
    unfold Jh;rw[fA,fA,fA];grind
   have k1:sr (λt=>((bT WS ns fr U t:Nat):Rat)*P (val r)+g (val r)*(sr (v t) (h-(i4 fr (gW WS (ns.filter U))).getD t 0)-sr (v t) (h-fr.getD t 0)-((bT WS ns fr U t:Nat):Rat)*val r)) 24=sr (λt=>((bT WS ns fr U t:Nat):Rat)*P (val r)) 24+g (val r)*(sr (λt=>sr (v t) (h-(i4 fr (gW WS (ns.filter U))).getD t 0)-sr (v t) (h-fr.getD t 0)) 24-val r*sr (λt=>((bT WS ns fr U t:Nat):Rat)) 24):=by
    rw[ii,gI,fA,aU (f:=λt=>((bT WS ns fr U t:Nat):Rat)*val r) (g:=λt=>val r*((bT WS ns fr U t:Nat):Rat)) λt _=>by grind,gI]
   rw[k1] at key;rw[ed] at L;rw[ii,ep];have mg:=RE gr dn;generalize sr (λt=>sr (v t) (h-(i4 fr (gW WS (ns.filter U))).getD t 0)-sr (v t) (h-fr.getD t 0)) 24=X at *;generalize sr (λt=>((bT WS ns fr U t:Nat):Rat)) 24=B at *;generalize lQ (λj=>val (WS.getD j bI).2.2) (ns.filter U)=Y at *;generalize qi WS h v ns fr=ZZ at *;generalize Jh P h v (i4 fr (gW WS (ns.filter U)))=W at *;subst es;grind
theorem rN(g:Nat->Rat)(x:Rat):∀L:List Nat,∃γ,x≤γ/\∀j∈L,g j≤γ
 | []=>⟨x,R1,λj h=>by cases h⟩
 |j::L=>by
  obtain⟨γ,a,b⟩:=rN g x L;by_cases c:g j≤γ
  ·grind
  ·have c:=SE (Tu.mp c);refine⟨g j,SK a c,λi hi=>?_⟩;grind
def Ji(P:Rat->Rat)(h:Nat)(v:Nat->Nat->Rat):Rat:=sr (λt=>sr (λk=>P (v t k)) h) 24
theorem Ae(C:Cvx P g D)(R:jz WS f q (QM WS.length) (Q0 24 h))(hd:∀j,j<WS.length->D (val (f j))):∃ρ:Nat->Rat,(∀t,t<24->∃u,IA WS q f (QM WS.length) h t P (ρ t) u)/\∀(a v:Nat->Nat->Rat),AS WS h a v->(∀t,t<24->∀k,k<h->D (v t k))->sr ρ 24≤Ji P h v:=by
 obtain⟨ρ,s1,low⟩:=vK C R At.start λj hj=>hd j (Q5.mp hj)
 refine⟨ρ,λt ht=>?_,λa v O dv=>?_⟩
 ·have:=s1 t ht;rw[aD 0 (SX ht)] at this;exact this
 ·obtain⟨γ,g0,gj⟩:=rN (λj=>g (val (f j))) (g 0) (QM WS.length);have L:=low a v O dv γ g0 gj;rw[wV O] at L;have e:Jh P h v (Q0 24 h)=Ji P h v:=by
   unfold Jh Ji;refine aU λt ht=>?_
   rw[aD 0 (SX ht),ZA];show _-0=_;grind
  rw[e] at L;grind
theorem EE(C:Cvx P g D)(I:IA WS q f (QM WS.length) h t P ρ u)(E:Ni h v u al m)(dv:∀k,k<h->D (v k))(du:∀k,k<h->D (u k))(vd:∀k,k+1<h->v (k+1)≤v k):sr (λk=>P (v k)) h≤ρ:=by
 rw[←I.pw];exact Pz (g:=λk=>g (v k)) (λk hk=>C.sub _ _ (dv k hk) (du k hk)) (λk hk=>C.up _ _ (dv _ hk) (dv _ ω) (vd k hk)) (λk hk=>E.pre hk) E.tot
theorem ug(ap:∀j∈QM WS.length,0<val (WS.getD j bI).2.2)(F:lO WS (QM WS.length) (Q0 24 h) r U)(O:AS WS h a v):∃t k,t<24/\k<h/\val r≤v t k:=by
 apply Q9;intro no;have lt:∀t,t<24->∀k,k<h->v t k<val r:=λt ht k hk=>Tu.mp λz=>no ⟨t,k,ht,hk,z⟩
 have h24:(Q0 24 h).length=24:=R0;have es:=F.tight h24;rw[zc,Fu h24] at es;have fb:∀t,t<24->bT WS (QM WS.length) (Q0 24 h) U t=min h (jW WS ((QM WS.length).filter U) t):=λt ht=>by
  unfold bT;rw[aD 0 (SX ht)]
 have d:lQ (λj=>val (WS.getD j bI).2.2) ((QM WS.length).filter U)≤sr (λt=>sr (v t) (bT WS (QM WS.length) (Q0 24 h) U t)) 24:=by
  have x:lQ (λj=>val (WS.getD j bI).2.2) ((QM WS.length).filter U)=lQ (λj=>sr (a j) 24) ((QM WS.length).filter U):=dH λj hj=>(O.am j (Q5.mp (Q3.mp hj).1)).symm
  rw[x,kX];refine eJ λt ht=>?_
  rw[fb t ht];exact O.dom t ht U
 have each:∀t,t<24->sr (v t) (bT WS (QM WS.length) (Q0 24 h) U t)≤val r*((bT WS (QM WS.length) (Q0 24 h) U t:Nat):Rat):=λt ht=>by
  have x:=eJ (f:=v t) (g:=λ_=>val r) (n:=bT WS (QM WS.length) (Q0 24 h) U t) λk hk=>SE (lt t ht k (by rw[fb t ht] at hk;lia))
  rw[bY] at x;grind
 have e1:=lU each (Um (eJ each) (by rw[gI,←es];exact d));obtain⟨j0,hj0,uj0⟩:=F.some h24;have all0:∀t,t<24->bT WS (QM WS.length) (Q0 24 h) U t=0:=λt ht=>by
  apply Q9;intro z;obtain⟨b,hb⟩:∃b,bT WS (QM WS.length) (Q0 24 h) U t=b+1:=⟨_,(Nat.succ_pred_eq_of_pos (Nat.pos_of_ne_zero z)).symm⟩;have hbh:b+1≤h:=by rw[←hb,fb t ht];lia
  have q:=e1 t ht;rw[hb,show((b+1:Nat):Rat)=(b:Rat)+1 from TM b 1] at q;have q':sr (v t) b+v t b=val r*((b:Rat)+1):=q;have l1:=lt t ht b ω;have l2:=eJ (f:=v t) (g:=λ_=>val r) (n:=b) λk hk=>SE (lt t ht k ω)
  rw[bY] at l2;grind
 have pos:=xf (WS:=WS) ap hj0 uj0;rw[zc,es,aU (g:=λ_=>0) λt ht=>by rw[all0 t ht];rfl,gh] at pos
 simp_all
end
theorem ie(h:0<r.2):0≤val r↔0≤r.1:=by
 have zz:val ((0,1):R)=0:=(bX (r:=(0,1)) δ).mpr Z;rw[←zz,←bD (r:=r) (q:=(0,1)) h δ,fy];lia
abbrev Pc:=Nat×R
def IF(K:QJ)(H:Hp)(v:V)(c:Pc):Prop:=∃p x,v=.ref p/\cE K H p [.int (c.1:Nat),x]/\RV K H x c.2
theorem IF.mono{K:QJ}{H H':Hp}{v:V}{c:Pc}(h:IF K H v c)(t:ay K H H'):IF K H' v c:=let ⟨p,x,e,s,r⟩:=h;⟨p,x,e,t _ _ s,r.mono t⟩
def MU(K:QJ)(H:Hp)(v:V)(q:List Pc):Prop:=∃p xs,v=.ref p/\cE K H p xs/\bR (IF K H) xs q
theorem MU.mono{K:QJ}{H H':Hp}{v:V}{q:List Pc}(h:MU K H v q)(t:ay K H H'):MU K H' v q:=let ⟨p,x,e,s,r⟩:=h;⟨p,x,e,t _ _ s,r.mono λ_ _ z=>z.mono t⟩
def FN(K:QJ)(H:Hp)(v:V)(pl:List (List Pc)):Prop:=∃p xs,v=.ref p/\cE K H p xs/\bR (MU K H) xs pl
theorem kP{a b:List Rat}(p:a.Perm b):a.sum=b.sum:=by
 induction p with
 |nil=>rfl
 |cons x _ ih=>rw[Sc,Sc,ih]
 |swap x y l=>rw[Sc,Sc,Sc,Sc];grind
 |trans _ _ h1 h2=>rw[h1,h2]
theorem sj:∀{S M ZZ:List Rat},S.Perm (M++ZZ)->S.Pairwise (λa b=>b≤a)->M.sum≤(S.take M.length).sum
 | [],M,ZZ,p,_=>by
  simp_all
 |s::S,[],ZZ,p,so=>R1
 |s::S,m::M,ZZ,p,so=>by
  obtain⟨h1,h2⟩:=SN.mp so;have top:∀x∈(m::M)++ZZ,x≤s:=λx hx=>by
   rcases Rm.mp (p.mem_iff.mpr hx) with z|z
   ·rw[z];exact R1
   ·exact h1 x z
  rw[RU,List.take_succ_cons,Sc,Sc];by_cases c:s∈m::M
  ·-- the greatest one is among them
   have p1:(m::M).Perm (s::(m::M).erase s):=Yw c;have p2:S.Perm ((m::M).erase s++ZZ):=UZ (p.trans (p1.append_right ZZ));have ih:=sj p2 h2;have el:((m::M).erase s).length=M.length:=by rw[List.length_erase_of_mem c,RU];lia
   rw[el] at ih;have es:m+M.sum=s+((m::M).erase s).sum:=by
    have:=kP p1;rw[Sc,Sc] at this;exact this
   rw[es];grind
  ·have cz:s∈ZZ:=by
    rcases Rc.mp (p.mem_iff.mp QV) with z|z
    ·exact absurd z c
    ·exact z
   have p1:ZZ.Perm (s::ZZ.erase s):=Yw cz;have p2:S.Perm (M++(m::ZZ.erase s)):=by
    refine UZ (p.trans ?_);refine(p1.append_left (m::M)).trans ?_;refine XS.trans ?_;exact(XS (a:=m) (l₁:=M) (l₂:=ZZ.erase s)).symm.cons s
   have ih:=sj p2 h2;have:=top m (RN _ QV);grind
structure vc(h:Nat)(S:List Rat)(al:Nat)(μ:Rat):Prop where
 so:S.Pairwise (λa b=>b≤a)
 nn:∀x∈S,0≤x
 ls:al≤S.length
 lh:al<h
 mean:μ*((h-al:Nat):Rat)=(S.drop al).sum
 st:∀x∈S.drop al,x≤μ
 go:∀x∈S.take al,μ≤x
def pG(S:List Rat)(al:Nat)(μ:Rat)(k:Nat):Rat:=if k<al then S.getD k 0 else μ
section
variable {h al:Nat}{S:List Rat}{μ:Rat}
theorem ig{L:List Rat}:∀{n:Nat},n≤L.length->sr (λk=>L.getD k 0) n=(L.take n).sum
 |0,_=>rfl
 |n+1,hn=>by
  have hl:n<L.length:=ω
  show sr _ n+L.getD n 0=_;rw[ig (L:=L) (n:=n) ω,Rt,QH hl,S9,Q1,QH hl];grind
theorem vc.mu(H:vc h S al μ):0≤μ:=by
 have lh:=H.lh;have d0:(0:Rat)<((h-al:Nat):Rat):=by
  have:((0:Nat):Rat)<((h-al:Nat):Rat):=VW.mpr ω;exact this
 have s0:0≤(S.drop al).sum:=by
  have go:∀l:List Rat,(∀x∈l,0≤x)->0≤l.sum:=λl=>by
   induction l with
   |nil=>intro _;exact R1
   |cons x l ih=>
    intro hx;have a:=hx x QV;grind
  exact go _ λx hx=>H.nn x (Sw hx)
 rw[←H.mean] at s0;apply Q9;intro z;have a:=Tu.mp z;have b:=R4 a d0;grind
theorem EZ(hn:n≤al):sr (pG S al μ) n=sr (λk=>S.getD k 0) n:=aU λk hk=>if_pos ω
theorem JA(d:Nat):sr (pG S al μ) (al+d)=sr (λk=>S.getD k 0) al+(d:Rat)*μ:=by
 rw[eQ,EZ (QY al),aU (f:=λk=>pG S al μ (al+k)) (g:=λ_=>μ) λk _=>if_neg ω,bY]
theorem vc.tot(H:vc h S al μ):sr (pG S al μ) h=S.sum:=by
 obtain⟨d,hd⟩:∃d,h=al+d:=⟨h-al,by have:=H.lh;lia⟩;have m:=H.mean;subst hd;rw[show al+d-al=d by lia] at m;have e:S.sum=(S.take al).sum+(S.drop al).sum:=by rw[←S9,U7]
 rw[JA,ig H.ls,e,←m];grind
theorem vc.nnv(H:vc h S al μ)(k:Nat):0≤pG S al μ k:=by
 unfold pG
 split
 ·rename_i c;have hl:k<S.length:=by have:=H.ls;lia
  rw[Q1,QH hl];exact H.nn _ (Ri hl)
 ·exact H.mu
theorem vc.dec(H:vc h S al μ)(k:Nat):pG S al μ (k+1)≤pG S al μ k:=by
 have ls:=H.ls;unfold pG;by_cases c:k+1<al
 ·rw[if_pos c,if_pos ω];have a:k<S.length:=ω
  have b:k+1<S.length:=ω
  rw[Q1,QH b,Q1,QH a];exact R8.mp H.so k (k+1) a b ω
 ·rw[if_neg c];by_cases d:k<al
  ·rw[if_pos d];have a:k<S.length:=ω
   rw[Q1,QH a];exact H.go _ (List.mem_take_iff_getElem.mpr ⟨k,ω,Z⟩)
  grind
theorem vc.first(H:vc h S al μ)(hm:m≤S.length):(S.take m).sum≤sr (pG S al μ) (min h m):=by
 have ls:=H.ls;have lh:=H.lh;by_cases c:m≤al
 ·rw[show min h m=m by lia,EZ c,ig ω];exact R1
 ·obtain⟨d,rfl⟩:∃d,m=al+d:=⟨m-al,ω⟩;have each:((S.drop al).take d).sum≤(((S.drop al).take d).length:Rat)*μ:=by
   have go:∀l:List Rat,(∀x∈l,x≤μ)->l.sum≤(l.length:Rat)*μ:=λl=>by
    induction l with
    |nil=>intro _;show(0:Rat)≤((0:Nat):Rat)*μ;rw[show((0:Nat):Rat)=0 from Z];grind
    |cons x l ih=>
     intro hx;have a:=hx x QV;have b:=ih λy hy=>hx y (QX _ hy)
     rw[Sc,RU,tw];grind
   exact go _ λx hx=>H.st x (Sx hx)
  have e:(S.take (al+d)).sum=(S.take al).sum+((S.drop al).take d).sum:=by
   rw[List.take_add,S9]
  by_cases c2:al+d≤h
  ·rw[show min h (al+d)=al+d by lia,JA,ig ls,e];have le:(((S.drop al).take d).length:Rat)≤(d:Rat):=L7 (by rw[RD];lia);have:=RE le H.mu;grind
  ·rw[show min h (al+d)=h by lia,H.tot];have e3:S.sum=(S.take (al+d)).sum+(S.drop (al+d)).sum:=by rw[←S9,U7]
   have go:∀l:List Rat,(∀x∈l,0≤x)->0≤l.sum:=λl=>by
    induction l with
    |nil=>intro _;exact R1
    |cons x l ih=>
     intro hx;have a:=hx x QV;grind
   have:=go (S.drop (al+d)) λx hx=>H.nn x (Sw hx)
   rw[e3];grind
theorem vc.evn(H:vc h S al μ)(one:∀k,k≤al->(S.take k).sum≤sr u k)(tot:S.sum=sr u h)(dec:∀k,k+1<h->u (k+1)≤u k):Ni h (pG S al μ) u al μ:=by
 have lh:=H.lh;have ls:=H.ls;refine⟨ω,λk hk=>?_,λk hk _=>if_neg ω,by rw[H.tot,tot],dec⟩;rw[EZ hk,ig ω];exact one k hk
end
def u9(pl:List (List Pc))(j t:Nat):Rat:=(((pl.getD t []).filter λc=>decide (c.1=j)).map λc=>val c.2).sum
theorem tq:∀{l L:List Nat},l.Nodup->(∀x∈l,x∈L)->l.length≤L.length
 | [],_,_,_=>Rq _
 |x::l,L,nd,h=>by
  obtain⟨h1,h2⟩:=RJ.mp nd;have mx:=h x QV;have ih:=tq (l:=l) (L:=L.erase x) h2 λy hy=>by
   grind
  grind
theorem EL(f g:Nat->Rat):∀L:List Nat,lQ (λj=>f j+g j) L=lQ f L+lQ g L
 | []=>by show(0:Rat)=0+0;grind
 |j::L=>by
  rw[cW,cW,cW,EL f g L];grind
theorem yK{x:Rat}{i:Nat}:∀{L:List Nat},L.Nodup->lQ (λj=>if i=j then x else 0) L=if i∈L then x else 0
 | [],_=>by rw[if_neg (by simp)];rfl
 |j::L,nd=>by
  obtain⟨h1,h2⟩:=RJ.mp nd;rw[cW,yK h2];grind
theorem nI{n:Nat}(T:Nat->Bool):∀{q:List Pc},(∀c∈q,c.1<n)->lQ (λj=>((q.filter λc=>decide (c.1=j)).map λc=>val c.2).sum) ((QM n).filter T)=((q.filter λc=>T c.1).map λc=>val c.2).sum
 | [],_=>by
  have:∀L:List Nat,lQ (λ_=>(0:Rat)) L=0:=λL=>by
   induction L with
   |nil=>rfl
   |cons j L ih=>rw[cW,ih];grind
  exact this _
 |c::q,h=>by
  have ih:=nI T (q:=q) λx hx=>h x (QX _ hx)
  have hc:=h c QV;have e:lQ (λj=>(((c::q).filter λc=>decide (c.1=j)).map λc=>val c.2).sum) ((QM n).filter T)=lQ (λj=>(if c.1=j then val c.2 else 0)+((q.filter λc=>decide (c.1=j)).map λc=>val c.2).sum) ((QM n).filter T):=dH λj _=>by
   grind
  rw[e,EL,ih,yK (Wh _ UR)];grind
theorem qL{α β:Type}{f:α->β}:∀{S:List β} {q:List α},S.Perm (q.map f)->∃q':List α,q'.Perm q/\q'.map f=S
 | [],q,p=>by
  simp_all
 |s::S,q,p=>by
  obtain⟨a,ha,rfl⟩:=QZ.mp (p.mem_iff.mp QV);obtain⟨l1,l2,rfl⟩:=List.append_of_mem ha;have p2:S.Perm ((l1++l2).map f):=by
   refine UZ (a:=f a) (p.trans ?_)
   simp_all
  obtain⟨q',h1,h2⟩:=qL p2;exact⟨a::q',(h1.cons a).trans XS.symm,by rw[Rr,h2]⟩
structure AG(ws:List Wk)(t:Nat)(q:List Pc):Prop where
 nd:(q.map (·.1)).Nodup
 nm:∀c∈q,c.1<ws.length/\g8 (ws.getD c.1 bI) t=true/\0≤val c.2
theorem xQ:∀{l:List Rat},(∀x∈l,0≤x)->0≤l.sum
 | [],_=>R1
 |x::l,h=>by
  have a:=h x QV;have b:=xQ (l:=l) λy hy=>h y (QX _ hy)
  rw[Sc];grind
section
variable {ws:List Wk}{t h al:Nat}{q:List Pc}{S:List Rat}{μ:Rat}
theorem Gi(R:AG ws t q)(T:Nat->Bool):(q.filter λc=>T c.1).length≤jW ws ((QM ws.length).filter T) t:=by
 have x:=tq (l:=(q.filter λc=>T c.1).map (·.1)) (L:=((QM ws.length).filter T).filter λj=>g8 (ws.getD j bI) t) (R.nd.sublist (Vs.map _)) λj hj=>by
  obtain⟨c,hc,rfl⟩:=QZ.mp hj;obtain⟨h1,h2⟩:=Q3.mp hc;obtain⟨a,b,_⟩:=R.nm c h1
  simp_all
 rw[QK] at x;exact x
theorem Gh(R:AG ws t q)(p:S.Perm (q.map λc=>val c.2))(H:vc h S al μ)(T:Nat->Bool):((q.filter λc=>T c.1).map λc=>val c.2).sum≤sr (pG S al μ) (min h (jW ws ((QM ws.length).filter T) t)):=by
 have p2:S.Perm (((q.filter λc=>T c.1).map λc=>val c.2)++((q.filter λc=>!T c.1).map λc=>val c.2)):=by
  rw[←Rb];exact p.trans ((List.filter_append_perm (λc:Pc=>T c.1) q).symm.map _)
 have a:=sj p2 H.so;have l:=p2.length_eq;rw[Q8,QK] at l;rw[QK] at a;have b:=H.first (m:=(q.filter λc=>T c.1).length) ω;have c:=Gi R T;have d:=sk (u:=pG S al μ) (h:=h) (λk _=>H.nnv k) (a:=min h (q.filter λc=>T c.1).length) (b:=min h (jW ws ((QM ws.length).filter T) t)) ω ω;exact SK a (SK b d)
theorem Li{pl:List (List Pc)}{Sf:Nat->List Rat}{af:Nat->Nat}{mf:Nat->Rat}(R:∀t,t<24->AG ws t (pl.getD t []))(fin:∀j,j<ws.length->sr (u9 pl j) 24=val (ws.getD j bI).2.2)(p:∀t,t<24->(Sf t).Perm ((pl.getD t []).map λc=>val c.2))(H:∀t,t<24->vc h (Sf t) (af t) (mf t)):AS ws h (u9 pl) (λt=>pG (Sf t) (af t) (mf t)):=by
 refine⟨λt ht T=>?_,λt ht=>?_,fin⟩
 ·have e:=nI T (q:=pl.getD t []) (n:=ws.length) λc hc=>((R t ht).nm c hc).1
  show lQ (λj=>(((pl.getD t []).filter λc=>decide (c.1=j)).map λc=>val c.2).sum) _≤_;rw[e];exact Gh (R t ht) (p t ht) (H t ht) T
 ·have e:=nI (λ_=>true) (q:=pl.getD t []) (n:=ws.length) λc hc=>((R t ht).nm c hc).1
  rw[Sg.mpr λ_ _=>Z,Sg.mpr λ_ _=>Z] at e;show lQ (λj=>(((pl.getD t []).filter λc=>decide (c.1=j)).map λc=>val c.2).sum) _=_;rw[e,(H t ht).tot,kP (p t ht)]
theorem yw(I:IA ws g f (QM ws.length) h t P ρ u)(R:AG ws t q)(eg:∀j,j<ws.length->g j t=((q.filter λc=>decide (c.1=j)).map λc=>val c.2).sum)(p:S.Perm (q.map λc=>val c.2))(H:vc h S al μ):Ni h (pG S al μ) u al μ:=by
 have lh:=H.lh;have eT:∀T:Nat->Bool,lQ (λj=>g j t) ((QM ws.length).filter T)=((q.filter λc=>T c.1).map λc=>val c.2).sum:=λT=>by
  rw[←nI T (q:=q) (n:=ws.length) λc hc=>(R.nm c hc).1];exact dH λj hj=>eg j (Q5.mp (Q3.mp hj).1)
 obtain⟨q',p1,p2⟩:=qL p;have E:Ni h (pG S al μ) u al μ:=by
  refine H.evn (λk hk=>?_) ?_ I.dec
  ·have x:=I.sub λj=>decide (j∈(q'.take k).map (·.1))
   have ls:=H.ls;rw[eT] at x;have y:(S.take k).sum≤((q.filter λc=>decide (c.1∈(q'.take k).map (·.1))).map λc=>val c.2).sum:=by
    have e1:((q.filter λc=>decide (c.1∈(q'.take k).map (·.1))).map λc=>val c.2).sum=((q'.filter λc=>decide (c.1∈(q'.take k).map (·.1))).map λc=>val c.2).sum:=kP (((p1.filter _).map _).symm);have e2:q'.filter (λc=>decide (c.1∈(q'.take k).map (·.1)))=q'.take k++(q'.drop k).filter λc=>decide (c.1∈(q'.take k).map (·.1)):=by
     have z:=Sm (p:=λc:Pc=>decide (c.1∈(q'.take k).map (·.1))) (l₁:=q'.take k) (l₂:=q'.drop k);rw[U7] at z;rw[z,Sg.mpr λc hc=>decide_eq_true (QZ.mpr ⟨c,hc,Z⟩)]
    rw[e1,e2,Rb,S9,←p2,←aaw];have n0:=xQ (l:=((q'.drop k).filter λc=>decide (c.1∈(q'.take k).map (·.1))).map λc=>val c.2) λx hx=>by
     obtain⟨c,hc,rfl⟩:=QZ.mp hx;exact(R.nm c (p1.mem_iff.mp (Sw (Q3.mp hc).1))).2.2
    grind
   have cn:jW ws ((QM ws.length).filter λj=>decide (j∈(q'.take k).map (·.1))) t≤k:=by
    have z:=tq (l:=((QM ws.length).filter λj=>decide (j∈(q'.take k).map (·.1))).filter λj=>g8 (ws.getD j bI) t) (L:=(q'.take k).map (·.1)) (Wh _ (Wh _ UR)) λj hj=>of_decide_eq_true (p:=j∈(q'.take k).map (·.1)) (Q3.mp (Q3.mp hj).1).2
    rw[QK,RD] at z;unfold jW;lia
   have mo:=sk (u:=u) (h:=h) (λk hk=>I.nn k hk) (a:=min h (jW ws ((QM ws.length).filter λj=>decide (j∈(q'.take k).map (·.1))) t)) (b:=k) ω ω;exact SK y (SK x mo)
  ·have x:=I.tot;have y:=eT λ_=>true
   rw[Sg.mpr λ_ _=>Z,Sg.mpr λ_ _=>Z] at y;rw[←x,y];exact kP p
 exact E
theorem Lh(C:Cvx P gs D)(I:IA ws g f (QM ws.length) h t P ρ u)(R:AG ws t q)(eg:∀j,j<ws.length->g j t=((q.filter λc=>decide (c.1=j)).map λc=>val c.2).sum)(p:S.Perm (q.map λc=>val c.2))(H:vc h S al μ)(dv:∀k,k<h->D (pG S al μ k))(du:∀k,k<h->D (u k)):sr (λk=>P (pG S al μ k)) h≤ρ:=
 EE C I (yw I R eg p H) dv du λk _=>H.dec k
end
def m6(s:Ps)(i t:Nat):R:=aC (s.ws.getD i bI).2.2 (cJ (s.pf i t) (s.A.getD i 0))
structure O7(r:R):Prop where
 bq:Bq DM 60 r
 nn:0≤r.1
 bot:r.2<1073741824
theorem O7.am(h:O7 r)(n:r≠(0,1)):FI r:=⟨h.bq,by
 have a:=h.nn;apply Q9;intro z;refine n (c8 h.bq.red ue ?_);have e:r.1=0:=ω
 rw[(bX h.bq.pos).mpr e,(bX (r:=(0,1)) δ).mpr Z],h.bot⟩
theorem JC:∀n:Fin 51,0<n.val->84*n.val∣DM:=by decide +kernel
theorem HY{r:R}{B z:Int}(hr:de r)(e:val r*(B:Rat)=(z:Rat)):r.2∣B:=by
 have n2:=cG hr.pos;unfold val at e;have e2:((r.1*B:Int):Rat)=((z*r.2:Int):Rat):=by
  grind
 have e3:r.1*B=z*r.2:=Vz.mp e2;have d:r.2∣r.1*B:=⟨z,by rw[e3,TR]⟩;have d':r.2.natAbs∣r.1.natAbs*B.natAbs:=by rw[←Tk];exact U6.mpr d
 have cp:Nat.Coprime r.2.natAbs r.1.natAbs:=by
  have:=hr.cop;rw[Tx] at this;exact this
 exact U6.mp (cp.dvd_of_dvd_mul_left d')
structure Tg(ws:List Wk)(fr:List Nat)(r:R)(s:Ps):Prop where
 F:zh s
 ew:s.ws=ws
 ef:s.fr=fr
 M:s.M.natAbs<2^200
 A:∀i,i<ws.length->(s.A.getD i 0).natAbs<2^200
 fst:lO ws (QM ws.length) fr r (uR s.net s.pf)
 bq:Bq DM 72 r
 full:∀i,i<s.ws.length->s.net.rest s.pf i=0
 lk:∃B:Int,JJ s r B/\∃n:Nat,0<n/\n≤50/\B∣((84*n:Nat):Int)
 g:Iy ws
 rp:0<r.1
theorem E9(g:zj w):0<val w.2.2:=by
 have x1:(0:Rat)<((w.2.2.1:Int):Rat):=lN g.2.2.2;have x2:(0:Rat)<((w.2.2.2:Int):Rat):=lN g.2.2.1.pos;unfold val;rw[VV x2,X7];exact x1
section
variable {ws:List Wk}{fr:List Nat}{r:R}{s:Ps}{B:Int}
theorem tU(X:Tg ws fr r s)(L:JJ s r B)(hi:i<s.ws.length)(t:Nat):de (m6 s i t)/\val (m6 s i t)*(B:Rat)=((s.pf i t:Int):Rat):=by
 have gd:=X.g.gd (s.ws.getD i bI) (by rw[←X.ew];exact jA hi);have a0:0<s.A.getD i 0:=X.F.am i hi;have r1:=gd.2.2.1.red;have r2:de (cJ (s.pf i t) (s.A.getD i 0)):=dy a0;refine⟨eP r1 r2,?_⟩;unfold m6;rw[cM r1.pos r2.pos,lT a0,L.A i hi];have b0:=lN L.b0;have v0:=E9 gd;generalize (B:Rat)=b at *;generalize val (s.ws.getD i bI).2.2=a at *;generalize ((s.pf i t:Int):Rat)=z;have n1:b≠0:=by grind
 grind
theorem OO(X:Tg ws fr r s)(hi:i<s.ws.length):sm (s.pf i) 24=s.A.getD i 0:=by
 have fr:=X.full i hi;unfold fP.rest at fr;have:s.net.A i=s.A.getD i 0:=Z;lia
theorem MO(X:Tg ws fr r s)(hi:i<s.ws.length):sr (λt=>val (m6 s i t)) 24=val (s.ws.getD i bI).2.2:=by
 obtain⟨B,L,_⟩:=X.lk;have e:sr (λt=>(B:Rat)*val (m6 s i t)) 24=sr (λt=>((s.pf i t:Int):Rat)) 24:=aU λt _=>by
  rw[←(tU X L hi t).2];grind
 rw[gI,←yc,OO X hi,L.A i hi] at e;have b0:=lN L.b0;generalize (B:Rat)=b at *;have:b≠0:=by grind
 grind
theorem JF(X:Tg ws fr r s)(hi:i<s.ws.length)(ht:t<24):O7 (m6 s i t)/\val (m6 s i t)≤val r/\0≤val (m6 s i t)/\(val (m6 s i t)≠0->g8 (s.ws.getD i bI) t=true):=by
 obtain⟨B,L,n,n0,n50,Bd⟩:=X.lk;obtain⟨rd,e⟩:=tU X L hi t;have b0:=lN L.b0;have lo:∀t,t<24->0≤s.pf i t:=λt ht=>X.F.fl.lo i t hi ht
 have hi':s.pf i t≤s.M:=X.F.fl.hi i t hi ht;have lo':(0:Rat)≤((s.pf i t:Int):Rat):=by
  have:=TU.mpr (lo t ht);exact this
 have hi2:=TU.mpr hi';rw[L.M] at hi2;have nn:0≤val (m6 s i t):=by
  apply Q9;intro z;have:=R4 (Tu.mp z) b0;grind
 have le:val (m6 s i t)≤val r:=by
  apply Q9;intro z;have:=R4 (Tu.mp z) b0;grind
 have n1:=(A1 rd.pos).mp nn;have pa:s.pf i t≤s.A.getD i 0:=by rw[←OO X hi];exact sw lo ht
 have pa':=TU.mpr pa;rw[←e,L.A i hi] at pa';have la:val (m6 s i t)≤val (s.ws.getD i bI).2.2:=by
  apply Q9;intro z;have:=R4 (Tu.mp z) b0;grind
 have gd:=X.g.gd (s.ws.getD i bI) (by rw[←X.ew];exact jA hi);have gq:=gd.2.2.1;have gl:=gq.le;have gp:=gd.2.2.2;have g2:=gq.pos;have r2:=rd.pos;have db:=HY rd e;refine⟨⟨⟨rd.pos,rd.cop,?_,?_⟩,n1,?_⟩,le,nn,λz=>?_⟩
 ·exact Uz db (Uz Bd (SL.mpr (JC ⟨n,ω⟩ n0)))
 ·have q:=(bD g2 rd.pos).mpr la;have q:=of_decide_eq_false q;have q:(m6 s i t).1*(s.ws.getD i bI).2.2.2≤(s.ws.getD i bI).2.2.1*(m6 s i t).2:=ω
  have tt:(s.ws.getD i bI).2.2.1≤12*(s.ws.getD i bI).2.2.2:=ω
  have m:=SR tt (Ry r2);have q2:(m6 s i t).1*(s.ws.getD i bI).2.2.2≤(12*(m6 s i t).2)*(s.ws.getD i bI).2.2.2:=by
   grind
  have q3:=WY q2 g2;lia
 ·have h1:=Sh ω Bd;have h2:=Sh L.b0 db;lia
 ·have pz:s.pf i t≠0:=λq=>z (by
   rw[q] at e;have e':val (m6 s i t)*(B:Rat)=0:=e;generalize (B:Rat)=b at *;have:b≠0:=by grind
   grind)
  cases c:g8 (s.ws.getD i bI) t with
  |true=>rfl
  |false=>exact absurd (X.F.fl.out i t hi ht c) pz
theorem MP(X:Tg ws fr r s)(ht:t<24):sr (λi=>val (m6 s i t)) s.ws.length≤val r*((s.fr.getD t 0:Nat):Rat):=by
 obtain⟨B,L,_⟩:=X.lk;have e:sr (λi=>(B:Rat)*val (m6 s i t)) s.ws.length=sr (λi=>((s.pf i t:Int):Rat)) s.ws.length:=aU λi hi=>by
  rw[←(tU X L hi t).2];grind
 rw[gI,←yc] at e;have rm:=X.F.fl.rm t ht;unfold fP.room at rm;have le:sm (λi=>s.pf i t) s.ws.length≤s.M*((s.fr.getD t 0:Nat):Int):=by
  have e1:s.net.M=s.M:=Z;have e2:s.net.n=s.ws.length:=Z;have e3:s.net.fr t=s.fr.getD t 0:=Z;grind
 have le':=TU.mpr le;rw[←e,S3,L.M,UD] at le';have b0:=lN L.b0;have q:(B:Rat)*sr (λi=>val (m6 s i t)) s.ws.length≤(B:Rat)*(val r*((s.fr.getD t 0:Nat):Rat)):=by grind
 exact(ip b0).mp q
end
theorem xP(f:Nat->Rat):∀n:Nat,((QM n).map f).sum=sr f n
 |0=>rfl
 |n+1=>by
  rw[S7,Rb,S9,xP f n];show sr f n+(f n+0)=sr f n+f n;grind
theorem Me(nd:ns.Nodup)(f:Nat->Rat):lQ (λj=>f (ns.idxOf j)) ns=sr f ns.length:=by
 rw[←xP];unfold lQ
 congr 1
 refine XR (by rw[QK,QK,Rx]) λi h1 h2=>?_
 simp_all
abbrev Rw:Type:=R×List R
def vg:Rw:=((0,1),[])
def qV(f:Nat->Rw)(j t:Nat):Rat:=val ((f j).2.getD t (0,1))
structure FE(x:Rw):Prop where
 sp:Bq DM 72 x.1
 pos:0<x.1.1
 len:x.2.length=24
 am:∀r∈x.2,O7 r
def wo(s:Ps)(r:R)(ns:List Nat)(j:Nat):Rw:=(r,(QM 24).map (m6 s (ns.idxOf j)))
section
variable {WS:List Wk}{ns fr:List Nat}{r:R}{s:Ps}
theorem En(ht:t<24):qV (wo s r ns) j t=val (m6 s (ns.idxOf j) t):=by
 unfold qV wo
 simp_all
theorem Jo(X:Tg (gW WS ns) fr r s)(nd:ns.Nodup)(hj:j∈ns):IH WS (qV (wo s r ns)) r j:=by
 obtain⟨hl,e⟩:=xc hj;have sl:ns.idxOf j<s.ws.length:=by rw[X.ew,pL];exact hl
 have ew:s.ws.getD (ns.idxOf j) bI=WS.getD j bI:=by rw[X.ew,Fb hl,e]
 refine⟨λt ht=>?_,?_⟩
 ·obtain⟨_,a,b,c⟩:=JF X sl ht;rw[En ht];rw[ew] at c;exact⟨b,a,c⟩
 ·rw[←ew,←MO X sl];exact aU λt ht=>En ht
theorem LY(X:Tg (gW WS ns) fr r s)(nd:ns.Nodup)(U:Nat->Bool)(ht:t<24):lQ (λj=>qV (wo s r ns) j t) (ns.filter U)≤val r*((fr.getD t 0:Nat):Rat):=by
 have sl:s.ws.length=ns.length:=by rw[X.ew,pL]
 have a:=EJ (f:=λj=>qV (wo s r ns) j t) (U:=U) (L:=ns) λj hj=>((Jo X nd hj).bd t ht).1
 have e:lQ (λj=>qV (wo s r ns) j t) ns=sr (λi=>val (m6 s i t)) ns.length:=by
  rw[←Me nd];exact dH λj _=>En ht
 have b:=MP X ht;rw[sl,X.ef] at b;rw[e] at a;exact SK a b
theorem Oj(X:Tg (gW WS ns) fr r s)(hj:j∈ns):FE (wo s r ns j):=by
 obtain⟨hl,e⟩:=xc hj;have sl:ns.idxOf j<s.ws.length:=by rw[X.ew,pL];exact hl
 refine⟨X.bq,X.rp,by show((QM 24).map _).length=24;rw[QK,Rx],λq hq=>?_⟩;obtain⟨t,ht,rfl⟩:=QZ.mp hq;exact(JF X sl (Q5.mp ht)).1
end
theorem IH.congr(h:IH WS q r j)(e:q j=q' j):IH WS q' r j:=⟨λt ht=>by rw[←e];exact h.bd t ht,by rw[←e];exact h.am⟩
theorem jz.congr(a:jz WS (λj=>(f j).1) (qV f) ns fr):(∀j∈ns,f j=g j)->jz WS (λj=>(g j).1) (qV g) ns fr:=by
 induction a with
 |nil=>intro _;exact .nil
 | @step ns fr r U F h a c n ih=>
  intro e;have qe:∀j∈ns,qV f j=qV g j:=λj hj=>by unfold qV;rw[e j hj]
  refine .step F (λj hj hu=>by rw[←h j hj hu,e j hj]) (λj hj hu=>(a j hj hu).congr (qe j hj)) (λt ht=>?_) (ih λj hj=>e j (Q3.mp hj).1);have e2:lQ (λj=>qV f j t) (ns.filter U)=lQ (λj=>qV g j t) (ns.filter U):=dH λj hj=>by rw[qe j (Q3.mp hj).1]
  rw[←e2];exact c t ht
def lY(ws:List Wk)(h:Nat)(xs:List Rw):Prop:=xs.length=ws.length/\(∀x∈xs,FE x)/\jz ws (λj=>(xs.getD j vg).1) (qV λj=>xs.getD j vg) (QM ws.length) (Q0 24 h)
structure TI(K:QJ)(H:Hp)(P:Hp->V->Rw->Prop)(ws:List Wk)(h:Nat)(tl:Tl)(f:Nat->Rw)(ns fr:List Nat):Prop where
 nd:(tl.map (·.1)).Nodup
 vl:∀x∈tl,P H x.2 (f x.1)/\FE (f x.1)/\x.1<ws.length
 cov:ns=(QM ws.length).filter λj=>!decide (j∈tl.map (·.1))
 rnd:∀g:Nat->Rw,(∀x∈tl,g x.1=f x.1)->jz ws (λj=>(g j).1) (qV g) ns fr->jz ws (λj=>(g j).1) (qV g) (QM ws.length) (Q0 24 h)
 f24:fr.length=24
 f20:∀x∈fr,x≤5
 pos:xt ws ns fr
section
variable {K:QJ}{H H':Hp}{P:Hp->V->Rw->Prop}{ws:List Wk}{h:Nat}{tl:Tl}{f:Nat->Rw}{ns fr:List Nat}
theorem TI.mono(T:TI K H P ws h tl f ns fr)(m:∀v r,P H v r->P H' v r):TI K H' P ws h tl f ns fr:=⟨T.nd,λx hx=>⟨m _ _ (T.vl x hx).1,(T.vl x hx).2⟩,T.cov,T.rnd,T.f24,T.f20,T.pos⟩
theorem TI.first(h1:1≤h)(h20:h≤5)(g:∀w∈ws,zj w):TI K H P ws h [] (λ_=>vg) (QM ws.length) (Q0 24 h):=by
 refine⟨SG,(λx hx=>by cases hx),?_,λg _ n=>n,R0,λx hx=>?_,λj hj=>?_⟩
 ·exact(Sg.mpr (λ_ _=>Z)).symm
 ·rw[(Uf.mp hx).2];exact h20
 ·have gg:=g _ (jA (Q5.mp hj));have w1:=gg.1;have w2:=gg.2.1;refine⟨(ws.getD j bI).1,ω,nV.mpr ⟨QY _,w1⟩,?_⟩;rw[aD 0 (show(Q0 24 h)[(ws.getD j bI).1]?=some h by rw[UI,if_pos ω])];exact h1
theorem TI.lt(T:TI K H P ws h tl f ns fr)(hj:j∈ns):j<ws.length/\j∉tl.map (·.1):=by
 rw[T.cov] at hj
 simp_all
theorem TI.nodup(T:TI K H P ws h tl f ns fr):ns.Nodup:=by rw[T.cov];exact UR.filter _
theorem TI.next(T:TI K H P ws h tl f ns fr)(F:lO ws ns fr r U)(X:Tg (gW ws ns) fr r s)(e:tl'.map (·.1)=ns.filter U)(vl:∀x∈tl',P H x.2 (wo s r ns x.1))(g:∀w∈ws,zj w):TI K H P ws h (tl++tl') (λj=>if j∈ns.filter U then wo s r ns j else f j) (ns.filter λj=>!U j) (i4 fr (gW ws (ns.filter U))):=by
 have old:∀x∈tl,x.1∉ns.filter U:=λx hx m=>(T.lt (Q3.mp m).1).2 (QZ.mpr ⟨x,hx,Z⟩)
 have new:∀x∈tl',x.1∈ns.filter U:=λx hx=>by rw[←e];exact QZ.mpr ⟨x,hx,Z⟩
 refine⟨?_,λx hx=>?_,?_,λg' ag n=>?_,lj,λx hx=>?_,F.next T.f24 λj hj=>?_⟩
 ·rw[Rb,TH,e];refine⟨T.nd,T.nodup.filter _,λa ha b hb z=>?_⟩;subst z;exact(T.lt (Q3.mp hb).1).2 ha
 ·rcases Rc.mp hx with z|z
  ·rw[if_neg (old x z)];exact T.vl x z
  ·rw[if_pos (new x z)];have m:=(Q3.mp (new x z)).1;exact⟨vl x z,Oj X m,(T.lt m).1⟩
 ·have c:=T.cov;rw[Rb,e];rw[show(QM ws.length).filter (λj=>!decide (j∈tl.map (·.1)++ns.filter U))=ns.filter λj=>!decide (j∈tl.map (·.1)++ns.filter U) by
   conv=>rhs;rw[c]
   rw[Ta];refine Sj λj hj=>?_
   by_cases q:j∈tl.map (·.1)
   ·grind
   ·rw[decide_eq_false q,Bool.not_false,Xr];exact congrArg (λb=>!b) (decide_eq_decide.mpr (by rw[←c]))]
  refine Sj λj hj=>?_
  grind
 ·have ge:∀j∈ns,U j=true->g' j=wo s r ns j:=λj hj hu=>by
   have m:j∈tl'.map (·.1):=by rw[e];exact Q3.mpr ⟨hj,hu⟩
   obtain⟨x,hx,rfl⟩:=QZ.mp m;rw[ag x (Rh _ hx)];exact if_pos (new x hx)
  have qe:∀j∈ns,U j=true->qV (wo s r ns) j=qV g' j:=λj hj hu=>by unfold qV;rw[ge j hj hu]
  refine T.rnd g' (λx hx=>?_) (.step F (λj hj hu=>by rw[ge j hj hu];rfl) (λj hj hu=>(Jo X T.nodup hj).congr (qe j hj hu)) (λt ht=>?_) n)
  ·rw[ag x (RN _ hx)];exact if_neg (old x hx)
  ·have e2:lQ (λj=>qV (wo s r ns) j t) (ns.filter U)=lQ (λj=>qV g' j t) (ns.filter U):=dH λj hj=>by rw[qe j (Q3.mp hj).1 (Q3.mp hj).2]
   rw[←e2];exact LY X T.nodup U ht
 ·obtain⟨t,ht,rfl⟩:=QZ.mp hx;have ht:=Q5.mp ht;have f24:=T.f24;have:=T.f20 (fr.getD t 0) (by rw[aD 0 (QH (by lia:t<fr.length))];exact Ri _);lia
 ·exact E9 (g _ (jA (T.lt hj).1))
theorem TI.none(T:TI K H P ws h tl f [] fr):∀j,j<ws.length->∃v,(j,v)∈tl/\P H v (f j)/\FE (f j):=λj hj=>by
 have c:=T.cov;have m:j∈tl.map (·.1):=by
  simp_all
 obtain⟨x,hx,rfl⟩:=QZ.mp m;exact⟨x.2,hx,(T.vl x hx).1,(T.vl x hx).2.1⟩
theorem TI.ok(T:TI K H P ws h tl f [] fr):lY ws h ((QM ws.length).map f):=by
 refine⟨by rw[QK,Rx],λr hr=>?_,?_⟩
 ·obtain⟨j,hj,rfl⟩:=QZ.mp hr;obtain⟨v,_,_,w⟩:=T.none j (Q5.mp hj);exact w
 ·refine(T.rnd f (λ_ _=>Z) .nil).congr λj hj=>?_
  simp_all
end
def Nf(K:QJ)(H:Hp)(v:V)(rs:List R):Prop:=∃l ys,v=.ref l/\H l=some (.lst ys)/\bR (RV K H) ys rs
inductive fV(K:QJ)(C:Addr)(vs:List V)(H:Hp)(Q:VK)(E_:XK):Prop where
 |mk (p:j6) (s:Ps) (n:Nat) (h0_:vs=[.ref p.a,.int (n:Nat)]) (h1_:ib K C H p s) (h2_:fM s) (h3_:n<s.ws.length) (h4_:(∀w∈s.ws,zj w)) (h5_:0<s.A.getD n 0) (h6_:(s.A.getD n 0).natAbs<2^200) (h7_:(∀t,t<24->(s.pf n t).natAbs<2^200)) (h8_:∀(l:Addr) (ys:List V) (H':Hp),ax H H'->H l=none->H' l=some (.lst ys)->bR (RV K H') ys ((QM 24).map (m6 s n))->Q (.ref l) H'):fV K C vs H Q E_
def j4(Rs:List (List R)):List (List Pc):=(QM 24).map λt=>((QM Rs.length).filter λi=>decide ((Rs.getD i []).getD t (0,1)≠(0,1))).map λi=>(i,(Rs.getD i []).getD t (0,1))
theorem Nf.same{K:QJ}{H H':Hp}{v:V}{rs:List R}(h:Nf K H v rs)(z:ax H H'):Nf K H' v rs:=let ⟨l,ys,e,q,al⟩:=h;⟨l,ys,e,z _ _ q,al.mono λ_ _ w=>w.mono (ay.same z)⟩
inductive ot(K:QJ)(vs:List V)(H:Hp)(Q:VK)(E_:XK):Prop where
 |mk (a:Addr) (xs:List V) (Rs:List (List R)) (h0_:vs=[.ref a]) (h1_:aJ K H a xs) (h2_:bR (Nf K H) xs Rs) (h3_:Rs.length≤20) (h4_:(∀rs∈Rs,rs.length=24)) (h5_:∀(v':V) (H':Hp),ax H H'->FN K H' v' (j4 Rs)->Q v' H'):ot K vs H Q E_
theorem FN.mono{K:QJ}{H H':Hp}{v:V}{pl:List (List Pc)}(h:FN K H v pl)(t:ay K H H'):FN K H' v pl:=let ⟨p,xs,a,b,d⟩:=h;⟨p,xs,a,t _ _ b,d.mono λ_ _ z=>z.mono t⟩
def ID(K:QJ)(H:Hp)(v:V)(x:Rw):Prop:=∃p y z,v=.ref p/\cE K H p [y,z]/\RV K H y x.1/\Nf K H z x.2
theorem ID.nod{K:QJ}{H H':Hp}{v:V}{x:Rw}(h:ID K H v x)(t:qc H H'):ID K H' v x:=let ⟨p,y,z,e,s,q,l,ys,e2,hl,al⟩:=h;⟨p,y,z,e,t.tst _ _ s,q.mono t.tst,l,ys,e2,t.lst hl,al.mono λ_ _ w=>w.mono t.tst⟩
inductive fE(K:QJ)(C:Addr)(vs:List V)(H:Hp)(Q:VK)(E_:XK):Prop where
 |mk (a b:Addr) (xs:List V) (ws:List Wk) (fr:List Nat) (h0_:vs=[.ref a,.ref b]) (h1_:H a=some (.lst xs)) (h2_:bR (tX K H) xs ws) (h3_:Iy ws) (h4_:0<ws.length) (h5_:H b=some (.lst (aQ fr))) (h6_:fr.length=24) (h7_:(∀f∈fr,f≤5)) (h8_:xt ws (QM ws.length) fr) (h9_:∀(q:Addr) (v:V) (p:j6) (s:Ps) (r:R) (H':Hp),ax H H'->cE K H' q [v,.ref p.a]->RV K H' v r->ib K C H' p s->Tg ws fr r s->Q (.ref q) H'):fE K C vs H Q E_
inductive uu(K:QJ)(vs:List V)(H:Hp)(Q:VK)(E_:XK):Prop where
 |mk (v:V) (h:Nat) (ws:List Wk) (h0_:vs=[v,.int (h:Nat)]) (h1_:va K H v ws) (h2_:Iy ws) (h3_:1≤h) (h4_:h≤5) (h5_:∀(l:Addr) (ys:List V) (xs:List Rw) (H':Hp),ax H H'->H' l=some (.lst ys)->bR (ID K H') ys xs->lY ws h xs->Q (.ref l) H'):uu K vs H Q E_
theorem Jc(h:FE x):iH x.1:=⟨h.sp.mono ⟨60,δ⟩ δ,Ry h.pos⟩
def nh(K:QJ)(C:Addr):Sp:=λvs H Q E=>∃(v:V) (l:Addr) (rl:Rl) (ys:List V) (ss:List R),vs=[v,.ref l]/\ud K H v rl/\c7 rl/\aJ K H l ys/\bR (RV K H) ys ss/\ss.length≤20/\(∀s∈ss,iH s)/\((∀s∈ss,bA rl s)->Q .non H)/\((∃s∈ss,¬bA rl s)->∀(d:Addr) (u:V) (H':Hp),ax H H'->H' d=some (dO d [("speed",u)])->E (.ref C) (some d) H')
def m8(K:QJ)(C:Addr):Sp:=λvs H Q E=>∃(v:V) (l:Addr) (rl:Rl) (ys:List V) (ss:List R),vs=[v,.ref l]/\ud K H v rl/\c7 rl/\aJ K H l ys/\bR (RV K H) ys ss/\ss.length≤20/\(∀s∈ss,iH s)/\((∀s∈ss,bA rl s)->∀(v':V) (H':Hp),ax H H'->Q v' H')/\((∃s∈ss,¬bA rl s)->∀(d:Addr) (u:V) (H':Hp),ax H H'->H' d=some (dO d [("speed",u)])->E (.ref C) (some d) H')
def oy(K:QJ)(C:Addr):Sp:=λvs H Q E=>∃(v u:V) (h:Nat) (ws:List Wk) (rl:Rl),vs=[v,u,.int (h:Nat)]/\va K H v ws/\Iy ws/\ud K H u rl/\c7 rl/\1≤h/\h≤5/\(∀(xs:List Rw) (p:Addr) (a b:V) (H':Hp),ax H H'->lY ws h xs->(∀x∈xs,bA rl x.1)->cE K H' p [a,b]->FN K H' a (j4 (xs.map λx:Rw=>x.2))->Q (.ref p) H')/\∀(xs:List Rw) (d:Addr) (u:V) (H':Hp),ax H H'->lY ws h xs->(∃x∈xs,¬bA rl x.1)->H' d=some (dO d [("speed",u)])->E (.ref C) (some d) H'
theorem GN{K:QJ}{H:Hp}{ys:List V}{xs:List Rw}(h:bR (ID K H) ys xs):∃zs:List V,bR (Nf K H) zs (xs.map λx:Rw=>x.2)/\∀(i:Nat) (y:V),ys[i]?=some y->∃p w z,zs[i]?=some z/\y=.ref p/\cE K H p [w,z]:=by
 induction h with
 |nil=>exact⟨[],.nil,λi y e=>by cases e⟩
 | @cons v x vs xs p q ih=>
  obtain⟨zs,a,b⟩:=ih;obtain⟨p,y,z,e,s,r,l⟩:=p;refine⟨z::zs,.cons l a,λi y' e'=>?_⟩
  cases i with
  |zero=>
   cases e'
   exact⟨p,y,z,Z,e,s⟩
  |succ i=>exact b i y' e'
theorem jd{X:Cx}{K:QJ}(hK:X.K=K):eF X (.type "tuple") (λxs H Q=>∃p ys,xs=[.ref p]/\((aJ K H p ys/\∀l,H l=none->Q (.ref l) (upd H l (.tup ys)))∨(cE K H p ys/\Q (.ref p) H))):=by subst hK;exact bV
def eG(c:List Pc):List R:=c.map λq=>q.2
structure PQ(pl:List (List Pc)):Prop where
 len:pl.length≤24
 ok:∀c∈pl,bW (eG c)
def HZ(rl:Rl)(h:Nat)(rows:List (List R)):R:=bj (rows.map (Jg rl h))
theorem KL(ok:c7 rl)(rt:xp rl)(a:bW rs)(h1:1≤h)(h9:h≤5)(b:df rl (E5 h rs)=false):Bq 59515953789365123158852704845422783159809256379678131039657860673594879039351138912567296000000000000 (85030560000*9) (Jg rl h rs):=by
 have z:∀r∈(iG h rs).map (bO rl),Bq 59515953789365123158852704845422783159809256379678131039657860673594879039351138912567296000000000000 85030560000 r:=λr hr=>by
  obtain⟨s,hs,rfl⟩:=QZ.mp hr;exact vS ok rt (f8 a h1 h9 s hs) (qX ok a h1 h9 b s hs)
 refine(jj δ z).mono (To _) (UC _ ?_);rw[QK,gB a h1];lia
inductive iP(K:QJ)(T:Addr)(vs:List V)(H:Hp)(Q:VK)(E_:XK):Prop where
 |mk (v:V) (rl:Rl) (h:Nat) (w:V) (pl:List (List Pc)) (h0_:vs=[v,.int h,w]) (h1_:ud K H v rl) (h2_:c7 rl) (h3_:xp rl) (h4_:FN K H w pl) (h5_:PQ pl) (h6_:1≤h) (h7_:h≤5) (h8_:TB H T) (h9_:(∀c∈pl,df rl (E5 h (eG c))=false)) (h10_:∀(u:V) (H':Hp),jh T H H'->TB H' T->RV K H' u (HZ rl h (pl.map eG))->Q u H'):iP K T vs H Q E_
theorem sV{n:Nat}{r:R}(h:Wf n r):∀k:Nat,Wf (1+n*k) (dN r k)
 |0=>⟨by show(0:Int)<1;decide,by show(1:Int).natAbs<2^1;decide,by show(1:Int).natAbs<2^1;decide,by show Rf 1 1=1;decide⟩
 |k+1=>(gP (sV h k) h).mono (by rw[Nat.mul_succ];lia)
def qb(s x:R):R:=if aL s x=true then x else s
theorem L8(hs:0<s.2)(hx:0<x.2):val s≤val (qb s x)/\val x≤val (qb s x)/\(qb s x=s∨qb s x=x):=by
 unfold qb
 cases c:aL s x with
 |true=>
  rw[if_pos Z];have:=(bM hs hx).mp c;exact⟨SE this,R1,.inr Z⟩
 |false=>
  rw[if_neg Rn];have:=(bD hs hx).mp c
  simp_all
theorem yB:∀{rs:List R} {s:R},0<s.2->(∀r∈rs,0<r.2)->val s≤val (rs.foldl qb s)/\(∀r∈rs,val r≤val (rs.foldl qb s))/\(rs.foldl qb s=s∨rs.foldl qb s∈rs)
 | [],s,_,_=>⟨R1,(λr hr=>by cases hr),.inl Z⟩
 |x::rs,s,hs,h=>by
  have hx:=h x QV;obtain⟨a,b,c⟩:=L8 hs hx;have hp:0<(qb s x).2:=by rcases c with z|z<;>rw[z]<;>assumption
  obtain⟨d,e,f⟩:=yB (rs:=rs) hp λr hr=>h r (QX _ hr)
  grind
theorem Oo(hs:Wf n s)(hx:Wf n x):Wf n (qb s x):=by
 unfold qb;lia
def Aq(rl:Rl)(s:R):Option R:=if df rl s=true then none else some (bO rl s)
inductive ku(K:QJ)(vs:List V)(H:Hp)(Q:VK)(E_:XK):Prop where
 |mk (v w:V) (rl:Rl) (s:R) (h0_:vs=[v,w]) (h1_:ud K H v rl) (h2_:c7 rl) (h3_:RV K H w s) (h4_:jX s) (h5_:∀(v':V) (H':Hp),ax H H'->gM K H' v' (Aq rl s)->Q v' H'):ku K vs H Q E_
theorem pP(ok:c7 rl)(h:bA rl s):Aq rl s=some (bO rl s):=if_neg (by rw[(iu ok).mpr h];decide)
theorem Ic(ok:c7 rl)(h:¬bA rl s):Aq rl s=none:=if_pos (by cases c:df rl s with
 |true=>rfl
 |false=>exact absurd ((iu ok).mp c) h)
inductive kx(K:QJ)(vs:List V)(H:Hp)(Q:VK)(E_:XK):Prop where
 |mk (v w:V) (r q:R) (n m:Nat) (h0_:vs=[v,w]) (h1_:RV K H v r) (h2_:RV K H w q) (h3_:Wf n r) (h4_:Wf m q) (h5_:n+m+1≤3000) (h6_:o1 H Q (aA r q)):kx K vs H Q E_
inductive qz(K:QJ)(vs:List V)(H:Hp)(Q:VK)(E_:XK):Prop where
 |mk (v w:V) (r q:R) (n m:Nat) (h0_:vs=[v,w]) (h1_:RV K H v r) (h2_:RV K H w q) (h3_:Wf n r) (h4_:Wf m q) (h5_:n+m+1≤3000) (h6_:0<q.1) (h7_:o1 H Q (d6 r q)):qz K vs H Q E_
abbrev ou:=jL
inductive jD(K:QJ)(vs:List V)(H:Hp)(Q:VK)(E_:XK):Prop where
 |mk (v:V) (r:R) (k:Int) (h0_:vs=[v,.int k]) (h1_:RV K H v r) (h2_:Wf 98 r) (h3_:0≤k) (h4_:k≤4) (h5_:AN K H Q (dN r k.toNat)):jD K vs H Q E_
inductive kn(K:QJ)(vs:List V)(H:Hp)(Q:VK)(E_:XK):Prop where
 |mk (a:Addr) (xs:List V) (rs:List R) (h0_:vs=[.ref a]) (h1_:aJ K H a xs) (h2_:bR (RV K H) xs rs) (h3_:(∀r∈rs,Bq DM 60 r)) (h4_:rs.length≤9) (h5_:∀(v':V) (H':Hp),ax H H'->RV K H' v' (bj rs)->Q v' H'):kn K vs H Q E_
inductive mQ(K:QJ)(vs:List V)(H:Hp)(Q:VK)(E_:XK):Prop where
 |mk (a:Addr) (xs:List V) (rs:List R) (h0_:vs=[.ref a]) (h1_:aJ K H a xs) (h2_:bR (RV K H) xs rs) (h3_:(∀r∈rs,Wf 800 r)) (h4_:∀(v':V) (H':Hp),ax H H'->RV K H' v' (rs.foldl qb (0,1))->Q v' H'):mQ K vs H Q E_
theorem wC(h:0<r.2)(p:0<val r):0<r.1:=by
 refine Int.not_le.mp λz=>?_
 rcases YS z with z|z
 ·have a:=(ie h).mp (SE p);lia
 ·have e:=(bX h).mpr z
  simp_all
theorem Kk(h:bg rows){i j:Nat}{a b:R×R}(hij:i<j)(ha:rows[i]?=some a)(hb:rows[j]?=some b):0<(aA b.1 a.1).1:=by
 have ma:=QL ha;have mb:=QL hb;obtain⟨h1,e1⟩:=QN.mp ha;obtain⟨h2,e2⟩:=QN.mp hb;have lt:=R8.mp h.inc i j h1 h2 hij;rw[e1,e2] at lt;have pa:=(h.sp a ma).pos;have pb:=(h.sp b mb).pos;have l:=(bM pa pb).mp lt;refine wC ((h.sp b mb).minus δ (h.sp a ma)).pos ?_;rw[dt pb pa];grind
inductive kq(K:QJ)(vs:List V)(H:Hp)(Q:VK)(E_:XK):Prop where
 |mk (q:Addr) (k:Nat) (xs:List V) (rows:List (R×R)) (a b:R×R) (h0_:vs=[.ref q,.int k]) (h1_:cE K H q xs) (h2_:bR (lK K H) xs rows) (h3_:bg rows) (h4_:rows[k]?=some a) (h5_:rows[k+1]?=some b) (h6_:AN K H Q (bu a b)):kq K vs H Q E_
theorem lP(h:0<r.2)(p:0<r.1):0<val r:=by
 have a:=(ie h).mpr (Ry p);refine Tu.mp λz=>?_
 have e:=(bX h).mp (Um z a);lia
theorem HN{S:List R}(a:bW S)(so:jY S)(hk:k<S.length){rs:List R}(p:rs.Perm (S.drop k)):rs.foldl qb (0,1)=S.getD k (0,1):=by
 have ok:∀r∈rs,FI r:=λr hr=>a.ok r (Sw (p.mem_iff.mp hr))
 obtain⟨x,y,z⟩:=yB (rs:=rs) (s:=(0,1)) δ λr hr=>(ok r hr).bq.pos
 have e:S.drop k=S.getD k (0,1)::S.drop (k+1):=by
  simp_all
 generalize S.getD k (0,1)=s at e ⊢;have ms:s∈rs:=p.mem_iff.mpr (by rw[e];exact QV);have os:=ok s ms;have ys:=y s ms;generalize rs.foldl qb (0,1)=m at x y z ys ⊢;have mm:m∈rs:=by
  rcases z with z|z
  ·exfalso;rw[z] at ys;have a1:=lP os.bq.pos os.pos;have a2:val ((0,1):R)=0:=(bX δ).mpr Z;rw[a2] at ys;grind
  ·exact z
 have om:=ok m mm;have dm:m∈S.drop k:=p.mem_iff.mp mm;rw[e] at dm;rcases Rm.mp dm with z|z
 ·exact z
 have so':jY (S.drop k):=Uy.sublist (List.drop_sublist k S) so;rw[e] at so';have l:=(bD os.bq.pos om.bq.pos).mp ((SN.mp so').1 m z);exact c8 om.bq.red os.bq.red (Um l ys)
theorem yF(a:bW S)(kh:k<h):cH h S k=cJ (bj (S.drop k)).1 ((bj (S.drop k)).2*((h-k:Nat):Int)):=by
 unfold cH d6;rw[jp (RG (cX a k).pos (by show(0:Int)<((h-k:Nat):Int);lia))];lia
theorem uP(a:bW S)(kh:k<h):0<(cH h S k).2:=by
 rw[yF a kh];exact(dy (RG (cX a k).pos ω)).pos
theorem OD(a:bW S)(hk:k<S.length)(kh:k<h):aL (bj (S.drop k)) (aC (S.getD k (0,1)) (((h-k:Nat):Int),1))=uX h S k:=by
 have o:=a.ok _ (fN hk);have mo:0<(cH h S k).2:=(uP a kh);have b:=cX a k;have rn:de ((((h-k:Nat):Int),1):R):=⟨by show(0:Int)<1;decide,by simp⟩;have tr:=eP o.bq.red rn;have mv:=iV a kh;have sv:=(cF (i5 a k)).2;have tv:val (aC (S.getD k (0,1)) (((h-k:Nat):Int),1))=val (S.getD k (0,1))*((h-k:Nat):Rat):=by
  rw[cM o.bq.pos rn.pos,A0];rfl
 have np:(0:Rat)<((h-k:Nat):Rat):=Uo.mpr ω;have i:(val (bj (S.drop k))<val (aC (S.getD k (0,1)) (((h-k:Nat):Int),1)))↔val (cH h S k)<val (S.getD k (0,1)):=by
  rw[tv,sv,←mv];exact Rat.mul_lt_mul_right np
 unfold uX;have z1:=bM b.pos tr.pos;have z2:=bM mo o.bq.pos;lia
theorem vL{m:R}:∀{rs:List R},m∈rs->∃j,rs[j]?=some m/\(∀i r,i<j->rs[i]?=some r->r≠m)/\(m::rs.eraseIdx j).Perm rs
 | [],h=>by cases h
 |a::rs,h=>by
  by_cases e:a=m
  ·subst e;exact⟨0,Z,λi r hi=>absurd hi (TK _),WZ _⟩
  ·have h':m∈rs:=by
    rcases Rm.mp h with z|z
    ·exact absurd z.symm e
    ·exact z
   obtain⟨j,a1,a2,a3⟩:=vL h';refine⟨j+1,by rw[UL];exact a1,λi r hi hr=>?_,?_⟩
   ·cases i with
    |zero=>rw[XQ] at hr;cases hr;exact e
    |succ i=>rw[UL] at hr;exact a2 i r ω hr
   ·rw[List.eraseIdx_cons_succ];exact(aai a m _).trans (a3.cons a)
theorem ze{xs:List V}{ds:List α}(h:bR P xs ds):∀j:Nat,bR P (xs.eraseIdx j) (ds.eraseIdx j):=by
 induction h with
 |nil=>exact λj=>.nil
 |cons p q ih=>
  intro j
  cases j with
  |zero=>exact q
  |succ j=>exact .cons p (ih j)
theorem wK(rs:List R):(Yv (rs.map dR)).canLay0=true:=mC λd hd=>by
 obtain⟨r,_,rfl⟩:=QZ.mp hd;exact i8 r
theorem wU(rs:List R):(Yv (rs.map dR)).depth≤32:=by
 show Yc (rs.map dR)+1≤32;have:=i7 (k:=1) (ds:=rs.map dR) λd hd=>by
  obtain⟨x,hx,rfl⟩:=QZ.mp hd;exact QY 1
 lia
inductive fS(K:QJ)(vs:List V)(H:Hp)(Q:VK)(E_:XK):Prop where
 |mk (h:Nat) (la:Addr) (xs:List V) (rs:List R) (h0_:vs=[.int h,.ref la]) (h1_:aJ K H la xs) (h2_:bR (RV K H) xs rs) (h3_:bW rs) (h4_:1≤h) (h5_:h≤5) (h6_:∀(l:Addr) (ys:List V) (H':Hp),ax H H'->H' l=some (.lst ys)->bR (RV K H') ys (iG h rs)->Q (.ref l) H'):fS K vs H Q E_
structure Nh(K:QJ)(H H':Hp)(S:List R)(lr ls:Addr)(k:Nat)(xs ys:List V)(rs:List R):Prop where
 s:ax H H'
 fr:H lr=none
 fs:H ls=none
 ne:lr≠ls
 hr:H' lr=some (.lst xs)
 hs:H' ls=some (.lst ys)
 ar:bR (RV K H') xs rs
 as_:bR (RV K H') ys (S.take k)
 p:rs.Perm (S.drop k)
 le:k≤S.length
theorem Nh.same{K:QJ}{H H' H2:Hp}{S:List R}{lr ls:Addr}{k:Nat}{xs ys:List V}{rs:List R}(h:Nh K H H' S lr ls k xs ys rs)(s:ax H' H2):Nh K H H2 S lr ls k xs ys rs:=
 ⟨h.s.trans s,h.fr,h.fs,h.ne,s _ _ h.hr,s _ _ h.hs,h.ar.mono λ_ _ z=>z.mono (ay.same s),h.as_.mono λ_ _ z=>z.mono (ay.same s),h.p,h.le⟩
def ic(h:Nat)(rows:List (List R)):List R:=rows.flatMap (iG h)
def K0(rl:Rl)(h:Nat)(rows:List (List R)):Option R:=if(ic h rows).all (λs=>!df rl s)=true then some (bj ((ic h rows).map (bO rl))) else none
inductive gk(K:QJ)(vs:List V)(H:Hp)(Q:VK)(E_:XK):Prop where
 |mk (v:V) (rl:Rl) (h:Nat) (w:V) (pl:List (List Pc)) (h0_:vs=[v,.int h,w]) (h1_:ud K H v rl) (h2_:c7 rl) (h3_:xp rl) (h4_:FN K H w pl) (h5_:PQ pl) (h6_:1≤h) (h7_:h≤5) (h8_:∀(v':V) (H':Hp),ax H H'->gM K H' v' (K0 rl h (pl.map eG))->Q v' H'):gk K vs H Q E_
theorem mh(ok:c7 rl)(rt:xp rl)(o:iH s)(b:df rl s=false):Bq 59515953789365123158852704845422783159809256379678131039657860673594879039351138912567296000000000000 85030560000 (bO rl s):=vS ok rt o (d9 ok b)
theorem yn(ok:c7 rl)(rt:xp rl){L:List R}(o:∀s∈L,iH s)(b:∀s∈L,df rl s=false)(l:L.length≤120):Bq 59515953789365123158852704845422783159809256379678131039657860673594879039351138912567296000000000000 (85030560000*120) (bj (L.map (bO rl))):=by
 refine(jj δ λr hr=>?_).mono (To _) (UC _ ?_)
 ·obtain⟨s,hs,rfl⟩:=QZ.mp hr;exact mh ok rt (o s hs) (b s hs)
 simp_all
theorem Bn(h:Nat)(rows:List (List R))(c:List R):ic h (rows++[c])=ic h rows++iG h c:=by
 unfold ic
 simp_all
theorem kF{h:Nat}(h1:1≤h)(h5:h≤5):∀{rows:List (List R)},(∀c∈rows,bW c)->(ic h rows).length≤rows.length*5
 | [],_=>Rq _
 |c::rows,g=>by
  have a:=kF h1 h5 (rows:=rows) λx hx=>g x (QX _ hx)
  have b:=gB (g c QV) h1;show(iG h c++ic h rows).length≤_;grind
theorem jM(h1:1≤h)(h5:h≤5)(g:∀c∈rows,bW c):∀s∈ic h rows,iH s:=λs hs=>by
 obtain⟨c,hc,hs⟩:=US.mp hs;exact f8 (g c hc) h1 h5 s hs
theorem sS(m:s∈ic h rows)(b:df rl s=true):K0 rl h rows=none:=if_neg λz=>by
 simp_all
theorem nN(b:∀s∈ic h rows,df rl s=false):K0 rl h rows=some (bj ((ic h rows).map (bO rl))):=if_pos (T7.mpr λs hs=>by rw[b s hs];rfl)
theorem xT{f:Nat->Rat}{j:Nat}:∀{n:Nat},j<n->sr (λi=>if i=j then f i else 0) n=f j
 |0,h=>absurd h (TK _)
 |n+1,h=>by
  show sr _ n+(if n=j then f n else 0)=f j;by_cases c:n=j
  ·rw[if_pos c,aU (g:=λ_=>0) (λi hi=>if_neg ω),gh,c];grind
  ·rw[if_neg c,xT (n:=n) ω];grind
theorem gD{α:Type}(d:α){l:List α}{i:Nat}{x:α}(h:l[i]?=some x):l.getD i d=x:=by rw[Q1,h];rfl
theorem Iw(hq:pl[u]?=some q)(i v:Nat):u9 (pl.set u (q++[c])) i v=u9 pl i v+if v=u then(if c.1=i then val c.2 else 0) else 0:=by
 have ul:=(QN.mp hq).1;unfold u9;by_cases e:v=u
 ·subst e;rw[if_pos Z,gD [] (SQ ul),gD [] hq,Sm,Rb,S9]
  congr 1
  by_cases z:c.1=i
  ·rw[RY (by exact decide_eq_true z),if_pos z];show val c.2+0=_;grind
  simp_all
 ·rw[if_neg e,Q1,Si (SO e),←Q1];grind
theorem za(hq:pl[u]?=some q)(hu:u<24)(i:Nat):sr (u9 (pl.set u (q++[c])) i) 24=sr (u9 pl i) 24+if c.1=i then val c.2 else 0:=by
 rw[aU λv _=>Iw hq i v,ii,xT (f:=λ_=>if c.1=i then val c.2 else 0) hu]
theorem Fz(h:∀c∈pl.getD u [],c.1≠i):u9 pl i u=0:=by
 unfold u9;rw[Tp.mpr λc hc=>by rw[decide_eq_false (h c hc)];exact Rn];rfl
structure AM(ws:List Wk)(n:Nat)(pl:List (List Pc)):Prop where
 len:pl.length=24
 row:∀(u:Nat) (q:List Pc),pl[u]?=some q->(q.map (·.1)).Nodup/\∀c∈q,c.1<n/\(ws.getD c.1 bI).1≤u/\u≤(ws.getD c.1 bI).2.1/\FI c.2
 fin:∀i,i<n->sr (u9 pl i) 24=val (ws.getD i bI).2.2
theorem Fy(ws:List Wk):AM ws 0 (Q0 24 []):=⟨R0,λu q h=>by
 rw[(Uf.mp (QL h)).2];exact⟨SG,λc hc=>by cases hc⟩,λi h=>absurd h (TK _)⟩
structure AH(ws:List Wk)(pl:List (List Pc)):Prop where
 a:PQ pl
 len:pl.length=24
 row:∀t,t<24->AG ws t (pl.getD t [])
 fin:∀j,j<ws.length->sr (u9 pl j) 24=val (ws.getD j bI).2.2
theorem wE{q:List Pc}(h:(q.map (·.1)).Nodup)(l:∀c∈q,c.1<n):q.length≤n:=by
 have:=tq (L:=QM n) h λx hx=>by
  obtain⟨c,hc,rfl⟩:=QZ.mp hx;exact Q5.mpr (l c hc)
 simp_all
theorem OM(few:ws.length≤9)(h:AM ws ws.length pl):AH ws pl:=by
 refine⟨⟨UV h.len,λq hq=>?_⟩,h.len,λt ht=>?_,h.fin⟩
 ·obtain⟨u,hu⟩:=Sb hq;obtain⟨nd,r⟩:=h.row u q hu;refine⟨λr' hr=>?_,?_⟩
  ·obtain⟨c,hc,rfl⟩:=QZ.mp hr;exact(r c hc).2.2.2
  ·unfold eG;rw[QK];exact RC (wE nd λc hc=>(r c hc).1) few
 ·have hl:t<pl.length:=by rw[h.len];exact ht
  obtain⟨nd,r⟩:=h.row t _ (QH hl);rw[gD [] (QH hl)];refine⟨nd,λc hc=>?_⟩;obtain⟨a,b,d,e⟩:=r c hc;refine⟨a,?_,(ie e.bq.pos).mpr (Ry e.pos)⟩;unfold g8;grind
structure nE(ws:List Wk)(n k:Nat)(ns:List Int)(S:Int)(pl:List (List Pc)):Prop where
 len:pl.length=24
 row:∀(u:Nat) (q:List Pc),pl[u]?=some q->(q.map (·.1)).Nodup/\∀c∈q,c.1<n+(if(ws.getD n bI).1≤u/\u<(ws.getD n bI).1+k then 1 else 0)/\(ws.getD c.1 bI).1≤u/\u≤(ws.getD c.1 bI).2.1/\FI c.2
 fin:∀i,i<n->sr (u9 pl i) 24=val (ws.getD i bI).2.2
 now:sr (u9 pl n) 24*(S:Rat)=val (ws.getD n bI).2.2*(((ns.take k).sum:Int):Rat)
theorem AM.start(h:AM ws n pl)(ns:List Int)(S:Int):nE ws n 0 ns S pl:=by
 refine⟨h.len,λu q hq=>?_,h.fin,?_⟩
 ·obtain⟨a,b⟩:=h.row u q hq;refine⟨a,λc hc=>?_⟩;obtain⟨c1,c2⟩:=b c hc;exact⟨ω,c2⟩
 ·have z:sr (u9 pl n) 24=0:=by
   rw[aU (g:=λ_=>0) λu hu=>?_,gh];have hl:u<pl.length:=by rw[h.len];exact hu
   refine Fz λc hc=>?_
   rw[gD [] (QH hl)] at hc;have:=((h.row u _ (QH hl)).2 c hc).1;lia
  simp_all
theorem Bf{ns:List Int}(h:ns[k]?=some a):(ns.take (k+1)).sum=(ns.take k).sum+a:=by
 rw[Rt,h,S9];simp
theorem Jv:(if A≤u/\u<A+k then 1 else 0)≤(if A≤u/\u<A+(k+1) then 1 else 0):=by
 grind
theorem nE.few{n k:Nat}{S:Int}(h:nE ws n k ns S pl){u:Nat}{q:List Pc}(hq:pl[u]?=some q):q.length≤n+1:=by
 obtain⟨a,b⟩:=h.row u q hq;refine wE a λc hc=>?_
 have:=(b c hc).1
 split at this<;>lia
theorem nE.skip(h:nE ws n k ns S pl)(e:ns[k]?=some 0):nE ws n (k+1) ns S pl:=by
 refine⟨h.len,λu q hq=>?_,h.fin,by rw[Bf e,Zy];exact h.now⟩;obtain⟨a,b⟩:=h.row u q hq;exact⟨a,λc hc=>⟨Q7 (b c hc).1 (Vq Jv n),(b c hc).2⟩⟩
theorem Ot:∀k:Fin 32,0<k.val->84*k.val∣DM:=δ
theorem Hn(h1:1≤a)(h2:a≤S)(h3:S≤31)(hr:Bq 84 12 r)(hp:0<r.1):FI (aC r (cJ a S))/\val (aC r (cJ a S))*(S:Rat)=val r*(a:Rat):=by
 have sp:0<S:=ω
 have b:Bq S.toNat 1 (cJ a S):=pU sp (by rw[show((S.toNat:Nat):Int)=S by lia];exact WH _) ω;have d:=Ot ⟨S.toNat,ω⟩ (show 0<S.toNat by lia);have v:=lT (a:=a) sp;have vp:=lP hr.pos hp;have S0:(0:Rat)<(S:Rat):=SD.mpr sp;have a0:(0:Rat)<(a:Rat):=SD.mpr (show(0:Int)<a by lia);have e:val (aC r (cJ a S))*(S:Rat)=val r*(a:Rat):=by
  rw[cM hr.pos b.pos,v];grind
 have t:=hr.times b;refine⟨⟨t.mono d δ,wC t.pos ?_,?_⟩,e⟩
 ·have p:=ZS vp a0;rw[←e] at p;apply Q9;intro z;have:=RE (X5.mp z) (SE S0);grind
 ·have l:=Sh ω t.dvd;lia
theorem nE.put(h:nE ws n k ns S pl)(e:ns[k]?=some a)(hq:pl[(ws.getD n bI).1+k]?=some q)(hl:(ws.getD n bI).1+k≤(ws.getD n bI).2.1)(u24:(ws.getD n bI).1+k<24)(b:FI r)(v:val r*(S:Rat)=val (ws.getD n bI).2.2*(a:Rat)):nE ws n (k+1) ns S (pl.set ((ws.getD n bI).1+k) (q++[(n,r)])):=by
 refine⟨by rw[Ts];exact h.len,λu q' hq'=>?_,λi hi=>?_,?_⟩
 ·by_cases c:u=(ws.getD n bI).1+k
  ·subst c;rw[SQ (QN.mp hq).1] at hq'
   cases hq'
   obtain⟨x,y⟩:=h.row _ _ hq;rw[if_neg ω,Zs] at y;rw[if_pos ω];refine⟨?_,λd hd=>?_⟩
   ·rw[Rb,TH];refine⟨x,RJ.mpr ⟨(λz=>by cases z),SG⟩,λi hi j hj=>?_⟩;rw[Q2.mp hj];obtain⟨c,hc,rfl⟩:=QZ.mp hi;have:=(y c hc).1;show c.1≠n;lia
   ·rcases Rc.mp hd with z|z
    ·obtain⟨y1,y2⟩:=y d z;exact⟨VR y1,y2⟩
    simp_all
  ·rw[Si (SO c)] at hq';obtain⟨x,y⟩:=h.row _ _ hq';exact⟨x,λc hc=>⟨Q7 (y c hc).1 (Vq Jv n),(y c hc).2⟩⟩
 ·rw[za hq u24 i,h.fin i hi,if_neg (show ¬n=i by lia)];grind
 ·rw[za hq u24 n,if_pos Z,Bf e,Yd];have w:=h.now;show(_+val r)*_=_;grind
theorem nE.done(h:nE ws n ns.length ns S pl)(hS:S=ns.sum)(sp:0<S):AM ws (n+1) pl:=by
 refine⟨h.len,λu q hq=>?_,λi hi=>?_⟩
 ·obtain⟨a,b⟩:=h.row u q hq;refine⟨a,λc hc=>⟨Q7 (b c hc).1 (Vq ?_ n),(b c hc).2⟩⟩
  split
  ·exact QY _
  ·exact Rq _
 ·by_cases c:i=n
  ·subst c;have w:=h.now;rw[RW,←hS] at w;have S0:(0:Rat)<(S:Rat):=SD.mpr sp;generalize (S:Rat)=x at *;have:x≠0:=by grind
   grind
  ·exact h.fin i ω
theorem ay.steps{K:QJ}{t:Addr}{H H':Hp}{xs:List V}(h:H t=some (.lst xs))(k:∀b o,b≠t->H b=some o->H' b=some o)(h':∃ys,H' t=some (.lst ys)):ay K H H':=ay.step ⟨k,⟨xs,h⟩,h'⟩
structure AU(K:QJ)(H:Hp)(D:Addr)(rows:List Addr)(pl:List (List Pc)):Prop where
 top:H D=some (.lst (rows.map V.ref))
 len:rows.length=24
 nd:rows.Nodup
 nD:D∉rows
 row:∀(i:Nat) (r:Addr) (c:List Pc),rows[i]?=some r->pl[i]?=some c->∃xs,H r=some (.lst xs)/\bR (IF K H) xs c
section
variable {K:QJ}{H H':Hp}{D t:Addr}{rows:List Addr}{pl:List (List Pc)}
theorem AU.steps(g:AU K H D rows pl)(nt:D≠t)(nr:t∉rows)(s:∀b o,b≠t->H b=some o->H' b=some o)(tt:ay K H H'):AU K H' D rows pl:=by
 refine⟨s _ _ nt g.top,g.len,g.nd,g.nD,λi r c hr hc=>?_⟩;obtain⟨xs,hx,al⟩:=g.row i r c hr hc;exact⟨xs,s _ _ (λz=>nr (z▸QL hr)) hx,al.mono λ_ _ z=>z.mono tt⟩
theorem AU.same(g:AU K H D rows pl)(s:ax H H'):AU K H' D rows pl:=by
 refine⟨s _ _ g.top,g.len,g.nd,g.nD,λi r c hr hc=>?_⟩;obtain⟨xs,hx,al⟩:=g.row i r c hr hc;exact⟨xs,s _ _ hx,al.mono λ_ _ z=>z.mono (ay.same s)⟩
theorem AU.put(g:AU K H D rows pl)(hr:rows[i]?=some r)(hc:pl[i]?=some c)(hx:H r=some (.lst xs))(al:bR (IF K H) xs c)(hy:IF K H y pc):AU K (upd H r (.lst (xs++[y]))) D rows (pl.set i (c++[pc])):=by
 have tu:ay K H (upd H r (.lst (xs++[y]))):=ay.up hx _;have mr:=QL hr;have nDr:D≠r:=λz=>g.nD (by rw[z];exact mr)
 refine⟨by rw[ai nDr];exact g.top,g.len,g.nd,g.nD,λi' r' c' hr' hc'=>?_⟩;have il:=(QN.mp hc).1;by_cases e:i'=i
 ·subst e;rw[hr] at hr'
  cases hr'
  rw[SQ il] at hc'
  cases hc'
  exact⟨_,aa,(al.mono λ_ _ z=>z.mono tu).snoc (hy.mono tu)⟩
 ·rw[Si (SO e)] at hc';obtain⟨ys,hys,aly⟩:=g.row i' r' c' hr' hc';have ne:r'≠r:=λz=>by
   obtain⟨h1,e1⟩:=QN.mp hr;obtain⟨h2,e2⟩:=QN.mp hr';exact e ((TY (h₀:=h2) (h₁:=h1) g.nd).mp (by rw[e1,e2,z]))
  exact⟨ys,by rw[ai ne];exact hys,aly.mono λ_ _ z=>z.mono tu⟩
end
theorem EU{M:Int}(m0:0≤M):∀{ns:List Int},(∀z∈ns,0≤z/\z≤M)->0≤ns.sum/\ns.sum≤M*ns.length/\∀a∈ns,a≤ns.sum
 | [],_=>⟨TF _,by show(0:Int)≤M*0;lia,λa h=>by cases h⟩
 |n::t,h=>by
  obtain⟨a,b,c⟩:=EU m0 (ns:=t) λz hz=>h z (QX _ hz)
  have hn:=h n QV;rw[Sc,RU];grind
theorem Jw{a:Int}:∀{i:Nat} {ns:List Int},ns[i]?=some a->(ns.set i (a+1)).sum=ns.sum+1
 |_,[],h=>by cases h
 |0,n::t,h=>by
  cases h
  show(a+1+t.sum)=a+t.sum+1;lia
 |i+1,n::t,h=>by
  have:=Jw (i:=i) (ns:=t) h;show n+(t.set i (a+1)).sum=n+t.sum+1;lia
inductive iy(K:QJ)(vs:List V)(H:Hp)(Q:VK)(E_:XK):Prop where
 |mk (t l:Addr) (v:V) (ws:List Wk) (h0_:vs=[.ref t,v]) (h1_:cq H t l) (h2_:va K H v ws) (h3_:(∀w∈ws,zj w)) (h4_:ws.length≤9) (h5_:∀(v':V) (pl:List (List Pc)) (H':Hp),jH [t] H H'->cq H' t l->FN K H' v' pl->AH ws pl->Q v' H'):iy K vs H Q E_
def Nd(K:QJ)(ws:List Wk)(h:Nat)(rl:Rl)(H:Hp)(v:V):Prop:=(∃xs:List Rw,lY ws h xs/\(∀x∈xs,bA rl x.1)/\FN K H v (j4 (xs.map λx:Rw=>x.2)))∨(v=.non/\∃xs:List Rw,lY ws h xs/\∃x∈xs,¬bA rl x.1)
theorem Nd.mono{K:QJ}{ws:List Wk}{h:Nat}{rl:Rl}{H H':Hp}{v:V}(l:Nd K ws h rl H v)(t:ay K H H'):Nd K ws h rl H' v:=by
 rcases l with⟨xs,a,b,c⟩|r
 ·exact .inl ⟨xs,a,b,c.mono t⟩
 ·exact .inr r
inductive ky(K:QJ)(vs:List V)(H:Hp)(Q:VK)(E_:XK):Prop where
 |mk (v u:V) (h:Nat) (ws:List Wk) (rl:Rl) (h0_:vs=[v,u,.int (h:Nat)]) (h1_:va K H v ws) (h2_:Iy ws) (h3_:ud K H u rl) (h4_:c7 rl) (h5_:1≤h) (h6_:h≤5) (h7_:∀(v':V) (H':Hp),ax H H'->Nd K ws h rl H' v'->Q v' H'):ky K vs H Q E_
def MN:List R:=[(1,2),(2,1),(5,1),(40,1),(1,1),(3,1),(3,2)]
theorem qP(h:s∈MN):Bq 2 40 s/\0<s.1/\s≠(0,1):=by
 simp only[MN,Rm,UK,or_false] at h;rcases h with rfl|rfl|rfl|rfl|rfl|rfl|rfl<;>exact⟨⟨δ,δ,δ,δ⟩,δ,δ⟩
structure IC(k:Nat)(rows:List (R×R))(c:Rat):Prop where
 len:rows.length=k+1
 k7:k≤7
 zero:∃y,rows[0]?=some ((0,1),y)
 inc:Pg rows
 ok:∀r∈rows,Bq 2 40 r.1/\Bq 4 (1+1360*k) r.2
 sl:∀j,j+1<rows.length->Bq 2 17 (AQ rows j)/\0≤val (AQ rows j)
 cv:B.Cvx rows
 lt:∀j,j+2=rows.length->B.sl (Sv rows) (Pv rows) j≤c
def M7:Rl->Prop
 | .pow _=>True
 | .tab rows=>B.Cvx rows/\∀j,j+1<rows.length->0≤val (AQ rows j)
theorem IC.rule(h:IC k rows c)(k1:1≤k):c7 (.tab rows)/\xp (.tab rows)/\M7 (.tab rows):=by
 have k7:=h.k7;have len:=h.len;have kk:1+1360*k≤9521:=ω
 refine⟨⟨ω,ω,h.inc,h.zero,λr hr=>(h.ok r hr).1.mono δ δ,λr hr=>(h.ok r hr).2.mono δ (RC kk δ)⟩,⟨λr hr=>⟨(h.ok r hr).1.mono δ δ,(h.ok r hr).2.mono δ (RC kk δ)⟩,λj hj=>(h.sl j hj).1.mono δ δ⟩,h.cv,λj hj=>(h.sl j hj).2⟩
theorem IC.start(h:Bq 4 1 y)(c:Rat):IC 0 [((0,1),y)] c:=
 ⟨Z,δ,⟨y,Z⟩,VJ _ _,λr hr=>by
  rw[Q2.mp hr];exact⟨(⟨δ,δ,δ,δ⟩:Bq 2 40 ((0,1):R)),h⟩,λj hj=>absurd hj (by simp),λj hj=>absurd hj (by simp),λj hj=>absurd hj (by simp)⟩
theorem Gd(h:j+1<rows.length):AQ (rows++[w]) j=AQ rows j:=by
 unfold AQ;grind
theorem IC.snoc{k:Nat}{rows:List (R×R)}{c:Rat}(h:IC k rows c)(k6:k<7){w:R×R}(hw:rows[k]?=some w){s sl:R}(hs:Bq 2 40 s)(lt:aL w.1 s=true)(hsl:Bq 2 17 sl)(s0:0≤val sl)(cl:c≤val sl):IC (k+1) (rows++[(s,aK w.2 (aC sl (aA s w.1)))]) (val sl):=by
 have len:=h.len;have mw:=QL hw;obtain⟨w1,w2⟩:=h.ok w mw;have lv:=(bM w1.pos hs.pos).mp lt;have bm:=hs.minus δ w1;have bt:Bq 4 1360 (aC sl (aA s w.1)):=(hsl.times bm).mono δ δ;have bp:=w2.plus δ bt;have vm:val (aA s w.1)=val s-val w.1:=dt hs.pos w1.pos;have mpos:0<(aA s w.1).1:=wC bm.pos (by rw[vm];grind);have es:aK w.1 (aA s w.1)=s:=by
  refine c8 (w1.plus δ bm).red hs.red ?_;rw[dg w1.pos bm.pos,vm];grind
 have cv:=Cv.snoc (rows:=rows) (i:=k) (w:=w) (slo:=sl) (st:=aA s w.1) len hw ⟨h.cv,λj hj=>SK (h.lt j hj) cl⟩ w1.pos w2.pos hsl.red bm.red mpos;rw[es] at cv;have g1:(rows++[(s,aK w.2 (aC sl (aA s w.1)))])[k]?=some w:=by rw[RQ ω];exact hw
 have g2:(rows++[(s,aK w.2 (aC sl (aA s w.1)))])[k+1]?=some (s,aK w.2 (aC sl (aA s w.1))):=by
  simp_all
 have esl:AQ (rows++[(s,aK w.2 (aC sl (aA s w.1)))]) k=sl:=by
  rw[oC g1 g2];unfold bu;have bd:=bp.minus δ w2;refine c8 (kQ bd.pos (Int.ne_of_gt mpos)) hsl.red ?_;show val (d6 (aA (aK w.2 (aC sl (aA s w.1))) w.2) (aA s w.1))=val sl;rw[j9 bd.pos bm.pos (Int.ne_of_gt mpos),dt bp.pos w2.pos,dg w2.pos bt.pos,cM hsl.pos bm.pos,vm];have ne:val s-val w.1≠0:=by grind
  generalize val s-val w.1=d at ne;grind
 have ok':Bq 4 (1+1360*(k+1)) (aK w.2 (aC sl (aA s w.1))):=bp.mono (To _) ω;refine⟨by rw[Q8,len];rfl,ω,?_,?_,λr hr=>?_,λj hj=>?_,cv.1,cv.2⟩
 ·obtain⟨y,ey⟩:=h.zero;exact⟨y,by rw[RQ ω];exact ey⟩
 ·refine List.pairwise_append.mpr ⟨h.inc,VJ _ _,λa ha b hb=>?_⟩;rw[Q2.mp hb];obtain⟨i,hi⟩:=Sb ha;have il:=(QN.mp hi).1;have pa:=(h.ok a ha).1.pos;refine(bM pa hs.pos).mpr ?_;by_cases c:i=k
  ·rw[c,hw] at hi
   cases hi
   exact lv
  ·obtain⟨h1,e1⟩:=QN.mp hi;obtain⟨h2,e2⟩:=QN.mp hw;have l:=R8.mp h.inc i k h1 h2 ω;rw[e1,e2] at l;have l':=(bM pa w1.pos).mp l;grind
 ·rcases Rc.mp hr with z|z
  ·obtain⟨a,b⟩:=h.ok r z;exact⟨a,b.mono (To _) ω⟩
  ·rw[Q2.mp z];exact⟨hs,ok'⟩
 ·rw[Q8,Sd] at hj;by_cases c:j+1<rows.length
  ·rw[Gd c];exact h.sl j c
  ·have ej:j=k:=ω
   rw[ej,esl];exact⟨hsl,s0⟩
structure vh(K:QJ)(H H':Hp)(t l ls:Addr)(xs:List V)(ss:List R):Prop where
 st:jH [t] H H'
 tb:cq H' t l
 fs:H ls=none
 nt:ls≠t
 nl:ls≠l
 hs:H' ls=some (.lst xs)
 al:bR (RV K H') xs ss
section
variable {K:QJ}{H H' H2:Hp}{t l ls lr:Addr}{xs zs:List V}{ss:List R}{rows:List (R×R)}
theorem vh.same(h:vh K H H' t l ls xs ss)(s:ax H' H2):vh K H H2 t l ls xs ss:=
 ⟨h.st.trans (jH.of s),h.tb.same s,h.fs,h.nt,h.nl,s _ _ h.hs,h.al.mono λ_ _ z=>z.mono (ay.same s)⟩
theorem vh.tst(h:vh K H H' t l ls xs ss)(ys:List V):ay K H' (upd H' t (.lst ys)):=by
 obtain⟨zs,e⟩:=h.tb.lst;exact ay.up e ys
theorem vh.tape(h:vh K H H' t l ls xs ss)(tb:cq (upd H' t (.lst ys)) t l):vh K H (upd H' t (.lst ys)) t l ls xs ss:=
 ⟨h.st.trans (jH.tp _),tb,h.fs,h.nt,h.nl,by rw[ai h.nt];exact h.hs,h.al.mono λ_ _ z=>z.mono (h.tst ys)⟩
theorem vh.put(h:vh K H H' t l ls xs ss)(al:bR (RV K H') ys ss'):vh K H (upd H' ls (.lst ys)) t l ls ys ss':=by
 have t':=ay.up (K:=K) h.hs ys;exact⟨λb o n q=>by rw[ai (au q h.fs)];exact h.st b o n q,h.tb.keep (λo q=>by rw[ai h.nt.symm];exact q) (λo q=>by rw[ai h.nl.symm];exact q),h.fs,h.nt,h.nl,aa,al.mono λ_ _ z=>z.mono t'⟩
structure xo(K:QJ)(H H':Hp)(t l ls lr:Addr)(xs zs:List V)(ss:List R)(rows:List (R×R)):Prop where
 u:vh K H H' t l ls xs ss
 fr:H lr=none
 nt:lr≠t
 nl:lr≠l
 ne:lr≠ls
 hr:H' lr=some (.lst zs)
 ar:bR (lK K H') zs rows
theorem xo.same(h:xo K H H' t l ls lr xs zs ss rows)(s:ax H' H2):xo K H H2 t l ls lr xs zs ss rows:=
 ⟨h.u.same s,h.fr,h.nt,h.nl,h.ne,s _ _ h.hr,h.ar.mono λ_ _ z=>z.mono (ay.same s)⟩
theorem xo.tape(h:xo K H H' t l ls lr xs zs ss rows)(tb:cq (upd H' t (.lst ys)) t l):xo K H (upd H' t (.lst ys)) t l ls lr xs zs ss rows:=
 ⟨h.u.tape tb,h.fr,h.nt,h.nl,h.ne,by rw[ai h.nt];exact h.hr,h.ar.mono λ_ _ z=>z.mono (h.u.tst ys)⟩
theorem xo.puts(h:xo K H H' t l ls lr xs zs ss rows)(al:bR (RV K H') ys ss'):xo K H (upd H' ls (.lst ys)) t l ls lr ys zs ss' rows:=
 ⟨h.u.put al,h.fr,h.nt,h.nl,h.ne,by rw[ai h.ne];exact h.hr,h.ar.mono λ_ _ z=>z.mono (ay.up (K:=K) h.u.hs ys)⟩
theorem vh.mkr(u:vh K H H' t l ls xs ss)(fr:H lr=none)(nt:lr≠t)(nl:lr≠l)(ne:lr≠ls)(hr:H' lr=some (.lst zs))(ar:bR (lK K H') ys rows'):xo K H (upd H' lr (.lst ys)) t l ls lr xs ys ss rows':=by
 have t':=ay.up (K:=K) hr ys;exact⟨⟨λb o n q=>by rw[ai (au q fr)];exact u.st b o n q,u.tb.keep (λo q=>by rw[ai nt.symm];exact q) (λo q=>by rw[ai nl.symm];exact q),u.fs,u.nt,u.nl,by rw[ai ne.symm];exact u.hs,u.al.mono λ_ _ z=>z.mono t'⟩,fr,nt,nl,ne,aa,ar.mono λ_ _ z=>z.mono t'⟩
theorem xo.putr(h:xo K H H' t l ls lr xs zs ss rows)(ar:bR (lK K H') ys rows'):xo K H (upd H' lr (.lst ys)) t l ls lr xs ys ss rows':=h.u.mkr h.fr h.nt h.nl h.ne h.hr ar
end
theorem xY(s:jH [t] H H')(ha:H' a=none)(nt:a≠t):H a=none:=by
 cases c:H a with
 |none=>rfl
 |some o=>
  rw[s a o (λz=>nt (Q2.mp z)) c] at ha
  cases ha
inductive mO(K:QJ)(vs:List V)(H:Hp)(Q:VK)(E_:XK):Prop where
 |mk (t l la:Addr) (xs:List V) (h0_:vs=[.ref t,.ref la]) (h1_:cq H t l) (h2_:la≠t) (h3_:H la=some (.lst xs)) (h4_:bR (RV K H) xs [(1,1),(3,1),(3,2)]) (h5_:∀(u:V) (rl:Rl) (H':Hp),jH [t] H H'->cq H' t l->ud K H' u rl->c7 rl->xp rl->M7 rl->Q u H'):mO K vs H Q E_
theorem sU(h:de s)(n:Nat):de (dN s n):=by cases n with|zero=>exact⟨by show(0:Int)<1;decide,by show Rf 1 1=1;decide⟩|succ n=>exact eP (sU h n) h
theorem j8(h:de s)(n:Nat):val (dN s (n+1))=val (dN s n)*val s:=cM (sU h n).pos h.pos
theorem zP(hk:2≤k/\k≤4)(hs:jX s)(ho:jX o)(hg:0<g.2)(hB:Fx (jR k s) (some (jR k s)) g=true):val (dN s k.toNat)+val g*(val o-val s)≤val (dN o k.toNat):=by
 have w:=yo hk hs.wf;unfold Fx at hB;rw[Vj] at hB;have b1:aL g (jR k s)=false:=by simpa using hB.1
 have b2:aL (jR k s) g=false:=by simpa using hB.2
 have e:val g=val (jR k s):=Um ((bD w.pos hg).mp b2) ((bD hg w.pos).mp b1);have ev:val (jR k s)=(k:Rat)*val (dN s (k-1).toNat):=by
  unfold jR;rw[cM (Mj hk).pos (sU hs.bq.red _).pos,A0]
 rw[e,ev];have sn:=(ie hs.bq.pos).mpr hs.nn;have on:=(ie ho.bq.pos).mpr ho.nn;have p0:∀z:R,val (dN z 0)=1:=λz=>FU
 have S:=λn=>j8 hs.bq.red n
 have O:=λn=>j8 ho.bq.red n
 rcases(show k=2∨k=3∨k=4 by lia) with rfl|rfl|rfl
 ·show val (dN s 2)+((2:Int):Rat)*val (dN s 1)*(val o-val s)≤val (dN o 2);rw[show((2:Int):Rat)=2 from Z,S 1,S 0,O 1,O 0,p0,p0];have:=zS (val o) (val s);grind
 ·show val (dN s 3)+((3:Int):Rat)*val (dN s 2)*(val o-val s)≤val (dN o 3);rw[show((3:Int):Rat)=3 from Z,S 2,S 1,S 0,O 2,O 1,O 0,p0,p0];have:=zR on sn;grind
 ·show val (dN s 4)+((4:Int):Rat)*val (dN s 3)*(val o-val s)≤val (dN o 4);rw[show((4:Int):Rat)=4 from Z,S 3,S 2,S 1,S 0,O 3,O 2,O 1,O 0,p0,p0];have:=zQ on sn;grind
def Io(x:Rat):R:=(x.num,(x.den:Int))
theorem Im(x:Rat):de (Io x):=⟨by show(0:Int)<(x.den:Int);have:=x.den_pos;lia,by show Rf x.num (x.den:Int)=1;exact x.reduced⟩
theorem FV(x:Rat):val (Io x)=x:=by
 show(x.num:Rat)/(((x.den:Int)):Rat)=x;rw[←Rat.divInt_eq_div,Rat.num_divInt_den]
theorem Il(h:de r):Io (val r)=r:=c8 (Im _) h (FV _)
def vO(rl:Rl)(x:Rat):Rat:=val (bO rl (Io x))
def M5(rl:Rl)(x:Rat):Prop:=∃s:R,iH s/\bA rl s/\val s=x
theorem me(h:de s):vO rl (val s)=val (bO rl s):=by unfold vO;rw[Il h]
theorem ME(z:D 0)(h:∀s,D s->∃γ:Rat,∀x,D x->P s+γ*(x-s)≤P x):∃g,Cvx P g D:=by
 refine⟨λs=>@dite _ (∃γ:Rat,∀x,D x->P s+γ*(x-s)≤P x) (UP _) (λq=>XT q) λ_=>0,?_,?_,z⟩
 ·intro s x hs hx;rw[dif_pos (h s hs)];exact VZ (h s hs) x hx
 ·intro s x hs hx l;rw[dif_pos (h s hs),dif_pos (h x hx)];have a:=VZ (h s hs) x hx;have b:=VZ (h x hx) s hs;by_cases e:s=x
  ·simp_all
  ·generalize XT (h s hs)=u at *;generalize XT (h x hx)=v at *;have p:0<x-s:=by grind
   apply Q9;intro c;have c':v<u:=Tu.mp c;have m:=ZS (show 0<u-v by grind) p;grind
theorem pV(ok:c7 rl):bA rl (0,1):=by
 cases rl with
 |pow k=>trivial
 |tab rows=>
  have ok':bg rows:=ok;have n2:=ok'.n2;have e:rows[rows.length-1]?=some (rows[rows.length-1]' ω):=QH _;have nn:=Kl ok' e;have p:=(ok'.sp _ (QL e)).pos;refine⟨_,e,?_⟩;refine(bD p (show(0:Int)<1 by decide)).mpr ?_;rw[show val ((0,1):R)=0 from(bX δ).mpr Z];exact(ie p).mpr nn
theorem nH:iH ((0,1):R):=⟨⟨δ,δ,δ,δ⟩,δ⟩
theorem De(ok:c7 rl)(rc:M7 rl):∃g,Cvx (vO rl) g (M5 rl):=by
 refine ME ⟨(0,1),nH,pV ok,(bX δ).mpr Z⟩ ?_;rintro _ ⟨s,os,bs,rfl⟩
 cases rl with
 |pow k=>
  refine⟨val (jR k s),?_⟩;rintro _ ⟨x,ox,bx,rfl⟩;rw[me os.bq.red,me ox.bq.red];have w:=yo ok os.sp.wf;refine zP ok os.sp ox.sp w.pos ?_;have l:aL (jR k s) (jR k s)=false:=(bD w.pos w.pos).mpr R1;simp[Fx,l]
 |tab rows=>
  have ok':bg rows:=ok;obtain⟨m,hm,m1,m2,em⟩:=uE ok' os.sp bs;refine⟨sl (Sv rows) (Pv rows) m,?_⟩;rintro _ ⟨x,ox,bx,rfl⟩;rw[me os.bq.red,me ox.bq.red];have a:=above ok' rc.1 ox.sp bx hm;show val (qK rows s)+_≤val (qK rows x);rw[em];grind
theorem Gj(h:jz WS f q ns fr):∀j∈ns,IH WS q (f j) j:=by
 induction h with
 |nil=>exact λj hj=>by cases hj
 | @step ns fr r U F h a c n ih=>
  grind
def AF(Rs:List (List R))(i t:Nat):R:=(Rs.getD i []).getD t (0,1)
def zy(Rs:List (List R))(t:Nat):List Pc:=((QM Rs.length).filter λi=>decide (AF Rs i t≠(0,1))).map λi=>(i,AF Rs i t)
theorem vW(Rs:List (List R))(ht:t<24):(j4 Rs)[t]?=some (zy Rs t):=by
 unfold j4;rw[Q4,Tr ht];rfl
theorem kO(Rs:List (List R)):(j4 Rs).length=24:=by
 unfold j4;rw[QK,Rx]
theorem row_mem(h:c∈zy Rs t):c.1<Rs.length/\c.2=AF Rs c.1 t/\AF Rs c.1 t≠(0,1):=by
 obtain⟨i,hi,rfl⟩:=QZ.mp h
 simp_all
theorem Df(Rs:List (List R))(t:Nat):((zy Rs t).map (·.1)).Nodup:=by
 unfold zy;rw[RO,show((λc:Pc=>c.1)∘λi=>(i,AF Rs i t))=id from Z,Ys];exact W0 Vs UR
theorem yy{α:Type}(f:α->Rat)(p:α->Bool)(a:α):∀{l:List α},l.Nodup->(∀x∈l,p x=true↔x=a)->((l.filter p).map f).sum=@ite _ (a∈l) (UP _) (f a) 0
 | [],_,_=>by rw[if_neg (λz=>by cases z)];rfl
 |x::l,nd,h=>by
  obtain⟨n1,n2⟩:=RJ.mp nd;have ih:=yy f p a (l:=l) n2 λy hy=>h y (QX _ hy)
  grind
theorem zb(hj:j<Rs.length)(ht:t<24):u9 (j4 Rs) j t=val (AF Rs j t):=by
 unfold u9;rw[gD [] (vW Rs ht)];by_cases z:AF Rs j t=(0,1)
 ·rw[z,show val ((0,1):R)=0 from(bX δ).mpr Z,Tp.mpr λc hc=>?_]
  ·rfl
  ·intro e;have e':=of_decide_eq_true e;obtain⟨_,_,c3⟩:=row_mem hc;lia
 ·unfold zy;rw[Wo,RO];have nd:((QM Rs.length).filter λi=>decide (AF Rs i t≠(0,1))).Nodup:=W0 Vs UR;have s:=yy (λi=>val (AF Rs i t)) (λi=>decide (i=j)) j nd λx _=>decide_eq_true_iff
  rw[if_pos (Q3.mpr ⟨Q5.mpr hj,decide_eq_true z⟩)] at s;exact s
theorem JE{xs:List Rw}(t:Nat)(hi:i<xs.length):AF (xs.map λx:Rw=>x.2) i t=(xs.getD i vg).2.getD t (0,1):=by
 unfold AF
 simp_all
theorem oN(few:ws.length≤9)(o:lY ws h xs):AH ws (j4 (xs.map λx:Rw=>x.2)):=by
 obtain⟨lx,ok,rp⟩:=o;have ap:=Gj rp;have lR:(xs.map λx:Rw=>x.2).length=ws.length:=by rw[QK,lx]
 have am:∀i t,i<ws.length->t<24->O7 (AF (xs.map λx:Rw=>x.2) i t)/\val (AF (xs.map λx:Rw=>x.2) i t)=qV (λj=>xs.getD j vg) i t:=λi t hi ht=>by
  have hi':i<xs.length:=ω
  rw[JE t hi'];have e:xs.getD i vg=xs[i]:=gD vg (QH hi');have o:=ok _ (Ri hi');refine⟨?_,Z⟩;rw[e];have ht':t<(xs[i]).2.length:=by rw[o.len];exact ht
  rw[gD (0,1) (QH ht')];exact o.am _ (Ri ht')
 generalize (xs.map λx:Rw=>x.2)=Rs at lR am ⊢;have row:∀t,t<24->∀c∈zy Rs t,c.1<ws.length/\FI c.2/\g8 (ws.getD c.1 bI) t=true:=λt ht c hc=>by
  obtain⟨c1,c2,c3⟩:=row_mem hc;rw[lR] at c1;obtain⟨a,v⟩:=am c.1 t c1 ht;have aR:FI c.2:=by
   rw[c2];exact a.am c3
  have p:=ap c.1 (Q5.mpr c1);refine⟨c1,aR,(p.bd t ht).2.2 λz=>?_⟩;rw[←v,←c2] at z;have:=lP aR.bq.pos aR.pos;rw[z] at this;exact Rat.lt_irrefl this
 refine⟨⟨UV (kO Rs),λq hq=>?_⟩,kO Rs,λt ht=>?_,λj hj=>?_⟩
 ·obtain⟨t,ht⟩:=Sb hq;have t24:t<24:=by rw[←kO Rs];exact(QN.mp ht).1
  rw[vW Rs t24] at ht
  cases ht
  refine⟨λr hr=>?_,?_⟩
  ·obtain⟨c,hc,rfl⟩:=QZ.mp hr;exact(row t t24 c hc).2.1
  ·unfold eG;rw[QK];exact RC (wE (Df Rs t) λc hc=>(row t t24 c hc).1) few
 ·rw[gD [] (vW Rs ht)];refine⟨Df Rs t,λc hc=>?_⟩;obtain⟨a,b,d⟩:=row t ht c hc;exact⟨a,d,SE (lP b.bq.pos b.pos)⟩
 ·rw[aU (g:=qV (λj=>xs.getD j vg) j) λt ht=>?_]
  ·exact(ap j (Q5.mpr hj)).am
  ·rw[zb (by rw[lR];exact hj) ht];exact(am j t hj ht).2
theorem gN:∀l:List R,gO l=(l.map val).sum
 | []=>rfl
 |a::l=>by
  show val a+gO l=val a+(l.map val).sum;rw[gN l]
theorem Bo(so:jY S)(ps:∀r∈S,0<r.2)(hij:i≤j)(hj:j<S.length):val (S.getD j (0,1))≤val (S.getD i (0,1)):=by
 rcases Nat.lt_or_eq_of_le hij with z|z
 ·have hi:i<S.length:=ω
  rw[gD _ (QH hi),gD _ (QH hj)];exact(bD (ps _ (Ri hi)) (ps _ (Ri hj))).mp (R8.mp so i j hi hj z)
 simp_all
def MR(h:Nat)(rs:List R):Nat:=JG h (fR rs)
def L9(h:Nat)(rs:List R):Rat:=val (cH h (fR rs) (JG h (fR rs)))
def F8(rs:List R):List Rat:=(fR rs).map val
theorem F7(rs:List R):(F8 rs).Perm (rs.map val):=(dX rs).map val
theorem EY(a:bW rs)(h1:1≤h):vc h (F8 rs) (MR h rs) (L9 h rs):=by
 have lt:=pY a h1;have al:=jg h (fR rs);have pm:=dX rs;have aS:=a.perm pm;have ps:∀r∈fR rs,0<r.2:=λr hr=>(aS.red r hr).pos
 have so:jY (fR rs):=ki λr hr=>(a.red r hr).pos
 unfold F8 MR L9;generalize JG h (fR rs)=k at lt al ⊢;generalize fR rs=S at al aS ps so ⊢;have le:=al.le;refine⟨?_,λx hx=>?_,by rw[QK];exact le,lt,?_,λx hx=>?_,λx hx=>?_⟩
 ·rw[Xk];refine Xs (λ{a b} ha hb l=>?_) so;exact(bD (ps a ha) (ps b hb)).mp l
 ·obtain⟨r,hr,rfl⟩:=QZ.mp hx;exact(ie (ps r hr)).mpr (Ry (aS.ok r hr).pos)
 ·rw[iV aS lt,gN,aax]
 ·rw[←aax] at hx;obtain⟨r,hr,rfl⟩:=QZ.mp hx;obtain⟨i,hi⟩:=Sb hr;rw[List.getElem?_drop] at hi;have il:=(QN.mp hi).1;have kl:k<S.length:=ω
  have g:=al.st kl;have m0:=uP aS lt;have x1:=(bD m0 (aS.ok _ (fN kl)).bq.pos).mp g;have x2:=Bo so ps (show k≤k+i by lia) il;rw[gD _ hi] at x2;exact SK x2 x1
 ·rw[←aaw] at hx;obtain⟨r,hr,rfl⟩:=QZ.mp hx;obtain⟨i,hi⟩:=Sb hr;have il:=(QN.mp hi).1;rw[RD] at il;rw[Vv ω] at hi;obtain⟨k',rfl⟩:∃k',k=k'+1:=⟨k-1,ω⟩;have x1:=pE aS lt (show k'<S.length by lia) (al.go k' ω);have x2:=Bo so ps (show i≤k' by lia) (show k'<S.length by lia);rw[gD _ hi] at x2;exact SK x1 x2
theorem yN(a:bW rs)(h1:1≤h)(hk:k<h):pG (F8 rs) (MR h rs) (L9 h rs) k=val ((iG h rs).getD k (0,1)):=by
 have lt:=pY a h1;have le:=(jg h (fR rs)).le;unfold pG F8 MR L9 iG Am;grind
theorem NA(f:R->Rat){L:List R}(e:L.length=n):sr (λk=>f (L.getD k (0,1))) n=(L.map f).sum:=by
 have x:=ig (L:=L.map f) (n:=n) (by rw[QK];lia);rw[SC (by rw[QK];lia)] at x;rw[←x];refine aU λk hk=>?_
 simp_all
theorem NX(a:bW rs)(h1:1≤h)(h5:h≤5):sr (λk=>vO rl (pG (F8 rs) (MR h rs) (L9 h rs) k)) h=((iG h rs).map λs=>val (bO rl s)).sum:=by
 have ok:=f8 a h1 h5;have len:=gB a h1;rw[←NA (λs=>val (bO rl s)) len];refine aU λk hk=>?_
 have kl:k<(iG h rs).length:=ω
 rw[yN a h1 hk,gD _ (QH kl),me (ok _ (Ri kl)).bq.red]
theorem wP(ok:c7 rl)(a:bW rs)(h1:1≤h)(h5:h≤5)(b:∀s∈iG h rs,df rl s=false)(hk:k<h):M5 rl (pG (F8 rs) (MR h rs) (L9 h rs) k):=by
 have len:=gB a h1;have kl:k<(iG h rs).length:=ω
 have m:=Ri kl;rw[yN a h1 hk,gD _ (QH kl)];exact⟨_,f8 a h1 h5 _ m,d9 ok (b _ m),Z⟩
def ux(pl:List (List Pc))(t:Nat):List R:=eG (pl.getD t [])
def wO(h:Nat)(pl:List (List Pc))(t:Nat):Nat->Rat:=pG (F8 (ux pl t)) (MR h (ux pl t)) (L9 h (ux pl t))
theorem AH.ams(o:AH ws pl)(ht:t<24):bW (ux pl t):=by
 have hl:t<pl.length:=by rw[o.len];exact ht
 unfold ux;rw[gD [] (QH hl)];exact o.a.ok _ (Ri hl)
theorem Be(pl:List (List Pc))(t:Nat):(F8 (ux pl t)).Perm ((pl.getD t []).map λc=>val c.2):=by
 have:=F7 (ux pl t);unfold ux eG at this ⊢;rw[RO] at this;exact this
theorem D5(o:AH ws pl)(h1:1≤h):AS ws h (u9 pl) (wO h pl):=
 Li o.row o.fin (λt _=>Be pl t) λt ht=>EY (o.ams ht) h1
theorem Bm(o:AH ws pl)(ht:t<24)(hs:s∈iG h (ux pl t)):s∈ic h (pl.map eG):=by
 have hl:t<pl.length:=by rw[o.len];exact ht
 refine US.mpr ⟨ux pl t,?_,hs⟩;unfold ux;grind
theorem qH(f24:fr.length=24)(n0:ns≠[])(R:jz ws f q ns fr):∃r U,lO ws ns fr r U/\∃j∈ns,f j=r:=by
 cases R with
 |nil=>exact absurd Z n0
 | @step _ _ r U F h a c n=>
  obtain⟨j,hj,uj⟩:=F.some f24;exact⟨r,U,F,j,hj,h j hj uj⟩
theorem Oy(o:AH ws pl)(h1:1≤h)(ht:t<24)(hk:k<h):∃s∈iG h (ux pl t),wO h pl t k=val s:=by
 have kl:k<(iG h (ux pl t)).length:=by rw[gB (o.ams ht) h1];exact hk
 refine⟨_,Ri kl,?_⟩;have:=yN (o.ams ht) h1 hk;rw[gD _ (QH kl)] at this;exact this
theorem MJ(ok:c7 rl)(nb:¬bA rl s):df rl s=true:=by
 cases c:df rl s with
 |true=>rfl
 |false=>exact absurd (d9 ok c) nb
theorem GO(ap:∀j∈QM ws.length,0<val (ws.getD j bI).2.2)(ok:c7 rl)(o:lY ws h xs)(nb:∃x∈xs,¬bA rl x.1)(p:AH ws pl)(h1:1≤h)(h5:h≤5):K0 rl h (pl.map eG)=none:=by
 obtain⟨lx,okx,rp⟩:=o;obtain⟨x,hx,nbx⟩:=nb;obtain⟨i,hi⟩:=Sb hx;have il:=(QN.mp hi).1;have f24:(Q0 24 h).length=24:=R0;obtain⟨r,U,F,j,hj,ej⟩:=qH f24 (λz=>by have:=congrArg Yl z;rw[Rx] at this;have:ws.length=0:=this;lia) rp;have le:=FF.le rp.rnd f24 F i (Q5.mpr ω);rw[gD vg hi] at le;have jl:j<xs.length:=by rw[lx];exact Q5.mp hj
 have rpos:0<r.2:=by
  rw[←ej,gD vg (QH jl)];exact(okx _ (Ri jl)).sp.pos
 have nr:¬bA rl r:=λb=>nbx (hZ (okx x hx).sp.pos rpos ok le b)
 obtain⟨t,k,ht,hk,l⟩:=ug ap F (D5 p h1);obtain⟨s,hs,es⟩:=Oy p h1 ht hk;rw[es] at l;have ns:¬bA rl s:=λb=>nr (hZ rpos (f8 (p.ams ht) h1 h5 s hs).bq.pos ok l b)
 exact sS (Bm p ht hs) (MJ ok ns)
theorem J2{α:Type}(f:α->Rat)(d:α){L:List α}{n:Nat}(e:L.length=n):sr (λk=>f (L.getD k d)) n=(L.map f).sum:=by
 have x:=ig (L:=L.map f) (n:=n) (by rw[QK];lia);rw[SC (by rw[QK];lia)] at x;rw[←x];refine aU λk hk=>?_
 simp_all
theorem pM(f:R->Rat)(g:List R->List R):∀rows:List (List R),((rows.flatMap g).map f).sum=(rows.map λc=>((g c).map f).sum).sum
 | []=>rfl
 |c::rows=>by
  rw[List.flatMap_cons,Rb,S9,pM f g rows];rfl
theorem vP(ok:c7 rl)(rt:xp rl)(o:AH ws pl)(h1:1≤h)(h5:h≤5)(b:∀s∈ic h (pl.map eG),df rl s=false):Ji (vO rl) h (wO h pl)=val (bj ((ic h (pl.map eG)).map (bO rl))):=by
 have e1:Ji (vO rl) h (wO h pl)=sr (λt=>(λc:List Pc=>((iG h (eG c)).map λs=>val (bO rl s)).sum) (pl.getD t [])) 24:=aU λt ht=>NX (o.ams ht) h1 h5
 rw[e1,J2 (λc:List Pc=>((iG h (eG c)).map λs=>val (bO rl s)).sum) [] o.len];have ro:∀c∈pl.map eG,bW c:=λc hc=>by
  obtain⟨q,hq,rfl⟩:=QZ.mp hc;exact o.a.ok q hq
 have red:∀r∈(ic h (pl.map eG)).map (bO rl),de r:=λr hr=>by
  obtain⟨s,hs,rfl⟩:=QZ.mp hr;exact(mh ok rt (jM h1 h5 ro s hs) (b s hs)).red
 rw[(cF red).2,gN,RO];unfold ic;have z:=pM (val∘bO rl) (iG h) (pl.map eG);rw[z,RO];rfl
theorem vQ(few:ws.length≤9)(ok:c7 rl)(rt:xp rl)(rc:M7 rl)(o:lY ws h xs)(bl:∀x∈xs,bA rl x.1)(h1:1≤h)(h5:h≤5):(∀s∈ic h ((j4 (xs.map λx:Rw=>x.2)).map eG),df rl s=false)/\∀a v:Nat->Nat->Rat,AS ws h a v->(∀t,t<24->∀k,k<h->M5 rl (v t k))->val (bj ((ic h ((j4 (xs.map λx:Rw=>x.2)).map eG)).map (bO rl)))≤Ji (vO rl) h v:=by
 have P:=oN few o;obtain⟨lx,okx,rp⟩:=o;obtain⟨g,C⟩:=De ok rc;have fD:∀j,j<ws.length->M5 rl (val (xs.getD j vg).1):=λj hj=>by
  have jl:j<xs.length:=ω
  rw[gD vg (QH jl)];have m:=Ri jl;exact⟨_,Jc (okx _ m),bl _ m,Z⟩
 obtain⟨ρ,I,low⟩:=Ae C rp fD;generalize eR:j4 (xs.map λx:Rw=>x.2)=pl0 at P ⊢;have eg:∀t,t<24->∀j,j<ws.length->qV (λj=>xs.getD j vg) j t=(((pl0.getD t []).filter λc=>decide (c.1=j)).map λc=>val c.2).sum:=λt ht j hj=>by
  have a:=zb (Rs:=xs.map λx:Rw=>x.2) (j:=j) (by rw[QK];lia) ht;rw[JE t ω,eR] at a;exact a.symm
 have own:∀t,t<24->(∀s∈iG h (ux pl0 t),df rl s=false)/\sr (λk=>vO rl (wO h pl0 t k)) h≤ρ t:=λt ht=>by
  obtain⟨u,Iu⟩:=I t ht;have am:=P.ams ht;have Hd:=EY am h1;have E:=yw Iu (P.row t ht) (eg t ht) (Be pl0 t) Hd;have du:∀k,k<h->M5 rl (u k):=λk hk=>by
   rcases Iu.val_ k hk with z | ⟨j,hj,z⟩
   ·rw[z];exact C.z
   ·rw[z];exact fD j (Q5.mp hj)
  have p1:=E.pre (k:=1) h1;have p1':0+wO h pl0 t 0≤0+u 0:=p1;have b:∀s∈iG h (ux pl0 t),df rl s=false:=λs hs=>by
   have top:=yM am h1 s hs;have e0:=yN am h1 (k:=0) ω;obtain⟨z,oz,bz,ez⟩:=du 0 ω;have l:val s≤val z:=by
    rw[ez];have x:wO h pl0 t 0=val (E5 h (ux pl0 t)):=e0;rw[x] at p1';grind
   exact(iu ok).mpr (hZ (f8 am h1 h5 s hs).bq.pos oz.bq.pos ok l bz)
  exact⟨b,Lh C Iu (P.row t ht) (eg t ht) (Be pl0 t) Hd (λk hk=>wP ok am h1 h5 b hk) du⟩
 have b0:∀s∈ic h (pl0.map eG),df rl s=false:=λs hs=>by
  obtain⟨c,hc,hs⟩:=US.mp hs;obtain⟨q,hq,rfl⟩:=QZ.mp hc;obtain⟨t,ht⟩:=Sb hq;have t24:t<24:=by rw[←P.len];exact(QN.mp ht).1
  have:=(own t t24).1;unfold ux at this;rw[gD [] ht] at this;exact this s hs
 refine⟨b0,λa v O dv=>?_⟩;rw[←vP ok rt P h1 h5 b0];exact SK (eJ λt ht=>(own t ht).2) (low _ _ O dv)
theorem uB(few:ws.length≤9)(ok:c7 rl)(rt:xp rl)(rc:M7 rl)(o:lY ws h xs)(bl:∀x∈xs,bA rl x.1)(h1:1≤h)(h5:h≤5):(∀s∈ic h ((j4 (xs.map λx:Rw=>x.2)).map eG),df rl s=false)/\∀pl,AH ws pl->(∀s∈ic h (pl.map eG),df rl s=false)->val (bj ((ic h ((j4 (xs.map λx:Rw=>x.2)).map eG)).map (bO rl)))≤val (bj ((ic h (pl.map eG)).map (bO rl))):=by
 obtain⟨b0,low⟩:=vQ few ok rt rc o bl h1 h5;refine⟨b0,λpl p b=>?_⟩;rw[←vP ok rt p h1 h5 b];refine low _ _ (D5 p h1) λt ht k hk=>?_
 exact wP ok (p.ams ht) h1 h5 (λs hs=>b s (Bm p ht hs)) hk
def fQ(h:Nat)(v:Nat->Nat->Rat)(t k:Nat):Rat:=if k<h then v t k else 0
theorem II(hn:n≤h):sr (fQ h v t) n=sr (v t) n:=aU λk hk=>if_pos ω
theorem AY(h:Nat)(v:Nat->Nat->Rat)(t:Nat):sr (fQ h v t) (h+1)=sr (v t) h:=by
 show sr (fQ h v t) h+fQ h v t h=_;rw[II (QY _),show fQ h v t h=0 from if_neg (Ss _)];grind
theorem D6(O:AS ws h a v):AS ws (h+1) a (fQ h v):=by
 refine⟨λt ht T=>?_,λt ht=>by rw[AY];exact O.tot t ht,O.am⟩;have d:=O.dom t ht T;generalize jW ws ((QM ws.length).filter T) t=c at d ⊢;by_cases z:c≤h
 ·rw[Wd z] at d;rw[Wd ω,II z];exact d
 ·rw[VB ω] at d;rw[VB ω,AY];exact d
theorem ym(few:ws.length≤9)(ap:∀j∈QM ws.length,0<val (ws.getD j bI).2.2)(ok:c7 rl)(rt:xp rl)(rc:M7 rl)(o:lY ws h xs)(bl:∀x∈xs,bA rl x.1)(o':lY ws (h+1) ys)(h1:1≤h)(h4:h≤4):(∀y∈ys,bA rl y.1)/\(bO rl (0,1)=(0,1)->val (bj ((ic (h+1) ((j4 (ys.map λx:Rw=>x.2)).map eG)).map (bO rl)))≤val (bj ((ic h ((j4 (xs.map λx:Rw=>x.2)).map eG)).map (bO rl)))):=by
 have P:=oN few o;obtain⟨b0,_⟩:=vQ few ok rt rc o bl h1 ω;generalize j4 (xs.map λx:Rw=>x.2)=pl0 at P b0 ⊢;have O:=D6 (D5 P h1);have dv:∀t,t<24->∀k,k<h+1->M5 rl (fQ h (wO h pl0) t k):=λt ht k hk=>by
  unfold fQ
  split
  ·rename_i kl;exact wP ok (P.ams ht) h1 ω (λs hs=>b0 s (Bm P ht hs)) kl
  ·exact⟨(0,1),nH,pV ok,(bX δ).mpr Z⟩
 have bl':∀y∈ys,bA rl y.1:=by
  apply Q9;intro nb;obtain⟨x,nb⟩:=Classical.not_forall.mp nb;obtain⟨hx,nbx⟩:=Classical.not_imp.mp nb;obtain⟨lx,okx,rp⟩:=o';obtain⟨i,hi⟩:=Sb hx;have il:=(QN.mp hi).1;have f24:(Q0 24 (h+1)).length=24:=R0;obtain⟨r,U,F,j,hj,ej⟩:=qH f24 (λz=>by have:=congrArg Yl z;rw[Rx] at this;have:ws.length=0:=this;lia) rp;have le:=FF.le rp.rnd f24 F i (Q5.mpr ω);rw[gD vg hi] at le;have jl:j<ys.length:=by rw[lx];exact Q5.mp hj
  have rpos:0<r.2:=by
   rw[←ej,gD vg (QH jl)];exact(okx _ (Ri jl)).sp.pos
  obtain⟨t,k,ht,hk,l⟩:=ug ap F O;obtain⟨s,os,bs,es⟩:=dv t ht k hk;rw[←es] at l;exact nbx (hZ (okx x hx).sp.pos os.bq.pos ok (SK le l) bs)
 refine⟨bl',λz=>?_⟩;obtain⟨_,low⟩:=vQ few ok rt rc o' bl' ω ω;have L:=low _ _ O dv;have e:Ji (vO rl) (h+1) (fQ h (wO h pl0))=Ji (vO rl) h (wO h pl0):=by
  refine aU λt ht=>?_
  show sr (λk=>vO rl (fQ h (wO h pl0) t k)) h+vO rl (fQ h (wO h pl0) t h)=_;rw[aU (g:=λk=>vO rl (wO h pl0 t k)) λk hk=>by show vO rl (fQ h (wO h pl0) t k)=_;unfold fQ;rw[if_pos hk]];have p0:vO rl (fQ h (wO h pl0) t h)=0:=by
   unfold fQ;rw[if_neg (Ss _),←(show val ((0,1):R)=0 from(bX δ).mpr Z),me nH.bq.red,z]
  rw[p0];grind
 rw[e,vP ok rt P h1 ω b0] at L;exact L
theorem OC(a:bW rs)(h1:1≤h):E5 h rs∈iG h rs:=QL (E4 a h1)
theorem MB(ok:c7 rl)(rt:xp rl)(h1:1≤h)(h5:h≤5)(ro:∀c∈rows,bW c)(b:∀s∈ic h rows,df rl s=false):HZ rl h rows=bj ((ic h rows).map (bO rl)):=by
 have bc:∀c∈rows,∀s∈iG h c,df rl s=false:=λc hc s hs=>b s (US.mpr ⟨c,hc,hs⟩)
 have red1:∀c∈rows,∀r∈(iG h c).map (bO rl),de r:=λc hc r hr=>by
  obtain⟨s,hs,rfl⟩:=QZ.mp hr;exact(mh ok rt (f8 (ro c hc) h1 h5 s hs) (bc c hc s hs)).red
 have red2:∀r∈rows.map (Jg rl h),de r:=λr hr=>by
  obtain⟨c,hc,rfl⟩:=QZ.mp hr;exact(cF (red1 c hc)).1
 have red3:∀r∈(ic h rows).map (bO rl),de r:=λr hr=>by
  obtain⟨s,hs,rfl⟩:=QZ.mp hr;exact(mh ok rt (jM h1 h5 ro s hs) (b s hs)).red
 unfold HZ;refine c8 (cF red2).1 (cF red3).1 ?_;rw[(cF red2).2,(cF red3).2,gN,gN,RO,RO];unfold ic;rw[pM (val∘bO rl) (iG h) rows]
 congr 1
 refine Wv λc hc=>?_
 show val (Jg rl h c)=_;unfold Jg;rw[(cF (red1 c hc)).2,gN,RO]
theorem kf(n:H t=none)(a:ax H H1)(b:jH [t] H1 H2):ax H H2:=λx o e=>b x o (λz=>by rw[Q2.mp z,n] at e;cases e) (a x o e)
theorem OL{ws:List Wk}(gd:∀w∈ws,zj w):∀j∈QM ws.length,0<val (ws.getD j bI).2.2:=λj hj=>by
 have jl:=Q5.mp hj;rw[gD bI (QH jl)];obtain⟨_,_,b,p⟩:=gd _ (Ri jl);exact lP b.pos p
theorem KZ(e:K0 rl h rows=some r):(∀s∈ic h rows,df rl s=false)/\r=bj ((ic h rows).map (bO rl)):=by
 have b:∀s∈ic h rows,df rl s=false:=λs hs=>by
  cases c:df rl s with
  |false=>rfl
  |true=>rw[sS hs c] at e;cases e
 rw[nN b] at e;lia
def Nc(K:QJ)(ws:List Wk)(H:Hp)(v:V):Option (List (List Pc))->Prop
 |none=>v=.non
 |some pl=>AH ws pl/\FN K H v pl
theorem Nc.mono{K:QJ}{ws:List Wk}{H H':Hp}{v:V}{o:Option (List (List Pc))}(h:Nc K ws H v o)(t:ay K H H'):Nc K ws H' v o:=by
 cases o with
 |none=>exact h
 |some pl=>exact⟨h.1,h.2.mono t⟩
theorem Nd.op{K:QJ}{ws:List Wk}{h:Nat}{rl:Rl}{H:Hp}{v:V}(few:ws.length≤9)(l:Nd K ws h rl H v):∃o,Nc K ws H v o:=by
 rcases l with⟨xs,a,b,c⟩ | ⟨r,_⟩
 ·exact⟨some _,oN few a,c⟩
 ·exact⟨none,r⟩
inductive ow(K:QJ)(T:Addr)(vs:List V)(H:Hp)(Q:VK)(E_:XK):Prop where
 |mk (a:Addr) (ns:List Int) (h0_:vs=[.ref a]) (h1_:aJ K H a (ns.map V.int)) (h2_:ns.length≤63) (h3_:H T=some (.tbl #[])) (h4_:∀H',Q (.bl true) H'):ow K T vs H Q E_
theorem sJ:av ["thing"] ["thing"] (ak Cn):=dE
theorem yf:av ["one","other","high","low","rest"] ["one","other"] (ak Kf):=dE
theorem Bz:av ["top","bottom","shared"] ["top","bottom"] (ak Ci):=dE
theorem Bw:av ["one","other","shared","top","rest"] ["one","other"] (ak Cd):=dE
theorem By:av ["one","other"] ["one","other"] (ak Ch):=dE
theorem Bx:av ["one","other","left","right"] ["one","other"] (ak Cg):=dE
theorem Bv:av ["one","other"] ["one","other"] (ak Cc):=dE
theorem BD:av ["one","power","top","bottom","step"] ["one","power"] (ak Cm):=dE
theorem BF:av ["one","other"] ["one","other"] (ak Cp):=dE
theorem jO:av ["some","tops","one","so_far","bottom","top"] ["some"] (ak Cf):=dE
theorem sM:av ["some","best","one"] ["some"] (ak CA):=dE
theorem vF:av ["some","bottom","one"] ["some"] (ak CZ):=dE
theorem B8:av ["some","parts"] ["some"] (ak Db):=dE
theorem B7:av ["low","high"] ["low","high"] (ak Da):=dE
theorem BC:av ["rule"] ["rule"] (ak Ck):=dE
theorem BW:av ["rule","speed","top"] ["rule","speed"] (ak CN):=dE
theorem J6:av ["rule","speeds"] ["rule","speeds"] (ak C9):=dE
theorem vD:av ["rows","speed","place"] ["rows","speed"] (ak Cz):=dE
theorem BK:av ["rule","speed","rows","place","high","low"] ["rule","speed"] (ak Cy):=dE
theorem vI:av ["rows","speed","place","left"] ["rows","speed"] (ak C8):=dE
theorem BV:av ["rule","speed","slope"] ["rule","speed"] (ak CM):=dE
theorem B5:av ["rule","speed","slopes"] ["rule","speed"] (ak CY):=dE
theorem BU:av ["work","turn"] ["work","turn"] (ak CL):=dE
theorem BJ:av ["rule","speeds"] ["rule","speeds"] (ak Cw):=dE
theorem J5:av ["rule","speeds"] ["rule","speeds"] (ak C7):=dE
theorem B4:av ["hands","amounts","alone","rest","place","amount","sharing"] ["hands","amounts"] (ak CW):=dE
theorem BZ:av ["rule","hands","amounts"] ["rule","hands","amounts"] (ak CQ):=dE
theorem B3:av ["rule","hands","plan"] ["rule","hands","plan"] (ak CV):=dE
theorem BY:av ["works","free"] ["works","free"] (ak CP):=dE
theorem Bu:av ["works","free"] ["works","free"] (ak Cb):=dE
theorem ye:av ["works","free","group","speed","pouring","sources"] ["works","free"] (ak Ke):=dE
theorem ik:av ["works","hands","told","numbers","free","staying","tightest","speed","pouring","tight","place","busy"] ["works","hands"] (ak Ce):=dE
theorem vC:av ["rows","plan","turn"] ["rows"] (ak Co):=dE
theorem vE:av ["works","rule","hands","told","prices"] ["works","rule","hands"] (ak CU):=dE
theorem B2:av ["_law_script","_law_k"] ["_law_script","_law_k"] (ak CT):=dE
theorem BS:av ["_law_cell","_law_many","_law_found","_law_number","_law_mixed","_law_k"] ["_law_cell","_law_many"] (ak CK):=dE
theorem BI:av ["_law_tape","_law_many"] ["_law_tape","_law_many"] (ak Cu):=dE
theorem sL:av ["_law_top","_law_bottom","_law_one","_law_other"] ["_law_top","_law_bottom"] (ak Ct):=dE
theorem BH:av ["_law_one","_law_other"] ["_law_one","_law_other"] (ak Cs):=dE
theorem BR:av ["_law_one","_law_other"] ["_law_one","_law_other"] (ak CJ):=dE
theorem BQ:av ["_law_one","_law_other"] ["_law_one","_law_other"] (ak CI):=dE
theorem BB:av ["_law_one","_law_other"] ["_law_one","_law_other"] (ak Cj):=dE
theorem B1:av ["_law_one","_law_other"] ["_law_one","_law_other"] (ak CS):=dE
theorem BP:av ["_law_some","_law_found","_law_one"] ["_law_some"] (ak CH):=dE
theorem BG:av ["_law_some","_law_found","_law_one"] ["_law_some"] (ak Cr):=dE
theorem lX:av ["_law_tape","_law_most_here","_law_turns","_law_works_here","_law_k","_law_way","_law_first","_law_last","_law_amount"] ["_law_tape","_law_most_here","_law_turns"] (ak CG):=dE
theorem BX:av ["_law_one","_law_many","_law_found","_law_k"] ["_law_one","_law_many"] (ak CO):=dE
theorem BO:av ["_law_rows","_law_k"] ["_law_rows","_law_k"] (ak CD):=dE
theorem BN:av ["_law_rule_here","_law_speed","_law_rows","_law_k"] ["_law_rule_here","_law_speed"] (ak CC):=dE
theorem sK:av ["_law_tape","_law_some","_law_way","_law_speeds","_law_one","_law_rows","_law_slope_here","_law_least_here"] ["_law_tape","_law_some"] (ak Cq):=dE
theorem qE:av ["_law_hands","_law_amounts","_law_rest","_law_speeds","_law_going","_law_most_here","_law_left","_law_mean"] ["_law_hands","_law_amounts"] (ak Kc):=dE
theorem yd:av ["_law_rule_here","_law_hands","_law_plan","_law_found","_law_pieces","_law_speed","_law_power_here"] ["_law_rule_here","_law_hands","_law_plan"] (ak J9):=dE
theorem jP:av ["_law_tape","_law_works_here","_law_rows","_law_j","_law_first","_law_last","_law_amount","_law_parts","_law_k"] ["_law_tape","_law_works_here"] (ak C3):=dE
theorem BL:av ["_law_works_here","_law_rule_here","_law_hands"] ["_law_works_here","_law_rule_here","_law_hands"] (ak CB):=dE
theorem sI:av ["_law_script","_law_tape","_law_works_here","_law_hands","_law_rule_here","_law_plan","_law_others","_law_k","_law_powers","_law_power_here","_law_more"] ["_law_script"] (ak Ca):=dE
theorem vH:av ["self","works","free","speed","parts"] ["self","works","free","speed"] (ak C2):=dE
theorem B9:av ["self","node","count","work"] ["self","node"] (ak Dc):=dE
theorem oH:av ["self","numbers","sources","row","number","place","source","node"] ["self","numbers"] (ak Kb):=dE
theorem IY:av ["self","sources","count"] ["self","sources"] (ak Kd):=dE
theorem IZ:av ["self","number"] ["self","number"] (ak Kh):=dE
theorem uw:av ["self","sources","turn","count","way","bounds","place","amount"] ["self","sources","turn"] (ak Kg):=dE
theorem I0:av ["self","source","node","count"] ["self","source","node"] (ak Ki):=dE
theorem B6:av ["self","source","node","amount","count"] ["self","source","node","amount"] (ak C1):=dE
theorem vG:av ["self","sources","ends"] ["self"] (ak C0):=dE
theorem IX:av ["self","number","work"] ["self","number"] (ak Ka):=dE
theorem BE:av ["self","speed"] ["self","speed"] (ak qF):=dE
end My
namespace My
open PySem L2 B PyProof.Rows
set_option hygiene false in
local macro_rules
 | `(tactic| exact q1 $x $m $d) => `(tactic| first | apply qv <;> exact q1 $x $m $d | (first | apply bf | apply aH | apply Gy | apply KF | apply KC | apply Gz | apply KG | apply KB | apply KD | apply KH | apply NV | apply Kx | apply DB | apply fx $x | apply KA | apply Kt | apply Kw | apply Gv $m | apply Gx $d | apply im | apply sR | apply Ky | apply fX | apply NU | apply Dt | apply Dy | apply Kv | apply NS | apply NN | apply NO | apply NP | apply NQ | apply NM | apply Dk | apply qt_bl | apply jQ | apply kH | apply Jf | apply Dj | apply iR | apply aw | apply ac | apply be | apply Dm | apply cy | apply bC | apply qs_retN | apply dZ | apply bb | apply Do | apply qs_continue | apply qs_pass | apply dh | apply dF | apply dQ | apply zK | apply da | apply jk | apply dY | apply Ks (K := K) | apply Dx) <;> exact q1 $x $m $d | rfl | decide | assumption | exact .inl rfl | exact .inr rfl | exact .inr (.inl rfl) | exact .inr (.inr rfl) | exact hr.mono (by decide) | exact PassesOwn.never | exact fun _ _ => rfl | exact fun _ => rfl | exact T.z_len | exact T.z_range | exact T.m_TURNS | exact ni 0 rfl | exact ni 1 rfl | exact ni 2 rfl | exact ni 3 rfl | exact ni 4 rfl | exact ni 5 rfl | exact ni 6 rfl | exact ni 7 rfl | exact ni 8 rfl | exact ni 9 rfl | exact ni 10 rfl | exact ni 11 rfl)
set_option hygiene false in
local macro_rules
 | `(ζa)=>`((by intros;exact q1 (js (K:=K) ?_) jn oQ))
set_option hygiene false in
local macro_rules
 | `(ζb)=>`((by exact q1 fZ jn oQ))
set_option hygiene false in
local macro_rules
 | `(ζc)=>`((by exact q1 fZ jn Hu))
set_option hygiene false in
local macro_rules
 | `(ζd)=>`((by exact q1 kY jn oQ))
set_option hygiene false in
local macro_rules
 | `(ζe)=>`((by intros;exact q1 (dI (K:=K) ?_) jn oQ))
set_option hygiene false in
local macro_rules
 | `(ζf)=>`((by exact q1 fZ D9 Hw))
set_option hygiene false in
local macro_rules
 | `(ζg)=>`((by exact q1 fZ D9 oQ))
section
variable {P:Rz}{w:RS}{K:QJ}{mg:RF->Option Value}{base:Ra}{t:Ad}
theorem vY(T:dA K mg t):gFx P w base T.Q55 1 (oA K):=by
 refine T.Q55.F.ok sJ ψ χ;obtain⟨i,rfl,k⟩:=h;refine cR.ok (have:=sJ.nd;(ac (cy (iR (bG u8 (by rfl) T.z_isinstance Wr (aj (qv 0) (aj (nM (v:=V.ty "list") Z T.z_list YB Z) aH aB) aB))) (aw gX) be) (ac (cy (iR (bG u8 (by rfl) T.z_isinstance Wr (aj (qv 0) (aj (nM (v:=V.ty "tuple") Z T.z_tuple boot_tuple Z) aH aB) aB))) (aw gX) be)
   ζb))) ?_
 nofun
 refine⟨_,Z,_,_,"int",false,Z,.int i,by decide +kernel,false,Z,dC ?_⟩;refine⟨_,Z,_,_,"int",false,Z,.int i,by decide +kernel,false,Z,dC ?_⟩;exact⟨_,Z,k⟩
theorem Ls(T:dA K mg t):gFx P w base T.Q55 2 (qA K):=by
 refine T.Q55.F.ok sJ ψ χ;obtain⟨v,r,rfl,⟨p,rfl,hp⟩,k⟩:=h;refine cR.ok (have:=sJ.nd;(ac (cy (iR (bG rM (by rfl) T.z_isinstance Wr (aj (qv 0) (aj (nM (v:=V.ty "list") Z T.z_list YB Z) aH aB) aB))) (aw gX) be) (ac (cy (iR (bG rM (by rfl) T.z_isinstance Wr (aj (qv 0) (aj (nM (v:=V.ty "tuple") Z T.z_tuple boot_tuple Z) aH aB) aB))) (aw (bC (cC bV (by rfl) T.z_tuple boot_tuple (aj (aZ ["part"] [none] Z (by exact(sP (qv 0))) ζa ζa (λ_ _ _ _ _=>(by exact(by exact(d5 (vY T) (by exact hr.mono δ) ν T.Q55.m T.Q55.F.kp T.Q55.b (by exact .nil) (by exact dS) (aj (by exact(qv 0)) aH aB)))))) aH cU)))) be) (aw (bC (qv 0)))))) ?_
 nofun
 refine⟨_,Z,p,_,_,false,Z,hp,by decide +kernel,false,Z,dC ?_⟩;refine⟨_,Z,p,_,_,true,Z,hp,by decide +kernel,true,Z,fC ?_⟩;refine⟨_,Z,p,Z,⟨_,hp⟩,λD hD=>⟨λi m ys H'=>i≤2/\m=2-i/\ys=[V.int r.1,.int r.2].take i/\H'=upd H D (.lst ys),⟨_,Rq _,Z,Z,Z⟩,?_⟩⟩;rintro i m ys H' ⟨hi,rfl,rfl,rfl⟩;have sD:=ae hD (.lst ([V.int r.1,.int r.2].take i));have hpD:cE K _ p [.int r.1,.int r.2]:=ay.same sD _ _ hp;by_cases hix:i<2
 ·refine .inr ⟨⟨[.int r.1,.int r.2],[V.int r.1,.int r.2][i],hpD,QH hix⟩,?_⟩;rintro x H' ⟨rfl,hy⟩;have hx:=hy _ hpD;obtain⟨z,rfl⟩:∃z,x=V.int z:=by
   have mx:=QL hx;simp only[Rm,UK,or_false] at mx;rcases mx with e|e
   ·exact⟨_,e⟩
   ·exact⟨_,e⟩
  refine⟨fz.set Z,?_⟩;refine⟨_,Z,_,Z,?_⟩;refine⟨aa,aN (by rw[RD];lia),2-(i+1),ω,hix,Z,by rw[Rt,hx];rfl,?_⟩;rw[FW]
 ·have e2:i=2:=ω
  subst e2;refine .inl ⟨⟨_,hpD,QY 2⟩,?_⟩;refine⟨D,_,Z,.inl ⟨aJ.of aa,λl hl=>?_⟩⟩;exact k _ _ (sD.trans (ae hl _)) ⟨l,Z,cE.of aa⟩
theorem yz(T:dA K mg t):gFx P w base T.Q3 1 (fF K):=by
 refine T.Q3.F.ok yf ψ χ;obtain⟨a,b,rfl,k⟩:=h;refine cR.ok (have:=yf.nd;(ac (kJ 2 yf.nd (bG pT (by rfl) T.z_abs boot_abs ζb)) (ac (kJ 3 yf.nd (bG pT (by rfl) T.z_abs boot_abs ζb))
   ζb))) ?_
 nofun
 refine⟨_,Z,_,Z,_,Z,_,Z,?_⟩;rw[xh,xh];refine⟨λm σ H'=>∃(x y:Int) (v:Option V),σ=[some (.int a),some (.int b),some (.int x),some (.int y),v]/\H'=H/\0≤x/\0≤y/\Rf x y=Rf a b/\m=y.toNat,⟨_,_,_,_,Z,Z,ω,ω,(by simp[Rf]),Z⟩,?_⟩;rintro m σ H' ⟨x,y,v,rfl,rfl,hx,hy,hg,rfl⟩;refine⟨_,Z,Z,_,Z,?_⟩;by_cases c:y=0
 ·subst c;refine uT Z ?_;rw[←hg] at k;refine⟨_,Z,?_⟩;have e:(x:Int)=(Rf x 0:Nat):=by simp[Rf];lia
  rw[←e] at k;exact k
 ·refine uU (λz=>c (by injection z)) ?_;refine⟨_,λ_ _ z=>z,?_⟩;refine⟨_,Z,_,Z,_,_,Z,Z,ω,_,Z,_,Z,?_⟩;refine⟨_,?_,y,x%y,_,Z,Z,hy,Tt _ c,?_,Z⟩
  ·have:=Tv x (show 0<y by lia);have:=Tt x c;lia
  ·rw[uY hx ω,hg]
theorem we(T:dA K mg t):gFx P w base T.Q59 2 (ut K):=by
 refine T.Q59.F.ok Bz ψ χ;obtain⟨a,b,rfl,hb,hz,k⟩:=h;refine cR.ok (have:=Bz.nd;have:=cS T.Q3 (yz T);(ac (cy ζb (aw gX) be)
   ζc)) ?_
 nofun
 have gp:=uZ (a:=a) hb;have gb:=yQ (a:=a) hb hz;refine⟨_,Z,Z,_,Z,?_⟩;refine bJ (λz=>by injection z with z;lia) ?_;refine⟨_,rfl,_,rfl,a,b,rfl,?_⟩;refine⟨_,rfl,_,_,rfl,rfl,_,rfl,?_⟩;by_cases hn:b<0
 ·refine bP hn ?_;rw[←Ex hn] at k;have gm:(-((Rf a b:Nat):Int)).natAbs<2^8990:=by rw[VS];exact gb
  refine⟨_,Z,_,Z,?_⟩;refine⟨_,Z,_,Z,_,_,Z,Z,⟨ω,gm⟩,_,Z,_,Z,_,_,Z,Z,⟨ω,gm⟩,eI,λp hp=>?_⟩;exact k p hp
 ·refine bJ hn ?_;rw[←Ew (by lia:0<b)] at k;refine⟨_,Z,_,Z,_,_,Z,Z,⟨ω,gb⟩,_,Z,_,Z,_,_,Z,Z,⟨ω,gb⟩,eI,λp hp=>?_⟩;exact k p hp
theorem wc(T:dA K mg t):gFx P w base T.Q64 2 (xV K):=by
 refine T.Q64.F.ok Bw ψ χ;obtain⟨v,w,r,q,n,m,rfl,hv,hw,wr,wq,hz,k⟩:=h;refine cR.ok (have:=Bw.nd;have:=cS T.Q3 (yz T);ζb) ?_;nofun
 obtain⟨p,rfl,hv⟩:=hv;obtain⟨p',rfl,hw⟩:=hw;have c1:=aO wr.top (show n≤8990 by lia);have c2:=aO wr.bot (show n≤8990 by lia);have c3:=aO wq.top (show m≤8990 by lia);have c4:=aO wq.bot (show m≤8990 by lia);have gp:(0:Int)<(Rf r.2 q.2:Nat):=bL wq.pos;have gb:=pK (a:=r.2) wq.pos c4;refine⟨_,Z,p,_,_,_,Z,Z,hv,Z,_,Z,p',_,_,_,Z,Z,hw,Z,r.2,q.2,Z,?_⟩;have z:=DL ⟨wr.pos,wr.cop⟩ ⟨wq.pos,wq.cop⟩;have kk:o1 H Q (uD r q):=by rw[z];exact k
 unfold uD at kk;simp only at kk;generalize ((Rf r.2 q.2:Nat):Int)=d at gp gb kk ⊢;refine⟨_,Z,p,_,_,_,Z,Z,hv,Z,_,Z,p',_,_,_,Z,Z,hw,Z,_,Z,_,_,Z,Z,⟨gp,gb⟩,_,_,Z,Z,⟨c1,i6 gp c4⟩,_,Z,p',_,_,_,Z,Z,hw,Z,_,Z,p,_,_,_,Z,Z,hv,Z,_,Z,_,_,Z,Z,⟨gp,gb⟩,_,_,Z,Z,⟨c3,i6 gp c2⟩,_,_,Z,Z,?_⟩;refine⟨_,Z,_,Z,_,_,Z,?_⟩;have ep:(0:Int)<(Rf (r.1*(q.2/d)+q.1*(r.2/d)) d:Nat):=bL gp;have eb:=pK (a:=r.1*(q.2/d)+q.1*(r.2/d)) gp gb;generalize ((Rf (r.1*(q.2/d)+q.1*(r.2/d)) d:Nat):Int)=e at ep eb kk ⊢;refine⟨_,Z,_,Z,_,_,Z,Z,⟨ep,eb⟩,_,Z,p,_,_,_,Z,Z,hv,Z,_,Z,_,_,Z,Z,⟨gp,gb⟩,_,Z,p',_,_,_,Z,Z,hw,Z,_,Z,_,_,Z,Z,⟨ep,eb⟩,_,_,Z,Z,⟨i6 gp c2,i6 ep c4⟩,eI,kk⟩
theorem wd(T:dA K mg t):gFx P w base T.Q60 3 (uv K):=by
 refine T.Q60.F.ok By ψ χ;obtain⟨v,w,r,q,n,m,rfl,hv,hw,wr,wq,hz,k⟩:=h;refine cR.ok (have:=By.nd;have:=cS T.Q64 (wc T);ζb) ?_;nofun
 obtain⟨p',rfl,hw⟩:=hw;refine⟨_,Z,_,Z,p',_,_,_,Z,Z,hw,Z,_,Z,_,Z,p',_,_,_,Z,Z,hw,Z,eI,λpt ht=>?_⟩;have s1:=ae ht (.tup [.int (-q.1),.int q.2]);refine⟨v,.ref pt,r,(-q.1,q.2),n,m,Z,hv.mono (ay.same s1),RV.of aa,wr,⟨wq.pos,by show(-q.1).natAbs<_;rw[VS];exact wq.top,wq.bot,Fn wq.cop⟩,hz,λp hp=>?_⟩;refine k _ _ (s1.trans (ae hp _)) ?_;rw[←uN];exact RV.of aa
theorem tf(T:dA K mg t):gFx P w base T.Q61 2 (ur K):=by
 refine T.Q61.F.ok Bx ψ χ;obtain⟨v,w,r,q,n,m,rfl,hv,hw,wr,wq,hz,k⟩:=h;refine cR.ok (have:=Bx.nd;have:=cS T.Q3 (yz T);ζb) ?_;nofun
 obtain⟨p,rfl,hv⟩:=hv;obtain⟨p',rfl,hw⟩:=hw;have c1:=aO wr.top (show n≤8990 by lia);have c2:=aO wr.bot (show n≤8990 by lia);have c3:=aO wq.top (show m≤8990 by lia);have c4:=aO wq.bot (show m≤8990 by lia);have lp:(0:Int)<(Rf r.1 q.2:Nat):=bL wq.pos;have lb:=pK (a:=r.1) wq.pos c4;have mp:(0:Int)<(Rf q.1 r.2:Nat):=bL wr.pos;have mb:=pK (a:=q.1) wr.pos c2;have z:=zp ⟨wr.pos,wr.cop⟩ ⟨wq.pos,wq.cop⟩;have kk:o1 H Q (oi r q):=by rw[z];exact k
 unfold oi at kk;simp only at kk;refine⟨_,Z,p,_,_,_,Z,Z,hv,Z,_,Z,p',_,_,_,Z,Z,hw,Z,r.1,q.2,Z,_,Z,p',_,_,_,Z,Z,hw,Z,_,Z,p,_,_,_,Z,Z,hv,Z,q.1,r.2,Z,?_⟩;generalize ((Rf r.1 q.2:Nat):Int)=l at lp lb kk ⊢;generalize ((Rf q.1 r.2:Nat):Int)=m' at mp mb kk ⊢;refine⟨_,Z,p,_,_,_,Z,Z,hv,Z,_,Z,_,_,Z,Z,⟨lp,lb⟩,_,Z,p',_,_,_,Z,Z,hw,Z,_,Z,_,_,Z,Z,⟨mp,mb⟩,_,_,Z,Z,⟨i6 lp c1,i6 mp c3⟩,_,Z,p,_,_,_,Z,Z,hv,Z,_,Z,_,_,Z,Z,⟨mp,mb⟩,_,Z,p',_,_,_,Z,Z,hw,Z,_,Z,_,_,Z,Z,⟨lp,lb⟩,_,_,Z,Z,⟨i6 mp c2,i6 lp c4⟩,eI,kk⟩
theorem vZ(T:dA K mg t):gFx P w base T.Q65 3 (xX K):=by
 refine T.Q65.F.ok Bv ψ χ;obtain⟨v,w,r,q,n,m,rfl,hv,hw,wr,wq,hz,hq,k⟩:=h;refine cR.ok (have:=Bv.nd;have:=cS T.Q59 (we T);have:=cS T.Q61 (tf T);(ac (cy ζb (aw gX) be)
   ζb)) ?_
 nofun
 obtain⟨p',rfl,hw⟩:=hw;refine⟨_,Z,p',_,_,_,Z,Z,hw,Z,Z,_,Z,?_⟩;refine bJ (λz=>by injection z with z;exact hq z) ?_;refine⟨_,rfl,_,rfl,p',_,_,_,rfl,rfl,hw,rfl,_,rfl,p',_,_,_,rfl,rfl,hw,rfl,q.2,q.1,rfl,hq,aO wq.top ω,λps hps=>?_⟩;have s1:=ae hps (.tup [.int (nS q.2 q.1).1,.int (nS q.2 q.1).2]);refine⟨v,.ref ps,r,nS q.2 q.1,n,m,Z,hv.mono (ay.same s1),RV.of aa,wr,Eu hq wq.bot wq.top,hz,λp hp=>?_⟩;refine k _ _ (s1.trans (ae hp _)) ?_;rw[←Hs ⟨wr.pos,wr.cop⟩ hq];exact RV.of aa
theorem Ee(T:dA K mg t):gFx P w base T.Q56 1 (qy K):=by
 refine T.Q56.F.ok BD ψ χ;obtain⟨v,r,k₁,rfl,hv,wr,h0,h6,k⟩:=h;refine cR.ok (have:=BD.nd;ζb) ?_;nofun
 have kb:=IJ h0 (by lia:k₁≤100);obtain⟨p,rfl,hv⟩:=hv;refine⟨_,Z,k₁,Z,kb.1,kb.2,cD (lo:=0) (n:=k₁.toNat) (λi σ H'=>∃(x:Option V),σ=[some (.ref p),some (.int k₁),some (.int (r.1^i)),some (.int (r.2^i)),x]/\H'=H) ⟨none,by rw[X2,X2]<;>rfl,Z⟩ ?_ ?_⟩
 ·rintro i σ H1 hi ⟨x,rfl,rfl⟩;have b1:=uC (i:=i) wr.top ω;have b2:=uC (i:=i) wr.bot ω;refine⟨_,Z,_,Z,p,_,_,_,Z,Z,hv,Z,_,_,Z,Z,⟨b1,aO wr.top δ⟩,?_⟩;refine⟨_,Z,_,Z,p,_,_,_,Z,Z,hv,Z,_,_,Z,Z,⟨b2,aO wr.bot δ⟩,?_⟩;exact⟨_,by rw[Int.pow_succ,Int.pow_succ]<;>rfl,Z⟩
 ·rintro σ H1 ⟨x,rfl,rfl⟩;refine⟨_,Z,_,Z,eI,λq hq=>?_⟩;have e:=oM ⟨wr.pos,wr.cop⟩ k₁.toNat;refine k _ _ (ae hq _) ?_;rw[e];exact RV.of aa
theorem oU(T:dA K mg t):gFx P w base T.Q51 1 (jL K):=by
 refine T.Q51.F.ok BF ψ χ;obtain⟨v,w,r,q,n,m,rfl,hv,hw,wr,wq,hz,k⟩:=h;refine cR.ok (have:=BF.nd;(aw (bC (gz yx ζb ζb (aX _))))) ?_;nofun
 obtain⟨p,rfl,hv⟩:=hv;obtain⟨p',rfl,hw⟩:=hw;have c1:=aO wr.top (show n≤8990 by lia);have c2:=aO wr.bot (show n≤8990 by lia);have c3:=aO wq.top (show m≤8990 by lia);have c4:=aO wq.bot (show m≤8990 by lia);refine⟨_,Z,p,_,_,_,Z,Z,hv,Z,_,Z,p',_,_,_,Z,Z,hw,Z,_,_,Z,Z,⟨c1,c4⟩,_,Z,p',_,_,_,Z,Z,hw,Z,_,Z,p,_,_,_,Z,Z,hv,Z,_,_,Z,Z,⟨c3,c2⟩,_,_,Z,Z,k⟩
theorem sZ(T:dA K mg t):gFx P w base T.Q62 3 (uo K):=by
 refine T.Q62.F.ok jO ψ χ;obtain⟨a,xs,rs,n,D₀,rfl,hS,hR,hWD,h0,hDn₀,hlen,hn,k⟩:=h;refine cR.ok (have:=jO.nd;have:=cS T.Q64 (wc T);have:=cS T.Q59 (we T);(ac (kJ 1 jO.nd oI) (ac (dh PassesOwn.never Z (sQ (qv 0)) (bb (i:=2) jO.nd Z θ) (aw (nJ (iY hr) (qv 1) ζb (fq Ec (Dz (iY hr) (qv 1) ζb bf ⟨Z,Z,Z,Z⟩) ζb) Z))) (ac (kJ 3 jO.nd (fH (v:=.ref t.c_NOUGHT) Z T.m_NOUGHT Z)) (ac (dh PassesOwn.never Z (Dr (qv 1)) (vN Z (di (bb (i:=4) jO.nd Z θ) (di (bb (i:=5) jO.nd Z θ) kL)))
   ζb)
   ζb))))) ?_
 nofun
 refine λD hDn=>⟨_,Z,?_⟩
 have sD:=ae hDn (.dK []);rcases hS with hS|hS;refine .inl ⟨a,rfl,⟨_,sD.seq hS⟩,c6 (K:=K) (a:=a) (xs:=xs) (λi σ H'=>∃(x:Option V) (ps:List (Int×Int)),σ=[some (.ref a),some (.ref D),x,none,none,none]/\ax H H'/\H' D=some (.dK (wT ps))/\ny n i ps/\(∀p∈ps,p.1∣(D₀:Int))/\kd ps=gO (rs.take i)) ⟨none,[],rfl,sD,aa,ny.nil n,(λ_ h=>nomatch h),rfl⟩ (λi σ H1 _ ⟨_,_,_,s1,_⟩=>s1.seq hS) ?_ ?_⟩
 rotate_left 2
 refine .inr ⟨a,Z,⟨_,ay.same sD _ _ hS⟩,nW (K:=K) (a:=a) (xs:=xs) (λi σ H'=>∃(x:Option V) (ps:List (Int×Int)),σ=[some (.ref a),some (.ref D),x,none,none,none]/\ax H H'/\H' D=some (.dK (wT ps))/\ny n i ps/\(∀p∈ps,p.1∣(D₀:Int))/\kd ps=gO (rs.take i)) ⟨none,[],Z,sD,aa,ny.nil n,(λ_ h=>nomatch h),Z⟩ (λi σ H1 _ ⟨_,_,_,s1,_⟩=>ay.same s1 _ _ hS) ?_ ?_⟩
 all_goals first
  | (
   rintro i y σ H1 hi ⟨x,ps,rfl,s1,hD1,ok,dv,ev⟩;obtain⟨ry,hry,hyv⟩:=hR.at hi;have my:ry∈rs:=QL hry;have hil:=(QN.mp hry).1;obtain⟨py,rfl,hSy⟩:=hyv.mono (ay.same s1);have el:(wT ps).length=ps.length:=QK _;have hlp:(wT ps).length<sizeLine:=by rw[el];exact aN (by have:=ok.len;lia)
   refine⟨_,Z,D,Z,.inl ⟨_,.inl hD1⟩,_,Z,py,_,_,_,Z,Z,hSy,Z,_,lM.k (k:=RL ry.2) hD1,_,Z,py,_,_,_,Z,Z,hSy,Z,zn ps ry.2,ry.1,yP ps ry.2,Z,_,Z,_,Z,py,_,_,_,Z,Z,hSy,Z,D,_,Z,vf.k (k:=RL ry.2) hD1 hlp,?_⟩;refine⟨_,ia ps ry.2 ry.1,Z,λb o q=>?_,?_,ok.add (hWD ry my).1,Ix (i:=0) (n:=0) dv (hWD ry my).2,?_⟩
   ·rw[ai (au q hDn)];exact s1 b o q
   ·rw[yk ps _ _ ok.nd];exact aa
   ·rw[ui,ev,Rt,hry];exact(qo _ _).symm)
  | (
   rintro σ H1 ⟨x,ps,rfl,s1,hD1,ok,dv,ev⟩;rw[hR.1,RW] at ev;rw[hR.1] at ok;refine⟨_,Z,D,wT ps,Z,hD1,λob=>Ap (d:=D) (ob:=ob) (kvs:=wT ps) (λj σ H'=>∃(u:V) (acc:R) (y4 y5:Option V),σ=[some (.ref a),some (.ref D),x,some u,y4,y5]/\ax H H'/\H' D=some (.frz ob (.dK (wT ps)))/\RV K H' u acc/\Bq D₀ (64*2^n*j) acc/\val acc=kd (ps.take j)) ⟨_,(0,1),none,none,Z,?_,aa,⟨_,Z,T.q_NOUGHT _⟩,⟨δ,δ,⟨(D₀:Int),by show(D₀:Int)=1*D₀;lia⟩,by show 0≤_;exact Rq _⟩,jJ⟩ (λi σ H1 ⟨_,_,_,_,_,_,z,_⟩=>z) ?_ ?_⟩
   ·intro b o q;rw[ai (au q hDn)];exact s1 b o q
   ·rintro j kk v p σ H2 hkv ⟨u,acc,y4,y5,rfl,s2,hD2,r2,w2,ev2⟩ hp;have hkv':(ps.map λp=>((RL p.1:cZ),V.int p.2))[j]?=some (kk,v):=hkv;rw[Q4] at hkv';obtain⟨q,hq,e⟩:=Tn.mp hkv'
    cases e
    have mq:=QL hq;have hjl:=(QN.mp hq).1;have wq:=ok.wf ω mq;have lps:=ok.len;have gq:=Mr ok dv hlen mq;have wa:=MT w2 ω h0 hDn₀;have bq:=ok.bot q mq;have e1:=ae hp (.tup [kV (RL q.1),V.int q.2]);refine⟨p,_,Z,cE.of aa,Z,_,_,Z,_,_,Z,Z,?_⟩;refine⟨_,Z,_,Z,_,Z,q.2,q.1,Z,(by have:=bq.1;lia),aO bq.2 ω,λp1 g1=>?_⟩;rw[jp bq.1];have e2:=ae g1 (.tup [.int (cJ q.2 q.1).1,.int (cJ q.2 q.1).2]);refine⟨u,.ref p1,acc,cJ q.2 q.1,2*n+12,n+8,Z,(r2.mono (ay.same e1)).mono (ay.same e2),RV.of aa,wa,wq,ω,λp2 g2=>?_⟩;have e3:=ae g2 (.tup [.int (aK acc (cJ q.2 q.1)).1,.int (aK acc (cJ q.2 q.1)).2]);have s3:=((e1.trans e2).trans e3);refine⟨_,aK acc (cJ q.2 q.1),_,_,Z,s2.trans s3,s3 _ _ hD2,RV.of aa,(by rw[Nat.mul_succ];exact Bq.plus h0 w2 gq),?_⟩;rw[dg w2.pos wq.pos,lT bq.1,ev2,Rt,hq];exact(qt _ _).symm
   ·rintro σ H2 ⟨u,acc,y4,y5,rfl,s2,hD2,r2,w2,ev2⟩;have el:(wT ps).length=ps.length:=QK _;rw[el,RW] at ev2;have es:=JZ (λr hr=>(hWD r hr).1.red) w2.red (ev2.trans ev);rw[es] at r2;exact⟨_,Z,k u H2 s2 r2⟩)
theorem Eg(T:dA K mg t):gFx P w base T.Q42 2 (mS K):=by
 refine T.Q42.F.ok sM ψ χ;obtain⟨a,xs,rs,rfl,hS,hR,hW,hlen,k⟩:=h;refine cR.ok (have:=sM.nd;have:=cS T.Q51 (oU T);(ac (kJ 1 sM.nd (Kq Mm (qv 0) bf)) (ac (dh PassesOwn.never Z (sQ (qv 0)) (bb (i:=2) sM.nd Z θ)
   ζb)
   ζb))) ?_
 nofun
 have hxl:0<xs.length:=by rw[hR.1];exact hlen
 have hx0:xs[0]?=some xs[0]:=QH hxl;have hr0:rs[0]?=some rs[0]:=QH hlen;have hat:uc xs 0=some xs[0]:=aG hx0;rcases hS with hS|hS
 ·refine⟨_,Z,.inl ⟨a,xs,0,_,Z,Z,hS,hat,?_⟩⟩;refine⟨_,Z,.inl ⟨a,Z,⟨_,hS⟩,c6 (K:=K) (a:=a) (xs:=xs) (λi σ H'=>∃(j:Nat) (u:V) (r:R) (x:Option V),σ=[some (.ref a),some u,x]/\H'=H/\xs[j]?=some u/\rs[j]?=some r/\∀z∈rs.take i,aL r z=false) ⟨0,_,_,none,Z,Z,hx0,hr0,λz hz=>by simp at hz⟩ (λi σ H1 _ ⟨_,_,_,_,_,e,_⟩=>by subst e;exact hS) ?_ ?_⟩⟩
  ·rintro i y σ H1 hi ⟨j,u,r,x,rfl,rfl,hj,hrj,hmax⟩;obtain⟨ry,hry,hyv⟩:=hR.at hi;have my:ry∈rs:=QL hry;have mr:r∈rs:=QL hrj;have take:∀z∈rs.take (i+1),z∈rs.take i∨z=ry:=λz hz=>by
    rw[Rt,hry] at hz;rcases Rc.mp hz with h|h
    ·exact .inl h
    ·exact .inr (by simpa using h)
   refine⟨_,Z,_,Z,u,y,r,ry,98,98,Z,hR.2 j u r hj hrj,hyv,hW r mr,hW ry my,ω,_,Z,?_⟩
   cases c:aL r ry with
   |true=>
    refine fC ?_;refine⟨_,Z,i,y,ry,_,Z,Z,hi,hry,λz hz=>?_⟩;rcases take z hz with h|h
    ·exact qR (hW r mr) (hW ry my) (hW z (Sx h)) c (hmax z h)
    ·rw[h];exact qS ry
   |false=>
    refine dC ?_;refine⟨j,u,r,_,Z,Z,hj,hrj,λz hz=>?_⟩;rcases take z hz with h|h
    ·exact hmax z h
    ·rw[h];exact c
  ·rintro σ H1 ⟨j,u,r,x,rfl,rfl,hj,hrj,hmax⟩;rw[hR.1,RW] at hmax;exact⟨_,Z,k j u r hj hrj hmax⟩
 ·refine⟨_,Z,.inr (.inl ⟨a,xs,0,_,Z,Z,hS,hat,?_⟩)⟩;refine⟨_,Z,.inr ⟨a,Z,⟨_,hS⟩,nW (K:=K) (a:=a) (xs:=xs) (λi σ H'=>∃(j:Nat) (u:V) (r:R) (x:Option V),σ=[some (.ref a),some u,x]/\H'=H/\xs[j]?=some u/\rs[j]?=some r/\∀z∈rs.take i,aL r z=false) ⟨0,_,_,none,Z,Z,hx0,hr0,λz hz=>by simp at hz⟩ (λi σ H1 _ ⟨_,_,_,_,_,e,_⟩=>by subst e;exact hS) ?_ ?_⟩⟩
  ·rintro i y σ H1 hi ⟨j,u,r,x,rfl,rfl,hj,hrj,hmax⟩;obtain⟨ry,hry,hyv⟩:=hR.at hi;have my:ry∈rs:=QL hry;have mr:r∈rs:=QL hrj;have take:∀z∈rs.take (i+1),z∈rs.take i∨z=ry:=λz hz=>by
    rw[Rt,hry] at hz;rcases Rc.mp hz with h|h
    ·exact .inl h
    ·exact .inr (by simpa using h)
   refine⟨_,Z,_,Z,u,y,r,ry,98,98,Z,hR.2 j u r hj hrj,hyv,hW r mr,hW ry my,ω,_,Z,?_⟩
   cases c:aL r ry with
   |true=>
    refine fC ?_;refine⟨_,Z,i,y,ry,_,Z,Z,hi,hry,λz hz=>?_⟩;rcases take z hz with h|h
    ·exact qR (hW r mr) (hW ry my) (hW z (Sx h)) c (hmax z h)
    ·rw[h];exact qS ry
   |false=>
    refine dC ?_;refine⟨j,u,r,_,Z,Z,hj,hrj,λz hz=>?_⟩;rcases take z hz with h|h
    ·exact hmax z h
    ·rw[h];exact c
  ·rintro σ H1 ⟨j,u,r,x,rfl,rfl,hj,hrj,hmax⟩;rw[hR.1,RW] at hmax;exact⟨_,Z,k j u r hj hrj hmax⟩
theorem El(T:dA K mg t):gFx P w base T.Q20 2 (iM K):=by
 refine T.Q20.F.ok vF ψ χ;obtain⟨a,xs,rs,D₀,rfl,hS,al,hn,d0,d1,ok,k⟩:=h;refine cR.ok (have:=vF.nd;have:=cS T.Q3 (yz T);(ac ζb (ac (dh PassesOwn.never Z (sQ (qv 0)) (bb (i:=2) vF.nd Z θ)
   ζb)
   (aw (bC (aZ ["one","bottom"] [none,some 1] Z (by exact(sQ (qv 0))) ζa ζa ζa)))))) ?_
 nofun
 have hlen:=al.len;rcases hS with hS|hS
 ·let Iv1:Nat->L2.St->Hp->Prop:=λi σ H'=>∃(B:Int) (x3:Option V),σ=[some (.ref a),some (.int B),x3]/\H'=H/\0<B/\B∣(D₀:Int)/\∀r∈rs.take i,r.2∣B
  refine⟨_,Z,.inl ⟨a,Z,⟨_,hS⟩,c6 (K:=K) (a:=a) (xs:=xs) Iv1 ⟨1,none,Z,Z,δ,⟨(D₀:Int),ω⟩,by simp⟩ (λi σ H1 _ ⟨_,_,_,e,_⟩=>by rw[e];exact hS) ?_ ?_⟩⟩
  ·rintro i x σ H1 hx ⟨B,x3,rfl,rfl,b0,bd,all⟩;obtain⟨r,hr,px,rfl,hSx⟩:=al.at hx;obtain⟨c1,c2,c9⟩:=ok r (QL hr);have c3:=Sh ω c2;have B84:=Sh ω bd;have g0:0<(Rf B r.2:Int):=bL ω;have g1:(Rf B r.2:Int)≤r.2:=Sh ω (Ut _ _);obtain⟨l0,l1,l2,l3⟩:=Os b0 c1 bd c2;refine⟨_,Z,_,Z,px,_,_,_,Z,Z,hSx,Z,_,Z,_,Z,px,_,_,_,Z,Z,hSx,Z,B,r.2,Z,_,_,Z,Z,⟨g0,qj ω (Vk g1 c3) d1⟩,_,_,Z,Z,⟨qj ω B84 d1,qj (TL ω ω) (Vk (UQ _ ω) c3) d1⟩,?_⟩;refine⟨_,_,Z,Z,l0,l1,λz hz=>?_⟩;rw[Rt,hr] at hz;rcases Rc.mp hz with h|h
   ·exact Uz (all z h) l2
   ·have:z=r:=by simpa using h
    subst this;exact l3
  ·rintro σ H1 ⟨B,x3,rfl,rfl,b0,bd,all⟩;rw[hlen,RW] at all;have B84:=Sh ω bd;refine⟨_,Z,.inl ⟨a,Z,⟨_,hS⟩,λD hD=>cr (cK hS) (λ_=>true) (λi=>V.int ((rW B rs).getD i 0)) hD ω (λi x H' hi s' hx R E kR kE=>?_) λH4 s4 h4=>?_⟩⟩
   ·obtain⟨r,hr,px,rfl,hSx⟩:=al.at hx;obtain⟨c1,c2,c9⟩:=ok r (QL hr);have c3:=Sh ω c2;have t':=ay.same (K:=K) s';have e:(rW B rs).getD i 0=r.1*(B/r.2):=aD 0 (by unfold rW;rw[Q4,hr];rfl);have q:=kR Z _ (ax.refl _);rw[e] at q;have e0:0≤B/r.2:=TL ω ω;have e1:B/r.2≤B:=UQ _ ω;exact⟨fz.set Z,_,Z,px,_,_,_,Z,Z,t' _ _ hSx,Z,_,Z,_,Z,px,_,_,_,Z,Z,t' _ _ hSx,Z,_,_,Z,Z,⟨ω,qj ω c3 d1⟩,_,_,Z,Z,⟨c9,qj e0 (Vk e1 B84) d1⟩,q⟩
   ·refine k D B H4 s4 hD b0 bd all ?_;rw[h4,show xs.length=(rW B rs).length by unfold rW;rw[QK];exact hlen,bH 0 V.int]
 ·let Iv2:Nat->L2.St->Hp->Prop:=λi σ H'=>∃(B:Int) (x3:Option V),σ=[some (.ref a),some (.int B),x3]/\H'=H/\0<B/\B∣(D₀:Int)/\∀r∈rs.take i,r.2∣B
  refine⟨_,Z,.inr ⟨a,Z,⟨_,hS⟩,nW (K:=K) (a:=a) (xs:=xs) Iv2 ⟨1,none,Z,Z,δ,⟨(D₀:Int),ω⟩,by simp⟩ (λi σ H1 _ ⟨_,_,_,e,_⟩=>by rw[e];exact hS) ?_ ?_⟩⟩
  ·rintro i x σ H1 hx ⟨B,x3,rfl,rfl,b0,bd,all⟩;obtain⟨r,hr,px,rfl,hSx⟩:=al.at hx;obtain⟨c1,c2,c9⟩:=ok r (QL hr);have c3:=Sh ω c2;have B84:=Sh ω bd;have g0:0<(Rf B r.2:Int):=bL ω;have g1:(Rf B r.2:Int)≤r.2:=Sh ω (Ut _ _);obtain⟨l0,l1,l2,l3⟩:=Os b0 c1 bd c2;refine⟨_,Z,_,Z,px,_,_,_,Z,Z,hSx,Z,_,Z,_,Z,px,_,_,_,Z,Z,hSx,Z,B,r.2,Z,_,_,Z,Z,⟨g0,qj ω (Vk g1 c3) d1⟩,_,_,Z,Z,⟨qj ω B84 d1,qj (TL ω ω) (Vk (UQ _ ω) c3) d1⟩,?_⟩;refine⟨_,_,Z,Z,l0,l1,λz hz=>?_⟩;rw[Rt,hr] at hz;rcases Rc.mp hz with h|h
   ·exact Uz (all z h) l2
   ·have:z=r:=by simpa using h
    subst this;exact l3
  ·rintro σ H1 ⟨B,x3,rfl,rfl,b0,bd,all⟩;rw[hlen,RW] at all;have B84:=Sh ω bd;refine⟨_,Z,.inr ⟨a,Z,⟨_,hS⟩,λD hD=>cr (rX hS) (λ_=>true) (λi=>V.int ((rW B rs).getD i 0)) hD ω (λi x H' hi s' hx R E kR kE=>?_) λH4 s4 h4=>?_⟩⟩
   ·obtain⟨r,hr,px,rfl,hSx⟩:=al.at hx;obtain⟨c1,c2,c9⟩:=ok r (QL hr);have c3:=Sh ω c2;have t':=ay.same (K:=K) s';have e:(rW B rs).getD i 0=r.1*(B/r.2):=aD 0 (by unfold rW;rw[Q4,hr];rfl);have q:=kR Z _ (ax.refl _);rw[e] at q;have e0:0≤B/r.2:=TL ω ω;have e1:B/r.2≤B:=UQ _ ω;exact⟨fz.set Z,_,Z,px,_,_,_,Z,Z,t' _ _ hSx,Z,_,Z,_,Z,px,_,_,_,Z,Z,t' _ _ hSx,Z,_,_,Z,Z,⟨ω,qj ω c3 d1⟩,_,_,Z,Z,⟨c9,qj e0 (Vk e1 B84) d1⟩,q⟩
   ·refine k D B H4 s4 hD b0 bd all ?_;rw[h4,show xs.length=(rW B rs).length by unfold rW;rw[QK];exact hlen,bH 0 V.int]
theorem LW(T:dA K mg t)(hB:base.BuiltinsAt mg t.c_LT):aP P w K mg base c5 3 t.a_Q11 t.d_Q11 ["some"] (gU K t.c_LT):=by
 refine B.Fun.okC T.Q11.F T.lcd B8 ψ (λA outer s H vs Q E hr h=>?_);obtain⟨a,xs,rs,D₀,rfl,hS,al,hn,d0,d1,ok,tb,k⟩:=h;refine cR.ok (have:=B8.nd;have:=cS T.Q20 (El T);(ac ζb (aw (bC (Du (c0:=t.c_LC) (T:=t.c_LT) (j:=1) (x := "place") (y := "parts") Z T.lhd hB (hr.mono δ) Z ⟨Z,Z,Z,Z,Z,Z⟩ Z Z Z Z Z (λ_ _ _ _=>Z) (λ_ _ _ _ _=>(by exact yi sg (by exact fx (dI (K:=K) ν) (by exact qv 1) (by exact qv 0) (by exact λ_ _=>Z)))) Z T.z_sorted (aj (yj Z T.z_range (aj (bG fJ (by rfl) T.z_len aaj (aj (qv 1) aH aB)) aH aM)) aH aM)))))) ?_
 nofun
 refine⟨_,Z,a,xs,rs,D₀,Z,.inr hS,al,hn,d0,d1,ok,λl B H1 s1 hl b0 bB bd hl1=>?_⟩;have lw:(rW B rs).length=rs.length:=QK _;have lm:((rW B rs).map V.int).length=rs.length:=by rw[QK,lw]
 have AO:∀{H H':Hp},ax H H'->TB H t.c_LT->TB H' t.c_LT:=λs tb=>by
  rcases tb with tb | ⟨c,o,vs,tt,h1,h2,h3⟩
  ·exact .inl (s _ _ tb)
  ·exact .inr ⟨c,o,vs,tt,s _ _ h1,s _ _ h2,h3⟩
 refine⟨_,Z,l,_,Z,.inl (aJ.of hl1),?_⟩;rw[lm];refine⟨_,Z,λpr hpr=>?_⟩;have s2:=ae hpr (.rng 0 rs.length);have s02:=s1.trans s2;refine⟨pr,rs.length,λi=>-((rW B rs).getD i 0),Z,aa,ω,AO s02 tb,λi H' Qk hi sT q=>?_,λlo ms H' pm so sT tb' hlo hno=>?_⟩
 ·have nT:l≠t.c_LT:=λz=>by
   have tb1:=AO s1 tb;rcases tb1 with e | ⟨_,_,_,_,e,_⟩
   ·rw[z,e] at hl1;cases hl1
   ·rw[z,e] at hl1;cases hl1
  have hg:((rW B rs).map V.int)[i]?=some (V.int ((rW B rs).getD i 0)):=by
   rw[Q4,QH ω,Q1,QH ω];rfl
  exact⟨_,Z,_,Z,l,_,_,_,Z,Z,aJ.of (sT _ _ nT (s2 _ _ hl1)),aG hg,_,Z,q⟩
 ·refine k lo ms H' (λb o nb e=>sT b o nb (s02 _ _ e)) tb' ?_ ⟨pm,?_⟩ hlo
  ·cases e:H lo with
   |none=>rfl
   |some o=>rw[s02 _ _ e] at hno;cases hno
  ·refine Xs (λ{i j} mi mj h=>?_) so;have hi:i<rs.length:=Q5.mp (pm.mem_iff.mp mi);have hj:j<rs.length:=Q5.mp (pm.mem_iff.mp mj);have gi:∀i,i<rs.length->(rW B rs).getD i 0=(rs.getD i (0,1)).1*(B/(rs.getD i (0,1)).2)/\rs.getD i (0,1)∈rs:=λi hi=>by
    have e:rs[i]?=some rs[i]:=QH hi;rw[aD (0,1) e];exact⟨aD 0 (by unfold rW;rw[Q4,e];rfl),Ri hi⟩
   obtain⟨e1,m1⟩:=gi i hi;obtain⟨e2,m2⟩:=gi j hj;dsimp only at h;rw[e1,e2] at h;exact vi b0 (ok _ m1).1 (ok _ m2).1 (bd _ m1) (bd _ m2) h
theorem Em(T:dA K mg t):gFx P w base T.Q12 4 (gT K):=by
 refine T.Q12.F.ok B7 ψ χ;obtain⟨v,w,a,b,rfl,⟨p,x,y,rfl,hS,hx,hy⟩,⟨p2,x2,y2,rfl,hS2,hx2,hy2⟩,ok,k⟩:=h;refine cR.ok (have:=B7.nd;have:=cS T.Q60 (wd T);have:=cS T.Q65 (vZ T);ζb) ?_;nofun
 refine⟨_,Z,p2,_,_,_,Z,Z,hS2,Z,_,Z,p,_,_,_,Z,Z,hS,Z,y2,y,b.2,a.2,197,197,Z,hy2,hy,ok.b2,ok.a2,δ,λv1 H1 s1 h1=>?_⟩;refine⟨_,Z,p2,_,_,_,Z,Z,ay.same s1 _ _ hS2,Z,_,Z,p,_,_,_,Z,Z,ay.same s1 _ _ hS,Z,x2,x,b.1,a.1,98,98,Z,hx2.mono (ay.same s1),hx.mono (ay.same s1),ok.b1,ok.a1,δ,λv2 H2 s2 h2=>?_⟩;exact⟨v1,v2,_,_,198,99,Z,h1.mono (ay.same s2),h2,ok.w2,ok.w1,δ,ok.ne,λv3 H3 s3 h3=>k v3 H3 (s1.trans (s2.trans s3)) h3⟩
theorem Lr(T:dA K mg t):gFx P w base T.Q57 1 (qx K):=by
 refine T.Q57.F.ok BC ψ χ;obtain⟨v,rl,rfl,hv,ok,k1,k2⟩:=h;refine cR.ok (have:=BC.nd;(ac (cy (aV qO ζb (fH (v:=.str "power") Z T.m_POWER ⟨_,Z⟩) (aX _)) ζb be)
   ζb)) ?_
 nofun
 cases rl with
 |pow kk=>
  obtain⟨p,rfl,hS⟩:=hv;exact⟨_,Z,p,_,_,_,Z,Z,hS,Z,Z,_,Z,bP Z (k1 kk Z)⟩
 |tab rows=>
  obtain⟨p,q,xs,rfl,hS,hq,al⟩:=hv;have ok':bg rows:=ok;have n2:=ok'.n2;obtain⟨xl,w,hat,hw,⟨pw,y1,y2,rfl,hSw,h1,h2⟩,_⟩:=al.last (n:=rows.length-1) ω;refine⟨_,Z,p,_,_,_,Z,Z,hS,Z,Z,_,Z,bJ δ ?_⟩;refine⟨_,Z,p,_,_,_,Z,Z,hS,Z,_,Z,q,_,_,_,Z,Z,hq,hat,pw,_,_,_,Z,Z,hSw,Z,k2 rows _ Z ?_⟩;unfold si;rw[bS hw];exact h1
theorem Ej(T:dA K mg t):gFx P w base T.Q30 2 (kC K):=by
 refine T.Q30.F.ok BW ψ χ;obtain⟨v,w,rl,s,rfl,hv,ok,hw,ws,k⟩:=h;refine cR.ok (have:=BW.nd;have:=cS T.Q51 (oU T);have:=cS T.Q57 (Lr T);(ac ζb (aw (bC (Kz (gz nP (qv 2) fX (aX _)) (Dv ζb)))))) ?_
 nofun
 refine⟨_,Z,v,rl,Z,hv,ok,?_,?_⟩
 ·rintro kk rfl;exact⟨_,Z,Z,_,Z,uT Z k⟩
 ·rintro rows x rfl hx;obtain⟨px,rfl,_⟩:=id hx;have ok':bg rows:=ok;obtain⟨r,e,er⟩:=yJ ok';have wt:Wf 98 (si rows):=by rw[er];exact M3 (ok'.sp r (QL e))
  refine⟨_,Z,Z,_,Z,uU (λz=>nomatch z) ?_⟩;exact⟨_,Z,_,Z,.ref px,w,si rows,s,98,98,Z,hx,hw,wt,ws,δ,k⟩
theorem Ef(T:dA K mg t):gFx P w base T.Q43 2 (mM K):=by
 refine T.Q43.F.ok vD ψ χ;obtain⟨q,v,xs,rows,s,rfl,hq,al,ok,hv,hs,hb,k⟩:=h;refine cR.ok (have:=vD.nd;have:=cS T.Q51 (oU T);(ac ζb (ac (dF PassesOwn.never ζb (aw (Dp (i:=2) vD.nd Z θ bf tH)))
   ζb))) ?_
 nofun
 have pl:=ok.p_lt hs.bq.pos hb;refine⟨λm σ H'=>∃i:Nat,σ=[some (.ref q),some v,some (.int (i:Int))]/\H'=H/\i≤cO rows s/\m=cO rows s-i,⟨_,0,Z,Z,Rq _,Z⟩,?_⟩;rintro m σ H' ⟨i,rfl,rfl,hi,rfl⟩;have hx0:xs[i]?=some (xs[i]'(by rw[al.len];lia)):=QH _;obtain⟨r,hr,hrv⟩:=al.at hx0;obtain⟨pa,x,y,ex,hS,hx,hy⟩:=id hrv;have mr:=QL hr;refine⟨_,Z,_,Z,q,_,_,_,Z,Z,hq,aG hx0,pa,_,_,_,ex,Z,hS,Z,_,Z,x,v,r.1,s,98,98,Z,hx,hv,M3 (ok.sp r mr),hs.wf,δ,_,Z,?_⟩;rw[jc hs.bq.pos ok.inc ok.allP hr];by_cases c:i<cO rows s
 ·refine bP c ?_;refine⟨_,λ_ _ z=>z,?_⟩;exact⟨_,Z,_,_,Z,Z,_,ω,i+1,Z,Z,c,Z⟩
 ·refine bJ c ?_;have e:i=cO rows s:=ω
  subst e;exact⟨_,Z,k⟩
theorem Lz(T:dA K mg t):gFx P w base T.Q44 5 (mL K):=by
 refine T.Q44.F.ok BK ψ χ;obtain⟨v,w,rl,s,rfl,hv,ok,hw,hs,hbl,k⟩:=h;refine cR.ok (have:=BK.nd;have:=cS T.Q30 (Ej T);have:=cS T.Q60 (wd T);have:=cS T.Q43 (Ef T);have:=cS T.Q64 (wc T);have:=cS T.Q56 (Ee T);have:=cS T.Q12 (Em T);have:=cS T.Q61 (tf T);(ac (cy (aV qO ζb (fH (v:=.str "power") Z T.m_POWER ⟨_,Z⟩) (aX _)) ζb be) (ac (cy ζb (aw gX) be) (ac ζb (ac ζb (ac ζb (ac (cy (aV (Eb hr) ζb (qv 1) (aX _)) ζb be)
   ζb))))))) ?_
 nofun
 cases rl with
 |pow kk=>
  obtain⟨p,rfl,hS⟩:=hv;have ok':2≤kk/\kk≤4:=ok;refine⟨_,Z,p,_,_,_,Z,Z,hS,Z,Z,_,Z,bP Z ?_⟩;exact⟨_,Z,_,Z,p,_,_,_,Z,Z,hS,Z,w,s,kk,Z,hw,hs.wf,ω,ω,k⟩
 |tab rows=>
  have ok':bg rows:=ok;obtain⟨p,q,xs,rfl,hS,hq,al⟩:=id hv;refine⟨_,Z,p,_,_,_,Z,Z,hS,Z,Z,_,Z,bJ δ ?_⟩;refine⟨_,Z,_,Z,.ref p,w,.tab rows,s,Z,hv,ok,hw,hs.wf,_,Z,?_⟩
  cases c:df (.tab rows) s with
  |true=>rw[(iu ok).mpr hbl] at c;cases c
  |false=>
   refine dC ?_;have hb:=(iu ok).mp c;have pl:=ok'.p_lt hs.bq.pos hb;have hx0:xs[cO rows s]?=some (xs[cO rows s]'(by rw[al.len];exact pl)):=QH _;obtain⟨r,hr',hrv⟩:=al.at hx0;obtain⟨pa,x,y,ex,hSr,hx,hy⟩:=id hrv;have mr:=QL hr';refine⟨_,Z,p,_,_,_,Z,Z,hS,Z,_,Z,_,Z,q,w,xs,rows,s,Z,hq,al,ok',hw,hs,hb,?_⟩;refine⟨_,Z,_,Z,q,_,_,_,Z,Z,hq,aG hx0,?_⟩;refine⟨_,Z,pa,_,_,_,ex,Z,hSr,Z,_,Z,dR r.1,dR s,hx.deep,hw.deep,i8 _,i8 _,i9 _,_,Z,?_⟩;rw[gC];have kb:AN K H Q (vT rows s):=k;unfold vT at kb;rw[bS hr'] at kb;by_cases ce:r.1=s
   ·refine bP ce ?_;refine⟨_,Z,pa,_,_,_,ex,Z,hSr,Z,?_⟩;by_cases c0:cO rows s=0
    ·rw[if_pos c0] at kb;rw[c0] at hr';rw[bS hr'] at kb;exact kb _ _ (ax.refl H) hy
    ·rw[if_neg c0] at kb;obtain⟨r1,e1⟩:∃r1,rows[cO rows s-1]?=some r1:=⟨_,QH ω⟩;rw[bS e1] at kb;have sl:=vA ok' ω e1 hr';have m1:=QL e1;have le:=ED (ok'.sp _ m1).red (ok'.pw _ m1).red (ok'.sp r mr).red (ok'.pw r mr).red sl.ne;unfold qQ at kb;rw[←ce,le] at kb;exact kb _ _ (ax.refl H) hy
   ·refine bJ ce ?_;have c0:cO rows s≠0:=λz=>by
     have e:=xC ok' hs z;obtain⟨y0,ey⟩:=ok'.zero;rw[z,ey] at hr'
     cases hr'
     exact ce e.symm
    rw[if_neg c0] at kb;have hw0:xs[cO rows s-1]?=some (xs[cO rows s-1]'(by rw[al.len];lia)):=QH _;obtain⟨r0,hr0,hrv0⟩:=al.at hw0;rw[bS hr0] at kb;obtain⟨pb,x0,y0,ex0,hS0,hx0',hy0⟩:=id hrv0;have sl:=vA ok' ω hr0 hr';obtain⟨wm,wt,wl⟩:=yH sl (ok'.slope ω hr0 hr').2.2.2 hs.wf;refine⟨_,Z,_,Z,_,_,Z,Z,q,_,_,_,Z,Z,hq,(by rw[show((cO rows s:Int)-1)=((cO rows s-1:Nat):Int) by lia];exact aG hw0),?_⟩;refine⟨_,Z,pb,_,_,_,ex0,Z,hS0,Z,_,Z,_,Z,_,_,r0,r,Z,hrv0,hrv,sl,λv3 H3 s3 h3=>?_⟩;refine⟨_,Z,_,Z,pb,_,_,_,ex0,Z,ay.same s3 _ _ hS0,Z,w,x0,s,r0.1,98,98,Z,hw.mono (ay.same s3),hx0'.mono (ay.same s3),hs.wf,sl.a1,δ,λv4 H4 s4 h4=>?_⟩;refine⟨v3,v4,bu r0 r,aA s r0.1,300,197,Z,h3.mono (ay.same s4),h4,(ok'.slope ω hr0 hr').2.2.2,wm,δ,λp5 g5=>?_⟩;have s5:=ae g5 (.tup [.int (aC (bu r0 r) (aA s r0.1)).1,.int (aC (bu r0 r) (aA s r0.1)).2]);have s35:=(s3.trans s4).trans s5;refine⟨y0,.ref p5,r0.2,aC (bu r0 r) (aA s r0.1),197,497,Z,hy0.mono (ay.same s35),cV (K:=K) s5,sl.a2,wt,δ,λp6 g6=>?_⟩;have s6:=ae g6 (.tup [.int (aK r0.2 (aC (bu r0 r) (aA s r0.1))).1,.int (aK r0.2 (aC (bu r0 r) (aA s r0.1))).2]);exact kb _ _ (s35.trans s6) (cV (K:=K) s6)
theorem LU(T:dA K mg t):gFx P w base T.Q14 5 (ix K):=by
 refine T.Q14.F.ok vI ψ χ;obtain⟨q,v,xs,rows,s,rfl,hq,al,ok,hv,hs,hb,k⟩:=h;refine cR.ok (have:=vI.nd;have:=cS T.Q51 (oU T);have:=cS T.Q43 (Ef T);have:=cS T.Q12 (Em T);(ac ζb (ac (kJ 3 vI.nd (fH (v:=.ref t.c_NOUGHT) Z T.m_NOUGHT Z))
   ζb))) ?_
 nofun
 have pl:=ok.p_lt hs.bq.pos hb;have hx0:xs[cO rows s]?=some (xs[cO rows s]'(by rw[al.len];exact pl)):=QH _;obtain⟨r,hr,hrv⟩:=al.at hx0;obtain⟨pa,x,y,ex,hS,hx,hy⟩:=id hrv;have mr:=QL hr;have pq:=ok.pq hs.bq.pos hs.nn pl hr;refine⟨_,Z,_,Z,q,v,xs,rows,s,Z,hq,al,ok,hv,hs,hb,?_⟩;refine⟨_,Z,_,_,Z,Z,_,Z,?_⟩;by_cases c0:0<cO rows s
 ·refine bP ω ?_;have hw0:xs[cO rows s-1]?=some (xs[cO rows s-1]'(by rw[al.len];lia)):=QH _;obtain⟨r0,hr0,hrv0⟩:=al.at hw0;have hr':rows[cO rows s-1+1]?=some r:=by rw[YY c0];exact hr
  refine⟨_,Z,_,Z,_,_,Z,Z,q,_,_,_,Z,Z,hq,(by rw[show((cO rows s:Int)-1)=((cO rows s-1:Nat):Int) by lia];exact aG hw0),_,Z,_,Z,q,_,_,_,Z,Z,hq,aG hx0,_,_,r0,r,Z,hrv0,hrv,vA ok ω hr0 hr,λv1 H1 s1 h1=>?_⟩;have el:jF rows s=bu r0 r:=by
   unfold jF;rw[if_neg ω,oC hr0 hr']
  rw[←el] at h1;refine⟨_,Z,_,Z,_,Z,q,_,_,_,Z,Z,ay.same s1 _ _ hq,aG hx0,pa,_,_,_,ex,Z,ay.same s1 _ _ hS,Z,v,x,s,r.1,98,98,Z,hv.mono (ay.same s1),hx.mono (ay.same s1),hs.wf,M3 (ok.sp r mr),δ,_,Z,?_⟩
  cases c:aL s r.1 with
  |true=>
   refine fC ?_;refine⟨_,Z,_,Z,eI,λp hp=>?_⟩;obtain⟨pp,eq⟩:=pq.1 c;have e1:cN rows s=some (jF rows s):=by
    unfold cN jF;rw[eq,if_pos pl,if_neg ω]
   refine k _ _ (s1.trans (ae hp _)) ⟨p,_,_,Z,cE.of aa,h1.mono (ay.new hp _),?_⟩;show gM K _ _ (cN rows s);rw[e1];exact h1.mono (ay.new hp _)
  |false=>
   refine dC ?_;have eq:=pq.2 c;refine⟨_,Z,_,Z,q,xs,Z,.inr (ay.same s1 _ _ hq),_,_,Z,Z,Z,_,Z,?_⟩;by_cases cl:cO rows s=rows.length-1
   ·refine bP (by rw[al.len];congr 1;lia) ?_;refine⟨_,Z,eI,λp hp=>?_⟩;have e1:cN rows s=none:=by
     unfold cN;rw[eq,if_neg ω]
    refine k _ _ (s1.trans (ae hp _)) ⟨p,_,_,Z,cE.of aa,h1.mono (ay.new hp _),?_⟩;show gM K _ _ (cN rows s);rw[e1];rfl
   ·refine bJ (λz=>cl (by injection z with z;rw[al.len] at z;lia)) ?_;have hy0:xs[cO rows s+1]?=some (xs[cO rows s+1]'(by rw[al.len];lia)):=QH _;obtain⟨r2,hr2,hrv2⟩:=al.at hy0;refine⟨_,Z,_,Z,_,Z,q,_,_,_,Z,Z,ay.same s1 _ _ hq,aG hx0,_,Z,_,Z,_,_,Z,Z,q,_,_,_,Z,Z,ay.same s1 _ _ hq,aG (j:=cO rows s+1) hy0,_,_,r,r2,Z,hrv.mono (ay.same s1),hrv2.mono (ay.same s1),vA ok (SH _) hr hr2,λv3 H3 s3 h3=>?_⟩;refine⟨eI,λp hp=>?_⟩;have e1:cN rows s=some (bu r r2):=by
     unfold cN;rw[eq,if_pos ω,Xa,oC hr hr2]
    refine k _ _ ((s1.trans s3).trans (ae hp _)) ⟨p,_,_,Z,cE.of aa,(h1.mono (ay.same s3)).mono (ay.new hp _),?_⟩;show gM K _ _ (cN rows s);rw[e1];exact h3.mono (ay.new hp _)
 ·refine bJ ω ?_;have s1:=ax.refl H;have h1:RV K H (.ref t.c_NOUGHT) (jF rows s):=by
   unfold jF;rw[if_pos ω];exact⟨_,Z,T.q_NOUGHT H⟩
  refine⟨_,Z,_,Z,_,Z,q,_,_,_,Z,Z,ay.same s1 _ _ hq,aG hx0,pa,_,_,_,ex,Z,ay.same s1 _ _ hS,Z,v,x,s,r.1,98,98,Z,hv.mono (ay.same s1),hx.mono (ay.same s1),hs.wf,M3 (ok.sp r mr),δ,_,Z,?_⟩
  cases c:aL s r.1 with
  |true=>
   refine fC ?_;refine⟨_,Z,_,Z,eI,λp hp=>?_⟩;obtain⟨pp,eq⟩:=pq.1 c;have e1:cN rows s=some (jF rows s):=by
    unfold cN jF;rw[eq,if_pos pl,if_neg ω]
   refine k _ _ (s1.trans (ae hp _)) ⟨p,_,_,Z,cE.of aa,h1.mono (ay.new hp _),?_⟩;show gM K _ _ (cN rows s);rw[e1];exact h1.mono (ay.new hp _)
  |false=>
   refine dC ?_;have eq:=pq.2 c;refine⟨_,Z,_,Z,q,xs,Z,.inr (ay.same s1 _ _ hq),_,_,Z,Z,Z,_,Z,?_⟩;by_cases cl:cO rows s=rows.length-1
   ·refine bP (by rw[al.len];congr 1;lia) ?_;refine⟨_,Z,eI,λp hp=>?_⟩;have e1:cN rows s=none:=by
     unfold cN;rw[eq,if_neg ω]
    refine k _ _ (s1.trans (ae hp _)) ⟨p,_,_,Z,cE.of aa,h1.mono (ay.new hp _),?_⟩;show gM K _ _ (cN rows s);rw[e1];rfl
   ·refine bJ (λz=>cl (by injection z with z;rw[al.len] at z;lia)) ?_;have hy0:xs[cO rows s+1]?=some (xs[cO rows s+1]'(by rw[al.len];lia)):=QH _;obtain⟨r2,hr2,hrv2⟩:=al.at hy0;refine⟨_,Z,_,Z,_,Z,q,_,_,_,Z,Z,ay.same s1 _ _ hq,aG hx0,_,Z,_,Z,_,_,Z,Z,q,_,_,_,Z,Z,ay.same s1 _ _ hq,aG (j:=cO rows s+1) hy0,_,_,r,r2,Z,hrv.mono (ay.same s1),hrv2.mono (ay.same s1),vA ok (SH _) hr hr2,λv3 H3 s3 h3=>?_⟩;refine⟨eI,λp hp=>?_⟩;have e1:cN rows s=some (bu r r2):=by
     unfold cN;rw[eq,if_pos ω,Xa,oC hr hr2]
    refine k _ _ ((s1.trans s3).trans (ae hp _)) ⟨p,_,_,Z,cE.of aa,(h1.mono (ay.same s3)).mono (ay.new hp _),?_⟩;show gM K _ _ (cN rows s);rw[e1];exact h3.mono (ay.new hp _)
theorem LG(T:dA K mg t):gFx P w base T.Q31 6 (kj K):=by
 refine T.Q31.F.ok BV ψ χ;obtain⟨v,w,rl,s,rfl,hv,ok,hw,hs,hb,k⟩:=h;refine cR.ok (have:=BV.nd;have:=cS T.Q56 (Ee T);have:=cS T.Q14 (LU T);have:=cS T.Q61 (tf T);(ac (cy (aV qO ζb (fH (v:=.str "table") Z T.m_TABLE ⟨_,Z⟩) (aX _)) ζb be)
   ζb)) ?_
 nofun
 cases rl with
 |pow kk=>
  obtain⟨p,rfl,hS⟩:=hv;have ok':2≤kk/\kk≤4:=ok;refine⟨_,Z,p,_,_,_,Z,Z,hS,Z,Z,_,Z,bJ δ ?_⟩;refine⟨_,Z,p,_,_,_,Z,Z,hS,Z,eI,λpk hk=>?_⟩;have s1:=ae hk (.tup [.int kk,.int 1]);refine⟨_,Z,_,Z,p,_,_,_,Z,Z,ay.same s1 _ _ hS,Z,_,_,Z,Z,w,s,kk-1,Z,hw.mono (ay.same s1),hs.wf,ω,ω,λv2 H2 s2 h2=>?_⟩;have w2:=vR hs.wf (kk-1).toNat;have le:1+(kk-1).toNat*98≤300:=by
   have:(kk-1).toNat≤3:=ω
   have:(kk-1).toNat*98≤3*98:=Tc _ this;lia
  refine⟨.ref pk,v2,(kk,1),dN s (kk-1).toNat,3,300,Z,(cV (K:=K) s1).mono (ay.same s2),h2,Mj ok',w2.mono le,δ,λp3 h3=>?_⟩;refine⟨_,Z,_,Z,eI,λp4 h4=>?_⟩;have s3:=ae h3 (.tup [.int (jR kk s).1,.int (jR kk s).2]);have s4:=ae h4 (.tup [.ref p3,.ref p3]);have rv:=(cV (K:=K) s3).mono (ay.same s4);exact k _ _ (((s1.trans s2).trans s3).trans s4) ⟨p4,_,_,Z,cE.of aa,rv,rv⟩
 |tab rows=>
  obtain⟨p,q,xs,rfl,hS,hq,al⟩:=hv;refine⟨_,Z,p,_,_,_,Z,Z,hS,Z,Z,_,Z,bP δ ?_⟩;exact⟨_,Z,p,_,_,_,Z,Z,hS,Z,_,Z,q,w,xs,rows,s,Z,hq,al,ok,hw,hs,hb,k⟩
theorem LN(T:dA K mg t):gFx P w base T.Q21 7 (iN K):=by
 refine T.Q21.F.ok B5 ψ χ;obtain⟨v,w,rl,s,rfl,hv,ok,hw,hs,hb,k⟩:=h;refine cR.ok (have:=B5.nd;have:=cS T.Q31 (LG T);(ac ζb (ac (cy (aV oR ζb fX (aX _)) ζb be)
   ζb))) ?_
 nofun
 refine⟨_,Z,_,Z,v,w,rl,s,Z,hv,ok,hw,hs,hb,λv1 H1 s1 h1=>?_⟩;obtain⟨p,x,y,rfl,hS,hx,hy⟩:=h1;refine⟨_,Z,p,_,_,_,Z,Z,hS,Z,Z,_,Z,?_⟩;generalize sH rl s=sd at hx hy k;obtain⟨l,o⟩:=sd
 cases o with
 |none=>
  obtain rfl:y=.non:=hy;refine bP Z ?_;exact⟨_,Z,p,_,_,_,Z,Z,hS,Z,k _ _ s1 hx⟩
 |some z=>
  have hy':RV K H1 y z:=hy;obtain⟨py,rfl,_⟩:=id hy';refine bJ (λe=>nomatch e) ?_;exact⟨_,Z,p,_,_,_,Z,Z,hS,Z,k _ _ s1 hy'⟩
theorem LF(T:dA K mg t):gFx P w base T.Q32 1 (kD K):=by
 refine T.Q32.F.ok BU ψ χ;obtain⟨v,w,t₀,rfl,⟨p,x,rfl,hS,rx⟩,k⟩:=h;refine cR.ok (have:=BU.nd;(aw (bC (DA Ea Ea ζb (qv 1) ζb)))) ?_;nofun
 refine⟨_,Z,p,_,_,_,Z,Z,hS,Z,_,Z,_,_,Z,Z,_,Z,?_⟩;by_cases c:w.1≤t₀
 ·refine bP ω ?_;have e:g8 w t₀=decide ((t₀:Int)≤(w.2.1:Int)):=by
   unfold g8;rw[decide_eq_true c,Bool.true_and];exact decide_eq_decide.mpr ω
  rw[e] at k;exact⟨_,Z,p,_,_,_,Z,Z,hS,Z,_,_,Z,Z,k⟩
 ·refine bJ ω ?_;have e:g8 w t₀=false:=by
   unfold g8;rw[decide_eq_false c,VM]
  rw[e] at k;exact k
theorem Ly(T:dA K mg t):gFx P w base T.Q45 6 (mK K):=by
 refine T.Q45.F.ok BJ ψ χ;obtain⟨v,p,rl,xs,ss,rfl,hv,ok,rt,hp,al,l9,oks,k⟩:=h;refine cR.ok (have:=BJ.nd;have:=cS T.Q44 (Lz T);(aw (bC (qg (sZ T) hr T.Q62 (aj (aZ ["speed","rule"] [none,some 0] Z (by exact(da (qv 1))) ζa ζa ζa) aH cU))))) ?_;nofun
 have lx:=al.len;refine⟨_,Z,p,Z,⟨_,hp⟩,λD hD=>dz (K:=K) (P:=RV K) (ds:=ss) (f:=bO rl) (λ_ _ _ _ t z=>z.mono t) hD (cK hp) lx ω (λi x s H' hx hs s' R E kR=>?_) λH2 ys s2 hD2 al2=>?_⟩
 ·obtain⟨s0,hs0,rvs⟩:=al.at hx;rw[hs] at hs0
  cases hs0
  obtain⟨o,b⟩:=oks s (QL hs);exact⟨fz.set Z,_,Z,_,Z,v,x,rl,s,Z,hv.mono (ay.same s'),ok,rvs.mono (ay.same s'),o.sp,b,λv3 H3 s3 r3=>kR _ _ s3 r3⟩
 ·refine⟨D,ys,ss.map (bO rl),420,59515953789365123158852704845422783159809256379678131039657860673594879039351138912567296000000000000,Z,.inl (aJ.of hD2),eh al2,(λr hr=>?_),δ,δ,(by rw[QK];lia),δ,λv' H' s' rv=>k v' H' (s2.trans s') rv⟩;obtain⟨s,hs,rfl⟩:=QZ.mp hr;have b:=vS ok rt (oks s hs).1 (oks s hs).2;exact⟨b.wf δ δ δ,b.dvd⟩
theorem LM(T:dA K mg t)(hB:base.BuiltinsAt mg t.c_LT):aP P w K mg base c5 4 t.a_Q22 t.d_Q22 ["hands","amounts"] (iQ K t.c_LT):=by
 refine T.Q22.F.ok B4 ψ χ;obtain⟨hh,pa,xs,rs,rfl,hS,al,am,h1,h9,tb,k⟩:=h;refine cR.ok (have:=B4.nd;have:=cS T.Q11 (LW T hB);have:=cS T.Q51 (oU T);have:=cS T.Q60 (wd T);have:=cS T.Q65 (vZ T);have:=cS T.Q62 (sZ T);(ac ζb (ac ζb (ac (sN ζb) (ac ζb (aw (bC (fq sW (qv 2) (fq nO ζb (qv 6)))))))))) ?_
 nofun
 have hlen:=al.len;have l9:=am.len;refine⟨(by show 0≤sizeLine;exact Rq _),λla hla=>?_⟩;obtain⟨s0,hq0⟩:=jT hla (.lst []);generalize upd H la _=H0 at s0 hq0 ⊢;have t0:=ay.same (K:=K) s0;refine⟨_,Z,pa,xs,rs,90,DM,Z,.inr (t0 _ _ hS),eh (al.mono λ_ _ z=>z.mono t0),(λr hr=>?_),δ,δ,ω,δ,λu0 H1 s1 r0=>?_⟩
 ·have o:=am.ok r hr;exact⟨o.bq.wf δ δ δ,o.bq.dvd⟩
 have s01:=s0.trans s1;have t1:=ay.same (K:=K) s01;refine⟨λσ H'=>∃(kk:Nat) (S:List R) (x4 x5:Option V) (u:V) (qs:List V),σ=[some (.int hh),some (.ref pa),some (.ref la),some u,x4,x5,none]/\jh t.c_LT H H'/\TB H' t.c_LT/\H' la=some (.lst qs)/\bR (RV K H') qs (S.take kk)/\RV K H' u (bj (S.drop kk))/\S.Perm rs/\jY S/\JN hh S kk,?_,?_⟩
 ·refine⟨_,Z,pa,xs,rs,DM,Z,t1 _ _ hS,al.mono λ_ _ z=>z.mono t1,ω,δ,δ,(λr hr=>?_),AO s01 tb,λlo ms H2 s2 tb2 hlo0 fo hlo=>?_⟩
  ·have o:=am.ok r hr;exact⟨o.bq.pos,o.bq.dvd,aO (o.bq.wf (n:=90) δ δ δ).top δ⟩
  obtain⟨pm,so⟩:=OG fo;have inM:∀m∈ms,m<rs.length:=λm hm=>Q5.mp (fo.1.mem_iff.mp hm)
  have lms:ms.length=rs.length:=by rw[fo.1.length_eq,Rx]
  have amS:=am.perm pm;have gS:∀(i m:Nat),ms[i]?=some m->(ms.map λi=>rs.getD i (0,1)).getD i (0,1)=rs.getD m (0,1):=λi m e=>by
   rw[Q1,Q4,e];rfl
  have lS:(ms.map λi=>rs.getD i (0,1)).length=rs.length:=by rw[QK,lms]
  generalize hSS:(ms.map λi=>rs.getD i (0,1))=S at pm so amS gS lS;have tT2:=eU (K:=K) s2 (AO s01 tb);have nT:la≠t.c_LT:=λz=>by
   obtain⟨ps,e⟩:=TB.tbl (AO s0 tb);rw[←z,hq0] at e
   cases e
  have sT2:jh t.c_LT H H2:=λb o nb e=>s2 b o nb (s01 _ _ e)
  have e0:bj rs=bj (S.drop 0):=by rw[Yr];exact(uk pm amS.red).symm
  have hlolst:aJ K H2 lo (aQ ms):=aJ.of hlo;let Iv1:Nat->L2.St->Hp->Prop:=λi σ H'=>∃(x4 x5:Option V) (u:V) (qs:List V),σ=[some (.int hh),some (.ref pa),some (.ref la),some u,x4,x5,none]/\(∀b o,b≠la->H2 b=some o->H' b=some o)/\ay K H2 H'/\H' la=some (.lst qs)/\bR (RV K H') qs (S.take i)/\RV K H' u (bj (S.drop i))/\∀j,j<i->uX hh S j=true
  refine⟨lo,Z,⟨_,hlolst⟩,c6 (K:=K) (a:=lo) (xs:=aQ ms) Iv1 ⟨none,none,u0,[],Z,λ_ _ _ q=>q,ay.refl _ _,s2 _ _ nT (s1 _ _ hq0),.nil,e0▸r0.mono tT2,λj hj=>absurd hj (TK _)⟩ (λi σ H' _ ⟨_,_,_,_,_,kp,_⟩=>aJ.of (kp _ _ (λz=>by rw[z,s1 _ _ hq0] at hlo0;cases hlo0) hlo)) ?_ ?_⟩
  ·rintro i x σ HI hx ⟨x4,x5,u,qs,rfl,kp,tI,hq,alq,ru,go⟩;have hi:i<ms.length:=by have:=(QN.mp hx).1;rw[uJ] at this;exact this
   have em:ms[i]?=some (ms[i]'hi):=QH _;rw[Er em] at hx
   cases hx
   have lt:=inM _ (Ri hi);have eS:=gS i _ em;generalize ms[i]'hi=mm at em lt eS ⊢;obtain⟨xa,hxa⟩:∃y,xs[mm]?=some y:=⟨_,QH ω⟩;obtain⟨r,hr',rva0⟩:=al.at hxa;have er:S.getD i (0,1)=r:=by rw[eS,Q1,hr'];rfl
   have iS:i<S.length:=ω
   have ih:i<hh:=tW amS h1 (Up iS) go;have tT:=(t1.trans tT2).trans tI;have rva:=rva0.mono tT;have o:=am.ok r (QL hr');have bd:=cX amS i;have lq:=alq.len;have li:qs.length=i:=by rw[lq,RD];lia
   refine⟨_,Z,_,Z,pa,_,_,_,Z,Z,tT _ _ hS,aG hxa,?_⟩;refine⟨_,Z,_,Z,_,Z,la,_,Z,.inl (aJ.of hq),_,_,Z,Z,eI,λp2 hp2=>?_⟩;dsimp only;rw[li,show((hh:Nat):Int)-((i:Nat):Int)=((hh-i:Nat):Int) by lia];have s3:=ae hp2 (.tup [.int ((hh-i:Nat):Int),.int 1]);have r3:RV K (upd HI p2 (.tup [.int ((hh-i:Nat):Int),.int 1])) (.ref p2) (((hh-i:Nat):Int),1):=RV.of aa;generalize upd HI p2 _=H3 at s3 r3 ⊢;have bh:Bq 1 9 ((((hh-i:Nat):Int),1):R):=wM ω;refine⟨u,.ref p2,bj (S.drop i),(((hh-i:Nat):Int),1),90,10,Z,ru.mono (ay.same s3),r3,bd.wf δ δ δ,bh.wf δ δ δ,δ,(by show((hh-i:Nat):Int)≠0;lia),λum H4 s4 rm=>?_⟩;have mo:=yE amS ih h9;have emn:d6 (bj (S.drop i)) (((hh-i:Nat):Int),1)=cH hh S i:=Z;rw[emn] at rm;have s34:=s3.trans s4;have t34:=ay.same (K:=K) s34;refine⟨_,Z,um,xa,cH hh S i,r,98,90,Z,rm,rva.mono t34,mo.sp.wf,o.bq.wf δ δ δ,δ,_,Z,?_⟩;have eg:uX hh S i=aL (cH hh S i) r:=by unfold uX;rw[er]
   have ht1:S.take (i+1)=S.take i++[r]:=by
    rw[Rt,QH iS];have:S[i]'iS=r:=by rw[←er,Q1,QH iS];rfl
    rw[this];rfl
   cases c:aL (cH hh S i) r with
   |false=>
    refine fC ?_;refine⟨i,S,_,_,u,qs,Z,λb o nb e=>s34 _ _ (kp b o (au e hla) (sT2 b o nb e)),?_,s34 _ _ hq,alq.mono λ_ _ z=>z.mono t34,ru.mono t34,pm,so,Up iS,go,λ_=>by rw[eg,c]⟩;have nTl:t.c_LT≠la:=SO nT;rcases tb2 with e | ⟨c',o',vs,tt,g1,g2,g3⟩
    ·exact .inl (s34 _ _ (kp _ _ nTl e))
    ·have hla2:=s2 _ _ nT (s1 _ _ hq0);exact .inr ⟨c',o',vs,tt,s34 _ _ (kp _ _ nTl g1),s34 _ _ (kp _ _ (λz=>by rw[z,hla2] at g2;cases g2) g2),g3⟩
   |true=>
    refine dC ?_;have hq4:=s34 _ _ hq;refine⟨_,Z,.inl ⟨Z,_,aJ.of hq4⟩,_,Z,la,qs,_,Z,Z,hq4,aN ω,?_⟩;have tu:=ay.up (K:=K) hq4 (qs++[xa]);have kp5:∀b o,b≠la->H2 b=some o->upd H4 la (.lst (qs++[xa])) b=some o:=λb o nb e=>by rw[ai nb];exact s34 _ _ (kp b o nb e)
    have t45:=t34.trans tu;have al5:=(alq.mono λ_ _ z=>z.mono t45).snoc (rva.mono t45);rw[←ht1] at al5;have hq5:upd H4 la (.lst (qs++[xa])) la=some (.lst (qs++[xa])):=aa;have ru5:=ru.mono t45;have rv5:=rva.mono t45;have tI5:=tI.trans t45;generalize upd H4 la _=H5 at kp5 al5 hq5 ru5 rv5 tI5 ⊢;refine⟨_,Z,_,Z,u,xa,bj (S.drop i),r,90,90,Z,ru5,rv5,bd.wf δ δ δ,o.bq.wf δ δ δ,δ,λu6 H6 s6 r6=>?_⟩;rw[←er,zF amS iS] at r6;have t6:=ay.same (K:=K) s6;refine⟨_,_,u6,_,Z,λb o nb e=>s6 _ _ (kp5 b o nb e),tI5.trans t6,s6 _ _ hq5,al5.mono λ_ _ z=>z.mono t6,r6,λj hj=>?_⟩;by_cases e:j=i
    ·rw[e,eg,c]
    ·exact go j ω
  ·rintro σ HI ⟨x4,x5,u,qs,rfl,kp,tI,hq,alq,ru,go⟩;rw[uJ,lms,←lS] at alq ru go;refine⟨S.length,S,_,_,u,qs,Z,λb o nb e=>kp b o (au e hla) (sT2 b o nb e),?_,hq,alq,ru,pm,so,QY _,go,λz=>absurd z (Ss _)⟩;have nTl:t.c_LT≠la:=SO nT;rcases tb2 with e | ⟨c',o',vs,tt,g1,g2,g3⟩
   ·exact .inl (kp _ _ nTl e)
   ·have hla2:=s2 _ _ nT (s1 _ _ hq0);exact .inr ⟨c',o',vs,tt,kp _ _ nTl g1,kp _ _ (λz=>by rw[z,hla2] at g2;cases g2) g2,g3⟩
 ·rintro σ HI ⟨kk,S,x4,x5,u,qs,rfl,sT,tbI,hq,alq,ru,pm,so,alo⟩;have amS:=am.perm pm;have kh:=tW amS h1 alo.le alo.go;have kS:=alo.le;have lS:S.length≤9:=amS.len;have lq:=alq.len;have li:qs.length=kk:=by rw[lq,RD];lia
  refine⟨_,Z,_,Z,la,_,Z,.inl (aJ.of hq),_,_,Z,Z,?_⟩;dsimp only;rw[li,show((hh:Nat):Int)-((kk:Nat):Int)=((hh-kk:Nat):Int) by lia];refine⟨_,Z,_,Z,_,Z,eI,λp2 hp2=>?_⟩;have s3:=ae hp2 (.tup [.int ((hh-kk:Nat):Int),.int 1]);have r3:RV K (upd HI p2 (.tup [.int ((hh-kk:Nat):Int),.int 1])) (.ref p2) (((hh-kk:Nat):Int),1):=RV.of aa;generalize upd HI p2 _=H3 at s3 r3 ⊢;have bh:Bq 1 9 ((((hh-kk:Nat):Int),1):R):=wM ω;have bd:=cX amS kk;refine⟨u,.ref p2,bj (S.drop kk),(((hh-kk:Nat):Int),1),90,10,Z,ru.mono (ay.same s3),r3,bd.wf δ δ δ,bh.wf δ δ δ,δ,(by show((hh-kk:Nat):Int)≠0;lia),λum H4 s4 rm=>?_⟩;have emn:d6 (bj (S.drop kk)) (((hh-kk:Nat):Int),1)=cH hh S kk:=Z;rw[emn] at rm;refine⟨FQ,λl1 hl1=>?_⟩;have s5:=ae hl1 (.lst [um]);refine⟨_,Z,l1,um,hh-kk,Z,Z,aa,ω,λl2 hl2=>?_⟩;obtain⟨s6,h2⟩:=jT hl2 (.lst (Q0 (hh-kk) um));have s36:=((s3.trans s4).trans s5).trans s6;have s56:=s5.trans s6;generalize upd (upd H4 l1 _) l2 _=H6 at s6 h2 s36 s56 ⊢;refine⟨la,l2,_,_,Z,Z,s36 _ _ hq,h2,RC (show _≤1000 by rw[R0];lia) AV,λl3 hl3=>?_⟩;have s7:=ae hl3 (.lst (qs++Q0 (hh-kk) um));have s37:=s36.trans s7;have t37:=ay.same (K:=K) s37;have al7:bR (RV K (upd H6 l3 (.lst (qs++Q0 (hh-kk) um)))) (qs++Q0 (hh-kk) um) (Am hh S kk):=(alq.mono λ_ _ z=>z.mono t37).join (bR.rep (rm.mono (ay.same (s56.trans s7))) _);rw[OA am pm so alo] at al7;exact k l3 _ _ (λb o nb e=>s37 _ _ (sT b o nb e)) (AO s37 tbI) aa al7
theorem LI(T:dA K mg t)(hB:base.BuiltinsAt mg t.c_LT):aP P w K mg base c5 7 t.a_Q27 t.d_Q27 ["rule","hands","amounts"] (jC K t.c_LT):=by
 refine T.Q27.F.ok BZ ψ χ;obtain⟨v,rl,hh,pa,xs,rs,rfl,hv,ok,rt,hS,al,am,h1,h9,tb,nb,k⟩:=h;refine cR.ok (have:=BZ.nd;have:=cS T.Q22 (LM T hB);have:=cS T.Q45 (Ly T);ζb) ?_;nofun
 refine⟨_,Z,_,Z,_,Z,hh,pa,xs,rs,Z,hS,al,am,h1,h9,tb,λl ys H1 sT tb1 hl al1=>?_⟩;have t1:=eU (K:=K) sT tb;exact⟨v,l,rl,ys,iG hh rs,Z,hv.mono t1,ok,rt,aJ.of hl,al1,by rw[gB am h1];lia,λs hs=>⟨f8 am h1 h9 s hs,qX ok am h1 h9 nb s hs⟩,λu H2 s2 ru=>k u H2 (λb o nb e=>s2 _ _ (sT b o nb e)) (AO s2 tb1) ru⟩
theorem LL(T:dA K mg t)(hB:base.BuiltinsAt mg t.c_LT):aP P w K mg base c5 8 t.a_Q23 t.d_Q23 ["rule","hands","plan"] (iP K t.c_LT):=by
 refine T.Q23.F.ok B3 ψ χ;obtain⟨v,rl,hh,w,pl,rfl,hv,ok,rt,⟨p,xs,rfl,hp,al⟩,pk,h1,h9,tb,nb,k⟩:=h;refine cR.ok (have:=B3.nd;(aw (bC (qg (sZ T) hr T.Q62 (aj (aZ ["pieces","rule","hands"] [none,some 0,some 1] Z (by exact(sP (qv 2))) ζa ζa (λ_ _ _ _ _=>(by exact(by exact(d5 (LI T hB) (by exact hr.mono δ) ν T.Q27.m T.Q27.F.kp T.Q27.b (by exact .nil) (by exact dS) (aj (by exact(qv 1)) (aj (by exact(qv 2)) (aj (by exact(cC (jd (K:=K) ν) ν T.z_tuple boot_tuple (aj (by exact(gY (N':=["piece"]) (src:=[none]) ν (by exact(Gs (K:=K) ν (by exact(qv 0)))) (by exact λ_ _ _ _ _=>(by exact(by exact bb (i:=0) (by show U1 (["piece"]:List RF);decide +kernel) ν θ))) (by exact λ_ _ _ _ _=>jk) (by exact λ_ _ _ _ _=>(by exact(by exact(fx (js (K:=K) ν) (by exact(qv 0)) bf (by exact λ_ _=>Z))))) (by exact trivial) ν (by decide +kernel) ν (by decide +kernel) (by exact cj Z trivial))) aH cU))) aH aM) aB) aB)))))) aH cU))))) ?_;nofun
 have hlen:=al.len;have l24:=pk.len;have nT:∀{X:Addr},H X=none->X≠t.c_LT:=λ{X} hX z=>by
  obtain⟨ps,e⟩:=TB.tbl tb;rw[←z,hX] at e
  cases e
 refine⟨_,Z,p,Z,⟨_,hp⟩,λD hD=>jb (J:=JL K p) (n:=xs.length) (λi ys H'=>ys.length=i/\jh t.c_LT H H'/\TB H' t.c_LT/\H' D=some (.lst ys)/\bR (RV K H') ys ((pl.take i).map λc=>Jg rl hh (eG c))) ⟨Z,λb o _ e=>ae hD _ _ _ e,AO (ae hD _) tb,aa,.nil⟩ (λi ys H' hi ⟨_,s1,_⟩=>⟨xs,_,eU (K:=K) s1 tb _ _ hp,QH hi⟩) (λys H' ⟨_,s1,tb1,hD1,al1⟩=>⟨⟨xs,eU (K:=K) s1 tb _ _ hp,QY _⟩,?_⟩) ?_⟩
 ·rw[show xs.length=pl.length from hlen,RW] at al1;refine⟨D,ys,pl.map (λc=>Jg rl hh (eG c)),420,59515953789365123158852704845422783159809256379678131039657860673594879039351138912567296000000000000,Z,.inl (aJ.of hD1),eh al1,(λr hr=>?_),δ,δ,(by rw[QK];lia),δ,λv' H2 s' rv=>k v' H2 (λb o nb e=>s' _ _ (s1 b o nb e)) (AO s' tb1) (by unfold HZ;rw[RO];exact rv)⟩;obtain⟨s,hs,rfl⟩:=QZ.mp hr;have b:=KL ok rt (pk.ok s hs) h1 h9 (nb s hs);exact⟨b.wf δ δ δ,b.dvd⟩
 ·rintro i ys H1 x H2 hix ⟨hyl,s1,tb1,hD1,al1⟩ hy R E kR kE;have t1:=eU (K:=K) s1 tb;obtain⟨rfl,hy⟩:=hy;have hx:=hy _ (t1 _ _ hp);obtain⟨c,hc,pq,yq,rfl,hpq,aq⟩:=al.at hx;have ams:=pk.ok c (QL hc);have lc:=ams.len;unfold eG at lc;rw[QK] at lc;refine⟨fz.set Z,_,Z,_,Z,_,Z,pq,Z,⟨_,t1 _ _ hpq⟩,λD3 hD3=>dz (K:=K) (P:=RV K) (ds:=c) (f:=λq:Pc=>q.2) (λ_ _ _ _ t z=>z.mono t) hD3 (rX (t1 _ _ hpq)) aq.len ω (λj y q H3 hy hq sm2 Rk2 E2 kR2=>?_) λHB qs sB hqB aqB=>?_⟩
  ·obtain⟨q',hq',pc_,rv_,rfl,hpc,rrv⟩:=aq.at hy;rw[hq] at hq'
   cases hq'
   have t'':=t1.trans (ay.same (K:=K) sm2);exact⟨fz.set Z,_,Z,pc_,_,_,_,Z,Z,t'' _ _ hpc,Z,kR2 _ _ (ax.refl _) (rrv.mono t'')⟩
  refine⟨D3,qs,Z,.inl ⟨aJ.of hqB,λl hl=>?_⟩⟩;have sl:=ae hl (.tup qs);have sBl:=sB.trans sl;have tl:=ay.same (K:=K) sBl;refine⟨v,rl,hh,l,qs,eG c,Z,(hv.mono t1).mono tl,ok,rt,cE.of aa,aqB.mono λ_ _ z=>z.mono (ay.same sl),ams,h1,h9,AO sBl tb1,nb c (QL hc),λu H3 s3 tb3 r3=>?_⟩;have t3:=eU (K:=K) s3 (AO sBl tb1);have al3:=(al1.mono λ_ _ z=>z.mono (tl.trans t3)).snoc r3;have hD3':=s3 _ _ (nT hD) (sBl _ _ hD1);refine kR u H3 hD3' (aN ω) ⟨by rw[Q8,hyl];rfl,?_,?_,aa,?_⟩
  ·exact λb o nb q=>by
    rw[ai (au q hD)];exact s3 b o nb (sBl _ _ (s1 b o nb q))
  ·rcases tb3 with e | ⟨c',o',vs,tt,g1,g2,g3⟩
   ·exact .inl (by rw[ai (SO (nT hD))];exact e)
   ·exact .inr ⟨c',o',vs,tt,by rw[ai (SO (nT hD))];exact g1,by rw[ai (λz=>by rw[z,hD3'] at g2;cases g2)];exact g2,g3⟩
  ·rw[Rt,hc,Rb];exact al3.mono λ_ _ z=>z.mono (ay.up (K:=K) hD3' _)
theorem Ek(T:dA K mg t):gFx P w base T.Q28 2 (jE K):=by
 refine T.Q28.F.ok BY ψ χ;obtain⟨a,b,xs,ws,fr,rfl,hS,al,w20,hF,f24,k⟩:=h;refine cR.ok (have:=BY.nd;(aw (bC (zM (N':=["turn","hands","works"]) (y := "turn") (src:=[none,none,some 0]) Z (by exact(kK Z T.z_enumerate ζb)) (λ_ _ _ _ _=>(by exact(by exact yg (K:=K) (n:=2) ν ν (by exact di (by exact bb (i:=0) (by show U1 (["turn","hands","works"]:List RF);decide +kernel) ν θ) (by exact di (by exact bb (i:=1) (by show U1 (["turn","hands","works"]:List RF);decide +kernel) ν θ) kL))))) (λ_ _ _ _ _=>jk) (λ_ _ _ _ _=>(by exact(by exact(bG (AA Z) ν T.z_min boot_min (aj (by exact(qv 1)) (aj (by exact(bG (AB (K:=K) ν) ν T.z_len aaj (aj (by exact(zL (N':=["work","turn"]) (src:=[none,some 0]) ν ν (by exact(Dq (K:=K) ν (by exact(qv 2)))) (by exact λ_ _ _ _ _=>(by exact(by exact bb (i:=0) (by show U1 (["work","turn"]:List RF);decide +kernel) ν θ))) (by exact λ_ _ _ _ _=>(dY (iR (by exact(d5 (LF T) (by exact hr.mono δ) ν T.Q32.m T.Q32.F.kp T.Q32.b (by exact .nil) (by exact dS) (aj (by exact(qv 0)) (aj (by exact(qv 1)) aH aB) aB)))))) (by exact λ_ _ _ _ _=>(by exact(by exact(qv 0)))) (by exact⟨Z,Z,Z,Z,trivial⟩) (by decide +kernel) ν (by decide +kernel) (by exact cj Z ⟨Z,trivial⟩))) aH cU))) aH aM) aB))))) (by exact⟨Z,Z,Z,Z,trivial⟩) Z (λ_=>Z) (λ_=>Z) Z (by decide +kernel) (by exact Ax Z ⟨Z,trivial⟩ Z))))) ?_;nofun
 have hlen:=al.len;refine⟨_,Z,b,Z,⟨_,hF⟩,λD hD=>cr (nF hF) (λ_=>true) (λi=>V.int (((f9 ws fr).getD i 0:Nat):Int)) hD (by unfold aQ;rw[QK];lia) (λi x H' hi s' hx R E kR kE=>?_) λH4 s4 h4=>?_⟩
 ·obtain⟨pe,y,rfl,hy,hpe⟩:=hx;obtain⟨f,hf,rfl⟩:=fe hy;have s0:=s';have e:(f9 ws fr).getD i 0=min f (cb ws i):=aD 0 (by unfold f9;rw[Q4,Tr (QN.mp hf).1];show some (min (fr.getD i 0) (cb ws i))=_;rw[aD 0 hf]);rw[e] at kR;refine⟨pe,_,Z,cE.of hpe,Z,_,_,Z,_,_,Z,Z,(fz.set Z).set' Z,?_⟩;refine⟨_,Z,_,Z,a,Z,⟨_,s'.seq hS⟩,λD2 hD2=>Fp (K:=K) (P:=tX K) (ds:=ws) (f:=λw:Wk=>w) (p:=λw:Wk=>g8 w i) (λ_ _ _ _ t p=>p.mono t) hD2 (s'.seq hS) hlen ω (λj z w H2 hz hw s2 R' E' kR' kE'=>?_) λH3 ys s3 hD3 al3=>?_⟩
  ·obtain⟨w',hw',wv⟩:=al.at hz;rw[hw] at hw'
   cases hw'
   have wv2:=wv.mono (ay.same (s'.trans s2));refine⟨fz.set Z,_,Z,_,Z,z,w,i,Z,wv2,_,Z,?_⟩
   cases c:g8 w i with
   |true=>exact fC ⟨_,Z,kR' c _ _ (ax.refl _) wv2⟩
   |false=>exact dC (kE' c _ (ax.refl _))
  ·have l3:=al3.len;rw[QK] at l3;refine⟨D2,ys,Z,.inl (aJ.of hD3),_,_,Z,?_⟩;have q:=kR Z _ s3;have ee:(if((ys.length:Nat):Int)<(f:Int) then((ys.length:Nat):Int) else(f:Int))=((min f (cb ws i):Nat):Int):=by
    rw[l3];show(if((cb ws i:Nat):Int)<(f:Int) then((cb ws i:Nat):Int) else(f:Int))=_
    split<;>lia
   rw[ee];exact q
 ·refine k D H4 s4 hD ?_;have lf:(aQ fr).length=(f9 ws fr).length:=by unfold aQ f9;rw[QK,QK,Rx]
  have e4:=bH 0 (λn:Nat=>V.int (n:Int)) (l:=f9 ws fr);rw[h4,lf];exact congrArg (λl=>some (HO.lst l)) e4
theorem Lo(T:dA K mg t):gFx P w base T.Q66 4 (xW K):=by
 refine T.Q66.F.ok Bu ψ χ;obtain⟨a,b,xs,ws,fr,rfl,hS,al,w20,bq,hF,f24,b0,b200,k⟩:=h;refine cR.ok (have:=Bu.nd;(aw (bC (qg (vZ T) hr T.Q65 (aj (qg (sZ T) hr T.Q62 (aj (aZ ["work"] [none] Z (by exact(da (qv 0))) ζa ζa ζa) aH cU)) (aj (im (aj (bG (rK Z) (by rfl) T.z_sum boot_sum (aj (qg (Ek T) hr T.Q28 (aj (qv 0) (aj (qv 1) aH aB) aB)) aH aM)) (aj bf aH gR) aM)) aH iL) aM))))) ?_;nofun
 have hlen:=al.len;refine⟨_,Z,a,Z,⟨_,hS⟩,λD hD=>dz (K:=K) (P:=RV K) (ds:=ws) (f:=λw:Wk=>w.2.2) (λ_ _ _ _ t p=>p.mono t) hD (cK hS) hlen ω (λi x w H' hx hw s' R E kR=>?_) λH2 ys s2 hD2 al2=>?_⟩
 ·obtain⟨w',hw',pw,am,rfl,hpw,ram⟩:=al.at hx;rw[hw] at hw'
  cases hw'
  have t':=ay.same (K:=K) s';refine⟨fz.set Z,_,Z,pw,_,_,_,Z,Z,t' _ _ hpw,Z,?_⟩;exact kR _ _ (ax.refl _) (ram.mono t')
 have wr:∀r∈(ws.map λw=>w.2.2),Bq 84 12 r:=λr hr=>by
  obtain⟨w,hw,rfl⟩:=QZ.mp hr;exact bq w hw
 refine⟨D,ys,ws.map λw=>w.2.2,20,84,Z,.inl (aJ.of hD2),eh al2,λr hr=>⟨(wr r hr).wf δ δ δ,(wr r hr).dvd⟩,δ,δ,by rw[QK];lia,δ,λv3 H3 s3 rv3=>?_⟩;have s03:=s2.trans s3;refine⟨_,Z,_,Z,a,b,xs,ws,fr,Z,s03.seq hS,al.mono λ_ _ z=>z.mono (ay.same s03),w20,s03.seq hF,f24,λl4 H4 s4 h0 e4=>?_⟩;rw[Ep] at e4;refine⟨l4,_,Z,aJ.of e4,?_⟩;rw[xR];refine⟨eI,λpt hpt=>?_⟩;have s5:=ae hpt (.tup [.int ((f9 ws fr).sum:Nat),.int 1]);have sq:=((jj δ wr).mono (To _) (show 12*(ws.map λw=>w.2.2).length≤240 by rw[QK];lia)).wf (n:=20) δ δ δ;have wz:Wf 9 ((((dD ws fr:Nat):Int),1):R):=⟨by show(0:Int)<1;decide,by show(((dD ws fr:Nat):Int)).natAbs<2^9;lia,by show(1:Int).natAbs<2^9;decide,by show Rf _ 1=1;simp⟩;refine⟨v3,.ref pt,bj (ws.map λw=>w.2.2),(((dD ws fr:Nat):Int),1),20,9,Z,(rv3.mono (ay.same s4)).mono (ay.same s5),RV.of aa,sq,wz,δ,(by show((dD ws fr:Nat):Int)≠0;lia),λv6 H6 s6 rv6=>?_⟩;rw[Qi sq.pos b0] at rv6;exact k v6 H6 (((s03.trans s4).trans s5).trans s6) rv6
theorem Lv(T:dA K mg t):gFx P w base T.Q52 1 (ot K):=by
 refine T.Q52.F.ok vC ψ χ;obtain⟨a,xs,Rs,rfl,hS,al,l20,r24,k⟩:=h;refine cR.ok (have:=vC.nd;(ac ζb (ac (dh PassesOwn.never Z (dQ Z T.z_range ζb) (bb (i:=2) vC.nd Z θ) (aw (dZ (mT Sr SY SZ eV (qv 1) (aj (cC bV (by rfl) T.z_tuple boot_tuple (aj (aZ ["number","row","turn"] [none,none,some 2] Z (by exact(kK Z T.z_enumerate ζb)) ζa (λ_ _ _ _ _=>(dY (aV (Hv (K:=K) ν (by exact hr)) (by exact(fx (dI (K:=K) ν) (by exact(qv 1)) (by exact(qv 2)) (by exact λ_ _=>Z))) (by exact(fH (v:=.ref t.c_NOUGHT) ν T.m_NOUGHT Z)) (aX _)))) ζe) aH cU)) aH aM))))) (aw (bC (cC bV (by rfl) T.z_tuple boot_tuple ζb)))))) ?_
 nofun
 have hlen:=al.len;refine⟨(by show 0≤sizeLine;exact Rq _),λlp hlp=>?_⟩;obtain⟨s1,e1⟩:=jT hlp (.lst []);generalize upd H lp _=H1 at s1 e1 ⊢;have pl24:(j4 Rs).length=24:=by unfold j4;rw[QK,Rx]
 let Iv:Nat->L2.St->Hp->Prop:=λi σ H'=>∃(x2:Option V) (zs:List V),σ=[some (.ref a),some (.ref lp),x2]/\(∀c o,c≠lp->H1 c=some o->H' c=some o)/\H' lp=some (.lst zs)/\bR (MU K H') zs ((j4 Rs).take i)
 refine⟨24,Z,δ,δ,cD (lo:=0) (n:=24) Iv ⟨none,[],Z,λ_ _ _ e=>e,e1,.nil⟩ ?_ ?_⟩
 ·rintro t σ H2 ht ⟨x2,zs,rfl,k2,e2,al2⟩;rw[S8];have s2:ax H H2:=λc o e=>k2 c o (au e hlp) (s1 _ _ e)
  have zl:=al2.len;rw[RD] at zl;refine⟨_,Z,.inl ⟨Z,_,aJ.of e2⟩,_,Z,a,Z,⟨_,s2.seq hS⟩,λD hD=>Fo (K:=K) (nF (s2.seq hS)) (P:=IF K) (f:=λi=>((i,(Rs.getD i []).getD t (0,1)):Pc)) (p:=λi=>decide ((Rs.getD i []).getD t (0,1)≠(0,1))) (λ_ _ _ _ t p=>p.mono t) hD ω (λi y H' hi s' hy R E kR kE=>?_) λH3 ys s3 hD3 al3=>?_⟩
  ·obtain⟨pe,y',rfl,hy',hpe⟩:=hy;obtain⟨rs,hrs,l,zs',rfl,hl,alr⟩:=al.at hy';have rl:=r24 rs (QL hrs);have zl':=alr.len;have s0':=s2.trans s';obtain⟨xr,hxr⟩:∃xr,zs'[t]?=some xr:=⟨_,QH ω⟩;obtain⟨r,hr',rv⟩:=alr.at hxr;rw[aD [] hrs,aD (0,1) hr'] at kR kE;have rv':=rv.mono (ay.same s0');refine⟨pe,_,Z,cE.of hpe,Z,_,_,Z,_,_,Z,Z,(fz.set Z).set' Z,_,Z,_,Z,l,_,_,_,Z,Z,aJ.of (s0' _ _ hl),aG hxr,dR r,dR (0,1),rv'.deep,(show RV K H' (.ref _) (0,1) from⟨_,Z,T.q_NOUGHT _⟩).deep,Z,Z,(by show 1≤32;decide),_,Z,?_⟩;rw[gC];by_cases c:r=(0,1)
   ·rw[decide_eq_true c];exact dC (kE (decide_eq_false λz=>z c) _ (ax.refl _))
   ·rw[decide_eq_false c];refine fC ⟨_,Z,_,Z,_,Z,l,_,_,_,Z,Z,aJ.of (s0' _ _ hl),aG hxr,eI,λq hq=>?_⟩;have s4:=ae hq (.tup [.int (i:Nat),xr]);exact kR (decide_eq_true c) _ _ s4 ⟨q,xr,Z,cE.of aa,rv'.mono (ay.same s4)⟩
  refine⟨D,ys,Z,.inl ⟨aJ.of hD3,λlt hlt=>?_⟩⟩;have s4:=ae hlt (.tup ys);have h4:MU K (upd H3 lt (.tup ys)) (.ref lt) (((QM Rs.length).filter λi=>decide ((Rs.getD i []).getD t (0,1)≠(0,1))).map λi=>((i,(Rs.getD i []).getD t (0,1)):Pc)):=⟨lt,ys,Z,cE.of aa,by rw[hlen] at al3;exact al3.mono λ_ _ z=>z.mono (ay.same s4)⟩;have s34:=s3.trans s4;generalize upd H3 lt _=H4 at s34 h4 ⊢;have e4:=s34 _ _ e2;refine⟨lp,_,_,Z,Z,e4,aN ω,?_⟩;have tu:=ay.up (K:=K) e4 (zs++[.ref lt]);refine⟨_,zs++[.ref lt],Z,λc o nc e=>by rw[ai nc];exact s34 _ _ (k2 c o nc e),aa,?_⟩;have ei:(j4 Rs)[t]?=some (((QM Rs.length).filter λi=>decide ((Rs.getD i []).getD t (0,1)≠(0,1))).map λi=>((i,(Rs.getD i []).getD t (0,1)):Pc)):=by unfold j4;rw[Q4,Tr ht];rfl
  rw[Rt,ei];exact(al2.mono λ_ _ z=>(z.mono (ay.same s34)).mono tu).snoc (h4.mono tu)
 ·rintro σ H2 ⟨x2,zs,rfl,k2,e2,al2⟩;rw[show(24:Nat)=(j4 Rs).length from pl24.symm,RW] at al2;have s2:ax H H2:=λc o e=>k2 c o (au e hlp) (s1 _ _ e)
  refine⟨_,Z,lp,_,Z,.inl ⟨aJ.of e2,λlt hlt=>?_⟩⟩;have s3:=ae hlt (.tup zs);exact k _ _ (s2.trans s3) ⟨lt,zs,Z,cE.of aa,al2.mono λ_ _ z=>z.mono (ay.same s3)⟩
theorem LJ(T:dA K mg t):gFx P w base T.Q25 1 (iO K):=by
 refine T.Q25.F.ok B2 ψ χ;obtain⟨a,ns,k₀,rfl,hS,k⟩:=h;refine cR.ok (have:=B2.nd;ζd) ?_;nofun
 have hlm:((ns.map V.int).length:Int)=(ns.length:Int):=by rw[QK]
 refine⟨_,Z,_,Z,a,_,Z,.inl hS,_,_,Z,Z,_,Z,?_⟩;by_cases c:(k₀:Int)<((ns.map V.int).length:Int)
 ·refine bP c ?_;obtain⟨z,hz⟩:=Jj (ns:=ns) (r:=(k₀:Int)) ω ω;exact⟨_,Z,_,Z,a,_,_,_,Z,Z,hS,hz,k z⟩
 ·exact bJ c (k 0)
theorem LD(T:dA K mg t):gFx P w base T.Q33 1 (kB K):=by
 refine T.Q33.F.ok BS ψ χ;obtain⟨c,m,rfl,m0,m1,k⟩:=h;refine cR.ok (have:=BS.nd;(ac ζb (ac ζb (ac (cy (aV Jl (qv 0) (fq Lj bf bf) (aX _)) ζb be)
   ζf)))) ?_
 nofun
 refine⟨(by show 0≤sizeLine;exact Rq _),λl h0=>?_⟩;have s0:=ae h0 (.lst []);have q0:=Tt c (show(2147483629:Int)≠0 by decide);have q1:=Tv c (show(0:Int)<2147483629 by decide);refine⟨_,Z,_,_,Z,Z,⟨δ,δ,δ⟩,_,_,Z,Z,_,Z,HR (λ_=>?_) (λ_=>?_)⟩
 ·refine⟨_,Z,?_⟩;refine⟨_,Z,_,_,Z,Z,(by show(0:Int)<_;decide),_,_,Z,Z,?_⟩;refine⟨_,Z,m,Z,ω,ω,cD (lo:=0) (n:=(m:Int).toNat) (λi σ H'=>∃(ns:List Int) (num mx:Int) (x6:Option V),σ=[some (.int c),some (.int m),some (.ref l),some (.int num),some (.int mx),x6]/\ax H H'/\H' l=some (.lst (ns.map V.int))/\ns.length=i/\0≤mx/\mx<2147540000) ⟨[],c,_,none,Z,s0,aa,Z,ω,ω⟩ ?_ ?_⟩
  ·rintro i σ H1 hi ⟨ns,num,mx,x6,rfl,s1,hl1,hn,x0,x1⟩;refine⟨_,Z,_,Z,_,_,Z,Z,.inl ⟨ω,ω⟩,_,Z,_,_,Z,Z,.inl ⟨δ,δ⟩,_,_,Z,Z,_,Z,_,_,Z,Z,.inl ⟨δ,δ⟩,_,_,Z,Z,_,_,Z,Z,(by show(0:Int)<_;decide),?_⟩;have y0:=Tt (mx*mx+48271*mx+7*(0+(i:Int))) (show(2147483647:Int)≠0 by decide);have y1:=Tv (mx*mx+48271*mx+7*(0+(i:Int))) (show(0:Int)<2147483647 by decide);have fin:∀(z:Int),∃ns':List Int,upd H1 l (.lst (ns.map V.int++[.int z])) l=some (.lst (ns'.map V.int))/\ns'.length=i+1:=λz=>⟨ns++[z],by rw[aa,Rb];rfl,by rw[Q8,hn];rfl⟩
   have sm:∀o,ax H (upd H1 l o):=λo b u e=>by rw[ai (au e h0)];exact s1 _ _ e
   refine⟨_,Z,_,_,Z,Z,_,Z,HR (λ_=>?_) (λ_=>?_)⟩
   ·refine⟨_,Z,.inl ⟨Z,_,aJ.of hl1⟩,_,Z,_,_,Z,Z,(by show(0:Int)<_;decide),l,_,_,Z,Z,hl1,aN (by rw[QK];lia),?_⟩;refine⟨_,Z,_,_,Z,Z,⟨δ,δ⟩,?_⟩;obtain⟨ns',e,el⟩:=fin (num%720720);exact⟨ns',_,_,_,Z,sm _,e,el,y0,ω⟩
   ·refine⟨_,Z,.inl ⟨Z,_,aJ.of hl1⟩,_,Z,_,_,Z,Z,.inr ⟨δ,δ⟩,_,Z,_,_,Z,Z,.inl ⟨δ,δ⟩,_,_,Z,Z,_,_,Z,Z,(by show(0:Int)<_;decide),_,_,Z,Z,⟨δ,δ⟩,l,_,_,Z,Z,hl1,aN (by rw[QK];lia),?_⟩;obtain⟨ns',e,el⟩:=fin (((mx*mx+48271*mx+7*(0+(i:Int)))%2147483647*69621+13*(0+(i:Int)))%2147483629/3);exact⟨ns',_,_,_,Z,sm _,e,el,y0,ω⟩
  ·rintro σ H1 ⟨ns,num,mx,x6,rfl,s1,hl1,hn,x0,x1⟩;exact⟨_,Z,k l ns H1 s1 h0 hl1 (by rw[hn];lia)⟩
 ·refine⟨_,Z,_,_,Z,Z,(by show(0:Int)<_;decide),_,_,Z,Z,?_⟩;refine⟨_,Z,m,Z,ω,ω,cD (lo:=0) (n:=(m:Int).toNat) (λi σ H'=>∃(ns:List Int) (num mx:Int) (x6:Option V),σ=[some (.int c),some (.int m),some (.ref l),some (.int num),some (.int mx),x6]/\ax H H'/\H' l=some (.lst (ns.map V.int))/\ns.length=i/\0≤mx/\mx<2147540000) ⟨[],0,_,none,Z,s0,aa,Z,ω,ω⟩ ?_ ?_⟩
  ·rintro i σ H1 hi ⟨ns,num,mx,x6,rfl,s1,hl1,hn,x0,x1⟩;refine⟨_,Z,_,Z,_,_,Z,Z,.inl ⟨ω,ω⟩,_,Z,_,_,Z,Z,.inl ⟨δ,δ⟩,_,_,Z,Z,_,Z,_,_,Z,Z,.inl ⟨δ,δ⟩,_,_,Z,Z,_,_,Z,Z,(by show(0:Int)<_;decide),?_⟩;have y0:=Tt (mx*mx+48271*mx+7*(0+(i:Int))) (show(2147483647:Int)≠0 by decide);have y1:=Tv (mx*mx+48271*mx+7*(0+(i:Int))) (show(0:Int)<2147483647 by decide);have fin:∀(z:Int),∃ns':List Int,upd H1 l (.lst (ns.map V.int++[.int z])) l=some (.lst (ns'.map V.int))/\ns'.length=i+1:=λz=>⟨ns++[z],by rw[aa,Rb];rfl,by rw[Q8,hn];rfl⟩
   have sm:∀o,ax H (upd H1 l o):=λo b u e=>by rw[ai (au e h0)];exact s1 _ _ e
   refine⟨_,Z,_,_,Z,Z,_,Z,HR (λ_=>?_) (λ_=>?_)⟩
   ·refine⟨_,Z,.inl ⟨Z,_,aJ.of hl1⟩,_,Z,_,_,Z,Z,(by show(0:Int)<_;decide),l,_,_,Z,Z,hl1,aN (by rw[QK];lia),?_⟩;refine⟨_,Z,_,_,Z,Z,⟨δ,δ⟩,?_⟩;obtain⟨ns',e,el⟩:=fin (num%720720);exact⟨ns',_,_,_,Z,sm _,e,el,y0,ω⟩
   ·refine⟨_,Z,.inl ⟨Z,_,aJ.of hl1⟩,_,Z,_,_,Z,Z,.inr ⟨δ,δ⟩,_,Z,_,_,Z,Z,.inl ⟨δ,δ⟩,_,_,Z,Z,_,_,Z,Z,(by show(0:Int)<_;decide),_,_,Z,Z,⟨δ,δ⟩,l,_,_,Z,Z,hl1,aN (by rw[QK];lia),?_⟩;obtain⟨ns',e,el⟩:=fin (((mx*mx+48271*mx+7*(0+(i:Int)))%2147483647*69621+13*(0+(i:Int)))%2147483629/3);exact⟨ns',_,_,_,Z,sm _,e,el,y0,ω⟩
  ·rintro σ H1 ⟨ns,num,mx,x6,rfl,s1,hl1,hn,x0,x1⟩;exact⟨_,Z,k l ns H1 s1 h0 hl1 (by rw[hn];lia)⟩
theorem tj(T:dA K mg t):gFx P w base T.Q46 1 (mN K):=by
 refine T.Q46.F.ok BI ψ χ;obtain⟨t₁,l,m,rfl,tp,hm0,hm1,k⟩:=h;refine cR.ok (have:=BI.nd;(ac (sO ζd (Ds (qv 0) bf fW))
   ζd)) ?_
 nofun
 obtain⟨ns,p,ht,hl,nl,n0,n1⟩:=tp.ex;refine⟨_,Z,t₁,_,_,_,Z,Z,aJ.of ht,Z,_,_,Z,Z,_,Z,t₁,_,_,_,Z,Z,ht,Z,?_⟩;have hl':∀o,upd H t₁ o l=some (.lst (ns.map V.int)):=λo=>by rw[ai nl];exact hl
 have hlm:((ns.map V.int).length:Int)=(ns.length:Int):=by rw[QK]
 obtain⟨z,hz⟩:=Jj (ns:=ns) (r:=(p+1-1)%((ns.map V.int).length:Int)) (Tt _ ω) (by have:=Tv (p+1-1) (show(0:Int)<((ns.map V.int).length:Int) by lia);lia);refine⟨_,Z,t₁,_,_,_,Z,Z,aJ.of aa,Z,_,Z,t₁,_,_,_,Z,Z,aJ.of aa,Z,_,_,Z,Z,_,Z,t₁,_,_,_,Z,Z,aJ.of aa,Z,l,_,Z,.inl (aJ.of (hl' _)),_,_,Z,Z,ω,l,_,_,_,Z,Z,aJ.of (hl' _),hz,_,Z,_,_,Z,Z,hm0,?_⟩;exact k _ _ (Tt _ ω) (Tv _ hm0) ⟨ns,_,aa,hl' _,nl,n0,n1⟩
theorem io(T:dA K mg t):gFx P w base T.Q47 1 (mR K):=by
 refine T.Q47.F.ok sL ψ χ;obtain⟨a,b,rfl,hb,hz,k⟩:=h;refine cR.ok (have:=sL.nd;(ac (Dn (i:=2) (j:=3) Z sL.nd Z Z δ Z Z (aj (bG pT (by rfl) T.z_abs boot_abs ζb) (aj (qv 1) aH aB) aM) Z) (ac (dF PassesOwn.never ζb (aw (Dn (i:=2) (j:=3) Z sL.nd Z Z δ Z Z ζb Z)))
   ζb))) ?_
 nofun
 have gp:=bL (a:=a) hb;have gb:=pK (a:=a) hb hz;refine⟨_,Z,_,Z,_,Z,_,_,Z,?_⟩;rw[xh];refine⟨λm σ H'=>∃(x y:Int),σ=[some (.int a),some (.int b),some (.int x),some (.int y)]/\H'=H/\0≤x/\0≤y/\Rf x y=Rf a b/\m=y.toNat,⟨_,_,_,Z,Z,ω,ω,(by simp[Rf]),Z⟩,?_⟩;rintro m σ H' ⟨x,y,rfl,rfl,hx,hy,hg,rfl⟩;refine⟨_,Z,_,_,Z,Z,_,Z,?_⟩;by_cases c:y=0
 ·subst c;refine bJ δ ?_;have e:(x:Int)=(Rf x 0:Nat):=by simp[Rf];lia
  rw[hg] at e;subst e;exact⟨_,Z,_,Z,_,_,Z,Z,⟨gp,gb⟩,_,Z,_,Z,_,_,Z,Z,⟨gp,gb⟩,eI,λp hp=>k p hp⟩
 ·refine bP ω ?_;refine⟨_,λ_ _ z=>z,?_⟩;refine⟨_,Z,_,Z,_,Z,_,_,Z,Z,ω,_,_,Z,?_⟩;refine⟨_,?_,y,x%y,Z,Z,hy,Tt _ c,?_,Z⟩
  ·have:=Tv x (show 0<y by lia);have:=Tt x c;lia
  ·rw[uY hx ω,hg]
theorem oW(T:dA K mg t):gFx P w base T.Q48 2 (mP K):=by
 refine T.Q48.F.ok BH ψ χ;obtain⟨v,w,r,q,n,m,rfl,hv,hw,wr,wq,hz,k⟩:=h;refine cR.ok (have:=BH.nd;have:=cS T.Q47 (io T);ζb) ?_;nofun
 obtain⟨p,rfl,hv⟩:=hv;obtain⟨p',rfl,hw⟩:=hw;have c1:=aO wr.top (show n≤8990 by lia);have c2:=aO wr.bot (show n≤8990 by lia);have c3:=aO wq.top (show m≤8990 by lia);have c4:=aO wq.bot (show m≤8990 by lia);refine⟨_,Z,p,_,_,_,Z,Z,hv,Z,_,Z,p',_,_,_,Z,Z,hw,Z,_,_,Z,Z,⟨c1,c4⟩,_,Z,p',_,_,_,Z,Z,hw,Z,_,Z,p,_,_,_,Z,Z,hv,Z,_,_,Z,Z,⟨c3,c2⟩,_,_,Z,Z,_,Z,p,_,_,_,Z,Z,hv,Z,_,Z,p',_,_,_,Z,Z,hw,Z,_,_,Z,Z,⟨c2,c4⟩,_,_,Z,RG wr.pos wq.pos,aO (dj wr.bot wq.bot) ω,k⟩
theorem wj(T:dA K mg t):gFx P w base T.Q34 2 (kx K):=by
 refine T.Q34.F.ok BR ψ χ;obtain⟨v,w,r,q,n,m,rfl,hv,hw,wr,wq,hz,k⟩:=h;refine cR.ok (have:=BR.nd;have:=cS T.Q47 (io T);ζb) ?_;nofun
 obtain⟨p,rfl,hv⟩:=hv;obtain⟨p',rfl,hw⟩:=hw;have c1:=aO wr.top (show n≤8990 by lia);have c2:=aO wr.bot (show n≤8990 by lia);have c3:=aO wq.top (show m≤8990 by lia);have c4:=aO wq.bot (show m≤8990 by lia);refine⟨_,Z,p,_,_,_,Z,Z,hv,Z,_,Z,p',_,_,_,Z,Z,hw,Z,_,_,Z,Z,⟨c1,c4⟩,_,Z,p',_,_,_,Z,Z,hw,Z,_,Z,p,_,_,_,Z,Z,hv,Z,_,_,Z,Z,⟨c3,c2⟩,_,_,Z,Z,_,Z,p,_,_,_,Z,Z,hv,Z,_,Z,p',_,_,_,Z,Z,hw,Z,_,_,Z,Z,⟨c2,c4⟩,_,_,Z,RG wr.pos wq.pos,aO (dj wr.bot wq.bot) ω,k⟩
theorem oX(T:dA K mg t):gFx P w base T.Q35 2 (ko K):=by
 refine T.Q35.F.ok BQ ψ χ;obtain⟨v,w,r,q,n,m,rfl,hv,hw,wr,wq,hz,k⟩:=h;refine cR.ok (have:=BQ.nd;have:=cS T.Q47 (io T);ζb) ?_;nofun
 obtain⟨p,rfl,hv⟩:=hv;obtain⟨p',rfl,hw⟩:=hw;have c1:=aO wr.top (show n≤8990 by lia);have c2:=aO wr.bot (show n≤8990 by lia);have c3:=aO wq.top (show m≤8990 by lia);have c4:=aO wq.bot (show m≤8990 by lia);refine⟨_,Z,p,_,_,_,Z,Z,hv,Z,_,Z,p',_,_,_,Z,Z,hw,Z,_,_,Z,Z,⟨c1,c3⟩,_,Z,p,_,_,_,Z,Z,hv,Z,_,Z,p',_,_,_,Z,Z,hw,Z,_,_,Z,Z,⟨c2,c4⟩,_,_,Z,RG wr.pos wq.pos,aO (dj wr.bot wq.bot) ω,k⟩
theorem Lq(T:dA K mg t):gFx P w base T.Q58 2 (qz K):=by
 refine T.Q58.F.ok BB ψ χ;obtain⟨v,w,r,q,n,m,rfl,hv,hw,wr,wq,hz,q0,k⟩:=h;refine cR.ok (have:=BB.nd;have:=cS T.Q47 (io T);ζb) ?_;nofun
 obtain⟨p,rfl,hv⟩:=hv;obtain⟨p',rfl,hw⟩:=hw;have c1:=aO wr.top (show n≤8990 by lia);have c2:=aO wr.bot (show n≤8990 by lia);have c3:=aO wq.top (show m≤8990 by lia);have c4:=aO wq.bot (show m≤8990 by lia);have e:d6 r q=cJ (r.1*q.2) (r.2*q.1):=jp (RG wr.pos q0);rw[e] at k;exact⟨_,Z,p,_,_,_,Z,Z,hv,Z,_,Z,p',_,_,_,Z,Z,hw,Z,_,_,Z,Z,⟨c1,c4⟩,_,Z,p,_,_,_,Z,Z,hv,Z,_,Z,p',_,_,_,Z,Z,hw,Z,_,_,Z,Z,⟨c2,c3⟩,_,_,Z,RG wr.pos q0,aO (dj wr.bot wq.top) ω,k⟩
theorem oY(T:dA K mg t):gFx P w base T.Q26 1 (ou K):=by
 refine T.Q26.F.ok B1 (λvs H Q E h=>?_) χ
 ·obtain⟨_,_,_,_,_,_,rfl,_⟩:=h;rfl
 obtain⟨v,w,r,q,n,m,rfl,hv,hw,wr,wq,hz,k⟩:=h;refine cR.ok (have:=B1.nd;(aw (bC (gz yx ζb ζb (aX _))))) ?_;nofun
 obtain⟨p,rfl,hv⟩:=hv;obtain⟨p',rfl,hw⟩:=hw;have c1:=aO wr.top (show n≤8990 by lia);have c2:=aO wr.bot (show n≤8990 by lia);have c3:=aO wq.top (show m≤8990 by lia);have c4:=aO wq.bot (show m≤8990 by lia);refine⟨_,Z,p,_,_,_,Z,Z,hv,Z,_,Z,p',_,_,_,Z,Z,hw,Z,_,_,Z,Z,⟨c1,c4⟩,_,Z,p',_,_,_,Z,Z,hw,Z,_,Z,p,_,_,_,Z,Z,hv,Z,_,_,Z,Z,⟨c3,c2⟩,_,_,Z,Z,k⟩
theorem LC(T:dA K mg t):gFx P w base T.Q36 3 (kn K):=by
 refine T.Q36.F.ok BP ψ χ;obtain⟨a,xs,rs,rfl,hS,al,bq,hl,k⟩:=h;refine cR.ok (have:=BP.nd;have:=cS T.Q48 (oW T);ζb) ?_;nofun
 have hlen:=al.len;refine⟨eI,λp0 hp0=>?_⟩;have s0:=ae hp0 (.tup [.int 0,.int 1]);let Iv1:Nat->L2.St->Hp->Prop:=λi σ H'=>∃(u:V) (x3:Option V),σ=[some (.ref a),some u,x3]/\ax H H'/\RV K H' u (bj (rs.take i))
 refine⟨_,Z,a,Z,⟨_,s0.seq hS⟩,c6 (K:=K) (a:=a) (xs:=xs) Iv1 ⟨_,none,Z,s0,RV.of aa⟩ (λi σ H1 _ ⟨_,_,_,s1,_⟩=>s1.seq hS) ?_ ?_⟩
 ·rintro i y σ H1 hi ⟨u,x3,rfl,s1,ru⟩;obtain⟨r,hr,rv⟩:=al.at hi;have br:=bq r (QL hr);have hil:=(QN.mp hr).1;have wu:Wf 800 (bj (rs.take i)):=(show Bq DM 540 (bj (rs.take i)) from(jj (N:=60) δ λx hx=>bq x (Sx hx)).mono (To _) (by rw[RD];lia)).wf δ δ δ;have wr:Wf 800 r:=br.wf δ δ δ;refine⟨_,Z,_,Z,u,y,bj (rs.take i),r,800,800,Z,ru,rv.mono (ay.same s1),wu,wr,δ,λp hp=>?_⟩;have s2:=ae hp (.tup [.int (aK (bj (rs.take i)) r).1,.int (aK (bj (rs.take i)) r).2]);refine⟨_,_,Z,s1.trans s2,?_⟩;rw[Bg hr];exact RV.of aa
 ·rintro σ H1 ⟨u,x3,rfl,s1,ru⟩;rw[hlen,RW] at ru;exact⟨_,Z,k u H1 s1 ru⟩
theorem Lx(T:dA K mg t):gFx P w base T.Q49 2 (mQ K):=by
 refine T.Q49.F.ok BG ψ χ;obtain⟨a,xs,rs,rfl,hS,al,wf,k⟩:=h;refine cR.ok (have:=BG.nd;have:=cS T.Q26 (oY T);ζb) ?_;nofun
 have hlen:=al.len;refine⟨eI,λp0 hp0=>?_⟩;have s0:=ae hp0 (.tup [.int 0,.int 1]);refine⟨_,Z,a,Z,⟨_,s0.seq hS⟩,c6 (K:=K) (a:=a) (xs:=xs) (λi σ H'=>∃(u:V) (x3:Option V),σ=[some (.ref a),some u,x3]/\ax H H'/\RV K H' u ((rs.take i).foldl qb (0,1))/\Wf 800 ((rs.take i).foldl qb (0,1))) ⟨_,none,Z,s0,RV.of aa,FR.mono δ⟩ (λi σ H1 _ ⟨_,_,_,s1,_⟩=>s1.seq hS) ?_ ?_⟩
 ·rintro i y σ H1 hi ⟨u,x3,rfl,s1,ru,wu⟩;obtain⟨r,hr,rv⟩:=al.at hi;have wr:=wf r (QL hr);have e:(rs.take (i+1)).foldl qb (0,1)=qb ((rs.take i).foldl qb (0,1)) r:=by
   rw[Rt,hr,Xl];rfl
  rw[e];generalize (rs.take i).foldl qb (0,1)=m at ru wu ⊢;have ww:=Oo wu wr;refine⟨_,Z,_,Z,u,y,m,r,800,800,Z,ru,rv.mono (ay.same s1),wu,wr,δ,_,Z,?_⟩;unfold qb at ww ⊢
  cases c:aL m r with
  |true=>
   rw[c,if_pos Z] at ww;refine fC ?_;exact⟨_,Z,y,_,Z,s1,(by rw[if_pos Z];exact rv.mono (ay.same s1)),(by rw[if_pos Z];exact ww)⟩
  |false=>
   refine dC ?_;exact⟨u,_,Z,s1,(by rw[if_neg Rn];exact ru),(by rw[if_neg Rn];exact wu)⟩
 ·rintro σ H1 ⟨u,x3,rfl,s1,ru,wu⟩;rw[hlen,RW] at ru;exact⟨_,Z,k u H1 s1 ru⟩
theorem LB(T:dA K mg t):gFx P w base T.Q37 2 (km K):=by
 refine T.Q37.F.ok lX ψ χ;obtain⟨t₁,l,mo,tu,rfl,tb,m0,m20,u1,u24,k⟩:=h;refine cR.ok (have:=lX.nd;have:=cS T.Q47 (io T);have:=cS T.Q46 (tj T);(ac ζb (ac (dh PassesOwn.never Z (dQ Z T.z_range ζb) (bb (i:=4) lX.nd Z θ) (ac ζb (ac ζb (ac ζb (ac (sN (cy (aV qO (qv 5) bf (aX _)) ζb be)) (ac (sN (cy (uz (jQ ζb (kH (aV (gK hr) (qv 3) ζb (aX _))))) (aw (sO (kM J3 ζd nL (nK bf)) (vN Z (di (bb (i:=6) lX.nd Z θ) (di (bb (i:=7) lX.nd Z θ) kL))))) be)) (ac ζd (ac (sN (cy (uz (jQ ζb (kH (aV (gK hr) (qv 3) ζb (aX _))))) (aw (kJ 8 lX.nd (Kq fZ ζd bf))) be))
   ζb))))))))
   (aw (bC (cC bV (by rfl) T.z_tuple boot_tuple ζb)))))) ?_
 nofun
 refine⟨(by show 0≤sizeLine;exact Rq _),λlw hlw=>?_⟩;have s1:=ae hlw (.lst []);have nt:lw≠t₁:=λz=>by obtain⟨ys,e⟩:=tb.lst;rw[←z,hlw] at e;cases e
 have nl:lw≠l:=λz=>by obtain⟨ys,e⟩:=tb.lst';rw[←z,hlw] at e;cases e
 have W1:Wl K H t₁ l lw (upd H lw (.lst [])) []:=⟨jH.of s1,tb.same s1,⟨[],aa,.nil⟩,nt,nl,hlw,λw h=>by cases h⟩;generalize upd H lw _=H1 at W1 ⊢;refine⟨_,Z,_,Z,_,_,Z,Z,t₁,l,mo+1,Z,W1.tb,ω,ω,λr2 x2 a2 b2 tb2=>?_⟩;have W2:=W1.tape tb2;generalize upd H1 t₁ _=H2 at W2 ⊢;obtain⟨m,rfl⟩:=R3 a2;let Iv1:Nat->L2.St->Hp->Prop:=λi σ H'=>∃(x4 x5 x6 x7 x8:Option V) (ws:List Wk),σ=[some (.ref t₁),some (.int mo),some (.int tu),some (.ref lw),x4,x5,x6,x7,x8]/\Wl K H t₁ l lw H' ws/\ws.length=i
 refine⟨m,Z,ω,ω,cD (lo:=0) (n:=(m:Int).toNat) Iv1 ⟨none,none,none,none,none,[],Z,W2,Z⟩ ?_ ?_⟩
 ·rintro i σ H3 hi ⟨x4,x5,x6,x7,x8,ws,rfl,W3,wl⟩;refine⟨_,Z,t₁,l,6,Z,W3.tb,ω,ω,λrw_ x5' a5 b5 tb5=>?_⟩;have W5:=W3.tape tb5;generalize upd H3 t₁ _=H5 at W5 ⊢;refine⟨_,Z,_,Z,t₁,l,tu,Z,W5.tb,ω,ω,λrf x6' a6 b6 tb6=>?_⟩;have W6:=W5.tape tb6;generalize upd H5 t₁ _=H6 at W6 ⊢;refine⟨_,Z,_,Z,_,Z,_,Z,_,_,Z,Z,t₁,l,tu-rf,Z,W6.tb,ω,ω,λrl x7' a7 b7 tb7=>?_⟩;have W7:=W6.tape tb7;generalize upd H6 t₁ _=H7 at W7 ⊢;refine⟨_,_,Z,Z,?_⟩;refine⟨λσ H'=>∃(f g:Int),σ=[some (.ref t₁),some (.int mo),some (.int tu),some (.ref lw),some (.int (0+(i:Nat))),some (.int rw_),some (.int f),some (.int g),x8]/\H'=H7/\0≤f/\f≤g/\g<10,?_,?_⟩
  ·refine⟨_,Z,Z,_,Z,?_⟩;by_cases c:rw_=0
   ·refine bP (by rw[c]) ?_;exact⟨_,Z,rf,rf,Z,Z,a6,TF _,ω⟩
   ·refine bJ (λz=>by injection z with z;exact c z) ?_;exact⟨rf,rf+rl,rfl,rfl,a6,ω,ω⟩
  rintro σ H7' ⟨f,g,rfl,rfl,f0,fg,g24⟩;clear a7 b7 a6 b6 rf rl a5 b5;refine⟨λσ H'=>∃(f g:Int),σ=[some (.ref t₁),some (.int mo),some (.int tu),some (.ref lw),some (.int (0+(i:Nat))),some (.int rw_),some (.int f),some (.int g),x8]/\Wl K H t₁ l lw H' ws/\0≤f/\f≤g/\g<10,?_,?_⟩
  ·refine⟨_,Z,Z,_,Z,?_⟩;by_cases c:rw_=1
   rotate_left
   ·refine bJ (λz=>by injection z with z;exact c z) (dC ?_);exact⟨f,g,rfl,W7,f0,fg,g24⟩
   refine bP (by rw[c]) ?_;refine⟨_,Z,(by show 0≤sizeLine;exact Rq _),λpe hpe=>?_⟩;have z8:=ae hpe (.lst []);have W8:=W7.same z8;have e8:upd H7' pe (.lst []) pe=some (.lst []):=aa;generalize upd H7' pe _=H8 at W8 e8 ⊢;obtain⟨zs,ez,alz⟩:=W8.hw;refine⟨.list (ws.map Ih),.list [],.lst (aJ.of ez) (alz.deep λ_ _ q=>q.deep),.lst (aJ.of e8) .nil,EF ws,Z,Fj ws,_,Z,?_⟩;have ev:Sk (.list (ws.map Ih)) (.list [])=ws.isEmpty:=by cases ws<;>rfl
   rw[ev];by_cases hw:ws=[]
   ·refine Ju (b:=!ws.isEmpty) (by rw[hw];rfl) ?_;exact⟨f,g,Z,W8,f0,fg,g24⟩
   ·have wl1:0<ws.length:=UE.mpr hw;have lz:=alz.len;refine Jt (b:=!ws.isEmpty) (by rw[ZB,Xb];exact hw) ?_;refine⟨_,Z,_,Z,_,Z,lw,_,Z,.inl (aJ.of ez),t₁,l,zs.length,Z,W8.tb,ω,ω,λr9 x9 a9 b9 tb9=>?_⟩;have W9:=W8.tape tb9;generalize upd H8 t₁ _=H9 at W9 ⊢;obtain⟨zs9,ez9,al9⟩:=W9.hw;have lz9:=al9.len;obtain⟨n,rfl⟩:=R3 a9;obtain⟨xw,hxw⟩:∃xw,zs9[n]?=some xw:=⟨_,QH ω⟩;obtain⟨w,hwd,pw,xa,rfl,hSw,rw9⟩:=al9.at hxw;have gw:=W9.gd w (QL hwd);refine⟨lw,_,_,_,Z,Z,aJ.of ez9,aG hxw,_,Z,pw,_,Z,hSw,(by show ¬(HT.sIx 3 0 none=0/\HT.sIx 3 3 (some 2)=3);decide),λq hq=>?_⟩;have W10:=W9.same (ae hq (.tup [.int (w.1:Nat),.int (w.2.1:Nat)]));exact⟨q,_,Z,cE.of aa,Z,_,_,Z,_,_,Z,Z,w.1,w.2.1,Z,W10,ω,by have:=gw.1;lia,by have:=gw.2.1;lia⟩
  rintro σ H8 ⟨f,g,rfl,W8,f0,fg,g24⟩;refine⟨_,Z,t₁,l,12,Z,W8.tb,ω,ω,λr9 x9 a9 b9 tb9=>?_⟩;have W9:=W8.tape tb9;generalize upd H8 t₁ _=H9 at W9 ⊢;refine⟨_,_,Z,Z,Qt,λpg hpg=>?_⟩;have e10:upd H9 pg (.lst [.int 1,.int 1,.int 2,.int 3,.int 4,.int 7]) pg=some (.lst [.int 1,.int 1,.int 2,.int 3,.int 4,.int 7]):=aa;have ng:pg≠t₁:=λz=>by obtain⟨ys,e⟩:=W9.tb.lst;rw[←z,hpg] at e;cases e
  have W10:=W9.same (ae hpg (.lst [.int 1,.int 1,.int 2,.int 3,.int 4,.int 7]));generalize upd H9 pg _=H10 at e10 W10 ⊢;refine⟨_,Z,t₁,l,6,Z,W10.tb,ω,ω,λr4 x4' a4 b4 tb11=>?_⟩;have e11:upd H10 t₁ (.lst x4') pg=some (.lst [.int 1,.int 1,.int 2,.int 3,.int 4,.int 7]):=by rw[ai ng];exact e10
  have W11:=W10.tape tb11;generalize upd H10 t₁ _=H11 at e11 W11 ⊢;obtain⟨q,hg,q0,q7,q84⟩:∃q:Int,uc [V.int 1,.int 1,.int 2,.int 3,.int 4,.int 7] r4=some (.int q)/\1≤q/\q≤7/\q∣84:=by
   rcases(show r4=0∨r4=1∨r4=2∨r4=3∨r4=4∨r4=5 by lia) with rfl|rfl|rfl|rfl|rfl|rfl
   ·exact⟨1,Z,δ,δ,δ⟩
   ·exact⟨1,Z,δ,δ,δ⟩
   ·exact⟨2,Z,δ,δ,δ⟩
   ·exact⟨3,Z,δ,δ,δ⟩
   ·exact⟨4,Z,δ,δ,δ⟩
   ·exact⟨7,Z,δ,δ,δ⟩
  refine⟨pg,_,_,_,Z,Z,aJ.of e11,hg,eI,λpm hpm=>?_⟩;have W12:=W11.same (ae hpm (.tup [.int (1+r9),.int q]));have p12:PP K (upd H11 pm (.tup [.int (1+r9),.int q])) (.ref pm) (1+r9) q:=⟨pm,Z,cE.of aa⟩;generalize upd H11 pm _=H12 at W12 p12 ⊢;refine⟨λσ H'=>∃(u:V) (x y:Int),σ=[some (.ref t₁),some (.int mo),some (.int tu),some (.ref lw),some (.int (0+(i:Nat))),some (.int rw_),some (.int f),some (.int g),some u]/\Wl K H t₁ l lw H' ws/\PP K H' u x y/\1≤x/\1≤y/\y∣84/\x≤12*y,?_,?_⟩
  ·refine⟨_,Z,Z,_,Z,?_⟩;by_cases c:rw_=2
   rotate_left
   ·refine bJ (λz=>by injection z with z;exact c z) (dC ?_);exact⟨_,_,_,rfl,W12,p12,ω,q0,q84,ω⟩
   refine bP (by rw[c]) ?_;refine⟨_,Z,(by show 0≤sizeLine;exact Rq _),λpe hpe=>?_⟩;have z8:=ae hpe (.lst []);have W13:=W12.same z8;have e8:upd H12 pe (.lst []) pe=some (.lst []):=aa;have p13:PP K (upd H12 pe (.lst [])) (.ref pm) (1+r9) q:=by
    obtain⟨p',e',s'⟩:=p12;exact⟨p',e',ay.same (K:=K) z8 _ _ s'⟩
   generalize upd H12 pe _=H13 at W13 e8 p13 ⊢;obtain⟨zs,ez,alz⟩:=W13.hw;refine⟨.list (ws.map Ih),.list [],.lst (aJ.of ez) (alz.deep λ_ _ q=>q.deep),.lst (aJ.of e8) .nil,EF ws,Z,Fj ws,_,Z,?_⟩;have ev:Sk (.list (ws.map Ih)) (.list [])=ws.isEmpty:=by cases ws<;>rfl
   rw[ev];by_cases hw:ws=[]
   ·refine Ju (b:=!ws.isEmpty) (by rw[hw];rfl) ?_;exact⟨_,_,_,Z,W13,p13,ω,q0,q84,ω⟩
   ·have wl1:0<ws.length:=UE.mpr hw;have lz:=alz.len;refine Jt (b:=!ws.isEmpty) (by rw[ZB,Xb];exact hw) ?_;refine⟨_,Z,_,Z,_,Z,lw,_,Z,.inl (aJ.of ez),t₁,l,zs.length,Z,W13.tb,ω,ω,λrE xE aE bE tbE=>?_⟩;have WE:=W13.tape tbE;generalize upd H13 t₁ _=HE at WE ⊢;obtain⟨zsE,ezE,alE⟩:=WE.hw;have lzE:=alE.len;obtain⟨n,rfl⟩:=R3 aE;obtain⟨xw,hxw⟩:∃xw,zsE[n]?=some xw:=⟨_,QH ω⟩;obtain⟨w,hwd,pw,xa,rfl,hSw,rwE⟩:=alE.at hxw;have gw:=WE.gd w (QL hwd);refine⟨lw,_,_,_,Z,Z,aJ.of ezE,aG hxw,pw,_,_,_,Z,Z,hSw,Z,?_⟩;have b1:=gw.2.2.1.pos;have b2:=gw.2.2.1.le;have b3:=gw.2.2.2;exact⟨xa,_,_,Z,WE,rwE,ω,ω,gw.2.2.1.dvd,ω⟩
  rintro σ HE ⟨u,x,y,rfl,WE,⟨pu,rfl,hSu⟩,x1,y1,y84,xy⟩;refine⟨_,Z,.inl ⟨Z,_,aJ.of WE.hw.choose_spec.1⟩,_,Z,_,Z,_,Z,pu,_,_,_,Z,Z,hSu,Z,_,Z,pu,_,_,_,Z,Z,hSu,Z,x,y,Z,ω,(by have:=Sh δ y84;exact RH (show y.natAbs≤84 by lia) δ),λpn hpn=>?_⟩;have am:Bq 84 12 (cJ x y):=pU ω y84 ω;have ap:=EC (a:=x) (b:=y) x1 y1;generalize cJ x y=ra at am ap ⊢;have WF:=WE.same (ae hpn (.tup [.int ra.1,.int ra.2]));have rF:RV K (upd HE pn (.tup [.int ra.1,.int ra.2])) (.ref pn) ra:=RV.of aa;generalize upd HE pn _=HF at WF rF ⊢;refine⟨Qb,λpo hpo=>?_⟩;have zG:=ae hpo (.tup [.int f,.int g,.ref pn]);have WG:=WF.same zG;have rG:=rF.mono (ay.same zG);have qG:upd HF po (.tup [.int f,.int g,.ref pn]) po=some (.tup [.int f,.int g,.ref pn]):=aa;generalize upd HF po _=HG at WG rG qG ⊢;obtain⟨zs,ez,alz⟩:=WG.hw;have lz:=alz.len;refine⟨lw,_,_,Z,Z,ez,aN ω,?_⟩;obtain⟨f',rfl⟩:=R3 f0;obtain⟨g',rfl⟩:=R3 (show 0≤g by lia);exact⟨_,_,_,_,_,ws++[(f',g',ra)],Z,WG.push ez alz ⟨po,.ref pn,Z,cE.of qG,rG⟩ ⟨by show f'≤g';lia,by show g'<10;lia,am,ap⟩,by rw[Q8,wl];rfl⟩
 ·rintro σ H3 ⟨x4,x5,x6,x7,x8,ws,rfl,W3,wl⟩;obtain⟨zs,e,al⟩:=W3.hw;refine⟨_,Z,lw,zs,Z,.inl ⟨aJ.of e,λpt hpt=>?_⟩⟩;have z:=ae hpt (.tup zs);exact k _ ws _ (W3.st.trans (jH.of z)) (W3.tb.same z) ⟨pt,zs,Z,cE.of aa,al.mono λ_ _ q=>q.mono (ay.same z)⟩ ω W3.gd
theorem LH(T:dA K mg t):gFx P w base T.Q29 3 (jD K):=by
 refine T.Q29.F.ok BX ψ χ;obtain⟨v,r,k₁,rfl,hv,wr,h0,h6,k⟩:=h;refine cR.ok (have:=BX.nd;have:=cS T.Q35 (oX T);ζb) ?_;nofun
 have kb:=IJ h0 (by lia:k₁≤100);refine⟨eI,λp0 hp0=>?_⟩;have s0:=ae hp0 (.tup [.int 1,.int 1]);refine⟨_,Z,k₁,Z,kb.1,kb.2,cD (lo:=0) (n:=k₁.toNat) (λi σ H'=>∃(u:V) (x:Option V),σ=[some v,some (.int k₁),some u,x]/\ax H H'/\RV K H' u (dN r i)/\Wf (1+98*i) (dN r i)) ⟨_,none,Z,s0,RV.of aa,sV wr 0⟩ ?_ ?_⟩
 ·rintro i σ H1 hi ⟨u,x,rfl,s1,ru,wu⟩;refine⟨_,Z,_,Z,u,v,dN r i,r,1+98*i,98,Z,ru,hv.mono (ay.same s1),wu,wr,ω,λp hp=>?_⟩;exact⟨_,_,Z,s1.trans (ae hp _),RV.of aa,sV wr (i+1)⟩
 ·rintro σ H1 ⟨u,x,rfl,s1,ru,wu⟩;exact⟨_,Z,k u H1 s1 ru⟩
theorem LA(T:dA K mg t):gFx P w base T.Q38 3 (kq K):=by
 refine T.Q38.F.ok BO ψ χ;obtain⟨q,kk,xs,rows,a,b,rfl,hq,al,ok,ha,hb,k⟩:=h;refine cR.ok (have:=BO.nd;have:=cS T.Q58 (Lq T);have:=cS T.Q34 (wj T);ζb) ?_;nofun
 have n12:=ok.n12;have slok:=vA ok (SH kk) ha hb;have po:=Kk ok (SH kk) ha hb;have lx:=al.len;have hla:=(QN.mp ha).1;have hlb:=(QN.mp hb).1;have hx0:xs[kk]?=some (xs[kk]' ω):=QH _;have hy0:xs[kk+1]?=some (xs[kk+1]' ω):=QH _;obtain⟨a',ea,rva⟩:=al.at hx0;obtain⟨b',eb,rvb⟩:=al.at hy0;rw[ha] at ea;rw[hb] at eb
 cases ea
 cases eb
 generalize xs[kk]' ω=x at hx0 rva;generalize xs[kk+1]' ω=y at hy0 rvb;obtain⟨pa,xa,ya,rfl,hSa,hxa,hya⟩:=rva;obtain⟨pb,xb,yb,rfl,hSb,hxb,hyb⟩:=rvb;have gy:=aG hy0;have gx:=aG hx0;refine⟨_,Z,_,Z,_,_,Z,Z,q,_,_,_,Z,Z,hq,gy,pb,_,_,_,Z,Z,hSb,Z,_,Z,_,Z,q,_,_,_,Z,Z,hq,gx,pa,_,_,_,Z,Z,hSa,Z,yb,ya,b.2,a.2,197,197,Z,hyb,hya,slok.b2,slok.a2,δ,λq1 g1=>?_⟩;have e2:=ae g1 (.tup [.int (aA b.2 a.2).1,.int (aA b.2 a.2).2]);have t2:=ay.same (K:=K) e2;refine⟨_,Z,_,Z,_,_,Z,Z,q,_,_,_,Z,Z,t2 _ _ hq,gy,pb,_,_,_,Z,Z,t2 _ _ hSb,Z,_,Z,_,Z,q,_,_,_,Z,Z,t2 _ _ hq,gx,pa,_,_,_,Z,Z,t2 _ _ hSa,Z,xb,xa,b.1,a.1,98,98,Z,hxb.mono t2,hxa.mono t2,slok.b1,slok.a1,δ,λq2 g2=>?_⟩;have e3:=ae g2 (.tup [.int (aA b.1 a.1).1,.int (aA b.1 a.1).2]);refine⟨.ref q1,.ref q2,aA b.2 a.2,aA b.1 a.1,198,99,Z,(cV (K:=K) e2).mono (ay.same e3),cV (K:=K) e3,slok.w2,slok.w1,δ,po,λq3 g3=>?_⟩;have e4:=ae g3 (.tup [.int (d6 (aA b.2 a.2) (aA b.1 a.1)).1,.int (d6 (aA b.2 a.2) (aA b.1 a.1)).2]);exact k _ _ ((e2.trans e3).trans e4) (cV (K:=K) e4)
theorem Ei(T:dA K mg t):gFx P w base T.Q39 4 (ku K):=by
 refine T.Q39.F.ok BN ψ χ;obtain⟨v,w,rl,s,rfl,hv,ok,hw,hs,k⟩:=h;refine cR.ok (have:=BN.nd;have:=cS T.Q26 (oY T);have:=cS T.Q34 (wj T);have:=cS T.Q48 (oW T);have:=cS T.Q29 (LH T);have:=cS T.Q38 (LA T);have:=cS T.Q35 (oX T);ζb) ?_;nofun
 cases rl with
 |pow kk=>
  obtain⟨p,rfl,hS⟩:=hv;have ok':2≤kk/\kk≤4:=ok;refine⟨_,Z,p,_,_,_,Z,Z,hS,Z,Z,_,Z,bP Z ?_⟩;refine⟨_,Z,_,Z,p,_,_,_,Z,Z,hS,Z,w,s,kk,Z,hw,hs.wf,ω,ω,λu H1 s1 r1=>?_⟩;refine k _ _ s1 ?_;rw[pP ok (show bA (.pow kk) s from trivial)];exact r1
 |tab rows=>
  have ok':bg rows:=ok;obtain⟨p,q,xs,rfl,hS,hq,al⟩:=hv;have n2:=ok'.n2;have n12:=ok'.n12;have hlen:xs.length=rows.length:=al.len;refine⟨_,Z,p,_,_,_,Z,Z,hS,Z,Z,_,Z,bJ δ ?_⟩;refine⟨_,Z,p,_,_,_,Z,Z,hS,Z,_,Z,q,xs,Z,.inr hq,_,_,Z,Z,(xs.length:Int)-1,Z,ω,ω,cD (lo:=0) (n:=((xs.length:Int)-1).toNat) (λi σ H'=>∃(x3:Option V),σ=[some (.ref p),some w,some (.ref q),x3]/\H'=H/\(i=0∨i<cO rows s)) ⟨none,Z,Z,.inl Z⟩ ?_ ?_⟩
  ·rintro i σ H1 hi ⟨x3,rfl,rfl,hip⟩;have hx0:xs[i]?=some (xs[i]' ω):=QH _;have hy0:xs[i+1]?=some (xs[i+1]' ω):=QH _;obtain⟨a,ha,rva⟩:=al.at hx0;obtain⟨b,hb',rvb⟩:=al.at hy0;generalize xs[i]' ω=x at hx0 rva;generalize xs[i+1]' ω=y at hy0 rvb;obtain⟨pa,xa,ya,rfl,hSa,hxa,hya⟩:=rva;obtain⟨pb,xb,yb,rfl,hSb,hxb,hyb⟩:=rvb;have slok:=vA ok' (SH i) ha hb';have wsl:=(ok'.slope (SH i) ha hb').2.2.2;obtain⟨wm,wt,wl⟩:=yH slok wsl hs.wf;have gy:=aG hy0;have gx:=aG hx0;rw[S8];refine⟨_,Z,_,Z,_,_,Z,Z,q,_,_,_,Z,Z,hq,gy,pb,_,_,_,Z,Z,hSb,Z,_,Z,xb,w,b.1,s,98,98,Z,hxb,hw,slok.b1,hs.wf,δ,_,Z,?_⟩;rw[jc hs.bq.pos ok'.inc ok'.allP hb'];by_cases c:i+1<cO rows s
   ·refine uT c ?_;exact⟨_,Z,Z,.inr c⟩
   refine uU c ?_;have hbl:bA (.tab rows) s:=Fw ok' hs.bq.pos ω;have due:Aq (.tab rows) s=some (qQ a b s):=by
    rw[pP ok hbl];show some (vT rows s)=_;unfold vT;by_cases c0:cO rows s=0
    ·rw[if_pos c0];have i0:i=0:=ω
     subst i0;rw[bS ha];have es:=xC ok' hs c0;obtain⟨y0,ey⟩:=ok'.zero;rw[ey] at ha
     cases ha
     have ma:=QL ey;unfold qQ;rw[es];have so:de (bu ((0,1),y0) b):=⟨wsl.pos,wsl.cop⟩;rw[Ac (ok'.pw _ ma).red so (ok'.sp _ ma).red]
    ·rw[if_neg c0];have ei:cO rows s=i+1:=ω
     rw[ei,Xa,bS ha,bS hb']
   refine⟨_,Z,_,Z,q,_,_,_,Z,Z,hq,gx,pa,_,_,_,Z,Z,hSa,Z,_,Z,_,Z,q,i,xs,rows,a,b,Z,hq,al,ok',ha,hb',λv2 H2 s2 r2=>?_⟩;have t2:=ay.same (K:=K) s2;refine⟨_,Z,_,Z,_,Z,q,_,_,_,Z,Z,t2 _ _ hq,gx,pa,_,_,_,Z,Z,t2 _ _ hSa,Z,w,xa,s,a.1,98,98,Z,hw.mono t2,hxa.mono t2,hs.wf,slok.a1,δ,λq5 g5=>?_⟩;have f5:=ae g5 (.tup [.int (aA s a.1).1,.int (aA s a.1).2]);refine⟨v2,.ref q5,bu a b,aA s a.1,300,197,Z,r2.mono (ay.same f5),cV (K:=K) f5,wsl,wm,δ,λq6 g6=>?_⟩;have f6:=ae g6 (.tup [.int (aC (bu a b) (aA s a.1)).1,.int (aC (bu a b) (aA s a.1)).2]);refine⟨ya,.ref q6,a.2,aC (bu a b) (aA s a.1),197,497,Z,hya.mono (t2.trans (ay.same (f5.trans f6))),cV (K:=K) f6,slok.a2,wt,δ,λq7 g7=>?_⟩;have f7:=ae g7 (.tup [.int (aK a.2 (aC (bu a b) (aA s a.1))).1,.int (aK a.2 (aC (bu a b) (aA s a.1))).2]);refine k _ _ (s2.trans ((f5.trans f6).trans f7)) ?_;rw[due];exact cV (K:=K) f7
  ·rintro σ H1 ⟨x3,rfl,rfl,hip⟩;refine k _ _ (ax.refl _) ?_;have nb:¬bA (.tab rows) s:=λz=>by
    have:=ok'.p_lt hs.bq.pos z;lia
   rw[Ic ok nb];rfl
theorem Lw(T:dA K mg t):gFx P w base T.Q50 3 (mO K):=by
 refine T.Q50.F.ok sK ψ χ;obtain⟨t₁,l,la,xa,rfl,tb,nla,hla,ala,k⟩:=h;refine cR.ok (have:=sK.nd;have:=cS T.Q26 (oY T);have:=cS T.Q47 (io T);have:=cS T.Q48 (oW T);have:=cS T.Q46 (tj T);(ac ζb (ac ζb (ac (kJ 3 sK.nd (kM sy ζb nL (nK ζb))) (ac (dh PassesOwn.never Z (da (qv 1)) (bb (i:=4) sK.nd Z θ) (aw (cy (uz (jQ ζb (jQ (aV (zY hr) (qv 4) (qv 3) (by with_unfolding_all rfl)) (jQ (aV (gK hr) (qv 4) ζb (aX _)) (kH ζb))))) ζb be))) (ac ζb (ac (sO (im (aj ζb (aj (qg (io T) hr T.Q47 (aj (Kq fZ (Kq fZ ζd bf) bf) (aj bf aH gR) dW)) aH aM) iL)) (Ds (qv 5) bf fW)) (ac ζb (ac (dF PassesOwn.never (aV (gK hr) (qv 3) ζb (aX _)) (ac ζd (ac ζb (ac (dZ (mT Sr Xu Xv (yC hr) (qv 3) ζb)) (ac ζb (aw (dZ (mT Sr SY SZ eV (qv 5) (aj (im (aj (qv 7) (aj (qg (oW T) hr T.Q48 (aj (Kq fZ ζd bf) (aj (qg (oX T) hr T.Q35 (aj (qv 6) (aj (qg (wj T) hr T.Q34 (aj (qv 7) (aj (Kq fZ ζd bf) aH dW) aB)) aH aM) aB)) aH aM) dW)) aH aM) aB)) aH iL))))))))) (aw (bC (im (aj Dt (aj (cC bV (by rfl) T.z_tuple boot_tuple ζb) aH aM) gR))))))))))))) ?_
 nofun
 refine⟨_,Z,t₁,l,6,Z,tb,δ,δ,λrw_ x1 a1 b1 tb1=>?_⟩;have st1:jH [t₁] H (upd H t₁ (.lst x1)):=jH.tp _;have hla1:upd H t₁ (.lst x1) la=some (.lst xa):=by rw[ai nla];exact hla
 have ala1:bR (RV K (upd H t₁ (.lst x1))) xa [(1,1),(3,1),(3,2)]:=ala.mono λ_ _ z=>z.mono (let ⟨_,e⟩:=tb.lst;ay.up e x1)
 generalize upd H t₁ _=H1 at tb1 st1 hla1 ala1 ⊢;refine⟨_,Z,_,_,Z,Z,_,Z,HR (λcw=>?_) (λcw=>?_)⟩
 ·refine⟨_,Z,_,_,Z,Z,eI,λp0 hp0=>?_⟩;have s0:=ae hp0 (.tup [.str (UW "power"),.int (2+rw_)]);have c3:=of_decide_eq_true cw;exact k (.ref p0) (.pow (2+rw_)) _ (st1.trans (jH.of s0)) (tb1.same s0) ⟨p0,Z,cE.of aa⟩ ⟨ω,ω⟩ trivial trivial
 refine⟨eI,λp1 g1=>?_⟩;have e1:=ae g1 (.tup [.int 1,.int 2]);have r1:RV K (upd H1 p1 (.tup [.int 1,.int 2])) (.ref p1) (1,2):=RV.of aa
 replace tb1:=tb1.same e1
 replace st1:=st1.trans (jH.of e1)
 replace hla1:=e1 _ _ hla1
 replace ala1:=ala1.mono λ_ _ z=>z.mono (ay.same e1)
 generalize upd H1 p1 _=H2 at tb1 st1 hla1 ala1 r1 ⊢;clear e1 g1;refine⟨eI,λp2 g2=>?_⟩;have e2:=ae g2 (.tup [.int 2,.int 1]);have r2:RV K (upd H2 p2 (.tup [.int 2,.int 1])) (.ref p2) (2,1):=RV.of aa
 replace tb1:=tb1.same e2
 replace st1:=st1.trans (jH.of e2)
 replace hla1:=e2 _ _ hla1
 replace ala1:=ala1.mono λ_ _ z=>z.mono (ay.same e2)
 replace r1:=r1.mono (ay.same e2)
 generalize upd H2 p2 _=H3 at tb1 st1 hla1 ala1 r1 r2 ⊢;clear e2 g2;refine⟨eI,λp3 g3=>?_⟩;have e3:=ae g3 (.tup [.int 5,.int 1]);have r3:RV K (upd H3 p3 (.tup [.int 5,.int 1])) (.ref p3) (5,1):=RV.of aa
 replace tb1:=tb1.same e3
 replace st1:=st1.trans (jH.of e3)
 replace hla1:=e3 _ _ hla1
 replace ala1:=ala1.mono λ_ _ z=>z.mono (ay.same e3)
 replace r1:=r1.mono (ay.same e3)
 replace r2:=r2.mono (ay.same e3)
 generalize upd H3 p3 _=H4 at tb1 st1 hla1 ala1 r1 r2 r3 ⊢;clear e3 g3;refine⟨eI,λp4 g4=>?_⟩;have e4:=ae g4 (.tup [.int 40,.int 1]);have r4:RV K (upd H4 p4 (.tup [.int 40,.int 1])) (.ref p4) (40,1):=RV.of aa
 replace tb1:=tb1.same e4
 replace st1:=st1.trans (jH.of e4)
 replace hla1:=e4 _ _ hla1
 replace ala1:=ala1.mono λ_ _ z=>z.mono (ay.same e4)
 replace r1:=r1.mono (ay.same e4)
 replace r2:=r2.mono (ay.same e4)
 replace r3:=r3.mono (ay.same e4)
 generalize upd H4 p4 _=H5 at tb1 st1 hla1 ala1 r1 r2 r3 r4 ⊢;clear e4 g4;refine⟨Qv,λp5 g5=>?_⟩;obtain⟨e5,h5⟩:=jT g5 (.lst [.ref p1,.ref p2,.ref p3,.ref p4]);have n5:p5≠t₁:=λz=>by obtain⟨ys,e⟩:=tb1.lst;rw[←z,g5] at e;cases e
 have al5:bR (RV K H5) ([V.ref p1,.ref p2,.ref p3,.ref p4]:List V) [(1,2),(2,1),(5,1),(40,1)]:=.cons r1 (.cons r2 (.cons r3 (.cons r4 .nil)))
 replace al5:=al5.mono λ_ _ z=>z.mono (ay.same e5)
 replace tb1:=tb1.same e5
 replace st1:=st1.trans (jH.of e5)
 replace hla1:=e5 _ _ hla1
 replace ala1:=ala1.mono λ_ _ z=>z.mono (ay.same e5)
 clear r1 r2 r3 r4;generalize ([V.ref p1,.ref p2,.ref p3,.ref p4]:List V)=xs5 at h5 al5 tb1 st1 hla1 ala1 e5 ⊢;generalize upd H5 p5 _=H6 at tb1 st1 hla1 ala1 h5 al5 ⊢;clear e5 g5;refine⟨_,Z,t₁,l,4,Z,tb1,δ,δ,λr8 x8 a8 b8 tb8=>?_⟩;have t8:ay K H6 (upd H6 t₁ (.lst x8)):=by
  obtain⟨ys,e⟩:=tb1.lst;exact ay.up e x8
 replace st1:=st1.trans (jH.tp (t:=t₁) (.lst x8))
 replace h5:upd H6 t₁ (.lst x8) p5=some (.lst xs5):=by rw[ai n5];exact h5
 replace hla1:upd H6 t₁ (.lst x8) la=some (.lst xa):=by rw[ai nla];exact hla1
 replace al5:=al5.mono λ_ _ z=>z.mono t8
 replace ala1:=ala1.mono λ_ _ z=>z.mono t8
 clear t8 tb1;generalize upd H6 t₁ _=H7 at tb8 st1 hla1 ala1 h5 al5 ⊢;obtain⟨n8,rfl⟩:=R3 a8;refine⟨_,_,Z,Z,?_⟩;dsimp only;rw[show(1:Int)+((n8:Nat):Int)=((1+n8:Nat):Int) by lia];refine⟨_,Z,p5,_,Z,aJ.of h5,λp9 g9=>?_⟩;rw[Ii];have e9:=ae g9 (.lst (xs5.take (1+n8)));have W:vh K H (upd H7 p9 (.lst (xs5.take (1+n8)))) t₁ l p9 (xs5.take (1+n8)) (([(1,2),(2,1),(5,1),(40,1)]:List R).take (1+n8)):=by
  have n9:p9≠t₁:=λz=>by obtain⟨ys,e⟩:=tb8.lst;rw[←z,g9] at e;cases e
  have m9:p9≠l:=λz=>by obtain⟨ys,e⟩:=tb8.lst';rw[←z,g9] at e;cases e
  exact⟨st1.trans (jH.of e9),tb8.same e9,xY st1 g9 n9,n9,m9,aa,(al5.mono λ_ _ z=>z.mono (ay.same e9)).take _⟩
 have hlaA:=e9 _ _ hla1;have n9a:la≠p9:=λz=>by rw[z,g9] at hla1;cases hla1
 replace ala1:=ala1.mono λ_ _ z=>z.mono (ay.same e9)
 have P0:(([(1,2),(2,1),(5,1),(40,1)]:List R).take (1+n8)).Nodup/\(∀s∈(([(1,2),(2,1),(5,1),(40,1)]:List R).take (1+n8)),s∈MN)/\0<(([(1,2),(2,1),(5,1),(40,1)]:List R).take (1+n8)).length/\(([(1,2),(2,1),(5,1),(40,1)]:List R).take (1+n8)).length≤4:=by
  refine⟨W0 (Zh _ _) δ,λs hs=>?_,?_,?_⟩
  ·have hm:=Sx hs;exact(show ∀s∈([(1,2),(2,1),(5,1),(40,1)]:List R),s∈MN by decide) s hm
  ·rw[RD];show 0<min _ 4;lia
  ·rw[RD];exact ZH _ 4
 generalize ([(1,2),(2,1),(5,1),(40,1)]:List R).take (1+n8)=ss0 at W P0;generalize xs5.take (1+n8)=xs0 at W hlaA ala1 e9 ⊢;generalize upd H7 p9 _=H8 at W hlaA ala1 e9 ⊢;clear e9 h5 al5 hla1 st1 tb8 g9 n5;have la3:=ala1.len;refine⟨_,Z,la,Z,⟨_,aJ.of hlaA⟩,c6 (K:=K) (a:=la) (xs:=xa) (λi σ H'=>∃(x4:Option V) (xs:List V) (ss:List R),σ=[some (.ref t₁),some (.ref la),some (.int rw_),some (.ref p9),x4,none,none,none]/\vh K H H' t₁ l p9 xs ss/\H' la=some (.lst xa)/\ay K H8 H'/\ss.Nodup/\(∀s∈ss,s∈MN)/\0<ss.length/\ss.length≤4+i) ⟨none,xs0,ss0,Z,W,hlaA,ay.refl _ _,P0⟩ (λi σ H1 _ ⟨_,_,_,_,_,ha,_⟩=>aJ.of ha) ?_ ?_⟩
 ·rintro i y σ HA hi ⟨x4,xs,ss,rfl,W,ha,tA,nd,mn,l0,l4⟩;obtain⟨d,hd,rd⟩:=ala1.at hi;have i3:=(QN.mp hd).1;have i3':i<3:=i3;have md:d∈MN:=(show ∀s∈([(1,1),(3,1),(3,2)]:List R),s∈MN by decide) d (QL hd);refine⟨_,Z,t₁,l,2,Z,W.tb,δ,δ,λr2 x2 a2 b2 tb2=>?_⟩;have W2:=W.tape tb2;have t2:=W.tst x2;have ha2:upd HA t₁ (.lst x2) la=some (.lst xa):=by rw[ai nla];exact ha
  have tA2:=tA.trans t2;clear W t2 ha tA tb2;generalize upd HA t₁ _=HB at W2 ha2 tA2 ⊢;refine⟨Z,_,Z,?_⟩;have lxs:=W2.al.len;by_cases c:r2=0
  rotate_left
  ·refine bJ (λz=>by injection z with z;exact c z) (dC ?_);exact⟨_,xs,ss,rfl,W2,ha2,tA2,nd,mn,l0,ω⟩
  refine bP (by rw[c]) ?_;have rd2:=rd.mono tA2;refine⟨_,Z,_,Z,p9,xs,ss.map dR,dR d,Z,aJ.of W2.hs,W2.al.deep λ_ _ q=>q.deep,tG ss,rd2.deep,i8 d,hV d,_,Z,?_⟩;rw[ML];by_cases cm:d∈ss
  ·rw[decide_eq_true cm];refine dC (dC ?_);exact⟨_,xs,ss,Z,W2,ha2,tA2,nd,mn,l0,ω⟩
  rw[decide_eq_false cm];refine fC ?_;refine⟨_,Z,eI,λpe hpe=>?_⟩;have se:=ae hpe (.tup [.int 0,.int 1]);have re:RV K (upd HB pe (.tup [.int 0,.int 1])) (.ref pe) (0,1):=RV.of aa;have W3:=W2.same se;have ha3:=se _ _ ha2;have tA3:=tA2.trans (ay.same se);have rd3:=rd2.mono (ay.same se);generalize upd HB pe _=HC at re W3 ha3 tA3 rd3 ⊢;refine⟨dR d,dR (0,1),rd3.deep,re.deep,i8 d,Z,i9 d,_,Z,?_⟩;rw[show(!PyData.eqv (dR d) (dR (0,1)))=true from by rw[gC,decide_eq_false (qP md).2.2];rfl];refine fC ?_;refine⟨_,Z,p9,_,Z,.inl (aJ.of W3.hs),_,_,Z,Z,_,Z,?_⟩;refine bP ω ?_;refine⟨_,Z,.inl ⟨Z,_,aJ.of W3.hs⟩,_,Z,p9,xs,_,Z,Z,W3.hs,aN ω,?_⟩;have t4:=ay.up (K:=K) W3.hs (xs++[y]);refine⟨_,_,ss++[d],Z,W3.put (W3.al.snoc rd3),by rw[ai n9a];exact ha3,tA3.trans t4,?_,?_,?_,?_⟩
  ·rw[TH];exact⟨nd,RJ.mpr ⟨(λz=>by cases z),SG⟩,λa ha b hb=>by rw[Q2.mp hb];exact λz=>cm (by rw[←z];exact ha)⟩
  ·intro s hs;rcases Rc.mp hs with z|z
   ·exact mn s z
   ·rw[Q2.mp z];exact md
  ·rw[Q8];lia
  ·rw[Q8,Sd];lia
 ·rintro σ HA ⟨x4,xs,ss,rfl,W,ha,tA,nd,mn,l0,l4⟩;rw[la3] at l4
  replace l4:ss.length≤7:=l4
  clear ha tA ala1 hlaA;clear nla hla ala tb;refine⟨eI,λq1 h1=>?_⟩;have e1:=ae h1 (.tup [.int 0,.int 1]);have z1:RV K (upd HA q1 (.tup [.int 0,.int 1])) (.ref q1) (0,1):=RV.of aa;have W1:=W.same e1;generalize upd HA q1 _=G1 at z1 W1 ⊢;clear e1 h1 W;refine⟨_,Z,t₁,l,3,Z,W1.tb,δ,δ,λr2 x2 a2 b2 tb2=>?_⟩;have W2:=W1.tape tb2
  replace z1:=z1.mono (W1.tst x2)
  clear tb2 W1;generalize upd G1 t₁ _=G2 at W2 z1 ⊢;refine⟨eI,λq2 h2=>?_⟩;have e2:=ae h2 (.tup [.int r2,.int 2]);have z2:cE K (upd G2 q2 (.tup [.int r2,.int 2])) q2 [.int r2,.int 2]:=cE.of aa;have W3:=W2.same e2
  replace z1:=z1.mono (ay.same e2)
  generalize upd G2 q2 _=G3 at z1 z2 W3 ⊢;clear e2 h2 W2;refine⟨eI,λq3 h3=>?_⟩;have e3:=ae h3 (.tup [.ref q1,.ref q2]);have z3:cE K (upd G3 q3 (.tup [.ref q1,.ref q2])) q3 [.ref q1,.ref q2]:=cE.of aa;have W4:=W3.same e3
  replace z1:=z1.mono (ay.same e3)
  replace z2:=ay.same (K:=K) e3 _ _ z2
  generalize upd G3 q3 _=G4 at z1 z2 z3 W4 ⊢;clear e3 h3 W3;refine⟨FQ,λlr hlr=>?_⟩;obtain⟨e4,z4⟩:=jT hlr (.lst [.ref q3]);have n4:lr≠t₁:=λz=>by obtain⟨ys,e⟩:=W4.tb.lst;rw[←z,hlr] at e;cases e
  have m4:lr≠l:=λz=>by obtain⟨ys,e⟩:=W4.tb.lst';rw[←z,hlr] at e;cases e
  have o4:lr≠p9:=λz=>by have:=W4.hs;rw[←z,hlr] at this;cases this
  have f4:=xY W4.st hlr n4;have W5:=W4.same e4
  replace z1:=z1.mono (ay.same e4)
  replace z2:=ay.same (K:=K) e4 _ _ z2
  replace z3:=ay.same (K:=K) e4 _ _ z3
  generalize upd G4 lr _=G5 at z1 z2 z3 z4 W5 ⊢;clear e4 hlr W4;refine⟨eI,λq5 h5=>?_⟩;have e5:=ae h5 (.tup [.int 0,.int 1]);have z5:RV K (upd G5 q5 (.tup [.int 0,.int 1])) (.ref q5) (0,1):=RV.of aa;have W6:=W5.same e5
  replace z2:=ay.same (K:=K) e5 _ _ z2
  replace z3:=ay.same (K:=K) e5 _ _ z3
  replace z4:=e5 _ _ z4
  generalize upd G5 q5 _=G6 at z2 z3 z4 z5 W6 ⊢;clear e5 h5 W5 z1;refine⟨_,Z,lr,_,_,_,Z,Z,aJ.of z4,Z,q3,_,_,_,Z,Z,z3,Z,q2,_,_,_,Z,Z,z2,Z,r2,2,Z,δ,δ,λq6 h6=>?_⟩;have e6:=ae h6 (.tup [.int (cJ r2 2).1,.int (cJ r2 2).2]);have z6:=cV (K:=K) e6;have by0:Bq 4 1 (cJ r2 2):=pU δ δ ω;have W7:=W6.same e6
  replace z4:=e6 _ _ z4
  replace z5:=z5.mono (ay.same e6)
  generalize upd G6 q6 _=G7 at z4 z5 z6 W7 ⊢;generalize cJ r2 2=y0 at z6 by0;clear e6 h6 W6 z2 z3;refine⟨eI,λq7 h7=>?_⟩;have e7:=ae h7 (.tup [.ref q5,.ref q6]);have z7:lK K (upd G7 q7 (.tup [.ref q5,.ref q6])) (.ref q7) ((0,1),y0):=⟨q7,_,_,Z,cE.of aa,z5.mono (ay.same e7),z6.mono (ay.same e7)⟩;have W8:=W7.same e7
  replace z4:=e7 _ _ z4
  generalize upd G7 q7 _=G8 at z4 z7 W8 ⊢;clear e7 h7 W7 z5 z6;refine⟨_,Z,lr,_,_,0,Z,Z,z4,Z,?_⟩;have V0:xo K H (upd G8 lr (.lst [.ref q7])) t₁ l p9 lr xs [.ref q7] ss [((0,1),y0)]:=W8.mkr f4 n4 m4 o4 z4 (.cons z7 .nil);rw[show([V.ref q3]:List V).set 0 (V.ref q7)=[V.ref q7] from Z];clear z7 W8 f4 n4 m4 o4 z4;generalize upd G8 lr _=G9 at V0 ⊢;refine⟨_,Z,t₁,l,3,Z,V0.u.tb,δ,δ,λr3 x3 a3 b3 tb3=>?_⟩;have V1:=V0.tape tb3;generalize upd G9 t₁ _=G10 at V1 ⊢;clear V0 tb3;refine⟨_,_,Z,Z,_,Z,t₁,l,2,Z,V1.u.tb,δ,δ,λr5 x5 a5 b5 tb5=>?_⟩;have V2:=V1.tape tb5;generalize upd G10 t₁ _=G11 at V2 ⊢;clear V1 tb5;refine⟨_,_,Z,Z,eI,λq9 h9=>?_⟩;dsimp only;have e9:=ae h9 (.tup [.int (1+r3),.int (1+r5)]);have z9:cE K (upd G11 q9 (.tup [.int (1+r3),.int (1+r5)])) q9 [.int (1+r3),.int (1+r5)]:=cE.of aa;have V3:=V2.same e9;generalize upd G11 q9 _=G12 at z9 V3 ⊢;clear e9 h9 V2;obtain⟨a,ha⟩:∃a,a=1+r3:=⟨_,Z⟩;obtain⟨b,hb⟩:∃b,b=1+r5:=⟨_,Z⟩;rw[←ha,←hb] at z9;have bsl:Bq 2 (3+2*0) (cJ a b):=pU ω (by rcases(show b=1∨b=2 by lia) with z|z<;>rw[z]<;>decide) ω;have sl0:0≤val (cJ a b):=by
   refine(ie bsl.pos).mpr (Ry (yD ω ω))
  have P0:=IC.start by0 (val (cJ a b));refine⟨λm σ H'=>∃(kk:Nat) (x4 x7:Option V) (xs zs:List V) (ss:List R) (rows:List (R×R)) (a b:Int) (qs:Addr),σ=[some (.ref t₁),some (.ref la),some (.int rw_),some (.ref p9),x4,some (.ref lr),some (.ref qs),x7]/\xo K H H' t₁ l p9 lr xs zs ss rows/\cE K H' qs [.int a,.int b]/\(0<b/\b≤2/\a.natAbs≤100)/\Bq 2 (3+2*kk) (cJ a b)/\0≤val (cJ a b)/\IC kk rows (val (cJ a b))/\(ss.Nodup/\(∀s∈ss,s∈MN)/\kk+ss.length≤7/\0<kk+ss.length)/\(∀w,rows[kk]?=some w->∀s∈ss,aL w.1 s=true)/\m=ss.length,⟨_,0,_,_,xs,[.ref q7],ss,_,a,b,q9,Z,V3,z9,⟨ω,ω,ω⟩,bsl,sl0,P0,⟨nd,mn,ω,ω⟩,(λw hw s hs=>?_),Z⟩,?_⟩
  ·cases hw
   obtain⟨b1,b2,b3⟩:=qP (mn s hs);refine(bM (show(0:Int)<1 by decide) b1.pos).mpr ?_;rw[show val ((0,1):R)=0 from(bX δ).mpr Z];exact lP b1.pos b2
  clear P0 sl0 bsl z9 V3 ha hb by0 nd mn l0 l4;rintro m σ HA ⟨kk,x4,x7,xs,zs,ss,rows,a,b,qs,rfl,V,zq,⟨b0,b2',a100⟩,bsl,sl0,P,⟨nd,mn,l7,l0⟩,lt,rfl⟩;have lxs:=V.u.al.len;refine⟨_,Z,(by show 0≤sizeLine;exact Rq _),λpe hpe=>?_⟩;obtain⟨se,he⟩:=jT hpe (.lst []);have V1:=V.same se
  replace zq:=ay.same (K:=K) se _ _ zq
  generalize upd HA pe _=HB at he V1 zq ⊢;clear se hpe V;refine⟨.list (ss.map dR),.list [],.lst (aJ.of V1.u.hs) (eY (eh V1.u.al)),.lst (aJ.of he) .nil,wK ss,Z,wU ss,_,Z,?_⟩;by_cases c0:ss=[]
  ·subst c0;refine dC ?_;obtain⟨q1,q2,q3⟩:=P.rule (by have:0<kk+0:=l0;lia);refine⟨_,Z,lr,zs,Z,.inl ⟨aJ.of V1.hr,λpt hpt=>⟨eI,λp0 hp0=>?_⟩⟩⟩;have s1:=ae hpt (.tup zs);have s2:=ae hp0 (.tup [.str (UW "table"),.ref pt]);have V3:=V1.same (s1.trans s2);exact k (.ref p0) (.tab rows) _ V3.u.st V3.u.tb ⟨p0,pt,zs,Z,cE.of aa,ay.same s2 _ _ (cE.of aa),V3.ar⟩ q1 q2 q3
  have s1:0<ss.length:=UE.mpr c0;rw[show(!PyData.eqv (.list (ss.map dR)) (.list []))=true from by cases ss with
   |nil=>exact absurd Z c0
   |cons _ _=>rfl]
  refine fC ?_;clear k;refine⟨_,λ_ _ z=>z,?_⟩;have hx0:xs[0]?=some (xs[0]' ω):=QH _;obtain⟨d0,hd0,rd0⟩:=V1.u.al.at hx0;refine⟨_,Z,p9,_,_,_,Z,Z,aJ.of V1.u.hs,aG hx0,?_⟩;have md0:=QL hd0;generalize xs[0]' ω=v0 at hx0 rd0;refine⟨_,Z,p9,Z,⟨_,aJ.of V1.u.hs⟩,c6 (K:=K) (a:=p9) (xs:=xs) (λi σ H'=>∃(x4:Option V) (u:V) (r:R),σ=[some (.ref t₁),some (.ref la),some (.int rw_),some (.ref p9),x4,some (.ref lr),some (.ref qs),some u]/\H'=HB/\RV K HB u r/\r∈ss/\∀(j:Nat) (s:R),j<i->ss[j]?=some s->val r≤val s) ⟨_,v0,d0,Z,Z,rd0,md0,λj s hj=>absurd hj (TK _)⟩ (λi σ H1 _ ⟨_,_,_,_,e,_⟩=>by rw[e];exact aJ.of V1.u.hs) ?_ ?_⟩
  ·rintro i y σ HC hi ⟨x4,u,r,rfl,rfl,ru,mr,mi⟩;obtain⟨d,hd,rd⟩:=V1.u.al.at hi;have md:=QL hd;have bd:=(qP (mn d md)).1;have br:=(qP (mn r mr)).1;refine⟨_,Z,_,Z,y,u,d,r,98,98,Z,rd,ru,bd.wf δ δ δ,br.wf δ δ δ,δ,_,Z,?_⟩
   cases c:aL d r with
   |true=>
    refine fC ?_;have l:=(bM bd.pos br.pos).mp c;refine⟨_,Z,_,y,d,Z,Z,rd,md,λj s hj hs=>?_⟩;by_cases e:j=i
    ·rw[e,hd] at hs
     cases hs
     exact R1
    ·have:=mi j s ω hs;grind
   |false=>
    refine dC ?_;have l:=(bD bd.pos br.pos).mp c;refine⟨_,u,r,Z,Z,ru,mr,λj s hj hs=>?_⟩;by_cases e:j=i
    ·rw[e,hd] at hs
     cases hs
     exact l
    ·exact mi j s ω hs
  rintro σ HC ⟨x4',u,r,rfl,rfl,ru,mr,mi⟩
  replace mi:∀s∈ss,val r≤val s:=λs hs=>by
   obtain⟨j,hj⟩:=Sb hs;exact mi j s (by rw[lxs];exact(QN.mp hj).1) hj
  clear hx0 hd0 rd0 md0 he c0;obtain⟨j,j1,j2,j3⟩:=vL mr;have br:=(qP (mn r mr)).1;refine⟨_,Z,.inl ⟨Z,_,aJ.of V1.u.hs⟩,_,Z,p9,xs,ss.map dR,u,dR r,dR r,j,Z,Z,V1.u.hs,eY (eh V1.u.al),tG ss,ru.deep,Z,hV r,(by rw[Q4,j1];rfl),hV r,λm f hm hf=>?_,?_⟩
  ·rw[Q4] at hf
   cases e:ss[m]? with
   |none=>rw[e] at hf;cases hf
   |some z=>
    rw[e] at hf
    cases hf
    rw[gC];exact decide_eq_false (j2 m z hm e)
  have V2:=V1.puts (ze V1.u.al j);have t2:=ay.up (K:=K) V1.u.hs (xs.eraseIdx j)
  replace ru:=ru.mono t2
  replace zq:=t2 _ _ zq
  have sub:∀s∈ss.eraseIdx j,s∈ss:=λs hs=>j3.mem_iff.mp (QX _ hs)
  have nr:r∉ss.eraseIdx j/\(ss.eraseIdx j).Nodup:=RJ.mp (j3.nodup_iff.mpr nd);have ll:(ss.eraseIdx j).length+1=ss.length:=by rw[←j3.length_eq];rfl
  have up:∀s∈ss.eraseIdx j,aL r s=true:=λs hs=>by
   have bs:=(qP (mn s (sub s hs))).1;refine(bM br.pos bs.pos).mpr ?_;have l:=mi s (sub s hs);have ne:val r≠val s:=λz=>nr.1 (by rw[c8 br.red bs.red z];exact hs)
   grind
  generalize upd HC p9 _=HC2 at V2 ru zq ⊢;generalize xs.eraseIdx j=xs' at V2;have mn':∀s∈ss.eraseIdx j,s∈MN:=λs hs=>mn s (sub s hs)
  clear V1 t2 j1 j2 j3 mi sub lxs;generalize ss.eraseIdx j=ss' at V2 nr ll up mn';have wa:a.natAbs<2^8990:=RH a100 δ;have wb:b.natAbs<2^8990:=RH (show _≤2 by lia) δ;refine⟨_,Z,qs,_,_,_,Z,Z,zq,Z,_,Z,qs,_,_,_,Z,Z,zq,Z,a,b,Z,b0,wb,λpm hpm=>?_⟩;have em:=ae hpm (.tup [.int (cJ a b).1,.int (cJ a b).2]);have rm:=cV (K:=K) em;have V3:=V2.same em
  replace ru:=ru.mono (ay.same em)
  generalize upd HC2 pm _=HD at V3 ru rm ⊢;clear em hpm V2 zq;refine⟨_,Z,t₁,l,3,Z,V3.u.tb,δ,δ,λr3 x3 a3 b3 tb3=>?_⟩;have V4:=V3.tape tb3;have t4:=V3.u.tst x3
  replace ru:=ru.mono t4
  replace rm:=rm.mono t4
  generalize upd HD t₁ _=HE at V4 ru rm ⊢;clear t4 V3 tb3;refine⟨eI,λpn hpn=>?_⟩;have en:=ae hpn (.tup [.int r3,.int 1]);have rn:RV K (upd HE pn (.tup [.int r3,.int 1])) (.ref pn) (r3,1):=RV.of aa;have V5:=V4.same en
  replace ru:=ru.mono (ay.same en)
  replace rm:=rm.mono (ay.same en)
  generalize upd HE pn _=HF at V5 ru rm rn ⊢;clear en hpn V4;have bn:Bq 1 2 ((r3,1):R):=⟨by show(0:Int)<1;decide,by simp,WH _,by show r3.natAbs≤2*1;lia⟩;refine⟨.ref pm,.ref pn,cJ a b,(r3,1),98,98,Z,rm,rn,(bsl.mono (To _) (show 3+2*kk≤17 by lia)).wf δ δ δ,bn.wf δ δ δ,δ,λpo hpo=>?_⟩;have eo:=ae hpo (.tup [.int (aK (cJ a b) (r3,1)).1,.int (aK (cJ a b) (r3,1)).2]);have zo:cE K (upd HF po (.tup [.int (aK (cJ a b) (r3,1)).1,.int (aK (cJ a b) (r3,1)).2])) po [.int (aK (cJ a b) (r3,1)).1,.int (aK (cJ a b) (r3,1)).2]:=cE.of aa;have ro:=cV (K:=K) eo;have V6:=V5.same eo
  replace ru:=ru.mono (ay.same eo)
  generalize upd HF po _=HG at V6 ru ro zo ⊢;clear eo hpo V5 rm rn;have bo:Bq 2 (3+2*(kk+1)) (aK (cJ a b) (r3,1)):=(bsl.plus δ (bn.mono δ (QY _))).mono (To _) ω;have vo:val (cJ a b)≤val (aK (cJ a b) (r3,1)):=by
   rw[dg bsl.pos bn.pos];have:=(ie (r:=((r3,1):R)) (show(0:Int)<1 by decide)).mpr a3;grind
  generalize aK (cJ a b) (r3,1)=sl at bo vo ro zo ⊢;have P':=P;have b17:Bq 2 17 sl:=bo.mono (To _) ω;have sl0':0≤val sl:=SK sl0 vo;clear bn bsl wa wb;have lz:=V6.ar.len;have plen:=P.len;obtain⟨zs0,vz,ez⟩:=(List.eq_nil_or_concat zs).resolve_left (λe=>by rw[e] at lz;rw[plen] at lz;cases lz);rw[List.concat_eq_append] at ez;subst ez;have l0:zs0.length=kk:=by rw[Q8,Sd,plen] at lz;lia
  have hzk:(zs0++[vz])[kk]?=some vz:=by rw[Tj ω,l0,ZA];rfl
  obtain⟨w,hw,rw'⟩:=V6.ar.at hzk;obtain⟨pw,wx,wy,rfl,hSw,rwx,rwy⟩:=rw';have la':=pW zs0 (V.ref pw);obtain⟨bw1,bw2⟩:=P.ok w (QL hw);have ltr:=lt w hw r mr;have ok1:1+1360*kk≤9521:=ω
  have ww1:Wf 98 w.1:=bw1.wf δ δ δ;have ww2:Wf 98 w.2:=(bw2.mono (To _) ok1).wf δ δ δ;have wr:Wf 98 r:=br.wf δ δ δ;have wsl:Wf 98 sl:=b17.wf δ δ δ;refine⟨_,Z,.inl ⟨Z,_,aJ.of V6.hr⟩,_,Z,_,Z,_,Z,lr,_,_,_,Z,Z,aJ.of V6.hr,la',pw,_,_,_,Z,Z,hSw,Z,_,Z,_,Z,_,Z,_,Z,lr,_,_,_,Z,Z,aJ.of V6.hr,la',pw,_,_,_,Z,Z,hSw,Z,u,wx,r,w.1,98,98,Z,ru,rwx,wr,ww1,δ,λpA hA=>?_⟩;have eA:=ae hA (.tup [.int (aA r w.1).1,.int (aA r w.1).2]);have rA:=cV (K:=K) eA;have wA:Wf 198 (aA r w.1):=(uM wr ww1).mono δ;have V7:=V6.same eA;have tA:=ay.same (K:=K) eA
  replace ru:=ru.mono tA
  replace rwy:=rwy.mono tA
  replace ro:=ro.mono tA
  replace zo:=tA _ _ zo
  generalize upd HG pA _=HI at V7 rA ru rwy ro zo ⊢;clear eA tA hA V6 hSw rwx;refine⟨.ref po,.ref pA,sl,aA r w.1,98,198,Z,ro,rA,wsl,wA,δ,λpB hB=>?_⟩;have eB:=ae hB (.tup [.int (aC sl (aA r w.1)).1,.int (aC sl (aA r w.1)).2]);have rB:=cV (K:=K) eB;have wB:=gP wsl wA;have V8:=V7.same eB;have tB:=ay.same (K:=K) eB
  replace ru:=ru.mono tB
  replace rwy:=rwy.mono tB
  replace zo:=tB _ _ zo
  generalize upd HI pB _=HJ at V8 rB ru rwy zo ⊢;clear eB tB hB V7 rA ro;refine⟨wy,.ref pB,w.2,aC sl (aA r w.1),98,296,Z,rwy,rB,ww2,wB,δ,λpC hC=>?_⟩;have eC:=ae hC (.tup [.int (aK w.2 (aC sl (aA r w.1))).1,.int (aK w.2 (aC sl (aA r w.1))).2]);have rC:=cV (K:=K) eC;have V9:=V8.same eC;have tC:=ay.same (K:=K) eC
  replace ru:=ru.mono tC
  replace zo:=tC _ _ zo
  generalize upd HJ pC _=HK at V9 rC ru zo ⊢;clear eC tC hC V8 rB rwy;refine⟨eI,λpD hD=>?_⟩;have eD:=ae hD (.tup [u,.ref pC]);have tD:=ay.same (K:=K) eD;have rD:lK K (upd HK pD (.tup [u,.ref pC])) (.ref pD) (r,aK w.2 (aC sl (aA r w.1))):=⟨pD,_,_,Z,cE.of aa,ru.mono tD,rC.mono tD⟩;have VA:=V9.same eD
  replace zo:=tD _ _ zo
  generalize upd HK pD _=HL at VA rD zo ⊢;clear eD tD hD V9 rC;refine⟨lr,_,_,Z,Z,VA.hr,aN (by rw[Q8,Sd];lia),?_⟩;have es:cJ sl.1 sl.2=sl:=dG bo.pos bo.pos bo.cop Z;have tE:=ay.up (K:=K) VA.hr ((zs0++[V.ref pw])++[.ref pD]);have b2:sl.2≤2:=Sh δ bo.dvd;have bp:=bo.pos;have ble:=b17.le;have P2:=P.snoc ω hw br ltr b17 sl0' vo;refine⟨ss'.length,ω,kk+1,_,_,xs',_,ss',_,sl.1,sl.2,po,Z,VA.putr (VA.ar.snoc rD),tE _ _ zo,⟨bp,b2,ω⟩,by rw[es];exact bo,by rw[es];exact sl0',by rw[es];exact P2,⟨nr.2,mn',ω,ω⟩,(λw' hw' s hs=>?_),Z⟩;rw[Tj ω,show kk+1-rows.length=0 by lia] at hw'
  cases hw'
  exact up s hs
theorem Oe(T:dA K mg t):gFx P w base T.Q6 4 (fS K):=by
 refine T.Q6.F.ok qE ψ χ;obtain⟨hh,la,xs₀,rs₀,rfl,hS,al,am,h1,h5,k⟩:=h;refine cR.ok (have:=qE.nd;have:=cS T.Q26 (oY T);have:=cS T.Q49 (Lx T);have:=cS T.Q35 (oX T);have:=cS T.Q36 (LC T);(ac (kJ 2 qE.nd (cC lD (by rfl) T.z_list YB ζb)) (ac ζb (ac (kJ 4 qE.nd (gz (gK hr) (qv 2) ζb (aX _))) (ac (dF PassesOwn.never ζb (ac ζb (ac ζb (aw (cy ζb (ac (dZ (mT Sr Xu Xv (yC hr) (qv 2) ζb)) (ac ζb (aw (kJ 4 qE.nd (gz (gK hr) (qv 2) ζb (aX _)))))) be))))) (ac ζb (ac (kJ 7 qE.nd (qg (io T) hr T.Q47 (aj ζb (aj (fq jn ζb (bG (rL Z) (by rfl) T.z_max boot_max ζb)) aH kg) dW))) (aw (bC (fq sW (qv 3) (fq nO ζb (qv 6)))))))))))) ?_
 nofun
 have pm:=dX rs₀;have so:jY (fR rs₀):=ki λr hr=>(am.red r hr).pos
 have amS:=am.perm pm;have lS:(fR rs₀).length=rs₀.length:=pm.length_eq;have l9:=am.len;unfold iG at k;have alo:=jg hh (fR rs₀);generalize fR rs₀=S at pm so amS lS k alo ⊢;refine⟨_,Z,la,xs₀,Z,.inl hS,λlr hlr=>?_⟩;obtain⟨s1,e1⟩:=jT hlr (.lst xs₀);generalize upd H lr _=H1 at s1 e1 ⊢;refine⟨(by show 0≤sizeLine;exact Rq _),λls hls=>?_⟩;obtain⟨s2,e2⟩:=jT hls (.lst []);have W2:Nh K H (upd H1 ls (.lst [])) S lr ls 0 xs₀ [] rs₀:=by
  have s12:=s1.trans s2;refine⟨s12,hlr,?_,λz=>?_,s2 _ _ e1,e2,al.mono λ_ _ z=>z.mono (ay.same s12),.nil,pm.symm,Rq _⟩
  ·cases c:H ls with
   |none=>rfl
   |some o=>rw[s1 _ _ c] at hls;cases hls
  ·rw[←z,e1] at hls;cases hls
 generalize upd H1 ls _=H2 at W2 ⊢;clear s1 e1 s2 e2 hls;refine⟨_,Z,(by show 0≤sizeLine;exact Rq _),λpe hpe=>?_⟩;have z8:=ae hpe (.lst []);have W3:=W2.same z8;have e8:upd H2 pe (.lst []) pe=some (.lst []):=aa;generalize upd H2 pe _=H3 at W3 e8 ⊢;refine⟨.list (rs₀.map dR),.list [],.lst (aJ.of W3.hr) (eY (eh W3.ar)),.lst (aJ.of e8) .nil,wK rs₀,Z,wU rs₀,?_⟩;have ev:∀rs:List R,(!PyData.eqv (.list (rs.map dR)) (.list []))=decide (0<rs.length):=λrs=>by cases rs<;>rfl
 rw[ev];refine⟨λm σ H'=>∃(kk:Nat) (g:Bool) (x5:Option V) (xs ys:List V) (rs:List R),σ=[some (.int hh),some (.ref la),some (.ref lr),some (.ref ls),some (.bl g),x5,none,none]/\Nh K H H' S lr ls kk xs ys rs/\(∀j,j<kk->uX hh S j=true)/\(g=true->kk<S.length)/\(g=false->kk<S.length->uX hh S kk=false)/\m=2*(S.length-kk)+(if g=true then 1 else 0),⟨_,0,decide (0<rs₀.length),none,xs₀,[],rs₀,Z,W3,λj hj=>absurd hj (TK _),λz=>by rw[lS];exact of_decide_eq_true z,λz l=>absurd (by rw[←lS];exact l) (of_decide_eq_false z),Z⟩,?_⟩;rintro m σ H4 ⟨kk,g,x5,xs,ys,rs,rfl,W,go,gt,gf,rfl⟩;have kh:=tW amS h1 W.le go;have lx:=W.ar.len;have lr_:=W.p.length_eq;rw[UJ] at lr_;have lt:=W.as_.len;rw[RD] at lt;have kle:=W.le;have okr:∀r∈rs,FI r:=λr hr=>amS.ok r (Sw (W.p.mem_iff.mp hr))
 have bqr:∀r∈rs,Bq DM 60 r:=λr hr=>(okr r hr).bq
 have sp_:=uk W.p λr hr=>(okr r hr).bq.red
 have bd:=cX amS kk;refine⟨_,Z,_,Z,?_⟩
 cases g with
 |false=>
  refine dC ?_;have e:kk=JG hh S:=JN.uniq ⟨W.le,go,gf Z⟩ alo;rw[←e] at k;clear alo gt gf e;have ly:ys.length=kk:=ω
  refine⟨_,Z,_,Z,ls,_,Z,.inl (aJ.of W.hs),_,_,Z,Z,?_⟩;dsimp only;rw[ly,show((hh:Nat):Int)-((kk:Nat):Int)=((hh-kk:Nat):Int) by lia];refine⟨_,Z,lr,xs,rs,Z,aJ.of W.hr,W.ar,bqr,ω,λu1 H5 s5 r5=>?_⟩;have W5:=W.same s5;obtain⟨p1,rfl,hp1⟩:=r5;refine⟨p1,_,_,_,Z,Z,hp1,Z,_,Z,lr,xs,rs,Z,aJ.of W5.hr,W5.ar,bqr,ω,λu2 H6 s6 r6=>?_⟩;have W6:=W5.same s6;obtain⟨p2,rfl,hp2⟩:=r6;have em:(if((hh-kk:Nat):Int)>1 then((hh-kk:Nat):Int) else 1)=((hh-kk:Nat):Int):=by
   split
   ·rfl
   ·lia
  rw[sp_] at hp1 hp2 ⊢;have w9:Wf 90 (bj (S.drop kk)):=bd.wf δ δ δ;refine⟨p2,_,_,_,Z,Z,hp2,Z,_,Z,_,_,Z,?_⟩;rw[em];have c1:=aO w9.bot δ;have n9:(((hh-kk:Nat):Int)).natAbs<2^10:=RH (show _≤5 by lia) δ;refine⟨_,_,Z,Z,⟨c1,aO n9 δ⟩,_,_,Z,RG w9.pos ω,aO (dj w9.bot n9) δ,λp3 hp3=>?_⟩;rw[←yF amS kh] at *;have s7:=ae hp3 (.tup [.int (cH hh S kk).1,.int (cH hh S kk).2]);have r7:RV K (upd H6 p3 (.tup [.int (cH hh S kk).1,.int (cH hh S kk).2])) (.ref p3) (cH hh S kk):=cV (K:=K) s7;have W7:=W6.same s7;generalize upd H6 p3 _=H7 at r7 W7 ⊢;refine⟨_,Z,_,Z,FQ,λl1 hl1=>?_⟩;have s8:=ae hl1 (.lst [.ref p3]);refine⟨_,Z,l1,.ref p3,hh-kk,Z,Z,aa,ω,λl2 hl2=>?_⟩;obtain⟨s9,h2⟩:=jT hl2 (.lst (Q0 (hh-kk) (V.ref p3)));have W9:=W7.same (s8.trans s9);have r9:=r7.mono (ay.same (s8.trans s9));generalize upd (upd H7 l1 _) l2 _=H9 at h2 W9 r9 ⊢;refine⟨ls,l2,_,_,Z,Z,W9.hs,h2,RC (show _≤1000 by rw[R0];lia) AV,λl3 hl3=>?_⟩;have sA:=ae hl3 (.lst (ys++Q0 (hh-kk) (V.ref p3)));have WA:=W9.same sA;exact k l3 _ _ WA.s aa (WA.as_.join (bR.rep (r9.mono (ay.same sA)) _))
 |true=>
  refine fC ?_;have kl:=gt Z;clear alo gt gf k;refine⟨_,λ_ _ z=>z,?_⟩;have ly:ys.length=kk:=ω
  have mo:=HN amS so kl W.p;have oS:=amS.ok _ (fN kl);refine⟨_,Z,lr,xs,rs,Z,aJ.of W.hr,W.ar,λr hr=>(bqr r hr).wf δ δ δ,λum H5 s5 r5=>?_⟩;rw[mo] at r5;have W5:=W.same s5;refine⟨_,Z,lr,xs,rs,Z,aJ.of W5.hr,W5.ar,bqr,ω,λu6 H6 s6 r6=>?_⟩;have W6:=W5.same s6;have r5':=r5.mono (ay.same s6);refine⟨_,Z,_,Z,_,Z,ls,_,Z,.inl (aJ.of W6.hs),_,_,Z,Z,eI,λp2 hp2=>?_⟩;dsimp only;rw[ly,show((hh:Nat):Int)-((kk:Nat):Int)=((hh-kk:Nat):Int) by lia];have s7:=ae hp2 (.tup [.int ((hh-kk:Nat):Int),.int 1]);have r7:RV K (upd H6 p2 (.tup [.int ((hh-kk:Nat):Int),.int 1])) (.ref p2) (((hh-kk:Nat):Int),1):=RV.of aa;have W7:=W6.same s7;have r57:=r5'.mono (ay.same s7);have r67:=r6.mono (ay.same s7);generalize upd H6 p2 _=H7 at r7 W7 r57 r67 ⊢;clear s5 s6 s7 r5 r6 r5' W5 W6 hp2;have bh:Bq 1 9 ((((hh-kk:Nat):Int),1):R):=wM ω;have w5:Wf 90 (S.getD kk (0,1)):=oS.bq.wf δ δ δ;have w7:Wf 10 ((((hh-kk:Nat):Int),1):R):=bh.wf δ δ δ;refine⟨um,.ref p2,S.getD kk (0,1),(((hh-kk:Nat):Int),1),90,10,Z,r57,r7,w5,w7,δ,λp8 hp8=>?_⟩;have s8:=ae hp8 (.tup [.int (aC (S.getD kk (0,1)) (((hh-kk:Nat):Int),1)).1,.int (aC (S.getD kk (0,1)) (((hh-kk:Nat):Int),1)).2]);have r8:=cV (K:=K) s8;have W8:=W7.same s8;have r58:=r57.mono (ay.same s8);have r68:=r67.mono (ay.same s8);generalize upd H7 p8 _=H8 at r8 W8 r58 r68 ⊢;rw[sp_] at r68;refine⟨u6,.ref p8,bj (S.drop kk),aC (S.getD kk (0,1)) (((hh-kk:Nat):Int),1),90,100,Z,r68,r8,bd.wf δ δ δ,gP w5 w7,δ,?_⟩;rw[OD amS kl kh];clear s8 r8 r68 r57 r67 r7 W7 hp8;refine⟨_,Z,_,Z,?_⟩
  cases c:uX hh S kk with
  |false=>
   refine dC ?_;exact⟨2*(S.length-kk),(by rw[if_pos Z];lia),kk,false,_,xs,ys,rs,Z,W8,go,λz=>(by cases z),λ_ _=>c,Z⟩
  |true=>
   refine fC ?_;have ed:S.drop kk=S.getD kk (0,1)::S.drop (kk+1):=by
    rw[Vn kl,Q1,QH kl];rfl
   have et:S.take (kk+1)=S.take kk++[S.getD kk (0,1)]:=by
    rw[Rt,QH kl,Q1,QH kl];rfl
   have go':∀j,j<kk+1->uX hh S j=true:=λj hj=>by
    by_cases e:j=kk
    ·rw[e];exact c
    ·exact go j ω
   clear mo w5 c go;generalize S.getD kk (0,1)=sv at ed et r58 oS;have ms:sv∈rs:=W8.p.mem_iff.mpr (by rw[ed];exact QV);obtain⟨j,j1,j2,j3⟩:=vL ms;have es:Sk (dR sv) (dR sv)=true:=by rw[gC];exact decide_eq_true Z
   refine⟨_,Z,.inl ⟨Z,_,aJ.of W8.hr⟩,_,Z,lr,xs,rs.map dR,um,dR sv,dR sv,j,Z,Z,W8.hr,eY (eh W8.ar),tG rs,r58.deep,Z,es,(by rw[Q4,j1];rfl),es,λm f hm hf=>?_,?_⟩
   ·rw[Q4] at hf
    cases e:rs[m]? with
    |none=>rw[e] at hf;cases hf
    |some r=>
     rw[e] at hf
     cases hf
     rw[gC];exact decide_eq_false (j2 m r hm e)
   have hl9:upd H8 lr (.lst (xs.eraseIdx j)) ls=some (.lst ys):=by rw[ai (SO W8.ne)];exact W8.hs
   refine⟨_,Z,.inl ⟨Z,_,aJ.of hl9⟩,_,Z,ls,ys,_,Z,Z,hl9,aN ω,?_⟩;have pp:(rs.eraseIdx j).Perm (S.drop (kk+1)):=by
    have:=j3.trans W8.p;rw[ed] at this;exact UZ this
   have W9:Nh K H (upd (upd H8 lr (.lst (xs.eraseIdx j))) ls (.lst (ys++[um]))) S lr ls (kk+1) (xs.eraseIdx j) (ys++[um]) (rs.eraseIdx j):=by
    have t8:=(ay.up (K:=K) W8.hr (xs.eraseIdx j)).trans (ay.up (K:=K) hl9 (ys++[um]));refine⟨λb o e=>?_,W8.fr,W8.fs,W8.ne,?_,aa,(ze W8.ar j).mono λ_ _ z=>z.mono t8,?_,pp,kl⟩
    ·rw[ai (λz=>by rw[z,W8.fs] at e;cases e),ai (λz=>by rw[z,W8.fr] at e;cases e)];exact W8.s b o e
    ·rw[ai W8.ne];exact aa
    ·rw[et];exact(W8.as_.mono λ_ _ z=>z.mono t8).snoc (r58.mono t8)
   generalize upd (upd H8 lr _) ls _=H9 at W9 ⊢;have l9':=W9.ar.len;have lq:=pp.length_eq;rw[UJ] at lq;clear W8 hl9 r58 j1 j2 j3 es ms;generalize xs.eraseIdx j=xs' at W9 l9';generalize rs.eraseIdx j=rs' at W9 l9' pp lq;refine⟨_,Z,(by show 0≤sizeLine;exact Rq _),λpe hpe=>?_⟩;have z8:=ae hpe (.lst []);have WA:=W9.same z8;have e8:upd H9 pe (.lst []) pe=some (.lst []):=aa;generalize upd H9 pe _=HA at WA e8 ⊢;refine⟨.list (rs'.map dR),.list [],.lst (aJ.of WA.hr) (eY (eh WA.ar)),.lst (aJ.of e8) .nil,wK rs',Z,wU rs',?_⟩;rw[ev];refine⟨2*(S.length-(kk+1))+(if decide (0<rs'.length)=true then 1 else 0),?_,kk+1,decide (0<rs'.length),_,xs',_,rs',Z,WA,go',λz=>?_,λz l=>?_,Z⟩
   ·rw[if_pos Z]
    split<;>lia
   ·have:=of_decide_eq_true z;lia
   ·have:=of_decide_eq_false z;lia
theorem Oc(T:dA K mg t):gFx P w base T.Q9 5 (gk K):=by
 refine T.Q9.F.ok yd ψ χ;obtain⟨v,rl,h,w,pl,rfl,hv,ok,rt,⟨pp,xs,rfl,hS,al⟩,pa,h1,h5,k⟩:=h;refine cR.ok (have:=yd.nd;have:=cS T.Q48 (oW T);have:=cS T.Q39 (Ei T);(ac ζb (ac (dh PassesOwn.never Z (sP (qv 2)) (bb (i:=4) yd.nd Z θ) (aw (dh PassesOwn.never Z (da (qg (Oe T) hr T.Q6 (aj (qv 1) (aj (aZ ["_law_j","_law_amount"] [none,none] Z (by exact(sP (qv 4))) ζa ζa ζa) aH cU) aB))) (bb (i:=5) yd.nd Z θ) (ac ζb (ac (cy (aV oR (qv 6) fX (aX _)) ζb be)
   ζb)))))
   ζb))) ?_
 nofun
 have lx:=al.len;have p24:=pa.len;have rok:∀c∈pl.map eG,bW c:=λc hc=>by
  obtain⟨q,hq,rfl⟩:=QZ.mp hc;exact pa.ok q hq
 refine⟨eI,λp0 hp0=>?_⟩;have s0:=ae hp0 (.tup [.int 0,.int 1]);refine⟨_,Z,pp,Z,⟨_,ay.same s0 _ _ hS⟩,nW (K:=K) (a:=pp) (xs:=xs) (λi σ H'=>∃(u:V) (x5 x6 x7:Option V),σ=[some v,some (.int h),some (.ref pp),some u,x5,x6,x7]/\ax H H'/\RV K H' u (bj ((ic h ((pl.map eG).take i)).map (bO rl)))/\∀s∈ic h ((pl.map eG).take i),df rl s=false) ⟨_,none,none,none,Z,s0,RV.of aa,λs hs=>by cases hs⟩ (λi σ H1 _ ⟨_,_,_,_,_,s1,_⟩=>ay.same s1 _ _ hS) ?_ ?_⟩
 ·rintro i y σ H1 hi ⟨u,x5,x6,x7,rfl,s1,ru,bl⟩;obtain⟨q,hq,pq,xq,rfl,hSq,alq⟩:=al.at hi;have t1:=ay.same (K:=K) s1;have lq:=alq.len;have mq:=QL hq;have aq:=pa.ok q mq;have hc:(pl.map eG)[i]?=some (eG q):=by rw[Q4,hq];rfl
  have il:=(QN.mp hc).1;have et:(pl.map eG).take (i+1)=(pl.map eG).take i++[eG q]:=by rw[Rt,hc];rfl
  rw[et,Bn];have subr:∀c∈(pl.map eG).take i,bW c:=λc hc=>rok c (Sx hc)
  have ao:=jM h1 h5 subr;have al_:=kF h1 h5 subr;have whole:∀s∈iG h (eG q),s∈ic h (pl.map eG):=λs hs=>US.mpr ⟨eG q,QL hc,hs⟩
  rw[RD] at al_;rw[QK] at il al_;clear et;generalize ic h ((pl.map eG).take i)=L0 at ru bl ao al_ ⊢;have q9:=aq.len;have qq:(eG q).length=q.length:=QK ..;refine⟨_,Z,_,Z,pq,Z,⟨_,t1 _ _ hSq⟩,λD2 hD2=>dz (K:=K) (P:=RV K) (ds:=q) (f:=λc:Pc=>c.2) (λ_ _ _ _ t p=>p.mono t) hD2 (rX (t1 _ _ hSq)) lq ω (λj z c H3 hz hc s3 R' E' kR'=>?_) λH4 ys4 s4 hD4 al4=>?_⟩
  ·obtain⟨c',hc',pc,xa,rfl,hSc,rx⟩:=alq.at hz;rw[hc] at hc'
   cases hc'
   have t3:=t1.trans (ay.same (K:=K) s3);refine⟨pc,_,Z,t3 _ _ hSc,Z,_,_,Z,_,_,Z,Z,(fz.set Z).set' Z,?_⟩;exact⟨_,Z,kR' _ _ (ax.refl _) (rx.mono t3)⟩
  have l5:=gB aq h1;have hok:=f8 aq h1 h5;refine⟨h,D2,ys4,eG q,Z,aJ.of hD4,al4,aq,h1,h5,λl ys H5 s5 hl alh=>?_⟩;clear al4 hD4 hD2;have s15:=(s1.trans s4).trans s5;have lys:=alh.len;have ru5:=ru.mono (ay.same (s4.trans s5));generalize iG h (eG q)=L1 at alh lys l5 hok whole ⊢;refine⟨l,Z,⟨_,aJ.of hl⟩,c6 (K:=K) (a:=l) (xs:=ys) (λj σ H'=>∃(u:V) (x6 x7:Option V),σ=[some v,some (.int h),some (.ref pp),some u,some (.ref pq),x6,x7]/\ax H5 H'/\RV K H' u (bj ((L0++L1.take j).map (bO rl)))/\∀s∈L0++L1.take j,df rl s=false) ⟨_,_,_,Z,ax.refl _,by rw[Vg,R7];exact ru5,by rw[Vg,R7];exact bl⟩ (λj σ H6 _ ⟨_,_,_,_,s6,_⟩=>s6.seq (aJ.of hl)) ?_ ?_⟩
  ·rintro j y σ H6 hj ⟨u,x6,x7,rfl,s6,ru6,bl6⟩;obtain⟨s,hs,rs⟩:=alh.at hj;have ms:=QL hs;have jl:=(QN.mp hs).1;have os:=hok s ms;have s16:=s15.trans s6;have t6:=ay.same (K:=K) s16;have rs6:=rs.mono (ay.same s6);have e2:L1.take (j+1)=L1.take j++[s]:=by rw[Rt,hs];rfl
   rw[e2,←Uv];have lL:(L0++L1.take j).length≤120:=by
    rw[Q8,RD];lia
   have oL:∀s∈L0++L1.take j,iH s:=λs hs=>by
    rcases Rc.mp hs with z|z
    ·exact ao s z
    ·exact hok s (Sx z)
   have bq:=yn ok rt oL bl6 lL;generalize L0++L1.take j=L at ru6 bl6 bq ⊢;refine⟨_,Z,_,Z,v,y,rl,s,Z,hv.mono t6,ok,rs6,os.sp,λv' H7 s7 o7=>?_⟩
   cases c:df rl s with
   |true=>
    rw[show Aq rl s=none from if_pos c] at o7
    cases(show v'=.non from o7)
    refine⟨_,Z,Z,_,Z,bP Z ?_⟩;refine k _ _ (s16.trans s7) ?_;rw[sS (whole s ms) c];rfl
   |false=>
    rw[show Aq rl s=some (bO rl s) from if_neg (by rw[c];exact Rn)] at o7;have o7':RV K H7 v' (bO rl s):=o7;obtain⟨p7,rfl,h7⟩:=id o7';refine⟨_,Z,Z,_,Z,bJ (λz=>by cases z) ?_⟩;have bp:=mh ok rt os c;refine⟨_,Z,_,Z,u,.ref p7,bj (L.map (bO rl)),bO rl s,800,800,Z,ru6.mono (ay.same s7),o7',bq.wf δ δ δ,bp.wf δ δ δ,δ,λp8 hp8=>?_⟩;have e3:bj ((L++[s]).map (bO rl))=aK (bj (L.map (bO rl))) (bO rl s):=by
     unfold bj;rw[Rb,Xl];rfl
    rw[e3];have s8:=ae hp8 (.tup [.int (aK (bj (L.map (bO rl))) (bO rl s)).1,.int (aK (bj (L.map (bO rl))) (bO rl s)).2]);refine⟨_,_,_,Z,(s6.trans s7).trans s8,cV (K:=K) s8,λs' hs'=>?_⟩;rcases Rc.mp hs' with z|z
    ·exact bl6 s' z
    ·rw[Q2.mp z];exact c
  ·rintro σ H6 ⟨u,x6,x7,rfl,s6,ru6,bl6⟩;rw[lys,RW] at ru6 bl6;exact⟨_,_,_,_,Z,s15.trans s6,ru6,bl6⟩
 ·rintro σ H1 ⟨u,x5,x6,x7,rfl,s1,ru,bl⟩;rw[lx,←QK (f:=eG),RW] at ru bl;refine⟨_,Z,k u H1 s1 ?_⟩;rw[nN bl];exact ru
theorem LR(T:dA K mg t):gFx P w base T.Q16 3 (iy K):=by
 refine T.Q16.F.ok jP ψ χ;obtain⟨t₁,l₁,v,ws,rfl,tb,⟨p,xs,rfl,hp,al⟩,gd,few,k⟩:=h;refine cR.ok (have:=jP.nd;have:=cS T.Q46 (tj T);(ac (fm 2 ["_law_turn"] [none] Z ζb ζa ζa ζa) (ac (dh PassesOwn.never Z (dQ Z T.z_range ζb) (bb (i:=3) jP.nd Z θ) (ac (sO ζb (vN Z (di (bb (i:=4) jP.nd Z θ) (di (bb (i:=5) jP.nd Z θ) (di (bb (i:=6) jP.nd Z θ) kL))))) (ac (fm 7 ["_law_turn","_law_tape"] [none,some 0] Z ζb ζa ζa ζa) (ac (kI (qv 7) ζb hU bf tH fW) (aw (dh PassesOwn.never Z (dQ Z T.z_range ζb) (bb (i:=8) jP.nd Z θ) (aw (cy ζd (aw (dZ (mT Sr SY SZ eV ζd (aj (im (aj (qv 3) (aj (qg (oX T) hr T.Q35 (aj (qv 6) (aj (qg (io T) hr T.Q47 (aj ζd (aj (bG (rK Z) (by rfl) T.z_sum boot_sum ζb) aH aM) dW)) aH aM) aB)) aH aM) aB)) aH iL)))) be)))))))) (aw (bC (cC bV (by rfl) T.z_tuple boot_tuple (aj (aZ ["_law_row"] [none] Z ζb ζa ζa (λ_ _ _ _ _=>(by exact(by exact(cC (jd (K:=K) ν) ν T.z_tuple boot_tuple (aj (by exact(qv 0)) aH aB)))))) aH cU))))))) ?_
 nofun
 obtain⟨yt,ht0⟩:=tb.lst;obtain⟨yl,hl0⟩:=tb.lst';have lx:=al.len;refine⟨24,Z,δ,δ,λD hD=>jb (J:=FO 0 24) (n:=24) (λi ys H'=>∃rows:List Addr,ys=rows.map V.ref/\rows.length=i/\rows.Nodup/\D∉rows/\(∀r∈rows,H r=none)/\ax H H'/\H' D=some (.lst ys)/\∀r∈rows,H' r=some (.lst [])) ⟨[],Z,Z,SG,(λz=>by cases z),(λr hr=>by cases hr),ae hD _,aa,λr hr=>by cases hr⟩ (λi ys H' hi _=>hi) (λys H1 ⟨rows,e1,e2,e3,e4,e5,e6,e7,e8⟩=>⟨QY _,?_⟩) ?_⟩
 rotate_left
 ·rintro i ys H1 x H2 hi ⟨rows,rfl,e2,e3,e4,e5,e6,e7,e8⟩ ⟨rfl,rfl⟩ R E kR kE;refine⟨fz.set Z,?_⟩;refine⟨(by show 0≤sizeLine;exact Rq _),λr hr=>?_⟩;have s2:=ae hr (.lst []);have nr:r∉rows:=λm=>by rw[e8 r m] at hr;cases hr
  have nD:r≠D:=λz=>by subst z;rw[e7] at hr;cases hr
  have hD4:=s2 _ _ e7;refine kR (.ref r) _ hD4 (aN (by rw[QK];lia)) ⟨rows++[r],by rw[Rb];rfl,by rw[Q8,e2];rfl,?_,?_,λz hz=>?_,λb o q=>?_,aa,λz hz=>?_⟩
  ·rw[TH];exact⟨e3,RJ.mpr ⟨(λz=>by cases z),SG⟩,λa ha b hb=>by rw[Q2.mp hb];exact λz=>nr (by rw[←z];exact ha)⟩
  ·intro m;rcases Rc.mp m with z|z
   ·exact e4 z
   ·exact nD (Q2.mp z).symm
  ·rcases Rc.mp hz with y|y
   ·exact e5 z y
   ·rw[Q2.mp y];exact jo e6 hr
  ·rw[ai (au q hD)];exact s2 _ _ (e6 _ _ q)
  ·rcases Rc.mp hz with y|y
   ·rw[ai (show z≠D from λw=>e4 (by rw[←w];exact y))];exact s2 _ _ (e8 z y)
   ·rw[Q2.mp y,ai nD,aa]
 have nDt:D≠t₁:=λz=>by rw[z,ht0] at hD;cases hD
 have nDl:D≠l₁:=λz=>by rw[z,hl0] at hD;cases hD
 have nrt:t₁∉rows:=λm=>by rw[e5 _ m] at ht0;cases ht0
 have nrl:l₁∉rows:=λm=>by rw[e5 _ m] at hl0;cases hl0
 have g1:AU K H1 D rows (Q0 24 []):=by
  refine⟨by rw[e7,e1],e2,e3,e4,λi r c hr hc=>?_⟩;rw[UI] at hc
  split at hc
  ·cases hc;exact⟨[],e8 r (QL hr),.nil⟩
  ·cases hc
 have T1:=tb.same e6;have kp1:∀b o,b≠t₁->H b=some o->H1 b=some o:=λb o _ q=>e6 _ _ q
 have I1:=Fy ws;generalize Q0 24 ([]:List Pc)=pl0 at g1 I1;have rnH:∀r∈rows,H r=none:=e5;clear e1 e6 e7 e8 e2 e3 e4 e5;have tst:∀{H':Hp},(∀b o,b≠t₁->H b=some o->H' b=some o)->cq H' t₁ l₁->ay K H H':=λ{H'} kp T=>ay.steps ht0 kp T.lst
 let Iv1:Nat->L2.St->Hp->Prop:=λi σ H'=>∃(pl:List (List Pc)) (x3 x4 x5 x6 x7 x8:Option V),σ=[some (.ref t₁),some (.ref p),some (.ref D),x3,x4,x5,x6,x7,x8]/\(∀b o,b≠t₁->H b=some o->H' b=some o)/\cq H' t₁ l₁/\AU K H' D rows pl/\AM ws i pl
 refine⟨_,Z,p,_,Z,.inr (tst kp1 T1 _ _ hp),xs.length,Z,ω,ω,cD (lo:=0) (n:=((xs.length:Nat):Int).toNat) Iv1 ⟨pl0,none,none,none,none,none,none,Z,kp1,T1,g1,I1⟩ ?_ ?_⟩
 ·rintro i σ H3 hi ⟨pl,x3,x4,x5,x6,x7,x8,rfl,kp,T3,g3,I3⟩;rw[S8];have hiw:i<ws.length:=ω
  obtain⟨x,hx⟩:∃x,xs[i]?=some x:=⟨_,QH ω⟩;obtain⟨w,hw,pw,am,rfl,hpw,ram⟩:=al.at hx;have ew:ws.getD i bI=w:=aD bI hw;obtain⟨wle,w10,wbq,wps⟩:=gd w (QL hw);have w24:w.2.1<24:=ω
  have t3:=tst kp T3;obtain⟨n,hn⟩:∃n:Nat,n=((((w.2.1:Nat):Int)+1)-(w.1:Nat)).toNat:=⟨_,Z⟩;refine⟨_,Z,_,Z,p,_,_,_,Z,Z,t3 _ _ hp,aG hx,pw,_,Z,t3 _ _ hpw,Z,_,_,Z,_,_,Z,_,_,Z,Z,?_⟩;refine⟨_,Z,_,Z,_,_,Z,Z,_,_,Z,⟨ω,ω,ω,ω⟩,λD2 hD2=>?_⟩;rw[←hn];have n2t:D2≠t₁:=λz=>by subst z;obtain⟨_,e⟩:=T3.lst;rw[hD2] at e;cases e
  have n2l:D2≠l₁:=λz=>by subst z;obtain⟨_,e⟩:=T3.lst';rw[hD2] at e;cases e
  refine jb (J:=FO ((w.1:Nat):Int) n) (n:=n) (λj ys H'=>∃ns:List Int,ys=ns.map V.int/\ns.length=j/\(∀z∈ns,0≤z/\z≤3)/\(∀b o,b≠t₁->b≠D2->H3 b=some o->H' b=some o)/\cq H' t₁ l₁/\H' D2=some (.lst ys)) ⟨[],Z,Z,(λz hz=>by cases hz),(λb o _ nb q=>by rw[ai nb];exact q),T3.same (ae hD2 _),aa⟩ (λj ys H' hj _=>hj) (λys H4 ⟨ns,e1,e2,e3,e4,e5,e6⟩=>⟨QY _,?_⟩) ?_
  rotate_left
  ·rintro j ys H' x H'' hj ⟨ns,rfl,ln,rng,kp',T',hD'⟩ ⟨rfl,rfl⟩ Rk E kR kE;refine⟨fz.set Z,_,Z,t₁,l₁,4,Z,T',δ,δ,λr zs a b T8=>?_⟩;have hD8:upd H'' t₁ (.lst zs) D2=some (.lst (ns.map V.int)):=by rw[ai n2t];exact hD'
   exact kR _ _ hD8 (aN (by rw[QK];lia)) ⟨ns++[r],by rw[Rb];rfl,by rw[Q8,ln];rfl,(λz hz=>by
    rcases Rc.mp hz with h|h
    ·exact rng z h
    ·rw[Q2.mp h];lia),(λb o nb nb2 q=>by rw[ai nb2,ai nb];exact kp' b o nb nb2 q),T8.upl n2t n2l _,aa⟩
  rw[e1] at e6;have kp4:∀b o,b≠t₁->H3 b=some o->H4 b=some o:=λb o nb q=>e4 b o nb (au q hD2) q
  have n0:H D2=none:=by
   cases c:H D2 with
   |none=>rfl
   |some o=>rw[kp _ _ n2t c] at hD2;cases hD2
  obtain⟨y3,h3t⟩:=T3.lst;have n2r:D2∉rows:=λm=>by
   obtain⟨i',hi'⟩:=Sb m;have il:=(QN.mp hi').1;obtain⟨xs',h',_⟩:=g3.row i' D2 _ hi' (QH (show i'<pl.length by rw[I3.len,←g3.len];exact il));rw[hD2] at h'
   cases h'
  have g4:=g3.steps nDt nrt kp4 (ay.steps h3t kp4 e5.lst);have kH4:∀b o,b≠t₁->H b=some o->H4 b=some o:=λb o nb q=>kp4 b o nb (kp b o nb q)
  have hlm:(ns.map V.int).length=ns.length:=QK _;have n1:1≤n:=ω
  clear e4 e1 kp4 g3 h3t T3 t3 kp hD2;refine⟨_,Z,_,Z,_,Z,D2,_,Z,.inl (aJ.of e6),t₁,l₁,_,Z,e5,ω,ω,λrr zs a b T5=>?_⟩;obtain⟨m,rfl⟩:=R3 a;obtain⟨z0,hz0⟩:∃z0,ns[m]?=some z0:=⟨_,QH ω⟩;have h5:upd H4 t₁ (.lst zs) D2=some (.lst (ns.map V.int)):=by rw[ai n2t];exact e6
  have kp5:∀b o,b≠t₁->H4 b=some o->upd H4 t₁ (.lst zs) b=some o:=λb o nb q=>by rw[ai nb];exact q
  obtain⟨y4,h4t⟩:=e5.lst;have g5:=g4.steps nDt nrt kp5 (ay.up h4t zs);have kH5:∀b o,b≠t₁->H b=some o->upd H4 t₁ (.lst zs) b=some o:=λb o nb q=>kp5 b o nb (kH4 b o nb q)
  generalize upd H4 t₁ _=H5 at T5 h5 g5 kH5 ⊢;clear kp5 g4 kH4 h4t e5 e6;refine⟨D2,_,m,_,Z,Z,aJ.of h5,(show(ns.map V.int)[m]?=some (V.int z0) by rw[Q4,hz0];rfl),_,_,Z,Z,D2,_,_,m,Z,Z,h5,kZ (by rw[hlm];lia),?_⟩;have eset:(ns.map V.int).set m (V.int (z0+1))=(ns.set m (z0+1)).map V.int:=by rw[WJ]
  rw[eset];have hz:=e3 z0 (QL hz0);have S1:=Jw (i:=m) (ns:=ns) hz0;have b3:=EU (M:=3) δ e3;have b4:=EU (M:=4) δ (ns:=ns.set m (z0+1)) λz hz'=>by
   rcases Vo hz' with q|q
   ·have:=e3 z q;lia
   ·lia
  have nn4:∀z∈ns.set m (z0+1),0≤z:=λz hz'=>by
   rcases Vo hz' with q|q
   ·exact(e3 z q).1
   ·lia
  have sl:(ns.set m (z0+1)).length=n:=by rw[Ts,e2]
  generalize ns.set m (z0+1)=ps at S1 b4 sl nn4 ⊢;have Sp:1≤ps.sum/\ps.sum≤31:=by
   have:=b3.1;have:=b3.2.1;rw[e2] at this;lia
  have lps:(ps.map V.int).length=n:=by rw[QK,sl]
  have h6:upd H5 D2 (.lst (ps.map V.int)) D2=some (.lst (ps.map V.int)):=aa;have kp6:∀b o,b≠D2->H5 b=some o->upd H5 D2 (.lst (ps.map V.int)) b=some o:=λb o nb q=>by rw[ai nb];exact q
  have T6:=T5.upl n2t n2l (.lst (ps.map V.int));have t56:ay K H5 (upd H5 D2 (.lst (ps.map V.int))):=ay.up h5 _;have n2D:D≠D2:=λz=>by
   have:=g5.top;rw[z,h5] at this;injection this with this;injection this with this
   cases rows with
   |nil=>have:=g5.len;cases this
   |cons r0 rr0=>
    cases ns with
    |nil=>rw[Z0] at e2;lia
    |cons q0 qq=>cases this
  have g6:=g5.steps n2D n2r kp6 t56;have kH6:∀b o,b≠t₁->b≠D2->H b=some o->upd H5 D2 (.lst (ps.map V.int)) b=some o:=λb o nb nb2 q=>kp6 b o nb2 (kH5 b o nb q)
  have tH6:ay K H (upd H5 D2 (.lst (ps.map V.int))):=(tst kH5 T5).trans t56;generalize upd H5 D2 _=H6 at h6 T6 g6 kH6 tH6 ⊢;have J0:=I3.start (ps) ps.sum;clear kp6 t56 g5 kH5 T5 h5 S1 b3 e3 hz hz0 eset I3;let Iv2:Nat->L2.St->Hp->Prop:=λj σ H'=>∃(pl':List (List Pc)) (y8:Option V),σ=[some (.ref t₁),some (.ref p),some (.ref D),some (.int (i:Nat)),some (.int (w.1:Nat)),some (.int (w.2.1:Nat)),some am,some (.ref D2),y8]/\(∀b o,b∉rows->H6 b=some o->H' b=some o)/\ay K H6 H'/\AU K H' D rows pl'/\nE ws i j ps ps.sum pl'
  refine⟨_,Z,D2,_,Z,.inl (aJ.of h6),_,Z,ω,ω,cD (lo:=0) (n:=(((ps.map V.int).length:Nat):Int).toNat) Iv2 ⟨pl,x8,Z,(λb o _ q=>q),ay.refl K H6,g6,J0⟩ ?_ ?_⟩
  ·rintro j σ H7 hj ⟨pl',y8,rfl,kr,t67,g7,J7⟩;rw[S8];have hjn:j<n:=ω
   obtain⟨a0,ha0⟩:∃a0,ps[j]?=some a0:=⟨_,QH ω⟩;have hat:(ps.map V.int)[j]?=some (V.int a0):=by rw[Q4,ha0];rfl
   have h7:=kr _ _ n2r h6;refine⟨_,Z,_,Z,D2,_,_,_,Z,Z,aJ.of h7,aG hat,_,_,Z,Z,_,Z,?_⟩;have a0n:=nn4 a0 (QL ha0);by_cases c:0<a0
   rotate_left
   ·refine bJ c ?_;obtain rfl:a0=0:=ω
    exact⟨pl',_,Z,kr,t67,g7,J7.skip ha0⟩
   refine bP c ?_;have aS:=b4.2.2 a0 (QL ha0);have u24:w.1+j<24:=ω
   obtain⟨r,hr'⟩:∃r,rows[w.1+j]?=some r:=⟨_,QH (by rw[g7.len];exact u24)⟩;obtain⟨q,hq⟩:∃q,pl'[w.1+j]?=some q:=⟨_,QH (by rw[J7.len];exact u24)⟩;obtain⟨zs',hzs,az⟩:=g7.row _ r q hr' hq;have hrat:(rows.map V.ref)[w.1+j]?=some (.ref r):=by rw[Q4,hr'];rfl
   have mr:=QL hr';obtain⟨bp,ve⟩:=Hn ω aS Sp.2 wbq wps;have ql:=J7.few hq;have lz:=az.len;have t7:=tH6.trans t67;refine⟨_,Z,_,Z,_,Z,_,_,Z,Z,D,_,_,_,Z,Z,aJ.of g7.top,(show uc (rows.map V.ref) (((w.1:Nat):Int)+((j:Nat):Int))=some (.ref r) by rw[show(((w.1:Nat):Int)+((j:Nat):Int))=((w.1+j:Nat):Int) by lia];exact aG hrat),.inl ⟨Z,_,aJ.of hzs⟩,?_⟩;refine⟨_,Z,_,Z,_,Z,_,Z,D2,_,_,_,Z,Z,aJ.of h7,aG hat,_,Z,D2,ps,Z,aJ.of h7,a0,ps.sum,Z,ω,RH (show ps.sum.natAbs≤31 by lia) δ,nR K λq1 H8 s8 r8=>?_⟩;have wm:Wf 8 (cJ a0 ps.sum):=iT ω (RH (show a0.natAbs≤31 by lia) δ) (RH (show ps.sum.natAbs≤31 by lia) δ);have t8:=t7.trans (ay.same s8);refine⟨am,.ref q1,w.2.2,cJ a0 ps.sum,20,8,Z,ram.mono t8,r8,wbq.wf δ δ δ,wm,δ,λq2 g2=>⟨eI,λq3 g3'=>?_⟩⟩;have s9:=ae g2 (.tup [.int (aC w.2.2 (cJ a0 ps.sum)).1,.int (aC w.2.2 (cJ a0 ps.sum)).2]);have r9:RV K (upd H8 q2 (.tup [.int (aC w.2.2 (cJ a0 ps.sum)).1,.int (aC w.2.2 (cJ a0 ps.sum)).2])) (.ref q2) (aC w.2.2 (cJ a0 ps.sum)):=RV.of aa;generalize upd H8 q2 _=H9 at s9 r9 g3' ⊢;generalize aC w.2.2 (cJ a0 ps.sum)=pr at bp ve r9;have s10:=ae g3' (.tup [.int (i:Nat),.ref q2]);have hpc:IF K (upd H9 q3 (.tup [.int (i:Nat),.ref q2])) (.ref q3) (i,pr):=⟨q3,.ref q2,Z,cE.of aa,r9.mono (ay.same s10)⟩;have s7:=(s8.trans s9).trans s10;generalize upd H9 q3 _=HA at s7 hpc ⊢;have gA:=g7.same s7;have hzA:=s7 _ _ hzs;refine⟨r,zs',_,Z,Z,hzA,aN ω,?_⟩;have hq':pl'[(ws.getD i bI).1+j]?=some q:=by rw[ew];exact hq
   have J8:=J7.put ha0 hq' (by rw[ew];lia) (by rw[ew];exact u24) bp (by rw[ew];exact ve);rw[ew] at J8;refine⟨_,_,Z,λb o nb e=>?_,(t67.trans (ay.same s7)).trans (ay.up hzA _),gA.put hr' hq hzA (az.mono λ_ _ z=>z.mono (ay.same s7)) hpc,J8⟩;rw[ai (λz=>nb (by rw[z];exact mr))];exact s7 _ _ (kr b o nb e)
  ·rintro σ H7 ⟨pl',y8,rfl,kr,t67,g7,J7⟩;rw[Us,lps,←sl] at J7;refine⟨pl',_,_,_,_,_,_,Z,λb o nb e=>?_,T6.keep (λo e=>kr _ _ nrt e) (λo e=>kr _ _ nrl e),g7,J7.done Z ω⟩;exact kr b o (λm=>by rw[rnH b m] at e;cases e) (kH6 b o nb (au e n0) e)
 ·rintro σ H2 ⟨pl,x3,x4,x5,x6,x7,x8,rfl,kp,T2,g2,I2⟩;rw[Us,lx] at I2;have PB:=OM few I2;have pln:=I2.len;refine⟨_,Z,D,Z,⟨_,aJ.of g2.top⟩,λD2 hD2=>dz (K:=K) (ds:=pl) (P:=MU K) (f:=λc=>c) (λ_ _ _ _ t z=>z.mono t) hD2 (cK (aJ.of g2.top)) (by rw[QK,g2.len,pln]) ω (λi x d H' hx hd sm Rk E kR=>?_) λHA ms sA hmA amA=>?_⟩
  ·rw[Q4] at hx;obtain⟨r,hr',rfl⟩:∃r,rows[i]?=some r/\x=.ref r:=by
    cases hrr:rows[i]? with
    |none=>rw[hrr] at hx;cases hx
    |some r=>rw[hrr] at hx;cases hx;exact⟨r,Z,Z⟩
   obtain⟨zs,hz,az⟩:=g2.row i r d hr' hd;refine⟨fz.set Z,_,Z,r,zs,Z,.inl ⟨aJ.of (sm _ _ hz),λl hl=>?_⟩⟩;have e:=ae hl (.tup zs);exact kR _ _ e ⟨l,zs,Z,cE.of aa,az.mono λ_ _ z=>z.mono (ay.same (sm.trans e))⟩
  rw[show pl.map (λc=>c)=pl from WI pl] at amA;refine⟨D2,ms,Z,.inl ⟨aJ.of hmA,λl hl=>?_⟩⟩;have e:=ae hl (.tup ms);have sAe:=sA.trans e;exact k _ pl _ (λb o nb q=>sAe _ _ (kp b o (λz=>nb (Q2.mpr z)) q)) (T2.same sAe) ⟨l,ms,Z,cE.of aa,amA.mono λ_ _ z=>z.mono (ay.same e)⟩ PB
theorem LQ(T:dA K mg t):aP P w K mg base c5 3 t.a_Q17 t.d_Q17 ["self","works","free","speed"] (iC K t.c_Pouring):=by
 refine T.F_Q17.ok vH ψ χ;obtain⟨x,dx,a,b,v,xs,ws,fr,r,D₀,rfl,hx,hA,al,g,nbx,hF,f24,f40,rv,r2,r1,r60,d0,d60,d84,rd,k⟩:=h;refine cR.ok (have:=vH.nd;(ac (kJ 4 vH.nd (qg (El T) hr T.Q20 (aj (fq sW ζb (aZ ["work"] [none] Z ζb ζa ζa ζa)) aH kg))) (ac (lZ (qv 0) (qv 1) Z) (ac (lZ (qv 0) ζd Z) (ac (lZ (qv 0) (kM sy (qv 4) (nK bf) nL) Z) (ac (lZ (qv 0) (kM sy (qv 4) (nK bf) nL) Z) (ac (lZ (qv 0) (aZ ["hands","parts"] [none,some 4] Z ζb ζa ζa ζe) Z) (aw (lZ (qv 0) (aZ ["work"] [none] Z ζb ζa ζa (λ_ _ _ _ _=>(by exact(by exact(fq nO (by exact(sR (aj bf aH gR))) (by exact(fH (v:=.int (24)) ν T.m_TURNS ⟨_,Z⟩))))))) Z))))))))) ?_
 nofun
 have hlen:=al.len;have l6:=g.len;have hS:aJ K H a xs:=aJ.of hA;have nax:a≠x:=λz=>by rw[z,hx] at hA;cases hA
 refine⟨_,Z,FQ,λl1 hl1=>?_⟩;obtain⟨s1,e1⟩:=jT hl1 (.lst [v]);generalize upd H l1 _=H1 at s1 e1 ⊢;have t1:=ay.same (K:=K) s1;refine⟨_,Z,a,Z,⟨_,s1.seq hS⟩,λl2 hl2=>dz (K:=K) (P:=RV K) (ds:=ws) (f:=λw:Wk=>w.2.2) (λ_ _ _ _ t p=>p.mono t) hl2 (cK (s1.seq hS)) hlen ω (λi y w H' hy hw s' R E kR=>?_) λH2 ys s2 e2 al2=>?_⟩
 ·obtain⟨w',hw',pw,am,rfl,hpw,ram⟩:=al.at hy;rw[hw] at hw'
  cases hw'
  have t':=ay.same (K:=K) (s1.trans s');refine⟨fz.set Z,_,Z,pw,_,_,_,Z,Z,t' _ _ hpw,Z,?_⟩;exact kR _ _ (ax.refl _) (ram.mono t')
 have ly:=al2.len;rw[QK] at ly;refine⟨l1,l2,_,_,Z,Z,s2 _ _ e1,e2,(by rw[SU];show 1+ys.length≤_;lia),λl3 hl3=>?_⟩;obtain⟨s3,e3⟩:=jT hl3 (.lst ([v]++ys));generalize upd H2 l3 _=H3 at s3 e3 ⊢;have s03:=(s1.trans s2).trans s3;have gr:∀q∈(r::ws.map λw=>w.2.2),0<q.2/\q.2∣(D₀:Int)/\q.1.natAbs<2^8990:=λq hq=>by
  rcases Rm.mp hq with z|z
  ·subst z;exact⟨r2,rd,Q7 r60 (Sa δ δ)⟩
  ·obtain⟨w,hw,rfl⟩:=QZ.mp z;have gg:=(g.gd w hw).2.2.1;have d1:=gg.dvd;exact⟨gg.pos,Uz d1 (SL.mpr d84),aO (gg.wf (n:=20) δ δ δ).top δ⟩
 refine⟨l3,_,r::ws.map λw=>w.2.2,D₀,Z,.inl (aJ.of e3),.cons (rv.mono (ay.same s03)) (al2.mono λ_ _ z=>z.mono (ay.same s3)),(by rw[RU,QK];lia),d0,Q7 d60 (Sa δ δ),gr,λlq B H4 s4 hlq b0 bd all e4=>?_⟩;have s04:=s03.trans s4;have rB:=all r QV;have wB:∀w∈ws,w.2.2.2∣B:=λw hw=>all _ (QX _ (QZ.mpr ⟨w,hw,Z⟩))
 have e4:H4 lq=some (.lst (V.int (fB B r)::(ws.map λw=>fB B w.2.2).map V.int)):=by
  rw[e4];unfold rW fB;rw[Rr,Rr,RO,RO,RO];rfl
 have hx4:=s04 _ _ hx;have nq:lq≠x:=λz=>by rw[z] at hlq;rw[s03 _ _ hx] at hlq;cases hlq
 have f4:H lq=none:=by
  cases q:H lq with
  |none=>rfl
  |some o=>rw[s03 _ _ q] at hlq;cases hlq
 have k4:∀b o,b≠x->H b=some o->H4 b=some o:=λb o _ e=>s04 b o e
 clear e1 e2 e3 hl1 hl2 hl3 s1 s2 s3 s03 s4 al2 hlq gr s04;refine⟨_,Z,_,Z,x,_,_,_,Z,hx4,T.cl_Pouring,T.n_Pouring_inside,(by show 0<1000;decide),?_⟩;generalize hh5:upd H4 x (.ins t.c_Pouring dx (gJ "inside" (.ref a) []))=H5;have x5:H5 x=some (.ins t.c_Pouring dx [("inside",.ref a)]):=by rw[←hh5];exact aa
 have e5lq:H5 lq=some (.lst (V.int (fB B r)::(ws.map λw=>fB B w.2.2).map V.int)):=by rw[←hh5,ai nq];exact e4
 have k5:∀b o,b≠x->H b=some o->H5 b=some o:=λb o nb e=>by rw[←hh5,ai nb];exact k4 b o nb e
 clear hh5;refine⟨_,Z,lq,_,_,_,Z,Z,aJ.of e5lq,aG (j:=0) Z,_,Z,x,_,_,_,Z,x5,T.cl_Pouring,T.n_Pouring_most,(by show 1<1000;decide),?_⟩;generalize hh6:upd H5 x (.ins t.c_Pouring dx (gJ "most" (.int (fB B r)) [("inside",.ref a)]))=H6;have x6:H6 x=some (.ins t.c_Pouring dx [("inside",.ref a),("most",.int (fB B r))]):=by rw[←hh6];exact aa
 have e6lq:H6 lq=some (.lst (V.int (fB B r)::(ws.map λw=>fB B w.2.2).map V.int)):=by rw[←hh6,ai nq];exact e5lq
 have k6:∀b o,b≠x->H b=some o->H6 b=some o:=λb o nb e=>by rw[←hh6,ai nb];exact k5 b o nb e
 clear hh6;have ct:mH (V.int (fB B r)::(ws.map λw=>fB B w.2.2).map V.int) (some 1) none=((ws.map λw=>fB B w.2.2).map V.int):=Fm (by show 1≤_+1;lia);refine⟨_,Z,_,Z,lq,_,Z,aJ.of e6lq,λlw hlw=>?_⟩;rw[ct];have w6:=ae hlw (.lst ((ws.map λw=>fB B w.2.2).map V.int));have nw:lw≠x:=λz=>by rw[z,x6] at hlw;cases hlw
 have nwq:lq≠lw:=au e6lq hlw;refine⟨_,Z,x,_,_,_,Z,(w6 _ _ x6),T.cl_Pouring,T.n_Pouring_whole,(by show 2<1000;decide),?_⟩;generalize hh7:upd (upd H6 lw (.lst ((ws.map λw=>fB B w.2.2).map V.int))) x (.ins t.c_Pouring dx (gJ "whole" (.ref lw) [("inside",.ref a),("most",.int (fB B r))]))=H7;have x7:H7 x=some (.ins t.c_Pouring dx [("inside",.ref a),("most",.int (fB B r)),("whole",.ref lw)]):=by rw[←hh7];exact aa
 have e7lq:H7 lq=some (.lst (V.int (fB B r)::(ws.map λw=>fB B w.2.2).map V.int)):=by rw[←hh7,ai nq];exact w6 _ _ e6lq
 have e7lw:H7 lw=some (.lst ((ws.map λw=>fB B w.2.2).map V.int)):=by rw[←hh7,ai nw];exact aa
 have k7:∀b o,b≠x->H b=some o->H7 b=some o:=λb o nb e=>by rw[←hh7,ai nb];exact w6 _ _ (k6 b o nb e)
 clear hh7;refine⟨_,Z,_,Z,lq,_,Z,aJ.of e7lq,λlr hlr=>?_⟩;rw[ct];have w7:=ae hlr (.lst ((ws.map λw=>fB B w.2.2).map V.int));have nr:lr≠x:=λz=>by rw[z,x7] at hlr;cases hlr
 have nrw:lw≠lr:=au e7lw hlr;refine⟨_,Z,x,_,_,_,Z,(w7 _ _ x7),T.cl_Pouring,T.n_Pouring_rest,(by show 3<1000;decide),?_⟩;generalize hh8:upd (upd H7 lr (.lst ((ws.map λw=>fB B w.2.2).map V.int))) x (.ins t.c_Pouring dx (gJ "rest" (.ref lr) [("inside",.ref a),("most",.int (fB B r)),("whole",.ref lw)]))=H8;have x8:H8 x=some (.ins t.c_Pouring dx [("inside",.ref a),("most",.int (fB B r)),("whole",.ref lw),("rest",.ref lr)]):=by rw[←hh8];exact aa
 have e8lq:H8 lq=some (.lst (V.int (fB B r)::(ws.map λw=>fB B w.2.2).map V.int)):=by rw[←hh8,ai nq];exact w7 _ _ e7lq
 have e8lw:H8 lw=some (.lst ((ws.map λw=>fB B w.2.2).map V.int)):=by rw[←hh8,ai nw];exact w7 _ _ e7lw
 have e8lr:H8 lr=some (.lst ((ws.map λw=>fB B w.2.2).map V.int)):=by rw[←hh8,ai nr];exact aa
 have k8:∀b o,b≠x->H b=some o->H8 b=some o:=λb o nb e=>by rw[←hh8,ai nb];exact w7 _ _ (k7 b o nb e)
 clear hh8;have hF8:aJ K H8 b (aQ fr):=by
  rcases hF with(q | ⟨o,q⟩)|q
  ·exact .inl (.inl (k8 _ _ nbx q))
  ·exact .inl (.inr ⟨o,k8 _ _ nbx q⟩)
  ·exact .inr q
 have bq60:(B/r.2).natAbs<2^60:=by
  have h1:=Sh ω bd;have h2:=UQ r.2 (Ry b0);have h3:=TL (Ry b0) (Ry r2);lia
 have nf:(aQ fr).length=24:=by unfold aQ;rw[QK,f24]
 refine⟨_,Z,b,Z,⟨_,hF8⟩,λlo hlo=>cr (cK hF8) (λ_=>true) (λi=>V.int (fB B r*((fr.getD i 0:Nat):Int))) hlo ω (λi y H' hi s' hy R E kR kE=>?_) λH9 s9 h9=>?_⟩
 ·obtain⟨f,hf,rfl⟩:=fe hy;rw[aD 0 hf] at kR;refine⟨fz.set Z,_,Z,lq,_,_,_,Z,Z,aJ.of (s' _ _ e8lq),aG (j:=0) Z,_,Z,_,_,Z,Z,⟨?_,?_⟩,kR Z _ (ax.refl _)⟩
  ·exact aO (dj (n:=60) (m:=60) r60 bq60) δ
  ·exact Q7 (show((f:Nat):Int).natAbs<2^40 from f40 f (QL hf)) (Sa δ δ)
 rw[nf] at h9;have h9':H9 lo=some (.lst ((fr.map λf:Nat=>fB B r*(f:Int)).map V.int)):=by
  have e:=bH 0 (λf:Nat=>V.int (fB B r*(f:Int))) fr;rw[f24] at e;rw[h9,e,RO];rfl
 have nlo:lo≠x:=λz=>by rw[z,x8] at hlo;cases hlo
 refine⟨_,Z,x,_,_,_,Z,(s9 _ _ x8),T.cl_Pouring,T.n_Pouring_room,(by show 4<1000;decide),?_⟩;generalize hh10:upd H9 x (.ins t.c_Pouring dx (gJ "room" (.ref lo) [("inside",.ref a),("most",.int (fB B r)),("whole",.ref lw),("rest",.ref lr)]))=H10;have x10:H10 x=some (.ins t.c_Pouring dx [("inside",.ref a),("most",.int (fB B r)),("whole",.ref lw),("rest",.ref lr),("room",.ref lo)]):=by rw[←hh10];exact aa
 have e10lw:H10 lw=some (.lst ((ws.map λw=>fB B w.2.2).map V.int)):=by rw[←hh10,ai nw];exact s9 _ _ e8lw
 have e10lr:H10 lr=some (.lst ((ws.map λw=>fB B w.2.2).map V.int)):=by rw[←hh10,ai nr];exact s9 _ _ e8lr
 have e10lo:H10 lo=some (.lst ((fr.map λf:Nat=>fB B r*(f:Int)).map V.int)):=by rw[←hh10,ai nlo];exact h9'
 have k10:∀b o,b≠x->H b=some o->H10 b=some o:=λb o nb e=>by rw[←hh10,ai nb];exact s9 _ _ (k8 b o nb e)
 clear hh10;have hS10:aJ K H10 a xs:=by
  rcases hS with(q | ⟨o,q⟩)|q
  ·exact .inl (.inl (k10 _ _ nax q))
  ·exact .inl (.inr ⟨o,k10 _ _ nax q⟩)
  ·exact .inr q
 refine⟨_,Z,a,Z,⟨_,hS10⟩,λlp hlp=>jb (J:=xx K a) (n:=xs.length) (λi ys H'=>∃rows:List Addr,ys=rows.map V.ref/\rows.length=i/\rows.Nodup/\lp∉rows/\(∀q∈rows,H10 q=none)/\ax H10 H'/\H' lp=some (.lst ys)/\∀q∈rows,H' q=some (.lst (Nj.map V.int))) ⟨[],Z,Z,SG,(λz=>by cases z),(λr hr=>by cases hr),ae hlp _,aa,λr hr=>by cases hr⟩ (λi ys H' hi ⟨rows,_,_,_,_,_,e6,_,_⟩=>⟨xs,_,e6.seq hS10,QH hi⟩) (λys H' ⟨rows,e1,e2,e3,e4,e5,e6,e7,e8⟩=>⟨⟨xs,e6.seq hS10,QY _⟩,?_⟩) ?_⟩
 ·have nlp:lp≠x:=λz=>by rw[z,x10] at hlp;cases hlp
  have nx:∀q∈rows,q≠x:=λq hq z=>by have:=e5 q hq;rw[z,x10] at this;cases this
  have fr0:∀q,q≠x->H10 q=none->H q=none:=λq nq h=>by
   cases c:H q with
   |none=>rfl
   |some o=>rw[k10 q o nq c] at h;cases h
  refine⟨_,Z,x,_,_,_,Z,(e6 _ _ x10),T.cl_Pouring,T.n_Pouring_poured,(by show 5<1000;decide),?_⟩;have x11:=e6 _ _ x10;refine k ⟨x,a,lw,lr,lo,lp,rows⟩ B _ (λb o nb e=>by rw[ai nb];exact e6 _ _ (k10 b o nb e)) Z Z ?_ b0 bd rB wB ?_
  ·intro q hq nq;have hq':q=x∨q=lw∨q=lr∨q=lo∨q=lp∨q∈rows:=by
    unfold j6.l at hq
    simpa [or_assoc] using hq
   rcases hq' with z|rfl|rfl|rfl|rfl|z
   ·exact absurd z nq
   ·exact none_of (λo=>k6 _ o nq) hlw
   ·exact none_of (λo=>k7 _ o nq) hlr
   ·exact none_of (λo=>k8 _ o nq) hlo
   ·exact fr0 _ nq hlp
   ·exact fr0 _ nq (e5 _ z)
  ·have n1:lw≠lr:=nrw;have n2:lw≠lo:=au e8lw hlo;have n3:lr≠lo:=au e8lr hlo;have n4:lw≠lp:=au e10lw hlp;have n5:lr≠lp:=au e10lr hlp;have n6:lo≠lp:=au e10lo hlp;have nrow:∀q∈rows,q≠lw/\q≠lr/\q≠lo:=λq hq=>by
    have h:=e5 q hq;exact⟨(λz=>by rw[z,e10lw] at h;cases h),(λz=>by rw[z,e10lr] at h;cases h),(λz=>by rw[z,e10lo] at h;cases h)⟩
   have na:∀q,q∈[lw,lr,lo,lp]++rows->H q=none->a≠q:=λq _ h=>au hA h
   have tst:∀o:HO,ay K H (upd H' x o):=λo b zs h=>by
    rcases h with(h | ⟨o,h⟩)|h
    ·have nb:b≠x:=λz=>by rw[z,hx] at h;cases h
     exact .inl (.inl (by rw[ai nb];exact e6 _ _ (k10 _ _ nb h)))
    ·have nb:b≠x:=λz=>by rw[z,hx] at h;cases h
     exact .inl (.inr ⟨o,by rw[ai nb];exact e6 _ _ (k10 _ _ nb h)⟩)
    ·exact .inr h
   refine⟨⟨dx,aa⟩,⟨xs,aJ.of (by rw[ai nax];exact e6 _ _ (k10 _ _ nax hA)),al.mono λ_ _ z=>z.mono (tst _)⟩,(by rw[ai nw];exact e6 _ _ e10lw),(by rw[ai nr];exact e6 _ _ e10lr),(by rw[ai nlo];exact e6 _ _ e10lo),(by rw[ai nlp,e7,e1]),?_,λi q r' h1 h2=>?_,?_,?_⟩
   ·show rows.length=(Q0 ws.length Nj).length;rw[R0,e2,hlen]
   ·have m:=QL h1;have h2':(Q0 ws.length Nj)[i]?=some r':=h2;rw[(Uf.mp (QL h2')).2];show upd H' x _ q=_;rw[ai (nx q m)];exact e8 q m
   ·show([x,lw,lr,lo,lp]++rows).Nodup;simp only[Wb,U3,RJ,Rm,not_or];exact⟨⟨nw.symm,nr.symm,nlo.symm,nlp.symm,λm=>nx x m Z⟩,⟨n1,n2,n4,λm=>(nrow _ m).1 Z⟩,⟨n3,n5,λm=>(nrow _ m).2.1 Z⟩,⟨n6,λm=>(nrow _ m).2.2 Z⟩,e4,e3⟩
   ·show a∉[x,lw,lr,lo,lp]++rows;intro m;have m':a=x∨a=lw∨a=lr∨a=lo∨a=lp∨a∈rows:=by simpa [or_assoc] using m
    have a10:=k10 _ _ nax hA;rcases m' with z|z|z|z|z|z
    ·exact nax z
    ·rw[←z] at hlw;rw[k6 _ _ nax hA] at hlw;cases hlw
    ·rw[←z] at hlr;rw[k7 _ _ nax hA] at hlr;cases hlr
    ·rw[←z] at hlo;rw[k8 _ _ nax hA] at hlo;cases hlo
    ·rw[←z,a10] at hlp;cases hlp
    ·have:=e5 _ z;rw[a10] at this;cases this
 rintro i ys H1 y H2 hi ⟨rows,rfl,e2,e3,e4,e5,e6,e7,e8⟩ ⟨rfl,_⟩ R E kR kE;refine⟨fz.set Z,?_⟩;refine⟨FQ,λq hq=>?_⟩;have s1:=ae hq (.lst [.int 0]);refine⟨q,.int 0,24,Z,Z,aa,ω,λr hr=>?_⟩;have s2:=ae hr (.lst (Q0 24 (.int 0)));have s12:=s1.trans s2;have nr_:r∉rows:=λm=>by rw[s1 _ _ (e8 r m)] at hr;cases hr
 have nD:r≠lp:=λz=>by subst z;rw[s1 _ _ e7] at hr;cases hr
 have hD4:=s12 _ _ e7;refine kR (.ref r) _ hD4 (aN (by rw[QK];lia)) ⟨rows++[r],by rw[Rb];rfl,by rw[Q8,e2];rfl,?_,?_,λz hz=>?_,λb o q=>?_,aa,λz hz=>?_⟩
 ·rw[TH];exact⟨e3,RJ.mpr ⟨(λz=>by cases z),SG⟩,λa ha b hb=>by rw[Q2.mp hb];exact λz=>nr_ (by rw[←z];exact ha)⟩
 ·intro m;rcases Rc.mp m with z|z
  ·exact e4 z
  ·exact nD (Q2.mp z).symm
 ·rcases Rc.mp hz with y|y
  ·exact e5 z y
  ·rw[Q2.mp y]
   cases c:H10 r with
   |none=>rfl
   |some o=>rw[s1 _ _ (e6 _ _ c)] at hr;cases hr
 ·rw[ai (au q hlp)];exact s12 _ _ (e6 _ _ q)
 ·rcases Rc.mp hz with y|y
  ·rw[ai (show z≠lp from λw=>e4 (by rw[←w];exact y))];exact s12 _ _ (e8 z y)
  ·rw[Q2.mp y,ai nD,aa];rfl
theorem LX(T:dA K mg t):aP P w K mg base c5 1 t.a_Q10 t.d_Q10 ["self","node"] (gu K t.c_Pouring):=by
 refine T.F_Q10.ok B9 ψ χ;obtain⟨p,s₀,v,rfl,pv,ok,hv,k⟩:=h;refine cR.ok (have:=B9.nd;(ac ζb (ac (cy ζb (aw (bC (aZ ["number","node","count","self"] [none,some 1,some 2,some 0] Z (by exact(dQ Z T.z_range ζb)) ζa (λ_ _ _ _ _=>(dY (aV uG (by exact(fx (dI (K:=K) ν) (by exact(fx (dI (K:=K) ν) (by exact(jm (K:=K) ν (by exact(qv 3)) ν)) (by exact(qv 0)) (by exact λ_ _=>Z))) (by exact(fq D8 (by exact(qv 1)) (by exact(qv 2)))) (by exact λ_ _=>Z))) bf (aX _)))) ζa))) be) (ac ζd (aw (bC (aZ ["turn","count","self","node"] [none,some 2,some 0,some 1] Z ζb ζa (λ_ _ _ _ _=>(dY (aV yx (by exact(fx (dI (K:=K) ν) (by exact(fx (dI (K:=K) ν) (by exact(jm (K:=K) ν (by exact(qv 2)) ν)) (by exact(qv 3)) (by exact λ_ _=>Z))) (by exact(qv 0)) (by exact λ_ _=>Z))) (by exact(jm (K:=K) ν (by exact(qv 2)) ν)) (aX _)))) ζa))))))) ?_
 nofun
 obtain⟨dx,hi⟩:=pv.ins;obtain⟨xs,hx,al⟩:=pv.hi;have hlen:=al.len;refine⟨_,Z,p.a,_,_,_,_,Z,hi,T.cl_Pouring,T.n_Pouring_inside,Z,p.li,_,Z,.inl hx,?_⟩;refine⟨_,Z,_,Z,_,_,Z,Z,_,Z,?_⟩;have n20:=ok.n20;have hpl:=pv.rl;have olp:=ok.lp;have at2:=λ(H':Hp) (z:ax H H') (i t:Nat) (hi:i<s₀.ws.length) (ht:t<24)=>(pv.same z).cell ok hi ht
 by_cases c:s₀.ws.length≤v
 ·refine bP ω ?_;refine⟨_,Z,xs.length,Z,ω,ω,λD hD=>cr (j7 (lo:=0) (n:=((xs.length:Nat):Int).toNat)) (λi=>decide (0<s₀.pf i (v-s₀.ws.length))) (λi=>V.int (i:Nat)) hD ω (λi x H' hi' s' hx' R E kR kE=>?_) λH4 s4 h4=>?_⟩
  ·subst hx';rw[S8];obtain⟨q,r,g1,g2,g3,g4⟩:=at2 H' s' i (v-s₀.ws.length) ω ω;refine⟨fz.set Z,_,Z,p.a,_,_,_,_,Z,s' _ _ hi,T.cl_Pouring,T.n_Pouring_poured,Z,_,Z,p.lp,_,_,_,Z,Z,aJ.of g1,aG g2,_,Z,_,Z,_,_,Z,Z,q,_,_,_,Z,Z,aJ.of g3,(by rw[show(v:Int)-(xs.length:Nat)=((v-s₀.ws.length:Nat):Int) by lia];exact aG g4),_,_,Z,Z,_,Z,?_⟩;by_cases d:0<s₀.pf i (v-s₀.ws.length)
   ·exact bP ω ⟨_,Z,kR (decide_eq_true d) _ (ax.refl _)⟩
   ·exact bJ ω (kE (decide_eq_false d) _ (ax.refl _))
  ·refine k D H4 s4 hD ?_;rw[h4,Us,hlen];unfold fK aQ;rw[if_pos c]
 refine bJ ω ?_;obtain⟨xw,hxw⟩:∃xw,xs[v]?=some xw:=⟨_,QH ω⟩;obtain⟨w,hw,pw,am,rfl,hpw,ram⟩:=al.at hxw;have ew:s₀.ws.getD v bI=w:=aD bI hw;obtain⟨w1,w2⟩:=ok.wk w (QL hw);refine⟨_,Z,p.a,_,_,_,_,Z,hi,T.cl_Pouring,T.n_Pouring_inside,Z,_,Z,p.li,_,_,_,Z,Z,hx,aG hxw,?_⟩;refine⟨_,Z,pw,_,_,_,Z,Z,hpw,Z,_,Z,pw,_,_,_,Z,Z,hpw,Z,_,_,Z,Z,(w.1:Int),(w.2.1:Int)+1,Z,⟨ω,ω,ω,ω⟩,λD hD=>cr (j7 (lo:=(w.1:Int)) (n:=((w.2.1:Int)+1-(w.1:Int)).toNat)) (λj=>decide (s₀.pf v (w.1+j)<s₀.M)) (λj=>V.int ((s₀.ws.length+(w.1+j):Nat):Int)) hD ω (λi x H' hi' s' hx' R E kR kE=>?_) λH4 s4 h4=>?_⟩
 ·subst hx';obtain⟨q,r,g1,g2,g3,g4⟩:=at2 H' s' v (w.1+i) ω ω;have ei:(w.1:Int)+(i:Nat)=((w.1+i:Nat):Int):=ω
  rw[ei];refine⟨fz.set Z,_,Z,p.a,_,_,_,_,Z,s' _ _ hi,T.cl_Pouring,T.n_Pouring_poured,Z,_,Z,p.lp,_,_,_,Z,Z,aJ.of g1,aG g2,_,Z,q,_,_,_,Z,Z,aJ.of g3,aG g4,_,Z,p.a,_,_,_,_,Z,s' _ _ hi,T.cl_Pouring,T.n_Pouring_most,Z,_,_,Z,Z,_,Z,?_⟩;by_cases d:s₀.pf v (w.1+i)<s₀.M
  ·refine bP ω ⟨_,Z,_,Z,_,_,Z,Z,?_⟩;have q:=kR (decide_eq_true d) _ (ax.refl _);rw[show((s₀.ws.length+(w.1+i):Nat):Int)=((xs.length:Nat):Int)+((w.1+i:Nat):Int) by lia] at q;exact q
  ·exact bJ ω (kE (decide_eq_false d) _ (ax.refl _))
 ·refine k D H4 s4 hD ?_;rw[h4,show((w.2.1:Int)+1-(w.1:Int)).toNat=w.2.1+1-w.1 by lia];unfold fK aQ;rw[if_neg c,ew,RO];rfl
theorem Jm(T:dA K mg t):aP P w K mg base c5 2 t.a_Q7 t.d_Q7 ["self","numbers"] (fU K t.c_Pouring):=by
 refine T.F_Q7.ok oH ψ χ;obtain⟨p,s₀,a,ns,rfl,pv,ok,hS,nd,lt,k⟩:=h;refine cR.ok (have:=oH.nd;(ac (kJ 2 oH.nd oI) (ac (kJ 3 oH.nd (cC lD (by rfl) T.z_list YB ζb)) (ac (dh PassesOwn.never Z (da (qv 1)) (bb (i:=4) oH.nd Z θ) (aw (nJ (iY hr) (qv 2) (qv 4) fX Z))) (ac ζb (ac (dF PassesOwn.never ζb (ac ζd (ac (dh PassesOwn.never Z (da (fc (qv 0) T.cl_Pouring T.M_Pouring_beside (LX T) (hr.mono δ) T.b_Q10 .nil dS ζb)) (bb (i:=7) oH.nd Z θ) (aw (cy (qJ (iY hr) (qv 7) (qv 2) (by with_unfolding_all rfl)) (ac (nJ (iY hr) (qv 2) (qv 7) (qv 6) Z)
   ζb) be)))
   (aw (Dp (i:=5) oH.nd Z θ bf tH)))))
   ζb)))))) ?_
 nofun
 refine λd hd=>?_
 have s1:=ae hd (.dK []);have e1:upd H d (.dK []) d=some (.dK (cP [])):=aa;generalize upd H d _=H1 at s1 e1 ⊢;refine⟨_,Z,a,aQ ns,Z,.inl (s1.seq hS),λlr hlr=>?_⟩;obtain⟨s2,r2⟩:=jT hlr (.lst (aQ ns));have e2:=s2 _ _ e1;have ndr:d≠lr:=au e1 hlr;generalize upd H1 lr _=H2 at s2 r2 e2 ⊢;have s02:=s1.trans s2;have h0r:H lr=none:=by
  cases q:H lr with
  |none=>rfl
  |some o=>rw[s1 _ _ q] at hlr;cases hlr
 have nl:(aQ ns).length=ns.length:=QK _;let Iv1:Nat->L2.St->Hp->Prop:=λi σ H'=>∃x4:Option V,σ=[some (.ref p.a),some (.ref a),some (.ref d),some (.ref lr),x4,none,none,none]/\(∀b o,b≠d->H2 b=some o->H' b=some o)/\H' d=some (.dK (cP ((ns.take i).map λv=>(v,none))))
 refine⟨_,Z,a,Z,⟨_,s02.seq hS⟩,c6 (K:=K) (a:=a) (xs:=aQ ns) Iv1 ⟨none,Z,λ_ _ _ e=>e,e2⟩ (λi σ H' _ ⟨_,_,k',_⟩=>(show ax H H' from λb o e=>k' b o (λz=>by rw[z,hd] at e;cases e) (s02 _ _ e)).seq hS) ?_ ?_⟩
 ·rintro i x σ H3 hx ⟨x4,rfl,k3,e3⟩;obtain⟨v,hv,rfl⟩:=fe hx;have il:=(QN.mp hv).1;have nv:v∉((ns.take i).map λv=>((v,none):Nat×Option Nat)).map (·.1):=λm=>by
   rw[RO] at m;have m':v∈ns.take i:=by
    obtain⟨w,hw,e⟩:=QZ.mp m;have e':w=v:=e;rw[←e'];exact hw
   obtain⟨j,hj,ej⟩:=Sy.mp m';rw[RD] at hj;rw[ZC] at ej;have ei:=(QN.mp hv).2;have:=(TY nd).mp (ej.trans ei.symm);lia
  refine⟨_,Z,_,Z,d,_,Z,vf.k (k:=RL (v:Int)) e3 (by unfold cP;rw[QK,QK,RD,SU];have:=mz nd lt;have:=ok.n20;lia),?_⟩;refine⟨_,Z,λb o nb e=>by rw[ai nb];exact k3 b o nb e,?_⟩;rw[aa,Rt,hv];show some (HO.dK (fY (cP ((ns.take i).map λv=>(v,none))) (RL (v:Int)) (oV none)))=_;rw[NY nv,Rb];rfl
 rintro σ H3 ⟨x4,rfl,k3,e3⟩;rw[nl,RW] at e3;have S0:=zt (s:=s₀) nd lt;have r3:=k3 _ _ ndr.symm r2;have rk:aQ ns=aQ ((ns.map λv=>((v,none):Nat×Option Nat)).map (·.1)):=by rw[RO];exact congrArg aQ (Ys _).symm
 rw[rk] at r3;generalize (ns.map λv=>((v,none):Nat×Option Nat))=sl0 at e3 S0 r3;have n20:=ok.n20;let Iv2:Nat->L2.St->Hp->Prop:=λm σ H'=>∃(sl:Sl) (pl:Nat) (x6 x7:Option V),σ=[some (.ref p.a),some (.ref a),some (.ref d),some (.ref lr),x4,some (.int (pl:Nat)),x6,x7]/\(∀b o,b≠d->b≠lr->H2 b=some o->H' b=some o)/\H' d=some (.dK (cP sl))/\H' lr=some (.lst (aQ (sl.map (·.1))))/\mJ s₀ ns sl/\M6 s₀ sl pl/\pl≤sl.length/\m=s₀.ws.length+24-pl
 refine⟨Iv2,⟨_,sl0,0,none,none,Z,λb o nb _ e=>k3 b o nb e,e3,r3,S0,(λi v o hi=>ω),Rq _,Z⟩,?_⟩;rintro m σ H4 ⟨sl,pl,x6,x7,rfl,k4,e4,r4,S4,C4,l4,rfl⟩;have ln4:(aQ (sl.map (·.1))).length=sl.length:=by unfold aQ;rw[QK,QK]
 have sll:=oG S4;have m4:ax H H4:=λb o e=>k4 b o (λz=>by rw[z,hd] at e;cases e) (λz=>by rw[z,h0r] at e;cases e) (s02 _ _ e)
 refine⟨_,Z,_,Z,lr,_,Z,.inl (aJ.of r4),_,_,Z,Z,_,Z,?_⟩;by_cases c:pl<sl.length
 rotate_left
 ·refine bJ ω ?_;have:pl=sl.length:=ω
  subst this;exact⟨_,Z,k d sl H4 m4 hd S4 C4 e4⟩
 refine bP ω ?_;refine⟨_,λ_ _ z=>z,?_⟩;obtain⟨⟨v,o⟩,hvo⟩:∃x,sl[pl]?=some x:=⟨_,QH c⟩;have vk:(aQ (sl.map (·.1)))[pl]?=some (.int (v:Nat)):=by unfold aQ;rw[Q4,Q4,hvo];rfl
 have hv:v<s₀.ws.length+24:=S4.lt _ (QL hvo);refine⟨_,Z,_,Z,lr,_,_,_,Z,Z,aJ.of r4,aG vk,?_⟩;have pv4:=pv.same m4;obtain⟨dx4,hi4⟩:=pv4.ins;refine⟨_,Z,p.a,_,_,Z,hi4,Z,_,Z,p,s₀,v,Z,pv4,ok,hv,λlb HB sB hlb eB=>?_⟩;have nbd:lb≠d:=λz=>by rw[z,e4] at hlb;cases hlb
 have nbr:lb≠lr:=λz=>by rw[z,r4] at hlb;cases hlb
 let Iv3:Nat->L2.St->Hp->Prop:=λj σ H'=>∃(ex:Sl) (y7:Option V),σ=[some (.ref p.a),some (.ref a),some (.ref d),some (.ref lr),x4,some (.int (pl:Nat)),some (.int (v:Nat)),y7]/\(∀b o,b≠d->b≠lr->HB b=some o->H' b=some o)/\H' d=some (.dK (cP (sl++ex)))/\H' lr=some (.lst (aQ ((sl++ex).map (·.1))))/\mJ s₀ ns (sl++ex)/\∀u∈(fK s₀ v).take j,u∈(sl++ex).map (·.1)
 refine⟨lb,Z,⟨_,aJ.of eB⟩,c6 (K:=K) (a:=lb) (xs:=aQ (fK s₀ v)) Iv3 ⟨[],x7,Z,λ_ _ _ _ e=>e,(by rw[R7];exact sB _ _ e4),(by rw[R7];exact sB _ _ r4),(by rw[R7];exact S4),(λu hu=>by cases hu)⟩ (λj σ H' _ ⟨_,_,_,k',_⟩=>aJ.of (k' _ _ nbd nbr eB)) ?_ ?_⟩
 ·rintro j x σ H5 hx ⟨ex,y7,rfl,k5,e5,r5,S5,C5⟩;obtain⟨u,hu,rfl⟩:=fe hx;have mu:=QL hu;have ul:=MK ok hv mu;have tk:∀w∈(fK s₀ v).take (j+1),w∈(fK s₀ v).take j∨w=u:=λw hw=>by
   rw[Rt,hu] at hw;rcases Rc.mp hw with z|z
   ·exact .inl z
   ·exact .inr (by simpa using z)
  have s5l:=oG S5;refine⟨_,Z,_,Z,d,_,Z,lM.k (k:=RL (u:Int)) e5,_,Z,?_⟩;rw[JP];by_cases cu:u∈(sl++ex).map (·.1)
  ·rw[decide_eq_true cu];refine dC ?_;refine⟨ex,_,Z,k5,e5,r5,S5,λw hw=>?_⟩;rcases tk w hw with z|z
   ·exact C5 w z
   ·rw[z];exact cu
  rw[decide_eq_false cu];refine fC ?_;refine⟨_,Z,_,Z,_,Z,d,_,Z,vf.k (k:=RL (u:Int)) (v:=V.int (v:Nat)) e5 (by unfold cP;rw[QK,SU];lia),?_⟩;rw[show V.int (v:Nat)=oV (some v) from Z,NY cu];have r6:upd H5 d (.dK (cP (sl++ex++[(u,some v)]))) lr=some (.lst (aQ ((sl++ex).map (·.1)))):=by rw[ai ndr.symm];exact r5
  have e6:upd H5 d (.dK (cP (sl++ex++[(u,some v)]))) d=some (.dK (cP (sl++ex++[(u,some v)]))):=aa;have k6:∀b o,b≠d->b≠lr->HB b=some o->upd H5 d (.dK (cP (sl++ex++[(u,some v)]))) b=some o:=λb o n1 n2 e=>by rw[ai n1];exact k5 b o n1 n2 e
  generalize upd H5 d _=H6 at r6 e6 k6 ⊢;refine⟨_,Z,.inl ⟨Z,_,aJ.of r6⟩,_,Z,lr,_,_,Z,Z,r6,aN (by unfold aQ;rw[QK,QK];lia),?_⟩;have S6:=S5.more ul cu mu (j:=pl) (o:=o) (by rw[RQ c];exact hvo);rw[Uv] at e6 S6;refine⟨ex++[(u,some v)],_,Z,λb o n1 n2 e=>by rw[ai n2];exact k6 b o n1 n2 e,(by rw[ai ndr];exact e6),?_,S6,λw hw=>?_⟩
  ·have en:aQ ((sl++ex++[(u,some v)]).map (·.1))=aQ ((sl++ex).map (·.1))++[V.int (u:Nat)]:=by
    unfold aQ;rw[Rb (l₁:=sl++ex),Rb];rfl
   rw[aa,←Uv,en]
  ·rw[←Uv,Rb];rcases tk w hw with z|z
   ·exact RN _ (C5 w z)
   ·rw[z];exact Rh _ (Q2.mpr Z)
 ·rintro σ H5 ⟨ex,y7,rfl,k5,e5,r5,S5,C5⟩;have lb_:(aQ (fK s₀ v)).length=(fK s₀ v).length:=QK _;rw[lb_,RW] at C5;have C6:M6 s₀ (sl++ex) (pl+1):=λi w o' hi hw u hu=>by
   by_cases ci:i<pl
   ·rw[RQ ω] at hw;have q:=C4 i w o' ci hw u hu;rw[Rb];exact RN _ q
   ·obtain rfl:i=pl:=ω
    rw[RQ c,hvo] at hw;injection hw with hw;injection hw with hw _;subst hw;exact C5 u hu
  refine⟨_,Z,_,_,Z,Z,?_⟩;have ei:((pl:Nat):Int)+1=((pl+1:Nat):Int):=ω
  refine⟨s₀.ws.length+24-(pl+1),ω,sl++ex,pl+1,_,_,by rw[←ei];rfl,λb o n1 n2 e=>k5 b o n1 n2 (sB _ _ (k4 b o n1 n2 e)),e5,r5,S5,C6,by rw[Q8];lia,Z⟩
theorem Jn(T:dA K mg t):aP P w K mg base c5 1 t.a_Q5 t.d_Q5 ["self","sources"] (fG K t.c_Pouring):=by
 refine T.F_Q5.ok IY ψ χ;obtain⟨p,s₀,d,sl,rfl,pv,ok,e,l60,k⟩:=h;refine cR.ok (have:=IY.nd;(ac ζb (aw (bC (aZ ["node","count"] [none,some 2] Z (by exact(Gu (qv 1))) ζa ζa ζa))))) ?_
 nofun
 obtain⟨dx,hi⟩:=pv.ins;obtain⟨xs,hx,al⟩:=pv.hi;have hlen:=al.len;refine⟨_,Z,p.a,_,_,_,_,Z,hi,T.cl_Pouring,T.n_Pouring_inside,Z,p.li,_,Z,.inl hx,?_⟩;refine⟨_,Z,d,cP sl,Z,e,λob D hD=>?_⟩;have le:(cP sl).length=sl.length:=QK _;have e2:upd H d (.frz ob (.dK (cP sl))) d=some (.frz ob (.dK (cP sl))):=aa;have k2:∀b o,b≠d->H b=some o->upd H d (.frz ob (.dK (cP sl))) b=some o:=λb o nb q=>by rw[ai nb];exact q
 have hD0:H D=none:=by
  cases q:H D with
  |none=>rfl
  |some o=>
   by_cases c:D=d
   ·rw[c,e2] at hD;cases hD
   ·rw[k2 _ _ c q] at hD;cases hD
 generalize upd H d _=H1 at hD e2 k2 ⊢;refine cr (AX e2) (λi=>decide (s₀.ws.length≤(sl.getD i (0,none)).1)) (λi=>V.int (((sl.getD i (0,none)).1-s₀.ws.length:Nat):Int)) hD ω (λi x H' hi' s' hx' R E kR kE=>?_) λH4 s4 h4=>?_
 ·obtain⟨kk,vv,rfl,hkv⟩:=hx';obtain⟨y,hy,rfl,rfl⟩:=Mz hkv;have g:sl.getD i (0,none)=y:=aD _ hy;rw[g] at kR kE;refine⟨fz.set Z,_,Z,_,Z,_,_,Z,Z,_,Z,?_⟩;by_cases c:s₀.ws.length≤y.1
  ·refine bP ω ⟨_,Z,_,Z,_,_,Z,Z,?_⟩;have q:=kR (decide_eq_true c) _ (ax.refl _);rw[show((y.1-s₀.ws.length:Nat):Int)=((y.1:Nat):Int)-((xs.length:Nat):Int) by lia] at q;exact q
  ·exact bJ ω (kE (decide_eq_false c) _ (ax.refl _))
 ·refine k D ob H4 (λb o nb q=>s4 _ _ (k2 b o nb q)) (s4 _ _ e2) hD0 ?_;rw[h4,le];unfold jK aQ;rw[RO];rfl
theorem Oh(T:dA K mg t):aP P w K mg base c5 3 t.a_Q1 t.d_Q1 ["self","number"] (eN K t.c_Pouring):=by
 refine T.F_Q1.ok IZ ψ χ;obtain⟨p,s₀,v,rfl,pv,F,hv,k⟩:=h;refine cR.ok (have:=IZ.nd;(aw (bC (bG (AD Z) (by rfl) T.z_any boot_any (aj (aZ ["turn","self"] [none,some 0] Z (by exact(da (fc (qv 0) T.cl_Pouring T.M_Pouring_turns_of (Jn T) (hr.mono δ) T.b_Q5 .nil dS (aj (fc (qv 0) T.cl_Pouring T.M_Pouring_reached (Jm T) (hr.mono δ) T.b_Q7 .nil dS ζb) aH aM)))) ζa ζa (λ_ _ _ _ _=>(by exact(by exact(gz uG (by exact(fx (dI (K:=K) ν) (by exact(jm (K:=K) ν (by exact(qv 1)) ν)) (by exact(qv 0)) (by exact λ_ _=>Z))) bf (aX _)))))) aH cU))))) ?_;nofun
 have ok:=F.ok;obtain⟨dx,hi⟩:=pv.ins;refine⟨_,Z,p.a,_,_,Z,hi,Z,_,Z,p.a,_,_,Z,hi,Z,_,Z,FQ,λl1 hl1=>?_⟩;have s1:=ae hl1 (.lst [.int (v:Nat)]);have e1:upd H l1 (.lst [.int (v:Nat)]) l1=some (.lst (aQ [v])):=aa;generalize upd H l1 _=H1 at s1 e1 ⊢;refine⟨p,s₀,l1,[v],Z,pv.same s1,ok,aJ.of e1,(RJ.mpr ⟨(λz=>nomatch z),SG⟩),λw hw=>by rw[Q2.mp hw];exact hv,λd sl H2 s2 hd S C e2=>?_⟩;have s02:=s1.trans s2;have sll:=oG S;have n20:=ok.n20;have h0d:H d=none:=by
  cases q:H d with
  |none=>rfl
  |some o=>rw[s1 _ _ q] at hd;cases hd
 refine⟨p,s₀,d,sl,Z,pv.same s02,ok,e2,ω,λl3 ob H3 k3 e3 hl3 h3=>?_⟩;have s03:ax H H3:=λb o e=>k3 b o (λz=>by rw[z,h0d] at e;cases e) (s02 _ _ e)
 have pv3:=pv.same s03;obtain⟨dx3,hi3⟩:=pv3.ins;have tl:(jK s₀.ws.length sl).length≤60:=by
  unfold jK;rw[QK];refine RC (U8 _ _) ?_;rw[Rx];lia
 have nl:(aQ (jK s₀.ws.length sl)).length=(jK s₀.ws.length sl).length:=QK _;refine⟨l3,Z,⟨_,aJ.of h3⟩,λD hD=>cr (cK (aJ.of h3)) (λ_=>true) (λi=>V.bl (decide (0<s₀.O.getD ((jK s₀.ws.length sl).getD i 0) 0))) hD ω (λi x H' hi' s' hx' R E kR kE=>?_) λH4 s4 h4=>?_⟩
 ·obtain⟨tt,htt,rfl⟩:=fe hx';have tlt:=A4 S (QL htt);rw[aD 0 htt] at kR;have olo:=ok.lo;refine⟨fz.set Z,_,Z,p.a,_,_,_,_,Z,s' _ _ hi3,T.cl_Pouring,T.n_Pouring_room,Z,_,Z,p.lo,_,_,_,Z,Z,aJ.of (s' _ _ pv3.ho),aG (dJ ω),_,_,Z,Z,?_⟩;exact kR Z _ (ax.refl _)
 ·rw[nl] at h4;have e4:=bH 0 (λt:Nat=>V.bl (decide (0<s₀.O.getD t 0))) (l:=jK s₀.ws.length sl);rw[e4,show(jK s₀.ws.length sl).map (λt:Nat=>V.bl (decide (0<s₀.O.getD t 0)))=((jK s₀.ws.length sl).map λt:Nat=>decide (0<s₀.O.getD t 0)).map V.bl by rw[RO];rfl] at h4;refine⟨D,_,Z,aJ.of h4,?_⟩;rw[Nl F hv S C];exact k H4 (s03.trans s4)
theorem Oi(T:dA K mg t):aP P w K mg base c5 1 t.a_Q0 t.d_Q0 ["self","source","node"] (dP K t.c_Pouring):=by
 refine T.F_Q0.ok I0 ψ χ;obtain⟨p,s₀,u,v,rfl,pv,ok,ed,k⟩:=h;refine cR.ok (have:=I0.nd;ζd) ?_;nofun
 obtain⟨dx,hi⟩:=pv.ins;obtain⟨xs,hx,al⟩:=pv.hi;have hlen:=al.len;refine⟨_,Z,p.a,_,_,_,_,Z,hi,T.cl_Pouring,T.n_Pouring_inside,Z,p.li,_,Z,.inl hx,?_⟩;refine⟨_,Z,_,Z,_,_,Z,Z,_,Z,?_⟩;by_cases c:u<s₀.ws.length
 ·refine bP ω ?_;have hv:s₀.ws.length≤v/\v<s₀.ws.length+24:=by
   rcases ed with⟨_,a,b⟩ | ⟨a,_,_⟩<;>lia
  obtain⟨q,r,g1,g2,g3,g4⟩:=pv.cell ok (t:=v-s₀.ws.length) c ω;refine⟨_,Z,p.a,_,_,_,_,Z,hi,T.cl_Pouring,T.n_Pouring_most,Z,_,Z,p.a,_,_,_,_,Z,hi,T.cl_Pouring,T.n_Pouring_poured,Z,_,Z,p.lp,_,_,_,Z,Z,aJ.of g1,aG g2,_,Z,_,Z,_,_,Z,Z,q,_,_,_,Z,Z,aJ.of g3,(by rw[show(v:Int)-(xs.length:Nat)=((v-s₀.ws.length:Nat):Int) by lia];exact aG g4),_,_,Z,Z,?_⟩;unfold EA at k;rw[if_pos c] at k;exact k
 ·refine bJ ω ?_;have hv:u<s₀.ws.length+24/\v<s₀.ws.length:=by
   rcases ed with⟨_,a,b⟩ | ⟨a,_,_⟩<;>lia
  obtain⟨q,r,g1,g2,g3,g4⟩:=pv.cell ok (t:=u-s₀.ws.length) hv.2 ω;refine⟨_,Z,p.a,_,_,_,_,Z,hi,T.cl_Pouring,T.n_Pouring_poured,Z,_,Z,p.lp,_,_,_,Z,Z,aJ.of g1,aG g2,_,Z,_,Z,_,_,Z,Z,q,_,_,_,Z,Z,aJ.of g3,(by rw[show(u:Int)-(xs.length:Nat)=((u-s₀.ws.length:Nat):Int) by lia];exact aG g4),?_⟩;unfold EA at k;rw[if_neg c] at k;exact k
theorem LP(T:dA K mg t):aP P w K mg base c5 1 t.a_Q18 t.d_Q18 ["self","source","node","amount"] (iA K t.c_Pouring):=by
 refine T.F_Q18.ok B6 ψ χ;obtain⟨p,s₀,u,v,a,rfl,pv,ok,ed,k⟩:=h;refine cR.ok (have:=B6.nd;(ac ζb (aw (cy ζb (aw (kI ζd ζb hU (qv 3) tH fW)) (aw (kI ζd ζb hU (qv 3) wL fW)))))) ?_
 nofun
 obtain⟨dx,hi⟩:=pv.ins;obtain⟨xs,hx,al⟩:=pv.hi;have hlen:=al.len;refine⟨_,Z,p.a,_,_,_,_,Z,hi,T.cl_Pouring,T.n_Pouring_inside,Z,p.li,_,Z,.inl hx,?_⟩;refine⟨_,Z,_,Z,_,_,Z,Z,_,Z,?_⟩;by_cases c:u<s₀.ws.length
 ·refine bP ω ?_;have hv:s₀.ws.length≤v/\v<s₀.ws.length+24:=by
   rcases ed with⟨_,a,b⟩ | ⟨a,_,_⟩<;>lia
  have rl:=pv.rl;have olp:=ok.lp;have h1:u<p.rows.length:=ω
  have h2:u<s₀.P.length:=ω
  have e1:=QH h1;have e2:=QH h2;have r24:=ok.row _ (Ri h2);have g:=pv.row _ _ _ e1 e2;have ePf:s₀.pf u (v-s₀.ws.length)=(s₀.P[u]).getD (v-s₀.ws.length) 0:=by unfold Ps.pf;rw[aD [] e2]
  refine⟨_,Z,p.a,_,_,_,_,Z,hi,T.cl_Pouring,T.n_Pouring_poured,Z,_,Z,p.lp,_,_,_,Z,Z,aJ.of pv.hp,aG (by rw[Q4,e1];rfl),_,Z,_,Z,_,_,Z,Z,p.rows[u],_,v-s₀.ws.length,_,Z,(by show V.int _=V.int _;congr 1;lia),aJ.of g,dJ ω,_,Z,_,_,Z,Z,p.rows[u],_,_,v-s₀.ws.length,Z,Z,g,(by rw[QK,show(v:Int)-(xs.length:Nat)=((v-s₀.ws.length:Nat):Int) by lia];exact kZ ω),?_⟩;rw[show(aak V.int s₀.P[u]).set (v-s₀.ws.length) (V.int ((s₀.P[u]).getD (v-s₀.ws.length) 0+a))=((s₀.P[u]).set (v-s₀.ws.length) ((s₀.P[u]).getD (v-s₀.ws.length) 0+a)).map V.int from(WJ ..).symm];obtain⟨pw,ps⟩:=pv.setRow e1 ((s₀.P[u]).set (v-s₀.ws.length) ((s₀.P[u]).getD (v-s₀.ws.length) 0+a));refine k _ ps ?_;unfold Ps.mv nj;rw[if_pos c,aD [] e2,ePf];exact pw
 ·refine bJ ω ?_;have hv:u<s₀.ws.length+24/\v<s₀.ws.length:=by
   rcases ed with⟨_,a,b⟩ | ⟨a,_,_⟩<;>lia
  have rl:=pv.rl;have olp:=ok.lp;have h1:v<p.rows.length:=ω
  have h2:v<s₀.P.length:=ω
  have e1:=QH h1;have e2:=QH h2;have r24:=ok.row _ (Ri h2);have g:=pv.row _ _ _ e1 e2;have ePf:s₀.pf v (u-s₀.ws.length)=(s₀.P[v]).getD (u-s₀.ws.length) 0:=by unfold Ps.pf;rw[aD [] e2]
  refine⟨_,Z,p.a,_,_,_,_,Z,hi,T.cl_Pouring,T.n_Pouring_poured,Z,_,Z,p.lp,_,_,_,Z,Z,aJ.of pv.hp,aG (by rw[Q4,e1];rfl),_,Z,_,Z,_,_,Z,Z,p.rows[v],_,u-s₀.ws.length,_,Z,(by show V.int _=V.int _;congr 1;lia),aJ.of g,dJ ω,_,Z,_,_,Z,Z,p.rows[v],_,_,u-s₀.ws.length,Z,Z,g,(by rw[QK,show(u:Int)-(xs.length:Nat)=((u-s₀.ws.length:Nat):Int) by lia];exact kZ ω),?_⟩;rw[show(aak V.int s₀.P[v]).set (u-s₀.ws.length) (V.int ((s₀.P[v]).getD (u-s₀.ws.length) 0-a))=((s₀.P[v]).set (u-s₀.ws.length) ((s₀.P[v]).getD (u-s₀.ws.length) 0-a)).map V.int from(WJ ..).symm];obtain⟨pw,ps⟩:=pv.setRow e1 ((s₀.P[v]).set (u-s₀.ws.length) ((s₀.P[v]).getD (u-s₀.ws.length) 0-a));refine k _ ps ?_;unfold Ps.mv nj;rw[if_neg c,aD [] e2,ePf];exact pw
theorem Od(T:dA K mg t):aP P w K mg base c5 3 t.a_Q8 t.d_Q8 ["self","number"] (fV K t.c_Pouring):=by
 refine T.F_Q8.ok IX ψ χ;obtain⟨p,s₀,n,rfl,pv,ok,hn,gd,a0,a200,p200,k⟩:=h;refine cR.ok (have:=IX.nd;(ac ζd (aw (bC (aZ ["part","work","number","self"] [none,some 2,some 1,some 0] Z ζd ζa ζa (λ_ _ _ _ _=>(by exact(by exact(d5 (tf T) (by exact hr.mono δ) ν T.Q61.m T.Q61.F.kp T.Q61.b (by exact .nil) (by exact dS) (aj (by exact(fx (js (K:=K) ν) (by exact(qv 1)) bf (by exact λ_ _=>Z))) (aj (by exact(d5 (we T) (by exact hr.mono δ) ν T.Q59.m T.Q59.F.kp T.Q59.b (by exact .nil) (by exact dS) (aj (by exact(qv 0)) (aj (by exact(fx (dI (K:=K) ν) (by exact(jm (K:=K) ν (by exact(qv 3)) ν)) (by exact(qv 2)) (by exact λ_ _=>Z))) aH dW) aB))) aH aM) dW)))))))))) ?_
 nofun
 obtain⟨dx,hi⟩:=pv.ins;obtain⟨xs,hx,al⟩:=pv.hi;have hlen:=al.len;obtain⟨xw,hxw⟩:∃xw,xs[n]?=some xw:=⟨_,QH ω⟩;obtain⟨w,hw,pw,am,rfl,hpw,ram⟩:=al.at hxw;have gw:=(gd w (QL hw)).2.2.1;refine⟨_,Z,p.a,_,_,_,_,Z,hi,T.cl_Pouring,T.n_Pouring_inside,Z,_,Z,p.li,_,_,_,Z,Z,hx,aG hxw,?_⟩;have hpl:=pv.rl;have olp:=ok.lp;have ola:=ok.la;have h1:n<p.rows.length:=ω
 have h2:n<s₀.P.length:=ω
 have e1:=QH h1;have e2:=QH h2;have lr:=ok.row _ (Ri h2);have g3:=pv.row n _ _ e1 e2;have erow:(s₀.P[n]).map (λz:Int=>aC w.2.2 (cJ z (s₀.A.getD n 0)))=(QM 24).map (m6 s₀ n):=by
  refine XR (by rw[QK,QK,Rx,lr]) λi i1 i2=>?_
  rw[QK] at i1;rw[UN,UN,YZ];unfold m6 Ps.pf;rw[aD bI hw,aD [] e2,aD 0 (QH i1)]
 refine⟨_,Z,p.a,_,_,_,_,Z,hi,T.cl_Pouring,T.n_Pouring_poured,Z,_,Z,p.lp,_,_,_,Z,Z,aJ.of pv.hp,aG (by rw[Q4,e1];rfl),p.rows[n],Z,⟨_,aJ.of g3⟩,λD hD=>dz (K:=K) (P:=RV K) (ds:=s₀.P[n]) (f:=λz:Int=>aC w.2.2 (cJ z (s₀.A.getD n 0))) (λ_ _ _ _ t p=>p.mono t) hD (cK (aJ.of g3)) (QK _) ω (λi y z H' hy hz s' R E kR=>?_) λH2 ys s2 hD2 al2=>k D ys H2 s2 hD hD2 (by rw[erow] at al2;exact al2)⟩;rw[Q4,hz] at hy
 cases hy
 have pvs:=pv.same s';have il:=(QN.mp hz).1;have ez:s₀.pf n i=z:=by unfold Ps.pf;rw[aD [] e2,aD 0 hz]
 have z200:=p200 i ω;rw[ez] at z200;have wq:Wf 200 (cJ z (s₀.A.getD n 0)):=iT a0 z200 a200;refine⟨fz.set Z,_,Z,pw,_,_,_,Z,Z,ay.same (K:=K) s' _ _ hpw,Z,_,Z,_,Z,p.a,_,_,_,_,Z,s' _ _ hi,T.cl_Pouring,T.n_Pouring_whole,Z,_,Z,p.lw,_,_,_,Z,Z,aJ.of pvs.hw,aG (dJ ω),_,_,Z,ω,aO a200 δ,λq hq=>?_⟩;rw[jp a0];have s3:=ae hq (.tup [.int (cJ z (s₀.A.getD n 0)).1,.int (cJ z (s₀.A.getD n 0)).2]);refine⟨_,_,w.2.2,_,20,200,Z,(ram.mono (ay.same s')).mono (ay.same s3),RV.of aa,gw.wf δ δ δ,wq,δ,λq2 hq2=>?_⟩;exact kR _ _ (s3.trans (ae hq2 _)) (RV.of aa)
theorem Lu(T:dA K mg t):aP P w K mg base c5 3 t.a_Q53 t.d_Q53 ["self","speed"] (oB K t.c_Q53):=by
 refine T.F_Q53.ok BE ψ χ;obtain⟨a,v,r,rfl,ha,hv,k⟩:=h;refine cR.ok (have:=BE.nd;have:=cS T.Q55 (Ls T);(aw (Gr Z (qv 0) ζb Z))) ?_;nofun
 exact⟨_,Z,v,r,Z,hv,λu H1 s1 hu=>⟨_,Z,a,_,_,Z,T.X_Q53.cl,T.n_Q53_speed,.inl ⟨s1 _ _ ha,λd hd nd=>k d u H1 s1 hu hd nd⟩⟩⟩
theorem LV(T:dA K mg t):aP P w K mg base (FP P w) 5 t.a_Q13 t.d_Q13 ["rule","speeds"] (nh K t.c_Q53):=by
 refine B.Fun.okD T.Q13.F J6 (λvs H Q E h=>?_) χ
 ·obtain⟨_,_,_,_,_,rfl,_⟩:=h;rfl
 obtain⟨v,l,rl,ys,ss,rfl,hv,ok,hS,al,l20,oks,k,ke⟩:=h;refine cR.ok (aw (cy (uz (jQ (aV uG (bG fJ (by rfl) T.z_len aaj (aj (qv 1) aH aB)) bf (aX _)) (kH (iR (qg (Ej T) hr T.Q30 (aj (qv 0) (aj (qg (Eg T) hr T.Q42 (aj (qv 1) aH aB)) aH aM) aB)))))) (aw (zJ T.X_Q53 (JO _) Z JU (Lu T) (hr.mono δ) T.b_Q53 Z T.m_Q53 (aj (qg (Eg T) hr T.Q42 (aj (qv 1) aH aB)) aH aM))) be)) ?_;nofun
 have lx:=al.len;have wf:∀r∈ss,Wf 98 r:=λr hr=>(oks r hr).sp.wf
 refine⟨_,Z,l,_,Z,.inl hS,_,_,Z,Z,_,Z,?_⟩;by_cases c0:0<ss.length
 rotate_left
 ·refine bJ ω (dC ?_);exact k λs hs=>absurd (X6 hs) c0
 refine bP ω ?_;refine⟨_,Z,_,Z,l,ys,ss,Z,.inl hS,eh al,wf,c0,λj u r hj hr mx=>?_⟩;have m:=QL hr;have rv:RV K H u r:=by
  obtain⟨r',hr',rv⟩:=al.at hj;rw[hr] at hr'
  cases hr'
  exact rv
 refine⟨v,u,rl,r,Z,hv,ok,rv,wf r m,_,Z,?_⟩
 cases c:df rl r with
 |false=>
  refine dC ?_;exact k λs hs=>hZ (oks s hs).bq.pos (oks r m).bq.pos ok ((bD (oks r m).bq.pos (oks s hs).bq.pos).mp (mx s hs)) (d9 ok c)
 |true=>
  refine fC ?_;have nb:=Aa ok c;refine⟨_,Z,l,ys,ss,Z,.inl hS,eh al,wf,c0,λj2 w r2 hj2 hr2 mx2=>?_⟩;obtain⟨r3,hr3,rv2⟩:=al.at hj2;rw[hr2] at hr3
  cases hr3
  refine⟨FQ,λx hx=>?_⟩;have s0:=ae hx (rh x t.c_Q53 none);refine⟨x,w,r2,Z,aa,rv2.mono (ay.same s0),λd u H1 s1 hu hd nd=>⟨Z,some d,(by rw[ai nd.symm];exact aa),?_⟩⟩;refine ke ⟨r,m,nb⟩ d u _ (λb o z=>?_) ?_
  ·have nbx:b≠x:=au z hx;have z1:=s1 _ _ (s0 _ _ z);unfold Fk;rw[if_neg nbx,ai (au z1 hd),ai nbx];exact z1
  ·unfold Fk;rw[if_neg nd];exact aa
theorem LS(T:dA K mg t):aP P w K mg base (FP P w) 8 t.a_Q15 t.d_Q15 ["rule","speeds"] (m8 K t.c_Q53):=by
 refine B.Fun.okD T.Q15.F J5 (λvs H Q E h=>?_) χ
 ·obtain⟨_,_,_,_,_,rfl,_⟩:=h;rfl
 obtain⟨v,l,rl,ys,ss,rfl,hv,ok,hS,al,l20,oks,k,ke⟩:=h;refine cR.ok (ac (dZ (d5 (LV T) (hr.mono δ) Z T.Q13.m T.Q13.F.kp T.Q13.b .nil Jk (aj (qv 0) (aj (qv 1) aH aB) aB))) (aw (bC (cC bV (by rfl) T.z_tuple boot_tuple (aj (gY (N':=["speed","rule"]) (src:=[none,some 0]) Z (by exact(da (qv 1))) (λ_ _ _ _ _=>(by exact(by exact bb (i:=0) (by show U1 (["speed","rule"]:List RF);decide +kernel) ν θ))) (λ_ _ _ _ _=>jk) (λ_ _ _ _ _=>(by exact(by exact(im (aj (by exact(qv 0)) (aj (by exact(d5 (LN T) (by exact hr.mono δ) ν T.Q21.m T.Q21.F.kp T.Q21.b (by exact .nil) (by exact dS) (aj (by exact(qv 1)) (aj (by exact(qv 0)) aH aB) aB))) aH aM) aB))))) (by exact⟨Z,Z,Z,Z,trivial⟩) Z (by decide +kernel) Z (by decide +kernel) (by exact cj Z ⟨Z,trivial⟩)) aH cU))))) ?_
 nofun
 have lx:=al.len;refine⟨_,Z,_,Z,v,l,rl,ys,ss,Z,hv,ok,hS,al,l20,oks,λall=>?_,λnb d u H1 s1 hd=>ke nb d u H1 s1 hd⟩;refine⟨_,Z,l,Z,⟨_,hS⟩,λD hD=>dz (K:=K) (P:=λ_ _ _=>True) (ds:=ss) (f:=λs:R=>s) (λ_ _ _ _ _ _=>Ti) hD (cK hS) lx ω (λi x s H' hx hs s' R E kR=>?_) λH2 zs s2 hD2 al2=>⟨D,zs,Z,.inl ⟨aJ.of hD2,λpt hpt=>k all _ _ (s2.trans (ae hpt _))⟩⟩⟩;obtain⟨s0,hs0,rvs⟩:=al.at hx;rw[hs] at hs0
 cases hs0
 have ms:=QL hs;have t':=ay.same (K:=K) s';exact⟨fz.set Z,_,Z,_,Z,_,Z,v,x,rl,s,Z,hv.mono t',ok,rvs.mono t',(oks s ms).sp,all s ms,λv2 H2 s2 r2=>⟨eI,λq hq=>kR _ _ (s2.trans (ae hq _)) Ti⟩⟩
theorem Og(T:dA K mg t):aP P w K mg base c5 2 t.a_Q2 t.d_Q2 ["self","sources","turn"] (eK K t.c_Pouring):=by
 refine T.F_Q2.ok uw ψ χ;obtain⟨p,s₀,d,ns,sl,tn,rfl,pv,F,hd,S,nz,mem,o0,k⟩:=h;refine cR.ok (have:=uw.nd;(ac ζb (ac ζb (ac (dF PassesOwn.never (aV nP (oJ (iY hr) (qv 1) (fx kY (qv 4) (yi sg bf) (λ_ _=>Z)) (λ_ _=>Z)) fX (aX _)) (aw (dZ (mT Sr SY SZ eV (qv 4) (aj (oJ (iY hr) (qv 1) (fx kY (qv 4) (yi sg bf) (λ_ _=>Z)) (λ_ _=>Z)) aH dW))))) (ac ζd (ac (dh PassesOwn.never Z (dQ Z T.z_range ζb) (bb (i:=6) uw.nd Z θ) (aw (dZ (mT Sr SY SZ eV (qv 5) (aj (fc (qv 0) T.cl_Pouring T.M_Pouring_most_between (Oi T) (hr.mono δ) T.b_Q0 .nil dS ζd) aH aM))))) (ac (kJ 7 uw.nd (bG (Az Z) (by rfl) T.z_min boot_min ζb)) (ac (kI ζb (qv 2) hU (qv 7) wL fW) (ac (kI ζb ζd hU (qv 7) wL fW) (aw (dh PassesOwn.never Z (dQ Z T.z_range ζb) (bb (i:=6) uw.nd Z θ) (aw (dZ (fc (qv 0) T.cl_Pouring T.M_Pouring_move (LP T) (hr.mono δ) T.b_Q18 .nil dS ζd)))))))))))))) ?_
 nofun
 have ok:=F.ok;obtain⟨dx,hi⟩:=pv.ins;obtain⟨xs,hx,al⟩:=pv.hi;have hlen:=al.len;refine⟨_,Z,p.a,_,_,_,_,Z,hi,T.cl_Pouring,T.n_Pouring_inside,Z,p.li,_,Z,.inl hx,?_⟩;refine⟨_,Z,_,Z,_,_,Z,Z,FQ,λlw hlw=>?_⟩;obtain⟨s1,e1⟩:=jT hlw (.lst [.int ((xs.length:Nat)+(tn:Nat))]);generalize upd H lw _=H1 at s1 e1 ⊢;rw[hlen,show((s₀.ws.length:Nat):Int)+(tn:Nat)=((s₀.ws.length+tn:Nat):Int) by lia] at e1;have hrd:∀{H2:Hp},ax H H2->Rd H2 d (.dK (cP sl)):=λz=>by
  rcases hd with h | ⟨o,h⟩
  ·exact .inl (z _ _ h)
  ·exact .inr ⟨o,z _ _ h⟩
 obtain⟨x0,hx0,ex0⟩:=QZ.mp mem;obtain⟨i0,hi0,rfl⟩:=Sy.mp hx0;have n20:=ok.n20;have sll:=oG S;have tn24:tn<24:=by have:=S.lt _ hx0;lia
 refine⟨λm σ H'=>∃way:List Nat,σ=[some (.ref p.a),some (.ref d),some (.int (tn:Nat)),some (.int (xs.length:Nat)),some (.ref lw),none,none,none]/\(∀b o,b≠lw->H1 b=some o->H' b=some o)/\H' lw=some (.lst (aQ way))/\FM s₀ way/\0<way.length/\way.getD 0 0=s₀.ws.length+tn/\(∃o,sl[m]?=some (way.getD (way.length-1) 0,o))/\(∀x∈way,∃i o,m≤i/\sl[i]?=some (x,o)),⟨i0,[s₀.ws.length+tn],Z,λ_ _ _ e=>e,e1,?_,Nat.one_pos,Z,⟨sl[i0].2,?_⟩,λx hx=>⟨i0,sl[i0].2,QY _,?_⟩⟩,?_⟩
 ·exact⟨(RJ.mpr ⟨(λz=>nomatch z),SG⟩),λj hj=>absurd hj (by show ¬j+1<1;lia),λj hj=>by
   have:j=0:=by
    have:j<1:=hj;lia
   subst this;show s₀.ws.length+tn<_;lia⟩
 ·rw[QH hi0];show some sl[i0]=some (s₀.ws.length+tn,_);rw[←ex0]
 ·rw[Q2.mp hx,QH hi0,←ex0]
 rintro m σ H2 ⟨way,rfl,k2,e2,W2,l2,w0,⟨o2,lst2⟩,ix2⟩;have s2:ax H H2:=λb o e=>k2 b o (au e hlw) (s1 _ _ e)
 have nl2:(aQ way).length=way.length:=QK _;have el:uc (aQ way) (-1)=some (.int ((way.getD (way.length-1) 0:Nat):Int)):=EG l2;have wl:way.length≤s₀.ws.length+24:=mz W2.nd λj hj=>by
  obtain⟨i,hi,rfl⟩:=Sy.mp hj;have:=W2.lt i hi;rw[aD 0 (QH hi)] at this;exact this
 refine⟨_,Z,_,Z,_,Z,lw,_,_,_,Z,Z,aJ.of e2,el,d,oV o2,Z,.inl ⟨cP sl,RL _,hrd s2,Z,(rZ S.nd lst2).symm⟩,Z,_,Z,?_⟩
 cases o2 with
 |some u=>
  rw[show decide (oV (some u)=V.non)=false from decide_eq_false (λz=>nomatch z)];refine fC ?_;refine⟨_,λ_ _ z=>z,?_⟩;obtain⟨b,j,hj,oj,ej⟩:=S.src _ _ _ lst2;refine⟨_,Z,.inl ⟨Z,_,aJ.of e2⟩,_,Z,_,Z,_,Z,lw,_,_,_,Z,Z,aJ.of e2,el,d,oV (some u),Z,.inl ⟨cP sl,RL _,hrd s2,Z,(rZ S.nd lst2).symm⟩,lw,_,_,Z,Z,e2,aN ω,?_⟩;have nu:u∉way:=λz=>by
   obtain⟨i,o,hi,ei⟩:=ix2 u z;have:=J4 S.nd ei ej;lia
  have W3:=W2.more l2 nu b (S.lt _ (QL ej));have ll:(way++[u]).length-1=way.length:=by rw[Q8];rfl
  refine⟨j,hj,way++[u],Z,λb o nb e=>by rw[ai nb];exact k2 b o nb e,?_,W3,by rw[Q8];lia,by rw[iZ l2];exact w0,⟨oj,by rw[ll,jG];exact ej⟩,λx hx=>?_⟩
  ·rw[aa];unfold aQ;rw[Rb];rfl
  ·rcases Rc.mp hx with z|z
   ·obtain⟨i,o,hi,ei⟩:=ix2 x z;exact⟨i,o,ω,ei⟩
   ·rw[Q2.mp z];exact⟨j,oj,QY _,ej⟩
 |none=>
  refine dC ?_;have mla:=S.root _ (QL lst2);obtain⟨la20,rla⟩:=nz _ mla;generalize ela:way.getD (way.length-1) 0=la at mla la20 rla el;have pv2:=pv.same s2;obtain⟨dx2,hi2⟩:=pv2.ins;have olo:=ok.lo;have olr:=ok.lr;refine⟨_,Z,p.a,_,_,_,_,Z,hi2,T.cl_Pouring,T.n_Pouring_room,Z,_,Z,p.lo,_,_,_,Z,Z,aJ.of pv2.ho,aG (dJ ω),?_⟩;refine⟨_,Z,p.a,_,_,_,_,Z,hi2,T.cl_Pouring,T.n_Pouring_rest,Z,_,Z,_,Z,lw,_,_,_,Z,Z,aJ.of e2,el,p.lr,_,_,_,Z,Z,aJ.of pv2.hr,aG (dJ ω),eI,λlb hlb=>?_⟩;have s3:=ae hlb (.lst [.int (s₀.O.getD tn 0),.int (s₀.R.getD la 0)]);have e3:upd H2 lb (.lst [.int (s₀.O.getD tn 0),.int (s₀.R.getD la 0)]) lb=some (.lst ((Iq s₀ way tn la 0).map V.int)):=aa;have nbw:lb≠lw:=λz=>by rw[z,e2] at hlb;cases hlb
  generalize upd H2 lb _=H3 at s3 e3 ⊢;have s03:=s2.trans s3;have w3:=s3 _ _ e2;have hH_lb:H lb=none:=by
   cases q:H lb with
   |none=>rfl
   |some o=>rw[s2 _ _ q] at hlb;cases hlb
  have nlw:lw∉p.l:=λz=>by
   rcases pv.kind z with⟨_,_,q⟩ | ⟨_,q⟩<;>rw[hlw] at q<;>cases q
  have nlb:lb∉p.l:=λz=>by
   rcases pv.kind z with⟨_,_,q⟩ | ⟨_,q⟩<;>rw[hH_lb] at q<;>cases q
  have at':∀{H':Hp} (j:Nat),j<way.length->H' lw=some (.lst (aQ way))->(aQ way)[j]?=some (.int ((way.getD j 0:Nat):Int)):=λj hj _=>by
   unfold aQ;rw[Q4,QH hj,aD 0 (QH hj)];rfl
  let Iv1:Nat->L2.St->Hp->Prop:=λi σ H'=>∃y6:Option V,σ=[some (.ref p.a),some (.ref d),some (.int (tn:Nat)),some (.int (xs.length:Nat)),some (.ref lw),some (.ref lb),y6,none]/\(∀b o,b≠lb->H3 b=some o->H' b=some o)/\H' lb=some (.lst ((Iq s₀ way tn la i).map V.int))
  refine⟨_,Z,lw,_,Z,.inl (aJ.of w3),_,_,Z,Z,_,Z,ω,ω,cD (lo:=0) (n:=((((aQ way).length:Nat):Int)-1).toNat) Iv1 ⟨none,Z,λ_ _ _ e=>e,e3⟩ ?_ ?_⟩
  ·rintro i σ H4 hin ⟨y6,rfl,k4,e4⟩;have s4:ax H H4:=λb o e=>k4 b o (au e hH_lb) (s03 _ _ e)
   have pv4:=pv.same s4;obtain⟨dx4,hi4⟩:=pv4.ins;have w4:=k4 _ _ nbw.symm w3;have hi':i+1<way.length:=ω
   rw[S8];refine⟨_,Z,.inl ⟨Z,_,aJ.of e4⟩,_,Z,p.a,_,_,Z,hi4,Z,_,Z,_,Z,_,_,Z,Z,lw,_,_,_,Z,Z,aJ.of w4,(by rw[show((i:Nat):Int)+1=((i+1:Nat):Int) by lia];exact aG (at' (i+1) hi' w4)),_,Z,_,Z,lw,_,_,_,Z,Z,aJ.of w4,aG (at' i ω w4),p,s₀,_,_,Z,pv4,ok,tP ok (W2.lt (i+1) hi') (W2.ed i hi'),lb,_,_,Z,Z,e4,aN (by unfold Iq;rw[QK,Q8,QK,Rx];show 2+i≤1000;lia),?_⟩;refine⟨_,Z,λb o nb e=>by rw[ai nb];exact k4 b o nb e,?_⟩;rw[aa,Ip,Rb];rfl
  rintro σ H4 ⟨y6,rfl,k4,e4⟩;have s4:ax H H4:=λb o e=>k4 b o (au e hH_lb) (s03 _ _ e)
  have pv4:=pv.same s4;have w4:=k4 _ _ nbw.symm w3;obtain⟨dx4,hi4⟩:=pv4.ins;have en:((((aQ way).length:Nat):Int)-1).toNat=way.length-1:=ω
  rw[en] at e4;refine⟨_,Z,lb,_,Z,aJ.of e4,by unfold Iq;rw[Q8];show 0<2+_;lia,λa ha hle=>?_⟩;have ao:=hle _ (show s₀.O.getD tn 0∈Iq s₀ way tn la (way.length-1) from RN _ (QV ..));have ar:=hle _ (show s₀.R.getD la 0∈Iq s₀ way tn la (way.length-1) from RN _ (QX _ (QV ..)));have am:∀j,j+1<way.length->a≤EA s₀ (way.getD (j+1) 0) (way.getD j 0):=λj hj=>hle _ (Rh _ (QZ.mpr ⟨j,Q5.mpr ω,Z⟩))
  have a0:0<a:=by
   rcases Rc.mp ha with z|z
   ·rcases Rm.mp z with z|z
    ·lia
    ·rw[Q2.mp z];exact rla
   ·obtain⟨j,hj,rfl⟩:=QZ.mp z;have hj':=Q5.mp hj;exact Md ok (W2.lt (j+1) ω) (W2.ed j ω)
  refine⟨_,Z,p.a,_,_,_,_,Z,hi4,T.cl_Pouring,T.n_Pouring_room,Z,_,Z,p.lo,_,tn,_,Z,Z,aJ.of pv4.ho,dJ ω,_,Z,_,_,Z,Z,p.lo,_,_,tn,Z,Z,pv4.ho,kZ (by rw[QK];lia),?_⟩;rw[show(aak V.int s₀.O).set tn (V.int (s₀.O.getD tn 0-a))=(s₀.O.set tn (s₀.O.getD tn 0-a)).map V.int from(WJ ..).symm];obtain⟨pv5,st5⟩:=pv4.setO (s₀.O.set tn (s₀.O.getD tn 0-a));have w5:=st5 _ _ nlw w4;generalize upd H4 p.lo _=H5 at pv5 st5 w5 ⊢;obtain⟨dx5,hi5⟩:=pv5.ins;refine⟨_,Z,p.a,_,_,_,_,Z,hi5,T.cl_Pouring,T.n_Pouring_rest,Z,_,Z,_,Z,lw,_,_,_,Z,Z,aJ.of w5,el,p.lr,_,la,_,Z,Z,aJ.of pv5.hr,dJ (show la<s₀.R.length by lia),_,Z,_,_,Z,Z,p.lr,_,_,la,Z,Z,pv5.hr,kZ (by rw[QK];show la<s₀.R.length;lia),?_⟩;rw[show(aak V.int s₀.R).set la (V.int (s₀.R.getD la 0-a))=(s₀.R.set la (s₀.R.getD la 0-a)).map V.int from(WJ ..).symm];obtain⟨pv6,st6⟩:=pv5.setR (s₀.R.set la (s₀.R.getD la 0-a));have w6:=st6 _ _ nlw w5;generalize upd H5 p.lr _=H6 at pv6 st6 w6 ⊢;have pv6':ib K t.c_Pouring H6 p (s₀.less tn la a):=pv6;have st06:pZ p H H6:=((pZ.of s4).trans st5).trans st6;have W6:FM (s₀.less tn la a) way:=⟨W2.nd,W2.ed,W2.lt⟩;clear pv6;let Iv2:Nat->L2.St->Hp->Prop:=λi σ H'=>∃y6:Option V,σ=[some (.ref p.a),some (.ref d),some (.int (tn:Nat)),some (.int (xs.length:Nat)),some (.ref lw),some (.ref lb),y6,some (.int a)]/\pZ p H6 H'/\ib K t.c_Pouring H' p (t9 (s₀.less tn la a) way a i)
  refine⟨_,Z,lw,_,Z,.inl (aJ.of w6),_,_,Z,Z,_,Z,ω,ω,cD (lo:=0) (n:=((((aQ way).length:Nat):Int)-1).toNat) Iv2 ⟨_,Z,λ_ _ _ e=>e,pv6'⟩ ?_ ?_⟩
  ·rintro i σ H7 hin ⟨y7,rfl,k7,pv7⟩;obtain⟨dx7,hi7⟩:=pv7.ins;have w7:=k7 _ _ nlw w6;have hi':i+1<way.length:=ω
   have m7:=Pr (yI ok tn la a) W6 a i ω;rw[S8];refine⟨_,Z,p.a,_,_,Z,hi7,Z,_,Z,_,Z,_,_,Z,Z,lw,_,_,_,Z,Z,aJ.of w7,(by rw[show((i:Nat):Int)+1=((i+1:Nat):Int) by lia];exact aG (at' (i+1) hi' w7)),_,Z,_,Z,lw,_,_,_,Z,Z,aJ.of w7,aG (at' i ω w7),_,Z,p,_,_,_,a,Z,pv7,m7.ok,(by
    have q:=tP ok (W2.lt (i+1) hi') (W2.ed i hi');unfold M0 at q ⊢;rw[m7.sm.ws];exact q),λH8 st8 pv8=>?_⟩
   exact⟨_,Z,k7.trans st8,pv8⟩
  ·rintro σ H7 ⟨y7,rfl,k7,pv7⟩;rw[en] at pv7;obtain⟨f1,f2,f3⟩:=OP F W2 l2 tn24 w0 la20 ela a0 ao ar am;exact k _ H7 (st06.trans k7) pv7 f1 f2 (HM F la20 a0 ar f3 f2.ws)
theorem LO(T:dA K mg t):aP P w K mg base c5 3 t.a_Q19 t.d_Q19 ["self"] (iz K t.c_Pouring):=by
 refine T.F_Q19.ok vG ψ χ;obtain⟨p,s₀,rfl,pv,F,k⟩:=h;refine cR.ok (have:=vG.nd;(aw (dF PassesOwn.never ζb (ac (kJ 1 vG.nd (fc (qv 0) T.cl_Pouring T.M_Pouring_reached (Jm T) (hr.mono δ) T.b_Q7 .nil dS (aj (aZ ["number","rest"] [none,none] Z (by exact(kK Z T.z_enumerate ζb)) ζa ζa ζa) aH cU))) (ac (fm 2 ["turn","self"] [none,some 0] Z (by exact(da (fc (qv 0) T.cl_Pouring T.M_Pouring_turns_of (Jn T) (hr.mono δ) T.b_Q5 .nil dS ζb))) ζa (λ_ _ _ _ _=>(dY (aV uG (by exact(fx (dI (K:=K) ν) (by exact(jm (K:=K) ν (by exact(qv 1)) ν)) (by exact(qv 0)) (by exact λ_ _=>Z))) bf (aX _)))) ζa) (ac ζb (aw (dZ (fc (qv 0) T.cl_Pouring T.M_Pouring_pour_along (Og T) (hr.mono δ) T.b_Q2 .nil dS ζd))))))))) ?_
 nofun
 refine⟨λm σ H'=>∃(s:Ps) (x1 x2:Option V),σ=[some (.ref p.a),x1,x2]/\pZ p H H'/\ib K t.c_Pouring H' p s/\zh s/\xn s₀ s/\m=s.mu,⟨s₀.mu,s₀,none,none,Z,λ_ _ _ e=>e,pv,F,.refl _,Z⟩,?_⟩;rintro m σ H1 ⟨s₁,x1,x2,rfl,st1,pv1,F1,sb1,rfl⟩;refine⟨_,Z,fC ⟨_,λ_ _ z=>z,?_⟩⟩;have ok:=F1.ok;have n20:=ok.n20;have olr:=ok.lr;have olo:=ok.lo;obtain⟨dx,hi⟩:=pv1.ins;have lm:(s₁.R.map V.int).length=s₁.ws.length:=by rw[QK,olr]
 refine⟨_,Z,p.a,_,_,Z,hi,Z,_,Z,p.a,_,_,_,_,Z,hi,T.cl_Pouring,T.n_Pouring_rest,Z,p.lr,Z,⟨_,aJ.of pv1.hr⟩,λD hD=>cr (nF (aJ.of pv1.hr)) (λi=>decide (0<s₁.R.getD i 0)) (λi=>V.int (i:Nat)) hD ω (λi x H' hi' s' hx' R E kR kE=>?_) λH4 s4 h4=>?_⟩
 ·obtain⟨pe,y,rfl,hy,hpe⟩:=hx';rw[dJ ω] at hy
  cases hy
  refine⟨pe,_,Z,cE.of hpe,Z,_,_,Z,_,_,Z,Z,(fz.set Z).set' Z,_,Z,_,_,Z,Z,_,Z,?_⟩;by_cases c:0<s₁.R.getD i 0
  ·exact bP ω ⟨_,Z,kR (decide_eq_true c) _ (ax.refl _)⟩
  ·exact bJ ω (kE (decide_eq_false c) _ (ax.refl _))
 rw[lm] at h4;have h4':H4 D=some (.lst (aQ (M4 s₁))):=h4;refine⟨p,s₁,D,M4 s₁,Z,pv1.same s4,ok,aJ.of h4',UR.filter _,λv hv=>(kU.mp hv).1,λd sl H5 s5 hd5 S C e5=>?_⟩;have s15:=s4.trans s5;have pv5:=pv1.same s15;obtain⟨dx5,hi5⟩:=pv5.ins;have sll:=oG S;refine⟨_,Z,p.a,_,_,Z,hi5,Z,_,Z,p,s₁,d,sl,Z,pv5,ok,e5,ω,λl6 ob H6 k6 e6 hl6 h6=>?_⟩;have h1d:H1 d=none:=by
  cases q:H1 d with
  |none=>rfl
  |some o=>rw[s4 _ _ q] at hd5;cases hd5
 have s16:ax H1 H6:=λb o e=>k6 b o (λz=>by rw[z,h1d] at e;cases e) (s15 _ _ e)
 have pv6:=pv1.same s16;obtain⟨dx6,hi6⟩:=pv6.ins;have tl:(jK s₁.ws.length sl).length≤60:=by
  unfold jK;rw[QK];refine RC (U8 _ _) ?_;rw[Rx];lia
 have nl:(aQ (jK s₁.ws.length sl)).length=(jK s₁.ws.length sl).length:=QK _;refine⟨l6,Z,⟨_,aJ.of h6⟩,λD7 hD7=>cr (cK (aJ.of h6)) (λi=>decide (0<s₁.O.getD ((jK s₁.ws.length sl).getD i 0) 0)) (λi=>V.int (((jK s₁.ws.length sl).getD i 0:Nat):Int)) hD7 ω (λi x H' hi' s' hx' R E kR kE=>?_) λH8 s8 h8=>?_⟩
 ·obtain⟨tt,htt,rfl⟩:=fe hx';have tlt:=A4 S (QL htt);rw[aD 0 htt] at kR kE;refine⟨fz.set Z,_,Z,p.a,_,_,_,_,Z,s' _ _ hi6,T.cl_Pouring,T.n_Pouring_room,Z,_,Z,p.lo,_,_,_,Z,Z,aJ.of (s' _ _ pv6.ho),aG (dJ ω),_,_,Z,Z,_,Z,?_⟩;by_cases c:0<s₁.O.getD tt 0
  ·exact bP ω ⟨_,Z,kR (decide_eq_true c) _ (ax.refl _)⟩
  ·exact bJ ω (kE (decide_eq_false c) _ (ax.refl _))
 rw[nl] at h8;have s18:=s16.trans s8;have pv8:=pv1.same s18;obtain⟨dx8,hi8⟩:=pv8.ins;have e8:=s8 _ _ e6;refine⟨_,Z,D7,_,Z,.inl (aJ.of h8),Z,_,Z,?_⟩
 cases en:((QM (jK s₁.ws.length sl).length).filter λi=>decide (0<s₁.O.getD ((jK s₁.ws.length sl).getD i 0) 0)) with
 |nil=>
  refine bP Z ?_;have no:∀t∈jK s₁.ws.length sl,¬0<s₁.O.getD t 0:=λt ht z=>by
   obtain⟨i,hi,rfl⟩:=Sy.mp ht;have m:i∈((QM (jK s₁.ws.length sl).length).filter λi=>decide (0<s₁.O.getD ((jK s₁.ws.length sl).getD i 0) 0)):=Q3.mpr ⟨Q5.mpr hi,decide_eq_true (by rw[aD 0 (QH hi)];exact z)⟩;rw[en] at m
   cases m
  exact⟨_,Z,k s₁ sl d H8 (st1.trans (pZ.of s18)) pv8 sb1 (Hc F1 S C no) (.inr ⟨ob,e8⟩)⟩
 |cons i0 r=>
  refine bJ (λz=>by injection z with z;rw[QK,RU] at z;lia) ?_;rw[en] at h8;have m:i0∈((QM (jK s₁.ws.length sl).length).filter λi=>decide (0<s₁.O.getD ((jK s₁.ws.length sl).getD i 0) 0)):=by rw[en];exact QV
  obtain⟨m1,m2⟩:=Q3.mp m;have il:=Q5.mp m1;have o2:=of_decide_eq_true m2;have tm:(jK s₁.ws.length sl).getD i0 0∈jK s₁.ws.length sl:=by rw[aD 0 (QH il)];exact Ri il
  refine⟨_,Z,p.a,_,_,Z,hi8,Z,_,Z,_,Z,D7,_,_,_,Z,Z,aJ.of h8,aG (j:=0) (by rw[Rr];rfl),p,s₁,d,M4 s₁,sl,_,Z,pv8,F1,.inr ⟨ob,e8⟩,S,λv hv=>kU.mp hv,tF.mp tm,o2,λs' H9 st9 pv9 F9 sb9 mu9=>?_⟩;exact⟨s'.mu,mu9,s',_,_,Z,(st1.trans (pZ.of s18)).trans st9,pv9,F9,sb1.trans sb9,Z⟩
theorem Of(T:dA K mg t):gFx P w base T.Q4 5 (fE K t.c_Pouring):=by
 refine T.Q4.F.ok ye ψ χ;obtain⟨a,b,xs,ws,fr,rfl,hA,al,g,w0,hF,f24,f20,pos,k⟩:=h;refine cR.ok (have:=ye.nd;have:=cS T.Q66 (Lo T);(ac ζb (aw (dF PassesOwn.never ζb (ac ζb (ac (kJ 4 ye.nd (Gw T.K_Pouring (LQ T) (hr.mono δ) Z T.m_Pouring T.b_Q17 .nil dS ζb)) (ac (kJ 5 ye.nd (Dw (qv 4) T.cl_Pouring T.M_Pouring_pour (LO T) (hr.mono δ) T.b_Q19 .nil dS)) (ac (cy (aV qO (bG AC (by rfl) T.z_len aaj ζb) bf (aX _)) ζb be) (aw (fm 2 ["number","work","sources"] [none,none,some 5] Z (by exact(kK Z T.z_enumerate ζb)) ζa (λ_ _ _ _ _=>(dY (Kr (by exact iY hr) (by exact(qv 0)) (by exact(qv 2)) (by with_unfolding_all rfl)))) ζa)))))))))) ?_
 nofun
 have hlen:=al.len;have l6:=g.len;refine⟨_,Z,?_⟩;let Iv1:Nat->L2.St->Hp->Prop:=λm σ H'=>∃(S:Nat->Bool) (lg:Addr) (zs:List V) (x3 x4 x5:Option V),σ=[some (.ref a),some (.ref b),some (.ref lg),x3,x4,x5]/\ax H H'/\aJ K H' lg zs/\bR (tX K H') zs (gW ws ((QM ws.length).filter S))/\(∃i,i<ws.length/\S i=true)/\m=O9 ws fr (pq ws fr ((QM ws.length).filter S))
 refine⟨Iv1,⟨_,λ_=>true,a,xs,none,none,none,Z,ax.refl _,aJ.of hA,(by rw[Sg.mpr (by intros;rfl),Mt];exact al),⟨0,w0,Z⟩,Z⟩,?_⟩;rintro m σ H1 ⟨S,lg,zs,x3,x4,x5,rfl,s1,hG,alG,⟨i0,hi0,hS0⟩,rfl⟩;refine⟨_,Z,fC ⟨_,λ_ _ z=>z,?_⟩⟩;have b0:=DJ (S:=S) f24 pos (Q5.mpr hi0) hS0;have lG:(gW ws ((QM ws.length).filter S)).length≤6:=by
  unfold gW;rw[QK];have:=U8 S (QM ws.length);rw[Rx] at this;lia
 have gG:∀w∈gW ws ((QM ws.length).filter S),zj w:=λw hw=>by
  obtain⟨i,hi,rfl⟩:=QZ.mp hw;exact g.gd _ (jA (Q5.mp (Q3.mp hi).1))
 have nG:gW ws ((QM ws.length).filter S)≠[]:=λz=>by
  have m:i0∈(QM ws.length).filter S:=Q3.mpr ⟨Q5.mpr hi0,hS0⟩;rw[List.map_eq_nil_iff.mp z] at m
  cases m
 have b144:=OK (ws:=gW ws ((QM ws.length).filter S)) f24 f20 gG;obtain⟨pq1,pq2,pq3⟩:=Ho f24 gG lG b0 nG;have epq:pq ws fr ((QM ws.length).filter S)=val (iD (gW ws ((QM ws.length).filter S)) fr):=by
  have b':(0:Rat)<((dD (gW ws ((QM ws.length).filter S)) fr:Nat):Rat):=Uo.mpr b0;unfold pq;rw[←pq3];generalize ((dD (gW ws ((QM ws.length).filter S)) fr:Nat):Rat)=y at b' ⊢;generalize val (iD (gW ws ((QM ws.length).filter S)) fr)=x;have:y≠0:=by grind
  grind
 refine⟨_,Z,_,Z,lg,b,zs,_,fr,Z,hG,alG,ω,λw hw=>(gG w hw).2.2.1,aJ.of (s1 _ _ hF),f24,b0,ω,λv H2 s2 rv=>?_⟩;generalize er:iD (gW ws ((QM ws.length).filter S)) fr=r at pq1 pq2 pq3 epq rv;have s02:=s1.trans s2;have rw60:Wf 60 r:=pq1.wf ω ω ω;refine⟨_,Z,_,Z,_,Z,λx dx hx hdx ndx=>?_⟩;have sm3:ax H2 (upd (upd H2 dx (.own x)) x (.ins t.c_Pouring dx [])):=(ae hdx _).trans (ae (by rw[ai ndx.symm];exact hx) _);have x3':upd (upd H2 dx (.own x)) x (.ins t.c_Pouring dx []) x=some (.ins t.c_Pouring dx []):=aa;generalize upd (upd H2 dx _) x _=H3 at sm3 x3' ⊢;have s03:=s02.trans sm3;have nbx:b≠x:=λz=>by have:=s02 _ _ hF;rw[z,hx] at this;cases this
 refine⟨x,dx,a,b,v,xs,ws,fr,r,84*dD (gW ws ((QM ws.length).filter S)) fr,Z,x3',s03 _ _ hA,al.mono (λ_ _ z=>z.mono (ay.same s03)),g,nbx,aJ.of (s03 _ _ hF),f24,λf hf=>RH (f20 f hf) δ,rv.mono (ay.same sm3),pq1.pos,pq2,rw60.top,ω,ω,Nat.dvd_mul_right _ _,pq1.dvd,λp B H5 k5 pa pli fresh B0 Bd rB wB pv5=>⟨Z,?_⟩⟩;subst pli;have S25:ax H2 H5:=λc o e=>k5 c o (λz=>by rw[z,hx] at e;cases e) (sm3 _ _ e)
 have fr2:∀q∈p.l,H2 q=none:=λq hq=>by
  by_cases z:q=x
  ·rw[z];exact hx
  ·exact none_of (λo e=>sm3 _ _ e) (fresh q hq z)
 clear k5;obtain⟨F5,L5⟩:=N0 g f24 B0 pq1.pos rB pq2 wB;obtain⟨dx5,hi5⟩:=pv5.ins;rw[←pa];refine⟨_,Z,p.a,_,_,Z,hi5,Z,p,_,Z,pv5,F5,λs6 sl d H6 st6 pv6 sb6 E6 rd6=>?_⟩;have ew:s6.ws=ws:=sb6.ws;have ef:s6.fr=fr:=sb6.fr;have S26:ax H2 H6:=λc o e=>st6 c o (λm=>by rw[fr2 c m] at e;cases e) (S25 c o e)
 have s06:=s02.trans S26;have L6:JJ s6 r B:=⟨B0,by rw[sb6.M];exact L5.M,λi hi=>by rw[sb6.A,sb6.ws];rw[sb6.ws] at hi;exact L5.A i hi⟩;have ev:iI (gW s6.ws ((QM s6.ws.length).filter S))=val r*((dD (gW s6.ws ((QM s6.ws.length).filter S)) s6.fr:Nat):Rat):=by rw[ew,ef];exact pq3.symm
 have rn:0≤val r:=by
  have x1:(0:Rat)<((r.1:Int):Rat):=lN pq2;have x2:(0:Rat)<((r.2:Int):Rat):=lN pq1.pos;apply SE;unfold val;rw[VV x2,X7];exact x1
 refine⟨_,Z,d,cP sl,Z,rd6,Z,_,Z,?_⟩;by_cases c:sl=[]
 ·refine bP (by rw[c];rfl) ?_;refine⟨_,Z,_,Z,eI,λq hq=>?_⟩;have s7:=ae hq (.tup [v,.ref p.a]);refine k q v p s6 r _ (s06.trans s7) (cE.of aa) ((rv.mono (ay.same S26)).mono (ay.same s7)) (pv6.same s7) ⟨E6.F,ew,ef,?_,λi hi=>?_,?_,pq1.mono (JC ⟨dD (gW ws ((QM ws.length).filter S)) fr,ω⟩ b0) (QY _),qM E6 c,⟨B,L6,_,b0,b144,Bd⟩,g,pq2⟩
  ·rw[sb6.M];exact Jp B0 Bd ω ω pq1.pos rw60.top
  ·rw[sb6.A];show((ws.map λw=>fB B w.2.2).getD i 0).natAbs<_;rw[DI hi];have gg:=g.gd _ (jA hi);exact Jp B0 Bd ω ω gg.2.2.1.pos (gg.2.2.1.wf (n:=60) δ δ δ).top
  ·have q:=Qx E6.F L6 pq1.red rn (qM E6 c) (S₀:=S) (by rw[ew,ef];exact b0) ev;rw[ew,ef] at q;exact q
 refine bJ (λz=>c (by
  injection z with z;unfold cP at z;rw[QK] at z;exact VL.mp ω)) ?_
 have sh:=vX E6 L6 c;rw[ew,ef] at sh;have ln:xs.length=ws.length:=hlen;refine⟨_,Z,p.li,Z,⟨_,aJ.of (s06 _ _ hA)⟩,λD hD=>cr (nF (aJ.of (s06 _ _ hA))) (λi=>decide (i∈sl.map (·.1))) (λi=>xs.getD i V.non) hD ω (λi y H' hi' s' hy R E kR kE=>?_) λH8 s8 h8=>?_⟩
 ·obtain⟨pe,y',rfl,hy',hpe⟩:=hy;rw[aD V.non hy'] at kR;refine⟨pe,_,Z,cE.of hpe,Z,_,_,Z,_,_,Z,Z,(fz.set Z).set' Z,_,Z,_,Z,d,_,Z,.inl ⟨cP sl,RL (i:Int),(rd6.imp (s' _ _) λ⟨o,e⟩=>⟨o,s' _ _ e⟩),Z,Z⟩,_,Z,?_⟩;rw[JP];by_cases cu:i∈sl.map (·.1)
  ·rw[decide_eq_true cu] at kR kE ⊢;exact fC ⟨_,Z,kR Z _ (ax.refl _)⟩
  ·rw[decide_eq_false cu] at kR kE ⊢;exact dC (kE Z _ (ax.refl _))
 rw[ln] at h8;have s08:=s06.trans s8;have al8:=jf (L:=(QM ws.length).filter λi=>decide (i∈sl.map (·.1))) (al.mono λ_ _ z=>z.mono (ay.same s08)) λi hi=>Q5.mp (Q3.mp hi).1
 have ex:∃i,i<ws.length/\decide (i∈sl.map (·.1))=true:=by
  cases e:(QM ws.length).filter λi=>decide (i∈sl.map (·.1)) with
  |nil=>
   rw[e] at sh;have z:iI (gW ws [])=0:=Z;have n0:(0:Rat)≤((dD (gW ws []) fr:Nat):Rat):=by
    have:=TV.mpr (Rq (dD (gW ws []) fr));exact this
   have:=TC rn n0;grind
  |cons j l=>
   have m:=Q3.mp (show j∈(QM ws.length).filter λi=>decide (i∈sl.map (·.1)) by rw[e];exact QV);exact⟨j,Q5.mp m.1,m.2⟩
 obtain⟨j,hj,hSj⟩:=ex;refine⟨_,?_,λi=>decide (i∈sl.map (·.1)),D,_,_,_,_,Z,s08,aJ.of h8,al8,⟨j,hj,hSj⟩,Z⟩;rw[epq];exact Ma (DJ (S:=λi=>decide (i∈sl.map (·.1))) f24 pos (Q5.mpr hj) hSj) sh
theorem Lp(T:dA K mg t):gFx P w base T.Q63 6 (uu K):=by
 refine T.Q63.F.ok ik ψ χ;obtain⟨v,h₀,ws,rfl,wv,g,h1,h20,k⟩:=h;refine cR.ok (have:=ik.nd;have:=cS T.Q4 (Of T);(ac (kJ 2 ik.nd oI) (ac (kJ 3 ik.nd (cC (w8 Z) (by rfl) T.z_list YB (aj (yj Z T.z_range ζb) aH aM))) (ac (kJ 4 ik.nd (fq nO ζb (fH (v:=.int (24)) Z T.m_TURNS ⟨_,Z⟩))) (ac (dF PassesOwn.never ζb (ac (kJ 5 ik.nd (aZ ["number","works"] [none,some 0] Z ζb ζa ζa ζa)) (ac ζb (ac ζb (ac ζb (ac (fm 9 ["place","pouring"] [none,some 8] Z ζb ζa (λ_ _ _ _ _=>(dY (Dk (iR (by exact(fc (by exact(qv 1)) T.cl_Pouring T.M_Pouring_has_way_on (Oh T) (by exact hr.mono δ) T.b_Q1 (by exact .nil) (by exact dS) (aj (by exact(qv 0)) aH aB))))))) ζa) (ac (dh PassesOwn.never Z (da (qv 9)) (bb (i:=10) ik.nd Z θ) (aw (nJ (iY hr) (qv 2) ζd (im (aj (qv 7) (aj (fc (qv 8) T.cl_Pouring T.M_Pouring_amounts (Od T) (hr.mono δ) T.b_Q8 .nil dS ζb) aH aM) aB)) Z))) (ac (kJ 11 ik.nd (qg (Ek T) hr T.Q28 (aj (aZ ["place","staying"] [none,some 5] Z ζb ζa ζa ζe) (aj (qv 4) aH aB) cU))) (ac (kJ 4 ik.nd (aZ ["turn","free","busy"] [none,some 4,some 11] Z ζb ζa ζa ζe)) (aw (fm 3 ["number","told"] [none,some 2] Z ζb ζa (λ_ _ _ _ _=>(dY (qJ (by exact iY hr) (by exact(qv 0)) (by exact(qv 1)) (by with_unfolding_all rfl)))) ζa))))))))))) (aw (bC (aZ ["number","told"] [none,some 2] Z ζb ζa ζa (λ_ _ _ _ _=>(by exact(by exact(oJ (by exact iY hr) (by exact(qv 1)) (by exact(qv 0)) (by exact λ_ _=>Z))))))))))))) ?_
 nofun
 obtain⟨pw,xs,rfl,hS,al⟩:=id wv;have hlen:=al.len;have l6:=g.len;refine λd hd=>?_
 have s1:=ae hd (.dK []);have e1:upd H d (.dK []) d=some (.dK (ir [])):=aa;generalize upd H d _=H1 at s1 e1 ⊢;refine⟨_,Z,pw,_,Z,.inr (ay.same (K:=K) s1 _ _ hS),_,Z,λpr hpr=>?_⟩;rw[hlen];have s2:=ae hpr (.rng 0 ws.length);refine⟨pr,ws.length,Z,aa,ω,λln hln=>?_⟩;have s3:=ae hln (.lst ((B.upTo ws.length).map V.int));have n3:upd (upd H1 pr (.rng 0 ws.length)) ln (.lst ((B.upTo ws.length).map V.int)) ln=some (.lst (aQ (QM ws.length))):=by rw[aa,A2]
 have e3:=(s2.trans s3) _ _ e1;have s03:=(s1.trans s2).trans s3;generalize upd (upd H1 pr _) ln _=H3 at n3 e3 s03 ⊢;refine⟨_,Z,FQ,λl4 hl4=>?_⟩;have s4:=ae hl4 (.lst [.int (h₀:Nat)]);refine⟨l4,_,24,Z,Z,aa,δ,λlf hlf=>?_⟩;have s5:=ae hlf (.lst (Q0 24 (V.int (h₀:Nat))));have f5:upd (upd H3 l4 (.lst [.int (h₀:Nat)])) lf (.lst (Q0 24 (V.int (h₀:Nat)))) lf=some (.lst (aQ (Q0 24 h₀))):=by rw[aa];unfold aQ;rw[List.map_replicate]
 have s35:=s4.trans s5;generalize upd (upd H3 l4 _) lf _=H5 at f5 s35 ⊢;have T0:TI K H5 (ID K) ws h₀ [] (λ_=>vg) (QM ws.length) (Q0 24 h₀):=TI.first h1 h20 g.gd;let Iv1:Nat->L2.St->Hp->Prop:=λm σ H'=>∃(ns fr:List Nat) (ln lf:Addr) (tl:Tl) (f:Nat->Rw) (x5 x6 x7 x8 x9 x10 x11:Option V),σ=[some (.ref pw),some (.int (h₀:Nat)),some (.ref d),some (.ref ln),some (.ref lf),x5,x6,x7,x8,x9,x10,x11]/\ax H H'/\H' ln=some (.lst (aQ ns))/\H' lf=some (.lst (aQ fr))/\H' d=some (.dK (ir tl))/\TI K H' (ID K) ws h₀ tl f ns fr/\m=ns.length
 refine⟨Iv1,⟨_,_,_,ln,lf,[],_,none,none,none,none,none,none,none,Z,s03.trans s35,s35 _ _ n3,f5,s35 _ _ e3,T0,Z⟩,?_⟩;clear T0 f5 s35 n3 e3 s03 s1 s2 s3 s4 s5 hlf hl4 hln hpr e1;rintro m σ H1 ⟨ns,fr,ln,lf,tl,f,x5,x6,x7,x8,x9,x10,x11,rfl,s1,hn1,hf1,hd1,T1,rfl⟩;have nln:(aQ ns).length=ns.length:=QK _;have nd:=T1.nodup;have nl6:ns.length≤ws.length:=mz nd λj hj=>(T1.lt hj).1
 refine⟨_,Z,ln,_,Z,.inl (aJ.of hn1),_,_,Z,Z,_,Z,?_⟩;by_cases c0:ns=[]
 ·subst c0;refine bJ (by show ¬(0:Int)<((aQ []).length:Nat);decide) ?_;refine⟨_,Z,pw,_,Z,.inr (ay.same (K:=K) s1 _ _ hS),ws.length,(by rw[hlen]),ω,ω,λD hD=>cr (j7 (lo:=0) (n:=((ws.length:Nat):Int).toNat)) (λ_=>true) (λi=>(gH (ir tl) (RL (i:Int))).getD V.non) hD ω (λi x H' hi' s' hx' R E kR kE=>?_) λH2 s2 h2=>?_⟩
  ·subst hx';rw[S8];obtain⟨vj,mj,_,_⟩:=T1.none i ω;have ev:=rY T1.nd mj;rw[ev] at kR;refine⟨fz.set Z,_,Z,_,Z,d,vj,Z,.inl ⟨ir tl,RL (i:Int),.inl (s' _ _ hd1),Z,ev.symm⟩,?_⟩;exact kR Z _ (ax.refl _)
  ·rw[Us,HX] at h2;refine k D _ _ H2 (s1.trans s2) h2 (zd λi hi=>?_) T1.ok;obtain⟨vj,mj,pj,_⟩:=T1.none i (Q5.mp hi);rw[rY T1.nd mj];exact pj.nod (qc.of s2)
 have n0:0<ns.length:=UE.mpr c0;refine bP (by show(0:Int)<((aQ ns).length:Nat);lia) ?_;refine⟨_,λ_ _ z=>z,?_⟩;refine⟨_,Z,ln,Z,⟨_,aJ.of hn1⟩,λls hls=>cr (cK (aJ.of hn1)) (λ_=>true) (λi=>xs.getD (ns.getD i 0) V.non) hls ω (λi y H' hi' s' hy R E kR kE=>?_) λH2 s2 h2=>?_⟩
 ·obtain⟨j,hj,rfl⟩:=fe hy;have jl:=(T1.lt (QL hj)).1;have ej:=QH (show j<xs.length by lia);rw[aD 0 hj,aD V.non ej] at kR;refine⟨fz.set Z,_,Z,_,Z,pw,_,_,_,Z,Z,ay.same (K:=K) (s1.trans s') _ _ hS,aG ej,?_⟩;exact kR Z _ (ax.refl _)
 rw[nln,bH 0 (λj=>xs.getD j V.non) ns] at h2;have s02:=s1.trans s2;have al2:=jf (L:=ns) (al.mono λ_ _ z=>z.mono (ay.same s02)) λi hi=>(T1.lt hi).1
 have gl:(gW ws ns).length=ns.length:=pL;have gG:∀w∈gW ws ns,zj w:=λw hw=>by
  obtain⟨i,hi,rfl⟩:=QZ.mp hw;exact g.gd _ (jA (T1.lt hi).1)
 have pos2:=T1.pos.tr;rw[←gl] at pos2;refine⟨_,Z,_,Z,ls,lf,_,gW ws ns,fr,Z,h2,al2,⟨ω,gG⟩,ω,s2 _ _ hf1,T1.f24,T1.f20,pos2,λq vr p s r H3 s3 hq rv pv tg=>?_⟩;have F:=tg.fst;rw[gl] at F;have F:=F.tr nd;refine⟨_,Z,q,_,_,_,Z,Z,hq,Z,?_⟩;refine⟨_,Z,q,_,_,_,Z,Z,hq,Z,?_⟩;have s13:=s2.trans s3;have h3:=s3 _ _ h2;have sl3:(ns.map λj=>xs.getD j V.non).length=ns.length:=QK _;have ew:=tg.ew;have swl:s.ws.length=ns.length:=by rw[ew,gl]
 refine⟨_,Z,ls,_,Z,.inl (aJ.of h3),ns.length,(by rw[sl3]),ω,ω,λlt hlt=>cr (j7 (lo:=0) (n:=((ns.length:Nat):Int).toNat)) (λi=>uR s.net s.pf i) (λi=>V.int (i:Nat)) hlt ω (λi x H' hi' s' hx' R E kR kE=>?_) λH4 s4 h4=>?_⟩
 ·subst hx';rw[S8];have pv':=pv.same s';obtain⟨dx,hi⟩:=pv'.ins;refine⟨fz.set Z,_,Z,p.a,_,_,Z,hi,Z,_,Z,p,s,i,Z,pv',tg.F,ω,λH6 s6=>⟨_,Z,?_⟩⟩
  cases cu:uR s.net s.pf i with
  |true=>exact fC ⟨_,Z,kR cu _ s6⟩
  |false=>exact dC (kE cu _ s6)
 rw[Us] at h4;generalize etp:(QM ns.length).filter (λi=>uR s.net s.pf i)=tp at h4;have h4:H4 lt=some (.lst (aQ tp)):=h4;have tpm:∀i∈tp,i<ns.length:=λi hi=>by rw[←etp] at hi;exact Q5.mp (Q3.mp hi).1
 have etj:tp.map (λi=>ns.getD i 0)=ns.filter λj=>uR s.net s.pf (ns.idxOf j):=by rw[←etp];exact GT nd _
 have egt:gW (gW ws ns) tp=gW ws (ns.filter λj=>uR s.net s.pf (ns.idxOf j)):=by rw[←etp];exact Ms nd _
 have tpl:tp.length≤ns.length:=by rw[←etp];have:=U8 (λi=>uR s.net s.pf i) (QM ns.length);rw[Rx] at this;exact this
 generalize (λj=>uR s.net s.pf (ns.idxOf j))=U at etj egt F;have s14:=s13.trans s4;have hd4:=s14 _ _ hd1;have hn4:=s14 _ _ hn1;have hf4:=s14 _ _ hf1;have pv4:=pv.same s4;have rv4:=rv.mono (ay.same s4);have ndt:lt≠d:=λz=>by rw[z,hd4] at h4;cases h4
 have ntl:(aQ tp).length=tp.length:=QK _;let Iv2:Nat->L2.St->Hp->Prop:=λi σ H'=>∃(tl':Tl) (y10:Option V),σ=[some (.ref pw),some (.int (h₀:Nat)),some (.ref d),some (.ref ln),some (.ref lf),some (.ref ls),some (.ref q),some vr,some (.ref p.a),some (.ref lt),y10,x11]/\(∀b o,b≠d->H4 b=some o->H' b=some o)/\H' d=some (.dK (ir (tl++tl')))/\tl'.map (·.1)=(tp.map λi=>ns.getD i 0).take i/\∀x∈tl',ID K H' x.2 (wo s r ns x.1)
 refine⟨_,Z,lt,Z,⟨_,aJ.of h4⟩,c6 (K:=K) (a:=lt) (xs:=aQ tp) Iv2 ⟨[],x10,Z,λ_ _ _ e=>e,(by rw[R7];exact hd4),Z,(λx hx=>by cases hx)⟩ (λi σ H' _ ⟨_,_,_,k',_⟩=>aJ.of (k' _ _ ndt h4)) ?_ ?_⟩
 ·rintro i x σ H5 hx ⟨tl',y10,rfl,k5,e5,m5,v5⟩;obtain⟨pl,hpl,rfl⟩:=fe hx;have z5:=qc.ex hd4 k5;have pln:=tpm pl (QL hpl);have pv5:=pv4.nod z5;obtain⟨dx5,hi5⟩:=pv5.ins;have M2:=tg.M;refine⟨_,Z,_,Z,p.a,_,_,Z,hi5,Z,_,Z,p,s,pl,Z,pv5,tg.F.ok,ω,(by rw[ew];exact gG),tg.F.am pl ω,tg.A pl (by rw[gl];exact pln),λt ht=>?_,λla ya H6 s6 hla0 hla ala=>?_⟩
  ·have f1:0≤s.pf pl t:=tg.F.fl.lo pl t (show pl<s.ws.length by lia) ht;have f2:s.pf pl t≤s.M:=tg.F.fl.hi pl t (show pl<s.ws.length by lia) ht;lia
  refine⟨eI,λqq hqq=>?_⟩;have s7:=ae hqq (.tup [vr,.ref la]);have p7:ID K (upd H6 qq (.tup [vr,.ref la])) (.ref qq) (wo s r ns (ns.getD pl 0)):=⟨qq,vr,.ref la,Z,cE.of aa,((rv4.mono z5.tst).mono (ay.same s6)).mono (ay.same s7),la,ya,Z,s7 _ _ hla,by unfold wo;rw[ET nd pln];exact ala.mono λ_ _ z=>z.mono (ay.same s7)⟩;have s57:=s6.trans s7;generalize upd H6 qq _=H7 at s57 p7 ⊢;have e7:=s57 _ _ e5;have n7:=s57 _ _ (z5.lst hn4);have en:(aQ ns)[pl]?=some (.int ((ns.getD pl 0:Nat):Int)):=by
   unfold aQ;rw[Q4,QH pln,aD 0 (QH pln)];rfl
  have ml:=congrArg Yl m5;rw[QK,RD,QK] at ml;have il:=(QN.mp hpl).1;have tll:tl.length≤ws.length:=by
   have:=mz (n:=ws.length) T1.nd λj hj=>by
    obtain⟨x,hx,rfl⟩:=QZ.mp hj;exact(T1.vl x hx).2.2
   rw[QK] at this;exact this
  have ei:(tp.map λi=>ns.getD i 0)[i]?=some (ns.getD pl 0):=by rw[Q4,hpl];rfl
  have nm:ns.getD pl 0∉(tl++tl').map (·.1):=λm=>by
   rw[Rb,m5] at m;rcases Rc.mp m with z|z
   ·exact(T1.lt (show ns.getD pl 0∈ns by rw[aD 0 (QH pln)];exact Ri pln)).2 z
   ·obtain⟨j,hj,ej⟩:=Sy.mp z;rw[RD,QK] at hj;rw[ZC] at ej;have ndj:(tp.map λi=>ns.getD i 0).Nodup:=by rw[etj];exact nd.filter _
    have:=(TY ndj).mp (ej.trans (QN.mp ei).2.symm);lia
  refine⟨_,Z,_,Z,_,Z,ln,_,_,_,Z,Z,aJ.of n7,aG en,d,_,Z,vf.k (k:=RL ((ns.getD pl 0:Nat):Int)) (v:=V.ref qq) e7 (by unfold ir;rw[QK,Q8,SU];lia),?_⟩;rw[Pp nm];have z8:=qc.up e7 (ir (tl++tl'++[(ns.getD pl 0,.ref qq)]));refine⟨tl'++[(ns.getD pl 0,.ref qq)],_,Z,λb o nb e=>by rw[ai nb];exact s57 _ _ (k5 b o nb e),by rw[aa,Uv],?_,λx hx=>?_⟩
  ·rw[Rb,m5,Rt,ei];rfl
  ·rcases Rc.mp hx with z|z
   ·exact((v5 x z).nod (qc.of s57)).nod z8
   ·rw[Q2.mp z];exact p7.nod z8
 rintro σ H5 ⟨tl',y10,rfl,k5,e5,m5,v5⟩;rw[ntl,show tp.length=(tp.map λi=>ns.getD i 0).length from(QK _).symm,RW,etj] at m5;have z5:=qc.ex hd4 k5;have h5:=z5.lst (s4 _ _ h3);have t5:=z5.lst h4;have n5:=z5.lst hn4;have f5:=z5.lst hf4;have S05:ax H H5:=λb o e=>k5 b o (au e hd) (s14 _ _ (s1 _ _ e))
 refine⟨_,Z,lt,Z,⟨_,aJ.of t5⟩,λlg hlg=>cr (cK (aJ.of t5)) (λ_=>true) (λi=>(ns.map λj=>xs.getD j V.non).getD (tp.getD i 0) V.non) hlg ω (λi y H' hi' s' hy R E kR kE=>?_) λH6 s6 h6=>?_⟩
 ·obtain⟨j,hj,rfl⟩:=fe hy;have jl:=tpm j (QL hj);have ej:=QH (show j<(ns.map λj=>xs.getD j V.non).length by lia);rw[aD 0 hj,aD V.non ej] at kR;refine⟨fz.set Z,_,Z,_,Z,ls,_,_,_,Z,Z,aJ.of (s' _ _ h5),aG ej,?_⟩;exact kR Z _ (ax.refl _)
 rw[ntl,bH 0 (λj=>(ns.map λj=>xs.getD j V.non).getD j V.non) tp] at h6;have al6:=jf (L:=tp) (xs:=ns.map λj=>xs.getD j V.non) (ws:=gW ws ns) (jf (L:=ns) (al.mono λ_ _ z=>z.mono (ay.same (S05.trans s6))) λi hi=>(T1.lt hi).1) λi hi=>by rw[gl];exact tpm i hi
 refine⟨_,Z,lg,lf,_,_,fr,Z,aJ.of h6,al6,by rw[pL];lia,aJ.of (s6 _ _ f5),T1.f24,λlb H7 s7 _ b7=>?_⟩;rw[egt] at b7;have s57:=s6.trans s7;have f7:=s57 _ _ f5;have f24:=T1.f24;have bl:(aQ (f9 (gW ws (ns.filter U)) fr)).length=24:=by unfold aQ f9;rw[QK,QK,Rx,f24]
 have fl:(aQ fr).length=24:=by unfold aQ;rw[QK,f24]
 refine⟨24,Z,δ,δ,λlh hlh=>cr (j7 (lo:=0) (n:=24)) (λ_=>true) (λi=>V.int (((i4 fr (gW ws (ns.filter U))).getD i 0:Nat):Int)) hlh δ (λi x H' hi' s' hx' R E kR kE=>?_) λH8 s8 h8=>?_⟩
 ·subst hx';rw[S8];have at':∀(l:List Nat),i<l.length->(aQ l)[i]?=some (.int ((l.getD i 0:Nat):Int)):=λl hl=>by
   unfold aQ;rw[Q4,QH hl,aD 0 (QH hl)];rfl
  rw[←Mv f24 (show i<24 from hi')] at kR;refine⟨fz.set Z,_,Z,_,Z,lf,_,_,_,Z,Z,aJ.of (s' _ _ f7),aG (at' _ ω),_,Z,_,Z,lb,_,_,_,Z,Z,aJ.of (s' _ _ b7),aG (at' _ (by unfold aQ at bl;rw[QK] at bl;lia)),_,_,Z,Z,?_⟩;exact kR Z _ (ax.refl _)
 have e8:((QM 24).filter λ_=>true).map (λi=>V.int (((i4 fr (gW ws (ns.filter U))).getD i 0:Nat):Int))=aQ (i4 fr (gW ws (ns.filter U))):=by
  have e:=bH 0 (λn:Nat=>V.int (n:Int)) (i4 fr (gW ws (ns.filter U)));rw[lj] at e;exact e
 have h8:H8 lh=some (.lst (aQ (i4 fr (gW ws (ns.filter U))))):=by rw[←e8];exact h8
 have s58:=s57.trans s8;have n8:=s58 _ _ n5;have d8:=s58 _ _ e5;refine⟨_,Z,ln,Z,⟨_,aJ.of n8⟩,λlz hlz=>cr (cK (aJ.of n8)) (λi=>!decide (ns.getD i 0∈(tl++tl').map (·.1))) (λi=>V.int ((ns.getD i 0:Nat):Int)) hlz ω (λi y H' hi' s' hy R E kR kE=>?_) λH9 s9 h9=>?_⟩
 ·obtain⟨j,hj,rfl⟩:=fe hy;rw[aD 0 hj] at kR kE;refine⟨fz.set Z,_,Z,_,Z,d,_,Z,lM.k (k:=RL (j:Int)) (s' _ _ d8),_,Z,?_⟩;rw[Nm];by_cases cu:j∈(tl++tl').map (·.1)
  ·rw[decide_eq_true cu] at kR kE ⊢;exact dC (kE Z _ (ax.refl _))
  ·rw[decide_eq_false cu] at kR kE ⊢;exact fC ⟨_,Z,kR Z _ (ax.refl _)⟩
 rw[nln,lE 0 (λj=>!decide (j∈(tl++tl').map (·.1))) (λj:Nat=>V.int (j:Int)) ns] at h9;have e9:ns.filter (λj=>!decide (j∈(tl++tl').map (·.1)))=ns.filter λj=>!U j:=Sj λj hj=>by
  have nt:=(T1.lt hj).2;rw[Rb,m5]
  cases u:U j with
  |true=>rw[decide_eq_true (Rh _ (Q3.mpr ⟨hj,u⟩))]
  |false=>rw[decide_eq_false λm=>by
    rcases Rc.mp m with z|z
    ·exact nt z
    ·rw[(Q3.mp z).2] at u;cases u]
 rw[e9] at h9;have s59:=s58.trans s9;have T5:=T1.mono (H':=H5) λv r z=>(z.nod (qc.of s14)).nod z5
 have T9:=(T5.next F tg m5 v5 g.gd).mono (H':=H9) λv r z=>z.nod (qc.of s59)
 obtain⟨j,hj,hu⟩:=F.some f24;refine⟨_,?_,_,_,lz,lh,_,_,_,_,_,_,_,_,_,Z,S05.trans s59,h9,s9 _ _ h8,s59 _ _ e5,T9,Z⟩;exact List.length_filter_lt_length_iff_exists.mpr ⟨j,hj,by rw[hu];decide⟩
theorem LK(T:dA K mg t):aP P w K mg base (FP P w) 9 t.a_Q24 t.d_Q24 ["works","rule","hands"] (oy K t.c_Q53):=by
 refine B.Fun.okD T.Q24.F vE (λvs H Q E h=>?_) χ
 ·obtain⟨_,_,_,_,_,rfl,_⟩:=h;rfl
 obtain⟨v,u,h₀,ws,rl,rfl,wv,g,hu,ok,h1,h5,k,ke⟩:=h;refine cR.ok (ac (kJ 3 vE.nd (qg (Lp T) hr T.Q63 (aj (qv 0) (aj (qv 2) aH aB) aB))) (ac (kJ 4 vE.nd (d5 (LS T) (hr.mono δ) Z T.Q15.m T.Q15.F.kp T.Q15.b .nil Jk (aj (qv 1) (aj (gY (N':=["pair"]) (src:=[none]) Z (by exact(da (qv 3))) (λ_ _ _ _ _=>(by exact(by exact bb (i:=0) (by show U1 (["pair"]:List RF);decide +kernel) ν θ))) (λ_ _ _ _ _=>jk) (λ_ _ _ _ _=>(by exact(by exact(fx (js (K:=K) ν) (by exact(qv 0)) bf (by exact λ_ _=>Z))))) (by exact trivial) Z (by decide +kernel) Z (by decide +kernel) (by exact cj Z trivial)) aH cU) aB))) (aw (bC (im (aj (qg (Lv T) hr T.Q52 (aj (gY (N':=["pair"]) (src:=[none]) Z (by exact(da (qv 3))) (λ_ _ _ _ _=>(by exact(by exact bb (i:=0) (by show U1 (["pair"]:List RF);decide +kernel) ν θ))) (λ_ _ _ _ _=>jk) (λ_ _ _ _ _=>(by exact(by exact(fx (js (K:=K) ν) (by exact(qv 0)) bf (by exact λ_ _=>Z))))) (by exact trivial) Z (by decide +kernel) Z (by decide +kernel) (by exact cj Z trivial)) aH cU)) (aj (qv 4) aH aB) aM)))))) ?_
 nofun
 refine⟨_,Z,_,Z,v,h₀,ws,Z,wv,g,h1,h5,λl ys xs H1 s1 e1 al rok=>?_⟩;have ll:=al.len;have xl:=rok.1;have l6:=g.len;have u1:=hu.mono (ay.same s1);refine⟨_,Z,_,Z,l,Z,⟨_,aJ.of e1⟩,λD hD=>dz (K:=K) (P:=RV K) (ds:=xs) (f:=λx:Rw=>x.1) (λ_ _ _ _ t p=>p.mono t) hD (cK (aJ.of e1)) ll ω (λi y x H' hy hx s' R E kR=>?_) λH2 zs s2 hD2 al2=>?_⟩
 ·obtain⟨x',hx',p,y0,z0,rfl,hp,ry,_⟩:=al.at hy;rw[hx] at hx'
  cases hx'
  have t':=ay.same (K:=K) s';refine⟨fz.set Z,_,Z,p,_,_,_,Z,Z,t' _ _ hp,Z,?_⟩;exact kR _ _ (ax.refl _) (ry.mono t')
 have oks:∀s∈xs.map (λx:Rw=>x.1),iH s:=λs hs=>by
  obtain⟨x,hx,rfl⟩:=QZ.mp hs;exact Jc (rok.2.1 x hx)
 refine⟨u,D,rl,zs,xs.map λx:Rw=>x.1,Z,u1.mono (ay.same s2),ok,aJ.of hD2,al2,by rw[QK];lia,oks,λall v3 H3 s3=>?_,λ⟨s,hs,nb⟩ d w H3 s3 hd=>?_⟩
 rotate_left
 ·obtain⟨x,hx,rfl⟩:=QZ.mp hs;exact ke xs d w H3 ((s1.trans s2).trans s3) rok ⟨x,hx,nb⟩ hd
 have s13:=s2.trans s3;have e3:=s13 _ _ e1;have al3:=al.mono λ_ _ q=>q.nod (qc.of s13)
 obtain⟨qs,alq,atq⟩:=GN al3;have lq:=alq.len;rw[QK] at lq;refine⟨_,Z,l,Z,⟨_,aJ.of e3⟩,λD4 hD4=>cr (cK (aJ.of e3)) (λ_=>true) (λi=>qs.getD i V.non) hD4 ω (λi y H' hi' s' hy R E kR kE=>?_) λH5 s5 h5'=>?_⟩
 ·obtain⟨p,w,z,hz,rfl,hp⟩:=atq i y hy;rw[aD V.non hz] at kR;exact⟨fz.set Z,_,Z,p,_,_,_,Z,Z,ay.same (K:=K) s' _ _ hp,Z,kR Z _ (ax.refl _)⟩
 have eq5:((QM ys.length).filter λ_=>true).map (λi=>qs.getD i V.non)=qs:=by
  rw[show ys.length=qs.length by lia];have:=bH V.non (λv:V=>v) qs;rw[WI] at this;exact this
 rw[eq5] at h5';refine⟨D4,qs,xs.map λx:Rw=>x.2,Z,aJ.of h5',alq.mono λ_ _ q=>q.same s5,by rw[QK];lia,λrs hrs=>?_,λv6 H6 s6 pl6=>?_⟩
 ·obtain⟨x,hx,rfl⟩:=QZ.mp hrs;exact(rok.2.1 x hx).len
 refine⟨_,Z,eI,λq hq=>?_⟩;have s7:=ae hq (.tup [v6,v3]);exact k xs q v6 v3 _ ((((s1.trans s13).trans s5).trans s6).trans s7) rok (λx hx=>all _ (QZ.mpr ⟨x,hx,Z⟩)) (cE.of aa) (pl6.mono (ay.same s7))
theorem Eh(T:dA K mg t):gFx P w base T.Q40 10 (ky K):=by
 refine T.Q40.F.ok BL ψ χ;obtain⟨v,u,h,ws,rl,rfl,hw,g,hr_,ok,h1,h5,k⟩:=h;refine cR.ok (have:=BL.nd;(aw (Gp (R:=(λC dx H'=>C=t.c_Q53/\ax H H'/\∃(xs:List Rw) (d:Addr),lY ws h xs/\(∃x∈xs,¬bA rl x.1)/\dx=some d)) Z Z Z Z T.m_Q53 (λ_=>(aw (bC (Kq (js (K:=K) ν) (d5 (LK T) (hr.mono δ) Z T.Q24.m T.Q24.F.kp T.Q24.b .nil (Lf Z) ζb) bf)))) (λ_=>ζb)))) ?_
 nofun
 refine⟨⟨_,Z,_,Z,_,Z,v,u,h,ws,rl,Z,hw,g,hr_,ok,h1,h5,λxs p a b H1 s1 o bl hS hP=>?_,λxs d z H1 s1 o nb hd=>?_⟩,?_⟩
 ·exact⟨p,_,_,_,Z,Z,hS,Z,k a H1 s1 (.inl ⟨xs,o,bl,hP⟩)⟩
 ·exact⟨_,Z,Z,s1,xs,d,o,nb,Z⟩
 rintro C dx H' ⟨rfl,s1,xs,d,o,nb,rfl⟩;refine⟨T.x_catch,?_⟩;exact k .non H' s1 (.inr ⟨Z,xs,o,nb⟩)
theorem Ln(T:dA K mg t)(hB:base.BuiltinsAt mg t.c_LT):aP P w K mg base c5 11 t.a_Q67 t.d_Q67 ["_law_script"] (ow K t.c_LT):=by
 refine T.Q67.F.ok sI ψ χ;obtain⟨a₀,ns,rfl,hS,hl,hT,k⟩:=h;refine cR.ok (have:=sI.nd;have:=cS T.Q16 (LR T);have:=cS T.Q25 (LJ T);have:=cS T.Q33 (LD T);have:=cS T.Q26 (oY T);have:=cS T.Q40 (Eh T);have:=cS T.Q9 (Oc T);have:=cS T.Q39 (Ei T);have:=cS T.Q50 (Lw T);have:=cS T.Q46 (tj T);have:=cS T.Q37 (LB T);have:=cS T.Q23 (LL T hB);(ac (kJ 1 sI.nd (sR (aj (fq sW ζb ζb) (aj bf aH gR) kg))) (ac ζb (ac ζd (ac ζb (ac ζb (ac (kJ 6 sI.nd (sR (aj ζb (aj (qg (Eh T) hr T.Q40 (aj (qv 2) (aj (qv 4) (aj (bG (rL Z) (by rfl) T.z_max boot_max ζb) aH aM) aB) aB)) aH aM) aM))) (ac ζg (ac (fm 8 ["_law_other","_law_rule_here","_law_hands"] [none,some 4,some 3] Z ζb ζa (λ_ _ _ _ _=>(dY (aV nP (by exact(qv 0)) fX (aX _)))) ζa) (ac (fm 8 ["_law_power_here"] [none] Z ζb ζa (λ_ _ _ _ _=>(dY (aV nP (by exact(qv 0)) fX (aX _)))) ζa) (ac (cy (aV oR (qv 5) fX (aX _)) (aw (bC (gz (Eb hr) (qv 8) ζb (aX _)))) be) (ac ζb (ac (cy (uz (Jf (aV oR (qv 9) fX (aX _)) (Dj (aV (gK hr) ζb (qv 9) (aX _))))) ζb be) (ac (cy (aV (gK hr) (aZ ["_law_one","_law_power_here"] [none,some 9] Z ζb ζa ζa ζa) ζb (aX _)) ζb be) (ac ζb (ac (cy (aV oR (qv 10) fX (aX _)) ζb be) (aw (bC (NT (gz (gK hr) ζb ζb (aX _)) (Dv (Ku ζb))))))))))))))))))))) ?_
 nofun
 refine⟨_,Z,a₀,ns,0,Z,hS,λz0=>⟨_,60,Z,δ,δ,λl1 n1 HA sA l10 hA1 hn1=>?_⟩⟩;refine⟨_,Z,a₀,ns,1,Z,sA.seq hS,λz1=>⟨_,60,Z,δ,δ,λl2 n2 HB sB l20 hB2 hn2=>?_⟩⟩;refine⟨l1,l2,_,_,Z,Z,sB _ _ hA1,hB2,RC (show _≤120 by rw[QK,QK];lia) δ,λl3 g3=>?_⟩;have sAB:=sA.trans sB;have s3:=ae g3 (.lst (n1.map V.int++n2.map V.int));have h3:upd HB l3 (.lst (n1.map V.int++n2.map V.int)) l3=some (.lst ((n1++n2).map V.int)):=by rw[aa,Rb]
 generalize upd HB l3 _=HC at s3 h3 ⊢;have n12:(n1++n2).length=120:=by rw[Q8];lia
 have sC:=sAB.trans s3;refine⟨eI,λt₁ ht=>?_⟩;have nl:l3≠t₁:=λz=>by subst z;rw[h3] at ht;cases ht
 have s4:=ae ht (.lst [.ref l3,.int 0]);have T1:cq (upd HC t₁ (.lst [.ref l3,.int 0])) t₁ l3:=⟨n1++n2,0,aa,s4 _ _ h3,nl,ω,ω⟩;have ft:H t₁=none:=jo sC ht;have sD:=sC.trans s4;generalize upd HC t₁ _=HD at T1 sD ⊢;clear sA sB sAB s3 sC s4 h3 hA1 hB2 l10 l20 hn1 hn2 g3 ht n12 nl;refine⟨_,Z,t₁,l3,6,10,Z,T1,δ,δ,δ,δ,λv ws HE zE T2 wv wl wg=>?_⟩;have sE:=kf ft sD zE;have few:ws.length≤9:=ω
 clear sD T1 zE;refine⟨Qu,λpg hpg=>?_⟩;obtain⟨e5,h5⟩:=jT hpg (.lst [.int 1,.int 2,.int 2,.int 3,.int 4]);have ng:pg≠t₁:=λz=>by obtain⟨ys,e⟩:=T2.lst;rw[←z,hpg] at e;cases e
 have T3:=T2.same e5;have sF:=sE.trans e5;have wv3:=wv.mono (ay.same e5);generalize upd HE pg _=HF at h5 T3 sF wv3 ⊢;clear e5 hpg T2 sE wv;refine⟨_,Z,t₁,l3,5,Z,T3,δ,δ,λr xF aF bF T4=>?_⟩;have sG:=kf ft sF (jH.tp (.lst xF));have wv4:=wv3.mono (let ⟨_,e⟩:=T3.lst;ay.up (K:=K) e xF);have h5':upd HF t₁ (.lst xF) pg=some (.lst [.int 1,.int 2,.int 2,.int 3,.int 4]):=by rw[ai ng];exact h5
 generalize upd HF t₁ _=HG at T4 sG wv4 h5' ⊢;clear T3 sF wv3 h5;obtain⟨h,hat,h1,h4⟩:∃h:Nat,uc [V.int 1,.int 2,.int 2,.int 3,.int 4] r=some (.int (h:Nat))/\1≤h/\h≤4:=by
  rcases(show r=0∨r=1∨r=2∨r=3∨r=4 by lia) with rfl|rfl|rfl|rfl|rfl
  ·exact⟨1,Z,δ,δ⟩
  ·exact⟨2,Z,δ,δ⟩
  ·exact⟨2,Z,δ,δ⟩
  ·exact⟨3,Z,δ,δ⟩
  ·exact⟨4,Z,δ,δ⟩
 refine⟨pg,_,_,_,Z,Z,aJ.of h5',hat,?_⟩;clear hat h5' aF bF;refine⟨_,Z,eI,λq1 g1=>?_⟩;have e1:=ae g1 (.tup [.int 1,.int 1]);have r1:RV K (upd HG q1 (.tup [.int 1,.int 1])) (.ref q1) (1,1):=RV.of aa
 replace T4:=T4.same e1
 replace sG:=sG.trans e1
 replace wv4:=wv4.mono (ay.same e1)
 generalize upd HG q1 _=G1 at T4 sG wv4 r1 ⊢;clear e1 g1;refine⟨eI,λq2 g2=>?_⟩;have e2:=ae g2 (.tup [.int 3,.int 1]);have r2:RV K (upd G1 q2 (.tup [.int 3,.int 1])) (.ref q2) (3,1):=RV.of aa
 replace T4:=T4.same e2
 replace sG:=sG.trans e2
 replace wv4:=wv4.mono (ay.same e2)
 replace r1:=r1.mono (ay.same e2)
 generalize upd G1 q2 _=G2 at T4 sG wv4 r1 r2 ⊢;clear e2 g2;refine⟨eI,λq3 g3=>?_⟩;have e3:=ae g3 (.tup [.int 3,.int 2]);have r3:RV K (upd G2 q3 (.tup [.int 3,.int 2])) (.ref q3) (3,2):=RV.of aa
 replace T4:=T4.same e3
 replace sG:=sG.trans e3
 replace wv4:=wv4.mono (ay.same e3)
 replace r1:=r1.mono (ay.same e3)
 replace r2:=r2.mono (ay.same e3)
 generalize upd G2 q3 _=G3 at T4 sG wv4 r1 r2 r3 ⊢;clear e3 g3;refine⟨Qb,λq4 g4=>?_⟩;have e4:=ae g4 (.lst [.ref q1,.ref q2,.ref q3]);have n4:q4≠t₁:=λz=>by obtain⟨ys,e⟩:=T4.lst;rw[←z,g4] at e;cases e
 have z4:upd G3 q4 (.lst [.ref q1,.ref q2,.ref q3]) q4=some (.lst [.ref q1,.ref q2,.ref q3]):=aa;have al4:bR (RV K (upd G3 q4 (.lst [.ref q1,.ref q2,.ref q3]))) ([V.ref q1,.ref q2,.ref q3]:List V) [(1,1),(3,1),(3,2)]:=.cons (r1.mono (ay.same e4)) (.cons (r2.mono (ay.same e4)) (.cons (r3.mono (ay.same e4)) .nil))
 replace T4:=T4.same e4
 replace sG:=sG.trans e4
 replace wv4:=wv4.mono (ay.same e4)
 generalize upd G3 q4 _=G4 at T4 sG wv4 z4 al4 ⊢;clear e4 g4 r1 r2 r3;refine⟨t₁,l3,q4,_,Z,T4,n4,z4,al4,λu rl G5 st5 T5 rv ok rt rc=>?_⟩;have s5:=kf ft sG st5;have wv5:=wv4.mono (ay.steps T4.lst.choose_spec (λb o nb e=>st5 b o (λz=>nb (Q2.mp z)) e) T5.lst);clear z4 al4 n4 T4 wv4 sG st5 T5;have g:Iy ws:=⟨ω,wg⟩;refine⟨_,Z,_,Z,_,Z,v,u,h,ws,rl,Z,wv5,g,rv,ok,h1,ω,λv6 G6 s6 l6=>?_⟩;refine⟨_,Z,_,Z,_,Z,_,_,Z,Z,v,u,h+1,ws,rl,Z,wv5.mono (ay.same s6),g,rv.mono (ay.same s6),ok,ω,ω,λv7 G7 s7 l7=>?_⟩;have eM:(if((h:Nat):Int)-1>1 then((h:Nat):Int)-1 else 1)=((max 1 (h-1):Nat):Int):=by
  split<;>lia
 refine⟨_,Z,_,Z,_,Z,_,_,Z,Z,_,_,Z,?_⟩;rw[eM];have s67:=s6.trans s7;refine⟨v,u,max 1 (h-1),ws,rl,Z,wv5.mono (ay.same s67),g,rv.mono (ay.same s67),ok,ω,ω,λv8 G8 s8 l8=>?_⟩;refine⟨eI,λlo hlo=>?_⟩;obtain⟨s9,z9⟩:=jT hlo (.lst [v7,v8]);have s59:=(s67.trans s8).trans s9;have sA:=s5.trans s59;have fo:H lo=none:=jo (s5.trans (s67.trans s8)) hlo;have t59:=ay.same (K:=K) s59;have wvA:=wv5.mono t59;have rvA:=rv.mono t59;have lA:=l6.mono (ay.same ((s7.trans s8).trans s9));obtain⟨o7,p7⟩:=l7.op few;obtain⟨o8,p8⟩:=l8.op few;have alo:bR (Nc K ws (upd G8 lo (.lst [v7,v8]))) [v7,v8] [o7,o8]:=.cons (p7.mono (ay.same (s8.trans s9))) (.cons (p8.mono (ay.same s9)) .nil);have l7A:=l7.mono (ay.same (s8.trans s9));generalize upd G8 lo _=GA at z9 sA wvA rvA lA alo ⊢;clear s6 s7 s8 s9 s67 s59 t59 wv5 rv l6 l7 l8 l7A p7 p8 hlo eM s5;let Iv1:Nat->L2.St->Hp->Prop:=λi σ H'=>∃(x1 x7:Option V) (vs:List V) (os:List (Option (List (List Pc)))),σ=[some (.ref a₀),x1,some v,some (.int (h:Nat)),some u,some v6,some (.ref lo),x7,none,none,none]/\ax H H'/\ay K GA H'/\H' lo=some (.lst vs)/\bR (Nc K ws H') vs os/\os.length=2+i
 refine⟨6,Z,δ,δ,cD (lo:=0) (n:=6) Iv1 ⟨_,_,_,_,Z,sA,ay.refl _ _,z9,alo,Z⟩ ?_ ?_⟩
 ·rintro i σ HA hi ⟨x1,x7,vs,os,rfl,sB,tB,zB,alB,lB⟩;rw[S8];refine⟨_,Z,_,Z,_,_,Z,Z,a₀,ns,2+i,Z,sB.seq hS,λz=>⟨_,Z,_,_,Z,Z,.inl δ,_,_,Z,Z,_,60,Z,δ,δ,λl1 n1 HB sC l10 hC1 hn1=>?_⟩⟩;refine⟨eI,λt₂ ht=>?_⟩;have nl:l1≠t₂:=λz=>by subst z;rw[hC1] at ht;cases ht
  have s4:=ae ht (.lst [.ref l1,.int 0]);have T1:cq (upd HB t₂ (.lst [.ref l1,.int 0])) t₂ l1:=⟨n1,0,aa,s4 _ _ hC1,nl,ω,ω⟩;have ft2:HA t₂=none:=jo sC ht;have sD:=sC.trans s4;generalize upd HB t₂ _=HC at T1 sD ⊢;clear s4 sC ht nl hC1 l10;have zC:=sD _ _ zB;refine⟨_,Z,.inl ⟨Z,_,aJ.of zC⟩,_,Z,_,Z,t₂,l1,v,ws,Z,T1,wvA.mono (tB.trans (ay.same sD)),wg,few,λv9 pl HD stD TD pD oD=>?_⟩;have sE:=kf ft2 sD stD;have zE:=sE _ _ zB;refine⟨lo,_,_,Z,Z,zE,aN (by have:=alB.len;lia),?_⟩;have tE:=(ay.same (K:=K) sE).trans (ay.up (K:=K) zE (vs++[v9]));refine⟨_,_,vs++[v9],os++[some pl],Z,λb o e=>?_,tB.trans tE,aa,(alB.mono λ_ _ z=>z.mono tE).snoc ⟨oD,pD.mono (ay.up (K:=K) zE (vs++[v9]))⟩,by rw[Q8,lB];rfl⟩;rw[ai (λz=>by rw[z,fo] at e;cases e)];exact sE _ _ (sB _ _ e)
 rintro σ HA ⟨x1,x7,vs,os,rfl,sB,tB,zB,alB,lB⟩
 replace wvA:=wvA.mono tB
 replace rvA:=rvA.mono tB
 replace lA:=lA.mono tB
 clear alo z9 sA tB;have lvs:=alB.len;have WL:=cK (K:=K) (aJ.of (K:=K) zB);refine⟨_,Z,lo,Z,⟨_,aJ.of zB⟩,λD hD=>jb (J:=xx K lo) (n:=vs.length) (λi ys H'=>∃ps:List (Option R),ps.length≤i/\ax HA H'/\H' D=some (.lst ys)/\bR (gM K H') ys ps/\∀p∈ps,∃pl,AH ws pl/\p=K0 rl h (pl.map eG)) ⟨[],QY _,ae hD _,aa,.nil,λp hp=>by cases hp⟩ (λi ys H' hi ⟨_,_,s,_⟩=>WL.go i H' hi s) (λys H' ⟨ps,pl,s,hd,al,fr⟩=>⟨WL.stop H' s,?_⟩) ?_⟩
 rotate_left
 ·rintro i ys H' x H'' hi ⟨ps,lps,s,hd,al,fr⟩ y Rk E kR kE;obtain⟨s2,hx⟩:=WL.yld i H' x H'' hi s y;have hx':vs[i]?=some x:=hx;obtain⟨o,ho,po⟩:=alB.at hx';have s12:=s.trans s2;have po2:=po.mono (ay.same s12);have al2:=al.mono λ_ _ z=>gM.mono z (ay.same (K:=K) s2)
  refine⟨fz.set Z,?_⟩
  cases o with
  |none=>
   cases(show x=.non from po2)
   refine⟨_,Z,Z,_,Z,uT Z ?_⟩;exact kE _ ⟨ps,ω,s12,s2 _ _ hd,al2,fr⟩
  |some pl=>
   obtain⟨oP,p,zs,rfl,hSp,alp⟩:=po2;refine⟨_,Z,Z,_,Z,uU (λz=>by cases z) ?_⟩;refine⟨_,Z,_,Z,_,Z,u,rl,h,.ref p,pl,Z,rvA.mono (ay.same s12),ok,rt,⟨p,zs,Z,hSp,alp⟩,oP.a,h1,ω,λv' H4 s4 ov=>?_⟩;have t4:=ay.same (K:=K) s4;have hd4:=s4 _ _ (s2 _ _ hd);have lal:=al.len;have tu:=ay.up (K:=K) hd4 (ys++[v']);refine kR v' H4 hd4 (aN ω) ⟨ps++[K0 rl h (pl.map eG)],by rw[Q8,Sd];lia,λb o e=>?_,aa,(al2.mono λ_ _ z=>gM.mono z (t4.trans tu)).snoc (gM.mono ov tu),λq hq=>?_⟩
   ·rw[ai (au e hD)];exact s4 _ _ (s12 _ _ e)
   ·rcases Rc.mp hq with z|z
    ·exact fr q z
    ·rw[Q2.mp z];exact⟨pl,oP,Z⟩
 have s9:=sB.trans s
 replace wvA:=wvA.mono (ay.same s)
 replace rvA:=rvA.mono (ay.same s)
 replace lA:=lA.mono (ay.same s)
 have l8:ps.length≤8:=by rw[lvs,lB] at pl;exact pl
 clear alB zB WL lvs lB pl s sB;rename_i HQ _;refine⟨_,Z,D,Z,⟨_,aJ.of hd⟩,λD2 hD2=>rJ (K:=K) (P:=gM K) (Ok:=λo=>o≠none) (λ_ _ _ _ t p=>gM.mono p t) hD2 (aJ.of hd) al ω (λj z d H3 hx hd3 s3 pd Rk E kR kE=>?_) λH3 ys2 ps2 s3 hd3 al3 l3 ok3 all3=>?_⟩
 ·refine⟨fz.set Z,?_⟩
  cases d with
  |none=>
   cases(show z=.non from pd)
   refine⟨_,Z,Z,_,Z,uT Z ?_⟩;exact kE _ (ax.refl _) λn=>n Z
  |some r=>
   obtain⟨p,rfl,hp⟩:=id (show RV K H3 z r from pd);refine⟨_,Z,Z,_,Z,uU (λz=>by cases z) ?_⟩;exact⟨_,Z,kR _ (ax.refl _) (λz=>by cases z)⟩
 have s93:=s9.trans s3
 replace wvA:=wvA.mono (ay.same s3)
 replace rvA:=rvA.mono (ay.same s3)
 replace lA:=lA.mono (ay.same s3)
 have ls2:=al3.len;clear al hd s9 s3 hD hD2;have ap:=OL wg;rcases lA with⟨xs,o6,b6,P6⟩ | ⟨rfl,xs,o6,nb⟩
 rotate_left
 ·refine⟨_,Z,Z,_,Z,bP Z ?_⟩;have e0:ps2=[]:=by
   cases ps2 with
   |nil=>rfl
   |cons e _=>
    obtain⟨m,ne⟩:=ok3 e QV;obtain⟨pl,oP,ep⟩:=fr e m;exact absurd (by rw[ep];exact GO ap ok o6 nb oP h1 ω) ne
  subst e0
  cases al3
  refine⟨_,Z,(by show 0≤sizeLine;exact Rq _),λpe hpe=>?_⟩;have se:=ae hpe (.lst []);refine⟨.list [],.list [],.lst (aJ.of (se _ _ hd3)) .nil,.lst (aJ.of aa) .nil,Z,Z,δ,?_⟩;exact k _
 obtain⟨p6,z6,rfl,hS6,al6⟩:=id P6;refine⟨_,Z,Z,_,Z,bJ (λz=>by cases z) ?_⟩;have oP:=oN few o6;obtain⟨b0,least⟩:=uB few ok rt rc o6 b6 h1 ω;have ro:∀c∈(j4 (xs.map λx:Rw=>x.2)).map eG,bW c:=λc hc=>by
  obtain⟨q,hq,rfl⟩:=QZ.mp hc;exact oP.a.ok q hq
 have due:=MB ok rt h1 ω ro b0;have red0:∀r∈(ic h ((j4 (xs.map λx:Rw=>x.2)).map eG)).map (bO rl),de r:=λr hr=>by
  obtain⟨s,hs,rfl⟩:=QZ.mp hr;exact(mh ok rt (jM h1 ω ro s hs) (b0 s hs)).red
 have l120:=kF h1 (show h≤5 by lia) ro;rw[QK,kO] at l120;have bq0:=yn ok rt (jM h1 (show h≤5 by lia) ro) b0 l120;have som:=nN b0;refine⟨_,Z,_,Z,_,Z,u,rl,h,.ref p6,_,Z,rvA,ok,rt,P6,oP.a,h1,ω,λv10 H4 s4 ov=>?_⟩;rw[som] at ov;have ov':RV K H4 v10 (bj ((ic h ((j4 (xs.map λx:Rw=>x.2)).map eG)).map (bO rl))):=ov;have hdf:∀c∈j4 (xs.map λx:Rw=>x.2),df rl (E5 h (eG c))=false:=λc hc=>b0 _ (US.mpr ⟨eG c,List.mem_map_of_mem hc,OC (oP.a.ok c hc) h1⟩)
 have hT4:TB H4 t.c_LT:=.inl (s4 _ _ (s93 _ _ hT));obtain⟨p10,rfl,h10⟩:=id ov';refine⟨_,Z,Z,_,Z,bJ (λz=>by cases z) ?_⟩;refine⟨_,Z,_,Z,_,Z,u,rl,h,.ref p6,_,Z,rvA.mono (ay.same s4),ok,rt,P6.mono (ay.same s4),oP.a,h1,ω,hT4,hdf,λv11 H5 s5 tb5 r5=>?_⟩;rw[due] at r5;have t5:=eU (K:=K) s5 hT4;have r10:=ov'.mono t5;refine⟨_,Z,dR _,dR _,r5.deep,r10.deep,i8 _,Z,i9 _,_,Z,?_⟩;rw[hV];refine dC ?_;have nT:D2≠t.c_LT:=λz=>by
  have:=s93 _ _ hT;rw[←z,hd3] at this
  cases this
 have hd5:=s5 _ _ nT (s4 _ _ hd3);have al5:=al3.mono λ_ _ z=>gM.mono z ((ay.same (K:=K) s4).trans t5)
 have rv5:=(rvA.mono (ay.same s4)).mono t5;have wv5:=(wvA.mono (ay.same s4)).mono t5;clear r5 al3 hd3 rvA wvA P6 s4 s5 tb5 hT4 t5 ov ov' h10 nT due som hdf s93 hT;have cand:∀e∈ps2,∃r,e=some r/\Bq 59515953789365123158852704845422783159809256379678131039657860673594879039351138912567296000000000000 (85030560000*120) r/\val (bj ((ic h ((j4 (xs.map λx:Rw=>x.2)).map eG)).map (bO rl)))≤val r:=λe he=>by
  obtain⟨m,ne⟩:=ok3 e he;obtain⟨pl,oP',ep⟩:=fr e m
  cases e with
  |none=>exact absurd Z ne
  |some r=>
   obtain⟨b,er⟩:=KZ ep.symm;have ro':∀c∈pl.map eG,bW c:=λc hc=>by
    obtain⟨q,hq,rfl⟩:=QZ.mp hc;exact oP'.a.ok q hq
   have l120:=kF h1 (show h≤5 by lia) ro';rw[QK,oP'.len] at l120;refine⟨r,Z,?_,?_⟩
   ·rw[er];exact yn ok rt (jM h1 (show h≤5 by lia) ro') b l120
   ·rw[er];exact least pl oP' b
 generalize hq0:bj ((ic h ((j4 (xs.map λx:Rw=>x.2)).map eG)).map (bO rl))=q0 at r10 bq0 cand;refine⟨_,Z,D2,Z,⟨_,aJ.of hd5⟩,λD3 hD3=>rJ (K:=K) (P:=gM K) (Ok:=λo=>∃r,o=some r/\aL r q0=true) (λ_ _ _ _ t p=>gM.mono p t) hD3 (aJ.of hd5) al5 ω (λj z d H6 hx hd6 s6 pd Rk E kR kE=>?_) λH6 ys3 ps3 s6 hd6 al6' l6 ok6 _=>?_⟩
 ·obtain⟨r,rfl,br,lr⟩:=cand d (QL hd6);refine⟨fz.set Z,_,Z,_,Z,z,.ref p10,r,q0,800,800,Z,pd,r10.mono (ay.same s6),br.wf δ δ δ,bq0.wf δ δ δ,δ,_,Z,?_⟩
  cases c:aL r q0 with
  |true=>exact fC ⟨_,Z,kR _ (ax.refl _) ⟨r,Z,c⟩⟩
  |false=>
   refine dC (kE _ (ax.refl _) λ⟨r',e,l⟩=>?_)
   cases e
   rw[c] at l
   cases l
 have e3:ps3=[]:=by
  cases ps3 with
  |nil=>rfl
  |cons e _=>
   obtain⟨m,r,er,l⟩:=ok6 e QV;obtain⟨r',er',br,lr⟩:=cand e m;rw[er] at er'
   cases er'
   have:=(bM br.pos bq0.pos).mp l;exact absurd lr (Tu.mpr this)
 subst e3
 cases al6'
 refine⟨(by show 0≤sizeLine;exact Rq _),λpe hpe=>?_⟩;have se:=ae hpe (.lst []);refine⟨.list [],.list [],.lst (aJ.of (se _ _ hd6)) .nil,.lst (aJ.of aa) .nil,Z,Z,δ,_,Z,?_⟩;refine dC ?_;have s7:=s6.trans se;have rv7:=rv5.mono (ay.same s7);have wv7:=wv5.mono (ay.same s7);have r11:=r10.mono (ay.same s7);generalize upd H6 pe _=H7 at rv7 wv7 r11 ⊢;clear s7 se hpe hd6 s6 rv5 wv5 r10 al5 hd5 hD3;refine⟨_,Z,_,Z,_,Z,_,_,Z,Z,v,u,h+1,ws,rl,Z,wv7,g,rv7,ok,ω,ω,λv12 H8 s8 l8=>?_⟩;rcases l8 with⟨ys,o8,b8,P8⟩ | ⟨_,ys,o8,y,hy,nb⟩
 rotate_left
 ·exact absurd ((ym few ap ok rt rc o6 b6 o8 h1 h4).1 y hy) nb
 have mr:=(ym few ap ok rt rc o6 b6 o8 h1 h4).2;rw[hq0] at mr;obtain⟨p12,z12,rfl,hS12,al12⟩:=id P8;refine⟨_,Z,Z,_,Z,bJ (λz=>by cases z) ?_⟩;have oP8:=oN few o8;obtain⟨c0,_⟩:=uB few ok rt rc o8 b8 ω ω;have ro8:∀c∈(j4 (ys.map λx:Rw=>x.2)).map eG,bW c:=λc hc=>by
  obtain⟨q,hq,rfl⟩:=QZ.mp hc;exact oP8.a.ok q hq
 have m120:=kF (h:=h+1) ω ω ro8;rw[QK,kO] at m120;have bq8:=yn ok rt (jM (h:=h+1) ω ω ro8) c0 m120;have som:=nN c0;refine⟨_,Z,eI,λq1 g1=>?_⟩;have e1:=ae g1 (.tup [.int 0,.int 1]);refine⟨u,.ref q1,rl,(0,1),Z,rv7.mono (ay.same (s8.trans e1)),ok,RV.of aa,nH.sp,λv13 H9 s9 o9=>?_⟩;rw[pP ok (pV ok)] at o9;have o9':RV K H9 v13 (bO rl (0,1)):=o9;refine⟨eI,λq2 g2=>?_⟩;have e2:=ae g2 (.tup [.int 0,.int 1]);have r0:RV K (upd H9 q2 (.tup [.int 0,.int 1])) (.ref q2) (0,1):=RV.of aa;refine⟨dR (bO rl (0,1)),dR (0,1),(o9'.mono (ay.same e2)).deep,r0.deep,i8 _,Z,i9 _,?_⟩;rw[gC];refine⟨_,Z,?_⟩;by_cases z:bO rl (0,1)=(0,1)
 rotate_left
 ·rw[decide_eq_false z];exact fC (k _)
 rw[decide_eq_true z];refine dC ?_;have sX:=((s8.trans e1).trans s9).trans e2;have sY:=(e1.trans s9).trans e2;refine⟨_,Z,_,Z,_,Z,_,_,Z,Z,_,Z,u,rl,h+1,.ref p12,_,Z,rv7.mono (ay.same sX),ok,rt,P8.mono (ay.same sY),oP8.a,ω,ω,λv14 H10 s10 o10=>?_⟩;rw[som] at o10;refine⟨.ref p10,v14,q0,_,800,800,Z,r11.mono (ay.same (sX.trans s10)),o10,bq0.wf δ δ δ,bq8.wf δ δ δ,δ,?_⟩;rw[(bD bq0.pos bq8.pos).mpr (mr z)];exact⟨_,Z,k _⟩
end
set_option autoImplicit true in
set_option relaxedAutoImplicit true in
open PySem.W in
theorem all_mk{l:OpenLaw}{w:RS}{K:Frag}{h:Ra}{mg:RF->Option Value}{fa:Addr}(X:K.In h)(G:h.Ns RB mg)(hfa:mg "law"=some (.ref fa))
  {c_Pouring:Addr} (p_Pouring:nsIn K RB "Pouring"=some (some (.ref c_Pouring))) (x1_Pouring:plainGet K c_Pouring RF.empty=true) (x2_Pouring:hasDictIn K c_Pouring=true) (x3_Pouring:plainOver K c_Pouring=true) (x4_Pouring:findIn K (.ref c_Pouring) "__setattr__"=some (some (.builtin "object.__setattr__"))) (x5_Pouring:makesIn K c_Pouring=true) (x6_Pouring:keepIn K (.ref c_Pouring)=true)
  (na_Pouring_inside:findIn K (.ref c_Pouring) "inside"=some none) (na_Pouring_most:findIn K (.ref c_Pouring) "most"=some none) (na_Pouring_whole:findIn K (.ref c_Pouring) "whole"=some none) (na_Pouring_rest:findIn K (.ref c_Pouring) "rest"=some none) (na_Pouring_room:findIn K (.ref c_Pouring) "room"=some none) (na_Pouring_poured:findIn K (.ref c_Pouring) "poured"=some none)
  (h0:dU K "copied" Cn f_Q55 d_Q55)
  (h1:dU K "greatest_divisor" Kf f_Q3 d_Q3)
  (h2:dU K "ratio" Ci f_Q59 d_Q59)
  (h3:dU K "plus" Cd f_Q64 d_Q64)
  (h4:dU K "minus" Ch f_Q60 d_Q60)
  (h5:dU K "times" Cg f_Q61 d_Q61)
  (h6:dU K "over" Cc f_Q65 d_Q65)
  (h7:dU K "raised" Cm f_Q56 d_Q56)
  (h8:dU K "is_less" Cp f_Q51 d_Q51)
  (h9:dU K "total" Cf f_Q62 d_Q62)
  (h10:dU K "greatest" CA f_Q42 d_Q42)
  (h11:dU K "whole_parts" CZ f_Q20 d_Q20)
  (h12:dU K "falling_order" Db f_Q11 d_Q11)
  (h13:dU K "slope_between" Da f_Q12 d_Q12)
  (h14:dU K "top_of" Ck f_Q57 d_Q57)
  (h15:dU K "is_beyond" CN f_Q30 d_Q30)
  (h16:dU K "ask_greatest" C9 f_Q13 d_Q13)
  (h17:dU K "place_of" Cz f_Q43 d_Q43)
  (h18:dU K "power_at" Cy f_Q44 d_Q44)
  (h19:dU K "table_slopes" C8 f_Q14 d_Q14)
  (h20:dU K "slopes_at" CM f_Q31 d_Q31)
  (h21:dU K "plain_slope" CY f_Q21 d_Q21)
  (h22:dU K "in_window" CL f_Q32 d_Q32)
  (h23:dU K "power_of" Cw f_Q45 d_Q45)
  (h24:dU K "plain_prices" C7 f_Q15 d_Q15)
  (h25:dU K "hand_speeds" CW f_Q22 d_Q22)
  (h26:dU K "turn_power" CQ f_Q27 d_Q27)
  (h27:dU K "hands_power" CV f_Q23 d_Q23)
  (h28:dU K "busy_hands" CP f_Q28 d_Q28)
  (h29:dU K "pace" Cb f_Q66 d_Q66)
  (h30:dU K "tightest_pouring" Ke f_Q4 d_Q4)
  (h31:dU K "paced" Ce f_Q63 d_Q63)
  (h32:dU K "plan_of" Co f_Q52 d_Q52)
  (h33:dU K "hands_least" CU f_Q24 d_Q24)
  (h34:dU K "_law_cell_at" CT f_Q25 d_Q25)
  (h35:dU K "_law_draws" CK f_Q33 d_Q33)
  (h36:dU K "_law_take" Cu f_Q46 d_Q46)
  (h37:dU K "_law_made" Ct f_Q47 d_Q47)
  (h38:dU K "_law_plus" Cs f_Q48 d_Q48)
  (h39:dU K "_law_minus" CJ f_Q34 d_Q34)
  (h40:dU K "_law_times" CI f_Q35 d_Q35)
  (h41:dU K "_law_by" Cj f_Q58 d_Q58)
  (h42:dU K "_law_is_less" CS f_Q26 d_Q26)
  (h43:dU K "_law_total" CH f_Q36 d_Q36)
  (h44:dU K "_law_most" Cr f_Q49 d_Q49)
  (h45:dU K "_law_works" CG f_Q37 d_Q37)
  (h46:dU K "_law_raised" CO f_Q29 d_Q29)
  (h47:dU K "_law_slope" CD f_Q38 d_Q38)
  (h48:dU K "_law_power" CC f_Q39 d_Q39)
  (h49:dU K "_law_rule" Cq f_Q50 d_Q50)
  (h50:dU K "_law_hand_speeds" Kc f_Q6 d_Q6)
  (h51:dU K "_law_plan_power" J9 f_Q9 d_Q9)
  (h52:dU K "_law_any_plan" C3 f_Q16 d_Q16)
  (h53:dU K "_law_least" CB f_Q40 d_Q40)
  {f_Q67:Addr} {d_Q67:QU} (h54:dU K "law" Ca f_Q67 d_Q67)
  (h55:qk K c_Pouring "__init__" "Pouring.__init__" C2 f_Q17 d_Q17)
  (h56:qk K c_Pouring "beside" "Pouring.beside" Dc f_Q10 d_Q10)
  (h57:qk K c_Pouring "reached" "Pouring.reached" Kb f_Q7 d_Q7)
  (h58:qk K c_Pouring "turns_of" "Pouring.turns_of" Kd f_Q5 d_Q5)
  (h59:qk K c_Pouring "has_way_on" "Pouring.has_way_on" Kh f_Q1 d_Q1)
  (h60:qk K c_Pouring "pour_along" "Pouring.pour_along" Kg f_Q2 d_Q2)
  (h61:qk K c_Pouring "most_between" "Pouring.most_between" Ki f_Q0 d_Q0)
  (h62:qk K c_Pouring "move" "Pouring.move" C1 f_Q18 d_Q18)
  (h63:qk K c_Pouring "pour" "Pouring.pour" C0 f_Q19 d_Q19)
  (h64:qk K c_Pouring "amounts" "Pouring.amounts" Ka f_Q8 d_Q8)
  {f_NOUGHT:Addr} {od_NOUGHT:Option Addr} {sl_NOUGHT:Array (Option Value)} {tkNOUGHT0 tkNOUGHT1:Tok} {n_NOUGHT:Nat} (p_NOUGHT:nsIn K RB "NOUGHT"=some (some (.ref f_NOUGHT))) (l_NOUGHT:K.lookup f_NOUGHT=some ⟨.type "tuple",od_NOUGHT,.seq #[.int (0) tkNOUGHT0,.int (1) tkNOUGHT1] n_NOUGHT,sl_NOUGHT⟩)
  {tkPOWER:Tok} (p_POWER:nsIn K RB "POWER"=some (some (.str "power" tkPOWER)))
  {tkTABLE:Tok} (p_TABLE:nsIn K RB "TABLE"=some (some (.str "table" tkTABLE)))
  {tkTURNS:Tok} (p_TURNS:nsIn K RB "TURNS"=some (some (.int (24) tkTURNS)))
  {cB NB:Addr} {nmB qB:RF} {bsB:List Value} {hdB:Bool} {snB:List RF} {suB:List Value} {abB:Bool} {coB:Option Bool} {ddB:Option Addr} {j0 j1 j2 j3 j5:Option Value} {ocB:Value} {odB:Option Addr} {esB:Array Yx} {nB:Nat} {slB:Array (Option Value)}
  (pB:nsIn K RB "PaceError"=some (some (.ref cB))) (lB:K.lookup cB=some (Uu nmB qB cB NB bsB [.type "ValueError",.type "Exception",.type "BaseException",.type "object"] hdB snB suB abB coB ddB j0 j1 j2 j3 j5 "ValueError.__new__")) (lnB:K.lookup NB=some ⟨ocB,odB,.dict esB nB,slB⟩) (hsB:ol esB=true) (hnB:(nsFind esB "__init__").isNone=true)
  (cgB:specialIn K (.builtin "object.__class__") "__get__"=some (some (.builtin "getset_descriptor.__get__"))) (ctB:takesIn K (.builtin "object.__class__")=some true)
  {c_Q53 N_Q53 i_Q53:Addr} {nm_Q53 q_Q53:RF} {bs_Q53:List Value} {hd_Q53:Bool} {sn_Q53:List RF} {su_Q53:List Value} {ab_Q53:Bool} {co_Q53:Option Bool} {dd_Q53:Option Addr} {k0_Q53 k1_Q53 k2_Q53 k3_Q53 k5_Q53:Option Value} {od_Q53 an_Q53:Option Addr} {sl_Q53:Array (Option Value)} {oc_Q53 kV_Q53 dc_Q53 pm_Q53 cd_Q53 ct_Q53:Value}
  (p_Q53:nsIn K RB "NoSpeed"=some (some (.ref c_Q53))) (lc_Q53:K.lookup c_Q53=some (Uu nm_Q53 q_Q53 c_Q53 N_Q53 bs_Q53 (.ref cB::[.type "ValueError",.type "Exception",.type "BaseException",.type "object"]) hd_Q53 sn_Q53 su_Q53 ab_Q53 co_Q53 dd_Q53 k0_Q53 k1_Q53 k2_Q53 k3_Q53 k5_Q53 "ValueError.__new__")) (fi_Q53:findIn K (.ref c_Q53) "__init__"=some (some (.ref i_Q53)))
  (l_Q53:K.lookup i_Q53=some ⟨oc_Q53,od_Q53,.func (fnOf "__init__" "NoSpeed.__init__" (dM qF) (cY qF) (ak qF) .none kV_Q53 dc_Q53 pm_Q53 an_Q53 cd_Q53 ct_Q53),sl_Q53⟩) (cd_Q53_:codeIn K cd_Q53 "NoSpeed.__init__"=true) (ki_Q53:keepIn K (.ref i_Q53)=true) (ti_Q53:typeIn K (.ref i_Q53)=some (.type "function")) (kc_Q53:keepIn K (.ref c_Q53)=true)
  (hh_Q53:hasDictIn K c_Q53=true) (sa_Q53:findIn K (.ref c_Q53) "__setattr__"=some (some (.builtin "object.__setattr__")))
  (na_Q53_speed:findIn K (.ref c_Q53) "speed"=some none) (ga_Q53:findIn K (.ref c_Q53) "__getattribute__"=some (some (.builtin "BaseException.__getattribute__"))) (gn_Q53:findIn K (.ref c_Q53) "__getattr__"=some none) (cl_Q53:findIn K (.ref c_Q53) "__class__"=some (some (.builtin "object.__class__")))
  {c_Q41:Addr} (p_Q41:nsIn K RB "PaceError"=some (some (.ref c_Q41)))
  {c_Q54:Addr} (p_Q54:nsIn K RB "NoRatio"=some (some (.ref c_Q54)))
  (w_x_catch:exmOne K (.ref c_Q53) (.ref c_Q53)=some true)
  (z_abs:nsIn K RB "abs"=some none)
  (z_any:nsIn K RB "any"=some none)
  (z_enumerate:nsIn K RB "enumerate"=some none)
  (z_isinstance:nsIn K RB "isinstance"=some none)
  (z_len:nsIn K RB "len"=some none)
  (z_list:nsIn K RB "list"=some none)
  (z_max:nsIn K RB "max"=some none)
  (z_min:nsIn K RB "min"=some none)
  (z_range:nsIn K RB "range"=some none)
  (z_sorted:nsIn K RB "sorted"=some none)
  (z_sum:nsIn K RB "sum"=some none)
  (z_tuple:nsIn K RB "tuple"=some none)
  {cL tL:Addr} (w_lhd:codeHdIn K cL tL=true) (w_lcd:d_Q11.code=.ref cL)
  : ∃fd:QU,(∀(s:QQ) (v:Value),Zf s fd ⟨[v],[]⟩ [("_law_script",v)])/\∀base:Ra,K.In base->base.Ns RB mg->base.BuiltinsAt mg tL->aP l.prog w K mg base c5 11 fa fd ["_law_script"] (ow K tL):=by
 have e:=hfa.symm.trans (mg_of X G h54.p)
 cases e
 have μ:=fun(n:Str) (v:Value) (e:nsIn K RB n=some (some v))=>mg_of X G e
 obtain⟨_,_,_,_,_,_,_,_,_,rfl,_,_⟩:=h54.F.ex;have F_Q53:=wS (st:=qF) l_Q53 cd_Q53_ ki_Q53;have T:dA K mg ⟨f_Q55,_,f_Q3,_,f_Q59,_,f_Q64,_,f_Q60,_,f_Q61,_,f_Q65,_,f_Q56,_,f_Q51,_,f_Q62,_,f_Q42,_,f_Q20,_,f_Q11,_,f_Q12,_,f_Q57,_,f_Q30,_,f_Q13,_,f_Q43,_,f_Q44,_,f_Q14,_,f_Q31,_,f_Q21,_,f_Q32,_,f_Q45,_,f_Q15,_,f_Q22,_,f_Q27,_,f_Q23,_,f_Q28,_,f_Q66,_,f_Q4,_,f_Q63,_,f_Q52,_,f_Q24,_,f_Q25,_,f_Q33,_,f_Q46,_,f_Q47,_,f_Q48,_,f_Q34,_,f_Q35,_,f_Q58,_,f_Q26,_,f_Q36,_,f_Q49,_,f_Q37,_,f_Q29,_,f_Q38,_,f_Q39,_,f_Q50,_,f_Q6,_,f_Q9,_,f_Q16,_,f_Q40,_,fa,_,f_Q17,_,f_Q10,_,f_Q7,_,f_Q5,_,f_Q1,_,f_Q2,_,f_Q0,_,f_Q18,_,f_Q19,_,f_Q8,_,c_Pouring,f_NOUGHT,tkPOWER,tkTABLE,tkTURNS,cB,c_Q53,i_Q53,_,c_Q41,c_Q54,cL,tL⟩:=⟨w_lhd,w_lcd,⟨h0.F,h0.b1,μ _ _ h0.p⟩,⟨h1.F,h1.b2,μ _ _ h1.p⟩,⟨h2.F,h2.b2,μ _ _ h2.p⟩,⟨h3.F,h3.b2,μ _ _ h3.p⟩,⟨h4.F,h4.b2,μ _ _ h4.p⟩,⟨h5.F,h5.b2,μ _ _ h5.p⟩,⟨h6.F,h6.b2,μ _ _ h6.p⟩,⟨h7.F,h7.b2,μ _ _ h7.p⟩,⟨h8.F,h8.b2,μ _ _ h8.p⟩,⟨h9.F,h9.b1,μ _ _ h9.p⟩,⟨h10.F,h10.b1,μ _ _ h10.p⟩,⟨h11.F,h11.b1,μ _ _ h11.p⟩,⟨h12.F,h12.b1,μ _ _ h12.p⟩,⟨h13.F,h13.b2,μ _ _ h13.p⟩,⟨h14.F,h14.b1,μ _ _ h14.p⟩,⟨h15.F,h15.b2,μ _ _ h15.p⟩,⟨h16.F,h16.b2,μ _ _ h16.p⟩,⟨h17.F,h17.b2,μ _ _ h17.p⟩,⟨h18.F,h18.b2,μ _ _ h18.p⟩,⟨h19.F,h19.b2,μ _ _ h19.p⟩,⟨h20.F,h20.b2,μ _ _ h20.p⟩,⟨h21.F,h21.b2,μ _ _ h21.p⟩,⟨h22.F,h22.b2,μ _ _ h22.p⟩,⟨h23.F,h23.b2,μ _ _ h23.p⟩,⟨h24.F,h24.b2,μ _ _ h24.p⟩,⟨h25.F,h25.b2,μ _ _ h25.p⟩,⟨h26.F,h26.b3,μ _ _ h26.p⟩,⟨h27.F,h27.b3,μ _ _ h27.p⟩,⟨h28.F,h28.b2,μ _ _ h28.p⟩,⟨h29.F,h29.b2,μ _ _ h29.p⟩,⟨h30.F,h30.b2,μ _ _ h30.p⟩,⟨h31.F,h31.b2,μ _ _ h31.p⟩,⟨h32.F,h32.b1,μ _ _ h32.p⟩,⟨h33.F,h33.b3,μ _ _ h33.p⟩,⟨h34.F,h34.b2,μ _ _ h34.p⟩,⟨h35.F,h35.b2,μ _ _ h35.p⟩,⟨h36.F,h36.b2,μ _ _ h36.p⟩,⟨h37.F,h37.b2,μ _ _ h37.p⟩,⟨h38.F,h38.b2,μ _ _ h38.p⟩,⟨h39.F,h39.b2,μ _ _ h39.p⟩,⟨h40.F,h40.b2,μ _ _ h40.p⟩,⟨h41.F,h41.b2,μ _ _ h41.p⟩,⟨h42.F,h42.b2,μ _ _ h42.p⟩,⟨h43.F,h43.b1,μ _ _ h43.p⟩,⟨h44.F,h44.b1,μ _ _ h44.p⟩,⟨h45.F,h45.b3,μ _ _ h45.p⟩,⟨h46.F,h46.b2,μ _ _ h46.p⟩,⟨h47.F,h47.b2,μ _ _ h47.p⟩,⟨h48.F,h48.b2,μ _ _ h48.p⟩,⟨h49.F,h49.b2,μ _ _ h49.p⟩,⟨h50.F,h50.b2,μ _ _ h50.p⟩,⟨h51.F,h51.b3,μ _ _ h51.p⟩,⟨h52.F,h52.b2,μ _ _ h52.p⟩,⟨h53.F,h53.b3,μ _ _ h53.p⟩,⟨h54.F,h54.b1,μ _ _ h54.p⟩,h55.F,h55.b4,⟨x5_Pouring,h55.p,h55.fn,x6_Pouring⟩,h56.F,h56.b2,h56.meth,h57.F,h57.b2,h57.meth,h58.F,h58.b2,h58.meth,h59.F,h59.b2,h59.meth,h60.F,h60.b3,h60.meth,h61.F,h61.b3,h61.meth,h62.F,h62.b4,h62.meth,h63.F,h63.b1,h63.meth,h64.F,h64.b2,h64.meth,μ _ _ p_Pouring,⟨x1_Pouring,x2_Pouring,x3_Pouring,x4_Pouring⟩,na_Pouring_inside,na_Pouring_most,na_Pouring_whole,na_Pouring_rest,na_Pouring_room,na_Pouring_poured,μ _ _ p_NOUGHT,λH=>.inr ⟨_,_,_,l_NOUGHT,Z,Z,eI,(.cons ⟨_,Z⟩ (.cons ⟨_,Z⟩ .nil))⟩,μ _ _ p_POWER,μ _ _ p_TABLE,μ _ _ p_TURNS,Nk lc_Q53 lB lnB hsB hnB fi_Q53 ti_Q53 kc_Q53 hh_Q53 sa_Q53,F_Q53,QF F_Q53,μ _ _ p_Q53,na_Q53_speed,⟨ga_Q53,gn_Q53,cl_Q53,cgB,ctB⟩,μ _ _ p_Q41,μ _ _ p_Q54,w_x_catch,mg_none_of X G z_abs,mg_none_of X G z_any,mg_none_of X G z_enumerate,mg_none_of X G z_isinstance,mg_none_of X G z_len,mg_none_of X G z_list,mg_none_of X G z_max,mg_none_of X G z_min,mg_none_of X G z_range,mg_none_of X G z_sorted,mg_none_of X G z_sum,mg_none_of X G z_tuple⟩
 exact⟨_,λs v=>.of_eq Z,λbase _ _ hB=>Ln T hB⟩
theorem walk{l:Z1}{loose:List RF}{XP:(RF->Option Value)->Ra->Prop}{YP:RS->Ra->Prop}{d:DefRec}{K:Params->QJ}(hn:l.most=some 63)(hdf:d.params.defaults=[])
  (hY:∀(w:RS) (h:Ra),YP w h->(K w.params).In h/\h.get? T=some (VT #[])) (hC:∀w:RS,UM (K w.params) c T=true) (hnt:∀w:RS,Yt (K w.params)=true)
  (F:∀(w:RS) (mg:RF->Option Value) (fa:Addr) (h:Ra),(K w.params).In h->h.Ns RB mg->mg d.name=some (.ref fa)→
   ∃fd:QU,(∀(s:QQ) (u:Value),Zf s fd ⟨[u],[]⟩ [("_law_script",u)])/\∀base:Ra,(K w.params).In base->base.Ns RB mg->base.BuiltinsAt mg T->aP l.prog w (K w.params) mg base c5 11 fa fd ["_law_script"] (ow (K w.params) T)):
  aat q loose XP YP l.row.toRowW d [] (λf vs=>aad f vs):=
 B.walk_ofT (c:=c) (T:=T) (n:=63) (k:=11) (x := "_law_script") (CX:=λ_=>c5) (sp:=λw=>ow (K w.params) T) hn δ hdf ⟨Z,δ,δ,Z⟩ hY hC hnt F (λ_ _ a ns hl hT hS=>⟨a,ns,Z,hS,hl,hT,λ_=>Z⟩) λ_ _ _ _ _ z=>z
end My
open PySem PySem.W PyProof.Rows
set_option maxRecDepth 100000 in
set_option maxHeartbeats 0 in
theorem PySem.Challenge.cw_paceplan_k62_whole_no_plan_of_hands_has_holds : PySem.Challenge.rw_paceplan_k62_whole_no_plan_of_hands_has.Holds := by
 w_on;refine HWtop ?_
 k_fill
 refine My.walk (l:=PySem.Challenge.rw_paceplan_k62_whole_no_plan_of_hands_has) (c:=152) (T:=148) rfl rfl (fun w h Y=>⟨PySem.W.km_in_of Y,PySem.W.km_tabs_of Y _ List.mem_cons_self⟩) (fun w=>by kernel_rfl) (fun w=>by kernel_rfl) ?F
 case F=>
  intro w mg fa h KX G hmg
  refine' My.all_mk KX G hmg ?q0 ?q1 ?q2 ?q3 ?q4 ?q5 ?q6 ?q7 ?q8 ?q9 ?q10 ?q11 ?q12 ?q13 ?q14 ?q15 ?q16 ?q17 ?q18 ?q19 ?q20 ?q21 ?q22 ?q23 ?q24 ?q25 ?q26 ?q27 ?q28 ?q29 ?q30 ?q31 ?q32 ?q33 ?q34 ?q35 ?q36 ?q37 ?q38 ?q39 ?q40 ?q41 ?q42 ?q43 ?q44 ?q45 ?q46 ?q47 ?q48 ?q49 ?q50 ?q51 ?q52 ?q53 ?q54 ?q55 ?q56 ?q57 ?q58 ?q59 ?q60 ?q61 ?q62 ?q63 ?q64 ?q65 ?q66 ?q67 ?q68 ?q69 ?q70 ?q71 ?q72 ?q73 ?q74 ?q75 ?q76 ?q77 ?q78 ?q79 ?q80 ?q81 ?q82 ?q83 ?q84 ?q85 ?q86 ?q87 ?q88 ?q89 ?q90 ?q91 ?q92 ?q93 ?q94 ?q95 ?q96 ?q97 ?q98 ?q99 ?q100 ?q101 ?q102 ?q103 ?q104 ?q105 ?q106 ?q107 ?q108 ?q109 ?q110 ?q111 ?q112 ?q113 ?q114 ?q115 ?q116 ?q117 ?q118 ?q119 ?q120
  (case q0|q1|q2|q3|q4|q5|q6|q7|q8|q9|q10|q11|q12=>k_is)
  (case q13|q14|q15|q16|q17|q18|q19|q20|q21|q22|q23|q24|q25|q26|q27|q28|q29|q30|q31|q32|q33|q34|q35|q36|q37|q38|q39|q40|q41|q42|q43|q44|q45|q46|q47|q48|q49|q50|q51|q52|q53|q54|q55|q56|q57|q58|q59|q60|q61|q62|q63|q64|q65|q66|q67=>refine' B.isF ?a ?b ?c ?d;(case a=>k_is);(case b=>k_is);(case c=>k_is);(case d=>k_is))
  (case q68|q69|q70|q71|q72|q73|q74|q75|q76|q77=>refine' B.isM ?a ?e ?b ?c ?d;(case a=>k_is);(case e=>k_is);(case b=>k_is);(case c=>k_is);(case d=>k_is))
  (case q78|q79|q80|q81|q82|q83|q84|q85=>k_is)
  (case q86|q87=>rfl)
  (case q88|q89|q90|q91|q92|q93|q94|q95|q96|q97|q98|q99|q100|q101|q102|q103|q104|q105=>k_is)
  (case q106=>kts_exm)
  (case q107|q108|q109|q110|q111|q112|q113|q114|q115|q116|q117|q118=>k_is)
  (case q120=>rfl)
  (case q119=>kernel_rfl)
