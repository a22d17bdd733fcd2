import PyProof.Rows.All
import KE.RegKIsAll
import KE.RegKTryMore
import KE.KItem
import PySem.Challenge.RW_paceplan_k46_whole_fits_or_too_much
set_option Elab.async false
set_option linter.all false
set_option maxRecDepth 100000
set_option autoImplicit true
set_option relaxedAutoImplicit true
namespace HP
open PySem
abbrev S:=Stmt
noncomputable def b:=PySem.Challenge.pw_paceplan_k46_whole_fits_or_too_much.main.body
local macro_rules
 | `(tactic| o_head $n:term)=>`(tactic| (refine (?f:∀ s,b[$n]?=some s->_) _ rfl;exact fun s _=>s))
noncomputable def c0:S:=by o_head 0
noncomputable def c1:S:=by o_head 1
noncomputable def c2:S:=by o_head 2
noncomputable def c3:S:=by o_head 3
noncomputable def c4:S:=by o_head 4
noncomputable def c5:S:=by o_head 5
noncomputable def c6:S:=by o_head 6
noncomputable def c7:S:=by o_head 7
noncomputable def c8:S:=by o_head 8
noncomputable def c9:S:=by o_head 9
noncomputable def c10:S:=by o_head 10
noncomputable def c11:S:=by o_head 11
noncomputable def c12:S:=by o_head 12
noncomputable def c13:S:=by o_head 13
noncomputable def c14:S:=by o_head 14
noncomputable def c15:S:=by o_head 15
noncomputable def c16:S:=by o_head 16
noncomputable def c17:S:=by o_head 17
noncomputable def c18:S:=by o_head 18
noncomputable def c19:S:=by o_head 19
noncomputable def c20:S:=by o_head 20
noncomputable def c21:S:=by o_head 21
noncomputable def c22:S:=by o_head 22
noncomputable def c23:S:=by o_head 23
noncomputable def c24:S:=by o_head 24
noncomputable def c25:S:=by o_head 25
noncomputable def c26:S:=by o_head 26
noncomputable def c27:S:=by o_head 27
noncomputable def c28:S:=by o_head 28
noncomputable def c29:S:=by o_head 29
noncomputable def c30:S:=by o_head 30
noncomputable def c31:S:=by o_head 31
noncomputable def c32:S:=by o_head 32
noncomputable def c33:S:=by o_head 33
noncomputable def c34:S:=by o_head 34
noncomputable def c35:S:=by o_head 35
noncomputable def c36:S:=by o_head 36
noncomputable def c37:S:=by o_head 37
noncomputable def c38:S:=by o_head 38
noncomputable def c39:S:=by o_head 39
noncomputable def c40:S:=by o_head 40
noncomputable def c41:S:=by o_head 41
noncomputable def c42:S:=by o_head 42
noncomputable def c43:S:=by o_head 43
noncomputable def c44:S:=by o_head 44
noncomputable def c45:S:=by o_head 45
noncomputable def c46:S:=by o_head 46
noncomputable def c47:S:=by o_head 47
noncomputable def c48:S:=by o_head 48
noncomputable def c49:S:=by o_head 49
noncomputable def c50:S:=by o_head 50
noncomputable def c51:S:=by o_head 51
noncomputable def c52:S:=by o_head 52
noncomputable def c53:S:=by o_head 53
noncomputable def c54:S:=by o_head 54
noncomputable def c55:S:=by o_head 55
noncomputable def c56:S:=by o_head 56
noncomputable def c57:S:=by o_head 57
noncomputable def c58:S:=by o_head 58
noncomputable def c59:S:=by o_head 59
noncomputable def c60:S:=by o_head 60
noncomputable def c61:S:=by o_head 61
noncomputable def c62:S:=by o_head 62
noncomputable def c63:S:=by o_head 63
noncomputable def c64:S:=by o_head 64
noncomputable def c65:S:=by o_head 65
noncomputable def c66:S:=by o_head 66
noncomputable def c67:S:=by o_head 67
noncomputable def c68:S:=by o_head 68
noncomputable def t60:List S:=c60::c61::c62::c63::c64::c65::c66::c67::c68::[]
noncomputable def t51:List S:=c51::c52::c53::c54::c55::c56::c57::c58::c59::t60
noncomputable def t42:List S:=c42::c43::c44::c45::c46::c47::c48::c49::c50::t51
noncomputable def t33:List S:=c33::c34::c35::c36::c37::c38::c39::c40::c41::t42
noncomputable def t24:List S:=c24::c25::c26::c27::c28::c29::c30::c31::c32::t33
noncomputable def t15:List S:=c15::c16::c17::c18::c19::c20::c21::c22::c23::t24
noncomputable def t6:List S:=c6::c7::c8::c9::c10::c11::c12::c13::c14::t15
noncomputable def t0:List S:=c0::c1::c2::c3::c4::c5::t6
noncomputable def s:Scope:=by refine (?f:∀ s,PySem.Challenge.pw_paceplan_k46_whole_fits_or_too_much.main=⟨_,s,_,_,_⟩->_) _ rfl;exact fun s _=>s
noncomputable def p:Program:=by
 refine (?f:∀ l s a f m ms ps ab h g,PySem.Challenge.pw_paceplan_k46_whole_fits_or_too_much=Program.mk ⟨l,s,a,f,m⟩ ms ps ab h g->_) _ _ _ _ _ _ _ _ _ _ rfl
 exact fun _ _ a f m ms ps ab h g _=>⟨⟨t0,s,a,f,m⟩,ms,ps,ab,h,g⟩
theorem e:PySem.Challenge.pw_paceplan_k46_whole_fits_or_too_much=p:=by kernel_rfl
end HP
name_quick tw3958577333683259474 for HP.p by HP.e
theorem PySem.W.Fast.te3958577333683259474:PySem.Challenge.pw_paceplan_k46_whole_fits_or_too_much=PySem.W.Fast.tw3958577333683259474:=PySem.W.Fast.tw3958577333683259474_eq
theorem Cu {α β γ:Type} {o:Option α} {f:α->β} {g:α->γ} {a:β} {b:γ} (h1:o.map f=some a) (h2:o.map g=some b):o.map (fun s=>(f s,g s))=some (a,b):=by
 cases o with
 | none=>cases h1
 | some x=>cases h1;cases h2;rfl
namespace HW
open PySem
def keep:List Nat:=[1,2,3,4,6,7,8,9,11,12,13,14,15,16,17,18,19,20,21,23,24,25,26,27,28,30,31,32,33,34,35,36,38,39,40,41,42,44,45,46,47,48,50,51,52,53,54,55,56,57,58,59,60,61,62,63,64,65,66,67,68]
def V:Program:=PySem.W.view PySem.Challenge.pw_paceplan_k46_whole_fits_or_too_much keep
end HW
section HWs
open PySem PySem.W PyProof.Rows
set_option maxHeartbeats 0
abbrev HWe(w:World):=openEnds treeTable PySem.Challenge.rw_paceplan_k46_whole_fits_or_too_much.row.prog w 5236
abbrev HWo:=fun s:Shared=>openSeen HW.V [] (importedModules PySem.Challenge.rw_paceplan_k46_whole_fits_or_too_much.row.prog.main.body) (fun s=>xlAt HW.V [] s && recOk PySem.Challenge.rw_paceplan_k46_whole_fits_or_too_much.row.records s) true s
local macro_rules
 | `(tactic| nofun)=>`(tactic| (intro w;delta HWe HWo openEnds fencedOpening topFrom;rw [PySem.W.Fast.te14364793385576792824,PySem.W.Fast.te14082659384304107361,PySem.W.Fast.te10274390034422433532,PySem.W.Fast.te1435165496053646825,PySem.W.Fast.te14289696077712309145,PySem.W.Fast.te4187177175401517315];kernel_rfl))
theorem HW1:∀ w,(HWe w).map (fun s=>(HWo s).1)=some (openGood HW.V []).1:=by nofun
theorem HW2:∀ w,(HWe w).map (fun s=>(HWo s).2.1)=some (openGood HW.V []).2.1:=by nofun
theorem HW3:∀ w,(HWe w).map (fun s=>(HWo s).2.2.1)=some (openGood HW.V []).2.2.1:=by nofun
theorem HW4:∀ w,(HWe w).map (fun s=>(HWo s).2.2.2)=some (openGood HW.V []).2.2.2:=by nofun
theorem HWa:∀ w,(HWe w).map HWo=some (openGood HW.V []):=fun w=>Cu (HW1 w) (Cu (HW2 w) (Cu (HW3 w) (HW4 w)))
local macro_rules
 | `(tactic| o_head $H:term) => `(tactic| (
   refine holds_open (q:=HW.V) (loose:=[]) (N:=5236)
    (Xt:=fun s=>xlAt HW.V [] s && recOk (RowW.records (OpenRow.toRowW (OpenLaw.row PySem.Challenge.rw_paceplan_k46_whole_fits_or_too_much))) s)
    (XP:=XL HW.V []) (Yf:=Hook.obs $H) (Ya:=Hook.val $H) (YP:=Hook.says $H)
    ?hl (Hook.of $H) (Hook.keeps $H)
    (fun s e=>xl_of s (Bool.and_eq_true_iff.mp e).1) XL.keeps
    (by rfl) (by rfl) (by rfl)
    (fun s e=>recFacts_of (Bool.and_eq_true_iff.mp e).2) (by rfl) (by assumption) (by decide +kernel)
    ⟨rfl,rfl,rfl,rfl,rfl,by decide +kernel⟩ ?hw ?hc
   (case hl=>
    intro w;refine Cu (HWa w) ?_;delta openEnds fencedOpening topFrom;rw [PySem.W.Fast.te14364793385576792824,PySem.W.Fast.te14082659384304107361,PySem.W.Fast.te10274390034422433532,PySem.W.Fast.te1435165496053646825,PySem.W.Fast.te14289696077712309145]
    kernel_rfl)))
open_top HWtop for PySem.Challenge.rw_paceplan_k46_whole_fits_or_too_much
end HWs
open Array renaming length_toList→NZ,getElem?_eq_getElem→OY,getElem?_eq_none→Qb,getElem?_eq_none_iff→SQ,getD→SU,getElem?_map→Vt,toList_push→VT,toList_map→Wl
open Bool renaming false_ne_true→Ny,and_eq_true→NM,false_eq_true→Oa,eq_iff_iff→O0,and_false→Pm,not_true→PM,false_and→QD,not_eq_true'→Ra,and_true→Sg,false_or→Tu,not_false→UT,or_true→V1,noConfusion→Wh,or_eq_true→WA,or_false→Xc
open Classical renaming byContradiction→Tb,choose_spec→UC
open False renaming elim→QP
open ForInStep renaming yield→Sq
open Int renaming gcd→Nx,mul_ediv_cancel_left→NN,mul_pos→Oc,mul_right_comm→Ou,le_of_lt→Ox,eq_ofNat_of_zero_le→OF,toNat_natCast→OK,emod_lt_of_pos→OZ,emod_nonneg→O2,ediv_pos_of_pos_of_dvd→Px,mul_comm→PN,zero_add→PP,natAbs_mul→PU,gcd_dvd_right→PZ,natCast_dvd_natCast→P0,gcd_comm→P9,le_refl→Qd,eq_of_mul_eq_mul_right→Qi,ediv_nonneg→Qq,mul_le_mul_of_nonneg_left→QL,mul_lt_mul_of_pos_right→Q8,lt_of_mul_lt_mul_right→Ri,ediv_le_self→Rr,gcd_ediv_gcd_ediv_gcd→Rv,natCast_mul→RF,natAbs_natCast→RG,mul_left_comm→RW,mul_nonneg→RZ,natAbs_dvd_natAbs→R4,mul_le_mul_of_nonneg_right→Sb,dvd_trans→Si,gcd_add_mul_right_right→Sw,fdiv_eq_ediv_of_nonneg→SF,le_of_dvd→Tz,gcd_dvd_left→TK,ediv_one→Uh,natCast_add→Uv,natAbs_of_nonneg→UL,add_mul→UN,toNat_of_nonneg→U5,gcd_eq_one_iff→Vm,natAbs_add_le→VH,gcd_mul_right→VL,zero_mul→VZ,natCast_emod→Wg,neg_mul→Wr,natAbs_neg→WS,mul_assoc→W9
open LawfulBEq renaming eq_of_beq→Sz
open LawfulMonad renaming bind_assoc→Um
open List renaming range→M7,getElem?_eq_getElem→M8,length_map→Na,mem_of_getElem?→Nd,mem_cons_self→Ng,getElem?_map→Nh,getElem?_eq_some_iff→Ni,mem_range→Nk,mem_singleton→Nm,getD_eq_getElem?_getD→Nn,mem_cons_of_mem→No,mem_cons→Nq,mem_map→Nu,mem_append_right→Nz,mem_filter→NA,replicate→ND,mem_append→NF,size_toArray→NK,length_append→NL,length_range→NP,Nodup→NQ,length_cons→NU,getElem?_eq_none→NX,getElem_mem→NY,all_eq_true→N4,map_append→N5,map_cons→Ob,take_add_one→Oi,pairwise_iff_getElem→Om,length_filter_le→On,not_mem_nil→Oo,take_length→Op,range_succ→Oq,nodup_cons→Ot,filter_eq_self→Ov,nodup_append→OC,map_map→OE,length_take→OH,foldl_cons→OI,getElem?_set_ne→OJ,mem_iff_getElem→ON,mem_append_left→OX,append_nil→O1,getElem?_range→O5,getElem?_of_mem→Pa,getElem?_set_self→Pd,getElem?_replicate→Po,any_cons→Pr,ext_getElem?→PB,length_nil→PD,contains_iff_mem→PF,nodup_nil→PV,foldl_append→P1,length_set→P2,filterMap_cons→P4,countP_eq_zero→P7,pairwise_lt_range→Qa,Pairwise→Qc,sum_cons→Qe,length_drop→Qf,pairwise_cons→Ql,length_replicate→Qm,mem_of_mem_take→Qv,getElem?_cons_zero→QF,getElem?_cons_succ→QH,length_eq_zero_iff→QJ,find?_cons→QZ,dropLast_concat_getLast→Q1,length_singleton→Q5,append_assoc→Q9,pairwise_append→Rj,all_map→Rp,isEmpty_nil→Rq,nodup_range→Rs,map_congr_left→Rw,filter_append→RI,append_of_mem→RJ,filter_cons_of_neg→RM,filter_cons_of_pos→RN,take_of_length_le→R0,range_succ_eq_map→R1,lookup_cons→R7,filter_cons→Sa,any_eq_true→Sc,all_cons→Sf,mem_of_mem_drop→Sk,contains_eq_mem→Sl,any_map→Sx,getElem?_append_right→SH,length_eraseIdx_of_lt→SV,find?_eq_none→SY,getElem?_append_left→SZ,drop_eq_getElem_cons→S1,mem_or_eq_of_mem_set→Ta,any_eq_false→Tg,take_sublist→Tl,getElem_take→Tp,getElem_drop→Tq,drop_sublist→Tr,find?_range_eq_some→TB,eq_of_mem_replicate→TD,getElem_map→TR,eraseIdx_cons_succ→TX,countP_cons→TY,pairwise_singleton→TZ,filter_eq_nil_iff→Up,of_mem_zip→Us,take_append_drop→Ux,filterMap_append→UB,getElem_toArray→UR,Perm→UY,replicate_succ→U4,mem_filterMap→Vg,zip_cons_cons→Vj,contains_cons→Vq,getElem_range→Vr,filter_filter→Vu,map_replicate→Vv,map_nil→VC,filter_congr→V0,getElem?_set→V3,Sublist→V4,getElem_inj→V7,ext_getElem→Wj,append_inj'→Wp,map_id→Ww,drop_zero→WU,take_zero→WW,foldl→WX,map→Xv
open List.Pairwise renaming filter→PX
open List.Sublist renaming refl→V5
open Nat renaming le_refl→Nb,zero_le→NB,lt_of_lt_of_le→NE,le_trans→NH,ne_of_lt→NT,lt_irrefl→Of,lt_succ_of_lt→OM,lt_of_le_of_lt→OP,le_succ→O4,dvd_refl→O7,le_of_lt→Pb,pow_le_pow_right→PR,mul_le_mul_left→P5,lt_succ_self→Qg,not_lt_zero→Qr,ne_of_gt→Qt,le_of_eq→QU,mul_le_mul_right→Rh,lt_trans→Rm,mul_succ→Ro,zero_add→R3,succ_le_succ→R9,lt_trichotomy→To,min_eq_left→Uu,log2_lt→UJ,one_mul→UK,mul_le_mul→UO,add_le_add_left→U2,le_of_dvd→U9,add_zero→VY,succ_ne_self→Wi,add_mul→Wv,mod_lt→W2,mul_assoc→Xa,add_assoc→Xd
open Ne renaming symm→Qs
open Option renaming map_eq_some_iff→N6,isSome_iff_exists→Pj,isSome_some→RH,getD_none→TJ,map_map→UQ,isSome_none→Vs,map_some→WB
open Option.some renaming inj→OB,injEq→VR
open Or renaming inr→NC,inl→NG
open Prod renaming ext→Xs
open Prod.mk renaming injEq→Tw
open Pure renaming pure→Pq
open PyProof renaming noPylong_small→Ue
open PyProof.Rows renaming callWith_type1→OQ,slot_tuple_getitem→OR,IntsAre→Pe,boot_tuple→Pf,step_dedup→PL,boot_isinstance→Q2,AllBare→Sd,assignInOrder_cons→SD,subscriptTail_builtinR→Uj,envOfC→UI,entry_tuple_getitem→U1,boot_range→Vf,args_tuple_getitem→Vk,IsTup→Vw,assignInOrder_nil→Vx,firstMet→VQ,boot_list→Xj,Call_→Xr
open PyProof.Rows.F renaming plain_set_update_loop→P6,entry_set_update_loop→Ry
open PyProof.Rows.IntsAre renaming length→US
open PyProof.Rows.IsTup renaming new→Wa
open PySem renaming wpAny_bind→M9,Shared→Nf,wpAny_pure→Nj,FuncData→Nl,Heap→Np,wpAny→Nv,starEach→Nw,model→NJ,Builtin→NO,mainGlobals→NS,Str→NV,Program→NW,wpAny_newObj_type→N3,Around→N8,Expr→N9,PassesOwn→Oe,World→Ol,wpAny_callSpecial?_slot→Os,compareOp→Oz,wpAny_call_entry→OA,boot_len→OD,Obj→O8,wpAny_truthy_bool→Pg,foldedSetIterable→Ph,bootBuiltins→Pu,assignEach→Pw,codeAny_builtin→P3,wpAny_pyIter_tuple→Qh,wpAny_setField→Qj,wpAny_passesOwn→Qp,wpAny_setState_of→Qu,wpAny_mono→Qw,mem_of_lookup→Qy,wpAny_setEntries_of→QB,wpAny_field→QK,sysModules→QN,binaryOp→QX,swapsWith→Q3,Pos→Q4,wpAny_pyIter_list→Q6,backTo→Rc,firstArgMember→Rg,wpAny_isInstance→Rn,Scope→Rt,behindInMarks→Rz,NameKind→RA,attributeBase→RB,wpAny_comprehension_free→RC,wpAny_attempt→RD,sliceBounds→RK,sizeLine→RO,hashInt→RP,pyNext→RQ,codeAny→RS,wpAny_typeOf→RT,compEnvC→RU,wpAny_pyIter_enum→RY,assign→R6,closureFor→R8,wpAny_standAt→Se,plainId_quiet→Sj,wpAny_execs_nil→Sm,letOwnedTupleGo→Sn,rawInt→So,getItem→Ss,codeAny_mono→Su,Keyword→Sv,cellsFrom→Sy,pickOrder→SC,wpAny_rule→SE,wpAny_Call_Name_kw→SG,newFunctionEnv→SL,wpAny_seqItems→SN,wpAny_letOwnedTupleGo_enum→SO,isSubtype_stop→SR,wpAny_runValue→SS,wpAny_fieldsOf→SX,wpAny_assign_Name→Td,sizeLine_eq→Tf,keywordEach→Tk,wpAny_pyIter_slot→Tn,swapsWithSole→Ts,swappedStores→Tt,tupleKind→TH,wpAny_pyNext_enum_itemD→TL,relayAll→TU,wpAny_askSetting→TV,intKind→Ub,wpAny_pyNext_range_end→Uc,wpAny_pyIter_rangeiter→Ud,BindsTo→Uf,IsPart→Ui,codeAny_compStart_list→Uk,exec_Assign_Name_used→Uw,builtinLookup_eq_fast→Uz,wpAny_loadName_local→UE,IsRangeIter→UF,subscripted→UG,wpAny_of_eq→UM,entryFor_alias→UP,IsRange→UW,callerA→UX,setNext→UZ,wpAny_loadName_cell→U0,assignInOrder→U6,wpAny_handled→U8,nums_intItems→Va,pyIter→Vd,wpAny_pyIter_range→Ve,call_meets→Vl,tupleKind_room_in1→Vo,backToKw→VA,wpAny_sequenceKey→VB,seqIndex_neg→VD,slot_list_getitem→VE,relabel→VF,newList→VG,valueAt→VM,wpAny_Call_method→VN,ItemsOf→VP,wpAny_storeSet_of→VU,slotArgs→VW,wpAny_setEpoch_of→VX,wpAny_execs_cons→V8,lastMarks→Wb,DictEntry→Wc,Result→We,pushCells→Wo,seqIndex_of→Wq,wpAny_throw→Wu,builtinsNs→WE,wpAny_Name→WF,CmpOp→WG,Operator→WH,bindName→WI,wpAny_load→WJ,Data→WK,bindArgs→WL,bindL→WM,bindC→WN,typeIs_int→WO,call→WP,IsPair→WR,atKey→WT,numAt_eq→WY,entryFor→W0,intKind_is→W3,Tok→W5,Env→W6,storeName→Xe,inplaceOp→Xf,small_one→Xg,seqIndex?→Xh,drawOrder→Xi,standAt→Xk,setItem→Xl,operate→Xm,collect→Xn,layNew→Xp,Walks→Xq,field→Xu
open PySem.Around renaming under_plainId→Pp
open PySem.AutoSeq1 renaming wpAny_loadPart'→Qx
open PySem.Builtin.Int renaming intBits→U3
open PySem.Builtin.List renaming listExtendWith→Q7,listSameRef→Tx
open PySem.Builtin.Range renaming rangeSize→OV,small→Qz
open PySem.Builtin.Slice renaming slicePlaces→Qn,sliceAdjust→Ru,sliceApplied→SJ
open PySem.Builtin.SmallTypes renaming nextOf→Qo
open PySem.Builtin.Tuple renaming tupleExact→Pk,tupleItemsOf→SK
open PySem.Data renaming fields→Te,cell→UV
open PySem.F renaming plainAttrs_list→Od,slot_list_append→Og,type_list_append→Oh,called_set→Pn,slot_dict_itemiterator_iter→RE,slot_dict_get→R5,args_dict_get_3→TM,plainAttrs_dict→TN,slot_dict_items→TQ,plain_list_iadd→TW,entry_dict_get→Ul,plain_set_new→Uy,slot_set_iter→UA
open PySem.Flow renaming next→V9
open PySem.Heap renaming get?_push_of_some→Nc,get?_push_size→Nr,lt_size→Nt,SameBut→Ow,get?_update_self→OS,size_push→O9,get?_update_other→QR,get?_none_of_le→Rb,ExtBut→Ws
open PySem.Heap.SameBut renaming update→OT
open PySem.MeetsSeq renaming EqGives→Wm
open PySem.NameKind renaming cell→U7,free→W8
open PySem.Obj renaming mapSeq→Rf,putSet→SW,data_mapFields→Vn,mapFields→Xb
open PySem.PassesOwn renaming never→NI
open PySem.PyData renaming eqv→OW,int→Py,depthAll→QY,shownAll→Q0,eqvAll→Tv,showableAll→Vp,canLayAll0→VI,depth→VJ,hasDictAll→VO,none→Wx
open PySem.SeqAt renaming EqAt→OO
open PySem.SeqAt.EqAt renaming int_str→Vb,str_int→Vc,int_int→Vi
open PySem.Str renaming ofString→OL
open PySem.Value renaming ref→Oy,type→Pt,none→PH,int→PY,bool→QM,str→TF,isInt→UD,isStrOf→W4
open PySem.W renaming Frag→M6,kia_one→OU,findIn→Pi,keepIn→PQ,fnOf→P8,kitOne→Re,codeIn→SI,methodObj→Tc,specialIn→Ti,kitx_list→Tj,cellsFrom_some→Ug,instObj→Ur,lookIn→UH,kitx_tuple→Vh,hasDictIn→Vy,kitx_dict→Vz,plainGet→Wd,takesIn→Wy,OpenLaw→Wz,kitAny→WQ,WalkO→W7
open PySem.Walks renaming list→WV
open PySem.pickOrder renaming go→VS
open Rat renaming intCast_mul→Oj,le_refl→OG,mul_lt_mul_of_pos_right→O6,intCast_lt_intCast→Pz,mul_le_mul_of_nonneg_right→PJ,intCast_natCast→QC,le_of_lt→QV,div_def→RL,intCast_add→Sr,not_le→Uo,intCast_inj→Ut,mul_add→UU,le_trans→V2,mul_zero→V6,natCast_add→WC,natCast_pos→WD,not_lt→WZ
open Sum renaming inl→Ps,inr→Ua
open True renaming intro→QQ
local macro_rules
 | `(Z)=>`(rfl)
theorem G0:1≤RO:=by decide
theorem g9:2≤RO:=by decide
theorem IY:3≤RO:=by decide
theorem GZ:4≤RO:=by decide
theorem Lv:6≤RO:=by decide
namespace L2
open PySem PySem.Spec PyProof.Rows
abbrev dz:=Sum Int NV
def mf:dz->Value->Bool
 | .inl k,v=>UD k v
 | .inr x,v=>W4 x v
def J2(w:Ol):dz->Int
 | .inl k=>RP k
 | .inr x=>hashStr w x
theorem cB:∀{k:dz} {v:Value},mf k v=true->(∃i t,k=Ps i/\v=PY i t)∨(∃x t,k=Ua x/\v=TF x t)
 | .inl i,v,h=>by
  obtain⟨t,e⟩:=Value.isInt_shape (k:=i) (v:=v) h;exact .inl ⟨i,t,Z,e⟩
 | .inr x,v,h=>by
  obtain⟨t,e⟩:=Value.isStrOf_shape (x:=x) (v:=v) h;exact .inr ⟨x,t,Z,e⟩
theorem wE(i:Int)(t:W5):mf (.inl i) (.int i t)=true:=by simp[mf,UD]
theorem wD(x:NV)(t:W5):mf (.inr x) (.str x t)=true:=by simp[mf,W4]
theorem F7(a b:Int):decide ((Ps a:dz)=Ps b)=(a==b):=by
 by_cases e:a=b
 ·subst e;simp
 ·have h:¬(Ps a:dz)=Ps b:=λq=>e (Ps.inj q)
  rw[decide_eq_false h];exact(beq_eq_false_iff_ne.mpr e).symm
theorem F4(a b:NV):decide ((Ua a:dz)=Ua b)=decide (a=b):=by
 by_cases e:a=b
 ·subst e;simp
 ·have h:¬(Ua a:dz)=Ua b:=λq=>e (Ua.inj q)
  rw[decide_eq_false h,decide_eq_false e]
theorem F6(a:Int)(b:NV):decide ((Ps a:dz)=Ua b)=false:=decide_eq_false (λq=>nomatch q)
theorem F5(a:NV)(b:Int):decide ((Ua a:dz)=Ps b)=false:=decide_eq_false (λq=>nomatch q)
def cA(prog:NW)(w:Ol):PySem.KeyKind prog w dz where
 is:=mf
 hash:=J2 w
 inj:=λv a b ha hb=>by
  rcases cB ha with⟨i,t,rfl,rfl⟩ | ⟨x,t,rfl,rfl⟩
  ·rcases cB hb with⟨j,u,rfl,e⟩ | ⟨y,u,rfl,e⟩
   ·injection e with e1 _;rw[e1]
   ·exact nomatch e
  ·rcases cB hb with⟨j,u,rfl,e⟩ | ⟨y,u,rfl,e⟩
   ·exact nomatch e
   ·injection e with e1 _;rw[e1]
 byValue:=λk v h=>by
  rcases cB h with⟨i,t,rfl,rfl⟩ | ⟨x,t,rfl,rfl⟩<;>rfl
 pyHash:=λhv h=>by
  rcases cB hv with⟨i,t,rfl,rfl⟩ | ⟨x,t,rfl,rfl⟩
  ·exact wpAny_pyHash_int h
  ·exact wpAny_pyHash_str h
 eqBool:=λhu hv h=>by
  rcases cB hu with⟨i,t,rfl,rfl⟩ | ⟨x,t,rfl,rfl⟩
  ·rcases cB hv with⟨j,u,rfl,rfl⟩ | ⟨y,u,rfl,rfl⟩
   ·rw[F7] at h;exact wpAny_eqBool_int h
   ·rw[F6] at h;exact Vb i t y u _ _ _ _ h
  ·rcases cB hv with⟨j,u,rfl,rfl⟩ | ⟨y,u,rfl,rfl⟩
   ·rw[F5] at h;exact Vc x t j u _ _ _ _ h
   ·rw[F4] at h;exact wpAny_eqBool_str h
 «strs»:=λk x t v h=>by
  rcases cB h with⟨i,u,rfl,e⟩ | ⟨y,u,rfl,e⟩
  ·exact nomatch e
  ·injection e with e1 _;subst e1
   cases v<;>rfl
theorem rj(prog:NW)(w:Ol)(i:Int)(t:W5):(cA prog w).is (.inl i) (.int i t)=true:=wE i t
theorem rh(prog:NW)(w:Ol)(x:NV)(t:W5):(cA prog w).is (.inr x) (.str x t)=true:=wD x t
end L2
namespace L2
open PySem PySem.Spec PyProof.Rows
inductive V where
 |non|bl (b:Bool)|int (i:Int)|str (x:NV)|byt (b:Array UInt8)|flt (b:UInt64)|ref (a:Addr)|ty (n:String)
 deriving DecidableEq
def bv:V->Value->Prop
 | .non,u=>u=PH
 | .bl b,u=>u=QM b
 | .int i,u=>∃t,u=PY i t
 | .str x,u=>∃t,u=TF x t
 | .byt b,u=>∃t,u=Value.bytes b t
 | .flt b,u=>∃t,u=Value.float b t
 | .ref a,u=>u=Oy a
 | .ty n,u=>u=Pt n
abbrev bE:List V->List Value->Prop:=Paired bv
theorem bE.length(r:bE xs us):xs.length=us.length:=Paired.length r
theorem bE.get:∀{xs:List V} {us:List Value} {i:Nat} {x:V},bE xs us->xs[i]?=some x->∃u,us[i]?=some u/\bv x u
 |_,_,_,_,.nil,e=>by simp at e
 |_,_,0,_,.cons r _,e=>by simp at e;subst e;exact⟨_,Z,r⟩
 |_,_,i+1,x,.cons _ t,e=>by
  obtain⟨u,h1,h2⟩:=bE.get (i:=i) (x:=x) t (by simpa using e);exact⟨u,by simpa using h1,h2⟩
theorem bE.set{x:V}{u:Value}(r:bv x u):∀{xs:List V} {us:List Value} (i:Nat),bE xs us->bE (xs.set i x) (us.set i u)
 |_,_,_,.nil=>.nil
 |_,_,0,.cons _ t=>.cons r t
 |_,_,i+1,.cons q t=>.cons q (bE.set r i t)
theorem bE.append:∀{xs ys:List V} {us ws:List Value},bE xs us->bE ys ws->bE (xs++ys) (us++ws)
 |_,_,_,_,.nil,s=>s
 |_,_,_,_,.cons r t,s=>.cons r (bE.append t s)
theorem bE.take:∀{xs:List V} {us:List Value} (n:Nat),bE xs us->bE (xs.take n) (us.take n)
 |_,_,0,_=>.nil
 |_,_,_+1,.nil=>.nil
 |_,_,n+1,.cons r t=>.cons r (bE.take n t)
theorem bE.drop:∀{xs:List V} {us:List Value} (n:Nat),bE xs us->bE (xs.drop n) (us.drop n)
 |_,_,0,r=>r
 |_,_,_+1,.nil=>.nil
 |_,_,n+1,.cons _ t=>bE.drop n t
def ng:Option V->Option Value->Prop
 |some v,some u=>bv v u
 |none,none=>True
 |_,_=>False
def KV{κ:Type}:List (κ×V)->List (κ×Value)->Prop:=Paired λ(p:κ×V) (q:κ×Value)=>p.1=q.1/\bv p.2 q.2
def kV:dz->V
 | .inl i=>.int i
 | .inr x=>.str x
inductive HO where
 |lst (xs:List V)
 |tup (xs:List V)
 |dK (kvs:List (dz×V))|dT (kvs:List (List dz×V))
 |set (S:Int->Bool) (n:Nat)
 |ins (C dx:Addr) (fs:List (NV×V))
 |own (x:Addr)
 |xd (fs:List (NV×V))
 |met (f x:Addr)
 |rng (lo hi:Int)
 |frz (o:O8) (u:HO)
 |tbl (ps:Array Value)
 |ext (φ:Np->Prop)
abbrev Hp:=Addr->Option HO
def aE(H:Hp)(a:Addr)(o:HO):Hp:=λb=>if b=a then some o else H b
theorem ag:aE H a o a=some o:=by unfold aE;rw[if_pos Z]
theorem aJ(h:b≠a):aE H a o b=H b:=by unfold aE;rw[if_neg h]
theorem kO:aE (aE H a o) a u=aE H a u:=by
 funext b;unfold aE;split<;>rfl
theorem Is{H:Hp}{a b:Addr}{o u:HO}(h:H a=some o)(h':H b=some u)(d:o≠u):a≠b:=by
 intro e;subst e;rw[h] at h';exact d (OB h')
theorem aU{H:Hp}{a b:Addr}{o:HO}(h:H a=some o)(h':H b=none):a≠b:=by
 intro e;subst e;rw[h] at h';cases h'
section
variable (P:NW) (w:Ol)
def bW(H:Hp)(h:Np)(a:Addr):HO->Prop
 | .lst xs=>xs.length≤sizeLine/\∃(its:List Value) (n:Nat),bE xs its/\h.get? a=some { cls:=.type "list",data:=.seq its.toArray n}
 | .tup xs=>xs.length≤sizeLine/\∃its:List Value,bE xs its/\Vw h a its.toArray
 | .dK kvs=>kvs.length≤sizeLine/\(a==QN)=false/\∃vs,KV kvs vs/\h.DictOf (cA P w) a vs
 | .dT kvs=>kvs.length≤sizeLine/\(a==QN)=false/\∃xs:List (List dz×Addr×Value),
   Paired (λ(p:List dz×V) (q:List dz×Addr×Value)=>p.1=q.1/\H q.2.1=some (.tup (p.1.map kV))/\bv p.2 q.2.2) kvs xs∧
   ∃o es ep,h.get? a=some o/\o.ExactDict/\o.data=.dict es ep/\es.toList=xs.map (entryOfKey (TH (cA P w)))/\(xs.map (·.1)).Nodup
 | .set S n=>h.SetOf (Ub P w) a S n
 | .ins C dx fs=>H dx=some (.own a)/\fs.length≤1000/\dx≠a/\h.get? a=some (Ur C dx)∧
   ∃mA,h.Ns1 dx mA/\(∀f,ng (fs.lookup f) (mA f))/\PySem.Within mA (fs.map (·.1))
 | .own _=>∃o,h.get? a=some o
 | .xd fs=>∃mA,h.Ns1 a mA/\∀f,ng (fs.lookup f) (mA f)
 | .rng lo hi=>∃t u v,h.get? a=some { cls:=.type "range",data:=.fields #[.int lo t,.int hi u,.int 1 v]}
 | .frz o u=>h.get? a=some o/\bW H h a u
 | .tbl ps=>h.get? a=some { cls:=.none,data:=.fields ps}
 | .met f x=>h.get? a=some (Tc (.ref f) (.ref x))
 | .ext φ=>φ h/\(∃o,h.get? a=some o)/\∀h1 h2:Np,φ h1->(∀o,h1.get? a=some o->h2.get? a=some o)->φ h2
def iR(H:Hp)(h:Np):Prop:=∀a o,H a=some o->bW P w H h a o
end
section
variable {P:NW}{w:Ol}{H H':Hp}{h h':Np}{a:Addr}{o:HO}
theorem bW.lt(x:bW P w H h a o):a<h.objs.size:=by
 cases o with
 |lst xs=>obtain⟨_,_,_,_,e⟩:=x;exact Nt e
 |tup xs=>obtain⟨_,_,_,p⟩:=x;exact p.lt
 |dK kvs=>obtain⟨_,_,_,_,o,_,_,e,_⟩:=x;exact Nt e
 |dT kvs=>obtain⟨_,_,_,_,o,_,_,e,_⟩:=x;exact Nt e
 |set S n=>obtain⟨o,_,_,_,e,_⟩:=x;exact Nt e
 |ins C dx fs=>obtain⟨_,_,_,e,_⟩:=x;exact Nt e
 |own y=>obtain⟨_,e⟩:=x;exact Nt e
 |xd fs=>obtain⟨_,⟨_,_,_,e,_⟩,_⟩:=x;exact Nt e
 |rng lo hi=>obtain⟨_,_,_,e⟩:=x;exact Nt e
 |frz ob u=>obtain⟨e,_⟩:=x;exact Nt e
 |tbl ps=>exact Nt (show h.get? a=some _ from x)
 |met f y=>exact Nt (show h.get? a=some _ from x)
 |ext φ=>obtain⟨_,⟨_,e⟩,_⟩:=x;exact Nt e
theorem Paired.mapP{α β:Type}{F G:α->β->Prop}:∀{l₁:List α} {l₂:List β},Paired F l₁ l₂->(∀a b,F a b->G a b)->Paired G l₁ l₂
 |_,_,.nil,_=>.nil
 |_,_,.cons r t,f=>.cons (f _ _ r) (Paired.mapP t f)
theorem bW.stay(x:bW P w H h a o)(k:∀b u,(b=a∨H b=some (.own a))->h.get? b=some u->h'.get? b=some u)
  (ho:∀b,H b=some (.own a)->H' b=some (.own a)) (ht:∀b xs,H b=some (.tup xs)->H' b=some (.tup xs)):bW P w H' h' a o:=by
 induction o with
 |lst xs=>obtain⟨z,its,n,r,e⟩:=x;exact⟨z,its,n,r,k _ _ (.inl Z) e⟩
 |tup xs=>obtain⟨z,its,r,ob,e,c⟩:=x;exact⟨z,its,r,ob,k _ _ (.inl Z) e,c⟩
 |dK kvs=>obtain⟨z,y,vs,r,ob,es,ep,e,c⟩:=x;exact⟨z,y,vs,r,ob,es,ep,k _ _ (.inl Z) e,c⟩
 |dT kvs=>
  obtain⟨z,y,xs,r,ob,es,ep,e,c⟩:=x;exact⟨z,y,xs,Paired.mapP r λp q z=>⟨z.1,ht _ _ z.2.1,z.2.2⟩,ob,es,ep,k _ _ (.inl Z) e,c⟩
 |set S n=>obtain⟨ob,es,ep,t,e,c⟩:=x;exact⟨ob,es,ep,t,k _ _ (.inl Z) e,c⟩
 |ins C dx fs=>
  obtain⟨d,z,ne,e,mA,⟨od,es,ep,e2,c⟩,r⟩:=x;exact⟨ho _ d,z,ne,k _ _ (.inl Z) e,mA,⟨od,es,ep,k _ _ (.inr d) e2,c⟩,r⟩
 |own y=>obtain⟨ob,e⟩:=x;exact⟨ob,k _ _ (.inl Z) e⟩
 |xd fs=>obtain⟨mA,⟨od,es,ep,e,c⟩,r⟩:=x;exact⟨mA,⟨od,es,ep,k _ _ (.inl Z) e,c⟩,r⟩
 |rng lo hi=>obtain⟨t,u,v,e⟩:=x;exact⟨t,u,v,k _ _ (.inl Z) e⟩
 |frz ob u ih=>obtain⟨e,q⟩:=x;exact⟨k _ _ (.inl Z) e,ih q⟩
 |tbl ps=>
  have e:h.get? a=some { cls:=.none,data:=.fields ps}:=x;show h'.get? a=some { cls:=.none,data:=.fields ps};exact k a _ (.inl Z) e
 |met f y=>
  have e:h.get? a=some (Tc (.ref f) (.ref y)):=x;show h'.get? a=some (Tc (.ref f) (.ref y));exact k a _ (.inl Z) e
 |ext φ=>obtain⟨p,⟨o,e⟩,st⟩:=x;exact⟨st _ _ p λo q=>k _ _ (.inl Z) q,⟨o,k _ _ (.inl Z) e⟩,st⟩
theorem iR.lt(x:iR P w H h)(e:H a=some o):a<h.objs.size:=(x a o e).lt
theorem iR.fresh(x:iR P w H h)(e:h.objs.size≤a):H a=none:=by
 cases q:H a with
 |none=>rfl
 |some u=>exact absurd (NE (x.lt q) e) (Of _)
theorem iR.kept(x:iR P w H h)(k:∀b u,h.get? b=some u->h'.get? b=some u):iR P w H h':=λa o e=>
 (x a o e).stay (λb u _ q=>k b u q) (λ_ q=>q) λ_ _ q=>q
theorem iR.laid(x:iR P w H h)(k:∀b u,h.get? b=some u->h'.get? b=some u)(hp:h.objs.size≤a)(new:bW P w (aE H a o) h' a o):iR P w (aE H a o) h':=λb u e=>by
 have hn:=x.fresh hp;by_cases hb:b=a
 ·subst hb;rw[ag] at e;cases e;exact new
 ·rw[aJ hb] at e;exact(x b u e).stay (λc v _ q=>k c v q) (λc q=>by rw[aJ (aU q hn)];exact q) λc xs q=>by rw[aJ (aU q hn)];exact q
end
def Rd(H:Hp)(a:Addr)(u:HO):Prop:=H a=some u∨∃o,H a=some (.frz o u)
theorem Rd.ok(r:Rd H a u)(x:iR P w H h):bW P w H h a u:=by
 rcases r with r | ⟨o,r⟩
 ·exact x a u r
 ·obtain⟨_,q⟩:=x a _ r;exact q
def IR:Option HO->Prop
 |some (.lst _)=>True
 |some (.dK _)=>True
 |some (.dT _)=>True
 |some (.set _ _)=>True
 |some (.ins _ _ _)=>True
 |some (.ext _)=>True
 |_=>False
section
variable {P:NW}{w:Ol}{H:Hp}{h h':Np}{x e:Addr}{o':HO}
theorem iR.write(ok:iR P w H h)(mu:IR (H x))(he:e=x∨H e=some (.own x))(k:∀b u,b≠e->h.get? b=some u->h'.get? b=some u)(heo:∃u,h'.get? e=some u)
  (new:bW P w (aE H x o') h' x o'):iR P w (aE H x o') h':=λb u q=>by
 have nown:∀c y,H c=some (.own y)->c≠x:=λc y r z=>by subst z;rw[r] at mu;exact mu
 have ntup:∀c xs,H c=some (.tup xs)->c≠x:=λc xs r z=>by subst z;rw[r] at mu;exact mu
 by_cases hb:b=x
 ·subst hb;rw[ag] at q;cases q;exact new
 ·rw[aJ hb] at q;by_cases hbe:b=e
  ·have q':H b=some (.own x):=by
    rcases he with z|z
    ·exact absurd (hbe.trans z) hb
    ·rw[hbe];exact z
   rw[q] at q';cases q';obtain⟨v,hv⟩:=heo;exact⟨v,by rw[hbe];exact hv⟩
  ·refine(ok b u q).stay (λc v hc r=>k c v ?_ r) (λc r=>by rw[aJ (nown c b r)];exact r) λc xs r=>by rw[aJ (ntup c xs r)];exact r
   rcases hc with rfl|hc
   ·exact hbe
   ·rintro rfl;rcases he with z|z
    ·exact nown c b hc z
    ·rw[hc] at z;cases z;exact hb Z
end
structure Un(fs ex:List Addr)(H H':Hp)(h h':Np):Prop where
 keep:∀b o,h.get? b=some o->H b=none->b∉fs->b∉ex->h'.get? b=some o
 slot:∀b o,h.get? b=some o->H b=none->b∈fs->b∉ex->∃sl,h'.get? b=some { o with slots:=sl}
 free:∀b o,h.get? b=some o->H b=none->b∉ex->H' b=none
 there:∀b o,h.get? b=some o->b∉ex->∃o',h'.get? b=some o'
 tups:∀b xs,H b=some (.tup xs)->H' b=some (.tup xs)
 frzs:∀b o u,H b=some (.frz o u)->H' b=some (.frz o u)
 tbls:∀b ps,H b=some (.tbl ps)->∃more,H' b=some (.tbl (ps++more))
section
variable {fs fs' ex ex':List Addr}{H H1 H2:Hp}{h h1 h2 h':Np}{a x e:Addr}{o:HO}
theorem Un.any(u:Un fs ex H H1 h h1)(q:h.get? b=some ob)(n:H b=none)(hx:b∉ex):∃sl,h1.get? b=some { ob with slots:=sl}:=by
 by_cases hb:b∈fs
 ·exact u.slot b ob q n hb hx
 ·exact⟨ob.slots,u.keep b ob q n hb hx⟩
theorem Un.kept(k:∀b u,h.get? b=some u->h'.get? b=some u):Un fs ex H H h h':=
 ⟨λb ob q _ _ _=>k b ob q,λb ob q _ _ _=>⟨ob.slots,k b ob q⟩,λ_ _ _ n _=>n,λb ob q _=>⟨ob,k b ob q⟩,λ_ _ q=>q,λ_ _ _ q=>q,λ_ ps q=>⟨#[],by rw[q];simp⟩⟩
theorem Un.refl:Un fs ex H H h h:=Un.kept λ_ _ q=>q
theorem Un.laid(k:∀b u,h.get? b=some u->h'.get? b=some u)(hp:h.objs.size≤a)(hn:H a=none):Un fs ex H (aE H a o) h h' where
 keep:=λb u q _ _ _=>k b u q
 slot:=λb u q _ _ _=>⟨u.slots,k b u q⟩
 free:=λb u q n _=>by rw[aJ (NT (NE (Nt q) hp))];exact n
 there:=λb u q _=>⟨u,k b u q⟩
 tups:=λb xs q=>by rw[aJ (aU q hn)];exact q
 frzs:=λb u xs q=>by rw[aJ (aU q hn)];exact q
 tbls:=λb ps q=>⟨#[],by rw[aJ (aU q hn),q];simp⟩
theorem Un.write(mu:IR (H x))(he:e=x∨H e=some (.own x))(k:∀b u,b≠e->h.get? b=some u->h'.get? b=some u)(heo:∃u,h'.get? e=some u):Un fs ex H (aE H x o) h h':=by
 have hx:∀b,H b=none->b≠x:=λb n z=>by subst z;rw[n] at mu;exact mu
 have hb:∀b,H b=none->b≠e:=λb n z=>by
  subst z;rcases he with r|r
  ·exact hx b n r
  ·rw[n] at r;cases r
 have hm:∀b u,H b=some u->¬IR (some u)->b≠x:=λb u q nm z=>by subst z;rw[q] at mu;exact nm mu
 refine⟨λb u q n _ _=>k b u (hb b n) q,λb u q n _ _=>⟨u.slots,k b u (hb b n) q⟩,λb u q n _=>by rw[aJ (hx b n)];exact n,λb u q _=>?_,
  λb xs q=>by rw[aJ (hm b _ q λz=>z)];exact q,λb u xs q=>by rw[aJ (hm b _ q λz=>z)];exact q,λb ps q=>⟨#[],by rw[aJ (hm b _ q λz=>z),q];simp⟩⟩
 by_cases hbe:b=e
 ·subst hbe;exact heo
 ·exact⟨u,k b u hbe q⟩
end
def IZ(h:Np)(H:Hp):List Addr:=(M7 h.objs.size).filter λa=>(H a).isSome
def pI(h:Np)(H:Hp):Np:=PySem.W.hideAll h (IZ h H)
theorem wJ(h:Np)(H:Hp):(pI h H).objs.size=h.objs.size:=PySem.W.hideAll_size _ _
theorem AR(e:h.get? b=some o)(n:H b=none):(pI h H).get? b=some o:=
 PySem.W.hideAll_get _ e λhm=>by
  have q:(H b).isSome=true:=(NA.mp hm).2;rw[n] at q;simp at q
theorem CA(e:(pI h H).get? b=some o):h.get? b=some o/\H b=none:=by
 have e':h.get? b=some o:=PySem.W.of_hideAll (IZ h H) e;refine⟨e',?_⟩
 cases q:H b with
 |none=>rfl
 |some x=>
  have hm:b∈IZ h H:=NA.mpr ⟨Nk.mpr (Nt e'),by simp[q]⟩;have z:(pI h H).get? b=none:=PySem.W.hideAll_none (IZ h H) hm;rw[z] at e;cases e
def Da(g h:Np)(L:Addr):List (Addr×O8):=(M7 h.objs.size).filterMap λa=>if a=L∨(g.get? a).isSome=true then none else(h.get? a).map λo=>(a,o)
def em(g h:Np)(L d:Addr):List (Addr×O8):=(Da g h L).filter λp=>decide (p.1≠d)
end L2
namespace L2
open PySem PySem.Spec PyProof.Rows
structure Mod(K:M6)(mg:NV->Option Value)(base:Np):Prop where
 kin:K.In base
 glob:base.Ns NS mg
 blt:∃mb,base.Ns WE mb/\∀x:NV,x ≠ "__name__"->mb x=Pu x
 nolimit:base.NoLimit
structure Cx where
 prog:NW
 w:Ol
 K:M6
 mg:NV->Option Value
 base:Np
 A:N8
 N:List NV
 s₀:Nf
 H₀:Hp
 env:W6
 outer:List W6
 stack:List W6
 ex:List Addr
 fn:NV->Bool
 calm:Bool
 pn:List (Addr×O8)
 xe:Value->Nf->Prop
def vh(l:List W6):List Addr:=l.filterMap (·.frame)
abbrev Cx.fs(X:Cx):List Addr:=vh X.outer
def IJ(sc:Rt)(x:NV):Prop:=sc.names.lookup x=some .local∨sc.names.lookup x=some .cell∨sc.names.lookup x=some .free
def xh(sc:Rt)(x:NV):Prop:=sc.names.lookup x=some .local∨sc.names.lookup x=some .cell
def Km(env:W6)(h:Np)(m:NV->Option Value)(x:NV)(u:Value):Prop:=
 (env.kindOf x=some .local/\m x=some u)∨((env.kindOf x=some .cell∨env.kindOf x=some .free)/\∃c,env.cells.lookup x=some c/\h.IsCell c (some u))
structure Cx.Ok(X:Cx):Prop where
 mod:Mod X.K X.mg X.base
 kind:X.env.scope.kind=.function
 glob:X.env.globals=NS
 blt:X.env.builtins=WE
 above:X.s₀.heap.objs.size≤X.env.locals
 inj:∀x y c,X.env.cells.lookup x=some c->X.env.cells.lookup y=some c->x=y
 has:∀x,(X.env.kindOf x=some .cell∨X.env.kindOf x=some .free)->∃c,X.env.cells.lookup x=some c
 cab:∀x c,X.fn x=true->X.env.cells.lookup x=some c->X.s₀.heap.objs.size≤c
 hd:X.calm=true->X.A.handled=none
 frames:X.A.frames=some X.stack
 stk:X.stack=X.outer∨(X.stack=X.env::X.outer/\X.env.frame=some X.env.locals)
 exf:∀b∈X.ex,b≠X.env.locals/\∀x c,X.env.cells.lookup x=some c->c≠b
 bs:∀b o,X.base.get? b=some o->X.s₀.heap.get? b=some o/\X.H₀ b=none
 bsz:X.base.objs.size≤X.s₀.heap.objs.size
 noex:∀b o,X.base.get? b=some o->b∉X.ex
 exfs:∀b∈X.ex,b∉X.fs
 funs:X.s₀.heap.FunFrames X.base X.outer
 frf:∀b∈X.fs,X.H₀ b=none
structure Inv(X:Cx)(pins:List (Addr×O8))(σ:List (Option V))(H:Hp)(s:Nf):Prop where
 ok:X.Ok
 os:s.os=X.s₀.os
 bare:Sd s.gens
 base:Un X.fs X.ex X.H₀ H X.s₀.heap s.heap
 loc:∃m,s.heap.Ns X.env.locals m/\∀(i:Nat) (x:NV) (v:V),X.N[i]?=some x->σ[i]?=some (some v)->IJ X.env.scope x->∃u,bv v u/\Km X.env s.heap m x u
 cell:∀x c,X.env.cells.lookup x=some c->∃v,s.heap.IsCell c v
 free:H X.env.locals=none
 freeC:∀x c,X.env.cells.lookup x=some c->H c=none
 pin:∀p∈X.pn++pins,s.heap.get? p.1=some p.2/\H p.1=none/\p.1≠X.env.locals/\p.1∉X.fs/\∀v,p.2.data≠.cell v
 hok:iR X.prog X.w H s.heap
 len:σ.length=X.N.length
section
variable {X:Cx}{pins:List (Addr×O8)}{σ:List (Option V)}{H H':Hp}{s:Nf}{h':Np}
theorem Cx.Ok.nofr(ok:X.Ok)(e:X.base.get? b=some o):b∉X.fs:=λhb=>by
 have:=(ok.funs.mem hb).1;rw[e] at this;cases this
theorem Inv.bs(I:Inv X pins σ H s):∀b o,X.base.get? b=some o->s.heap.get? b=some o/\H b=none:=λb o e=>
 ⟨I.base.keep b o (I.ok.bs b o e).1 (I.ok.bs b o e).2 (I.ok.nofr e) (I.ok.noex b o e),I.base.free b o (I.ok.bs b o e).1 (I.ok.bs b o e).2 (I.ok.noex b o e)⟩
theorem Inv.bk(I:Inv X pins σ H s):∀b o,X.base.get? b=some o->s.heap.get? b=some o:=λb o e=>(I.bs b o e).1
theorem Inv.mod(I:Inv X pins σ H s):Mod X.K X.mg X.base:=I.ok.mod
theorem Inv.kIn(I:Inv X pins σ H s):X.K.In s.heap:=I.ok.mod.kin.keeps I.bk
theorem Inv.lt(I:Inv X pins σ H s):X.env.locals<s.heap.objs.size:=let ⟨_,hn,_⟩:=I.loc;hn.lt
theorem Inv.sz(I:Inv X pins σ H s):X.s₀.heap.objs.size≤s.heap.objs.size:=NH I.ok.above (Pb I.lt)
theorem Inv.nofs(I:Inv X pins σ H s){a:Addr}(h:s.heap.objs.size≤a):a∉X.fs:=λhb=>by
 obtain⟨_,o,ho,_⟩:=I.ok.funs.mem hb;exact absurd (NE (Nt ho) (NH I.sz h)) (Of _)
theorem Inv.cne(I:Inv X pins σ H s):∀x c,X.env.cells.lookup x=some c->c≠X.env.locals:=λx c e z=>by
 obtain⟨v,o,ho,hd⟩:=I.cell x c e;obtain⟨m,⟨o',es,ep,ho',hd',_⟩,_⟩:=I.loc;rw[z,ho'] at ho;cases ho;rw[hd'] at hd;cases hd
theorem Inv.funs(I:Inv X pins σ H s):s.heap.FunFrames X.base X.outer:=by
 have all:∀(l:List W6),(∀b∈vh l,b∈X.fs)->X.s₀.heap.FunFrames X.base l->s.heap.FunFrames X.base l:=by
  intro l
  induction l with
  |nil=>intro _ _;trivial
  |cons env r ih=>
   intro hs hl;obtain⟨hk,⟨L,o,hf,hn,ho,hd⟩,hr⟩:=hl;have hL:L∈X.fs:=hs L (by unfold vh;rw[P4,hf];exact Ng);obtain⟨sl,e⟩:=I.base.slot L o ho (I.ok.frf L hL) hL λz=>I.ok.exfs L z hL
   exact⟨hk,⟨L,_,hf,hn,e,hd⟩,ih (λb hb=>hs b (by unfold vh;rw[P4,hf];exact No _ hb)) hr⟩
 exact all X.outer (λ_ hb=>hb) I.ok.funs
theorem Inv.stack(I:Inv X pins σ H s):s.heap.FunFrames X.base X.stack:=by
 rcases I.ok.stk with e | ⟨e,hf⟩
 ·rw[e];exact I.funs
 ·rw[e];obtain⟨m,hn,_⟩:=I.loc;refine .cons (by rw[I.ok.kind];decide) hf hn ?_ I.funs;exact Rb (NH I.ok.bsz I.ok.above)
theorem Inv.stkSub(I:Inv X pins σ H s):∀b∈vh X.stack,b∈X.env.locals::X.fs:=λb hb=>by
 rcases I.ok.stk with e | ⟨e,hf⟩
 ·rw[e] at hb;exact No _ hb
 ·rw[e] at hb;unfold vh at hb;rw[P4,hf] at hb;exact hb
theorem Inv.stkFree(I:Inv X pins σ H s):∀b∈vh X.stack,H b=none:=λb hb=>by
 rcases Nq.mp (I.stkSub b hb) with e|hb
 ·rw[e];exact I.free
 ·obtain⟨_,o,ho,_⟩:=I.ok.funs.mem hb;exact I.base.free b o ho (I.ok.frf b hb) λz=>I.ok.exfs b z hb
theorem Inv.step{ch:List Addr}(I:Inv X pins σ H s)
  (hch:∀b∈ch,(b∈X.ex∨X.s₀.heap.get? b=none)/\b≠X.env.locals/\(∀x c,X.env.cells.lookup x=some c->c≠b)/\∀p∈X.pn++pins,p.1≠b)
  (keep:∀b o,b≠X.env.locals->b∉X.fs->b∉ch->s.heap.get? b=some o->H b=none->h'.get? b=some o)
  (slot:∀b o,b≠X.env.locals->b∈X.fs->b∉ch->s.heap.get? b=some o->H b=none->∃sl,h'.get? b=some { o with slots:=sl}) (free:∀b o,b∉ch->s.heap.get? b=some o->H b=none->H' b=none)
  (there:∀b o,b∉ch->s.heap.get? b=some o->∃o',h'.get? b=some o')
  (tups:∀b xs,H b=some (.tup xs)->H' b=some (.tup xs)) (frzs:∀b o u,H b=some (.frz o u)->H' b=some (.frz o u)) (tbls:∀b ps,H b=some (.tbl ps)->∃more,H' b=some (.tbl (ps++more)))
  (ns:∀m,s.heap.Ns X.env.locals m->h'.Ns X.env.locals m) (hok:iR X.prog X.w H' h') (hg:Sd g'):
  Inv X pins σ H' { s with heap:=h',gens:=g',drawn:=d',toks:=t'}:=by
 have neL:∀b o,X.s₀.heap.get? b=some o->b≠X.env.locals:=λb o e=>NT (NE (Nt e) I.ok.above)
 have neC:∀b o,X.s₀.heap.get? b=some o->b∉X.ex->b∉ch:=λb o e hx hb=>by
  rcases(hch b hb).1 with z|z
  ·exact hx z
  ·rw[e] at z;cases z
 have cellK:∀x c,X.env.cells.lookup x=some c->∀v,s.heap.IsCell c v->h'.IsCell c v:=λx c e v ⟨o,ho,hd⟩=>by
  have nch:c∉ch:=λz=>(hch c z).2.2.1 x c e Z
  by_cases hc:c∈X.fs
  ·obtain⟨sl,q⟩:=slot c o (I.cne x c e) hc nch ho (I.freeC x c e);exact⟨_,q,hd⟩
  ·exact⟨o,keep c o (I.cne x c e) hc nch ho (I.freeC x c e),hd⟩
 refine⟨I.ok,I.os,hg,⟨λb o e n hb hx=>?_,λb o e n hb hx=>?_,λb o e n hx=>?_,λb o e hx=>?_,λb xs e=>tups b xs (I.base.tups b xs e),λb o xs e=>frzs b o xs (I.base.frzs b o xs e),λb ps e=>?_⟩,?_,λx c e=>?_,?_,λx c e=>?_,λp hp=>?_,hok,I.len⟩
 ·exact keep b o (neL b o e) hb (neC b o e hx) (I.base.keep b o e n hb hx) (I.base.free b o e n hx)
 ·obtain⟨sl,e1⟩:=I.base.slot b o e n hb hx;obtain⟨sl',e2⟩:=slot b _ (neL b o e) hb (neC b o e hx) e1 (I.base.free b o e n hx);exact⟨sl',e2⟩
 ·obtain⟨o',e1⟩:=I.base.there b o e hx;exact free b o' (neC b o e hx) e1 (I.base.free b o e n hx)
 ·obtain⟨o',e1⟩:=I.base.there b o e hx;exact there b o' (neC b o e hx) e1
 ·obtain⟨m1,e1⟩:=I.base.tbls b ps e;obtain⟨m2,e2⟩:=tbls b _ e1;exact⟨m1++m2,by rw[e2,Array.append_assoc]⟩
 ·obtain⟨m,hn,hl⟩:=I.loc;refine⟨m,ns m hn,λi x v e1 e2 e3=>?_⟩;obtain⟨u,r,l⟩:=hl i x v e1 e2 e3;refine⟨u,r,?_⟩;rcases l with l | ⟨k,c,e,z⟩
  ·exact .inl l
  ·exact .inr ⟨k,c,e,cellK x c e _ z⟩
 ·obtain⟨v,z⟩:=I.cell x c e;exact⟨v,cellK x c e v z⟩
 ·obtain⟨m,⟨o,_,_,ho,_⟩,_⟩:=I.loc;exact free _ o (λz=>(hch _ z).2.1 Z) ho I.free
 ·obtain⟨v,o,ho,hd⟩:=I.cell x c e;exact free c o (λz=>(hch c z).2.2.1 x c e Z) ho (I.freeC x c e)
 ·obtain⟨e,n,ne,nf,d⟩:=I.pin p hp;have nch:p.1∉ch:=λz=>(hch p.1 z).2.2.2 p hp Z
  exact⟨keep p.1 p.2 ne nf nch e n,free p.1 p.2 nch e n,ne,nf,d⟩
theorem Inv.un(I:Inv X pins σ H s)(u:Un X.fs [] H H' s.heap h')(hok:iR X.prog X.w H' h'):Inv X pins σ H' { s with heap:=h',toks:=t'}:=by
 obtain⟨m,⟨o,es,ep,ho,r⟩,_⟩:=id I.loc;obtain⟨sl,hL⟩:=u.any ho I.free (by simp);exact I.step (g':=s.gens) (d':=s.drawn) (ch:=[]) (λ_ z=>nomatch z) (λb o _ hb _ e n=>u.keep b o e n hb (by simp)) (λb o _ hb _ e n=>u.slot b o e n hb (by simp)) (λb o _ e n=>u.free b o e n (by simp)) (λb o _ e=>u.there b o e (by simp)) u.tups u.frzs u.tbls (λm' hm=>by
  obtain⟨o',es',ep',ho',r'⟩:=hm;rw[ho] at ho';cases ho';exact⟨_,es',ep',hL,r'⟩) hok I.bare
theorem Inv.call(I:Inv X pins σ H s)(u:Un (vh X.stack) ch H H' s.heap h')(hok:iR X.prog X.w H' h')(hg:Sd g')
  (hch:∀b∈ch,(b∈X.ex∨X.s₀.heap.get? b=none)/\b≠X.env.locals/\(∀x c,X.env.cells.lookup x=some c->c≠b)/\∀p∈X.pn++pins,p.1≠b):
  Inv X pins σ H' { s with heap:=h',gens:=g',drawn:=d',toks:=t'}:=by
 obtain⟨m,⟨o,es,ep,ho,r⟩,_⟩:=id I.loc;obtain⟨sl,hL⟩:=u.any ho I.free λz=>(hch _ z).2.1 Z
 exact I.step (ch:=ch) hch (λb o hL hb hc e n=>u.keep b o e n (λz=>(Nq.mp (I.stkSub b z)).elim hL hb) hc) (λb o _ _ hc e n=>u.any e n hc) (λb o hc e n=>u.free b o e n hc) (λb o hc e=>u.there b o e hc) u.tups u.frzs u.tbls (λm' hm=>by
  obtain⟨o',es',ep',ho',r'⟩:=hm;rw[ho] at ho';cases ho';exact⟨_,es',ep',hL,r'⟩) hok hg
theorem Inv.turned(I:Inv X pins σ H s)(k:∀b o,b≠it->s.heap.get? b=some o->h'.get? b=some o)(hn:H it=none)(hL:it≠X.env.locals)
  (h1:it∈X.ex∨X.s₀.heap.get? it=none) (h2:∀x c,X.env.cells.lookup x=some c->c≠it) (h3:∀p∈X.pn++pins,p.1≠it):Inv X pins σ H { s with heap:=h',toks:=t'}:=by
 have nit:∀b u,H b=some u->b≠it:=λb u e z=>by rw[z,hn] at e;cases e
 refine I.step (g':=s.gens) (d':=s.drawn) (ch:=[it]) (λb hb=>?_) (λb o _ _ hc e _=>k b o (λz=>hc (by simp[z])) e) (λb o _ _ hc e _=>⟨o.slots,k b o (λz=>hc (by simp[z])) e⟩) (λ_ _ _ _ n=>n)
  (λb o hc e=>⟨o,k b o (λz=>hc (by simp[z])) e⟩) (λ_ _ e=>e) (λ_ _ _ e=>e) (λb ps e=>⟨#[],by rw[e];simp⟩) (λm hm=>?_) (λb u e=>?_) I.bare
 ·have e:b=it:=by simpa using hb
  subst e;exact⟨h1,hL,h2,h3⟩
 ·obtain⟨o,es,ep,ho,r⟩:=hm;exact⟨o,es,ep,k _ o (Qs hL) ho,r⟩
 ·refine(I.hok b u e).stay (λc v hc q=>k c v ?_ q) (λ_ q=>q) λ_ _ q=>q
  rcases hc with z|z
  ·rw[z];exact nit b u e
  ·exact nit c _ z
theorem Inv.tok(I:Inv X pins σ H s)(t:Nat):Inv X pins σ H { s with toks:=t}:=I.un (h':=s.heap) (t':=t) Un.refl I.hok
theorem Inv.kept(I:Inv X pins σ H s)(k:∀b u,s.heap.get? b=some u->h'.get? b=some u):Inv X pins σ H { s with heap:=h',toks:=t'}:=I.un (Un.kept k) (I.hok.kept k)
theorem Inv.laid{a:Addr}{o:HO}{t':Nat}(I:Inv X pins σ H s)(k:∀b u,s.heap.get? b=some u->h'.get? b=some u)(hp:s.heap.objs.size≤a)(new:bW X.prog X.w (aE H a o) h' a o) :
  Inv X pins σ (aE H a o) { s with heap:=h',toks:=t'}:=I.un (Un.laid k hp (I.hok.fresh hp)) (I.hok.laid k hp new)
theorem Inv.write(I:Inv X pins σ H s)(mu:IR (H x))(he:e=x∨H e=some (.own x))(k:∀b u,b≠e->s.heap.get? b=some u->h'.get? b=some u)(heo:∃u,h'.get? e=some u)
  (new:bW X.prog X.w (aE H x o) h' x o):Inv X pins σ (aE H x o) { s with heap:=h',toks:=t'}:=I.un (Un.write mu he k heo) (I.hok.write mu he k heo new)
theorem Inv.weak(I:Inv X pins σ H s)(hl:σ'.length=σ.length)(w:∀(i:Nat) v,σ'[i]?=some (some v)->σ[i]?=some (some v)):Inv X pins σ' H s:=
 ⟨I.ok,I.os,I.bare,I.base,let ⟨m,hn,hl'⟩:=I.loc;⟨m,hn,λi x v e1 e2 e3=>hl' i x v e1 (w i v e2) e3⟩,I.cell,I.free,I.freeC,I.pin,I.hok,hl.trans I.len⟩
theorem Inv.pins_of(I:Inv X pins σ H s)(h:∀p∈pins',s.heap.get? p.1=some p.2/\H p.1=none/\p.1≠X.env.locals/\p.1∉X.fs/\∀v,p.2.data≠.cell v):Inv X pins' σ H s:=
 ⟨I.ok,I.os,I.bare,I.base,I.loc,I.cell,I.free,I.freeC,λp hp=>(NF.mp hp).elim (λz=>I.pin p (OX _ z)) (h p),I.hok,I.len⟩
theorem rc{N:List NV}(hN:N.Nodup){i j:Nat}(a:N[i]?=some x)(b:N[j]?=some x):i=j:=by
 obtain⟨h1,e1⟩:=Ni.mp a;obtain⟨h2,e2⟩:=Ni.mp b;exact(V7 hN).mp (e1.trans e2.symm)
theorem vR{M:Model}{A:N8}{E:Value->Nf->Prop}{i:Nat}{x:NV}{v:V}{u:Value}{Q:Unit->Nf->Prop}(I:Inv X pins σ H s)(hN:X.N.Nodup)(hi:X.N[i]?=some x)(hx:xh X.env.scope x)(r:bv v u)
  (h:∀s',Inv X pins (σ.set i (some v)) H s'->(∃a,Ow a s.heap s'.heap/\(a=X.env.locals∨X.env.cells.lookup x=some a))->Q () s') (hf:X.fn x=true∨X.env.scope.names.lookup x=some .local:=by first|exact .inl Z|exact .inr Z|assumption):Nv M A (Xe X.env x u) Q E s:=by
 obtain⟨m,hn,hl⟩:=id I.loc;have hcls:(X.env.scope.kind==.class||(X.env.scope.kind==.module&&X.env.locals != X.env.globals))=false:=by rw[I.ok.kind];rfl
 have hiσ:i<σ.length:=by rw[I.len];exact(Ni.mp hi).1
 have cne:=I.cne;have tracked:∀{a:Addr} {h':Np},(∃o,s.heap.get? a=some o/\H a=none)->Ow a s.heap h'->iR X.prog X.w H h':=λ{a h'} ha hs b ob e=>by
  obtain⟨_,_,hfree⟩:=ha;refine(I.hok b ob e).stay (λc w' hc q=>(hs.2 c ?_).trans q) (λ_ q=>q) λ_ _ q=>q
  rintro rfl;rcases hc with rfl|hc
  ·rw[hfree] at e;cases e
  ·rw[hfree] at hc;cases hc
 rcases hx with hk|hk
 ·refine wpAny_storeName_local hk hn (λh' hn' hs=>?_) hcls;obtain⟨oL,_,_,hoL,_⟩:=id hn;refine h _ ⟨I.ok,I.os,I.bare,⟨λb o e n hb hx=>?_,λb o e n hb hx=>?_,I.base.free,λb o e hx=>?_,I.base.tups,I.base.frzs,I.base.tbls⟩,⟨_,hn',λj y v' e1 e2 e3=>?_⟩,λy c e=>?_,I.free,I.freeC,λp hp=>?_,tracked ⟨oL,hoL,I.free⟩ hs,by simpa using I.len⟩ ⟨_,hs,.inl Z⟩
  ·exact(hs.2 b (NT (NE (Nt e) I.ok.above))).trans (I.base.keep b o e n hb hx)
  ·obtain⟨sl,e1⟩:=I.base.slot b o e n hb hx;exact⟨sl,(hs.2 b (NT (NE (Nt e) I.ok.above))).trans e1⟩
  ·obtain⟨o',e1⟩:=I.base.there b o e hx;exact⟨o',(hs.2 b (NT (NE (Nt e) I.ok.above))).trans e1⟩
  ·by_cases hj:j=i
   ·subst hj;rw[hi] at e1;cases e1;rw[Pd hiσ] at e2
    cases e2
    exact⟨u,r,.inl ⟨hk,by simp⟩⟩
   ·rw[OJ (Qs hj)] at e2;obtain⟨u',r',q⟩:=hl j y v' e1 e2 e3;refine⟨u',r',?_⟩;rcases q with⟨k,e⟩ | ⟨k,c,e,z⟩
    ·refine .inl ⟨k,?_⟩;have:y≠x:=λe=>hj (rc hN e1 (e▸hi))
     simp[this,e]
    ·exact .inr ⟨k,c,e,z.sameBut hs (cne y c e)⟩
  ·obtain⟨w',z⟩:=I.cell y c e;exact⟨w',z.sameBut hs (cne y c e)⟩
  ·obtain⟨e,n,ne,nf,d⟩:=I.pin p hp;exact⟨(hs.2 p.1 ne).trans e,n,ne,nf,d⟩
 ·have hfn:X.fn x=true:=by
   rcases hf with z|z
   ·exact z
   ·rw[z] at hk;cases hk
  obtain⟨c,hc⟩:=I.ok.has x (.inl hk);obtain⟨w',z⟩:=I.cell x c hc;refine wpAny_storeName_cell I.ok.kind hk hc z (λh' hc' hs=>?_);obtain⟨oc,hoc,hocd⟩:=id z;refine h { s with heap:=h'} ⟨I.ok,I.os,I.bare,⟨λb o e n hb hx=>?_,λb o e n hb hx=>?_,I.base.free,λb o e hx=>?_,I.base.tups,I.base.frzs,I.base.tbls⟩,⟨m,hn.sameBut hs (Qs (cne x c hc)),λj y v' e1 e2 e3=>?_⟩,λy c' e=>?_,I.free,I.freeC,λp hp=>?_,tracked ⟨oc,hoc,I.freeC x c hc⟩ hs,by simpa using I.len⟩ ⟨c,hs,.inr hc⟩
  ·exact(hs.2 b (NT (NE (Nt e) (I.ok.cab x c hfn hc)))).trans (I.base.keep b o e n hb hx)
  ·obtain⟨sl,e1⟩:=I.base.slot b o e n hb hx;exact⟨sl,(hs.2 b (NT (NE (Nt e) (I.ok.cab x c hfn hc)))).trans e1⟩
  ·obtain⟨o',e1⟩:=I.base.there b o e hx;exact⟨o',(hs.2 b (NT (NE (Nt e) (I.ok.cab x c hfn hc)))).trans e1⟩
  ·by_cases hj:j=i
   ·subst hj;rw[hi] at e1;cases e1;rw[Pd hiσ] at e2
    cases e2
    exact⟨u,r,.inr ⟨.inl hk,c,hc,hc'⟩⟩
   ·rw[OJ (Qs hj)] at e2;obtain⟨u',r',q⟩:=hl j y v' e1 e2 e3;refine⟨u',r',?_⟩;rcases q with q | ⟨k,c',e,z'⟩
    ·exact .inl q
    ·refine .inr ⟨k,c',e,z'.sameBut hs ?_⟩;rintro rfl;exact hj (rc hN e1 (I.ok.inj _ _ _ e hc▸hi))
  ·by_cases hcc:c'=c
   ·subst hcc;exact⟨_,hc'⟩
   ·obtain⟨w2,z2⟩:=I.cell y c' e;exact⟨w2,z2.sameBut hs hcc⟩
  ·obtain⟨e,n,ne,nf,d⟩:=I.pin p hp;refine⟨(hs.2 p.1 ?_).trans e,n,ne,nf,d⟩;intro q;rw[q,hoc] at e;have q':oc=p.2:=OB e;exact d w' (by rw[←q'];exact hocd)
theorem fP{M:Model}{A:N8}{E:Value->Nf->Prop}{i:Nat}{x:NV}{v:V}{u:Value}{Q:Unit->Nf->Prop}(I:Inv X pins σ H s)(hN:X.N.Nodup)(hi:X.N[i]?=some x)(hx:xh X.env.scope x)(r:bv v u)
  (h:∀s',Inv X pins (σ.set i (some v)) H s'->Q () s') (hf:X.fn x=true∨X.env.scope.names.lookup x=some .local:=by first|exact .inl Z|exact .inr Z|assumption):Nv M A (Xe X.env x u) Q E s:=
 vR I hN hi hx r (λs' I' _=>h s' I') hf
theorem Inv.call'(I:Inv X pins σ H s)(ho:s'.os=s.os)(u:Un (vh X.stack) ch H H' s.heap s'.heap)(hok:iR X.prog X.w H' s'.heap)(hg:Sd s'.gens)
  (hch:∀b∈ch,(b∈X.ex∨X.s₀.heap.get? b=none)/\b≠X.env.locals/\(∀x c,X.env.cells.lookup x=some c->c≠b)/\∀p∈X.pn++pins,p.1≠b):Inv X pins σ H' s':=by
 obtain⟨h',g',d',t',o'⟩:=s';have e:o'=s.os:=ho;subst e;exact I.call (g':=g') (t':=t') (d':=d') u hok hg hch
end
abbrev XK:=Value->Option Addr->Hp->Prop
abbrev St:=List (Option V)
abbrev VK:=V->Hp->Prop
abbrev TE:=St->Hp->VK->Prop
abbrev TT:=St->Hp->(Bool->Hp->Prop)->Prop
abbrev TA:=St->Hp->(List V->Hp->Prop)->Prop
structure i7 where
 nx:St->Hp->Prop
 rt:VK
 bk:St->Hp->Prop:=λ_ _=>False
 ct:St->Hp->Prop:=λ_ _=>False
abbrev TS:=i7->St->Hp->Prop
def EP(X:Cx)(pins:List (Addr×O8))(σ:St)(Q:VK)(u:Value)(s':Nf):Prop:=∃v H',Inv X pins σ H' s'/\bv v u/\Q v H'
def TP(X:Cx)(pins:List (Addr×O8))(σ:St)(Q:Bool->Hp->Prop)(b:Bool)(s':Nf):Prop:=∃H',Inv X pins σ H' s'/\Q b H'
def AP(X:Cx)(pins:List (Addr×O8))(σ:St)(Q:List V->Hp->Prop)(us:List Value)(s':Nf):Prop:=∃vs H',Inv X pins σ H' s'/\bE vs us/\Q vs H'
def SP(X:Cx)(pins:List (Addr×O8))(D:i7)(f:Flow)(s':Nf):Prop:=
 match f with
 | .next=>∃σ' H',Inv X pins σ' H' s'/\D.nx σ' H'
 | .brk=>∃σ' H',Inv X pins σ' H' s'/\D.bk σ' H'
 | .cont=>∃σ' H',Inv X pins σ' H' s'/\D.ct σ' H'
 | .ret u=>∃v σ' H',Inv X pins σ' H' s'/\bv v u/\D.rt v H'
def PE(X:Cx)(e:N9)(t:TE):Prop:=
 ∀(pins:List (Addr×O8)) (s:Nf) (σ:St) (H:Hp) (Q:VK),Inv X pins σ H s->t σ H Q->Nv (NJ X.prog X.w) X.A (eval e X.env) (EP X pins σ Q) X.xe s
def PT(X:Cx)(e:N9)(t:TT):Prop:=
 ∀(pins:List (Addr×O8)) (s:Nf) (σ:St) (H:Hp) (Q:Bool->Hp->Prop),Inv X pins σ H s->t σ H Q->Nv (NJ X.prog X.w) X.A (isTrue e X.env (eval e X.env)) (TP X pins σ Q) X.xe s
def PW(X:Cx)(e:N9)(t:TT):Prop:=
 ∀(whole:Sem Value) (pins:List (Addr×O8)) (s:Nf) (σ:St) (H:Hp) (Q:Bool->Hp->Prop),Inv X pins σ H s->t σ H Q->Nv (NJ X.prog X.w) X.A (isTrue e X.env whole) (TP X pins σ Q) X.xe s
theorem PW.pt(h:PW X e t):PT X e t:=h _
def PA(X:Cx)(es:List N9)(t:TA):Prop:=
 ∀(pos:Q4) (pins:List (Addr×O8)) (s:Nf) (σ:St) (H:Hp) (Q:List V->Hp->Prop),Inv X pins σ H s->t σ H Q->Nv (NJ X.prog X.w) X.A (spliced (Rc pos (Nw es X.env))) (AP X pins σ Q) X.xe s
def PS(X:Cx)(st:Stmt)(t:TS):Prop:=
 ∀(pins:List (Addr×O8)) (s:Nf) (σ:St) (H:Hp) (D:i7),Inv X pins σ H s->t D σ H->Nv (NJ X.prog X.w) X.A (exec st X.env) (SP X pins D) X.xe s
def uk(X:Cx)(st:List Stmt)(t:TS):Prop:=
 ∀(pins:List (Addr×O8)) (s:Nf) (σ:St) (H:Hp) (D:i7),Inv X pins σ H s->t D σ H->Nv (NJ X.prog X.w) X.A (execs st X.env) (SP X pins D) X.xe s
theorem cF{Q Q':α->Nf->Prop}{E:Value->Nf->Prop}(h:Nv M A t Q E s)(hQ:∀a s,Q a s->Q' a s):Nv M A t Q' E s:=Qw h hQ λ_ _ x=>x
end L2
namespace L2
open PySem PySem.Spec PyProof.Rows
section
variable {X:Cx}
def DY(i:Nat):TE:=λσ H Q=>∃v,σ[i]?=some (some v)/\Q v H
def tC(v:V):TE:=λ_ H Q=>Q v H
theorem Fb{i:Nat}{x:NV}{pos:Q4}(hN:X.N[i]?=some x)(hv:IJ X.env.scope x)(hd:(x==("__debug__" : NV))=false:=by decide)(hcd:(x==("__classdict__" : NV))=false:=by decide):PE X (.Name x pos) (DY i):=by
 intro pins s σ H Q I h;obtain⟨v,e,h⟩:=h;obtain⟨m,hn,hl⟩:=I.loc;obtain⟨u,r,l⟩:=hl i x v hN e hv;have fin:EP X pins σ Q u s:=⟨v,H,I,r,h⟩;rcases l with⟨hk,hm⟩ | ⟨hk,c,hc,hcell⟩
 ·exact WF (UE I.ok.kind hk hn hm fin) hd
 ·rcases hk with hk|hk
  ·exact WF (U0 I.ok.kind hk hc hcell fin) hd
  ·exact WF (wpAny_loadName_free I.ok.kind hk hc hcell fin hcd) hd
theorem Fi{i j pos}:PE X (.Constant (.int i) j pos) (tC (.int i)):=λ_ _ _ H _ I h=>wpAny_Constant_int ⟨.int i,H,I.tok _,⟨_,Z⟩,h⟩
theorem Ig{b j pos}:PE X (.Constant (.bool b) j pos) (tC (.bl b)):=λ_ _ _ H _ I h=>Constant_bool ⟨.bl b,H,I,Z,h⟩
theorem Fg{j pos}:PE X (.Constant .none j pos) (tC .non):=λ_ _ _ H _ I h=>Constant_none ⟨.non,H,I,Z,h⟩
theorem Fd{x j pos}:PE X (.Constant (.str x) j pos) (tC (.str x)):=λ_ _ _ H _ I h=>Calls.Constant_str ⟨.str x,H,I.tok _,⟨_,Z⟩,h⟩
def Gl(X:Cx)(x:NV):Prop:=X.env.kindOf x=some .globalImplicit
theorem u9{E:Value->Nf->Prop}{pins:List (Addr×O8)}{s:Nf}{σ:St}{H:Hp}{x:NV}{u:Value}{pos:Q4}{Q:Value->Nf->Prop}(I:Inv X pins σ H s)(hg:Gl X x)(hm:X.mg x=some u)(h:Q u s)
  (hd:(x==("__debug__" : NV))=false:=by decide):Nv (NJ X.prog X.w) X.A (eval (.Name x pos) X.env) Q E s:=
 Calls.Name_function_global I.ok.kind hg (Calls.loadGlobal_global (by rw[I.ok.glob];exact I.mod.glob.keeps I.bk) hm h) hd
theorem gU{E:Value->Nf->Prop}{pins:List (Addr×O8)}{s:Nf}{σ:St}{H:Hp}{x:NV}{u:Value}{pos:Q4}{Q:Value->Nf->Prop}(I:Inv X pins σ H s)(hg:Gl X x)(hm:X.mg x=none)(hv:Pu x=some u)(h:Q u s)
  (hn:x ≠ "__name__" := by decide) (hd:(x==("__debug__" : NV))=false:=by decide):Nv (NJ X.prog X.w) X.A (eval (.Name x pos) X.env) Q E s:=by
 obtain⟨mb,h1,h2⟩:=I.mod.blt;exact Calls.Name_function_global I.ok.kind hg (Calls.loadGlobal_builtin (by rw[I.ok.glob];exact I.mod.glob.keeps I.bk) hm (by rw[I.ok.blt];exact h1.keeps I.bk) ((h2 x hn).trans hv) h) hd
theorem Cn{x:NV}{v:V}{u:Value}{pos:Q4}(hg:Gl X x)(hm:X.mg x=some u)(r:bv v u)(hd:(x==("__debug__" : NV))=false:=by decide):PE X (.Name x pos) (tC v):=
 λ_ _ _ H _ I h=>u9 I hg hm ⟨v,H,I,r,h⟩ hd
theorem Cq{x:NV}{v:V}{u:Value}{pos:Q4}(hg:Gl X x)(hm:X.mg x=none)(hv:Pu x=some u)(r:bv v u)(hn:x ≠ "__name__" := by decide)(hd:(x==("__debug__" : NV))=false:=by decide):PE X (.Name x pos) (tC v):=
 λ_ _ _ H _ I h=>gU I hg hm hv ⟨v,H,I,r,h⟩ hn hd
def Je(ta tb:TE)(k:Int->Int->Hp->Prop):St->Hp->Prop:=λσ H=>ta σ H λx H1=>tb σ H1 λy H2=>∃i j,x=.int i/\y=.int j/\k i j H2
def LP(ta tb:TE):TE:=λσ H Q=>Je ta tb (λi j H2=>Q (.int (i+j)) H2) σ H
def LE(ta tb:TE):TE:=λσ H Q=>Je ta tb (λi j H2=>Q (.int (i-j)) H2) σ H
def LI(ta tb:TE):TE:=λσ H Q=>Je ta tb (λi j H2=>(-(2^64)<i/\i<2^64)/\Q (.int (i*j)) H2) σ H
variable {a b:N9}{ta tb:TE}{pos:Q4}
def PC(X:Cx)(op:WG)(a b:N9)(t:TE):Prop:=
 ∀(pins:List (Addr×O8)) (s:Nf) (σ:St) (H:Hp) (Q:VK),Inv X pins σ H s->t σ H Q→
  Nv (NJ X.prog X.w) X.A (eval a X.env) (λv s₁=>Nv (NJ X.prog X.w) X.A (eval b X.env) (λu s₂=>Nv (NJ X.prog X.w) X.A (Oz op v u) (EP X pins σ Q) X.xe s₂) X.xe s₁) X.xe s
def vQ(p:Int->Int->Bool)(ta tb:TE):TE:=λσ H Q=>Je ta tb (λi j H2=>Q (.bl (p i j)) H2) σ H
abbrev MK:TE->TE->TE:=vQ λi j=>decide (i<j)
abbrev ML:TE->TE->TE:=vQ λi j=>decide (i≤j)
abbrev MM:TE->TE->TE:=vQ λi j=>decide (j<i)
abbrev MN:TE->TE->TE:=vQ λi j=>decide (j≤i)
abbrev LL:TE->TE->TE:=vQ λi j=>decide (i=j)
abbrev LH:TE->TE->TE:=vQ λi j=>!decide (i=j)
def LJ(ta:TE):TE:=λσ H Q=>ta σ H λx H1=>Q (.bl (decide (x=.non))) H1
def KF(ta:TE):TE:=λσ H Q=>ta σ H λx H1=>Q (.bl (!decide (x=.non))) H1
def tB(t:TE):TT:=λσ H Q=>t σ H λx H1=>∃c,x=.bl c/\Q c H1
theorem EZ{e:N9}{t:TE}(h:PE X e t)(he:∀whole,isTrue e X.env whole=(do let v ←whole;Xk e.pos;holding [v] (truthy v)):=by intro _;rfl):PT X e (tB t):=by
 intro pins s σ H Q I hw;refine isTrue_plain (cF (h pins s σ H _ I hw) λv s1 ⟨x,H1,I1,r1,q1⟩=>?_) (he _);obtain⟨d,rfl,q⟩:=q1
 cases r1
 exact Pg ⟨H1,I1,q⟩
variable {tA tB':TT}{em:List N9}
def Ho(t u:TT):TT:=λσ H Q=>t σ H λc H1=>if c=true then u σ H1 Q else Q false H1
def KD(t u:TT):TT:=λσ H Q=>t σ H λc H1=>if c=true then Q true H1 else u σ H1 Q
def Hi(t:TT):TT:=λσ H Q=>t σ H λc H1=>Q (!c) H1
theorem B3(ha:PT X a tA):PW X (.BoolOp .And [a] pos) tA:=by
 intro wh pins s σ H Q I h;refine isTrue_and (cF (ha pins s σ H Q I h) λc s1 e=>?_)
 cases c with
 |true=>exact isTrue_and_nil e
 |false=>exact e
theorem EW(ha:PT X a tA):PW X (.BoolOp .Or [a] pos) tA:=by
 intro wh pins s σ H Q I h;refine isTrue_or (cF (ha pins s σ H Q I h) λc s1 e=>?_)
 cases c with
 |false=>exact isTrue_or_nil e
 |true=>exact e
theorem EX(ha:PT X a tA)(hb:PW X (.BoolOp .And (b::em) pos) tB'):PW X (.BoolOp .And (a::b::em) pos) (Ho tA tB'):=by
 intro wh pins s σ H Q I h;refine isTrue_and (cF (ha pins s σ H _ I h) λc s1 ⟨H1,I1,q1⟩=>?_)
 cases c with
 |true=>exact hb wh pins s1 σ H1 Q I1 q1
 |false=>exact⟨H1,I1,q1⟩
theorem HQ(ha:PT X a tA)(hb:PW X (.BoolOp .Or (b::em) pos) tB'):PW X (.BoolOp .Or (a::b::em) pos) (KD tA tB'):=by
 intro wh pins s σ H Q I h;refine isTrue_or (cF (ha pins s σ H _ I h) λc s1 ⟨H1,I1,q1⟩=>?_)
 cases c with
 |true=>exact⟨H1,I1,q1⟩
 |false=>exact hb wh pins s1 σ H1 Q I1 q1
theorem E1(ha:PT X a tA):PT X (.UnaryOp .Not a pos) (Hi tA):=by
 intro pins s σ H Q I h;exact isTrue_not (ha pins s σ H (λc H1=>Q (!c) H1) I h)
def Dp(ta tb:TE):TE:=λσ H Q=>ta σ H λx H1=>∃c,x=.bl c/\if c=true then tb σ H1 Q else Q (.bl false) H1
def LG(ta tb:TE):TE:=λσ H Q=>ta σ H λx H1=>∃c,x=.bl c/\if c=true then Q (.bl true) H1 else tb σ H1 Q
def Dk(ta:TE):TE:=λσ H Q=>ta σ H λx H1=>∃c,x=.bl c/\Q (.bl (!c)) H1
theorem Fe{op}(h:PE X a t):PE X (.BoolOp op [a] pos) t:=λpins s σ H Q I hw=>BoolOp_one (h pins s σ H Q I hw)
theorem Fj(ha:PE X a ta)(hb:PE X (.BoolOp .And (b::em) pos) tb):PE X (.BoolOp .And (a::b::em) pos) (Dp ta tb):=by
 intro pins s σ H Q I h;refine BoolOp_and (cF (ha pins s σ H _ I h) λv s1 ⟨x,H1,I1,r1,q1⟩=>?_);obtain⟨c,rfl,q1⟩:=q1
 cases r1
 refine Pg ?_
 cases c with
 |true=>exact hb pins s1 σ H1 Q I1 q1
 |false=>exact⟨.bl false,H1,I1,Z,q1⟩
theorem Ff(ha:PE X a ta):PE X (.UnaryOp .Not a pos) (Dk ta):=by
 intro pins s σ H Q I h;refine UnaryOp_ (cF (ha pins s σ H _ I h) λv s1 ⟨x,H1,I1,r1,q1⟩=>?_);obtain⟨c,rfl,q1⟩:=q1
 cases r1
 exact not_of (Pg ⟨.bl (!c),H1,I1,Z,q1⟩)
def KI(t:TT)(ta tb:TE):TE:=λσ H Q=>t σ H λc H1=>if c=true then ta σ H1 Q else tb σ H1 Q
theorem Ag(hc:PT X c tA)(ha:PE X a ta)(hb:PE X b tb):PE X (.IfExp c a b pos) (KI tA ta tb):=by
 intro pins s σ H Q I h;refine wpAny_IfExp (cF (hc pins s σ H _ I h) λd s1 ⟨H1,I1,q1⟩=>?_)
 cases d with
 |true=>exact ha pins s1 σ H1 Q I1 q1
 |false=>exact hb pins s1 σ H1 Q I1 q1
end
end L2
namespace L2
open PySem PySem.Spec PyProof.Rows
def aV(K:M6)(H:Hp)(a:Addr)(xs:List V):Prop:=
 Rd H a (.lst xs)∨
  ∃(o:O8) (its:Array Value) (n:Nat),K.lookup a=some o/\o.cls=.type "list"/\o.dict=none/\o.data=.seq its n/\its.size≤sizeLine/\bE xs its.toList
def bC(K:M6)(H:Hp)(a:Addr)(xs:List V):Prop:=
 Rd H a (.tup xs)∨
  ∃(o:O8) (its:Array Value) (n:Nat),K.lookup a=some o/\o.cls=.type "tuple"/\o.data=.seq its n/\its.size≤sizeLine/\bE xs its.toList
def Kg:Value->Option V
 | .none=>some .non
 | .bool b=>some (.bl b)
 | .int i _=>some (.int i)
 | .str x _=>some (.str x)
 | .bytes b _=>some (.byt b)
 | .float b _=>some (.flt b)
 | .ref a=>some (.ref a)
 | .type n=>some (.ty n)
 |_=>none
theorem bv.abs(r:bv x u):Kg u=some x:=by
 cases x with
 |non=>cases r;rfl
 |bl _=>cases r;rfl
 |int _=>obtain⟨t,rfl⟩:=r;rfl
 |str _=>obtain⟨t,rfl⟩:=r;rfl
 |byt _=>obtain⟨t,rfl⟩:=r;rfl
 |flt _=>obtain⟨t,rfl⟩:=r;rfl
 |ref _=>cases r;rfl
 |ty _=>cases r;rfl
theorem bv.inj(r:bv x u)(q:bv y u):x=y:=OB (r.abs.symm.trans q.abs)
theorem bE.inj:∀{xs ys:List V} {us:List Value},bE xs us->bE ys us->xs=ys
 |_,_,_,.nil,.nil=>rfl
 |_,_,_,.cons r t,.cons r' t'=>by rw[r.inj r',bE.inj t t']
section
variable {X:Cx}{pins:List (Addr×O8)}{σ:St}{H:Hp}{s:Nf}{a:Addr}{xs ys:List V}
theorem aV.of{K:M6}(h:H a=some (.lst xs)):aV K H a xs:=.inl (.inl h)
theorem bC.of{K:M6}(h:H a=some (.tup xs)):bC K H a xs:=.inl (.inl h)
theorem Inv.list(I:Inv X pins σ H s)(h:aV X.K H a xs):∃its:List Value,bE xs its/\PlainL s.heap a its.toArray/\xs.length≤sizeLine:=by
 rcases h with h | ⟨o,its,n,hk,hc,hd,hs,hz,r⟩
 ·obtain⟨z,its,n,r,e⟩:=h.ok I.hok;exact⟨its,r,⟨_,n,e,Z,Z,Z⟩,z⟩
 ·refine⟨its.toList,r,⟨o,n,I.kIn a o hk,hc,hd,by simpa using hs⟩,?_⟩;have e:=r.length;simp only[NZ] at e;omega
theorem Inv.tuple(I:Inv X pins σ H s)(h:bC X.K H a xs):∃its:List Value,bE xs its/\Vw s.heap a its.toArray/\xs.length≤sizeLine:=by
 rcases h with h | ⟨o,its,n,hk,hc,hs,hz,r⟩
 ·obtain⟨z,its,r,p⟩:=h.ok I.hok;exact⟨its,r,p,z⟩
 ·refine⟨its.toList,r,⟨o,I.kIn a o hk,hc,n,by simpa using hs⟩,?_⟩;have e:=r.length;simp only[NZ] at e;omega
theorem Inv.list_inj(I:Inv X pins σ H s)(h:aV X.K H a xs)(h':aV X.K H a ys):xs=ys:=by
 obtain⟨its,r,⟨o,n,e,_,_,d⟩,_⟩:=I.list h;obtain⟨its',r',⟨o',n',e',_,_,d'⟩,_⟩:=I.list h';rw[e] at e';cases e';rw[d] at d';injection d' with d1 _;have:its=its':=by simpa using congrArg Array.toList d1
 subst this;exact r.inj r'
theorem Inv.tuple_inj(I:Inv X pins σ H s)(h:bC X.K H a xs)(h':bC X.K H a ys):xs=ys:=by
 obtain⟨its,r,⟨o,e,_,n,d⟩,_⟩:=I.tuple h;obtain⟨its',r',⟨o',e',_,n',d'⟩,_⟩:=I.tuple h';rw[e] at e';cases e';rw[d] at d';injection d' with d1 _;have:its=its':=by simpa using congrArg Array.toList d1
 subst this;exact r.inj r'
end
abbrev Cx.wish(X:Cx)(E:Value->Nf->Prop):Cx:={ X with xe:=E}
abbrev Cx.nox(X:Cx):Cx:=X.wish λ_ _=>False
theorem Cx.Ok.wish{X:Cx}(ok:X.Ok)(E:Value->Nf->Prop):(X.wish E).Ok:=
 ⟨ok.mod,ok.kind,ok.glob,ok.blt,ok.above,ok.inj,ok.has,ok.cab,ok.hd,ok.frames,ok.stk,ok.exf,ok.bs,ok.bsz,ok.noex,ok.exfs,ok.funs,ok.frf⟩
theorem Cx.Ok.unwish{X:Cx}(ok:(X.wish E).Ok):X.Ok:=
 ⟨ok.mod,ok.kind,ok.glob,ok.blt,ok.above,ok.inj,ok.has,ok.cab,ok.hd,ok.frames,ok.stk,ok.exf,ok.bs,ok.bsz,ok.noex,ok.exfs,ok.funs,ok.frf⟩
section
variable {X:Cx}{pins:List (Addr×O8)}{σ:St}{H:Hp}{s:Nf}{E:Value->Nf->Prop}
theorem Inv.wish(I:Inv X pins σ H s)(E:Value->Nf->Prop):Inv (X.wish E) pins σ H s:=⟨I.ok.wish E,I.os,I.bare,I.base,I.loc,I.cell,I.free,I.freeC,I.pin,I.hok,I.len⟩
theorem Inv.unwish(I:Inv (X.wish E) pins σ H s):Inv X pins σ H s:=⟨I.ok.unwish,I.os,I.bare,I.base,I.loc,I.cell,I.free,I.freeC,I.pin,I.hok,I.len⟩
theorem SP.unwish(h:SP (X.wish E) pins D f s'):SP X pins D f s':=by
 cases f with
 |next=>obtain⟨σ',H',I,q⟩:=h;exact⟨σ',H',I.unwish,q⟩
 |brk=>obtain⟨σ',H',I,q⟩:=h;exact⟨σ',H',I.unwish,q⟩
 |cont=>obtain⟨σ',H',I,q⟩:=h;exact⟨σ',H',I.unwish,q⟩
 |ret u=>obtain⟨v,σ',H',I,r,q⟩:=h;exact⟨v,σ',H',I.unwish,r,q⟩
theorem uk.nox{st:List Stmt}(h:uk X.nox st t):uk X st t:=λpins s σ H D I hw=>
 Qw (h pins s σ H D (I.wish _) hw) (λ_ _ q=>q.unwish) λ_ _ z=>QP z
end
section
variable {X:Cx}{st:Stmt}{em:List Stmt}{t u:TS}{e:N9}{te:TE}{pos:Q4}
def Dl:TS:=λD σ H=>D.nx σ H
def DZ(t u:TS):TS:=λD σ H=>t { D with nx:=u D} σ H
theorem B8:uk X [] Dl:=λ_ _ σ H _ I h=>Sm ⟨σ,H,I,h⟩
theorem zU(h1:PS X st t)(h2:uk X em u):uk X (st::em) (DZ t u):=by
 intro pins s σ H D I h;refine V8 (cF (h1 pins s σ H { D with nx:=u D} I h) λf s1 q=>?_)
 cases f with
 |next=>
  obtain⟨σ',H',I',q⟩:=q;exact h2 pins s1 σ' H' D I' q
 |ret v=>exact q
 |brk=>exact q
 |cont=>exact q
theorem B7(h1:PS X st t):uk X [st] t:=by
 intro pins s σ H D I h;refine V8 (cF (h1 pins s σ H D I h) λf s1 q=>?_)
 cases f with
 |next=>exact Sm q
 |ret v=>exact q
 |brk=>exact q
 |cont=>exact q
def JL:TS:=λD σ H=>D.bk σ H
def Dn:TS:=λD σ H=>D.ct σ H
theorem qX:PS X (.Continue pos) Dn:=λ_ _ σ H _ I h=>wpAny_Continue ⟨σ,H,I,h⟩
theorem Inv.quiet{pins:List (Addr×O8)}{σ:St}{H:Hp}{s:Nf}(I:Inv X pins σ H s):interactive X.env=false:=by simp[interactive,I.ok.kind]
def Dm(te:TE):TS:=λD σ H=>te σ H λ_ H1=>D.nx σ H1
theorem Ca(he:PE X e te)(hs:Q3 e none pos.line X.env=Pq false:=by rfl):PS X (.Expr e pos) (Dm te):=by
 intro pins s σ H D I h;exact wpAny_Expr_any (cF (he pins s σ H _ I h) λv s1 ⟨x,H1,I1,r1,q1⟩=>⟨σ,H1,I1,q1⟩) I.quiet hs
def Hf(te:TE):TS:=λD σ H=>te σ H D.rt
theorem E4(he:PE X e te):PS X (.Return (some e) pos) (Hf te):=by
 intro pins s σ H D I h;exact wpAny_Return_some (cF (he pins s σ H _ I h) λv s1 ⟨x,H1,I1,r1,q1⟩=>⟨x,σ,H1,I1,r1,q1⟩)
def KC:TS:=λD _ H=>D.rt .non H
def Hl(c:TT)(t u:TS):TS:=λD σ H=>c σ H λb H1=>if b=true then t D σ H1 else u D σ H1
theorem HR(hc:PT X c tc)(ha:uk X a t)(hb:uk X b u):PS X (.If c a b pos) (Hl tc t u):=by
 intro pins s σ H D I h;refine wpAny_If (cF (hc pins s σ H _ I h) λd s1 ⟨H1,I1,q1⟩=>?_)
 cases d with
 |true=>exact ha pins s1 σ H1 D I1 q1
 |false=>exact hb pins s1 σ H1 D I1 q1
def xQ:TS:=λ_ _ _=>False
theorem zX:PS X st xQ:=λ_ _ _ _ _ _ h=>h.elim
end
abbrev TG:=V->St->Hp->(St->Hp->Prop)->Prop
abbrev xc:=List V->St->Hp->(St->Hp->Prop)->Prop
def PG(X:Cx)(target:N9)(t:TG):Prop:=
 ∀(pins:List (Addr×O8)) (s:Nf) (σ:St) (H:Hp) (v:V) (u:Value) (Q:St->Hp->Prop),Inv X pins σ H s->bv v u->t v σ H Q→
  Nv (NJ X.prog X.w) X.A (R6 target X.env u) (λ_ s'=>∃σ' H',Inv X pins σ' H' s'/\Q σ' H') X.xe s
def GX(X:Cx)(ts:List N9)(t:xc):Prop:=
 ∀(pins:List (Addr×O8)) (s:Nf) (σ:St) (H:Hp) (vs:List V) (us:List Value) (Q:St->Hp->Prop),Inv X pins σ H s->bE vs us->t vs σ H Q→
  Nv (NJ X.prog X.w) X.A (U6 ((Pw ts X.env).map (·.2)) us) (λ_ s'=>∃σ' H',Inv X pins σ' H' s'/\Q σ' H') X.xe s
abbrev Bf:=V->V->V->Hp->(Hp->Prop)->Prop
def GD(X:Cx)(t:Bf):Prop:=
 ∀(pins:List (Addr×O8)) (s:Nf) (σ:St) (H:Hp) (o i v:V) (ov iv u:Value) (Q:Hp->Prop),Inv X pins σ H s->bv o ov->bv i iv->bv v u->t o i v H Q→
  Nv (NJ X.prog X.w) X.A (Xl ov iv u) (λ_ s'=>∃H',Inv X pins σ H' s'/\Q H') X.xe s
abbrev GV:=V->V->Hp->VK->Prop
def Kk(X:Cx)(op:WH)(t:GV):Prop:=
 ∀(pins:List (Addr×O8)) (s:Nf) (σ:St) (H:Hp) (x y:V) (v u:Value) (Q:VK),Inv X pins σ H s->bv x v->bv y u->t x y H Q→
  Nv (NJ X.prog X.w) X.A (Xf op v u) (EP X pins σ Q) X.xe s
section
variable {X:Cx}{pos:Q4}
def jx(i:Nat):TG:=λv σ H Q=>Q (σ.set i (some v)) H
theorem Cl{i:Nat}{x:NV}(hN:X.N.Nodup)(hi:X.N[i]?=some x)(hx:xh X.env.scope x)(hf:X.fn x=true∨X.env.scope.names.lookup x=some .local:=by first|exact .inl Z|exact .inr Z|assumption):PG X (.Name x pos) (jx i):=by
 intro pins s σ H v u Q I r h;exact Td (fP I hN hi hx r (λs' I'=>⟨_,H,I',h⟩) hf)
def ID:xc:=λvs σ H Q=>vs=[]/\Q σ H
def DG(t:TG)(u:xc):xc:=λvs σ H Q=>∃v r,vs=v::r/\t v σ H λσ' H'=>u r σ' H' Q
theorem Cj:GX X [] ID:=by
 intro pins s σ H vs us Q I r h;obtain⟨e,h⟩:=h;subst e
 cases r
 exact Vx ⟨σ,H,I,h⟩
theorem Ab{e:N9}{es:List N9}{t:TG}{u:xc}(h1:PG X e t)(h2:GX X es u)
  (hs:(Pw (e::es) X.env).map (·.2)=R6 e X.env::(Pw es X.env).map (·.2):=by rfl):GX X (e::es) (DG t u):=by
 intro pins s σ H vs us Q I r h;obtain⟨v,vr,e1,h⟩:=h;subst e1
 cases r with
 |cons r rr=>
  rw[hs];refine SD (cF (h1 pins s σ H _ _ _ I r h) λ_ s1 ⟨σ1,H1,I1,q1⟩=>?_);exact h2 pins s1 σ1 H1 _ _ Q I1 rr q1
def CQ(K:M6)(n:Nat)(t:xc):TG:=λv σ H Q=>∃a xs,v=.ref a/\bC K H a xs/\xs.length=n/\t xs σ H Q
theorem Ac{es:List N9}{k:Nat}{t:xc}{n:Nat}(hc:X.calm=true)(h:GX X es t)
  (hn:(Pw es X.env).length=n:=by rfl) (hst:(Pw es X.env).findIdx? (·.1)=none:=by rfl):PG X (.Tuple es k pos) (CQ X.K n t):=by
 intro pins s σ H v u Q I r hw;obtain⟨a,xs,e1,hq,hl,hw⟩:=hw;subst e1
 cases r
 obtain⟨its,rv,ht,hz⟩:=I.tuple hq;refine assign_Tuple_tuple (I.ok.hd hc) ht (by simp[hn,←hl,rv.length]) hst λh' hx=>?_
 have I1:Inv X pins σ H { s with heap:=h'}:=I.kept (t':=s.toks) λb o e=>hx b o (NT (Nt e)) e
 exact h pins _ σ H xs _ Q I1 (by simpa using rv) hw
def IC(to ti:TE)(t:Bf):TG:=λv σ H Q=>to σ H λo H1=>ti σ H1 λi H2=>t o i v H2 λH3=>Q σ H3
theorem Fa{o i:N9}{to ti:TE}{t:Bf}(ho:PE X o to)(hi:PE X i ti)(hs:GD X t)
  (ha:∀v,R6 (.Subscript o i pos) X.env v=(do
   let ov ←holding [v] (eval o X.env);let iv ←holding [v,ov] (eval i X.env)
   Xk pos
   holding [v,ov,iv] (Xl ov iv v)
   release [v,ov,iv] []):=by intro _;rfl):PG X (.Subscript o i pos) (IC to ti t):=by
 intro pins s σ H v u Q I r h;rw[ha];refine M9 (wpAny_holding (cF (ho pins s σ H _ I h) λov s1 ⟨x,H1,I1,r1,q1⟩=>?_));refine M9 (wpAny_holding (cF (hi pins s1 σ H1 _ I1 q1) λiv s2 ⟨y,H2,I2,r2,q2⟩=>?_));refine M9 (Se (M9 (wpAny_holding (cF (hs pins s2 σ H2 x y v ov iv u _ I2 r1 r2 r q2) λ_ s3 ⟨H3,I3,q3⟩=>?_))));exact wpAny_release ⟨σ,H3,I3,q3⟩
def oC(te:TE)(g:TG):TS:=λD σ H=>te σ H λx H1=>g x σ H1 D.nx
theorem E8{tg e:N9}{te:TE}{g:TG}(he:PE X e te)(hg:PG X tg g)(hs:Ts [tg] e pos.line X.env=Pq false:=by rfl)(hw:Tt [tg] e X.env=Pq none:=by rfl)
  (h1:(Pw [tg] X.env).map (·.2)=[R6 tg X.env]:=by rfl):PS X (.Assign [tg] e pos) (oC te g):=by
 intro pins s σ H D I h;refine wpAny_Assign_stores (cF (he pins s σ H _ I h) λv s1 ⟨x,H1,I1,r1,q1⟩=>?_) hs hw;rw[h1];exact cF (hg pins s1 σ H1 x v _ I1 r1 q1) λ_ s2 q=>q
theorem E3{i:Nat}{x:NV}{e:N9}{te:TE}{pos':Q4}(hN:X.N.Nodup)(hi:X.N[i]?=some x)(hx:xh X.env.scope x)(he:PE X e te)(hs:Q3 e (some (.Name x pos')) pos.line X.env=Pq false:=by rfl)(hf:X.fn x=true∨X.env.scope.names.lookup x=some .local:=by first|exact .inl Z|exact .inr Z|assumption) :
  PS X (.Assign [.Name x pos'] e pos) (oC te (jx i)):=by
 intro pins s σ H D I h;refine wpAny_Assign_Name (cF (he pins s σ H _ I h) λv s1 ⟨y,H1,I1,r1,q1⟩=>?_) hs;exact fP I1 hN hi hx r1 (λs2 I2=>⟨_,H1,I2,q1⟩) hf
def Hg(i j:Nat)(ta:TA):TS:=λD σ H=>ta σ H λvs H1=>∃v w,vs=[v,w]/\D.nx ((σ.set i (some v)).set j (some w)) H1
theorem E5{i j:Nat}{x y:NV}{a b:N9}{ta:TA}{px py pt:Q4}{kt k2 pt2}(hc:X.calm=true)(hN:X.N.Nodup)(hi:X.N[i]?=some x)(hj:X.N[j]?=some y)(hij:i≠j)
  (hx:X.env.scope.names.lookup x=some .local) (hy:X.env.scope.names.lookup y=some .local) (ha:PA X [a,b] ta)
  (hw:Tt [.Tuple [.Name x px,.Name y py] kt pt] (.Tuple [a,b] k2 pt2) X.env=Pq (some [x,y]))
  (hs:Ts [.Tuple [.Name x px,.Name y py] kt pt] (.Tuple [a,b] k2 pt2) pos.line X.env=Pq false:=by rfl) :
  PS X (.Assign [.Tuple [.Name x px,.Name y py] kt pt] (.Tuple [a,b] k2 pt2) pos) (Hg i j ta):=by
 intro pins s σ H D I h;rw[exec_Assign_arm];refine M9 (Se ?_);rw[hs];refine M9 (Nj ?_);rw[if_neg (by decide)];refine M9 (Tuple_ (cF (ha _ pins s σ H _ I h) λus s1 ⟨vs,H1,I1,r1,q1⟩=>?_));obtain⟨v,w,e1,q1⟩:=q1;subst e1;obtain⟨u1,u2,rfl,rv,rw'⟩:∃u1 u2,us=[u1,u2]/\bv v u1/\bv w u2:=by
  cases r1 with
  |cons p q=>
   cases q with
   |cons p' q'=>
    cases q'
    exact⟨_,_,Z,p,p'⟩
 refine N3 ?_ g9;have I2:Inv X pins σ H1 { s1 with heap:=s1.heap.push { cls:=.type "tuple",data:=.seq [u1,u2].toArray} }:=I1.kept (t':=s1.toks) λb o e=>Nc _ e
 rw[hw];refine M9 (Nj ?_);show Nv (NJ X.prog X.w) X.A (do rule "assign.swapped-stores";let items ←unpackItems (.ref s1.heap.objs.size) 2 none;U6 [λv=>WI X.env y v,λv=>WI X.env x v] items.reverse;Pq V9) _ _ _;refine M9 (SE (M9 (unpackItems_tuple (items:=#[u1,u2]) (I.ok.hd hc) (Wa s1.heap _) λh' hx'=>?_)));have I3:=I2.kept (h':=h') (t':=s1.toks) λb o e=>hx' b o (NT (Nt e)) e
 show Nv _ _ (U6 [λv=>WI X.env y v,λv=>WI X.env x v] [u2,u1] >>= λ_=>Pq V9) _ _ _;refine M9 (SD (wpAny_bindName (fP I3 hN hj (.inl hy) rw' (λs2 I4=>?_) (.inr hy))));refine SD (wpAny_bindName (fP I4 hN hi (.inl hx) rv (λs3 I5=>Vx (Nj ?_)) (.inr hx)));rw[List.set_comm _ _ (Qs hij)] at I5;exact⟨_,H1,I5,q1⟩
def Hn(i:Nat)(te:TE)(ti:GV):TS:=λD σ H=>∃x,σ[i]?=some (some x)/\te σ H λy H1=>ti x y H1 λz H2=>D.nx (σ.set i (some z)) H2
theorem E7{i:Nat}{x:NV}{e:N9}{te:TE}{op:WH}{ti:GV}{pos':Q4}(hN:X.N.Nodup)(hi:X.N[i]?=some x)(hx:xh X.env.scope x)(he:PE X e te)(ho:Kk X op ti)(hf:X.fn x=true∨X.env.scope.names.lookup x=some .local:=by first|exact .inl Z|exact .inr Z|assumption) :
  PS X (.AugAssign (.Name x pos') op e pos) (Hn i te ti):=by
 intro pins s σ H D I h;obtain⟨v,e1,h⟩:=h;obtain⟨m,hn,hl⟩:=I.loc;have vis:IJ X.env.scope x:=by rcases hx with k|k;exact .inl k;exact .inr (.inl k)
 obtain⟨u,r,l⟩:=hl i x v hi e1 vis;refine wpAny_AugAssign_Name ?_;have go:Nv (NJ X.prog X.w) X.A (eval e X.env) (λw s₂=>Nv (NJ X.prog X.w) X.A (Xf op u w) (λr s₃=>Nv (NJ X.prog X.w) X.A (Xe X.env x r) (λ_=>SP X pins D .next) X.xe s₃) X.xe s₂) X.xe s:=by
  refine cF (he pins s σ H _ I h) λw s1 ⟨y,H1,I1,r1,q1⟩=>?_
  refine cF (ho pins s1 σ H1 v y u w _ I1 r r1 q1) λz s2 ⟨zv,H2,I2,r2,q2⟩=>?_
  exact fP I2 hN hi hx r2 (λs3 I3=>⟨_,H2,I3,q2⟩) hf
 rcases l with⟨hk,hm⟩ | ⟨hk,c,hc,hcell⟩
 ·exact UE I.ok.kind hk hn hm go
 ·rcases hk with hk|hk
  ·exact U0 I.ok.kind hk hc hcell go
  ·rcases hx with k|k
   ·have:X.env.scope.names.lookup x=some .free:=hk;rw[k] at this;cases this
   ·have:X.env.scope.names.lookup x=some .free:=hk;rw[k] at this;cases this
def KN(to ti te:TE)(tget:V->V->Hp->VK->Prop)(tip:GV)(tset:Bf):TS:=λD σ H=>to σ H λo H1=>ti σ H1 λi H2=>tget o i H2 λx H3=>te σ H3 λy H4=>tip x y H4 λz H5=>tset o i z H5 λH6=>D.nx σ H6
def Mq(X:Cx)(t:V->V->Hp->VK->Prop):Prop:=
 ∀(pins:List (Addr×O8)) (s:Nf) (σ:St) (H:Hp) (o i:V) (ov iv:Value) (Q:VK),Inv X pins σ H s->bv o ov->bv i iv->t o i H Q→
  Nv (NJ X.prog X.w) X.A (Ss ov iv) (EP X pins σ Q) X.xe s
def L8(f:Int->Int->Int):GV:=λx y H Q=>∃i j,x=.int i/\y=.int j/\Q (.int (f i j)) H
theorem F9:Kk X .Sub (L8 λi j=>i-j):=by
 intro pins s σ H x y v u Q I r1 r2 h;obtain⟨i,j,e1,e2,q⟩:=h;subst e1;subst e2;obtain⟨t,rfl⟩:=r1;obtain⟨t',rfl⟩:=r2;exact isub_int ⟨.int _,H,I.tok _,⟨_,Z⟩,q⟩
end
section
variable {X:Cx}{pos:Q4}
def xP(c:TT)(tb:TS):TS:=λD σ H=>∃W:Nat->St->Hp->Prop,(∃m,W m σ H)/\∀m σ H,W m σ H→
 c σ H λb H1=>if b=true then ∃N:St->Hp->Prop,(∀σ' H',N σ' H'->∃m',m'<m/\W m' σ' H')/\tb { D with nx:=N,ct:=N,bk:=D.nx} σ H1 else D.nx σ H1
theorem zV(hp:Oe (NJ X.prog X.w) X.A X.env X.xe)(hc:PT X c tc)(hb:uk X body tb):PS X (.While c body [] pos) (xP tc tb):=by
 intro pins s σ H D I h;obtain⟨W,⟨m0,w0⟩,turn⟩:=h;refine wpAny_While (codeAny_whileLoop (λn s'=>∃σ' H',Inv X pins σ' H' s'/\W n σ' H') ?_ m0 ⟨σ,H,I,w0⟩);rintro n s1 ⟨σ1,H1,I1,w1⟩;refine Qp hp (cF (hc pins s1 σ1 H1 _ I1 (turn n σ1 H1 w1)) λb s2 ⟨H2,I2,q2⟩=>?_)
 cases b with
 |true=>
  obtain⟨N,hN,q2⟩:=q2;rw[if_pos Z];refine Qp hp (cF (hb pins s2 σ1 H2 _ I2 q2) λf s3 q3=>?_)
  cases f with
  |next=>
   obtain⟨σ3,H3,I3,n3⟩:=q3;obtain⟨m',hm,w3⟩:=hN σ3 H3 n3;exact⟨m',hm,σ3,H3,I3,w3⟩
  |cont=>
   obtain⟨σ3,H3,I3,n3⟩:=q3;obtain⟨m',hm,w3⟩:=hN σ3 H3 n3;exact⟨m',hm,σ3,H3,I3,w3⟩
  |brk=>exact q3
  |ret v=>exact q3
 |false=>
  rw[if_neg Ny];exact Sm ⟨σ1,H2,I2,q2⟩
end
structure It where
 go:Nat->Hp->Prop
 yld:Nat->Hp->V->Hp->Prop
 stop:Nat->Hp->Prop
def hX(X:Cx)(pins:List (Addr×O8))(H:Hp)(b:Addr):Prop:=
 H b=none/\b≠X.env.locals/\b∉X.fs/\(b∈X.ex∨X.s₀.heap.get? b=none)/\(∀x c,X.env.cells.lookup x=some c->c≠b)/\∀p∈X.pn++pins,p.1≠b
theorem Inv.fpOk{X:Cx}{pins:List (Addr×O8)}{σ:St}{H H':Hp}{s:Nf}{b:Addr}(I:Inv X pins σ H s)(hb:s.heap.objs.size≤b)(hn:H' b=none):hX X pins H' b:=by
 refine⟨hn,Qt (NE I.lt hb),I.nofs hb,.inr (Rb (NH I.sz hb)),λx c e z=>?_,λp hp z=>?_⟩
 ·obtain⟨v,q⟩:=I.cell x c e;exact absurd (NE q.lt (by rw[z];exact hb)) (Of _)
 ·exact absurd (NE (Nt (I.pin p hp).1) (by rw[z];exact hb)) (Of _)
structure sd(P:NW)(w:Ol)(K:M6)(tg:N9)(J:It)(fp:List Addr)(it:Addr)(tn:Nat->Np->Prop):Prop where
 mem:it∈fp
 obj:∀i h,tn i h->∀b∈fp,∃o,h.get? b=some o/\∀v,o.data≠.cell v
 keep:∀i h h',tn i h->(∀b∈fp,∀o,h.get? b=some o->h'.get? b=some o)->tn i h'
 item:∀(X:Cx),X.prog=P->X.w=w->X.K=K->X.calm=true->∀(i:Nat) (pins:List (Addr×O8)) (s:Nf) (σ:St) (H:Hp) (E:Value->Nf->Prop),Inv X pins σ H s->(∀b∈fp,hX X pins H b)->tn i s.heap->J.go i H→
  Nv (NJ P w) X.A (RQ (.ref it)) (λr s1=>∃u,r=some u∧
   Nv (NJ P w) X.A (Sn tg (.ref it) u) (λ_ s2=>∃x H',Inv X pins σ H' s2/\bv x u/\J.yld i H x H'/\tn (i+1) s2.heap/\∀b∈fp,H' b=none) E s1) E s
 done:∀(X:Cx),X.prog=P->X.w=w->X.K=K->X.calm=true->∀(i:Nat) (pins:List (Addr×O8)) (s:Nf) (σ:St) (H:Hp) (E:Value->Nf->Prop),Inv X pins σ H s->(∀b∈fp,hX X pins H b)->tn i s.heap->J.stop i H→
  Nv (NJ P w) X.A (RQ (.ref it)) (λr s1=>r=none/\Inv X pins σ H s1) E s
 self:∀(A:N8) (i:Nat) (s:Nf) (Q:Value->Nf->Prop) (E:Value->Nf->Prop),tn i s.heap->Q (.ref it) s->Nv (NJ P w) A (Vd (.ref it)) Q E s
abbrev TI:=St->Hp->(It->Hp->Prop)->Prop
def Ll(X:Cx)(pins:List (Addr×O8))(σ:St)(tg:N9)(R:It->Hp->Prop)(itv:Value)(s2:Nf):Prop:=
 ∃(it:Addr) (fp:List Addr) (tn:Nat->Np->Prop) (J:It) (H':Hp),itv=.ref it/\Inv X pins σ H' s2/\sd X.prog X.w X.K tg J fp it tn/\tn 0 s2.heap/\(∀b∈fp,hX X pins H' b)/\R J H'
def PI(X:Cx)(tg iter:N9)(wi:TI):Prop:=
 ∀(pins:List (Addr×O8)) (s:Nf) (σ:St) (H:Hp) (R:It->Hp->Prop),Inv X pins σ H s->wi σ H R→
  Nv (NJ X.prog X.w) X.A (eval iter X.env) (λv s1=>Nv (NJ X.prog X.w) X.A (Vd v) (Ll X pins σ tg R) X.xe s1) X.xe s
theorem vg(ho:s.heap.get? it=some o)(hc:o.cls=.type n)(hd:o.data=.fields vs)
  (hn:["enumerate","zip","dict_itemiterator","dict_reverseitemiterator","odict_iterator","itertools.zip_longest","itertools.pairwise"].contains n=false) (hQ:Q () s):Nv M A (Sn tg (.ref it) u) Q E s:=by
 unfold Sn
 cases tg<;>first
  |exact Nj hQ
  | (cases u<;>first
    |exact Nj hQ
    | (refine M9 (WJ ho ?_)
       rw[hc,hd];show Nv M A (if(["enumerate","zip","dict_itemiterator","dict_reverseitemiterator","odict_iterator","itertools.zip_longest","itertools.pairwise"].contains n&&vs[0]?==some (So _))=true then _ else _) Q E s;rw[if_neg (by intro h;rw[hn,QD] at h;cases h)];exact Nj hQ))
def Br(K:M6)(a:Addr):It:=
 ⟨λi H=>∃xs x,aV K H a xs/\xs[i]?=some x,λi H x H'=>H'=H/\∀xs,aV K H a xs->xs[i]?=some x,λi H=>∃xs,aV K H a xs/\xs.length≤i⟩
def Bh(K:M6)(a:Addr):It:=
 ⟨λi H=>∃xs x,bC K H a xs/\xs[i]?=some x,λi H x H'=>H'=H/\∀xs,bC K H a xs->xs[i]?=some x,λi H=>∃xs,bC K H a xs/\xs.length≤i⟩
def xy(lo:Int)(n:Nat):It:=⟨λi _=>i<n,λi H x H'=>H'=H/\x=.int (lo+i),λi _=>n≤i⟩
theorem nw{P:NW}{w:Ol}{K:M6}{tg:N9}(a it:Addr):sd P w K tg (Br K a) [it] it (λi h=>h.IsListIter it a i) where
 mem:=by simp
 obj:=λi h st b hb=>by
  have e:b=it:=by simpa using hb
  subst e;obtain⟨o,e,c,d⟩:=st;exact⟨o,e,λv z=>by rw[d] at z;cases z⟩
 keep:=λi h h' st k=>st.at λo e=>k it (by simp) o e
 item:=by
  intro X hP hw hK hc i pins s σ H E I hf st hg;subst hP hw hK;obtain⟨xs,x,hq,hx⟩:=hg;obtain⟨its,rv,p,hz⟩:=I.list hq;obtain⟨u,hu,ru⟩:=rv.get hx;obtain⟨f0,f1,f2,f3,f4,f5⟩:=hf it (by simp);refine wpAny_pyNext_list_item st p.isList (x:=u) (by simpa using hu) λh' st' sb=>?_
  have I1:Inv X pins σ H { s with heap:=h'}:=I.turned (t':=s.toks) (λb o hb e=>(sb.2 b hb).trans e) f0 f1 f3 f4 f5;obtain⟨o,e,c,d⟩:=id st';exact⟨u,Z,vg (s:={ s with heap:=h'}) e c d (by decide) ⟨x,H,I1,ru,⟨rfl,λys hy=>by rw[I.list_inj hy hq];exact hx⟩,st',λb hb=>(hf b hb).1⟩⟩
 done:=by
  intro X hP hw hK hc i pins s σ H E I hf st hg;subst hP hw hK;obtain⟨xs,hq,hx⟩:=hg;obtain⟨its,rv,p,hz⟩:=I.list hq;obtain⟨f0,f1,f2,f3,f4,f5⟩:=hf it (by simp);have hl:=rv.length;exact wpAny_pyNext_list_end (I.ok.hd hc) st p.isList (by simp;omega) λh' eb=>⟨Z,I.turned (t':=s.toks) (λb o hb e=>eb b o hb e) f0 f1 f3 f4 f5⟩
 self:=λ_ _ _ _ _ st h=>wpAny_pyIter_listiter st h
theorem lA{P:NW}{w:Ol}{K:M6}{tg:N9}(a it:Addr):sd P w K tg (Bh K a) [it] it (λi h=>h.IsTupleIter it a i) where
 mem:=by simp
 obj:=λi h st b hb=>by
  have e:b=it:=by simpa using hb
  subst e;obtain⟨o,e,c,d⟩:=st;exact⟨o,e,λv z=>by rw[d] at z;cases z⟩
 keep:=λi h h' st k=>st.at λo e=>k it (by simp) o e
 item:=by
  intro X hP hw hK hc i pins s σ H E I hf st hg;subst hP hw hK;obtain⟨xs,x,hq,hx⟩:=hg;obtain⟨its,rv,p,hz⟩:=I.tuple hq;obtain⟨u,hu,ru⟩:=rv.get hx;obtain⟨f0,f1,f2,f3,f4,f5⟩:=hf it (by simp);refine wpAny_pyNext_tuple_item st (show s.heap.IsTuple a its.toArray from p) (x:=u) (by simpa using hu) λh' st' sb=>?_
  have I1:Inv X pins σ H { s with heap:=h'}:=I.turned (t':=s.toks) (λb o hb e=>(sb.2 b hb).trans e) f0 f1 f3 f4 f5;obtain⟨o,e,c,d⟩:=id st';exact⟨u,Z,vg (s:={ s with heap:=h'}) e c d (by decide) ⟨x,H,I1,ru,⟨rfl,λys hy=>by rw[I.tuple_inj hy hq];exact hx⟩,st',λb hb=>(hf b hb).1⟩⟩
 done:=by
  intro X hP hw hK hc i pins s σ H E I hf st hg;subst hP hw hK;obtain⟨xs,hq,hx⟩:=hg;obtain⟨its,rv,p,hz⟩:=I.tuple hq;obtain⟨f0,f1,f2,f3,f4,f5⟩:=hf it (by simp);have hl:=rv.length;exact wpAny_pyNext_tuple_end (I.ok.hd hc) st (show s.heap.IsTuple a its.toArray from p) (by simp;omega) λh' eb=>⟨Z,I.turned (t':=s.toks) (λb o hb e=>eb b o hb e) f0 f1 f3 f4 f5⟩
 self:=λ_ _ _ _ _ st h=>wpAny_pyIter_tupleiter st h
theorem so{P:NW}{w:Ol}{K:M6}{tg:N9}(it:Addr)(lo:Int)(n:Nat):sd P w K tg (xy lo n) [it] it (λi h=>UF h it (lo+(i:Nat)*1) ((n:Int)-(i:Nat)) 1) where
 mem:=by simp
 obj:=λi h st b hb=>by
  have e:b=it:=by simpa using hb
  subst e;exact⟨_,st,λv z=>by
   have z':Te _=UV v:=z
   cases z'⟩
 keep:=λi h h' st k=>k it (by simp) _ st
 item:=by
  intro X hP hw hK hc i pins s σ H E I hf st hg;subst hP hw hK;obtain⟨f0,f1,f2,f3,f4,f5⟩:=hf it (by simp);have W:=Xq.range (prog:=X.prog) (w:=X.w) (I.ok.hd hc) it lo 1 n;refine W.item i s _ _ hg st λv h' tk hv st' kk=>?_
  obtain⟨t,rfl⟩:=hv;have I1:Inv X pins σ H { s with heap:=h',toks:=tk}:=I.turned (λb o hb e=>kk b o (by simpa using hb) e) f0 f1 f3 f4 f5;refine⟨_,rfl,vg (s:={ s with heap:=h',toks:=tk}) (n := "range_iterator") st' rfl rfl (by decide) ⟨.int (lo+i),H,I1,⟨t,?_⟩,⟨rfl,rfl⟩,st',λb hb=>(hf b hb).1⟩⟩;rw[Int.mul_one]
 done:=by
  intro X hP hw hK hc i pins s σ H E I hf st hg;subst hP hw hK;obtain⟨f0,f1,f2,f3,f4,f5⟩:=hf it (by simp);exact Uc (I.ok.hd hc) st (by have:n≤i:=hg;omega) λh' eb=>⟨Z,I.turned (t':=s.toks) (λb o hb e=>eb b o hb e) f0 f1 f3 f4 f5⟩
 self:=λ_ _ _ _ _ st h=>Ud st h
end L2
namespace L2
open PySem PySem.Spec PyProof.Rows
section
variable {X:Cx}{tg:N9}
def AN(K:M6)(tl:TE):TI:=λσ H R=>tl σ H λx H1=>∃a,x=.ref a/\(∃xs,aV K H1 a xs)/\R (Br K a) H1
def CO(K:M6)(tl:TE):TI:=λσ H R=>tl σ H λx H1=>∃a,x=.ref a/\(∃xs,bC K H1 a xs)/\R (Bh K a) H1
theorem Ch(hl:PE X l tl):PI X tg l (AN X.K tl):=by
 intro pins s σ H R I h;refine cF (hl pins s σ H _ I h) λv s1 ⟨x,H1,I1,r1,q1⟩=>?_
 obtain⟨a,e,⟨xs,hq⟩,q⟩:=q1;subst e
 cases r1
 obtain⟨its,rv,p,hz⟩:=I1.list hq;refine Q6 p.isList ?_;refine⟨s1.heap.objs.size,[s1.heap.objs.size],_,_,H1,Z,I1.kept (t':=s1.toks) λb o e=>Nc _ e,nw a _,⟨_,Nr _ Z,Z,Z⟩,λb hb=>?_,q⟩;have e:b=s1.heap.objs.size:=by simpa using hb
 subst e;exact I1.fpOk (Nb _) (I1.hok.fresh (Nb _))
theorem z8(hl:PE X l tl):PI X tg l (CO X.K tl):=by
 intro pins s σ H R I h;refine cF (hl pins s σ H _ I h) λv s1 ⟨x,H1,I1,r1,q1⟩=>?_
 obtain⟨a,e,⟨xs,hq⟩,q⟩:=q1;subst e
 cases r1
 obtain⟨its,rv,p,hz⟩:=I1.tuple hq;refine Qh (show s1.heap.IsTuple a its.toArray from p) ?_;refine⟨s1.heap.objs.size,[s1.heap.objs.size],_,_,H1,Z,I1.kept (t':=s1.toks) λb o e=>Nc _ e,lA a _,⟨_,Nr _ Z,Z,Z⟩,λb hb=>?_,q⟩;have e:b=s1.heap.objs.size:=by simpa using hb
 subst e;exact I1.fpOk (Nb _) (I1.hok.fresh (Nb _))
theorem qS{pins:List (Addr×O8)}{σ:St}{H:Hp}{s:Nf}{R:It->Hp->Prop}{E:Value->Nf->Prop}{lo hi:Int}{t u v:W5}{tk:Nat}(I:Inv X pins σ H s)(h1:-(2^62)≤lo)(h2:lo<2^62)(h3:-(2^62)≤hi)(h4:hi<2^62)
  (q:R (xy lo (hi-lo).toNat) H):Nv (NJ X.prog X.w) X.A (Vd (.ref s.heap.objs.size)) (Ll X pins σ tg R) E { s with heap:=s.heap.push { cls:=.type "range",data:=.fields #[.int lo t,.int hi u,.int 1 v]},toks:=tk}:=by
 refine Ve (UW.new ..) (Xg h1 h2 h3 h4) ?_;have I1:Inv X pins σ H { s with heap:=s.heap.push { cls:=.type "range",data:=.fields #[.int lo t,.int hi u,.int 1 v]},toks:=tk}:=I.kept λb o e=>Nc _ e
 refine⟨(s.heap.push { cls:=.type "range",data:=.fields #[.int lo t,.int hi u,.int 1 v]}).objs.size,[(s.heap.push { cls:=.type "range",data:=.fields #[.int lo t,.int hi u,.int 1 v]}).objs.size],_,_,H,Z,
  I1.kept (t':=tk) λb o e=>Nc _ e,so _ lo (hi-lo).toNat,?_,λb hb=>?_,q⟩
 ·have e1:lo+((0:Nat):Int)*1=lo:=by simp
  have e2:(((hi-lo).toNat:Nat):Int)-((0:Nat):Int)=OV lo hi 1:=by rw[rangeSize_one];split<;>omega
  show UF _ _ (lo+((0:Nat):Int)*1) ((((hi-lo).toNat:Nat):Int)-((0:Nat):Int)) 1;rw[e1,e2];exact Nr _ Z
 ·have e:b=(s.heap.push { cls:=.type "range",data:=.fields #[.int lo t,.int hi u,.int 1 v]}).objs.size:=by simpa using hb
  subst e;exact I1.fpOk (Nb _) (I1.hok.fresh (Nb _))
def DE(ta:TA):TI:=λσ H R=>ta σ H λvs H1=>∃j:Int,vs=[.int j]/\-(2^62)≤j/\j<2^62/\R (xy 0 j.toNat) H1
def DD(ta:TA):TI:=λσ H R=>ta σ H λvs H1=>∃i j:Int,vs=[.int i,.int j]/\(-(2^62)≤i/\i<2^62/\-(2^62)≤j/\j<2^62)/\R (xy i (j-i).toNat) H1
theorem wj{a:N9}{ta:TA}{p pos:Q4}(hg:Gl X "range")(hm:X.mg "range"=none)(ha:PA X [a] ta)(hs:Nw [a] X.env=[(false,eval a X.env)]:=by rfl):PI X tg (.Call (.Name "range" p) [a] [] pos) (DE ta):=by
 intro pins s σ H R I h;refine Xr (gU I hg hm Vf (OQ (cF (ha pos pins s σ H _ I h) λus s1 ⟨vs,H1,I1,r1,q1⟩=>?_) hs Z));obtain⟨j,e,q1,q2,q⟩:=q1;subst e
 cases r1 with
 |cons r rr=>
  cases rr
  obtain⟨t,rfl⟩:=r;exact call_range_1 (qS I1 (by omega) (by omega) q1 q2 (by simpa using q))
theorem wg{a b:N9}{ta:TA}{p pos:Q4}(hg:Gl X "range")(hm:X.mg "range"=none)(ha:PA X [a,b] ta)(hs:Nw [a,b] X.env=[(false,eval a X.env),(false,eval b X.env)]:=by rfl)(hs2:Nw [b] X.env=[(false,eval b X.env)]:=by rfl) :
  PI X tg (.Call (.Name "range" p) [a,b] [] pos) (DD ta):=by
 intro pins s σ H R I h;refine Xr (gU I hg hm Vf (OQ (cF (ha pos pins s σ H _ I h) λus s1 ⟨vs,H1,I1,r1,q1⟩=>?_) (by rw[hs,hs2]) (by rw[hs2];rfl)));obtain⟨i,j,e,⟨q1,q2,q3,q4⟩,q⟩:=q1;subst e
 cases r1 with
 |cons r rr=>
  cases rr with
  |cons r' rr=>
   cases rr
   obtain⟨t,rfl⟩:=r;obtain⟨t',rfl⟩:=r';exact call_range_2 (qS I1 q1 q2 q3 q4 q)
def Hm(wi:TI)(g:TG)(tb:TS):TS:=λD σ H=>wi σ H λJ H1=>∃W:Nat->Nat->St->Hp->Prop,(∃m,W 0 m σ H1)/\∀i m σ H,W i m σ H→
 (J.stop i H/\D.nx σ H)∨(J.go i H/\∃N:St->Hp->Prop,(∀σ' H',N σ' H'->∃m',m'<m/\W (i+1) m' σ' H')/\∀x H',J.yld i H x H'->g x σ H' λσ2 H2=>tb { D with nx:=N,ct:=N,bk:=D.nx} σ2 H2)
def jX(fp:List Addr)(h:Np):List (Addr×O8):=fp.filterMap λb=>(h.get? b).map λo=>(b,o)
theorem eK(hb:b∈fp)(e:h.get? b=some o):(b,o)∈jX fp h:=Vg.mpr ⟨b,hb,by rw[e];rfl⟩
theorem wm(hp:p∈jX fp h):p.1∈fp/\h.get? p.1=some p.2:=by
 obtain⟨b,hb,e⟩:=Vg.mp hp
 cases q:h.get? b with
 |none=>rw[q] at e;cases e
 |some o=>
  rw[q] at e;have e':(b,o)=p:=OB e;subst e';exact⟨hb,q⟩
theorem Inv.pinned{pins:List (Addr×O8)}{σ:St}{H:Hp}{s:Nf}{fp:List Addr}(I:Inv X pins σ H s)(hf:∀b∈fp,hX X pins H b)(ho:∀b∈fp,∃o,s.heap.get? b=some o/\∀v,o.data≠.cell v):Inv X (pins++jX fp s.heap) σ H s:=
 I.pins_of λp hp=>(NF.mp hp).elim (λz=>I.pin p (Nz _ z)) λz=>by
  obtain⟨hb,e⟩:=wm z;obtain⟨f0,f1,f2,_⟩:=hf p.1 hb;obtain⟨o,e',d⟩:=ho p.1 hb;rw[e] at e';cases e';exact⟨e,f0,f1,f2,d⟩
theorem Inv.unpinned{pins pl:List (Addr×O8)}{σ:St}{H:Hp}{s:Nf}(I:Inv X (pins++pl) σ H s):Inv X pins σ H s:=I.pins_of λp hp=>I.pin p (Nz _ (OX _ hp))
theorem E6{iter:N9}{body:List Stmt}{wi:TI}{g:TG}{tb:TS}{pos:Q4}(hp:Oe (NJ X.prog X.w) X.A X.env X.xe)(hc:X.calm=true)(hi:PI X tg iter wi)(hg:PG X tg g)(hb:uk X body tb)
  (hs:∀x,Ph iter X.env x=Pq x:=by intro _;rfl):PS X (.For tg iter body [] pos) (Hm wi g tb):=by
 intro pins s σ H D I h;refine wpAny_For (cF (hi pins s σ H _ I h) λv s1 h1=>cF h1 λitv s2 h2=>?_) hs;obtain⟨it,fp,tn,J,H2,e,I2,T,st2,f2,W,⟨m0,w0⟩,turn⟩:=h2;subst e;have stat:∀{H':Hp},(∀b∈fp,H' b=none)->∀b∈fp,hX X pins H' b:=λhn b hb=>⟨hn b hb,(f2 b hb).2⟩
 refine codeAny_forLoop_any (λn s'=>∃i σ' H',Inv X pins σ' H' s'/\tn i s'.heap/\(∀b∈fp,H' b=none)/\W i n σ' H') ?_ m0 ⟨0,σ,H2,I2,st2,λb hb=>(f2 b hb).1,w0⟩;rintro n s3 ⟨i,σ3,H3,I3,st3,fr3,w3⟩;rcases turn i n σ3 H3 w3 with⟨stop,qn⟩ | ⟨go,N,hN,step⟩
 ·refine Qp hp (cF (T.done X Z Z Z hc i pins s3 σ3 H3 X.xe I3 (stat fr3) st3 stop) λr s4 ⟨hr,I4⟩=>?_);subst hr;exact Sm ⟨σ3,H3,I4,qn⟩
 ·refine Qp hp (cF (T.item X Z Z Z hc i pins s3 σ3 H3 X.xe I3 (stat fr3) st3 go) λr s4 ⟨u,hr,h4⟩=>?_);subst hr;refine Qp hp (cF h4 λ_ s5 ⟨x,H5,I5,r5,y5,st5,fr5⟩=>?_);have I5':=I5.pinned (stat fr5) (T.obj _ _ st5);refine Qp hp (cF (hg _ s5 σ3 H5 x u _ I5' r5 (step x H5 y5)) λ_ s6 ⟨σ6,H6,I6,q6⟩=>?_);refine Qp hp (cF (hb _ s6 σ6 H6 _ I6 q6) λf s7 q7=>?_);have again:∀{σ7:St} {H7:Hp},Inv X (pins++jX fp s5.heap) σ7 H7 s7->N σ7 H7->∃m,m<n/\∃i σ' H',Inv X pins σ' H' s7/\tn i s7.heap/\(∀b∈fp,H' b=none)/\W i m σ' H':=λ{σ7 H7} I7 n7=>by
   obtain⟨m',hm,w7⟩:=hN σ7 H7 n7;refine⟨m',hm,i+1,σ7,H7,I7.unpinned,T.keep _ _ _ st5 λb hb o e=>(I7.pin (b,o) (Nz _ (Nz _ (eK hb e)))).1,λb hb=>?_,w7⟩;obtain⟨o,e,d⟩:=T.obj _ _ st5 b hb;exact(I7.pin (b,o) (Nz _ (Nz _ (eK hb e)))).2.1
  cases f with
  |next=>obtain⟨σ7,H7,I7,n7⟩:=q7;exact again I7 n7
  |cont=>obtain⟨σ7,H7,I7,n7⟩:=q7;exact again I7 n7
  |brk=>obtain⟨σ7,H7,I7,q7⟩:=q7;exact⟨σ7,H7,I7.unpinned,q7⟩
  |ret v=>obtain⟨x7,σ7,H7,I7,r7,q7⟩:=q7;exact⟨x7,σ7,H7,I7.unpinned,r7,q7⟩
end
theorem gE{K:M6}{a:Addr}{xs:List V}{g:TG}{tb:TS}{D:i7}{σ:St}{H:Hp}(Pv:Nat->St->Hp->Prop)(h0:Pv 0 σ H)(hl:∀i σ H,i≤xs.length->Pv i σ H->aV K H a xs)
  (hs:∀i x σ H,xs[i]?=some x->Pv i σ H->g x σ H λσ2 H2=>tb { D with nx:=Pv (i+1),ct:=Pv (i+1),bk:=D.nx} σ2 H2) (hd:∀σ H,Pv xs.length σ H->D.nx σ H) :
  ∃W:Nat->Nat->St->Hp->Prop,(∃m,W 0 m σ H)/\∀i m σ H,W i m σ H→
   ((Br K a).stop i H/\D.nx σ H)∨((Br K a).go i H/\∃N:St->Hp->Prop,(∀σ' H',N σ' H'->∃m',m'<m/\W (i+1) m' σ' H')/\∀x H',(Br K a).yld i H x H'->g x σ H' λσ2 H2=>tb { D with nx:=N,ct:=N,bk:=D.nx} σ2 H2):=by
 refine⟨λi m σ H=>m=xs.length-i/\i≤xs.length/\Pv i σ H,⟨xs.length,by simp,NB _,h0⟩,?_⟩;rintro i m σ H ⟨rfl,hi,p⟩;have q:=hl i σ H hi p;by_cases hlt:i<xs.length
 ·refine .inr ⟨⟨xs,xs[i],q,by simp[hlt]⟩,Pv (i+1),λσ' H' p'=>⟨xs.length-(i+1),by omega,Z,hlt,p'⟩,λx H' y=>?_⟩;obtain⟨e,y⟩:=y;subst e;exact hs i x σ _ (y xs q) p
 ·have e:i=xs.length:=by omega
  subst e;exact .inl ⟨⟨xs,q,Nb _⟩,hd σ H p⟩
theorem iI{K:M6}{a:Addr}{xs:List V}{g:TG}{tb:TS}{D:i7}{σ:St}{H:Hp}(Pv:Nat->St->Hp->Prop)(h0:Pv 0 σ H)(hl:∀i σ H,i≤xs.length->Pv i σ H->bC K H a xs)
  (hs:∀i x σ H,xs[i]?=some x->Pv i σ H->g x σ H λσ2 H2=>tb { D with nx:=Pv (i+1),ct:=Pv (i+1),bk:=D.nx} σ2 H2) (hd:∀σ H,Pv xs.length σ H->D.nx σ H) :
  ∃W:Nat->Nat->St->Hp->Prop,(∃m,W 0 m σ H)/\∀i m σ H,W i m σ H→
   ((Bh K a).stop i H/\D.nx σ H)∨((Bh K a).go i H/\∃N:St->Hp->Prop,(∀σ' H',N σ' H'->∃m',m'<m/\W (i+1) m' σ' H')/\∀x H',(Bh K a).yld i H x H'->g x σ H' λσ2 H2=>tb { D with nx:=N,ct:=N,bk:=D.nx} σ2 H2):=by
 refine⟨λi m σ H=>m=xs.length-i/\i≤xs.length/\Pv i σ H,⟨xs.length,by simp,NB _,h0⟩,?_⟩;rintro i m σ H ⟨rfl,hi,p⟩;have q:=hl i σ H hi p;by_cases hlt:i<xs.length
 ·refine .inr ⟨⟨xs,xs[i],q,by simp[hlt]⟩,Pv (i+1),λσ' H' p'=>⟨xs.length-(i+1),by omega,Z,hlt,p'⟩,λx H' y=>?_⟩;obtain⟨e,y⟩:=y;subst e;exact hs i x σ _ (y xs q) p
 ·have e:i=xs.length:=by omega
  subst e;exact .inl ⟨⟨xs,q,Nb _⟩,hd σ H p⟩
theorem cZ{lo:Int}{n:Nat}{g:TG}{tb:TS}{D:i7}{σ:St}{H:Hp}(Pv:Nat->St->Hp->Prop)(h0:Pv 0 σ H)
  (hs:∀i σ H,i<n->Pv i σ H->g (.int (lo+i)) σ H λσ2 H2=>tb { D with nx:=Pv (i+1),ct:=Pv (i+1),bk:=D.nx} σ2 H2) (hd:∀σ H,Pv n σ H->D.nx σ H) :
  ∃W:Nat->Nat->St->Hp->Prop,(∃m,W 0 m σ H)/\∀i m σ H,W i m σ H→
   ((xy lo n).stop i H/\D.nx σ H)∨((xy lo n).go i H/\∃N:St->Hp->Prop,(∀σ' H',N σ' H'->∃m',m'<m/\W (i+1) m' σ' H')/\∀x H',(xy lo n).yld i H x H'->g x σ H' λσ2 H2=>tb { D with nx:=N,ct:=N,bk:=D.nx} σ2 H2):=by
 refine⟨λi m σ H=>m=n-i/\i≤n/\Pv i σ H,⟨n,by simp,NB _,h0⟩,?_⟩;rintro i m σ H ⟨rfl,hi,p⟩;by_cases hlt:i<n
 ·refine .inr ⟨hlt,Pv (i+1),λσ' H' p'=>⟨n-(i+1),by omega,Z,hlt,p'⟩,λx H' y=>?_⟩;obtain⟨e,y⟩:=y;subst e y;exact hs i σ _ hlt p
 ·have e:i=n:=by omega
  subst e;exact .inl ⟨Nb _,hd σ H p⟩
end L2
namespace L2
open PySem PySem.Spec PyProof.Rows
abbrev R2:=V->V->Hp->VK->Prop
def gK(X:Cx)(f:Value->Value->Sem Value)(r:R2):Prop:=
 ∀(pins:List (Addr×O8)) (s:Nf) (σ:St) (H:Hp) (x y:V) (v u:Value) (Q:VK),Inv X pins σ H s->bv x v->bv y u->r x y H Q→
  Nv (NJ X.prog X.w) X.A (f v u) (EP X pins σ Q) X.xe s
def Ju(X:Cx)(f:Value->Sem Value)(r:V->Hp->VK->Prop):Prop:=
 ∀(pins:List (Addr×O8)) (s:Nf) (σ:St) (H:Hp) (x:V) (v:Value) (Q:VK),Inv X pins σ H s->bv x v->r x H Q→
  Nv (NJ X.prog X.w) X.A (f v) (EP X pins σ Q) X.xe s
def c6(X:Cx)(f:Value)(r:List V->Hp->VK->Prop):Prop:=
 ∀(pins:List (Addr×O8)) (s:Nf) (σ:St) (H:Hp) (xs:List V) (us:List Value) (Q:VK),Inv X pins σ H s->bE xs us->r xs H Q→
  Nv (NJ X.prog X.w) X.A (call f us) (EP X pins σ Q) X.xe s
def Mj(X:Cx)(r:V->Hp->(Bool->Hp->Prop)->Prop):Prop:=
 ∀(pins:List (Addr×O8)) (s:Nf) (σ:St) (H:Hp) (x:V) (v:Value) (Q:Bool->Hp->Prop),Inv X pins σ H s->bv x v->r x H Q→
  Nv (NJ X.prog X.w) X.A (truthy v) (TP X pins σ Q) X.xe s
def By(r:R2)(ta tb:TE):TE:=λσ H Q=>ta σ H λx H1=>tb σ H1 λy H2=>r x y H2 Q
def Ky(r:V->Hp->VK->Prop)(ta:TE):TE:=λσ H Q=>ta σ H λx H1=>r x H1 Q
def rI(C:Int->Int->Prop)(g:Int->Int->V):R2:=λx y H Q=>∃i j,x=.int i/\y=.int j/\C i j/\Q (g i j) H
def Du(g:Int->Int->V):R2:=λx y H Q=>∃i j,x=.int i/\y=.int j/\Q (g i j) H
def rU(g:Int->V):V->Hp->VK->Prop:=λx H Q=>∃i,x=.int i/\Q (g i) H
section
variable {X:Cx}{a b c:N9}{ta tb tc:TE}{pos:Q4}
theorem Gu(ha:PE X a ta)(hb:PE X b tb){pins:List (Addr×O8)}{s:Nf}{σ:St}{H:Hp}{R:V->V->Hp->Prop}(I:Inv X pins σ H s)
  (h:ta σ H λx H1=>tb σ H1 λy H2=>R x y H2) {Q:Value->Nf->Prop} {f:Value->Value->Sem Value}
  (hf:∀v u s2 x y H2,Inv X pins σ H2 s2->bv x v->bv y u->R x y H2->Nv (NJ X.prog X.w) X.A (f v u) Q X.xe s2) :
  Nv (NJ X.prog X.w) X.A (eval a X.env) (λv s₁=>Nv (NJ X.prog X.w) X.A (eval b X.env) (λu s₂=>Nv (NJ X.prog X.w) X.A (f v u) Q X.xe s₂) X.xe s₁) X.xe s:=by
 refine cF (ha pins s σ H _ I h) λv s1 ⟨x,H1,I1,r1,q1⟩=>?_
 refine cF (hb pins s1 σ H1 _ I1 q1) λu s2 ⟨y,H2,I2,r2,q2⟩=>?_
 exact hf v u s2 x y H2 I2 r1 r2 q2
theorem HZ(ho:gK X (QX op) r)(ha:PE X a ta)(hb:PE X b tb):PE X (.BinOp a op b pos) (By r ta tb):=by
 intro pins s σ H Q I h;exact wpAny_BinOp (Gu ha hb I h λv u s2 x y H2 I2 rx ry q=>ho pins s2 σ H2 x y v u Q I2 rx ry q)
theorem HY(ho:Ju X (unaryOp op) r)(ha:PE X a ta):PE X (.UnaryOp op a pos) (Ky r ta):=by
 intro pins s σ H Q I h;exact UnaryOp_ (cF (ha pins s σ H _ I h) λv s1 ⟨x,H1,I1,r1,q1⟩=>ho pins s1 σ H1 x v Q I1 r1 q1)
theorem GS{f:Value->Value->Sem Value}{C:Int->Int->Prop}{g:Int->Int->Int}
  (rule:∀(i j:Int) (t u:W5) (s:Nf) (Q:Value->Nf->Prop) (E:Value->Nf->Prop),C i j->Q (.int (g i j) s.toks) { s with toks:=s.toks+1}->Nv (NJ X.prog X.w) X.A (f (.int i t) (.int j u)) Q E s) :
  gK X f (rI C λi j=>.int (g i j)):=by
 intro pins s σ H x y v u Q I rx ry h;obtain⟨i,j,rfl,rfl,hc,q⟩:=h;obtain⟨t,rfl⟩:=rx;obtain⟨t',rfl⟩:=ry;exact rule i j t t' s _ _ hc ⟨.int (g i j),H,I.tok _,⟨_,Z⟩,q⟩
theorem Ik{f:Value->Value->Sem Value}{g:Int->Int->Int}
  (rule:∀(i j:Int) (t u:W5) (s:Nf) (Q:Value->Nf->Prop) (E:Value->Nf->Prop),Q (.int (g i j) s.toks) { s with toks:=s.toks+1}->Nv (NJ X.prog X.w) X.A (f (.int i t) (.int j u)) Q E s) :
  gK X f (Du λi j=>.int (g i j)):=by
 intro pins s σ H x y v u Q I rx ry h;obtain⟨i,j,rfl,rfl,q⟩:=h;obtain⟨t,rfl⟩:=rx;obtain⟨t',rfl⟩:=ry;exact rule i j t t' s _ _ ⟨.int (g i j),H,I.tok _,⟨_,Z⟩,q⟩
theorem Cy{f:Value->Value->Sem Value}{g:Int->Int->Bool}
  (rule:∀(i j:Int) (t u:W5) (s:Nf) (Q:Value->Nf->Prop) (E:Value->Nf->Prop),Q (.bool (g i j)) s->Nv (NJ X.prog X.w) X.A (f (.int i t) (.int j u)) Q E s) :
  gK X f (Du λi j=>.bl (g i j)):=by
 intro pins s σ H x y v u Q I rx ry h;obtain⟨i,j,rfl,rfl,q⟩:=h;obtain⟨t,rfl⟩:=rx;obtain⟨t',rfl⟩:=ry;exact rule i j t t' s _ _ ⟨.bl (g i j),H,I,Z,q⟩
def Kw(i j:Int):Prop:=0<j/\j<1073741824
def Lr(i j:Int):Prop:=j≠0/\j.natAbs<1073741824
def Kv(i j:Int):Prop:=0≤j/\j≤1000000/\i.natAbs<2^64
def GJ(i j:Int):Prop:=(-(2^64)<i/\i<2^64)∨(-(2^64)<j/\j<2^64)
theorem GJ.ok(h:GJ i j):IntMulOk i j:=by
 rcases h with⟨h1,h2⟩ | ⟨h1,h2⟩
 ·exact .of_left (intBits_le_64 h1 h2)
 ·exact .of_right (intBits_le_64 h1 h2)
theorem cM:gK X (QX .Add) (Du λi j=>.int (i+j)):=Ik λ_ _ _ _ _ _ _ q=>add_int q
theorem gS:gK X (QX .Sub) (Du λi j=>.int (i-j)):=Ik λ_ _ _ _ _ _ _ q=>sub_int q
theorem fk:gK X (QX .Mult) (rI GJ λi j=>.int (i*j)):=GS λ_ _ _ _ _ _ _ hc q=>mul_int q hc.ok
theorem jv:gK X (QX .FloorDiv) (rI Kw λi j=>.int (i/j)):=GS λi j _ _ _ _ _ hc q=>by
 have h1:(0:Int)<j:=hc.1;have h2:j<1073741824:=hc.2;exact floordiv_int (by omega) (by rw[SF i (by omega)];exact q) (.inl (Ue (by omega)))
theorem gh:gK X (QX .Mod) (rI (λ_ j=>0<j) λi j=>.int (i%j)):=GS λi j _ _ _ _ _ hc q=>by
 have h1:(0:Int)<j:=hc;exact mod_int' (by omega) (by rw[Int.fmod_eq_emod_of_nonneg i (by omega)];exact q)
theorem Fl:gK X (QX .Pow) (rI Kv λi j=>.int (i^j.toNat)):=GS λ_ _ _ _ _ _ _ hc q=>pow_int_small hc.1 hc.2.1 hc.2.2 q
theorem Lz{f:Value->Sem Value}{g:Int->Int}
  (rule:∀(i:Int) (t:W5) (s:Nf) (Q:Value->Nf->Prop) (E:Value->Nf->Prop),Q (.int (g i) s.toks) { s with toks:=s.toks+1}->Nv (NJ X.prog X.w) X.A (f (.int i t)) Q E s) :
  Ju X f (rU λi=>.int (g i)):=by
 intro pins s σ H x v Q I rx h;obtain⟨i,rfl,q⟩:=h;obtain⟨t,rfl⟩:=rx;exact rule i t s _ _ ⟨.int (g i),H,I.tok _,⟨_,Z⟩,q⟩
theorem gO:Ju X (unaryOp .USub) (rU λi=>.int (-i)):=Lz λ_ _ _ _ _ q=>neg_int q
end
def Hr:V->V->Bool
 | .non,.non=>true | .non,.int _=>true | .int _,.non=>true | .non,.bl _=>true | .bl _,.non=>true | .non,.str _=>true | .str _,.non=>true
 | .int _,.int _=>true | .bl _,.bl _=>true | .str _,.str _=>true | .byt _,.byt _=>true
 | .int _,.str _=>true | .str _,.int _=>true | .bl _,.str _=>true | .str _,.bl _=>true
 |_,_=>false
def L4:R2:=λx y H Q=>Hr x y=true/\Q (.bl (decide (x=y))) H
def LV:R2:=λx y H Q=>Hr x y=true/\Q (.bl (!decide (x=y))) H
theorem vk:decide (V.int i=V.int j)=(i==j):=by
 rw[O0];simp
theorem A2:decide (V.bl i=V.bl j)=(i==j):=by
 rw[O0];simp
theorem vj:decide (V.str i=V.str j)=(i==j):=by
 rw[O0];simp
theorem vm:decide (V.byt i=V.byt j)=(i.toList==j.toList):=by
 rw[O0]
 cases i
 cases j
 simp
section
variable {X:Cx}{a b c:N9}{ta tb tc:TE}{pos:Q4}
theorem bT{pins:List (Addr×O8)}{σ:St}{H:Hp}{s:Nf}{Q:VK}{k k':Bool}(I:Inv X pins σ H s)(q:Q (.bl k) H)(e:k=k'):EP X pins σ Q (.bool k') s:=by
 subst e;exact⟨.bl k,H,I,Z,q⟩
theorem gA:gK X (Oz .Eq) L4:=by
 intro pins s σ H x y v u Q I rx ry h;obtain⟨hs,q⟩:=h
 cases x with
 |non=>
  cases rx
  cases y with
  |non=>cases ry;exact PySem.EqNone.eq_none_none (bT I q (by simp))
  |bl j=>cases ry;exact PySem.EqNone.eq_none_bool (bT I q (by simp))
  |int j=>obtain⟨t',rfl⟩:=ry;exact PySem.EqNone.eq_none_int (bT I q (by simp))
  |str j=>obtain⟨t',rfl⟩:=ry;exact PySem.EqNone.eq_none_str (bT I q (by simp))
  |_=>exact absurd (show false=true from hs) Ny
 |bl i=>
  cases rx
  cases y with
  |non=>cases ry;exact PySem.EqNone.eq_bool_none (bT I q (by simp))
  |bl j=>cases ry;exact eq_bool (bT I q A2)
  |str j=>obtain⟨t',rfl⟩:=ry;exact PySem.EqMixed.eq_bool_str (bT I q (by simp))
  |_=>exact absurd (show false=true from hs) Ny
 |int i=>
  obtain⟨t,rfl⟩:=rx
  cases y with
  |non=>cases ry;exact PySem.EqNone.eq_int_none (bT I q (by simp))
  |int j=>obtain⟨t',rfl⟩:=ry;exact eq_int (bT I q vk)
  |str j=>obtain⟨t',rfl⟩:=ry;exact PySem.EqMixed.eq_int_str (bT I q (by simp))
  |_=>exact absurd (show false=true from hs) Ny
 |str i=>
  obtain⟨t,rfl⟩:=rx
  cases y with
  |non=>cases ry;exact PySem.EqNone.eq_str_none (bT I q (by simp))
  |bl j=>cases ry;exact PySem.EqMixed.eq_str_bool (bT I q (by simp))
  |int j=>obtain⟨t',rfl⟩:=ry;exact PySem.EqMixed.eq_str_int (bT I q (by simp))
  |str j=>obtain⟨t',rfl⟩:=ry;exact eq_str (bT I q vj)
  |_=>exact absurd (show false=true from hs) Ny
 |byt i=>
  obtain⟨t,rfl⟩:=rx
  cases y with
  |byt j=>obtain⟨t',rfl⟩:=ry;exact PySem.W.eq_bytes (bT I q vm)
  |_=>exact absurd (show false=true from hs) Ny
 |_=>cases y<;>exact absurd (show false=true from hs) Ny
theorem nI:gK X (Oz .NotEq) LV:=by
 intro pins s σ H x y v u Q I rx ry h;obtain⟨hs,q⟩:=h
 cases x with
 |non=>
  cases rx
  cases y with
  |non=>cases ry;exact PySem.EqNone.ne_none_none (bT I q (by simp))
  |bl j=>cases ry;exact PySem.EqNone.ne_none_bool (bT I q (by simp))
  |int j=>obtain⟨t',rfl⟩:=ry;exact PySem.EqNone.ne_none_int (bT I q (by simp))
  |str j=>obtain⟨t',rfl⟩:=ry;exact PySem.EqNone.ne_none_str (bT I q (by simp))
  |_=>exact absurd (show false=true from hs) Ny
 |bl i=>
  cases rx
  cases y with
  |non=>cases ry;exact PySem.EqNone.ne_bool_none (bT I q (by simp))
  |bl j=>cases ry;exact ne_bool (bT I q (congrArg not A2))
  |str j=>obtain⟨t',rfl⟩:=ry;exact PySem.EqMixed.ne_bool_str (bT I q (by simp))
  |_=>exact absurd (show false=true from hs) Ny
 |int i=>
  obtain⟨t,rfl⟩:=rx
  cases y with
  |non=>cases ry;exact PySem.EqNone.ne_int_none (bT I q (by simp))
  |int j=>obtain⟨t',rfl⟩:=ry;exact ne_int (bT I q (congrArg not vk))
  |str j=>obtain⟨t',rfl⟩:=ry;exact PySem.EqMixed.ne_int_str (bT I q (by simp))
  |_=>exact absurd (show false=true from hs) Ny
 |str i=>
  obtain⟨t,rfl⟩:=rx
  cases y with
  |non=>cases ry;exact PySem.EqNone.ne_str_none (bT I q (by simp))
  |bl j=>cases ry;exact PySem.EqMixed.ne_str_bool (bT I q (by simp))
  |int j=>obtain⟨t',rfl⟩:=ry;exact PySem.EqMixed.ne_str_int (bT I q (by simp))
  |str j=>obtain⟨t',rfl⟩:=ry;exact ne_str (bT I q (congrArg not vj))
  |_=>exact absurd (show false=true from hs) Ny
 |byt i=>
  obtain⟨t,rfl⟩:=rx
  cases y with
  |byt j=>obtain⟨t',rfl⟩:=ry;exact PySem.W.ne_bytes (bT I q (congrArg not vm))
  |_=>exact absurd (show false=true from hs) Ny
 |_=>cases y<;>exact absurd (show false=true from hs) Ny
theorem lS:gK X (Oz .Lt) (Du λi j=>.bl (decide (i<j))):=Cy λ_ _ _ _ _ _ _ q=>lt_int q
theorem gZ:gK X (Oz .LtE) (Du λi j=>.bl (decide (i≤j))):=Cy λ_ _ _ _ _ _ _ q=>le_int q
theorem eV:gK X (Oz .Gt) (Du λi j=>.bl (decide (j<i))):=Cy λ_ _ _ _ _ _ _ q=>gt_int q
theorem Ij:gK X (Oz .GtE) (Du λi j=>.bl (decide (j≤i))):=Cy λ_ _ _ _ _ _ _ q=>ge_int q
theorem uS:gK X (Oz .IsNot) (λx y H Q=>y=.non/\Q (.bl (!decide (x=.non))) H):=by
 intro pins s σ H x y v u Q I rx ry h;obtain⟨rfl,q⟩:=h
 cases ry
 refine isnot_none_gen (bT I q ?_)
 cases x<;>first
  | (cases rx;rfl)
  | (obtain⟨t,rfl⟩:=rx;rfl)
def K7:HO->Bool
 | .lst _=>true
 | .ins _ _ _=>true
 |_=>false
theorem aT(b:N9){op:WG}(h:op≠.In:=by decide)(h2:op≠.NotIn:=by decide):Rz op b=false:=by
 have e1:(op==WG.In)=false:=by cases op<;>first|rfl|exact absurd Z h
 have e2:(op==WG.NotIn)=false:=by cases op<;>first|rfl|exact absurd Z h2
 cases b<;>simp[Rz,e1,e2]
theorem Co(ho:gK X (Oz op) r)(ha:PE X a ta)(hb:PE X b tb)(hm:Rz op b=false):PE X (.Compare a [op] [b] pos) (By r ta tb):=by
 intro pins s σ H Q I h;exact wpAny_Compare1 (Gu ha hb I h λv u s2 x y H2 I2 rx ry q=>ho pins s2 σ H2 x y v u Q I2 rx ry q) hm
def uy(t:TE):TT:=λσ H Q=>t σ H λx H'=>∃k,x=.bl k/\Q k H'
theorem B6(ho:gK X (Oz op) r)(ha:PE X a ta)(hb:PE X b tb)(hm:Rz op b=false):PT X (.Compare a [op] [b] pos) (uy (By r ta tb)):=by
 intro pins s σ H Q I h;refine wpAny_isTrue_Compare1 (cF (ha pins s σ H _ I h) λv s1 ⟨x,H1,I1,r1,q1⟩=>cF (hb pins s1 σ H1 _ I1 q1) λu s2 ⟨y,H2,I2,r2,q2⟩=>
  cF (ho pins s2 σ H2 x y v u _ I2 r1 r2 q2) λc s3 ⟨z,H3,I3,r3,k,e,q3⟩=>?_) hm
 subst e
 cases r3
 exact Pg ⟨H3,I3,q3⟩
def oB(r r':R2)(ta tb tc:TE):TE:=λσ H Q=>ta σ H λx H1=>tb σ H1 λy H2=>r x y H2 λz H3=>∃k,z=.bl k∧
 (if k=true then tc σ H3 λw' H4=>r' y w' H4 Q else Q (.bl false) H3)
theorem Aj{op op':WG}{r r':R2}(ho:gK X (Oz op) r)(ho':gK X (Oz op') r')(ha:PE X a ta)(hb:PE X b tb)(hc:PE X c tc)
  (hm:Wb [op,op'] [b,c]=false:=by with_unfolding_all rfl):PE X (.Compare a [op,op'] [b,c] pos) (oB r r' ta tb tc):=by
 intro pins s σ H Q I h;refine Compare_chain (cF (ha pins s σ H _ I h) λv s1 ⟨x,H1,I1,r1,q1⟩=>chain_link (cF (hb pins s1 σ H1 _ I1 q1) λu s2 ⟨y,H2,I2,r2,q2⟩=>
  cF (ho pins s2 σ H2 x y v u _ I2 r1 r2 q2) λd s3 ⟨z,H3,I3,r3,k,e,q3⟩=>?_)) hm
 subst e
 cases r3
 refine Pg ?_
 cases k with
 |false=>exact ite_ff ⟨.bl false,H3,I3,Z,q3⟩
 |true=>exact ite_tt (chain_last (cF (hc pins s3 σ H3 _ I3 q3) λw' s4 ⟨z',H4,I4,r4,q4⟩=>ho' pins s4 σ H4 y z' u w' Q I4 r2 r4 q4))
theorem zT{op op':WG}{r r':R2}(ho:gK X (Oz op) r)(ho':gK X (Oz op') r')(ha:PE X a ta)(hb:PE X b tb)(hc:PE X c tc)
  (hm:Wb [op,op'] [b,c]=false:=by with_unfolding_all rfl):PT X (.Compare a [op,op'] [b,c] pos) (uy (oB r r' ta tb tc)):=by
 intro pins s σ H Q I h;refine isTrue_chain (cF (ha pins s σ H _ I h) λv s1 ⟨x,H1,I1,r1,q1⟩=>test_link (cF (hb pins s1 σ H1 _ I1 q1) λu s2 ⟨y,H2,I2,r2,q2⟩=>
  cF (ho pins s2 σ H2 x y v u _ I2 r1 r2 q2) λd s3 ⟨z,H3,I3,r3,k,e,q3⟩=>?_)) hm
 subst e
 cases r3
 refine Pg ?_
 cases k with
 |false=>
  obtain⟨k',e',q'⟩:=q3
  cases e'
  exact ite_ff ⟨H3,I3,q'⟩
 |true=>
  refine ite_tt (test_last (cF (hc pins s3 σ H3 _ I3 q3) λw' s4 ⟨z',H4,I4,r4,q4⟩=>cF (ho' pins s4 σ H4 y z' u w' _ I4 r2 r4 q4) λd' s5 ⟨z2,H5,I5,r5,k2,e2,q5⟩=>?_));subst e2
  cases r5
  exact Pg ⟨H5,I5,q5⟩
def Mi(K:M6)(x:V)(H:Hp)(k:Bool):Prop:=
 match x with
 | .non=>k=false
 | .bl b=>k=b
 | .int i=>k=(i != 0)
 | .str y=>y.length≤sizeLine/\k=((y.length:Int) != 0)
 | .byt y=>y.size≤sizeLine/\k=((y.size:Int) != 0)
 | .ref p=>(∃xs,aV K H p xs/\k=!xs.isEmpty)∨(∃xs,bC K H p xs/\k=!xs.isEmpty)∨∃kvs,H p=some (.dK kvs)/\k=!kvs.isEmpty
 |_=>False
theorem pE:(sizeLine:Nat)<2^63:=by rw[Tf];decide
def IQ(b:N9):Prop:=∀o i,UG b false o i=Xm [o,i] (Ss o i)
theorem eS(r:bE [x] us):∃u,us=[u]/\bv x u:=by
 cases r with
 |cons r1 r2=>cases r2;exact⟨_,Z,r1⟩
theorem ux(r:bE [x,y] us):∃u w',us=[u,w']/\bv x u/\bv y w':=by
 cases r with
 |cons r1 r2=>
  cases r2 with
  |cons r3 r4=>cases r4;exact⟨_,_,Z,r1,r3⟩
theorem mI:c6 X (.builtin "abs") (λxs H Q=>∃i,xs=[.int i]/\Q (.int (if i<0 then -i else i)) H):=by
 intro pins s σ H xs us Q I r h;obtain⟨i,rfl,q⟩:=h;obtain⟨u,rfl,t,rfl⟩:=eS r;exact call_abs_int λu tk=>⟨.int (if i<0 then -i else i),H,I.tok _,⟨_,Z⟩,q⟩
theorem wU(hc:X.calm=true):c6 X (.builtin "min") (λxs H Q=>∃i j,xs=[.int i,.int j]/\Q (.int (if j<i then j else i)) H):=by
 intro pins s σ H xs us Q I r h;obtain⟨i,j,rfl,q⟩:=h;obtain⟨u,w',rfl,⟨t,rfl⟩,⟨t',rfl⟩⟩:=ux r;refine min_two_ints (I.ok.hd hc) λh' tk k=>⟨_,H,I.kept k,?_,q⟩
 by_cases hj:j<i
 ·rw[if_pos hj,if_pos hj];exact⟨_,Z⟩
 ·rw[if_neg hj,if_neg hj];exact⟨_,Z⟩
theorem wX:c6 X (.type "int") (λxs H Q=>(∃i,xs=[.int i]/\Q (.int i) H)∨∃k,xs=[.bl k]/\Q (.int (if k then 1 else 0)) H):=by
 intro pins s σ H xs us Q I r h;rcases h with⟨i,rfl,q⟩ | ⟨k,rfl,q⟩
 ·obtain⟨u,rfl,t,rfl⟩:=eS r;exact call_int_int ⟨.int i,H,I,⟨_,Z⟩,q⟩
 ·obtain⟨u,rfl,r1⟩:=eS r
  cases r1
  exact call_int_bool ⟨.int (if k then 1 else 0),H,I.tok _,⟨_,Z⟩,q⟩
def Mv(K:M6)(x:V)(H:Hp)(n:Nat):Prop:=
 match x with
 | .str y=>y.length≤sizeLine/\n=y.length
 | .byt y=>y.size≤sizeLine/\n=y.size
 | .ref p=>(∃xs,aV K H p xs/\n=xs.length)∨∃xs,bC K H p xs/\n=xs.length
 |_=>False
end
end L2
namespace L2
open PySem PySem.Spec PyProof.Rows
structure GF(h:Np)(x dx C:Addr)(mA:NV->Option Value):Prop where
 obj:h.get? x=some (Ur C dx)
 ns:h.Ns1 dx mA
 ne:dx≠x
theorem wz{h:Np}(n:h.Ns1 dx mA):∃od,h.get? dx=some od/\∀name,UH name od=some (mA name):=by
 obtain⟨o,es,ep,ho,hd,hk,_,hm⟩:=n;refine⟨o,ho,λname=>?_⟩;have e:=hm name;unfold nsFind findBy at e;rw[←Array.find?_toList] at e;unfold UH;rw[hd];dsimp only
 split
 ·rename_i y q;rw[q] at e;exact congrArg some e
 ·rename_i q;rw[q] at e;have a:es.toList.any (·.refKey)=false:=by
   rw[Tg];intro y hy;obtain⟨z,t,hkey⟩:=hk y (Array.mem_toList_iff.mp hy);simp[Wc.refKey,hkey]
  have a':¬es.toList.any (·.refKey)=true:=by rw[a];exact Ny
  rw[if_neg a'];exact congrArg some e
theorem GF.look(I:GF h x dx C mA):∃od,PySem.W.InstAt h x (Ur C dx) C (some od)/\∀name,UH name od=some (mA name):=
 let ⟨od,ho,hl⟩:=wz I.ns
 ⟨od,⟨I.obj,Z,Z,ho⟩,hl⟩
section
variable {prog:NW}{w:Ol}{A:N8}{E:Value->Nf->Prop}{s:Nf}{K:M6}{x dx C f:Addr}{mA:NV->Option Value}{name:NV}{v:Value}
end
def EY(f:NV)(v:V):List (NV×V)->List (NV×V)
 | []=>[(f,v)]
 | (g,x)::r=>if g=f then(g,v)::r else(g,x)::EY f v r
section
variable {P:NW}{w:Ol}{H H':Hp}{h h':Np}{a C dx:Addr}{fs fs':List (NV×V)}
theorem CM(hok:iR P w H h)(e:H a=some (.ins C dx fs)):∃mA,GF h a dx C mA/\(∀f,ng (fs.lookup f) (mA f))/\PySem.Within mA (fs.map (·.1))/\fs.length≤1000/\H dx=some (.own a):=by
 obtain⟨d,z,ne,ob,mA,n,r,q⟩:=(show bW P w H h a (.ins C dx fs) from hok a _ e);exact⟨mA,⟨ob,n,ne⟩,r,q,z,d⟩
end
structure GI(K:M6)(C:Addr):Prop where
 pg:Wd K C NV.empty=true
 hd:Vy K C=true
 po:PySem.W.plainOver K C=true
 sa:Pi K (.ref C) "__setattr__"=some (some (.builtin "object.__setattr__"))
theorem GI.get{K:M6}{C:Addr}(c:GI K C)(f:NV):Wd K C f=true:=c.pg
def kg(K:M6)(C:Addr)(f:NV):Prop:=Pi K (.ref C) f=some none
structure MH(K:M6)(C:Addr)(f:NV)(v:V)(u:Value):Prop where
 at_:Pi K (.ref C) f=some (some u)
 rel:bv v u
 get:Ti K u "__get__"=some none
 cp:PySem.W.copiedNames.contains f=false
structure Mu(K:M6)(C:Addr)(m:NV)(f:Addr):Prop where
 at_:Pi K (.ref C) m=some (some (.ref f))
 fn:PySem.W.isFn K (.ref f)=true
 kp:PQ K (.ref f)=true
section
variable {X:Cx}{pins:List (Addr×O8)}{σ:St}{H:Hp}{s:Nf}{a C dx:Addr}{fs:List (NV×V)}{f:NV}{v:V}{A:N8}{E:Value->Nf->Prop}
end
def LK(K:M6)(ta:TE)(f:NV):TE:=λσ H Q=>ta σ H λx H1=>∃a C dx fs v,x=.ref a/\H1 a=some (.ins C dx fs)/\GI K C/\kg K C f/\fs.lookup f=some v/\Q v H1
def LN(K:M6)(ta:TE)(f:NV):TE:=λσ H Q=>ta σ H λx H1=>∃a C dx fs v u,x=.ref a/\H1 a=some (.ins C dx fs)/\GI K C/\MH K C f v u/\fs.lookup f=none/\Q v H1
def LQ(K:M6)(ta tv:TE)(f:NV):TS:=λD σ H=>tv σ H λy H1=>ta σ H1 λx H2=>∃a C dx fs,x=.ref a/\H2 a=some (.ins C dx fs)/\GI K C/\kg K C f/\fs.length<1000∧
 D.nx σ (aE H2 a (.ins C dx (EY f y fs)))
def MA(X:Cx)(op:WH)(rd:V->V->Hp->VK->Prop):Prop:=
 ∀(pins:List (Addr×O8)) (s:Nf) (σ:St) (H:Hp) (x y:V) (u v:Value) (Q:VK),Inv X pins σ H s->bv x u->bv y v->rd x y H Q->Nv (NJ X.prog X.w) X.A (Xf op u v) (EP X pins σ Q) X.xe s
def Jk(K:M6)(ta tv:TE)(rd:V->V->Hp->VK->Prop)(f:NV):TS:=λD σ H=>ta σ H λx H1=>∃a C dx fs v,x=.ref a/\H1 a=some (.ins C dx fs)/\GI K C/\kg K C f/\fs.lookup f=some v∧
 tv σ H1 λy H2=>rd v y H2 λz H3=>∃dx' fs',H3 a=some (.ins C dx' fs')/\fs'.length<1000/\D.nx σ (aE H3 a (.ins C dx' (EY f z fs')))
section
variable {X:Cx}{o e value:N9}{f:NV}{pos pos' tpos:Q4}{ta tv:TE}
def L5:V->V->Hp->VK->Prop:=λx y H Q=>∃i j,x=.int i/\y=.int j/\Q (.int (i+j)) H
def LS:V->V->Hp->VK->Prop:=λx y H Q=>∃i j,x=.int i/\y=.int j/\Q (.int (i-j)) H
end
section
variable {X:Cx}{pins:List (Addr×O8)}{σ:St}{H:Hp}{s:Nf}{A:N8}{E:Value->Nf->Prop}{Q:Value->Nf->Prop}{c:Value}{b:Bool}
inductive kd(K:M6)(H:Hp):V->Value->Prop where
 |non:kd K H .non (.type "NoneType")
 |bl (x:Bool):kd K H (.bl x) (.type "bool")
 |int (i:Int):kd K H (.int i) (.type "int")
 |str (x:NV):kd K H (.str x) (.type "str")
 |flt (x:UInt64):kd K H (.flt x) (.type "float")
 |lst {a:Addr} {xs:List V} (e:H a=some (.lst xs)):kd K H (.ref a) (.type "list")
 |frz {a:Addr} {o:O8} {xs:List V} (e:H a=some (.frz o (.lst xs))):kd K H (.ref a) (.type "list")
 |tup {a:Addr} {xs:List V} (e:H a=some (.tup xs)):kd K H (.ref a) (.type "tuple")
 |dK {a:Addr} {kvs:List (dz×V)} (e:H a=some (.dK kvs)):kd K H (.ref a) (.type "dict")
 |dT {a:Addr} {kvs:List (List dz×V)} (e:H a=some (.dT kvs)):kd K H (.ref a) (.type "dict")
 |ins {a C dx:Addr} {fs:List (NV×V)} (e:H a=some (.ins C dx fs)) (cl:GI K C) (ha:Pi K (.ref C) "__class__"=some (some (.builtin "object.__class__")))
   (hn:Ti K (.builtin "object.__class__") "__get__"=some (some (.builtin "getset_descriptor.__get__"))) (htk:Wy K (.builtin "object.__class__")=some true)
   (hm:PySem.W.mroIn K C (.type "object")=some true):kd K H (.ref a) (.ref C)
theorem wF(I:Inv X pins σ H s)(rx:bv x u)(ty:kd X.K H x t)(e:Re X.K t c=some b)(h:∀tk,Q (.bool b) { s with toks:=tk}):
  Nv (NJ X.prog X.w) A (call (.builtin "isinstance") [u,c]) Q E s:=by
 cases ty with
 |non=>cases(show u=PH from rx);exact OU PySem.W.kitx_none I.kIn QQ e (λz=>nomatch z) h
 |bl y=>cases(show u=QM y from rx);exact OU PySem.W.kitx_bool I.kIn QQ e (λz=>nomatch z) h
 |int i=>obtain⟨t,q⟩:=(show ∃t,u=PY i t from rx);cases q;exact OU PySem.W.kitx_int I.kIn QQ e (λz=>nomatch z) h
 |str y=>obtain⟨t,q⟩:=(show ∃t,u=TF y t from rx);cases q;exact OU PySem.W.kitx_str I.kIn QQ e (λz=>nomatch z) h
 |flt y=>obtain⟨t,q⟩:=(show ∃t,u=Value.float y t from rx);cases q;exact OU PySem.W.kitx_float I.kIn QQ e (λz=>nomatch z) h
 | @lst a xs ea=>
  cases(show u=Oy a from rx)
  obtain⟨_,_,n,_,h1⟩:=(show bW X.prog X.w H s.heap a (.lst xs) from I.hok a _ ea);exact OU Tj I.kIn ⟨_,h1,Z⟩ e (λz=>nomatch z) h
 | @frz a ob xs ea=>
  cases(show u=Oy a from rx)
  obtain⟨_,_,_,n,_,h1⟩:=(show bW X.prog X.w H s.heap a (.frz ob (.lst xs)) from I.hok a _ ea);exact OU Tj I.kIn ⟨_,h1,Z⟩ e (λz=>nomatch z) h
 | @tup a xs ea=>
  cases(show u=Oy a from rx)
  obtain⟨_,_,_,p⟩:=(show bW X.prog X.w H s.heap a (.tup xs) from I.hok a _ ea);obtain⟨o,h1,h2,_⟩:=p;exact OU Vh I.kIn ⟨o,h1,h2⟩ e (λz=>nomatch z) h
 | @dK a kvs ea=>
  cases(show u=Oy a from rx)
  obtain⟨_,_,vs,_,p⟩:=(show bW X.prog X.w H s.heap a (.dK kvs) from I.hok a _ ea);obtain⟨o,es,ep,h1,h2,_⟩:=p;exact OU Vz I.kIn ⟨o,h1,h2.1⟩ e (λz=>nomatch z) h
 | @dT a kvs ea=>
  cases(show u=Oy a from rx)
  obtain⟨_,_,xs,_,o,es,ep,h1,h2,_⟩:=(show bW X.prog X.w H s.heap a (.dT kvs) from I.hok a _ ea);exact OU Vz I.kIn ⟨o,h1,h2.1⟩ e (λz=>nomatch z) h
 | @ins a C dx fs ea cl ha hn htk hm=>
  cases(show u=Oy a from rx)
  obtain⟨mA,O,_⟩:=CM I.hok ea;obtain⟨od,J,_⟩:=O.look;exact OU (PySem.W.kitx_own (cl.get _) cl.hd ha hn htk hm) I.kIn J e (λz=>nomatch z) h
end
end L2
namespace L2
open PySem PySem.Spec PyProof.Rows
structure ft(k:Nat)(A:N8):Prop where
 hd:A.handled=none
 dp:A.depth+3*k+5<recursionLimit
 un:A.units+16*k+200<cLine
 gd:A.guards=some []
theorem ft.mono(r:ft k A)(h:j≤k):ft j A:=⟨r.hd,by have:=r.dp;omega,by have:=r.un;omega,r.gd⟩
theorem ft.deeper(r:ft (k+1) A)(env:W6):ft k (A.deeper env):=
 ⟨r.hd,by have:=r.dp;show A.depth+1+3*k+5<_;omega,by have:=r.un;show A.units+3+16*k+200<_;omega,r.gd⟩
theorem ft.depth(r:ft k A):A.depth<recursionLimit:=by have:=r.dp;omega
theorem ft.units(r:ft k A):A.units+64<cLine:=by have:=r.un;omega
theorem ft.units0(r:ft k A):A.units<cLine:=by have:=r.un;omega
def Hj:TA:=λ_ H Q=>Q [] H
def Do(ta:TE)(tr:TA):TA:=λσ H Q=>ta σ H λx H1=>tr σ H1 λxs H2=>Q (x::xs) H2
section
variable {X:Cx}{e:N9}{es:List N9}{te:TE}{t:TA}{pos:Q4}
theorem Fk:PA X [] Hj:=λ_ _ _ _ H Q I h=>Calls.spliced_nil ⟨[],H,I,.nil,h⟩
theorem Cs(ha:PE X e te)(hr:PA X es t)(hs:Nw (e::es) X.env=(false,eval e X.env)::Nw es X.env:=by rfl):PA X (e::es) (Do te t):=by
 intro pos pins s σ H Q I h;rw[hs];show Nv _ _ (spliced ((false,eval e X.env)::Rc pos (Nw es X.env))) _ _ s;refine Calls.spliced_cons (cF (ha pins s σ H _ I h) λu s1 ⟨x,H1,I1,r1,q1⟩=>?_);exact cF (hr pos pins s1 σ H1 _ I1 q1) λus s2 ⟨xs,H2,I2,r2,q2⟩=>⟨x::xs,H2,I2,.cons r1 r2,q2⟩
def He(t:TA):TE:=λσ H Q=>t σ H λxs H1=>xs.length≤sizeLine/\∀p,H1 p=none->Q (.ref p) (aE H1 p (.tup xs))
def Hk(t:TA):TE:=λσ H Q=>t σ H λxs H1=>xs.length≤sizeLine/\∀p,H1 p=none->Q (.ref p) (aE H1 p (.lst xs))
theorem Fc{x1}(h:PA X es t):PE X (.Tuple es x1 pos) (He t):=by
 intro pins s σ H Q I hq;refine wpAny_Tuple_spliced (cF (h pos pins s σ H _ I hq) λus s1 ⟨xs,H1,I1,r,z,q⟩=>⟨by rw[←r.length];exact z,?_⟩);have hf:H1 s1.heap.objs.size=none:=I1.hok.fresh (Nb _);refine⟨.ref s1.heap.objs.size,aE H1 s1.heap.objs.size (.tup xs),I1.laid (t':=s1.toks) (λb u e=>Nc _ e) (Nb _) ?_,Z,q _ hf⟩;exact⟨z,us,r,⟨_,Nr _ Z,Z,_,Z⟩⟩
theorem Fh(h:PA X es t):PE X (.List es pos) (Hk t):=by
 intro pins s σ H Q I hq;refine wpAny_List_spliced (cF (h pos pins s σ H _ I hq) λus s1 ⟨xs,H1,I1,r,z,q⟩=>⟨by rw[←r.length];exact z,?_⟩);have hf:H1 s1.heap.objs.size=none:=I1.hok.fresh (Nb _);refine⟨.ref s1.heap.objs.size,aE H1 s1.heap.objs.size (.lst xs),I1.laid (t':=s1.toks) (λb u e=>Nc _ e) (Nb _) ?_,Z,q _ hf⟩;exact⟨z,us,0,r,Nr _ Z⟩
end
abbrev Sp:=List V->Hp->VK->XK->Prop
abbrev sg:=List W6->Hp->Nf->XK->Value->Nf->Prop
structure Bj(P:NW)(w:Ol)(K:M6)(mg:NV->Option Value)(base:Np)(A:N8)(outer:List W6)(s:Nf)(H:Hp):Prop where
 frames:A.frames=some outer
 mod:Mod K mg base
 bs:∀b o,base.get? b=some o->s.heap.get? b=some o/\H b=none
 bsz:base.objs.size≤s.heap.objs.size
 funs:s.heap.FunFrames base outer
 frf:∀b∈vh outer,H b=none
 hok:iR P w H s.heap
 bare:Sd s.gens
def CE(outer:List W6)(P:NW)(w:Ol)(H:Hp)(s:Nf)(Q:VK)(u:Value)(s':Nf):Prop:=
 ∃v H',s'.os=s.os/\Sd s'.gens/\Un (vh outer) [] H H' s.heap s'.heap/\iR P w H' s'.heap/\bv v u/\Q v H'
def CR(CX:sg)(outer:List W6)(P:NW)(w:Ol)(H:Hp)(s:Nf)(Q:VK)(E:XK)(r:We)(s':Nf):Prop:=
 match r with
 | .ok (.ret u)=>CE outer P w H s Q u s'
 | .ok _=>False
 | .error e=>CX outer H s E e s'
structure bX(P:NW)(w:Ol)(K:M6)(mg:NV->Option Value)(base:Np)(CX:sg)(k:Nat)(f:Addr)(fd:Nl)(ps:List NV)(sp:Sp):Prop where
 len:∀vs H Q E,sp vs H Q E->vs.length=ps.length
 run:∀(A:N8) (outer:List W6) (s:Nf) (H:Hp) (args:Args) (us:List Value) (vs:List V) (Q:VK) (E:XK),ft k A->Bj P w K mg base A outer s H->Uf s fd args (ps.zip us)->bE vs us->sp vs H Q E→
  RS (NJ P w) A (.call (.ref f) args) (CR CX outer P w H s Q E) s
section
variable {X:Cx}{pins:List (Addr×O8)}{σ:St}{H:Hp}{s s':Nf}
theorem Inv.env0(I:Inv X pins σ H s):Bj X.prog X.w X.K X.mg X.base X.A X.stack s H:=
 ⟨I.ok.frames,I.ok.mod,I.bs,NH I.ok.bsz I.sz,I.stack,I.stkFree,I.hok,I.bare⟩
theorem Inv.after(I:Inv X pins σ H s)(h:CE X.stack X.prog X.w H s Q u s'):EP X pins σ Q u s':=by
 obtain⟨v,H',os,bare,un,hok,r,q⟩:=h;obtain⟨hh,g,d,t,os'⟩:=s';obtain rfl:os'=s.os:=os;exact⟨v,H',I.call (h':=hh) (g':=g) (d':=d) (t':=t) (ch:=[]) un hok bare (λb z=>absurd z (by simp)),r,q⟩
end
def xT(sp:Sp)(dvs:List V)(E:XK)(t:TA):TE:=λσ H Q=>t σ H λvs H1=>sp (vs++dvs) H1 Q E
def KG(C:Addr)(m:NV)(sp:Sp)(dvs:List V)(E:XK)(ta:TE)(t:TA):TE:=λσ H Q=>ta σ H λx H1=>∃a dx fs,x=.ref a/\H1 a=some (.ins C dx fs)/\fs.lookup m=none∧
 t σ H1 λvs H2=>sp (x::(vs++dvs)) H2 Q E
def KH(C:Addr)(sp:Sp)(dvs:List V)(E:XK)(t:TA):TE:=λσ H Q=>t σ H λvs H1=>∀x dx,H1 x=none->H1 dx=none->dx≠x→
 sp (.ref x::(vs++dvs)) (aE (aE H1 dx (.own x)) x (.ins C dx [])) (λv H2=>v=.non/\Q (.ref x) H2) E
def ba(K:M6)(fd:Nl)(ps:List NV)(ds:List Value):Prop:=
 ∀(s:Nf) (us:List Value),K.In s.heap->(us++ds).length=ps.length->Uf s fd ⟨us,[]⟩ (ps.zip (us++ds))
theorem ba.all{K:M6}{fd:Nl}{ps:List NV}(h:∀us:List Value,us.length=ps.length->WL fd ⟨us,[]⟩=Pq (ps.zip us)):ba K fd ps []:=λs us _ hl=>by
 rw[O1] at hl ⊢;exact .of_eq (h us hl)
def pU(CX:sg)(X:Cx)(E:XK):Prop:=∀(pins:List (Addr×O8)) (σ:St) (H:Hp) (s:Nf) (e:Value) (s':Nf),Inv X pins σ H s->CX X.stack H s E e s'->X.xe e s'
section
variable {X:Cx}{CX:sg}{k:Nat}{f C:Addr}{fd:Nl}{ps:List NV}{sp:Sp}{dvs:List V}{ds:List Value}{E:XK}{x m:NV}{p pos apos:Q4}{e o:N9}{es:List N9}{ta:TE}{t:TA}
theorem EM{pins:List (Addr×O8)}{σ:St}{H:Hp}{s:Nf}{Q:VK}{us:List Value}{vs:List V}(F:bX X.prog X.w X.K X.mg X.base CX k f fd ps sp)(hr:ft k X.A)(hb:ba X.K fd ps ds)(hd:bE dvs ds)(hx:pU CX X E)
  (I:Inv X pins σ H s) (r:bE vs us) (h:sp (vs++dvs) H Q E):Nv (NJ X.prog X.w) X.A (call (.ref f) us) (EP X pins σ Q) X.xe s:=by
 have r2:bE (vs++dvs) (us++ds):=r.append hd;have hl:(us++ds).length=ps.length:=by rw[←r2.length];exact F.len _ _ _ _ h
 refine wpAny_call (Su (F.run X.A X.stack s H ⟨us,[]⟩ (us++ds) (vs++dvs) Q E hr I.env0 (hb s us I.kIn hl) r2 h) λr s' hq=>?_)
 cases r with
 |error e=>exact hx pins σ H s e s' I hq
 |ok fl=>
  cases fl with
  |ret u=>exact I.after hq
  |next=>exact QP hq
  |brk=>exact QP hq
  |cont=>exact QP hq
theorem Cp(F:bX X.prog X.w X.K X.mg X.base CX k f fd ps sp)(hr:ft k X.A)(hg:Gl X x)(hm:X.mg x=some (.ref f))(hk:PQ X.K (.ref f)=true)(hb:ba X.K fd ps ds)(hd:bE dvs ds)(hx:pU CX X E)
  (ha:PA X (e::es) t) (hdb:(x==("__debug__" : NV))=false:=by decide) (he:Nw (e::es) X.env=(false,eval e X.env)::Nw es X.env:=by rfl) (hpl:(Rc pos (Nw es X.env)).any (·.1)=false:=by rfl) :
  PE X (.Call (.Name x p) (e::es) [] pos) (xT sp dvs E t):=by
 intro pins s σ H Q I h;refine SG (u9 I hg hm ?_ hdb);refine PySem.W.callWith_K (h₀:=X.base) I.ok.mod.kin hk (cF (ha pos pins s σ H _ I h) λus s1 ⟨vs,H1,I1,r,q⟩=>⟨I1.kIn,?_⟩) he hpl;exact EM F hr hb hd hx I1 r q
structure Mk(K:M6)(C f:Addr):Prop where
 makes:PySem.W.makesIn K C=true
 init:Pi K (.ref C) "__init__"=some (some (.ref f))
 fn:PySem.W.isFn K (.ref f)=true
 kp:PQ K (.ref C)=true
end
def PK(X:Cx)(kws:List Sv)(t:TA):Prop:=
 ∀(pos:Q4) (pins:List (Addr×O8)) (s:Nf) (σ:St) (H:Hp) (Q:List V->Hp->Prop),Inv X pins σ H s->t σ H Q->Nv (NJ X.prog X.w) X.A (evalAll ((VA pos (Tk kws X.env)).map (·.2))) (AP X pins σ Q) X.xe s
section
variable {X:Cx}{CX:sg}{k:Nat}{f C:Addr}{fd:Nl}{ps ks:List NV}{sp:Sp}{E:XK}{x m:NV}{p pos apos kpos:Q4}{e o:N9}{es:List N9}{kws:List Sv}{te ta:TE}{t tk:TA}{nm:Option NV}
structure Ko(K:M6)(fd:Nl)(ps ks:List NV)(g:List Value->List Value->List Value)(gV:List V->List V->List V):Prop where
 to:∀(s:Nf) (us ws:List Value),K.In s.heap->(g us ws).length=ps.length->Uf s fd ⟨us,ks.zip ws⟩ (ps.zip (g us ws))
 rel:∀{vs:List V} {us:List Value} {zs:List V} {ws:List Value},bE vs us->bE zs ws->bE (gV vs zs) (g us ws)
def JK(sp:Sp)(gV:List V->List V->List V)(E:XK)(t tk:TA):TE:=λσ H Q=>t σ H λvs H1=>tk σ H1 λzs H2=>sp (gV vs zs) H2 Q E
variable {g:List Value->List Value->List Value}{gV:List V->List V->List V}
end
structure aM(N P:List NV)(sc:Rt):Prop where
 kind:sc.kind=.function
 co:sc.isCoroutine=false
 gen:sc.isGenerator=false
 nd:N.Nodup
 pre:N.take P.length=P
 par:∀x∈P,sc.names.lookup x=some .local∨sc.names.lookup x=some .cell
 nofree:∀y∈sc.names,y.2≠.free
theorem nX{kindOf:NV->Option RA}{x:NV}:∀{binds:List (NV×Value)} {m:NV->Option Value},(∀v,(x,v)∉binds)->WM kindOf binds m x=m x
 | [],_,_=>rfl
 | (n,v)::r,m,h=>by
  unfold WM;rw[nX λw hw=>h w (No _ hw)]
  split
  ·have:x≠n:=by rintro rfl;exact h v Ng
   simp[this]
  ·rfl
theorem nZ{kindOf:NV->Option RA}{x:NV}:∀{binds:List (NV×Value)} {m:NV->Option Value},(∀v,(x,v)∉binds)->WN kindOf binds m x=m x
 | [],_,_=>rfl
 | (n,v)::r,m,h=>by
  unfold WN;rw[nZ λw hw=>h w (No _ hw)]
  split
  ·rfl
  ·have:x≠n:=by rintro rfl;exact h v Ng
   simp[this]
theorem nY{kindOf:NV->Option RA}{x:NV}{v:Value}:∀{P:List NV} {vs:List Value} {i:Nat} {m:NV->Option Value},P.Nodup->P[i]?=some x->vs[i]?=some v->kindOf x=some .local→
  WM kindOf (P.zip vs) m x=some v
 | [],_,_,_,_,h,_,_=>by simp at h
 |_::_,[],_,_,_,_,h,_=>by simp at h
 |p::P,w::vs,0,m,nd,h1,h2,hk=>by
  simp at h1 h2;subst h1;subst h2;show WM kindOf ((p,w)::P.zip vs) m p=_;unfold WM;rw[nX λv hv=>(Ot.mp nd).1 (Us hv).1,if_pos hk];simp
 |p::P,w::vs,i+1,m,nd,h1,h2,hk=>by
  show WM kindOf ((p,w)::P.zip vs) m x=_;unfold WM;exact nY (i:=i) (Ot.mp nd).2 (by simpa using h1) (by simpa using h2) hk
theorem n8{kindOf:NV->Option RA}{x:NV}{v:Value}:∀{P:List NV} {vs:List Value} {i:Nat} {m:NV->Option Value},P.Nodup->P[i]?=some x->vs[i]?=some v->kindOf x≠some .local→
  WN kindOf (P.zip vs) m x=some v
 | [],_,_,_,_,h,_,_=>by simp at h
 |_::_,[],_,_,_,_,h,_=>by simp at h
 |p::P,w::vs,0,m,nd,h1,h2,hk=>by
  simp at h1 h2;subst h1;subst h2;show WN kindOf ((p,w)::P.zip vs) m p=_;unfold WN;rw[nZ λv hv=>(Ot.mp nd).1 (Us hv).1,if_neg hk];simp
 |p::P,w::vs,i+1,m,nd,h1,h2,hk=>by
  show WN kindOf ((p,w)::P.zip vs) m x=_;unfold WN;exact n8 (i:=i) (Ot.mp nd).2 (by simpa using h1) (by simpa using h2) hk
def start(N:List NV)(vs:List V):St:=vs.map some++ND (N.length-vs.length) none
def b6(CX:sg)(P:NW)(w:Ol)(K:M6)(mg:NV->Option Value)(base:Np)(N:List NV)(qual:NV)(scope:Rt)(f:Addr)(cd:Value)(A:N8)(outer:List W6)(s:Nf)(H:Hp)(E:XK):Cx where
 prog:=P
 w:=w
 K:=K
 mg:=mg
 base:=base
 A:=A.deeper (UI qual scope s.heap.objs.size f cd)
 N:=N
 s₀:=s
 H₀:=H
 env:=UI qual scope s.heap.objs.size f cd
 outer:=outer
 stack:=UI qual scope s.heap.objs.size f cd::outer
 ex:=[]
 calm:=true
 fn:=λ_=>true
 pn:=[]
 xe:=λe s'=>Nv (NJ P w) (A.deeper (UI qual scope s.heap.objs.size f cd)) (leaving (UI qual scope s.heap.objs.size f cd) e) (λ_ s''=>CX outer H s E e s'') (λe' s''=>CX outer H s E e' s'') s'
theorem rV{sc:Rt}(h:sc.names.lookup x=some .cell):∃c,(Sy n sc.names []).lookup x=some c:=by
 have q:=Ug sc.names n [] (.inl h);exact Pj.mp q
theorem wG{CX:sg}{P:NW}{w:Ol}{K:M6}{mg:NV->Option Value}{base:Np}{N ps:List NV}{qual:NV}{scope:Rt}{f:Addr}{cd:Value}{A:N8}{outer:List W6}{s s1:Nf}{H:Hp}{E:XK}{us:List Value}{vs:List V}
  (S:aM N ps scope) (hd:A.handled=none) (e0:Bj P w K mg base A outer s H) (hl:vs.length=ps.length) (r:bE vs us)
  (x:InCallC s s.heap.objs.size (WM (UI qual scope s.heap.objs.size f cd).kindOf (ps.zip us) λ_=>none) (Sy (s.heap.objs.size+1) scope.names []) (WN (UI qual scope s.heap.objs.size f cd).kindOf (ps.zip us) λ_=>none) s1) :
  Inv (b6 CX P w K mg base N qual scope f cd A outer s H E) [] (start N vs) H s1:=by
 have hpl:ps.length≤N.length:=by have:=congrArg List.length S.pre;rw[OH] at this;omega
 obtain⟨h1,tk,rfl,hk⟩:=x.done;have noA:∀b:Addr,b∉(b6 CX P w K mg base N qual scope f cd A outer s H E).ex:=λb z=>absurd (show b∈([]:List Addr) from z) (by simp)
 refine⟨⟨e0.mod,S.kind,Z,Z,Nb _,λy z c h1 h2=>?_,λy hy=>?_,λy c _ h=>?_,λ_=>hd,N8.frames_deeper e0.frames,.inr ⟨Z,Z⟩,λb z=>absurd z (noA b),e0.bs,e0.bsz,λb _ _=>noA b,λb z=>absurd z (noA b),e0.funs,e0.frf⟩,
  rfl,e0.bare,Un.kept hk,⟨_,x.toInCall.ns,λi y v h1 h2 h3=>?_⟩,λy c h=>⟨_,x.cell y c h⟩,e0.hok.fresh (Nb _),λy c h=>?_,λp hp=>absurd (show p∈([]:List (Addr×O8)) from hp) (by simp),e0.hok.kept hk,?_⟩
 ·exact name_of_addr x.apart (Qy h1) (Qy h2)
 ·have hy:scope.names.lookup y=some .cell∨scope.names.lookup y=some .free:=hy;rcases hy with hy|hy
  ·exact rV hy
  ·exact absurd Z (S.nofree _ (Qy hy))
 ·exact Pb (x.above y c (Qy h))
 ·have hi:i<vs.length:=by
   unfold start at h2;by_cases hi:i<vs.length
   ·exact hi
   ·rw[SH (by simpa using hi)] at h2;rw[Po] at h2
    split at h2<;>cases h2
  have ha:vs[i]?=some v:=by
   unfold start at h2;rw[SZ (by simpa using hi),Nh] at h2
   cases e:vs[i]? with
   |none=>rw[e] at h2;cases h2
   |some a=>rw[e] at h2;cases h2;rfl
  obtain⟨u,hu,rv⟩:=r.get ha;have hp:ps[i]?=some y:=by
   rw[←S.pre,List.getElem?_take_of_lt (by omega)];exact h1
  have ndP:ps.Nodup:=by rw[←S.pre];exact S.nd.sublist (Tl _ _)
  refine⟨u,rv,?_⟩;rcases S.par y (Nd hp) with k|k
  ·exact .inl ⟨k,nY ndP hp hu k⟩
  ·obtain⟨c,e⟩:=rV (n:=s.heap.objs.size+1) k;refine .inr ⟨.inl k,c,e,?_⟩;have q:=x.cell y c e;rw[n8 ndP hp hu (by show scope.names.lookup y≠_;rw[k];decide)] at q;exact q
 ·exact e0.hok.fresh (Pb (x.above y c (Qy h)))
 ·unfold start;show _=N.length;rw[NL,Na,Qm];omega
theorem IF{CX:sg}{P:NW}{w:Ol}{K:M6}{mg:NV->Option Value}{base:Np}{k:Nat}{f:Addr}{name qual:NV}{params:Arguments}{body:List Stmt}{scope:Rt}{dV kV doc pm cdv ct oc:Value}{an od:Option Addr}
  {osl:Array (Option Value)} {N ps:List NV} {sp:Sp} (lk:K.lookup f=some ⟨oc,od,.func (P8 name qual params body scope dV kV doc pm an cdv ct),osl⟩) (hcd:SI K cdv qual=true) (S:aM N ps scope)
  (len:∀vs H Q E,sp vs H Q E->vs.length=ps.length)
  (hbody:∀(A:N8) (outer:List W6) (s:Nf) (H:Hp) (vs:List V) (Q:VK) (E:XK),ft k (A.deeper (UI qual scope s.heap.objs.size f cdv))->sp vs H Q E→
   ∃t,uk (b6 CX P w K mg base N qual scope f cdv A outer s H E) body t/\t { nx:=λ_ H'=>Q .non H',rt:=Q} (start N vs) H) :
  bX P w K mg base CX (k+1) f (P8 name qual params body scope dV kV doc pm an cdv ct) ps sp:=by
 refine⟨len,λA outer s H args us vs Q E hr e0 hb r hsp=>?_⟩;have hl:=len _ _ _ _ hsp;have KX:K.In s.heap:=e0.mod.kin.keeps λb o e=>(e0.bs b o e).1
 have lim:s.heap.NoLimit:=e0.mod.nolimit.keeps λb o e=>(e0.bs b o e).1
 have hkind:∀y∈ps.zip us,scope.names.lookup y.1=some .local∨(scope.names.lookup y.1=some .cell/\((Sy (s.heap.objs.size+1) scope.names []).lookup y.1).isSome=true):=λ⟨n,v⟩ hy=>by
  rcases S.par n (Us hy).1 with q|q
  ·exact .inl q
  ·exact .inr ⟨q,Ug _ _ _ (.inl q)⟩
 refine codeAny_call_function hr.depth (KX _ _ lk) Z S.co S.gen Z (PySem.W.codeRec_of KX hcd) (hb _ _ _ _ ?_);refine wpAny_newFunctionEnv_cells S.kind hkind λenv he s1 x=>?_
 subst he;refine⟨lim.keeps x.toInCall.keep,codeAny_func ?_⟩;obtain⟨t,ht,hq⟩:=hbody A outer s H vs Q E (hr.deeper _) hsp;have I:Inv (b6 CX P w K mg base N qual scope f cdv A outer s H E) [] (start N vs) H s1:=wG S hr.hd e0 hl r x;refine Qw (ht [] s1 (start N vs) H _ I hq) (λfl s' hs=>?_) λe s' hs=>hs
 have fin:∀{σ':St} {H':Hp} {v:V} {u:Value},Inv (b6 CX P w K mg base N qual scope f cdv A outer s H E) [] σ' H' s'->bv v u->Q v H'->CE outer P w H s Q u s':=
  λ{σ' H' v u} J rv q=>⟨v,H',J.os,J.bare,J.base,J.hok,rv,q⟩
 cases fl with
 |ret u=>
  obtain⟨v,σ',H',J,rv,q⟩:=hs;exact fin J rv q
 |next=>
  obtain⟨σ',H',J,q⟩:=hs;exact fin (v:=V.non) (u:=PH) J Z q
 |brk=>
  obtain⟨_,_,_,q⟩:=hs;exact QP q
 |cont=>
  obtain⟨_,_,_,q⟩:=hs;exact QP q
end L2
namespace L2
open PySem PySem.Spec PyProof.Rows
section
variable {X:Cx}{x:NV}{p pos:Q4}{e:N9}{es:List N9}{t:TA}{id T:String}{r:List V->Hp->VK->Prop}
def Jd(r:List V->Hp->VK->Prop)(t:TA):TE:=λσ H Q=>t σ H λvs H1=>r vs H1 Q
theorem Ak(hc:c6 X (.builtin id) r)(hg:Gl X x)(hm:X.mg x=none)(hv:Pu x=some (.builtin id))(ha:PA X (e::es) t)(hn:x ≠ "__name__" := by decide)(hdb:(x==("__debug__" : NV))=false:=by decide)
  (he:Nw (e::es) X.env=(false,eval e X.env)::Nw es X.env:=by rfl) (hpl:(Rc pos (Nw es X.env)).any (·.1)=false:=by rfl):PE X (.Call (.Name x p) (e::es) [] pos) (Jd r t):=by
 intro pins s σ H Q I h;refine SG (gU I hg hm hv ?_ hn hdb);exact PyProof.Rows.callWith_builtin1 (cF (ha pos pins s σ H _ I h) λus s1 ⟨vs,H1,I1,r1,q1⟩=>hc pins s1 σ H1 vs us Q I1 r1 q1) he hpl
theorem wk(hc:c6 X (.type T) r)(hg:Gl X x)(hm:X.mg x=none)(hv:Pu x=some (.type T))(ha:PA X (e::es) t)(hn:x ≠ "__name__" := by decide)(hdb:(x==("__debug__" : NV))=false:=by decide)
  (he:Nw (e::es) X.env=(false,eval e X.env)::Nw es X.env:=by rfl) (hpl:(Rc pos (Nw es X.env)).any (·.1)=false:=by rfl):PE X (.Call (.Name x p) (e::es) [] pos) (Jd r t):=by
 intro pins s σ H Q I h;refine SG (gU I hg hm hv ?_ hn hdb);exact OQ (cF (ha pos pins s σ H _ I h) λus s1 ⟨vs,H1,I1,r1,q1⟩=>hc pins s1 σ H1 vs us Q I1 r1 q1) he hpl
end
end L2
namespace HT
open PySem PyProof.Rows
def lexLt:List Int->List Int->Bool
 | [],[]=>false
 | [],_::_=>true
 |_::_,[]=>false
 |x::xs,y::ys=>if x=y then lexLt xs ys else decide (x<y)
theorem tQ(x y:Int)(xs ys:List Int):lexLt (x::xs) (y::ys)=if x=y then lexLt xs ys else decide (x<y):=Z
theorem mY:lexLt [] []=false:=Z
theorem l5(y:Int)(ys:List Int):lexLt [] (y::ys)=true:=Z
theorem l7(x:Int)(xs:List Int):lexLt (x::xs) []=false:=Z
theorem AW(A:N8)(s:Nf)(a:Int)(t:W5)(c:Int)(u:W5):∃e,OO A s (.int a t) (.int c u) e/\(e=true↔a=c):=
 ⟨(a==c),Vi a t c u,by simp⟩
theorem zH(A:N8)(s:Nf)(a:Int)(t:W5)(c:Int)(u:W5)(prog:NW)(w:Ol)(E:Value->Nf->Prop)(Q:Value->Nf->Prop)(h:Q (.bool (decide (a<c))) s) :
  Nv (NJ prog w) A (richCompare .Lt (.int a t) (.int c u)) Q E s:=
 (PyProof.Rows.lt_int h:Nv (NJ prog w) A (Oz .Lt (.int a t) (.int c u)) Q E s)
section
open PySem.SeqAt
open PySem.AutoSeq1 (wpAny_loadPart')
open PySem.MeetsSeq PySem.MeetsSeq2 PySem.MeetsSeq3
theorem mS(l b:Addr)(items items2:Array Value)(n n2:Nat)(dd dd2:Option Addr)(sl sl2:Array (Option Value))(ns ms:List Int)(hi:Pe items.toList ns)(hj:Pe items2.toList ms) :
  Meets (NO.«tuple.__lt__» ⟨[.ref l,.ref b],[]⟩)
   (λ_ R s=>s.heap.get? l=some { cls:=.type "tuple",dict:=dd,data:=.seq items n,slots:=sl}/\s.heap.get? b=some { cls:=.type "tuple",dict:=dd2,data:=.seq items2 n2,slots:=sl2}∧
    R (.ok (.ret (.bool (lexLt ns ms)))) s):=
 .of_wp λprog w A R s h=>by
  obtain⟨hp,g,d,tk,os⟩:=s;obtain⟨hl,hb,h⟩:=h;have f2:=AutoSeq1.sub_tuple_tuple;have z1:items.size=ns.length:=by rw[←hi.length];simp
  have z2:items2.size=ms.length:=by rw[←hj.length];simp
  wp_walk using wpAny_loadPart' hl,wpAny_loadPart' hb,wpAny_forIn_list _ (λem b s'=>b.1=none/\s'=⟨hp,g,d,tk,os⟩/\∃(vs ws:List Value) (ns' ms':List Int),em=vs.zip ws∧
   Pe vs ns'/\Pe ws ms'/\ns'.length+items2.size=ms'.length+items.size/\R (.ok (.ret (.bool (lexLt ns' ms')))) ⟨hp,g,d,tk,os⟩) _
  case turn=>
   rintro⟨y,x⟩ em b s' ⟨hb',rfl,vs,ws,ns',ms',hz,hvi,hwi,hlen,hR⟩
   cases hvi with
   |nil=>rw[List.zip_nil_left] at hz;cases hz
   |cons a t hvi'=>
    cases hwi with
    |nil=>rw[List.zip_nil_right] at hz;cases hz
    |cons c u hwi'=>
     rw[Vj] at hz;injection hz with hyx hrest;injection hyx with hy hx;subst hy hx;rw[tQ] at hR;simp only[NU] at hlen;obtain⟨e,he,hiff⟩:=AW A.in1 ⟨hp,g,d,tk,os⟩ a t c u;refine M9 (he prog w _ _ ?_)
     cases e with
     |true=>
      rw[if_pos (hiff.mp Z)] at hR
      wp_walk
      exact⟨Z,Z,_,_,_,_,hrest,hvi',hwi',by omega,hR⟩
     |false=>
      rw[if_neg (λq=>absurd (hiff.mpr q) Ny)] at hR;have hri:=zH A.in1 ⟨hp,g,d,tk,os⟩ a t c u prog w
      wp_walk using hri
      exact⟨_,Z,by simpa using hR⟩
  case fin=>
   rintro⟨b1,b2⟩ s' ⟨hb',rfl,vs,ws,ns',ms',hz,hvi,hwi,hlen,hR⟩;simp only at hb';subst hb';have hv:lexLt ns' ms'=decide (items.size<items2.size):=by
    cases hvi with
    |nil=>
     cases hwi with
     |nil=>
      simp only[PD] at hlen;rw[mY];exact(decide_eq_false (by omega)).symm
     |cons c u hw=>
      simp only[PD,NU] at hlen;rw[l5];exact(decide_eq_true (by omega)).symm
    |cons a t hv=>
     cases hwi with
     |nil=>
      simp only[PD,NU] at hlen;rw[l7];exact(decide_eq_false (by omega)).symm
     |cons c u hw=>
      rw[Vj] at hz
      cases hz
   rw[hv] at hR
   wp_walk
   exact⟨_,Z,by simpa [NO.Tuple.tupleCompareSizes] using hR⟩
  case h=>
   exact⟨Z,Z,items.toList,items2.toList,ns,ms,Z,hi,hj,by omega,h⟩
end
section
variable {prog:NW}{w:Ol}{A:N8}{E:Value->Nf->Prop}{s:Nf}
theorem lt_tupInts(hl:Vw s.heap l items)(hb:Vw s.heap b items2)(hi:Pe items.toList ns)(hj:Pe items2.toList ms)
  (hu:A.units<cLine) (h:Q (.bool (lexLt ns ms)) s):Nv (NJ prog w) A (Oz .Lt (.ref l) (.ref b)) Q E s:=by
 obtain⟨⟨cls,dd,data,sl⟩,ho,hc,n,hd⟩:=id hl;obtain⟨⟨cls2,dd2,data2,sl2⟩,ho2,hc2,n2,hd2⟩:=id hb;simp only at hc hd hc2 hd2;subst hc hd hc2 hd2;exact richCompare_meets_room (op:=.Lt) ⟨_,ho,Z⟩ ⟨_,ho2,Z⟩ PySem.F.slot_tuple_lt PySem.F.entry_tuple_lt (PySem.F.args_tuple_lt_2 _ _) (mS l b items items2 n n2 dd dd2 sl sl2 ns ms hi hj)
  ⟨ho,ho2,show QM (lexLt ns ms)≠Value.notImplemented/\Q (.bool (lexLt ns ms)) s from⟨(λx=>nomatch x),h⟩⟩ hu
def sIx(n d:Nat):Option Int->Nat
 |none=>d
 |some v=>if v<0 then(v+(n:Int)).toNat else min v.toNat n
theorem sIx_none(n d:Nat):sIx n d none=d:=Z
theorem sIx_nat(n d k:Nat):sIx n d (some (k:Int))=min k n:=by
 show(if(k:Int)<0 then((k:Int)+(n:Int)).toNat else min (k:Int).toNat n)=min k n;rw[if_neg (by omega),OK]
theorem EL(n d:Nat)(hd:d≤n)(o:Option Int):sIx n d o≤n:=by
 cases o with
 |none=>exact hd
 |some v=>
  show(if v<0 then(v+(n:Int)).toNat else min v.toNat n)≤n;by_cases hv:v<0
  ·rw[if_pos hv];omega
  ·rw[if_neg hv];exact Nat.min_le_right _ _
theorem vv(v:Int)(n d:Nat):(if v<0 then max (v+(n:Int)) 0 else min v (n:Int))=((sIx n d (some v):Nat):Int):=by
 show(if v<0 then max (v+(n:Int)) 0 else min v (n:Int))=(((if v<0 then(v+(n:Int)).toNat else min v.toNat n):Nat):Int);by_cases hv:v<0
 ·simp only[if_pos hv];omega
 ·simp only[if_neg hv];omega
theorem uh(lo hi:Option Int)(n:Nat):Ru lo hi 1 (n:Int)=(((sIx n 0 lo:Nat):Int),((sIx n n hi:Nat):Int)):=by
 have h1:¬((1:Int)<0):=by omega
 unfold Ru;simp only[h1,if_false];refine Xs ?_ ?_
 ·cases lo with
  |none=>rfl
  |some v=>exact vv v n 0
 ·cases hi with
  |none=>rfl
  |some v=>exact vv v n n
theorem tE(i j:Nat):Qn (i:Int) (j:Int) 1=j-i:=by
 unfold Qn;have h1:(1:Int)>0:=by omega
 simp only[h1,if_true,Uh]
 split<;>omega
theorem lJ(p:Ui v o)(h:Q o s):Nv (NJ prog w) A (NO.Slice.slicePartIndex v) Q E s:=by
 cases p with
 |none=>exact slicePart_none h
 |int i t=>exact slicePart_int h
theorem gs{sl:Addr}{vl vu:Value}{lo hi:Option Int}{n:Nat}{Q:Int×Int×Nat->Nf->Prop}(hs:s.heap.IsSliceOf sl vl vu .none)(pl:Ui vl lo)(pu:Ui vu hi)
  (h:Q (((sIx n 0 lo:Nat):Int),1,sIx n n hi-sIx n 0 lo) s):Nv (NJ prog w) A (SJ (.ref sl) (Pq (n:Int))) Q E s:=by
 obtain⟨os,hos,hcs,hds⟩:=id hs;unfold SJ NO.Slice.sliceFields;refine M9 (M9 (QK hos hds (x:=vl) Z (M9 (QK hos hds (x:=vu) Z (M9 (QK hos hds (x:=.none) Z (Nj ?_)))))));refine M9 (slicePart_none ?_);show Nv _ _ (if((1:Int)==0)=true then _ else _) _ _ s;rw[if_neg (by decide)];refine M9 (lJ pl (M9 (lJ pu (M9 (Nj ?_)))));show Nv _ _ (match Ru lo hi 1 (n:Int) with | (lo,hi)=>Pq (lo,(1:Int),Qn lo hi 1)) _ _ s;rw[uh lo hi n];show Nv _ _ (Pq (((sIx n 0 lo:Nat):Int),(1:Int),Qn ((sIx n 0 lo:Nat):Int) ((sIx n n hi:Nat):Int) 1)) _ _ s;rw[tE];exact Nj h
theorem z7(xs:Array Value)(i k:Nat):((M7 k).filterMap λ(m:Nat)=>xs[((i:Int)+(m:Int)*1).toNat]?).toArray=((xs.toList.drop i).take k).toArray:=by
 have e:(λ(m:Nat)=>xs[((i:Int)+(m:Int)*1).toNat]?)=λm=>xs[i+m]?:=by
  funext m
  have:((i:Int)+(m:Int)*1).toNat=i+m:=by omega
  rw[this]
 rw[e];have:=pick_run xs i k;rw[List.filterMap_map] at this;have e2:((λx=>xs[x]?)∘λx=>i+x)=λm=>xs[i+m]?:=Z
 rw[e2] at this;rw[this]
theorem getItem_tuple_cut{t sl:Addr}{items:Array Value}{vl vu:Value}{lo hi:Option Int}{Q:Value->Nf->Prop}(ht:Vw s.heap t items)(hs:s.heap.IsSliceOf sl vl vu .none)(pl:Ui vl lo)(pu:Ui vu hi)
  (hw:¬(sIx items.size 0 lo=0/\sIx items.size items.size hi=items.size))
  (h:Q (.ref s.heap.objs.size) { s with heap:=s.heap.push { cls:=.type "tuple",data:=.seq ((items.toList.drop (sIx items.size 0 lo)).take (sIx items.size items.size hi-sIx items.size 0 lo)).toArray} })
  (hsz:items.size≤sizeLine):Nv (NJ prog w) A (Ss (.ref t) (.ref sl)) Q E s:=by
 have htake:sizeOk (.seq ((items.toList.drop (sIx items.size 0 lo)).take (sIx items.size items.size hi-sIx items.size 0 lo)).toArray):=by
  show((items.toList.drop (sIx items.size 0 lo)).take (sIx items.size items.size hi-sIx items.size 0 lo)).toArray.size≤sizeLine;rw[NK,OH,Qf,NZ];omega
 have hj:sIx items.size items.size hi≤items.size:=EL _ _ (Nb _) hi;obtain⟨os,hos,hcs,hds⟩:=id hs;have hTs:s.TypeIs (.ref sl) "slice" := ⟨os,hos,hcs⟩;unfold Ss
 try with_reducible refine wpAny_holding ?_
 first|refine M9 (Nj ?_)|skip
 refine M9 (VB ht.typeIs (by decide) ?_);refine M9 (Os (name:=OL "__getitem__") ht.typeIs OR (OA OR ht.typeIs U1 ?_ (Vk _ _)))
 show Nv _ _ (SK (.ref t) >>= _) _ _ s;refine M9 (tupleItemsOf_ ht ?_);refine M9 (RT hTs ?_);rw[if_pos (by decide)];refine M9 (gs hs pl pu ?_);have hno:¬((((sIx items.size 0 lo:Nat):Int)==0&&(1:Int)==1&&(sIx items.size items.size hi-sIx items.size 0 lo)==items.size)=true):=by
  intro q;rw[NM,NM] at q;have q1:((sIx items.size 0 lo:Nat):Int)=0:=Sz q.1.1;have q2:sIx items.size items.size hi-sIx items.size 0 lo=items.size:=Sz q.2;exact hw ⟨by omega,by omega⟩
 show Nv _ _ (if(((sIx items.size 0 lo:Nat):Int)==0&&(1:Int)==1&&(sIx items.size items.size hi-sIx items.size 0 lo)==items.size)=true then _ else _) _ _ s;rw[if_neg hno,z7]
 first
  |exact M9 (m:=Pk _) (N3 (Nj ⟨_,rfl,Nj h⟩) htake)
  |exact M9 (m:=Pk _) (N3 (M9 (Nj (Nj ⟨_,rfl,Nj h⟩))) htake)
  |exact M9 (M9 (m:=Pk _) (N3 (Nj (Nj ⟨_,rfl,Nj h⟩)) htake))
  |exact M9 (M9 (m:=Pk _) (N3 (Nj ⟨_,rfl,Nj h⟩) htake))
end
end HT
namespace L2
open PySem PySem.Spec PyProof.Rows
abbrev TO:=St->Hp->(Option Int->Hp->Prop)->Prop
def PO(X:Cx)(e:Option N9)(t:TO):Prop:=
 ∀(pins:List (Addr×O8)) (s:Nf) (σ:St) (H:Hp) (Q:Option Int->Hp->Prop),Inv X pins σ H s->t σ H Q→
  Nv (NJ X.prog X.w) X.A (evalPart e X.env) (λu s'=>∃o H',Inv X pins σ H' s'/\Ui u o/\Q o H') X.xe s
def uz:TO:=λ_ H Q=>Q none H
def Dj(t:TE):TO:=λσ H Q=>t σ H λx H1=>∃i,x=.int i/\Q (some i) H1
theorem fU:∀{us:List Value},bE (ns.map V.int) us->Pe us ns:=by
 induction ns with
 |nil=>intro us r;rw[VC] at r;cases r;exact .nil
 |cons n ns ih=>
  intro us r;rw[Ob] at r
  cases r with
  |cons r1 r2=>
   obtain⟨t,e⟩:=r1;subst e;exact .cons n t (ih r2)
section
variable {X:Cx}{e:N9}{te:TE}{lo hi:Option N9}{tl th:TO}{pos p2:Q4}
theorem Cd:PO X none uz:=by
 intro pins s σ H Q I h;rw[evalPart_none];exact Nj ⟨none,H,I,.none,h⟩
theorem Cc(h:PE X e te):PO X (some e) (Dj te):=by
 intro pins s σ H Q I hw;rw[evalPart_some];refine cF (h pins s σ H _ I hw) λu s1 ⟨x,H1,I1,r1,q1⟩=>?_
 obtain⟨i,rfl,q⟩:=q1;obtain⟨t,rfl⟩:=r1;exact⟨some i,H1,I1,.int i t,q⟩
def xx(X:Cx)(r:V->Option Int->Option Int->Hp->VK->Prop):Prop:=
 ∀(pins:List (Addr×O8)) (s:Nf) (σ:St) (H:Hp) (x:V) (v vl vu:Value) (lo hi:Option Int) (sl:Addr) (Q:VK),Inv X pins σ H s->bv x v->s.heap.IsSliceOf sl vl vu .none->Ui vl lo->Ui vu hi->r x lo hi H Q→
  ∃T id,typeLookup (.type T) "__getitem__"=Pq (some (.builtin id))/\s.TypeIs v T/\Nv (NJ X.prog X.w) X.A (Ss v (.ref sl)) (EP X pins σ Q) X.xe s
theorem xx.or(h:xx X r)(h':xx X r'):xx X (λx lo hi H Q=>r x lo hi H Q∨r' x lo hi H Q):=by
 intro pins s σ H x v vl vu lo hi sl Q I rx hs pl pu q;rcases q with q|q
 ·exact h pins s σ H x v vl vu lo hi sl Q I rx hs pl pu q
 ·exact h' pins s σ H x v vl vu lo hi sl Q I rx hs pl pu q
def KA(r:V->Option Int->Option Int->Hp->VK->Prop)(te:TE)(tl th:TO):TE:=λσ H Q=>te σ H λx H1=>tl σ H1 λl H2=>th σ H2 λu H3=>r x l u H3 Q
theorem Ae(hr:xx X r)(he:PE X e te)(hl:PO X lo tl)(hu:PO X hi th):PE X (.Subscript e (.Slice lo hi none p2) pos) (KA r te tl th):=by
 intro pins s σ H Q I h;refine Subscript_ (cF (he pins s σ H _ I h) λv s1 ⟨x,H1,I1,r1,q1⟩=>?_);refine wpAny_Slice (cF (hl pins s1 σ H1 _ I1 q1) λvl s2 ⟨l,H2,I2,pl,q2⟩=>cF (hu pins s2 σ H2 _ I2 q2) λvu s3 ⟨u,H3,I3,pu,q3⟩=>?_);rw[evalPart_none];refine Nj ?_;have I4:Inv X pins σ H3 { s3 with heap:=s3.heap.push { cls:=.type "slice",data:=.fields #[vl,vu,.none]} }:=I3.kept (t':=s3.toks) λb ob q=>Nc _ q
 obtain⟨T,id,hT,ht,hg⟩:=hr pins { s3 with heap:=s3.heap.push { cls:=.type "slice",data:=.fields #[vl,vu,.none]} } σ H3 x v vl vu l u s3.heap.objs.size Q I4 r1 (Np.IsSliceOf.new ..) pl pu q3;show Nv (NJ X.prog X.w) X.A (subscriptTail e (.Slice lo hi none p2) v (.ref s3.heap.objs.size)) (EP X pins σ Q) X.xe { s3 with heap:=s3.heap.push { cls:=.type "slice",data:=.fields #[vl,vu,.none]} };exact tail_any (ops:=[.ref s3.heap.objs.size,v]) ht hT hg (by with_unfolding_all rfl)
def jB(xs:List V)(lo hi:Option Int):List V:=(xs.drop (HT.sIx xs.length 0 lo)).take (HT.sIx xs.length xs.length hi-HT.sIx xs.length 0 lo)
theorem ku(xs:List V)(lo hi:Option Int):(jB xs lo hi).length≤xs.length:=by
 unfold jB;rw[OH,Qf];omega
def Hx(K:M6):V->Option Int->Option Int->Hp->VK->Prop:=λx lo hi H Q=>∃a xs,x=.ref a/\bC K H a xs∧
 ¬(HT.sIx xs.length 0 lo=0/\HT.sIx xs.length xs.length hi=xs.length)/\∀p,H p=none->Q (.ref p) (aE H p (.tup (jB xs lo hi)))
theorem Ed:xx X (Hx X.K):=by
 intro pins s σ H x v vl vu lo hi sl Q I rx hs pl pu h;obtain⟨a,xs,rfl,hx,hw,q⟩:=h
 cases rx
 obtain⟨its,r,ht,hz⟩:=I.tuple hx;have hlen:its.toArray.size=xs.length:=by rw[NK];exact r.length.symm
 refine⟨"tuple",_,OR.lookup,ht.typeIs,?_⟩;refine HT.getItem_tuple_cut ht hs pl pu (by rw[hlen];exact hw) ?_ (by rw[hlen];exact hz);rw[hlen];refine⟨.ref s.heap.objs.size,_,I.laid (t':=s.toks) (o:=.tup (jB xs lo hi)) (λb ob q=>Nc _ q) (Nb _) ?_,Z,q _ (I.hok.fresh (Nb _))⟩;exact⟨NH (ku xs lo hi) hz,_,(r.drop (HT.sIx xs.length 0 lo)).take (HT.sIx xs.length xs.length hi-HT.sIx xs.length 0 lo),Wa _ _⟩
def HK(K:M6):R2:=λx y H Q=>∃a b ns ms,x=.ref a/\y=.ref b/\bC K H a (ns.map V.int)/\bC K H b (ms.map V.int)/\Q (.bl (HT.lexLt ns ms)) H
theorem Fm(hu:X.A.units<cLine):gK X (Oz .Lt) (HK X.K):=by
 intro pins s σ H x y v u Q I rx ry h;obtain⟨a,b,ns,ms,rfl,rfl,ha,hb,q⟩:=h
 cases rx
 cases ry
 obtain⟨its,r1,p1,_⟩:=I.tuple ha;obtain⟨its2,r2,p2,_⟩:=I.tuple hb;have i1:Pe its.toArray.toList ns:=fU r1;have i2:Pe its2.toArray.toList ms:=fU r2;exact HT.lt_tupInts p1 p2 i1 i2 hu ⟨.bl (HT.lexLt ns ms),H,I,Z,q⟩
def K4(K:M6):R2:=λx y H Q=>∃a b xs ys,x=.ref a/\y=.ref b/\bC K H a xs/\bC K H b ys/\xs≠[]/\xs.length+ys.length≤sizeLine∧
 (ys=[]->Q (.ref a) H)/\(ys≠[]->∀p,H p=none->Q (.ref p) (aE H p (.tup (xs++ys))))
end
end L2
namespace L2
open PySem PySem.Spec PyProof.Rows
def AH(n:Nat)(i:Int):Option Nat:=if 0≤i then(if i<n then some i.toNat else none) else if -(n:Int)≤i then some (i+n).toNat else none
def mN{α:Type}(xs:List α)(i:Int):Option α:=(AH xs.length i).bind λj=>xs[j]?
theorem va(h:AH n i=some j):Xh i n=some j/\j<n/\-(n:Int)≤i/\i<n:=by
 unfold AH at h;by_cases h0:0≤i
 ·rw[if_pos h0] at h;by_cases h1:i<n
  ·rw[if_pos h1] at h;have e:i.toNat=j:=OB h;exact⟨by rw[Wq h0 h1,e],by omega,by omega,h1⟩
  ·rw[if_neg h1] at h;cases h
 ·rw[if_neg h0] at h;by_cases h1:-(n:Int)≤i
  ·rw[if_pos h1] at h;have e:(i+n).toNat=j:=OB h;exact⟨by rw[VD (by omega) h1,e],by omega,h1,by omega⟩
  ·rw[if_neg h1] at h;cases h
theorem vA{xs:List α}(h:mN xs i=some v):∃j,Xh i xs.length=some j/\xs[j]?=some v/\j<xs.length/\-(xs.length:Int)≤i/\i<xs.length:=by
 unfold mN at h
 cases e:AH xs.length i with
 |none=>rw[e] at h;cases h
 |some j=>
  rw[e] at h;obtain⟨h1,h2,h3,h4⟩:=va e;exact⟨j,h1,h,h2,h3,h4⟩
theorem aY{α:Type}{xs:List α}{j:Nat}{v:α}(h:xs[j]?=some v):mN xs (j:Int)=some v:=by
 have hj:j<xs.length:=(Ni.mp h).1;have e:AH xs.length (j:Int)=some j:=by
  unfold AH;rw[if_pos (by omega),if_pos (by omega)];simp
 unfold mN;rw[e];exact h
theorem mM(xs:List α)(v:α):mN (xs++[v]) (-1)=some v:=by
 have hl:(xs++[v]).length=xs.length+1:=by simp
 have e:AH (xs++[v]).length (-1)=some xs.length:=by
  unfold AH;rw[hl,if_neg (by decide),if_pos (by omega)]
  congr 1
  omega
 unfold mN;rw[e];show(xs++[v])[xs.length]?=some v;simp
def pT(b:N9):Prop:=∀o i,UG b false o i=Xm [o,i] (Ss o i)
def GG(X:Cx)(r:R2):Prop:=
 ∀(value slice:N9) (pins:List (Addr×O8)) (s:Nf) (σ:St) (H:Hp) (x y:V) (v u:Value) (Q:VK),Inv X pins σ H s->bv x v->bv y u->r x y H Q→
  UG slice false v u=Xm [v,u] (Ss v u)->Nv (NJ X.prog X.w) X.A (subscriptTail value slice v u) (EP X pins σ Q) X.xe s
def Lm(X:Cx)(id:String)(r:V->List V->Hp->VK->Prop):Prop:=
 ∀(pins:List (Addr×O8)) (s:Nf) (σ:St) (H:Hp) (x:V) (xs:List V) (v:Value) (us:List Value) (Q:VK),Inv X pins σ H s->bv x v->bE xs us->r x xs H Q→
  Nv (NJ X.prog X.w) X.A (call (.builtin id) (v::us)) (EP X pins σ Q) X.xe s
section
variable {X:Cx}{a b:N9}{ta tb:TE}{pos:Q4}
theorem Ic(hr:GG X r)(ha:PE X a ta)(hb:PE X b tb)(hs:pT b):PE X (.Subscript a b pos) (By r ta tb):=by
 intro pins s σ H Q I h;exact Subscript_ (Gu ha hb I h λv u s2 x y H2 I2 rx ry q=>hr a b pins s2 σ H2 x y v u Q I2 rx ry q (hs _ _))
def ES(K:M6):R2:=λx y H Q=>∃p xs i v,x=.ref p/\y=.int i/\aV K H p xs/\mN xs i=some v/\Q v H
def ER(K:M6):R2:=λx y H Q=>∃p xs i v,x=.ref p/\y=.int i/\bC K H p xs/\mN xs i=some v/\Q v H
def JS:R2:=λx y H Q=>∃z i c,x=.str z/\y=.int i/\z.length≤sizeLine/\mN z.cps.toList i=some c/\Q (.str ⟨#[c]⟩) H
theorem bI:GG X (ES X.K):=by
 intro value slice pins s σ H x y v u Q I rx ry h hs;obtain⟨p,xs,i,z,rfl,rfl,hq,he,q⟩:=h
 cases rx
 obtain⟨t,rfl⟩:=ry;obtain⟨its,r,pl,hz⟩:=I.list hq;obtain⟨j,h1,h2,h3,h4,h5⟩:=vA he;obtain⟨w,ew,rw'⟩:=r.get h2;have hl:=r.length;have hn:=pE;have fin:EP X pins σ Q w s:=⟨z,H,I,rw',q⟩;by_cases h0:0≤i
 ·have hj:i.toNat=j:=by
   rw[Wq h0 h5] at h1;exact OB h1
  exact item_listR pl.isList h0 (by omega) (by rw[hj];simpa using ew) fin hs
 ·have hj:(i+(its.toArray.size:Int)).toNat=j:=by
   rw[VD (by omega) h4] at h1;rw[NK,←hl];exact OB h1
  exact Uj (x:=w) pl.isList.typeIs VE.lookup
   (wpAny_getItem_list_neg (Q:=λr s'=>r=w/\EP X pins σ Q r s') pl.isList (by omega) (by rw[NK]<;>omega) (by omega) (by rw[hj];simpa using ew) ⟨Z,fin⟩) hs
theorem au:GG X (ER X.K):=by
 intro value slice pins s σ H x y v u Q I rx ry h hs;obtain⟨p,xs,i,z,rfl,rfl,hq,he,q⟩:=h
 cases rx
 obtain⟨t,rfl⟩:=ry;obtain⟨its,r,pl,hz⟩:=I.tuple hq;obtain⟨j,h1,h2,h3,h4,h5⟩:=vA he;obtain⟨w,ew,rw'⟩:=r.get h2;have hl:=r.length;have hn:=pE;have fin:EP X pins σ Q w s:=⟨z,H,I,rw',q⟩;exact Uj (x:=w) pl.typeIs slot_tuple_getitem.lookup
  (getItem_tuple (j:=j) (Q:=λr s'=>r=w/\EP X pins σ Q r s') pl (by omega) (by omega) (by rw[NK,←hl];exact h1) (by simpa using ew) ⟨Z,fin⟩) hs
def MP(K:M6):R2:=λx y H Q=>ES K x y H Q∨ER K x y H Q∨JS x y H Q
theorem tN(its:List Value)(n j:Nat)(u:Value):Rf (·.setIfInBounds j u) { cls:=.type "list",data:=.seq its.toArray n}={ cls:=.type "list",data:=.seq (its.set j u).toArray n}:=by
 simp[Rf]
theorem Inv.lst{pins:List (Addr×O8)}{σ:St}{H:Hp}{s:Nf}{p:Addr}{xs:List V}(I:Inv X pins σ H s)(h:H p=some (.lst xs)) :
  ∃(its:List Value) (n:Nat),bE xs its/\s.heap.get? p=some { cls:=.type "list",data:=.seq its.toArray n}/\xs.length≤sizeLine:=by
 obtain⟨z,its,n,r,e⟩:=I.hok p _ h;exact⟨its,n,r,e,z⟩
theorem Inv.lstUpd{pins:List (Addr×O8)}{σ:St}{H:Hp}{s:Nf}{p:Addr}{xs ys:List V}{its its':List Value}{n n':Nat}{f:O8->O8}(I:Inv X pins σ H s)(h:H p=some (.lst xs))
  (ho:s.heap.get? p=some { cls:=.type "list",data:=.seq its.toArray n}) (hf:f { cls:=.type "list",data:=.seq its.toArray n}={ cls:=.type "list",data:=.seq its'.toArray n'}) (r:bE ys its') (hz:ys.length≤sizeLine) (t:Nat) :
  Inv X pins σ (aE H p (.lst ys)) { s with heap:=s.heap.update p f,toks:=t}:=by
 have e:(s.heap.update p f).get? p=some { cls:=.type "list",data:=.seq its'.toArray n'}:=by
  rw[OS f ho (by rw[hf]<;>rfl),hf]
 refine I.write (x:=p) (e:=p) (by rw[h];trivial) (.inl Z) (λb u hb q=>(QR _ _ (Qs hb)).trans q) ⟨_,e⟩ ?_;exact⟨hz,its',n',r,e⟩
def HF:V->V->V->Hp->(Hp->Prop)->Prop:=λo i v H Q=>∃p xs k j,o=.ref p/\i=.int k/\H p=some (.lst xs)/\AH xs.length k=some j/\Q (aE H p (.lst (xs.set j v)))
theorem gu:GD X HF:=by
 intro pins s σ H o i v ov iv u Q I ro ri rv h;obtain⟨p,xs,k,j,rfl,rfl,hp,hj,q⟩:=h
 cases ro
 obtain⟨t,rfl⟩:=ri;obtain⟨its,n,r,ho,hz⟩:=I.lst hp;obtain⟨h1,h2,h3,h4⟩:=va hj;have hl:=r.length;have hn:=pE;have I':Inv X pins σ (aE H p (.lst (xs.set j v))) { s with heap:=s.heap.update p (Rf (·.setIfInBounds j u))}:=
  I.lstUpd hp ho (tN its n j u) (r.set rv j) (by rw[P2];exact hz) s.toks
 by_cases h0:0≤k
 ·have hk:k.toNat=j:=by
   rw[Wq h0 h4] at h1;exact OB h1
  exact PySem.W.ki_setAt ho h0 (by omega) (by rw[NK,←hl];exact h4) (by rw[hk];exact⟨_,I',q⟩)
 ·have hk:(k+(its.toArray.size:Int)).toNat=j:=by
   rw[VD (by omega) h3] at h1;rw[NK,←hl];exact OB h1
  exact PySem.W.ki_setBack ho (by omega) (by rw[NK,←hl];exact h3) (by omega) (by rw[hk];exact⟨_,I',q⟩)
theorem oP(lo hi:Option Int)(n:Nat):(RK lo hi none n).1=((HT.sIx n 0 lo:Nat):Int)/\(RK lo hi none n).2.1=((HT.sIx n n hi:Nat):Int)/\(RK lo hi none n).2.2=1:=by
 refine⟨?_,?_,Z⟩
 ·cases lo with
  |none=>simp[RK,HT.sIx]
  |some i=>
   simp only[RK,HT.sIx,TJ,show(1:Int)>0 by decide,if_true];by_cases h:i<0
   ·simp only[h,if_true]<;>omega
   ·simp only[h,if_false]<;>omega
 ·cases hi with
  |none=>simp[RK,HT.sIx]
  |some i=>
   simp only[RK,HT.sIx,TJ,show(1:Int)>0 by decide,if_true];by_cases h:i<0
   ·simp only[h,if_true]<;>omega
   ·simp only[h,if_false]<;>omega
theorem mW(its:List Value)(lo hi:Option Int):slicePick its.toArray lo hi none=((its.drop (HT.sIx its.length 0 lo)).take (HT.sIx its.length its.length hi-HT.sIx its.length 0 lo)).toArray:=by
 obtain⟨h1,h2,h3⟩:=oP lo hi its.toArray.size;unfold slicePick;rw[h1,h2,h3];simp only[sliceRange_one,pick_run,NK]<;>rfl
def JP(K:M6):V->Option Int->Option Int->Hp->VK->Prop:=λx lo hi H Q=>∃a xs,x=.ref a/\aV K H a xs/\∀p,H p=none->Q (.ref p) (aE H p (.lst (jB xs lo hi)))
theorem BQ:xx X (JP X.K):=by
 intro pins s σ H x v vl vu lo hi sl Q I rx hs pl pu h;obtain⟨a,xs,rfl,hx,q⟩:=h
 cases rx
 obtain⟨its,r,ht,hz⟩:=I.list hx;have hlen:=r.length;refine⟨"list",_,VE.lookup,ht.isList.typeIs,?_⟩;refine wpAny_getItem_list_slice ht.isList hs pl pu .none (by simp) ?_ (by rw[NK]<;>omega);rw[mW,←hlen];refine⟨.ref s.heap.objs.size,_,I.laid (t':=s.toks) (o:=.lst (jB xs lo hi)) (λb ob q=>Nc _ q) (Nb _) ?_,Z,q _ (I.hok.fresh (Nb _))⟩;exact⟨NH (ku xs lo hi) hz,_,0,(r.drop (HT.sIx xs.length 0 lo)).take (HT.sIx xs.length xs.length hi-HT.sIx xs.length 0 lo),Nr _ Z⟩
def jA:V->Bool
 | .non=>true
 | .bl _=>true
 | .int _=>true
 | .str _=>true
 |_=>false
def DH:V->V->Bool
 | .non,.non=>true
 | .bl a,.bl b=>a==b
 | .bl a,.int b=>(if a then 1 else 0)==b
 | .int a,.bl b=>a==(if b then 1 else 0)
 | .int a,.int b=>a==b
 | .str a,.str b=>a==b
 |_,_=>false
theorem Gh(ry:bv y u)(rx:bv x v)(fy:jA y=true)(fx:jA x=true):OO A s u v (DH y x):=by
 cases y with
 |non=>
  cases ry
  cases x with
  |non=>cases rx;exact OO.same _
  |bl b=>cases rx;exact OO.none_bool b
  |int b=>obtain⟨t,rfl⟩:=rx;exact OO.none_int b t
  |str b=>obtain⟨t,rfl⟩:=rx;exact OO.none_str b t
  |_=>exact absurd (show false=true from fx) Ny
 |bl a=>
  cases ry
  cases x with
  |non=>cases rx;exact OO.bool_none a
  |bl b=>cases rx;exact OO.bool_bool a b
  |int b=>obtain⟨t,rfl⟩:=rx;exact OO.bool_int a b t
  |str b=>obtain⟨t,rfl⟩:=rx;exact OO.bool_str a b t
  |_=>exact absurd (show false=true from fx) Ny
 |int a=>
  obtain⟨t',rfl⟩:=ry
  cases x with
  |non=>cases rx;exact OO.int_none a t'
  |bl b=>cases rx;exact OO.int_bool a t' b
  |int b=>obtain⟨t,rfl⟩:=rx;exact Vi a t' b t
  |str b=>obtain⟨t,rfl⟩:=rx;exact Vb a t' b t
  |_=>exact absurd (show false=true from fx) Ny
 |str a=>
  obtain⟨t',rfl⟩:=ry
  cases x with
  |non=>cases rx;exact OO.str_none a t'
  |bl b=>cases rx;exact OO.str_bool a t' b
  |int b=>obtain⟨t,rfl⟩:=rx;exact Vc a t' b t
  |str b=>obtain⟨t,rfl⟩:=rx;exact OO.str_str a t' b t
  |_=>exact absurd (show false=true from fx) Ny
 |_=>exact absurd (show false=true from fy) Ny
def CT(x:V)(u:Value):Bool:=match u with
 | .none=>DH .non x
 | .bool b=>DH (.bl b) x
 | .int i _=>DH (.int i) x
 | .str z _=>DH (.str z) x
 |_=>false
theorem AV(r:bv y u)(f:jA y=true):CT x u=DH y x:=by
 cases y with
 |non=>cases r;rfl
 |bl b=>cases r;rfl
 |int i=>obtain⟨t,rfl⟩:=r;rfl
 |str z=>obtain⟨t,rfl⟩:=r;rfl
 |_=>exact absurd (show false=true from f) Ny
theorem pS{x:V}:∀{xs:List V} {us:List Value},bE xs us->xs.all jA=true->us.any (CT x)=xs.any λy=>DH y x
 |_,_,.nil,_=>rfl
 |y::xs,u::us,.cons r t,f=>by
  rw[Sf,NM] at f;rw[Pr,Pr,AV r f.1,pS t f.2]
theorem lZ{A:N8}{s:Nf}{x:V}{v:Value}(rx:bv x v)(fx:jA x=true):∀{xs:List V} {us:List Value},bE xs us->xs.all jA=true->∀u∈us,OO A s u v (CT x u)
 |_,_,.nil,_=>λu hu=>by cases hu
 |y::xs,u::us,.cons r t,f=>λu' hu=>by
  rw[Sf,NM] at f;rcases Nq.mp hu with rfl|hu
  ·rw[AV r f.1];exact Gh r rx f.1 fx
  ·exact lZ rx fx t f.2 u' hu
def vd(x:V)(xs:List V):Bool:=xs.any λy=>DH y x
def K1(K:M6)(neg:Bool):R2:=λx y H Q=>∃p xs,y=.ref p/\(aV K H p xs∨bC K H p xs)/\jA x=true/\xs.all jA=true/\Q (.bl (if neg then !vd x xs else vd x xs)) H
theorem gT:gK X (Oz .NotIn) (K1 X.K true):=by
 intro pins s σ H x y v u Q I rx ry h;obtain⟨p,xs,rfl,hq,fx,fs,q⟩:=h
 cases ry
 rcases hq with hq|hq
 ·obtain⟨its,r,pl,hz⟩:=I.list hq;refine SeqAt.notIn_listAt (CT x) pl.isList (λw hw=>lZ rx fx r fs w (by simpa using hw)) ⟨.bl _,H,I,Z,?_⟩;rw[show its.toArray.any (CT x)=its.any (CT x) by simp,pS r fs];exact q
 ·obtain⟨its,r,pl,hz⟩:=I.tuple hq;refine SeqAt.notIn_tupleAt (CT x) pl (λw hw=>lZ rx fx r fs w (by simpa using hw)) ⟨.bl _,H,I,Z,?_⟩;rw[show its.toArray.any (CT x)=its.any (CT x) by simp,pS r fs];exact q
theorem aH:c6 X (.builtin "len") (λxs H Q=>∃p ys,xs=[.ref p]/\(aV X.K H p ys∨bC X.K H p ys)/\Q (.int ys.length) H):=by
 intro pins s σ H xs us Q I r h;obtain⟨p,ys,rfl,hq,q⟩:=h;obtain⟨u,rfl,rx⟩:=eS r
 cases rx
 have hn:=pE;rcases hq with hq|hq
 ·obtain⟨its,r',pl,hz⟩:=I.list hq;have hlen:=r'.length;exact Calls.call_len_list pl.isList (by simp only[NK]<;>omega) ⟨.int ys.length,H,I.tok _,⟨s.toks+1,by rw[NK,hlen]⟩,q⟩
 ·obtain⟨its,r',pl,hz⟩:=I.tuple hq;have hlen:=r'.length;exact len_tuple pl (by simp only[NK]<;>omega) ⟨.int ys.length,H,I.tok _,⟨s.toks+1,by rw[NK,hlen]⟩,q⟩
theorem pP:c6 X (.type "list") (λxs H Q=>∃p ys,xs=[.ref p]/\(aV X.K H p ys∨bC X.K H p ys)/\∀l,H l=none->Q (.ref l) (aE H l (.lst ys))):=by
 intro pins s σ H xs us Q I r h;obtain⟨p,ys,rfl,hq,q⟩:=h;obtain⟨u,rfl,rx⟩:=eS r
 cases rx
 have fin:∀(its:List Value),bE ys its->ys.length≤sizeLine->∀(h':Np) (c':Nat),(∀b o',s.heap.get? b=some o'->h'.get? b=some o')→
   h'.get? s.heap.objs.size=some { cls:=.type "list",dict:=none,data:=.seq its.toArray c',slots:=#[]}->EP X pins σ Q (.ref s.heap.objs.size) { s with heap:=h'}:=λits r' hz h' c' kp e=>
  ⟨.ref s.heap.objs.size,_,I.laid (t':=s.toks) kp (Nb _) (show bW X.prog X.w _ h' _ (.lst ys) from⟨hz,its,c',r',e⟩),Z,q _ (I.hok.fresh (Nb _))⟩
 rcases hq with hq|hq
 ·obtain⟨its,r',pl,hz⟩:=I.list hq;have hlen:=r'.length;obtain⟨o,ho,hc,n,hd⟩:=pl.isList;exact call_list_seq p (.inl Z) ho hc hd (λh' c' kp e=>fin its r' hz h' c' kp e) (by simp only[NK]<;>omega)
 ·obtain⟨its,r',pl,hz⟩:=I.tuple hq;have hlen:=r'.length;obtain⟨o,ho,hc,n,hd⟩:=pl;exact call_list_seq p (.inr Z) ho hc hd (λh' c' kp e=>fin its r' hz h' c' kp e) (by simp only[NK]<;>omega)
theorem bJ:c6 X (.type "tuple") (λxs H Q=>∃p ys,xs=[.ref p]/\((aV X.K H p ys/\∀l,H l=none->Q (.ref l) (aE H l (.tup ys)))∨(bC X.K H p ys/\Q (.ref p) H))):=by
 intro pins s σ H xs us Q I r h;obtain⟨p,ys,rfl,h⟩:=h;obtain⟨u,rfl,rx⟩:=eS r
 cases rx
 rcases h with⟨hq,q⟩ | ⟨hq,q⟩
 ·obtain⟨its,r',pl,hz⟩:=I.list hq;have hlen:=r'.length;refine call_tuple_list pl.isList (λh' kp=>?_) (by simp only[NK]<;>omega);have I1:Inv X pins σ H { s with heap:=h'}:=I.kept (t':=s.toks) kp;have I2:Inv X pins σ (aE H h'.objs.size (.tup ys)) { s with heap:=h'.push { cls:=.type "tuple",data:=.seq its.toArray} }:=
   I1.laid (t':=s.toks) (λb o e=>Nc _ e) (Nb _) (show bW X.prog X.w _ _ _ (.tup ys) from⟨hz,its,r',Wa _ _⟩)
  exact⟨.ref h'.objs.size,_,I2,Z,q _ (I1.hok.fresh (Nb _))⟩
 ·obtain⟨its,r',pl,hz⟩:=I.tuple hq;exact call_tuple_same pl ⟨.ref p,H,I,Z,q⟩
def JD(K:M6)(T:String)(x:V)(H:Hp):Prop:=match x with
 | .str _=>T = "str"
 | .int _=>T = "int"
 | .ref p=>(T = "list"/\∃xs,aV K H p xs)∨(T = "tuple"/\∃o,K.lookup p=some o/\o.cls=.type "tuple"/\o.dict=none)∨
   (T = "dict"/\((∃kvs,H p=some (.dK kvs))∨∃kvs,H p=some (.dT kvs)))∨(T = "set"/\∃S n,H p=some (.set S n))
 |_=>False
theorem DV{pins:List (Addr×O8)}{σ:St}{H:Hp}{s:Nf}{T:String}{x:V}{v:Value}(I:Inv X pins σ H s)(r:bv x v)(ty:JD X.K T x H) :
  s.TypeIs v T/\∀a,v=.ref a->∃ob,s.heap.get? a=some ob/\ob.dict=none:=by
 cases x with
 |str z=>
  obtain⟨t,rfl⟩:=r
  cases(show T = "str" from ty)
  exact⟨typeIs_str s z t,λ_ e=>nomatch e⟩
 |int i=>
  obtain⟨t,rfl⟩:=r
  cases(show T = "int" from ty)
  exact⟨WO s i t,λ_ e=>nomatch e⟩
 |ref p=>
  cases r
  rcases ty with⟨rfl,xs,hq⟩ | ⟨rfl,o,hk,hc,hd⟩ | ⟨rfl,hk⟩ | ⟨rfl,S,n,hk⟩
  ·obtain⟨its,_,pl,_⟩:=I.list hq;refine⟨pl.isList.typeIs,λa e=>?_⟩
   cases e
   obtain⟨o,n,e,c,hd,_⟩:=pl;exact⟨o,e,hd⟩
  ·refine⟨⟨o,I.kIn p o hk,hc⟩,λa e=>?_⟩
   cases e
   exact⟨o,I.kIn _ o hk,hd⟩
  ·have z:∃o,s.heap.get? p=some o/\o.ExactDict:=by
    rcases hk with⟨kvs,hk⟩ | ⟨kvs,hk⟩
    ·obtain⟨_,_,_,_,o,_,_,e,ex,_⟩:=I.hok p _ hk;exact⟨o,e,ex⟩
    ·obtain⟨_,_,_,_,o,_,_,e,ex,_⟩:=I.hok p _ hk;exact⟨o,e,ex⟩
   obtain⟨o,e,ex⟩:=z;refine⟨⟨o,e,ex.1⟩,λa e2=>?_⟩
   cases e2
   exact⟨o,e,ex.2.1⟩
  ·obtain⟨o,_,_,_,e,ex,_⟩:=I.hok p _ hk;refine⟨⟨o,e,ex.1⟩,λa e2=>?_⟩
   cases e2
   exact⟨o,e,ex.2.1⟩
 |_=>exact QP ty
def LO(K:M6)(T:String)(r:V->List V->Hp->VK->Prop)(to:TE):TE:=λσ H Q=>to σ H λx H1=>JD K T x H1/\r x [] H1 Q
def KM(K:M6)(T:String)(r:V->List V->Hp->VK->Prop)(to:TE)(t:TA):TE:=λσ H Q=>to σ H λx H1=>JD K T x H1/\t σ H1 λxs H2=>r x xs H2 Q
variable {o e:N9}{es:List N9}{to:TE}{t:TA}{name:NV}{apos cpos:Q4}{T id:String}{r:V->List V->Hp->VK->Prop}
theorem Ie(pa:PlainAttrs T)(slot:Slot T name id)(hty:typeOf (.builtin id)=Pq (.type "method_descriptor"))(hm:Lm X id r)(ho:PE X o to)(ha:PA X (e::es) t)
  (hbase:RB o name X.env (eval o X.env)=eval o X.env:=by rfl)
  (hfew:((Rc cpos (Nw (e::es) X.env)).all (λx=>!x.1)&&(VA cpos (Tk [] X.env)).all (λx=>x.1.isSome)
  &&decide ((e::es).length+([]:List Sv).length+(if([]:List Sv).isEmpty then 0 else 1)<30))=true:=by rfl)
  (hline:(apos.endLine==cpos.line)=true:=by rfl) (hs:Nw (e::es) X.env=(false,eval e X.env)::Nw es X.env:=by rfl) (hplain:(Rc cpos (Nw es X.env)).any (·.1)=false:=by rfl) :
  PE X (.Call (.Attribute o name apos) (e::es) [] cpos) (KM X.K T r to t):=by
 intro pins s σ H Q I h;refine wpAny_Call_method_late hbase hfew hline Z (cF (ho pins s σ H _ I h) λv s1 ⟨x,H1,I1,r1,ty,q1⟩=>?_);obtain⟨h1,h2⟩:=DV I1 r1 ty;refine⟨T,id,pa,slot,hty,h1,h2,?_⟩;have hA:=ha cpos pins s1 σ H1 _ I1 q1;rw[hs] at hA ⊢;refine Calls.callWith_builtin (by show(false||(Rc cpos (Nw es X.env)).any (·.1))=false;rw[hplain]<;>rfl) (Calls.evalArgs_plain ?_);exact cF hA λus s2 ⟨vs,H2,I2,r2,q2⟩=>hm pins s2 σ H2 x vs v us Q I2 r1 r2 q2
end
end L2
namespace L2
open PySem PySem.Spec PyProof.Rows
def Lo(X:Cx)(id:String)(r:V->List V->Hp->VK->Prop):Prop:=
 ∀(pins:List (Addr×O8)) (s:Nf) (σ:St) (H:Hp) (x:V) (xs:List V) (v:Value) (us:List Value) (Q:VK),Inv X pins σ H s->bv x v->bE xs us->r x xs H Q→
  Nv (NJ X.prog X.w) X.A (call (.builtin id) (v::us)) (EP X pins σ Q) X.xe s
theorem bE.one:∀{x:V} {us:List Value},bE [x] us->∃u,us=[u]/\bv x u
 |_,_,.cons r .nil=>⟨_,Z,r⟩
theorem bE.eraseIdx:∀{xs:List V} {us:List Value} (i:Nat),bE xs us->bE (xs.eraseIdx i) (us.eraseIdx i)
 |_,_,_,.nil=>.nil
 |_,_,0,.cons _ t=>t
 |_,_,i+1,.cons r t=>.cons r (bE.eraseIdx i t)
section
variable {X:Cx}{pins:List (Addr×O8)}{σ:St}{H:Hp}{s:Nf}{l b:Addr}{xs ys zs:List V}
theorem Inv.lset{its its':List Value}(I:Inv X pins σ H s)(hH:H l=some (.lst xs))
  (e:s.heap.get? l=some { cls:=.type "list",data:=.seq its.toArray n}) (hf:f its.toArray=its'.toArray) (hv:bE ys its') (hz:ys.length≤sizeLine):
  Inv X pins σ (aE H l (.lst ys)) { s with heap:=s.heap.update l (Rf f),toks:=t'}:=by
 have q:=PySem.IsL.update e f;rw[hf] at q;refine I.write (x:=l) (e:=l) (by rw[hH];exact trivial) (.inl Z) (λb' u hb hu=>(QR s.heap (Rf f) (Qs hb)).trans hu) ⟨_,q⟩ ?_;exact⟨hz,its',_,hv,q⟩
theorem Inv.lnew(I:Inv X pins σ H s)(hv:bE ys its)(hz:ys.length≤sizeLine):
  Inv X pins σ (aE H s.heap.objs.size (.lst ys)) { s with heap:=s.heap.push { cls:=.type "list",data:=.seq its.toArray},toks:=t'}:=
 I.laid (λ_ _ q=>Nc _ q) (Nb _) ⟨hz,its,0,hv,Nr _ Z⟩
theorem Inv.fresh(I:Inv X pins σ H s):H s.heap.objs.size=none:=I.hok.fresh (Nb _)
theorem Inv.lstM(I:Inv X pins σ H s)(hH:H l=some (.lst xs)):xs.length≤sizeLine/\∃(its:List Value) (n:Nat),bE xs its/\xs.length=its.length/\s.heap.get? l=some { cls:=.type "list",data:=.seq its.toArray n}:=by
 obtain⟨z,its,n,r,e⟩:=I.hok l _ hH;exact⟨z,its,n,r,r.length,e⟩
end
section
variable {X:Cx}
def BZ:V->List V->Hp->VK->Prop:=λx vs H Q=>∃l xs y,x=.ref l/\vs=[y]/\H l=some (.lst xs)/\xs.length<sizeLine/\Q .non (aE H l (.lst (xs++[y])))
theorem cE:Lo X "list.append" BZ:=by
 intro pins s σ H x vs v us Q I rx rv h;obtain⟨l,xs,y,rfl,rfl,hH,hz,q⟩:=h
 cases rx
 obtain⟨u,rfl,ru⟩:=rv.one;obtain⟨z,its,n,r,hl,e⟩:=I.lstM hH;refine Vl F.slot_list_append ⟨_,e,Z⟩ F.entry_list_append (F.args_list_append_2 _ _) (PySem.list_append l its.toArray n u (by rw[NK];omega)) ⟨e,?_⟩;refine⟨.non,_,I.lset (its':=its++[u]) hH e (by simp) (r.append (.cons ru .nil)) ?_,Z,q⟩;rw[NL,Q5];omega
def Jr:V->List V->Hp->VK->Prop:=λx vs H Q=>∃l b xs zs,x=.ref l/\vs=[.ref b]/\H l=some (.lst xs)/\H b=some (.lst zs)/\xs.length+zs.length≤sizeLine/\Q .non (aE H l (.lst (xs++zs)))
def LU:V->List V->Hp->VK->Prop:=λx vs H Q=>∃l xs y,x=.ref l/\vs=[]/\H l=some (.lst xs)/\xs[xs.length-1]?=some y/\Q y (aE H l (.lst xs.dropLast))
def JQ:V->List V->Hp->VK->Prop:=λx vs H Q=>∃l xs i k y,x=.ref l/\vs=[.int i]/\H l=some (.lst xs)/\-(2^63)≤i/\i<2^63/\Xh i xs.length=some k/\xs[k]?=some y/\Q y (aE H l (.lst (xs.eraseIdx k)))
def HG:V->List V->Hp->VK->Prop:=λx vs H Q=>∃l xs,x=.ref l/\vs=[]/\H l=some (.lst xs)/\Q .non (aE H l (.lst xs.reverse))
def JV:V->List V->Hp->VK->Prop:=λx vs H Q=>∃l xs,x=.ref l/\vs=[]/\H l=some (.lst xs)/\Q .non (aE H l (.lst []))
def JW:R2:=λx y H Q=>∃l b xs zs,x=.ref l/\y=.ref b/\H l=some (.lst xs)/\H b=some (.lst zs)/\xs.length+zs.length≤sizeLine/\∀p,H p=none->Q (.ref p) (aE H p (.lst (xs++zs)))
theorem tG:gK X (QX .Add) JW:=by
 intro pins s σ H x y v u Q I rx ry h;obtain⟨l,b,xs,zs,rfl,rfl,hH,hB,hz,q⟩:=h
 cases rx
 cases ry
 obtain⟨z,its,n,r,hl,e⟩:=I.lstM hH;obtain⟨z2,its2,n2,r2,hl2,e2⟩:=I.lstM hB;refine PySem.P.add_list e e2 ?_ (by rw[NK,NK];omega);have ea:its.toArray++its2.toArray=(its++its2).toArray:=by simp
 rw[ea];exact⟨.ref _,_,I.lnew (t':=s.toks) (r.append r2) (by rw[NL];omega),Z,q _ I.fresh⟩
def LT:R2:=λx y H Q=>∃l k xs,x=.ref l/\y=.int k/\H l=some (.lst xs)/\-(2^63)≤k/\k<2^63/\xs.length*k.toNat≤sizeLine∧
 ∀p,H p=none->Q (.ref p) (aE H p (.lst (ND k.toNat xs).flatten))
end
section
variable {prog:NW}{w:Ol}{A:N8}{E:Value->Nf->Prop}{s:Nf}
end
section
variable {X:Cx}
end
end L2
namespace Att
open PySem PySem.W PySem.Calls PyProof.Rows
theorem kK:∀(ns:List Int) (vs:List Value),WellAll P h vs (ns.map WData.int)->Pe vs ns:=by
 intro ns
 induction ns with
 |nil=>
  intro vs w;rw[VC] at w
  cases w
  exact .nil
 |cons n ns ih=>
  intro vs w;rw[Ob] at w
  cases w with
  |cons a b=>
   cases a
   exact .cons _ _ (ih _ b)
theorem vX{l:OpenLaw}(hn:l.most=some n){h:Np} 
  (hpre:l.row.toRowW.claim.pre args=true) (hwl:WellAll P h vals args):
  ∃a vs ns,vals=[Oy a]/\args=[WData.list (ns.map WData.int)]/\h.get? a=some { cls:=.type "list",data:=.seq vs.toArray}/\Pe vs ns/\ns.length≤n:=by
 have hsh:WShape.hasAll [] args [.list .int]=true:=(pre_splitW hpre).1;have hc:l.pre.holds [] { args:=args}=true:=(pre_splitW hpre).2;obtain⟨d,r,rfl,h1,h2⟩:=hasAllW_cons hsh;obtain rfl:=hasAllW_nil h2;obtain⟨xs,rfl,h3⟩:=hasW_list h1;obtain⟨ns,rfl⟩:=items_int h3;have hlen:ns.length≤n:=by
  unfold OpenLaw.pre at hc;have h4:(WTm.not (.lt (.lit (.int (n:Int))) (.len (.arg 0)))).holds [] { args:=[.list (ns.map .int)]}=true:=by
   have h4:=(holds_andW hc).1;rw[hn] at h4;exact h4
  have h5:=condW_of h4 (w_not (w_lt w_lit (w_len_list (w_arg Z))));rw[Na] at h5;refine Nat.le_of_not_lt λq=>?_
  have q':(n:Int)<((ns.length:Nat):Int):=by omega
  first
   | (rw[decide_eq_true q'] at h5;exact absurd h5 (by decide))
   | (simp at h5;omega)
 cases hwl with
 |cons w1 w2=>
  cases w2
  cases w1 with
  |list ho hall=>exact⟨_,_,ns,Z,Z,ho,kK ns _ hall,hlen⟩
theorem v8(l:OpenLaw)(args:List WData):l.row.toRowW.claim.post args (.bool true) args=true:=
 postW_of (r:=l.row.toRowW) (X:=(true==true))
  (show WShape.has [] (.bool true) .bool=true by first|rfl|decide|simp[WShape.has,WShape.arms,WShape.armsAll])
  (show(WTm.eq .res (.lit (.bool true))).value [] { args:=args,res:=some (.bool true),after:=args}=some (.bool (true==true)) from w_eq_bool (w_res Z) w_lit) Z
theorem attach_call{l:OpenLaw}{d:DefRec}
  (hn:l.most=some n) (hdf:d.params.defaults=[])
  (call:∀(w:Ol) (s₀ s₁:Nf) (mg mb:NV->Option Value) (fa:Addr) (o:O8) (pm cd doc:Value) (a:Addr) (vs:List Value) (ns:List Int),
   Ground q loose [] XP w s₀ mg mb s₁.heap->YP w s₁.heap→
   s₁.heap.get? fa=some o->o.data=.func (docDef d.name d.params d.body d.scope pm cd doc)->s₁.heap.CodeRec cd d.name->mg d.name=some (.ref fa)→
   s₁.heap.get? a=some { cls:=.type "list",data:=.seq vs.toArray}->Pe vs ns->ns.length≤n->s₁.gens=#[]→
   RS (NJ l.prog w) UX (.call (.ref fa) ⟨[.ref a],[]⟩) (λr s'=>r=.ok (.ret (.bool true))/\OldK s₁.heap s'.heap/\s'.os=s₁.os/\Sd s'.gens) s₁):
  WalkO q loose XP YP l.row.toRowW d [] (λf vs=>WP f vs):=by
 intro w s₀ s₁ mg mb G Y fa o pm cd doc dV kV ho hd hcd hD hmg hg args vals as hpre hlay hrd hwl hlo;obtain rfl:dV=.none:=Dflts.none hD hdf;obtain rfl:kV=.none:=Dflts.noKw hD;obtain⟨a,vs,ns,rfl,rfl,hobj,hints,hlen⟩:=vX hn hpre hwl;refine enter_call (Su (call w s₀ s₁ mg mb fa o pm cd doc a vs ns G Y ho (fd_plain hd) hcd hmg hobj hints hlen hg) λr s' hq=>?_);obtain⟨rfl,h2,h3,h4⟩:=hq;exact⟨.inl ⟨.bool true,.bool true,[],Z,λ_=>Z,.bool true,v8 l _,λ_=>⟨Qc.nil,λ_ hm=>(nomatch hm)⟩⟩,h2,h3,h4⟩
section
variable {prog:NW}{w:Ol}{A:N8}{E:Value->Nf->Prop}{s:Nf}{K:Frag}
def JZ(h:Np):Np:={ h with objs:=#[]}
def J1(h:Np)(L d:Addr):List (Addr×O8):=(M7 h.objs.size).filterMap λa=>if a=L∨a=d then none else(h.get? a).map λo=>(a,o)
end
end Att
namespace L2
open PySem PySem.Spec PyProof.Rows
theorem nv:∀{vs:List Value} {ns:List Int},Pe vs ns->bE (ns.map V.int) vs
 |_,_,.nil=>.nil
 |_,_,.cons n t h=>.cons ⟨t,Z⟩ (nv h)
def GE(H:Hp):Prop:=∀b,H b=none∨∃o xs,H b=some (.frz o (.lst xs))
theorem AF{K:M6}{s₁:Nf}{vs:List Value}{ns:List Int}
  (KX:K.In s₁.heap) (hns:s₁.heap.Ns NS mg) (hb:s₁.heap.Ns WE mb) (hbb:∀x:NV,x ≠ "__name__"->mb x=Pu x) (hlim:s₁.heap.NoLimit) (hg:s₁.gens=#[])
  (ha:s₁.heap.get? a=some { cls:=.type "list",data:=.seq vs.toArray}) (hi:Pe vs ns) (hl:ns.length≤sizeLine) (hr:ft k UX)
  (F:∀base:Np,K.In base->base.Ns NS mg->bX P w K mg base CX k fa fd [x] sp) (hbind:∀(s:Nf) (u:Value),Uf s fd ⟨[u],[]⟩ [(x,u)])
  (hsp:∀H:Hp,GE H->aV K H a (ns.map V.int)->sp [.ref a] H (λv _=>v=.bl true) λ_ _ _=>False)
  (hCX:∀H e s',CX [] H s₁ (λ_ _ _=>False) e s'->False):
  RS (NJ P w) UX (.call (.ref fa) ⟨[.ref a],[]⟩) (λr s'=>r=.ok (.ret (.bool true))/\OldK s₁.heap s'.heap/\s'.os=s₁.os/\Sd s'.gens) s₁:=by
 have rv:=nv hi;have lenV:=hi.length;have core:∀H:Hp,GE H->aV K H a (ns.map V.int)->iR P w H s₁.heap->(∀b,H b≠none->b=a)->(H a≠none->K.lookup a=none)→
   RS (NJ P w) UX (.call (.ref fa) ⟨[.ref a],[]⟩) (λr s'=>r=.ok (.ret (.bool true))/\OldK s₁.heap s'.heap/\s'.os=s₁.os/\Sd s'.gens) s₁:=by
  intro H hO hS hok hA hK;have base_of:∀{b:Addr} {o:O8},s₁.heap.get? b=some o->H b=none->(pI s₁.heap H).get? b=some o:=λe n=>AR e n
  have noA:∀{b:Addr} {o:O8} {es:Array Wc} {ep:Nat},s₁.heap.get? b=some o->o.data=.dict es ep->H b=none:=λ{b o es ep} e d=>by
   cases q:H b with
   |none=>rfl
   |some u=>
    have e':b=a:=hA b (by rw[q];simp);subst e';rw[ha] at e;cases e;have d':WK.seq vs.toArray _=WK.dict es ep:=d
    cases d'
  have nsK:∀{b:Addr} {m:NV->Option Value},s₁.heap.Ns b m->(pI s₁.heap H).Ns b m:=λ{b m} ⟨o,es,ep,e,d,r⟩=>⟨o,es,ep,base_of e (noA e d),d,r⟩
  have hKb:K.In (pI s₁.heap H):=λb o e=>base_of (KX b o e) (by
   cases q:H b with
   |none=>rfl
   |some u=>
    have e':b=a:=hA b (by rw[q];simp);subst e';rw[hK (by rw[q];simp)] at e;cases e)
  have hM:Mod K mg (pI s₁.heap H):=⟨hKb,nsK hns,⟨mb,nsK hb,hbb⟩,let ⟨mc,h1,h2⟩:=hlim;⟨mc,nsK h1,h2⟩⟩;have e0:Bj P w K mg (pI s₁.heap H) UX [] s₁ H:=⟨Z,hM,λb o e=>CA e,QU (wJ _ _),trivial,λb hb=>absurd (show b∈([]:List Addr) from hb) (by simp),hok,.of_eq hg⟩;refine Su ((F _ hKb (nsK hns)).run UX [] s₁ H ⟨[.ref a],[]⟩ [.ref a] [.ref a] _ _ hr e0 (hbind s₁ (.ref a)) (.cons Z .nil) (hsp H hO hS)) λr s' h=>?_
  cases r with
  |error e=>exact(hCX H e s' h).elim
  |ok fl=>
   cases fl with
   |next=>exact QP h
   |brk=>exact QP h
   |cont=>exact QP h
   |ret u=>
    obtain⟨v,H',os,bare,un,hok',r',q⟩:=h;have q':v=.bl true:=q;subst q';obtain rfl:u=QM true:=r';refine⟨Z,OldK.of_keep λb o e=>?_,os,bare⟩
    cases q:H b with
    |none=>exact un.keep b o e q (by intro z;exact absurd (show b∈([]:List Addr) from z) (by simp)) (by simp)
    |some u=>
     rcases hO b with z | ⟨ob,xs,z⟩
     ·rw[q] at z;cases z
     ·have z2:=un.frzs b ob _ z;obtain⟨e1,_⟩:=hok b _ z;obtain⟨e2,_⟩:=hok' b _ z2;rw[e] at e1;cases e1;exact e2
 cases hk:K.lookup a with
 |some o=>
  have e:=KX a o hk;rw[ha] at e
  cases e
  refine core (λ_=>none) (λ_=>.inl Z) (.inr ⟨_,vs.toArray,_,hk,Z,Z,Z,by rw[NK,lenV];exact hl,by simpa using rv⟩) (λb u z=>by have z':(none:Option HO)=some u:=z;cases z') (λb z=>absurd Z z) λz=>absurd Z z
 |none=>
  refine core (λb=>if b=a then some (.frz { cls:=.type "list",data:=.seq vs.toArray} (.lst (ns.map V.int))) else none) (λb=>?_) (.inl (.inr ⟨{ cls:=.type "list",data:=.seq vs.toArray},if_pos Z⟩)) (λb u z=>?_) (λb z=>?_) λ_=>hk
  ·by_cases hb:b=a
   ·exact .inr ⟨_,_,if_pos hb⟩
   ·exact .inl (if_neg hb)
  ·by_cases hb:b=a
   ·have z':=(if_pos hb).symm.trans z
    cases z'
    subst hb;exact⟨ha,by rw[Na];exact hl,vs,_,rv,ha⟩
   ·have z':=(if_neg hb).symm.trans z
    cases z'
  ·by_cases hb:b=a
   ·exact hb
   ·exact absurd (if_neg hb) z
end L2
namespace L2
open PySem PySem.Spec PyProof.Rows
abbrev M3{K:M6}{h:Np}(_:K.In h):M6:=K
theorem walk_of{l:Wz}{loose:List NV}{XP:(NV->Option Value)->Np->Prop}{YP:Ol->Np->Prop}{d:DefRec}{K:Params->M6}{CX:Ol->sg}{sp:Ol->Sp} 
  (hn:l.most=some n) (hn2:n≤sizeLine) (hdf:d.params.defaults=[]) (hr:ft k UX)
  (hY:∀(w:Ol) (h:Np),YP w h->(K w.params).In h)
  (F:∀(w:Ol) (mg:NV->Option Value) (fa:Addr) (h:Np),(K w.params).In h->h.Ns NS mg->mg d.name=some (.ref fa)→
   ∃fd:Nl,(∀(s:Nf) (u:Value),Uf s fd ⟨[u],[]⟩ [(x,u)])∧
    ∀base:Np,(K w.params).In base->base.Ns NS mg->bX l.prog w (K w.params) mg base (CX w) k fa fd [x] (sp w))
  (hsp:∀(w:Ol) (H:Hp) (a:Addr) (ns:List Int),ns.length≤n->GE H->aV (K w.params) H a (ns.map V.int)->sp w [.ref a] H (λv _=>v=.bl true) λ_ _ _=>False)
  (hCX:∀(w:Ol) (H:Hp) (s:Nf) (e:Value) (s':Nf),CX w [] H s (λ_ _ _=>False) e s'->False):
  W7 q loose XP YP l.row.toRowW d [] (λf vs=>WP f vs):=by
 refine Att.attach_call hn hdf λw s₀ s₁ mg mb fa o pm cd doc a vs ns G Y ho hd hcd hmg hobj hints hlen hg=>?_
 have KX:=hY w _ Y;obtain⟨fd,hb,hF⟩:=F w mg fa _ KX G.T.g hmg;exact AF KX G.T.g G.T.b G.T.builtins G.T.nolimit hg hobj hints (NH hlen hn2) hr hF hb (λH hO hS=>hsp w H a ns hlen hO hS) λH e s'=>hCX w H s₁ e s'
end L2
namespace L2
open PySem PySem.Spec PyProof.Rows
def Js(s:Stmt)(j:Nat):Stmt:=match s with
 | .ClassDef _ _ _ body _ _ _ _ _ _ _=>body.getD j (.Pass ⟨0,0,0,0⟩)
 |_=>.Pass ⟨0,0,0,0⟩
def f9(s:Stmt):Arguments:=match s with
 | .FunctionDef _ a _ _ _ _ _ _ _ _=>a
 |_=>{ posonlyargs:=[],args:=[],vararg:=none,kwonlyargs:=[],kw_defaults:=[],kwarg:=none,defaults:=[]}
def fF(s:Stmt):List Stmt:=match s with
 | .FunctionDef _ _ b _ _ _ _ _ _ _=>b
 |_=>[]
def av(s:Stmt):Rt:=match s with
 | .FunctionDef _ _ _ _ _ _ sc _ _ _=>sc
 |_=>{ kind:=.function,names:=[],isGenerator:=false,isCoroutine:=false}
abbrev ee:sg:=λ_ _ _ _ _ _=>False
abbrev E0:XK:=λ_ _ _=>False
theorem ju:pU ee X E0:=λ_ _ _ _ _ _ _ h=>h.elim
structure eg(K:M6)(x qual:NV)(st:Stmt)(f:Addr)(fd:Nl):Prop where
 ex:∃(oc:Value) (od:Option Addr) (kV doc pm:Value) (an:Option Addr) (cdv ct:Value) (osl:Array (Option Value)),
  fd=P8 x qual (f9 st) (fF st) (av st) .none kV doc pm an cdv ct/\K.lookup f=some ⟨oc,od,.func fd,osl⟩/\SI K cdv qual=true
 kp:PQ K (.ref f)=true
section
variable {P:NW}{w:Ol}{K:M6}{mg:NV->Option Value}{base:Np}
theorem eg.ok{x qual:NV}{st:Stmt}{f:Addr}{fd:Nl}{N ps:List NV}{k:Nat}{sp:Sp}(F:eg K x qual st f fd)(S:aM N ps (av st))(len:∀vs H Q E,sp vs H Q E->vs.length=ps.length)
  (hbody:∀(cdv:Value) (A:N8) (outer:List W6) (s:Nf) (H:Hp) (vs:List V) (Q:VK) (E:XK),ft k (A.deeper (UI qual (av st) s.heap.objs.size f cdv))->sp vs H Q E→
   ∃t,uk (b6 ee P w K mg base N qual (av st) f cdv A outer s H E).nox (fF st) t/\t { nx:=λ_ H'=>Q .non H',rt:=Q} (start N vs) H):bX P w K mg base ee (k+1) f fd ps sp:=by
 obtain⟨oc,od,kV,doc,pm,an,cdv,ct,osl,rfl,lk,hcd⟩:=F.ex;refine IF lk hcd S len λA outer s H vs Q E hr hsp=>?_
 obtain⟨t,h,q⟩:=hbody cdv A outer s H vs Q E hr hsp;exact⟨t,h.nox,q⟩
theorem eg.binds{x qual:NV}{st:Stmt}{f:Addr}{fd:Nl}{ps:List NV}(F:eg K x qual st f fd)
  (h:∀(kV doc pm:Value) (an:Option Addr) (cdv ct:Value) (us:List Value),us.length=ps.length->WL (P8 x qual (f9 st) (fF st) (av st) .none kV doc pm an cdv ct) ⟨us,[]⟩=Pq (ps.zip us)):ba K fd ps []:=by
 obtain⟨oc,od,kV,doc,pm,an,cdv,ct,osl,rfl,lk,hcd⟩:=F.ex;exact .all (h kV doc pm an cdv ct)
theorem Gf{x qual:NV}{st:Stmt}{f:Addr}{oc:Value}{od an:Option Addr}{osl:Array (Option Value)}{kV doc pm cdv ct:Value}(l:K.lookup f=some ⟨oc,od,.func (P8 x qual (f9 st) (fF st) (av st) .none kV doc pm an cdv ct),osl⟩)
  (c:SI K cdv qual=true) (k:PQ K (.ref f)=true):eg K x qual st f (P8 x qual (f9 st) (fF st) (av st) .none kV doc pm an cdv ct):=⟨⟨oc,od,kV,doc,pm,an,cdv,ct,osl,Z,l,c⟩,k⟩
end
theorem DF(hr:ft k A):A.units+1<cLine:=OP (U2 (by decide:1≤64) _) hr.units
theorem bh(h:n≤1000):n<sizeLine:=OP h (by decide)
section
variable {X:Cx}
theorem pv(i:Nat){x:NV}{pos:Q4}(hN:X.N[i]?=some x:=by rfl)(hv:IJ X.env.scope x:=by first|exact NG Z|exact NC (NG Z)|exact NC (NC Z))(hd:(x==("__debug__" : NV))=false:=by decide)
  (hcd:(x==("__classdict__" : NV))=false:=by decide):PE X (.Name x pos) (DY i):=Fb hN hv hd hcd
end
theorem d0{A B:Prop}(h:B):if false=true then A else B:=by
 rw[if_neg Ny];exact h
theorem hJ{A B:Prop}(h:A):if true=true then A else B:=by
 rw[if_pos Z];exact h
theorem AK{c A B:Prop}[Decidable c](h1:c->A)(h2:¬c->B):if c then A else B:=by
 by_cases h:c
 ·rw[if_pos h];exact h1 h
 ·rw[if_neg h];exact h2 h
theorem io{c A B:Prop}[Decidable c](hc:c)(h:B):if(!decide c)=true then A else B:=by
 rw[decide_eq_true hc];exact d0 h
def aD(H H':Hp):Prop:=∀b o,H b=some o->H' b=some o
theorem aD.refl(H:Hp):aD H H:=λ_ _ h=>h
theorem aD.trans(a:aD H H1)(b:aD H1 H2):aD H H2:=λc o h=>b c o (a c o h)
theorem aD.seq{K:M6}{H H':Hp}{a:Addr}{xs:List V}(e:aD H H')(h:aV K H a xs):aV K H' a xs:=by
 rcases h with(h | ⟨o,h⟩)|h
 ·exact .inl (.inl (e _ _ h))
 ·exact .inl (.inr ⟨o,e _ _ h⟩)
 ·exact .inr h
end L2
set_option maxHeartbeats 4000000
namespace B
open PySem L2 PyProof.Rows
theorem AJ{c A B:Prop}[Decidable c](hc:¬c)(h:A):if(!decide c)=true then A else B:=by
 have e:(!decide c)=true:=by rw[decide_eq_false hc];rfl
 rw[if_pos e];exact h
theorem cC{c A B:Prop}[Decidable c](hc:c)(h:A):if decide c=true then A else B:=by
 rw[if_pos (decide_eq_true hc)];exact h
theorem cr{c A B:Prop}[Decidable c](hc:¬c)(h:B):if decide c=true then A else B:=by
 have e:¬decide c=true:=by rw[decide_eq_false hc];intro z;cases z
 rw[if_neg e];exact h
theorem nM{b:Bool}{A B:Prop}(hb:b=true)(h:A):if b=true then A else B:=by rw[if_pos hb];exact h
theorem g7{b:Bool}{A B:Prop}(hb:b=false)(h:B):if b=true then A else B:=by
 rw[if_neg (by rw[hb];intro z;cases z)];exact h
def kq(A B:String):Option Bool:=if(Pt A==Pt B)=true then some true else if PySem.W.kitMeta B=true then(fastBuiltinMro A).map (·.contains (.type B)) else none
theorem tR{K:M6}{A B:String}{b:Bool}(h:kq A B=some b):Re K (.type A) (.type B)=some b:=h
inductive Ty(H:Hp):V->String->Prop where
 |non:Ty H .non "NoneType"
 |bl (b:Bool):Ty H (.bl b) "bool"
 |int (i:Int):Ty H (.int i) "int"
 |str (x:NV):Ty H (.str x) "str"
 |lst {a:Addr} {xs:List V} (e:H a=some (.lst xs)):Ty H (.ref a) "list"
 |tup {a:Addr} {xs:List V} (e:H a=some (.tup xs)):Ty H (.ref a) "tuple"
theorem Ty.of(K:M6)(h:Ty H v n):kd K H v (.type n):=by
 cases h with
 |non=>exact .non
 |bl b=>exact .bl b
 |int i=>exact .int i
 |str x=>exact .str x
 |lst e=>exact .lst e
 |tup e=>exact .tup e
def JT:List V->Hp->VK->Prop:=λxs H Q=>∃x n m b,xs=[x,.ty n]/\Ty H x m/\kq m n=some b/\Q (.bl b) H
theorem jD:c6 X (.builtin "isinstance") JT:=by
 intro pins s σ H xs us Q I r h;obtain⟨x,n,m,b,rfl,ty,e,q⟩:=h;obtain⟨u,u2,rfl,rx,ry⟩:=ux r;obtain rfl:u2=Pt n:=ry;exact wF I rx (ty.of X.K) (tR e) λtk=>⟨.bl b,H,I.tok tk,Z,q⟩
def JC:V->Bool
 | .int _=>true
 |_=>false
def LA(n:String):Bool:=n == "tuple"
structure bP(t:Addr)(H H':Hp):Prop where
 keep:∀b o,b≠t->H b=some o->H' b=some o
 tp:∃xs,H t=some (.lst xs)
 tp':∃xs,H' t=some (.lst xs)
theorem bP.trans(a:bP t H H1)(b:bP t H1 H2):bP t H H2:=⟨λc o n e=>b.keep c o n (a.keep c o n e),a.tp,b.tp'⟩
theorem bP.up(h:H t=some (.lst xs)):bP t H (aE H t (.lst ys)):=⟨λc o n e=>by rw[aJ n];exact e,⟨_,h⟩,⟨_,ag⟩⟩
theorem ai(h:H p=none)(o:HO):aD H (aE H p o):=λb u q=>by rw[aJ (aU q h)];exact q
theorem bP.same(s:aD H H')(h:∃xs,H t=some (.lst xs)):bP t H H':=⟨λc o _ e=>s c o e,h,let ⟨xs,e⟩:=h;⟨xs,s _ _ e⟩⟩
theorem bP.new(h:∃xs,H t=some (.lst xs))(n:H p=none)(o:HO):bP t H (aE H p o):=bP.same (ai n o) h
theorem bP.refl(h:∃xs,H t=some (.lst xs)):bP t H H:=⟨λ_ _ _ e=>e,h,h⟩
def Th(H:Hp)(v:V):Prop:=∃n,Ty H v n/\∀a xs,v=.ref a->H a=some (.tup xs)->∀x∈xs,∃m,Ty H x m
theorem JY{xs:List V}(h0:0≤r)(h1:r<(xs.length:Int)):∃v,mN xs r=some v/\v∈xs:=by
 have hk:r.toNat<xs.length:=by omega
 have ek:r=((r.toNat:Nat):Int):=by omega
 have q:mN xs ((r.toNat:Nat):Int)=some xs[r.toNat]:=aY (M8 hk);rw[←ek] at q;exact⟨_,q,NY hk⟩
theorem HV{ns:List Int}(h0:0≤r)(h1:r<(ns.length:Int)):∃z:Int,mN (ns.map V.int) r=some (.int z):=by
 obtain⟨v,h,hv⟩:=JY (xs:=ns.map V.int) h0 (by rw[Na];exact h1);obtain⟨z,_,rfl⟩:=Nu.mp hv;exact⟨z,h⟩
structure Gy(H:Hp)(t s:Addr):Prop where
 ex:∃(ns:List Int) (p q r:Int),H t=some (.lst [.ref s,.int p,.int q,.int r])/\H s=some (.lst (ns.map V.int))/\s≠t/\ns.length≤63/\0≤p/\0≤q/\0≤r
def Jf(K:M6):Sp:=λvs H Q _=>∃(a:Addr) (ns:List Int),vs=[.ref a]/\aV K H a (ns.map V.int)/\∀(t s:Addr) (H':Hp),aD H H'->H t=none->H s=none->Gy H' t s->Q (.ref t) H'
def Jh:Sp:=λvs H Q _=>∃(t s:Addr) (m:Int),vs=[.ref t,.int m]/\Gy H t s/\0<m/\m<1073741824/\∀(r:Int) (xs:List V),0≤r->r<m->Gy (aE H t (.lst xs)) t s->Q (.int r) (aE H t (.lst xs))
def Jg(K:M6):Sp:=λvs H Q _=>∃(a:Addr) (ns:List Int),vs=[.ref a]/\aV K H a (ns.map V.int)/\ns.length≤63/\∀H',Q (.bl true) H'
theorem rH(ha:0≤a)(hb:0<b):Nx b (a%b)=Nx a b:=by
 obtain⟨n,rfl⟩:=OF ha;obtain⟨m,rfl⟩:=OF (Ox hb);rw[←Wg];show Nat.gcd m (n%m)=Nat.gcd n m;rw[Nat.gcd_comm m,←Nat.gcd_rec,Nat.gcd_comm]
theorem ui(i:Int):(if i<0 then -i else i)=(i.natAbs:Int):=by split<;>omega
end B
namespace B
open PySem PySem.Spec L2 PyProof.Rows
mutual
inductive bH(K:M6)(H:Hp):V->PyData->Prop where
 |non:bH K H .non .none
 |bl (b:Bool):bH K H (.bl b) (.bool b)
 |int (i:Int):bH K H (.int i) (.int i)
 |str (x:NV):bH K H (.str x) (.str x)
 |lst {a:Addr} {xs:List V} {ds:List PyData} (e:aV K H a xs) (h:aZ K H xs ds):bH K H (.ref a) (.list ds)
 |tup {a:Addr} {xs:List V} {ds:List PyData} (e:bC K H a xs) (h:aZ K H xs ds):bH K H (.ref a) (.tuple ds)
inductive aZ(K:M6)(H:Hp):List V->List PyData->Prop where
 |nil:aZ K H [] []
 |cons {x:V} {d:PyData} {xs:List V} {ds:List PyData} (h:bH K H x d) (t:aZ K H xs ds):aZ K H (x::xs) (d::ds)
end
mutual
theorem bH.reads{X:Cx}{pins:List (Addr×O8)}{σ:L2.St}{H:Hp}{s:Nf}(I:Inv X pins σ H s):∀{v:V} {d:PyData} {u:Value},bH X.K H v d->bv v u->∃as,Reads s.heap u d as
 |_,_,u,.non,r=>by cases(show u=PH from r);exact⟨_,.none⟩
 |_,_,u,.bl b,r=>by cases(show u=QM b from r);exact⟨_,.bool b⟩
 |_,_,u,.int i,r=>by obtain⟨t,q⟩:=(show ∃t,u=PY i t from r);cases q;exact⟨_,.int i t⟩
 |_,_,u,.str x,r=>by obtain⟨t,q⟩:=(show ∃t,u=TF x t from r);cases q;exact⟨_,.str x t⟩
 |_,_,u,.lst (a:=a) e h,r=>by
  cases(show u=Oy a from r)
  obtain⟨its,rv,⟨o,n,ho,hc,_,hd⟩,_⟩:=I.list e;obtain⟨as,q⟩:=aZ.reads I h rv;exact⟨_,.list ho hc hd (by simpa using q)⟩
 |_,_,u,.tup (a:=a) e h,r=>by
  cases(show u=Oy a from r)
  obtain⟨its,rv,⟨o,ho,hc,n,hd⟩,_⟩:=I.tuple e;obtain⟨as,q⟩:=aZ.reads I h rv;exact⟨_,.tuple ho hc hd (by simpa using q)⟩
theorem aZ.reads{X:Cx}{pins:List (Addr×O8)}{σ:L2.St}{H:Hp}{s:Nf}(I:Inv X pins σ H s):∀{vs:List V} {ds:List PyData} {us:List Value},aZ X.K H vs ds->bE vs us->∃as,ReadsAll s.heap us ds as
 |_,_,_,.nil,.nil=>⟨_,.nil⟩
 |_,_,_,.cons h t,.cons r q=>
  let ⟨_,a⟩:=bH.reads I h r;let ⟨_,b⟩:=aZ.reads I t q
  ⟨_,.cons a b⟩
end
structure Bg(d:PyData):Prop where
 sh:d.showable=true
 nd:d.hasDict=false
 sz:d.shown.length≤sizeLine
 dp:d.depth≤16
def HI(K:M6):List V->Hp->VK->Prop:=λxs H Q=>∃v d,xs=[v]/\bH K H v d/\Bg d/\Q (.str d.shown) H
theorem nU(hr:ft k X.A):c6 X (.builtin "repr") (HI X.K):=by
 intro pins s σ H xs us Q I r h;obtain⟨v,d,rfl,dp,sh,q⟩:=h;obtain⟨u,rfl,ru⟩:=eS r
 cases dp with
 |non=>cases(show u=PH from ru);exact PySem.P.repr_of_none ⟨.str "None",H,I.tok _,⟨_,Z⟩,q⟩
 |bl b=>cases(show u=QM b from ru);exact PySem.P.repr_of_bool ⟨.str _,H,I.tok _,⟨_,Z⟩,q⟩
 |int i=>
  obtain⟨t,e⟩:=(show ∃t,u=PY i t from ru)
  cases e
  exact PySem.P.repr_of_int (of_decide_eq_true sh.sh) ⟨.str _,H,I.tok _,⟨_,Z⟩,q⟩
 |str x=>
  obtain⟨t,e⟩:=(show ∃t,u=TF x t from ru)
  cases e
  exact PySem.P.repr_of_str ⟨.str _,H,I.tok _,⟨_,Z⟩,q⟩ sh.sz
 | @lst a ys ds e h=>
  cases(show u=Oy a from ru)
  obtain⟨as,rd⟩:=bH.reads I (.lst e h) (show bv (.ref a) (.ref a) from Z);exact repr_of_reads' rd sh.sh (λz=>by rw[sh.nd] at z;cases z) hr.gd (by have:=hr.units;have:=sh.dp;omega) (λ_ _ z=>z) (λh' u tk hk=>⟨.str _,H,I.kept hk,⟨_,Z⟩,q⟩) sh.sz
 | @tup a ys ds e h=>
  cases(show u=Oy a from ru)
  obtain⟨as,rd⟩:=bH.reads I (.tup e h) (show bv (.ref a) (.ref a) from Z);exact repr_of_reads' rd sh.sh (λz=>by rw[sh.nd] at z;cases z) hr.gd (by have:=hr.units;have:=sh.dp;omega) (λ_ _ z=>z) (λh' u tk hk=>⟨.str _,H,I.kept hk,⟨_,Z⟩,q⟩) sh.sz
end B
namespace B
open PySem PySem.Spec L2 PyProof.Rows
def j6(X:Cx)(N':List NV)(scope:Rt)(cl:List (NV×Addr))(C:Addr)(fp:List Addr)(pins:List (Addr×O8))(s:Nf)(H:Hp):Cx:=
 { X with N:=N',s₀:=s,H₀:=H,env:=RU scope cl C X.env,outer:=X.stack,stack:=X.stack,ex:=fp,fn:=λ_=>false,pn:=X.pn++pins,xe:=λ_ _=>False}
def cS(X:Cx)(scope:Rt)(cl:List (NV×Addr)):List NV->List (Option Nat)->Prop
 | [],[]=>True
 |_::N,none::r=>cS X scope cl N r
 |x::N,some j::r=>X.N[j]?=some x/\X.env.kindOf x=some .cell/\(RU scope cl 0 X.env).kindOf x=some .cell/\cl.lookup x=X.env.cells.lookup x/\cS X scope cl N r
 |_,_=>False
def cJ(src:List (Option Nat))(σ:L2.St):L2.St:=src.map λo=>o.bind λj=>(σ[j]?).getD none
theorem cS.len{X:Cx}{scope:Rt}{cl:List (NV×Addr)}:∀{N:List NV} {src:List (Option Nat)},cS X scope cl N src->N.length=src.length
 | [],[],_=>rfl
 |_::_,none::_,h=>congrArg (·+1) (cS.len (X:=X) (scope:=scope) (cl:=cl) h)
 |_::_,some _::_,h=>congrArg (·+1) (cS.len (X:=X) (scope:=scope) (cl:=cl) h.2.2.2.2)
theorem cS.at{X:Cx}{scope:Rt}{cl:List (NV×Addr)}{σ:L2.St}:∀{N:List NV} {src:List (Option Nat)} {i:Nat} {x:NV} {v:V},cS X scope cl N src->N[i]?=some x->(cJ src σ)[i]?=some (some v)→
  ∃j:Nat,X.N[j]?=some x/\σ[j]?=some (some v)/\X.env.kindOf x=some .cell/\(RU scope cl 0 X.env).kindOf x=some .cell/\cl.lookup x=X.env.cells.lookup x
 |y::N,none::r,0,x,v,h,e,q=>by cases q
 |y::N,none::r,i+1,x,v,h,e,q=>cS.at (N:=N) (src:=r) (i:=i) h e q
 |y::N,some j::r,0,x,v,h,e,q=>by
  cases e
  refine⟨j,h.1,?_,h.2.1,h.2.2.1,h.2.2.2.1⟩;have q':some ((σ[j]?).getD none)=some (some v):=q;injection q' with q'
  cases z:σ[j]? with
  |none=>rw[z] at q';cases q'
  |some o=>rw[z] at q';exact congrArg some q'
 |y::N,some j::r,i+1,x,v,h,e,q=>cS.at (N:=N) (src:=r) (i:=i) h.2.2.2.2 e q
def fG(X:Cx)(scope:Rt)(cl:List (NV×Addr)):Prop:=
 (∀x,((RU scope cl 0 X.env).kindOf x=some .cell∨(RU scope cl 0 X.env).kindOf x=some .free)->∃c,cl.lookup x=some c)/\∀x c,cl.lookup x=some c->X.env.cells.lookup x=some c
def iL(X:Cx):List (NV×Addr)->Prop
 | []=>True
 |y::r=>X.env.cells.lookup y.1=some y.2/\iL X r
theorem iL.mem{X:Cx}:∀{cl:List (NV×Addr)},iL X cl->∀y∈cl,X.env.cells.lookup y.1=some y.2
 | [],_,y,h=>by cases h
 |z::r,k,y,h=>by
  rcases Nq.mp h with e|h
  ·rw[e];exact k.1
  ·exact iL.mem k.2 y h
theorem mem_of_lookup{α:Type}{x:NV}{v:α}:∀{l:List (NV×α)},l.lookup x=some v->(x,v)∈l
 | [],h=>by cases h
 | (y,w)::r,h=>by
  rw[R7] at h
  cases e:x==y with
  |true=>
   rw[e] at h;have e':x=y:=Sz e
   cases h
   rw[e'];exact Ng
  |false=>
   rw[e] at h;exact No _ (mem_of_lookup h)
theorem aS(h1:((VF scope X.env).names.all λy=>!(y.2==.cell||y.2==.free)||(cl.lookup y.1).isSome)=true)(h2:iL X cl):fG X scope cl:=by
 refine⟨λx h=>?_,λx c e=>h2.mem _ (mem_of_lookup e)⟩;have h3:=N4.mp h1;have key:∀k:RA,(k=.cell∨k=.free)->(VF scope X.env).names.lookup x=some k->∃c,cl.lookup x=some c:=λk hk e=>by
  have q:=h3 _ (mem_of_lookup e);have z:(k==U7||k==W8)=true:=by rcases hk with rfl|rfl<;>rfl
  simp only[z,PM,Tu] at q;exact Pj.mp q
 rcases h with h|h
 ·exact key _ (.inl Z) h
 ·exact key _ (.inr Z) h
def fu(σ σ':L2.St):Prop:=σ'.length=σ.length/\∀(i:Nat) (v:V),σ[i]?=some (some v)->σ'[i]?=some (some v)
theorem fu.set(h:σ[i]?=some none):fu σ (σ.set i (some v)):=by
 refine⟨P2,λj u e=>?_⟩;have ne:i≠j:=λz=>by subst z;rw[h] at e;cases e
 rw[OJ ne];exact e
theorem fu.set'(e:fu σ τ)(h:σ[i]?=some none):fu σ (τ.set i (some v)):=by
 refine⟨by rw[P2];exact e.1,λj u q=>?_⟩;have ne:i≠j:=λz=>by subst z;rw[h] at q;cases q
 rw[OJ ne];exact e.2 j u q
section
variable {X:Cx}{N':List NV}{scope:Rt}{cl:List (NV×Addr)}{src:List (Option Nat)}{pins:List (Addr×O8)}{σ:L2.St}{H:Hp}{s:Nf}{fp:List Addr}
theorem Cx.comp_ok{C:Addr}(I:Inv X pins σ H s)(hC:s.heap.objs.size≤C)(hk:scope.kind=.function)(hf:∀b∈fp,hX X pins H b)(hfs:∀b∈fp,b<s.heap.objs.size)(hc:fG X scope cl) :
  (j6 X N' scope cl C fp pins s H).Ok where
 mod:=I.ok.mod
 kind:=hk
 glob:=I.ok.glob
 blt:=I.ok.blt
 above:=hC
 inj:=λx y c e1 e2=>I.ok.inj x y c (hc.2 x c e1) (hc.2 y c e2)
 has:=λx h=>hc.1 x h
 cab:=λx c z=>nomatch z
 hd:=I.ok.hd
 frames:=I.ok.frames
 stk:=.inl Z
 exf:=λb hb=>⟨λz=>by have:=hfs b hb;rw[show b=C from z] at this;exact absurd (NE this hC) (Of _),λx c e=>(hf b hb).2.2.2.2.1 x c (hc.2 x c e)⟩
 bs:=I.bs
 bsz:=NH I.ok.bsz I.sz
 noex:=λb o e hb=>by
  rcases(hf b hb).2.2.2.1 with z|z
  ·exact I.ok.noex b o e z
  ·rw[(I.ok.bs b o e).1] at z;cases z
 exfs:=λb hb z=>by
  rcases Nq.mp (I.stkSub b z) with q|q
  ·exact(hf b hb).2.1 q
  ·exact(hf b hb).2.2.1 q
 funs:=I.stack
 frf:=I.stkFree
theorem Inv.comp{C:Addr}{h₁:Np}{m:NV->Option Value}{tk:Nat}(I:Inv X pins σ H s)(hC:C=s.heap.objs.size)(hns:h₁.Ns C m)(keep:∀b o,s.heap.get? b=some o->h₁.get? b=some o)
  (hk:scope.kind=.function) (hf:∀b∈fp,hX X pins H b) (hfs:∀b∈fp,b<s.heap.objs.size) (hc:fG X scope cl) (hfree:cS X scope cl N' src) :
  Inv (j6 X N' scope cl C fp pins s H) [] (cJ src σ) H { s with heap:=h₁,toks:=tk} where
 ok:=Cx.comp_ok I (QU hC.symm) hk hf hfs hc
 os:=Z
 bare:=I.bare
 base:=Un.kept keep
 loc:=⟨m,hns,λi x v e1 e2 _=>by
  obtain⟨j,hj,hσ,kc,kc',hl⟩:=hfree.at e1 e2;obtain⟨m0,hn0,hl0⟩:=I.loc;obtain⟨u,r,l⟩:=hl0 j x v hj hσ (NC (NG kc));rcases l with⟨k,_⟩ | ⟨k,c,e,o,ho,hd⟩
  ·rw[kc] at k;cases k
  ·exact⟨u,r,.inr ⟨.inl kc',c,hl.trans e,o,keep c o ho,hd⟩⟩⟩
 cell:=λx c e=>let ⟨v,o,ho,hd⟩:=I.cell x c (hc.2 x c e);⟨v,o,keep _ _ ho,hd⟩
 free:=I.hok.fresh (QU hC.symm)
 freeC:=λx c e=>I.freeC x c (hc.2 x c e)
 pin:=λp hp=>by
  have hp':p∈X.pn++pins:=by
   have z:p∈(X.pn++pins)++[]:=hp;rw[O1] at z;exact z
  obtain⟨e,n,ne,nf,d⟩:=I.pin p hp';refine⟨keep _ _ e,n,λz=>?_,λz=>?_,d⟩
  ·have:=Nt e;rw[show p.1=C from z,hC] at this;exact Of _ this
  ·rcases Nq.mp (I.stkSub _ z) with q|q
   ·exact ne q
   ·exact nf q
 hok:=I.hok.kept keep
 len:=by show(cJ src σ).length=N'.length;unfold cJ;rw[Na,hfree.len]
end
def DO(X:Cx)(ifs:List N9)(t:TT):Prop:=
 ∀(pins:List (Addr×O8)) (s:Nf) (σ:L2.St) (H:Hp) (Q:Bool->Hp->Prop),Inv X pins σ H s->t σ H Q→
  Nv (NJ X.prog X.w) X.A (forIn ifs true λc r=>if r=true then do let ok ←isTrue c X.env (eval c X.env);Pq (Sq ok) else Pq (Sq r)) (TP X pins σ Q) X.xe s
def Hd:TT:=λ_ H Q=>Q true H
theorem B5:DO X [] Hd:=λ_ _ _ H _ I h=>wpAny_tests_nil ⟨H,I,h⟩
theorem B4(h:PT X c t):DO X [c] t:=λpins s σ H Q I q=>wpAny_tests_one (h pins s σ H Q I q)
section
variable {prog:NW}{w:Ol}{A:N8}{R:We->Nf->Prop}{s:Nf}
theorem nT(I:Nat->Nf->Prop)
  (turn:∀n s,I n s->Nv (NJ prog w) A (RQ it) (λr s₁=>match r with
   |none=>R (.ok .next) s₁
   |some v=>Nv (NJ prog w) A (Sn target it v) (λ_ s₁'=>Nv (NJ prog w) A (R6 target env v) (λ_ s₂=>
     Nv (NJ prog w) A (forIn ifs true λc r=>if r=true then do let ok ←isTrue c env (eval c env);Pq (Sq ok) else Pq (Sq r)) (λok s₃=>
      if ok=true then Nv (NJ prog w) A (eval elt env) (λx s₄=>
       Nv (NJ prog w) A (call (.builtin "list.append") [acc,x]) (λ_ s₅=>∃m,m<n/\I m s₅) (λ_ _=>False) s₄) (λ_ _=>False) s₃
      else ∃m,m<n/\I m s₃) (λ_ _=>False) s₂) (λ_ _=>False) s₁') (λ_ _=>False) s₁) (λ_ _=>False) s)
  (n:Nat) (h:I n s):RS (NJ prog w) A (.compLoop (.ListComp elt [⟨target,iter,ifs,0⟩] scope pos) 0 it acc env) R s:=by
 refine codeAny_loop Z I (λn s hI=>?_) n h;show Nv _ A ((compTurn (.ListComp elt [⟨target,iter,ifs,0⟩] scope pos) 0 it acc env).onRaise (λx=>do noteFrame x env;theTreesLotGoes x)) _ _ s;refine wpAny_noted ?_;rw[compTurn_list];refine M9 (Se (M9 (Qw (turn n s hI) (λr s₁ h₁=>?_) λ_ _ h'=>h'.elim)))
 cases r with
 |none=>exact Nj h₁
 |some v=>
  refine M9 (Qw h₁ (λ_ s₁' h₁'=>?_) λ_ _ h'=>h'.elim);refine M9 (Qw h₁' (λ_ s₂ h₂=>M9 (Qw h₂ (λok s₃ h₃=>?_) λ_ _ h'=>h'.elim)) λ_ _ h'=>h'.elim)
  cases ok with
  |false=>exact Nj ⟨Z,h₃⟩
  |true=>
   exact M9 (M9 (Qw h₃ (λx s₄ h₄=>M9 (Qw h₄ (λ_ s₅ h₅=>Nj (Nj ⟨Z,h₅⟩)) λ_ _ h'=>h'.elim)) λ_ _ h'=>h'.elim))
end
structure xg(X:Cx)(pins:List (Addr×O8))(H:Hp)(C:Addr):Prop where
 no:H C=none
 lo:C≠X.env.locals
 fs:C∉X.fs
 old:X.s₀.heap.get? C=none
 ce:∀x c,X.env.cells.lookup x=some c->c≠C
 pn:∀p∈X.pn++pins,p.1≠C
theorem xg.turned{X:Cx}{pins:List (Addr×O8)}{σ:L2.St}{H:Hp}{C:Addr}{s:Nf}(o:xg X pins H C)(I:Inv X pins σ H s){h':Np}(sb:Ow C s.heap h'):Inv X pins σ H { s with heap:=h'}:=
 I.turned (it:=C) (t':=s.toks) (λb u hb e=>sb.extBut b u hb e) o.no o.lo (.inr o.old) o.ce o.pn
def jg(wi:TI)(src:List (Option Nat))(g:TG)(tt:TT)(te:TE):TE:=λσ H Q=>wi σ H λJ H1=>∀D,H1 D=none->∃W:Nat->Nat->List V->Hp->Prop,
 (∃m,W 0 m [] (aE H1 D (.lst [])))/\∀i m ys H,W i m ys H->(J.stop i H/\Q (.ref D) H)∨(J.go i H/\∀x H',J.yld i H x H'->g x (cJ src σ) H' λσ2 H2=>fu (cJ src σ) σ2/\tt σ2 H2 λok H3=>
  if ok=true then te σ2 H3 λy H4=>H4 D=some (.lst ys)/\ys.length<sizeLine/\∃m',m'<m/\W (i+1) m' (ys++[y]) (aE H4 D (.lst (ys++[y]))) else ∃m',m'<m/\W (i+1) m' ys H3)
section
variable {X:Cx}{N':List NV}{scope:Rt}{cl:List (NV×Addr)}{src:List (Option Nat)}{tg iter elt:N9}{ifs:List N9}{wi:TI}{g:TG}{tt:TT}{te:TE}{pos:Q4}
theorem rS(hc:X.calm=true)(hi:PI X tg iter wi)(hg:∀C fp pins s H,PG (j6 X N' scope cl C fp pins s H) tg g)(ht:∀C fp pins s H,DO (j6 X N' scope cl C fp pins s H) ifs tt)
  (he:∀C fp pins s H,PE (j6 X N' scope cl C fp pins s H) elt te) (hfree:cS X scope cl N' src) (hcell:∀x∈scope.names,x.2≠.cell) (hkind:scope.kind=.function) (hcl:fG X scope cl)
  {RR:Value->Addr->We->Nf->Prop} {pins:List (Addr×O8)} {s:Nf} {σ:L2.St} {H:Hp} {Q:VK} (I:Inv X pins σ H s) (h:jg wi src g tt te σ H Q)
  (hRR:∀D C H' s',Q (.ref D) H'->(∃m,s'.heap.Ns C m)->Inv X pins σ H' s'->xg X pins H' C->RR (.ref D) C (.ok .next) s') :
  Nv (NJ X.prog X.w) X.A (eval iter X.env) (λx s₁=>Nv (NJ X.prog X.w) X.A (Vd x) (λitv s₂=>Nv (NJ X.prog X.w) X.A (VG []) (λacc s₃=>
   Nv (NJ X.prog X.w) X.A (SL scope X.env.globals cl [] X.env.qual none .none (some X.env)) (λcenv s₄=>
    RS (NJ X.prog X.w) X.A (.compStart (.ListComp elt [⟨tg,iter,ifs,0⟩] scope pos) 0 itv acc { cenv with scope:=VF scope X.env}) (RR acc cenv.locals) s₄) X.xe s₃) X.xe s₂) X.xe s₁) X.xe s:=by
 refine cF (hi pins s σ H _ I h) λv s1 h1=>cF h1 λitv s2 h2=>?_
 obtain⟨it,fp,tn,J,H2,e,I2,T,st2,f2,h2⟩:=h2;subst e;refine N3 ?_ (by show 0≤sizeLine;exact NB _);have hD:H2 s2.heap.objs.size=none:=I2.fresh;have I3:Inv X pins σ (aE H2 s2.heap.objs.size (.lst [])) { s2 with heap:=s2.heap.push { cls:=.type "list",data:=.seq ([]:List Value).toArray} }:=I2.lnew (t':=s2.toks) (its:=[]) .nil (NB _);obtain⟨W,⟨m0,w0⟩,turn⟩:=h2 s2.heap.objs.size hD;generalize hDe:s2.heap.objs.size=D at I3 turn w0 hD ⊢;have st3:tn 0 (s2.heap.push { cls:=.type "list",data:=.seq ([]:List Value).toArray}):=T.keep _ _ _ st2 λb _ o e=>Nc _ e
 have f3:∀b∈fp,hX X pins (aE H2 D (.lst [])) b/\b<(s2.heap.push { cls:=.type "list",data:=.seq ([]:List Value).toArray}).objs.size:=λb hb=>by
  obtain⟨o,e,_⟩:=T.obj _ _ st2 b hb;have l:=Nt e;rw[hDe] at l;refine⟨⟨?_,(f2 b hb).2⟩,by rw[O9,hDe];exact OM l⟩;rw[aJ (NT l)];exact(f2 b hb).1
 generalize (s2.heap.push { cls:=.type "list",data:=.seq ([]:List Value).toArray})=h3 at I3 st3 f3 ⊢;refine wpAny_newFunctionEnv hcell (by intro y hy;simp at hy) (λh₄ hns₄ hsb₄=>?_) hkind;have keep:∀b o,h3.get? b=some o->h₄.get? b=some o:=λb o e=>hsb₄.extBut b o (NT (Nt e)) (Nc _ e)
 have I4:=Inv.comp (C:=h3.objs.size) (fp:=fp) (tk:=s2.toks+([]:List (NV×Value)).length) I3 Z hns₄ keep hkind (λb hb=>(f3 b hb).1) (λb hb=>(f3 b hb).2) hcl hfree;have st4:tn 0 h₄:=T.keep _ _ _ st3 λb _ o e=>keep b o e
 have fpn:∀b∈fp,(aE H2 D (.lst [])) b=none:=λb hb=>(f3 b hb).1.1
 have hn3:∀b∈fp,b≠h3.objs.size:=λb hb=>NT (f3 b hb).2
 have stat:∀{H':Hp},(∀b∈fp,H' b=none)->∀b∈fp,hX (j6 X N' scope cl h3.objs.size fp pins { s2 with heap:=h3} (aE H2 D (.lst []))) [] H' b:=λhn b hb=>
  ⟨hn b hb,hn3 b hb,I4.ok.exfs b hb,.inl hb,λx c e=>(f3 b hb).1.2.2.2.2.1 x c (hcl.2 x c e),λp hp=>(f3 b hb).1.2.2.2.2.2 p (by
   have z:p∈(X.pn++pins)++[]:=hp;rw[O1] at z;exact z)⟩
 have back:∀{H':Hp} {s':Nf},Inv (j6 X N' scope cl h3.objs.size fp pins { s2 with heap:=h3} (aE H2 D (.lst []))) [] (cJ src σ) H' s'->(∃m,s'.heap.Ns h3.objs.size m)/\Inv X pins σ H' s'/\xg X pins H' h3.objs.size:=λ{H' s'} I'=>by
  have Ib:Inv X pins σ H' s':=I3.call' I'.os I'.base I'.hok I'.bare λb hb=>⟨(f3 b hb).1.2.2.2.1,(f3 b hb).1.2.1,(f3 b hb).1.2.2.2.2.1,(f3 b hb).1.2.2.2.2.2⟩
  refine⟨let ⟨m,hm,_⟩:=I'.loc;⟨m,hm⟩,Ib,⟨I'.free,λz=>?_,I3.nofs (Nb _),Rb I3.sz,λx c e z=>?_,λp hp z=>?_⟩⟩
  ·have:=I3.lt;rw[←z] at this;exact Of _ this
  ·obtain⟨v,o,ho,_⟩:=I3.cell x c e;have:=Nt ho;rw[z] at this;exact Of _ this
  ·obtain⟨e,_⟩:=I3.pin p hp;have:=Nt e;rw[z] at this;exact Of _ this
 have loop:RS (NJ X.prog X.w) X.A (.compLoop (.ListComp elt [⟨tg,iter,ifs,0⟩] scope pos) 0 (.ref it) (.ref D) (RU scope cl h3.objs.size X.env)) (RR (.ref D) h3.objs.size) { s2 with heap:=h₄,toks:=s2.toks+([]:List (NV×Value)).length}:=by
  refine nT (λn s'=>∃i ys H',Inv (j6 X N' scope cl h3.objs.size fp pins { s2 with heap:=h3} (aE H2 D (.lst []))) [] (cJ src σ) H' s'/\tn i s'.heap/\(∀b∈fp,H' b=none)/\W i n ys H') ?_ m0 ⟨0,[],_,I4,st4,fpn,w0⟩;rintro n s5 ⟨i,ys,H5,I5,st5,fr5,w5⟩;rcases turn i n ys H5 w5 with⟨stop,qn⟩ | ⟨go,step⟩
  ·refine cF (T.done (j6 X N' scope cl h3.objs.size fp pins { s2 with heap:=h3} (aE H2 D (.lst []))) rfl rfl rfl hc i [] s5 _ H5 _ I5 (stat fr5) st5 stop) λr s6 ⟨hr,I6⟩=>?_
   subst hr;obtain⟨b1,b2,b3⟩:=back I6;exact hRR D _ H5 s6 qn b1 b2 b3
  ·refine cF (T.item (j6 X N' scope cl h3.objs.size fp pins { s2 with heap:=h3} (aE H2 D (.lst []))) rfl rfl rfl hc i [] s5 _ H5 _ I5 (stat fr5) st5 go) λr s6 ⟨u,hr,h6⟩=>?_
   subst hr;refine cF h6 λ_ s7 ⟨x,H7,I7,r7,y7,st7,fr7⟩=>?_
   have I7':=I7.pinned (stat fr7) (T.obj _ _ st7);refine cF (hg _ _ _ _ _ _ s7 _ H7 x u _ I7' r7 (step x H7 y7)) λ_ s8 ⟨σ8,H8,I8,ex8,q8⟩=>?_
   refine cF (ht _ _ _ _ _ _ s8 σ8 H8 _ I8 q8) λok s9 ⟨H9,I9,q9⟩=>?_
   have again:∀{ys':List V} {Ha:Hp} {sa:Nf},Inv (j6 X N' scope cl h3.objs.size fp pins { s2 with heap:=h3} (aE H2 D (.lst []))) ([]++jX fp s7.heap) σ8 Ha sa->(∃m',m'<n/\W (i+1) m' ys' Ha)→
     ∃m,m<n/\∃i ys H',Inv (j6 X N' scope cl h3.objs.size fp pins { s2 with heap:=h3} (aE H2 D (.lst []))) [] (cJ src σ) H' sa/\tn i sa.heap/\(∀b∈fp,H' b=none)/\W i m ys H':=λ{ys' Ha sa} Ia ⟨m',hm,wa⟩=>by
    refine⟨m',hm,i+1,ys',Ha,(Ia.unpinned).weak ex8.1.symm ex8.2,T.keep _ _ _ st7 λb hb o e=>(Ia.pin (b,o) (Nz _ (Nz _ (eK hb e)))).1,λb hb=>?_,wa⟩;obtain⟨o,e,_⟩:=T.obj _ _ st7 b hb;exact(Ia.pin (b,o) (Nz _ (Nz _ (eK hb e)))).2.1
   cases ok with
   |false=>exact again I9 q9
   |true=>
    refine cF (he _ _ _ _ _ _ s9 σ8 H9 _ I9 q9) λy s10 ⟨yv,H10,I10,r10,q10,hz,wn⟩=>?_
    refine cF (cE _ s10 σ8 H10 (.ref D) [yv] (.ref D) [y] (λ_ Hz=>∃m',m'<n/\W (i+1) m' (ys++[yv]) Hz) I10 Z (.cons r10 .nil) ⟨D,ys,yv,Z,Z,q10,hz,wn⟩) λ_ s11 ⟨_,H11,I11,_,q11⟩=>?_
    exact again I11 q11
 exact Uk loop (T.self _ 0 _ _ _ st4 loop)
theorem Af(hc:X.calm=true)(hi:PI X tg iter wi)(hg:∀C fp pins s H,PG (j6 X N' scope cl C fp pins s H) tg g)(ht:∀C fp pins s H,DO (j6 X N' scope cl C fp pins s H) ifs tt)
  (he:∀C fp pins s H,PE (j6 X N' scope cl C fp pins s H) elt te) (hfree:cS X scope cl N' src) (hclos:R8 scope X.env=Pq cl) (hcell:∀x∈scope.names,x.2≠.cell) (hkind:scope.kind=.function)
  (hnames:∀x∈scope.names,x.2=.local->scope.names.lookup x.1=some .local) (hcl:fG X scope cl) (hs:∀x,Ph iter X.env x=Pq x:=by intro _;rfl) :
  PE X (.ListComp elt [⟨tg,iter,ifs,0⟩] scope pos) (jg wi src g tt te):=by
 intro pins s σ H Q I h;rw[eval_ListComp];refine RC (use:=none) Z hs hclos hkind hnames (rS hc hi hg ht he hfree hcell hkind hcl (RR:=λacc C=>compPost (NJ X.prog X.w) X.A X.xe none (EP X pins σ Q) acc C) I h λD C H' s' q hm hI hb=>?_);obtain⟨m,hm⟩:=hm;exact⟨m,hm,λh' sb=>⟨.ref D,H',hb.turned hI sb,Z,q⟩⟩
theorem B9{i:Nat}{x:NV}{pos' pos2:Q4}(hN:X.N.Nodup)(hi':X.N[i]?=some x)(hx:xh X.env.scope x)(hc:X.calm=true)(hi:PI X tg iter wi)(hg:∀C fp pins s H,PG (j6 X N' scope cl C fp pins s H) tg g)(ht:∀C fp pins s H,DO (j6 X N' scope cl C fp pins s H) ifs tt)
  (he:∀C fp pins s H,PE (j6 X N' scope cl C fp pins s H) elt te) (hfree:cS X scope cl N' src) (hclos:R8 scope X.env=Pq cl) (hcell:∀x∈scope.names,x.2≠.cell) (hkind:scope.kind=.function)
  (hnames:∀x∈scope.names,x.2=.local->scope.names.lookup x.1=some .local) (hcl:fG X scope cl) (hs:∀x,Ph iter X.env x=Pq x:=by intro _;rfl)
  (hsw:Q3 (.ListComp elt [⟨tg,iter,ifs,0⟩] scope pos) (some (.Name x pos')) pos2.line X.env=Pq true:=by rfl) (hf:X.fn x=true∨X.env.scope.names.lookup x=some .local:=by first|exact .inl Z|exact .inr Z|assumption) :
  PS X (.Assign [.Name x pos'] (.ListComp elt [⟨tg,iter,ifs,0⟩] scope pos) pos2) (oC (jg wi src g tt te) (jx i)):=by
 intro pins s σ H D I h;rw[Uw _ _ _ _ hsw];refine M9 (Se ?_);show Nv _ _ ((comprehension (.ListComp elt [⟨tg,iter,ifs,0⟩] scope pos) scope X.env _ (VG []) false (eval iter X.env) (some (R6 (.Name x pos') X.env)) >>= λ_=>Pq ()) >>= λ_=>Pq V9) _ _ s;refine M9 (M9 (Qw (RC (use:=some (R6 (.Name x pos') X.env)) (Q:=λ_ s''=>SP X pins D .next s'') Z hs hclos hkind hnames (rS hc hi hg ht he hfree hcell hkind hcl (RR:=λacc C=>compPost (NJ X.prog X.w) X.A X.xe (some (R6 (.Name x pos') X.env)) (λ_ s''=>SP X pins D .next s'') acc C) I h λE C H' s' q hm hI hb=>?_)) (λ_ s'' h''=>Nj (Nj h'')) λ_ _ e=>e));obtain⟨m,o,es,ep,ho,hd,r1,r2⟩:=hm;have I':Inv X (pins++[(C,o)]) σ H' s':=hI.pins_of λp hp=>by
  rcases NF.mp hp with h|h
  ·exact hI.pin p (Nz _ h)
  ·rw[Nm] at h;rw[h];exact⟨ho,hb.no,hb.lo,hb.fs,λv z=>by rw[hd] at z;cases z⟩
 refine Td (fP I' hN hi' hx (show bv (.ref E) (.ref E) from Z) (λs'' I''=>?_) hf);have hC:=(I''.pin (C,o) (Nz _ (Nz _ Ng))).1;have I3:Inv X pins (σ.set i (some (.ref E))) H' s'':=I''.pins_of λp hp=>I''.pin p (Nz _ (OX _ hp))
 exact⟨m,⟨o,es,ep,hC,hd,r1,r2⟩,λh' sb=>⟨_,H',hb.turned I3 sb,q⟩⟩
end
def JR(K:M6):R2:=λx y H Q=>∃d d',bH K H x d/\bH K H y d'/\d.canLay0=true/\d'.canLay0=true/\d.depth≤32/\Q (.bl (!PyData.eqv d d')) H
theorem o9(hr:ft k X.A):gK X (Oz .NotEq) (JR X.K):=by
 intro pins s σ H x y v u Q I rx ry h;obtain⟨d,d',hd,hd',c,c',dp,q⟩:=h;obtain⟨as,ra⟩:=bH.reads I hd rx;obtain⟨bs,rb⟩:=bH.reads I hd' ry;exact SeqAt.compareNe_reads ra rb c c' (by have:=hr.units;omega) ⟨.bl _,H,I,Z,q⟩
noncomputable def Lb (h:Np) (x:Value) (d:PyData) (y:Value):Bool:=
 open Classical in if y=x then true else if z:∃d',d'.canLay0=true/\d'.depth≤32/\∃as,Reads h y d' as then OW z.choose d else false
def DP(K:M6)(H:Hp)(xs:List V):Prop:=∀x∈xs,∃d,bH K H x d/\d.canLay0=true/\d.depth≤32
def Jl(K:M6):R2:=λx y H Q=>∃a p xs,x=.ref a/\y=.ref p/\aV K H p xs/\V.ref a∈xs/\DP K H xs/\Q (.bl false) H
def Jp(K:M6):V->List V->Hp->VK->Prop:=λx vs H Q=>∃p xs a d,x=.ref p/\vs=[.ref a]/\aV K H p xs/\V.ref a∈xs/\DP K H xs/\bH K H (.ref a) d/\d.canLay0=true/\d.depth≤32∧
 ∀(j:Nat) (v':V),xs[j]?=some v'->(v'=.ref a∨∀d',bH K H v' d'->d'.canLay0=true->OW d' d=true)->Q (.int j) H
end B
namespace B
abbrev R:=Int×Int
def dZ(a b:Int):R:=(a/(Nx a b:Int),b/(Nx a b:Int))
structure Wf(n:Nat)(r:R):Prop where
 pos:0<r.2
 top:r.1.natAbs<2^n
 bot:r.2.natAbs<2^n
 cop:Nx r.1 r.2=1
theorem Wf.mono(h:Wf n r)(l:n≤m):Wf m r:=⟨h.pos,NE h.top (PR (by decide) l),NE h.bot (PR (by decide) l),h.cop⟩
theorem ck(hb:0<b):0<(Nx a b:Int):=by
 have h:Nx a b≠0:=λz=>by
  have:=(Int.gcd_eq_zero_iff.mp z).2;omega
 omega
theorem gi(a:Int)(hg:0<g):(a/g).natAbs≤a.natAbs:=by
 have h1:=Int.ediv_mul_le a (show g≠0 by omega);have h2:=Int.lt_ediv_add_one_mul_self a hg;rcases Int.le_total 0 a with h|h
 ·have h3:=Qq h (show 0≤g by omega);have h4:a/g≤a/g*g:=by
   have:a/g*1≤a/g*g:=QL (by omega) h3;omega
  omega
 ·have h3:a/g≤0:=by
   have:=Int.ediv_le_ediv hg h;rw[Int.zero_ediv] at this;exact this
  have h5:a≤a/g:=by
   have:a/1≤a/g:=by
    have q:(a/g+1)*g≤(a/g+1)*1∨0<a/g+1:=by
     rcases Int.le_total (a/g+1) 0 with z|z
     ·left;have:=QL (a:=1) (b:=g) (c:=-(a/g+1)) (by omega) (by omega);have e1:-(a/g+1)*1=-((a/g+1)*1):=Wr _ _;have e2:-(a/g+1)*g=-((a/g+1)*g):=Wr _ _;omega
     ·rcases Int.lt_or_eq_of_le z with z|z
      ·right;exact z
      ·left;rw[←z];simp
    rw[Uh];rcases q with q|q
    ·omega
    ·omega
   rw[Uh] at this;exact this
  omega
theorem tL(hb:0<b)(h1:a.natAbs<2^n)(h2:b.natAbs<2^n):Wf n (dZ a b):=
 ⟨Px hb (Ox (ck hb)) (PZ a b),OP (gi _ (ck hb)) h1,OP (gi _ (ck hb)) h2,Rv (by have:=ck (a:=a) hb;omega)⟩
def bF(r q:R):R:=dZ (r.1*q.2+q.1*r.2) (r.2*q.2)
def aC(r q:R):R:=dZ (r.1*q.1) (r.2*q.2)
def bK(r q:R):Bool:=decide (r.1*q.2<q.1*r.2)
theorem lX{x y:Int}(h1:x.natAbs<2^n)(h2:y.natAbs<2^m):(x*y).natAbs<2^(n+m):=by
 rw[PU,Nat.pow_add];exact Nat.mul_lt_mul'' h1 h2
theorem zY(h:Wf n r)(k:Wf m q):(r.1*q.2+q.1*r.2).natAbs<2^(n+m+1):=by
 have a:=lX h.top k.bot;have b:=lX k.top h.bot;rw[Nat.add_comm m n] at b;have e:2^(n+m+1)=2*2^(n+m):=by rw[Nat.pow_succ,Nat.mul_comm]
 have:=VH (r.1*q.2) (q.1*r.2);omega
theorem js(h:Wf n r)(k:Wf m q):Wf (n+m+1) (bF r q):=
 tL (Oc h.pos k.pos) (zY h k) (NE (lX h.bot k.bot) (PR (by decide) (O4 _)))
end B
namespace B
open PySem L2 PyProof.Rows
def Kx(i j:Int):Prop:=i.natAbs<2^4000/\j.natAbs<2^4000
def Ku(_ j:Int):Prop:=0<j/\j.natAbs<2^4000
theorem vz(h:i.natAbs<2^4000):U3 i≤2^20:=by
 unfold U3
 split
 ·exact NB _
 ·rename_i z;have hz:i.natAbs≠0:=λq=>z (by
   have:i=0:=by omega
   rw[this];rfl)
  have:=(UJ hz).mpr h;have e:(2:Nat)^20=1048576:=by decide
  omega
section
variable {X:Cx}
theorem dk:gK X (QX .Mult) (rI Kx λi j=>.int (i*j)):=GS λ_ _ _ _ _ _ _ hc q=>mul_int q (IntMulOk.of_bits (vz hc.1) (vz hc.2))
theorem eJ:gK X (QX .FloorDiv) (rI Ku λi j=>.int (i/j)):=GS λi j _ _ _ _ _ hc q=>by
 have h1:(0:Int)<j:=hc.1;have h2:j.natAbs<2^4000:=hc.2;refine floordiv_int (by omega) (by rw[SF i (by omega)];exact q) (.inl (PyProof.noPylong_of_log2 ?_));exact Rm ((UJ (show j.natAbs≠0 by omega)).mpr h2) (by decide)
end
def aK(K:M6)(H H':Hp):Prop:=∀p xs,bC K H p xs->bC K H' p xs
theorem aK.trans{K:M6}{H H1 H2:Hp}(a:aK K H H1)(b:aK K H1 H2):aK K H H2:=λp xs h=>b p xs (a p xs h)
theorem aK.same{K:M6}{H H':Hp}(s:aD H H'):aK K H H':=λp xs h=>by
 rcases h with(h | ⟨o,h⟩)|h
 ·exact .inl (.inl (s _ _ h))
 ·exact .inl (.inr ⟨o,s _ _ h⟩)
 ·exact .inr h
theorem aK.new{K:M6}{H:Hp}{p:Addr}(h:H p=none)(o:HO):aK K H (aE H p o):=aK.same (ai h o)
theorem aK.step{K:M6}{t:Addr}{H H':Hp}(S:bP t H H'):aK K H H':=λp xs h=>by
 obtain⟨ys,ht⟩:=S.tp;rcases h with(h | ⟨o,h⟩)|h
 ·exact .inl (.inl (S.keep _ _ (λz=>by subst z;rw[h] at ht;cases ht) h))
 ·exact .inl (.inr ⟨o,S.keep _ _ (λz=>by subst z;rw[h] at ht;cases ht) h⟩)
 ·exact .inr h
theorem aK.up{K:M6}{H:Hp}{l:Addr}{xs:List V}(h:H l=some (.lst xs))(ys:List V):aK K H (aE H l (.lst ys)):=aK.step (bP.up h)
def RV(K:M6)(H:Hp)(v:V)(r:R):Prop:=∃p,v=.ref p/\bC K H p [.int r.1,.int r.2]
theorem RV.mono{K:M6}{H H':Hp}{v:V}{r:R}(h:RV K H v r)(t:aK K H H'):RV K H' v r:=let ⟨p,e,q⟩:=h;⟨p,e,t _ _ q⟩
theorem RV.of{K:M6}{H:Hp}{p:Addr}{a b:Int}(h:H p=some (.tup [.int a,.int b])):RV K H (.ref p) (a,b):=⟨p,Z,bC.of h⟩
def Jw(K:M6)(H:Hp)(xs:List V)(rs:List R):Prop:=xs.length=rs.length/\∀(i:Nat) (x:V) (r:R),xs[i]?=some x->rs[i]?=some r->RV K H x r
theorem Jw.at{K:M6}{H:Hp}{xs:List V}{rs:List R}{i:Nat}{x:V}(h:Jw K H xs rs)(e:xs[i]?=some x):∃r,rs[i]?=some r/\RV K H x r:=by
 have hi:=(Ni.mp e).1;have hj:i<rs.length:=by rw[←h.1];exact hi
 exact⟨rs[i],M8 hj,h.2 i x _ e (M8 hj)⟩
def HU(r:R):Nat->R
 |0=>(1,1)
 |k+1=>aC (HU r k) r
theorem gL:Wf 1 (0,1):=⟨by decide,by decide,by decide,by decide⟩
def cO(rs:List R):R:=rs.foldl bF (0,1)
def dR(r:R):PyData:=.tuple [.int r.1,.int r.2]
theorem RV.deep{K:M6}{H:Hp}{v:V}{r:R}(h:RV K H v r):bH K H v (dR r):=by
 obtain⟨p,rfl,q⟩:=h;exact .tup q (.cons (.int _) (.cons (.int _) .nil))
theorem Go(r:R):(dR r).canLay0=true:=Z
theorem rQ(r:R):(dR r).depth≤32:=by show max 0 (max 0 0)+1≤32;decide
theorem F0{i:Int}(h:i.natAbs<2^n)(hn:n≤1900):i.natAbs.log2<1920:=by
 by_cases z:i.natAbs=0
 ·rw[z];decide
 ·have:=(UJ z).mpr (NE h (PR (by decide) hn));omega
theorem F2(h:i.natAbs<2^n)(hn:n≤1900):(Py i).shown.length≤1921:=by
 have q:=int_text_length_le (a:=i) (k:=1920) (by decide) (F0 h hn);have e:(Py i).shown.length=(toString i).length:=by
  show(OL (toString i)).length=_;exact PySem.ofString_length _
 omega
theorem Gg(h:OW (dR r) (dR q)=true):r=q:=by
 have z:(r.1==q.1&&(r.2==q.2&&true))=true:=h;simp only[Sg,NM,beq_iff_eq] at z;exact Xs z.1 z.2
theorem rO(r:R):OW (dR r) (dR r)=true:=by
 show(r.1==r.1&&(r.2==r.2&&true))=true;simp
end B
namespace B
open PySem L2 PyProof.Rows
def dL(rs:List R):PyData:=.list (rs.map dR)
theorem J8(rs:List R):OW (dL rs) (dL rs)=true:=by
 show Tv (rs.map dR) (rs.map dR)=true
 induction rs with
 |nil=>rfl
 |cons r rs ih=>
  show(OW (dR r) (dR r)&&Tv (rs.map dR) (rs.map dR))=true;rw[rO,ih];rfl
theorem Iw(rs:List R):(dL rs).canLay0=true:=by
 show VI (rs.map dR)=true
 induction rs with
 |nil=>rfl
 |cons r rs ih=>
  show(PyData.canLay0 (dR r)&&VI (rs.map dR))=true;rw[Go,ih];rfl
theorem tZ(rs:List R):QY (rs.map dR)≤8:=by
 induction rs with
 |nil=>exact NB _
 |cons r rs ih=>
  have e:VJ (dR r)≤8:=by show max 0 (max 0 0)+1≤8;decide
  show max (VJ (dR r)) (QY (rs.map dR))≤8;omega
def Iy(K:M6)(tl:TE):TI:=λσ H R=>tl σ H λx H1=>(∃a,x=.ref a/\(∃xs,aV K H1 a xs)/\R (Br K a) H1)∨(∃a,x=.ref a/\(∃xs,bC K H1 a xs)/\R (Bh K a) H1)
theorem E9(hl:PE X l tl):PI X tg l (Iy X.K tl):=by
 intro pins s σ H R I h;refine cF (hl pins s σ H _ I h) λv s1 ⟨x,H1,I1,r1,q1⟩=>?_
 rcases q1 with⟨a,e,⟨xs,hq⟩,q⟩ | ⟨a,e,⟨xs,hq⟩,q⟩
 ·subst e;cases r1;obtain⟨its,rv,p,hz⟩:=I1.list hq;refine Q6 p.isList ?_;refine⟨s1.heap.objs.size,[s1.heap.objs.size],_,_,H1,Z,I1.kept (t':=s1.toks) λb o e=>Nc _ e,nw a _,⟨_,Nr _ Z,Z,Z⟩,λb hb=>?_,q⟩;have e:b=s1.heap.objs.size:=by simpa using hb
  subst e;exact I1.fpOk (Nb _) (I1.hok.fresh (Nb _))
 ·subst e;cases r1;obtain⟨its,rv,p,hz⟩:=I1.tuple hq;refine Qh (show s1.heap.IsTuple a its.toArray from p) ?_;refine⟨s1.heap.objs.size,[s1.heap.objs.size],_,_,H1,Z,I1.kept (t':=s1.toks) λb o e=>Nc _ e,lA a _,⟨_,Nr _ Z,Z,Z⟩,λb hb=>?_,q⟩;have e:b=s1.heap.objs.size:=by simpa using hb
  subst e;exact I1.fpOk (Nb _) (I1.hok.fresh (Nb _))
end B
namespace B
structure hU(r:R):Prop where
 pos:0<r.2
 cop:Nx r.1 r.2=1
theorem eQ(hb:0<b):hU (dZ a b):=
 ⟨Px hb (Ox (ck hb)) (PZ a b),Rv (by have:=ck (a:=a) hb;omega)⟩
theorem fT(hb:0<b)(hy:0<y)(g:Nx x y=1)(e:x*b=a*y):dZ a b=(x,y):=by
 have h1:Nx (a*y) (b*y)=Nx a b*y.natAbs:=VL a y b;have h2:Nx (x*b) (y*b)=Nx x y*b.natAbs:=VL x b y;rw[e,PN y b,h1,g,UK] at h2;have h3:(Nx a b:Int)*y=b:=by
  have z:((Nx a b*y.natAbs:Nat):Int)=(b.natAbs:Int):=congrArg _ h2;rw[RF,UL (by omega),UL (by omega)] at z;exact z
 have gp:=ck (a:=a) hb;have h4:a=x*(Nx a b:Int):=by
  have z:x*(Nx a b:Int)*y=a*y:=by rw[W9,h3];exact e
  exact(Qi (by omega) z).symm
 unfold dZ;generalize (Nx a b:Int)=G at h3 h4 gp;subst h4;subst h3;rw[Int.mul_ediv_cancel _ (by omega),NN _ (by omega)]
theorem ix(h:Nx a b=1)(d:c∣a):Nx c b=1:=
 Vm.mpr λz h1 h2=>Vm.mp h z (Si h1 d) h2
theorem iJ(h:Nx a b=1)(d:c∣b):Nx a c=1:=by
 rw[P9];exact ix (by rw[P9];exact h) d
theorem k8(h:Nx a b=1)(k:Nx a c=1):Nx a (b*c)=1:=by
 rw[Int.gcd_mul_right_right_of_gcd_eq_one h];exact k
theorem jC(h:Nx a c=1)(k:Nx b c=1):Nx (a*b) c=1:=by
 rw[P9];exact k8 (by rw[P9];exact h) (by rw[P9];exact k)
theorem fK(hb:0<b):∃g x y:Int,(Nx a b:Int)=g/\0<g/\a=g*x/\b=g*y/\Nx x y=1:=by
 have gp:=ck (a:=a) hb;obtain⟨x,hx⟩:=TK a b;obtain⟨y,hy⟩:=PZ a b;refine⟨_,x,y,Z,gp,hx,hy,?_⟩;have z:=Rv (i:=a) (j:=b) (by omega);have e1:a/(Nx a b:Int)=x:=by
  conv=>lhs;lhs;rw[hx]
  exact NN _ (by omega)
 have e2:b/(Nx a b:Int)=y:=by
  conv=>lhs;lhs;rw[hy]
  exact NN _ (by omega)
 rw[e1,e2] at z;exact z
theorem i4{g y b:Int}(hb:0<b)(hg:0<g)(e:b=g*y):0<y:=by
 rcases Int.lt_or_le 0 y with h|h
 ·exact h
 ·have:=QL h (Ox hg);rw[Int.mul_zero] at this;omega
def qY(r q:R):R:=
 let d:Int:=(Nx r.2 q.2:Nat);let t:=r.1*(q.2/d)+q.1*(r.2/d);let e:Int:=(Nx t d:Nat)
 (t/e,r.2/d*(q.2/e))
theorem z6(hr:hU r)(hq:hU q):qY r q=bF r q:=by
 obtain⟨d,u,v,e0,dp,e1,e2,cuv⟩:=fK (a:=r.2) hq.pos;have up:=i4 hr.pos dp e1;have vp:=i4 hq.pos dp e2;obtain⟨e,x,w,f0,ep,f1,f2,cxw⟩:=fK (a:=r.1*v+q.1*u) dp;have wp:=i4 dp ep f2;have du:r.2/d=u:=by rw[e1];exact NN _ (by omega)
 have dv:q.2/d=v:=by rw[e2];exact NN _ (by omega)
 have te:(r.1*v+q.1*u)/e=x:=by rw[f1];exact NN _ (by omega)
 have qe:q.2/e=w*v:=by rw[e2,f2,W9];exact NN _ (by omega)
 have c1:Nx r.1 u=1:=iJ hr.cop ⟨d,by rw[e1,PN]⟩;have c2:Nx q.1 v=1:=iJ hq.cop ⟨d,by rw[e2,PN]⟩;have xd:x∣(r.1*v+q.1*u):=⟨e,by rw[f1,PN]⟩;have t1:Nx (r.1*v+q.1*u) u=1:=by
  rw[P9,Sw,P9];exact jC c1 (by rw[P9];exact cuv)
 have t2:Nx (r.1*v+q.1*u) v=1:=by
  rw[Int.add_comm,P9,Sw,P9];exact jC c2 cuv
 have cx:Nx x (u*(w*v))=1:=k8 (ix t1 xd) (k8 cxw (ix t2 xd));have z:qY r q=(x,u*(w*v)):=by
  unfold qY;simp only[e0,du,dv,f0,te,qe]
 rw[z];unfold bF;refine(fT (Oc hr.pos hq.pos) (Oc up (Oc wp vp)) cx ?_).symm;have k:r.1*q.2+q.1*r.2=d*(e*x):=by
  rw[e1,e2,←f1,Int.mul_add];rw[RW r.1 d v,RW q.1 d u]
 rw[k,e1,e2];have k2:d*u*(d*v)=d*u*(e*w*v):=by rw[←f2]
 rw[k2]
 ac_rfl
def lB(r q:R):R:=
 let l:Int:=(Nx r.1 q.2:Nat);let m:Int:=(Nx q.1 r.2:Nat)
 (r.1/l*(q.1/m),r.2/m*(q.2/l))
theorem vP(hr:hU r)(hq:hU q):lB r q=aC r q:=by
 obtain⟨l,a,b,e0,lp,e1,e2,cab⟩:=fK (a:=r.1) hq.pos;obtain⟨m,c,d,f0,mp,f1,f2,ccd⟩:=fK (a:=q.1) hr.pos;have bp:=i4 hq.pos lp e2;have dp:=i4 hr.pos mp f2;have z:lB r q=(a*c,d*b):=by
  unfold lB;simp only[e0,f0];rw[show r.1/l=a by rw[e1];exact NN _ (by omega),show q.2/l=b by rw[e2];exact NN _ (by omega),
   show q.1/m=c by rw[f1];exact NN _ (by omega),show r.2/m=d by rw[f2];exact NN _ (by omega)]
 have cad:Nx a d=1:=ix (iJ hr.cop ⟨m,by rw[f2,PN]⟩) ⟨l,by rw[e1,PN]⟩;have ccb:Nx c b=1:=ix (iJ hq.cop ⟨l,by rw[e2,PN]⟩) ⟨m,by rw[f1,PN]⟩;rw[z];unfold aC;refine(fT (Oc hr.pos hq.pos) (Oc dp bp) (k8 (jC cad ccd) (jC cab ccb)) ?_).symm;rw[e1,e2,f1,f2]
 ac_rfl
theorem zZ(hr:hU r)(hq:hU q):hU (bF r q):=eQ (Oc hr.pos hq.pos)
theorem vO(hr:hU r)(hq:hU q):hU (aC r q):=eQ (Oc hr.pos hq.pos)
end B
namespace B
open PySem L2 PyProof.Rows
def Lq(_ j:Int):Prop:=j≠0/\j.natAbs<2^4000
def L6(a b:Int):R:=if b<0 then dZ (-a) (-b) else dZ a b
def cY(r q:R):R:=dZ (r.1*q.2-q.1*r.2) (r.2*q.2)
def Ii(r q:R):R:=L6 (r.1*q.2) (r.2*q.1)
structure Lj(d:PyData):Prop where
 sh:d.showable=true
 nd:d.hasDict=false
 sz:d.shown.length≤5000
 dp:d.depth≤8
end B
namespace B
theorem jZ(hb:0<b):(dZ a b).1*b=a*(dZ a b).2:=by
 obtain⟨g,x,y,_,gp,e1,e2,c⟩:=fK (a:=a) hb;have yp:=i4 hb gp e2;have e:x*b=a*y:=by rw[e1,e2];ac_rfl
 rw[fT hb yp c e];exact e
theorem lY(r q:R):bF r (-q.1,q.2)=cY r q:=by
 unfold bF cY;rw[Wr,←Int.sub_eq_add_neg]
end B
namespace B
open PySem PySem.Spec L2 PyProof.Rows
section
variable {prog:NW}{w:Ol}{A:N8}{E:Value->Nf->Prop}{h:Np}{g:Array GenState}{d:Drawn}{t:Nat}{os:OsState}{K:M6}
variable {nm q:NV}{C N:Addr}{bs bm bmB:List Value}{hdct:Bool}{sn:List NV}{sub:List Value}{ab:Bool}{col:Option Bool}{dd:Option Addr}{k0 k1 k2 k3 k5:Option Value}{bN newId initId:String}
end
def Hc:List Value:=[.type "ValueError",.type "Exception",.type "BaseException",.type "object"]
structure xm(K:M6)(C:Addr)(bm:List Value):Prop where
 ob:∃nm q N bs hdct sn sub ab col dd k0 k1 k2 k3 k5,K.lookup C=some (excClassObj nm q C N bs bm hdct sn sub ab col dd k0 k1 k2 k3 k5 "ValueError.__new__")
 tl:∀h:Np,K.In h->OwnTail h Hc bm
 hd:Vy K C=true
 sa:Pi K (.ref C) "__setattr__"=some (some (.builtin "object.__setattr__"))
section
variable {prog:NW}{w:Ol}{A:N8}{s:Nf}{K:M6}{x C:Addr}{R:We->Nf->Prop}
end
def Ks(a C:Addr)(dx:Option Addr):Np->Prop:=λh=>∃t:Addr,h.get? a=some { cls:=.ref C,dict:=dx,data:=.fields #[.ref t,.none,.none,.none,.bool false,.none]}
def wL(a C:Addr)(dx:Option Addr):HO:=.ext (Ks a C dx)
def Ld(H:Hp)(a:Addr):Hp:=λb=>if b=a then none else H b
section
variable {X:Cx}{pins:List (Addr×O8)}{σ:L2.St}{H:Hp}{s:Nf}{a C:Addr}{dx:Option Addr}
end
def Lh(h:Np)(H:Hp)(x C T:Addr)(a0:Value):Prop:=
 ∃oe vs oT ts,h.get? x=some oe/\oe.cls=.ref C/\vs[0]?=some a0/\oe.data=.fields vs/\vs[1]?=some (.ref T)/\H T=none/\T≠x/\h.get? T=some oT/\oT.data=.fields ts/\ts[3]?=some .none
def M4(P:NW)(w:Ol):sg:=λouter H s E e s'=>∃(x C T:Addr) (a0:Value) (H':Hp),e=.ref x/\s'.os=s.os/\Sd s'.gens/\Un (vh outer) [] H H' s.heap s'.heap/\iR P w H' s'.heap/\s.heap.get? x=none/\s.heap.get? T=none/\H' x=none∧
 Lh s'.heap H' x C T a0/\E (.ref C) none H'
structure om(X:Cx)(pins:List (Addr×O8))(a:Addr):Prop where
 st:X.s₀.heap.get? a=none
 lo:a≠X.env.locals
 ce:∀x c,X.env.cells.lookup x=some c->c≠a
 pi:∀p∈X.pn++pins,p.1≠a
 fr:a∉vh X.stack
section
variable {X:Cx}{pins:List (Addr×O8)}{σ:L2.St}{H H':Hp}{s:Nf}{a:Addr}
end
section
variable {X:Cx}{pins:List (Addr×O8)}{σ:L2.St}{H:Hp}{s:Nf}{a:Addr}{o:HO}
end
structure XC(K:M6)(C f:Addr)(bm:List Value):Prop where
 ob:∃nm q N bs hdct sn sub ab col dd k0 k1 k2 k3 k5,K.lookup C=some (excClassObj nm q C N bs bm hdct sn sub ab col dd k0 k1 k2 k3 k5 "ValueError.__new__")
 tl:∀h:Np,K.In h->OwnTail h Hc bm
 init:Pi K (.ref C) "__init__"=some (some (.ref f))
 fn:PySem.W.typeIn K (.ref f)=some (.type "function")
 kp:PQ K (.ref C)=true
 cl:xm K C bm
section
variable {X:Cx}{k:Nat}{f C:Addr}{fd:Nl}{ps:List NV}{sp:Sp}{bm:List Value}
def Li(X:Cx)(E:XK):Prop:=∀(pins:List (Addr×O8)) (σ:L2.St) (H:Hp) (s:Nf) (a C:Addr) (oe:O8) (vs:Array Value) (a0:Value),L2.Inv X pins σ H s->H a=none->om X pins a->s.heap.get? a=some oe->oe.data=.fields vs→
 vs[0]?=some a0->vs[1]?=some .none->oe.cls=.ref C->E (.ref C) none H->X.xe (.ref a) s
def JG(C:Addr)(sp:Sp)(E:XK)(t:TA):TS:=λ_ σ H=>t σ H λvs H1=>vs.length≤sizeLine/\∀a,H1 a=none->sp (.ref a::vs) (aE H1 a (wL a C none)) (λv H2=>v=.non/\(∃dx,H2 a=some (wL a C dx))/\E (.ref C) none (Ld H2 a)) E0
end
section
variable {X:Cx}{pins:List (Addr×O8)}{σ:L2.St}{H:Hp}{s:Nf}{a C T:Addr}{a0:Value}
end
def CP(N:List NV):L2.St:=ND N.length none
def MB(X:Cx)(pins:List (Addr×O8))(R:Addr->Hp->Prop):Value->Nf->Prop:=λe s=>∃(x C T:Addr) (a0:Value) (H:Hp),e=.ref x/\L2.Inv X pins (CP X.N) H s/\H x=none/\om X pins x/\om X pins T/\Lh s.heap H x C T a0/\R C H
def K8(X:Cx)(pins:List (Addr×O8))(R:Addr->Hp->Prop):Cx:={ X with pn:=X.pn++pins,xe:=MB X pins R}
def K9(X:Cx)(e:Addr):Cx:={ X with A:=X.A.mark (some (.ref e)),calm:=false,xe:=λ_ _=>False}
section
variable {X:Cx}{pins pins':List (Addr×O8)}{σ:L2.St}{H:Hp}{s:Nf}{R:Addr->Hp->Prop}{e:Addr}
end
def LD(N:List NV)(R:Addr->Hp->Prop)(Ok:Addr->Prop)(tb:TS)(th:TS):TS:=λD σ H=>tb D σ H/\∀C H',R C H'->Ok C/\th D (CP N) H'
section
variable {X:Cx}{R:Addr->Hp->Prop}{body:List Stmt}{b₀:Stmt}{suite:List Stmt}{x:NV}{p hpos pos:Q4}{u:Value}{tb th:TS}
end
section
variable {X:Cx}{o value:N9}{f:NV}{ta tv:TE}{pos' pos:Q4}
def KQ(K:M6)(ta tv:TE)(f:NV):TS:=λD σ H=>tv σ H λ_ H1=>ta σ H1 λx H2=>∃a C bm,x=.ref a/\H2 a=some (wL a C none)/\xm K C bm/\kg K C f/\∀d,D.nx σ (aE H2 a (wL a C (some d)))
end
def MF(R:Addr->Hp->Prop):XK:=λv _ H=>∃C,v=.ref C/\R C H
def Hq(es:Array Wc):Bool:=es.toList.all λe=>match e.key with
 | .str _ _=>true
 |_=>false
structure GH(K:M6)(C:Addr):Prop where
 ga:Pi K (.ref C) "__getattribute__"=some (some (.builtin "BaseException.__getattribute__"))
 gn:Pi K (.ref C) "__getattr__"=some none
 cl:Pi K (.ref C) "__class__"=some (some (.builtin "object.__class__"))
 cg:Ti K (.builtin "object.__class__") "__get__"=some (some (.builtin "getset_descriptor.__get__"))
 ct:Wy K (.builtin "object.__class__")=some true
section
variable {prog:NW}{w:Ol}{A:N8}{E:Value->Nf->Prop}{s:Nf}{K:M6}{x C:Addr}{ox:O8}{odo:Option O8}{bm:List Value}{name:NV}{tk:W5}{R:We->Nf->Prop}
end
section
variable {K:M6}{x C:Addr}{ox od:O8}{bm:List Value}
end
structure Mw(S ch:List Addr)(h h':Np):Prop where
 same:∀b o,b∉S->b∉ch->h.get? b=some o->h'.get? b=some o
 slot:∀b o,b∉ch->h.get? b=some o->∃sl,h'.get? b=some { o with slots:=sl}
def IK(h:Np)(x C T:Addr)(dx:Option Addr)(fl:Value):Prop:=
 ∃oe vs oT ts,h.get? x=some oe/\oe.cls=.ref C/\oe.dict=dx/\oe.data=.fields vs/\vs[1]?=some (.ref T)/\T≠x/\h.get? T=some oT/\oT.data=.fields ts/\ts[3]?=some fl
section
variable {M:Model}{A:N8}{E:Value->Nf->Prop}{s:Nf}{base:Np}{env:W6}{outer:List W6}{L e C T:Addr}{oe:O8}{vs:Array Value}{dx:Option Addr}{fl:Value}
end
def Kt(d:Addr)(fs:List (NV×V)):Np->Prop:=λh=>∃mA,h.Ns1 d mA/\∀f,ng (fs.lookup f) (mA f)
def dO(d:Addr)(fs:List (NV×V)):HO:=.ext (Kt d fs)
section
variable {X:Cx}{pins:List (Addr×O8)}{σ:L2.St}{H:Hp}{s:Nf}{a C:Addr}
end
section
variable {X:Cx}{o value:N9}{f:NV}{ta tv:TE}{pos' pos:Q4}
def KR(K:M6)(ta tv:TE)(f:NV):TS:=λD σ H=>tv σ H λy H1=>ta σ H1 λx H2=>∃a C bm,x=.ref a/\xm K C bm/\kg K C f∧
 ((H2 a=some (wL a C none)/\∀d,H2 d=none->d≠a->D.nx σ (aE (aE H2 a (wL a C (some d))) d (dO d [(f,y)])))∨
  ∃d fs,H2 a=some (wL a C (some d))/\H2 d=some (dO d fs)/\fs.length≤100/\D.nx σ (aE H2 d (dO d ((f,y)::fs))))
end
section
variable {X:Cx}{pins:List (Addr×O8)}{σ:L2.St}{H:Hp}{s:Nf}{a C T:Addr}{dx:Option Addr}{fl:Value}
end
def M5(P:NW)(w:Ol):sg:=λouter H s E e s'=>∃(x C T:Addr) (dx:Option Addr) (H':Hp),e=.ref x/\s'.os=s.os/\Sd s'.gens/\Un (vh outer) [] H H' s.heap s'.heap/\iR P w H' s'.heap/\s.heap.get? x=none/\s.heap.get? T=none/\H' x=none/\H' T=none∧
 IK s'.heap x C T dx .none/\E (.ref C) dx H'
section
variable {P:NW}{w:Ol}{K:M6}{mg:NV->Option Value}{base:Np}{N:List NV}{qual:NV}{scope:Rt}{f:Addr}{cd:Value}{A:N8}{outer:List W6}{s:Nf}{H:Hp}{E:XK}
def Ki(X:Cx)(E:XK):Prop:=∀(pins:List (Addr×O8)) (σ:L2.St) (H:Hp) (s:Nf) (a C:Addr) (dx:Option Addr) (oe:O8) (vs:Array Value),L2.Inv X pins σ H s->H a=none->om X pins a->s.heap.get? a=some oe->oe.data=.fields vs→
 vs[1]?=some .none->oe.cls=.ref C->oe.dict=dx->E (.ref C) dx H->X.xe (.ref a) s
end
section
variable {X:Cx}{k:Nat}{f C:Addr}{fd:Nl}{ps:List NV}{sp:Sp}{bm:List Value}
def Ja(C:Addr)(sp:Sp)(E:XK)(t:TA):TS:=λ_ σ H=>t σ H λvs H1=>vs.length≤sizeLine/\∀a,H1 a=none->sp (.ref a::vs) (aE H1 a (wL a C none)) (λv H2=>v=.non/\∃dx,H2 a=some (wL a C dx)/\E (.ref C) dx (Ld H2 a)) E0
end
abbrev RX:=Addr->Option Addr->Hp->Prop
def Kr(X:Cx)(pins:List (Addr×O8))(R:RX):Value->Nf->Prop:=λe s=>∃(x C T:Addr) (dx:Option Addr) (H:Hp),e=.ref x/\L2.Inv X pins (CP X.N) H s/\H x=none/\om X pins x/\H T=none/\om X pins T/\IK s.heap x C T dx .none/\R C dx H
def J4(X:Cx)(pins:List (Addr×O8))(R:RX):Cx:={ X with pn:=X.pn++pins,xe:=Kr X pins R}
section
variable {X:Cx}{pins pins':List (Addr×O8)}{σ:L2.St}{H:Hp}{s:Nf}{R:RX}{e:Addr}
def MG(R:RX):XK:=λv dx H=>∃C,v=.ref C/\R C dx H
end
def ME(a C d:Addr):Np->Prop:=λh=>∃oe,h.get? a=some oe/\oe.cls=.ref C/\oe.dict=some d/\PySem.W.notCls oe=true
def IG(a C d:Addr):HO:=.ext (ME a C d)
def J7(i:Nat)(D:i7):i7:={ nx:=λσ H=>D.nx (σ.set i none) H,rt:=D.rt,bk:=λσ H=>D.bk (σ.set i none) H,ct:=λσ H=>D.ct (σ.set i none) H}
def Kz(N:List NV)(R:RX)(Ok:Addr->Prop)(tb th:TS):TS:=λD σ H=>tb D σ H/\∀C dx H',R C dx H'->Ok C/\th D (CP N) H'
def JE(N:List NV)(i:Nat)(R:RX)(Ok:Addr->Prop)(tb th:TS):TS:=λD σ H=>tb D σ H/\∀C dx H',R C dx H'->Ok C/\∃d,dx=some d/\∀a,H' a=none->th (J7 i D) ((CP N).set i (some (.ref a))) (aE H' a (IG a C d))
section
variable {X:Cx}{R:RX}{body:List Stmt}{b₀:Stmt}{suite:List Stmt}{x:NV}{p hpos pos:Q4}{u:Value}{tb th:TS}
end
def LZ(K:M6):List V->Hp->VK->Prop:=λxs H Q=>∃(a C d:Addr) (fs:List (NV×V)) (bm:List Value) (c:V) (b:Bool),xs=[.ref a,c]/\H a=some (IG a C d)/\H d=some (dO d fs)/\xm K C bm/\GH K C∧
 ((∃n,c=.ty n/\Re K (.ref C) (.type n)=some b)∨(∃D,c=.ref D/\Re K (.ref C) (.ref D)=some b)∨
  ∃(p:Addr) (cs:List Addr),c=.ref p/\H p=some (.tup (cs.map V.ref))/\WQ K (.ref C) (cs.map Oy)=some b)/\Q (.bl b) H
def DQ(H:Hp)(a C d:Addr):Prop:=H a=some (IG a C d)∨H a=some (wL a C (some d))
section
variable {X:Cx}{pins:List (Addr×O8)}{σ:L2.St}{H:Hp}{s:Nf}{a C d:Addr}{fs:List (NV×V)}
end
def KJ(K:M6)(ta:TE)(f:NV):TE:=λσ H Q=>ta σ H λx H1=>∃a C d fs bm v,x=.ref a/\DQ H1 a C d/\H1 d=some (dO d fs)/\xm K C bm/\GH K C/\kg K C f/\fs.lookup f=some v/\Q v H1
def LY(K:M6):List V->Hp->VK->Prop:=λxs H Q=>∃(a C d:Addr) (fs:List (NV×V)) (bm:List Value) (c:V) (b:Bool),xs=[.ref a,c]/\DQ H a C d/\H d=some (dO d fs)/\xm K C bm/\GH K C∧
 ((∃n,c=.ty n/\Re K (.ref C) (.type n)=some b)∨(∃D,c=.ref D/\Re K (.ref C) (.ref D)=some b)∨
  ∃(p:Addr) (cs:List Addr),c=.ref p/\H p=some (.tup (cs.map V.ref))/\WQ K (.ref C) (cs.map Oy)=some b)/\Q (.bl b) H
def JH(C:Addr)(sp:Sp)(t:TA):TE:=λσ H Q=>t σ H λvs H1=>vs.length≤sizeLine/\∀a,H1 a=none->sp (.ref a::vs) (aE H1 a (wL a C none)) (λv H2=>v=.non/\Q (.ref a) H2) E0
theorem oz{X:Cx}{pins:List (Addr×O8)}{σ:L2.St}{H:Hp}{s:Nf}{h':Np}{t':Nat}{fp:List Addr}(I:Inv X pins σ H s)
  (k:∀b o,b∉fp->s.heap.get? b=some o->h'.get? b=some o) (hf:∀b∈fp,hX X pins H b):Inv X pins σ H { s with heap:=h',toks:=t'}:=by
 have off:∀b u,H b=some u->b∉fp:=λb u e z=>by rw[(hf b z).1] at e;cases e
 refine I.step (g':=s.gens) (d':=s.drawn) (ch:=fp) (λb hb=>?_) (λb o _ _ hc e _=>k b o hc e) (λb o _ _ hc e _=>⟨o.slots,k b o hc e⟩) (λ_ _ _ _ n=>n)
  (λb o hc e=>⟨o,k b o hc e⟩) (λ_ _ e=>e) (λ_ _ _ e=>e) (λb ps e=>⟨#[],by rw[e];simp⟩) (λm hm=>?_) (λb u e=>?_) I.bare
 ·obtain⟨_,f1,_,f3,f4,f5⟩:=hf b hb;exact⟨f3,f1,f4,f5⟩
 ·obtain⟨o,es,ep,ho,r⟩:=hm;exact⟨o,es,ep,k _ o (λz=>(hf _ z).2.1 Z) ho,r⟩
 ·refine(I.hok b u e).stay (λc v hc q=>k c v ?_ q) (λ_ q=>q) λ_ _ q=>q
  rcases hc with z|z
  ·rw[z];exact off b u e
  ·exact off c _ z
section
variable {prog:NW}{w:Ol}{A:N8}{E:Value->Nf->Prop}{s:Nf}
theorem CC(a:s.heap.IsTupleIter j t k)(b:s.heap.IsTuple t ys)(c:ys[k]?=some v)
  (g:∀h',h'.IsTupleIter j t (k+1)->Ow j s.heap h'->G v { s with heap:=h'}):Nv (NJ prog w) A (Qo (.ref j)) G E s:=by
 obtain⟨o,e1,e2,e3⟩:=id a;obtain⟨q,f1,_,n,f2⟩:=b;unfold Qo;refine M9 (Os (name:=OL "__next__") a.typeIs F.slot_tuple_iterator_next (OA F.slot_tuple_iterator_next a.typeIs F.entry_tuple_iterator_next ?_ (F.args_tuple_iterator_next_1 _)))
 show Nv (NJ prog w) _ (Xu (.ref j) 0 >>= _) _ _ s;refine M9 (QK e1 e3 (x:=.ref t) Z ?_);show Nv (NJ prog w) _ (if(Oy t==PH)=true then _ else _) _ _ s;rw[if_neg (λz=>Wh z:¬((Oy t==PH)=true))];show Nv (NJ prog w) _ (Xu (.ref j) 1 >>= _) _ _ s;refine M9 (QK e1 e3 (x:=.int k 0) Z ?_);show Nv (NJ prog w) _ (seqItems? (.ref t) >>= _) _ _ s;refine M9 (SN f1 f2 ?_);simp only[c,OK];refine M9 (Qj e1 e3 (by simp) (Nj ⟨v,Z,Nj (g _ ?_ (OT ..))⟩));refine⟨_,OS _ e1 (O8.isFreed_of_fields (Vn e3 _)),(O8.cls_mapFields ..).trans e2,?_⟩;rw[Vn e3];simp[So]
theorem Aw(hh:A.handled=none)(a:s.heap.IsTupleIter j t k)(b:s.heap.IsTuple t ys)(c:ys[k]?=none)
  (g:∀h' e,Ws j s.heap h'->(∃o,h'.get? e=some o/\o.cls=.type "StopIteration")->E (.ref e) { s with heap:=h'}):Nv (NJ prog w) A (Qo (.ref j)) G E s:=by
 obtain⟨o,e1,e2,e3⟩:=id a;obtain⟨q,f1,_,n,f2⟩:=b;unfold Qo;refine M9 (Os (name:=OL "__next__") a.typeIs F.slot_tuple_iterator_next (OA F.slot_tuple_iterator_next a.typeIs F.entry_tuple_iterator_next ?_ (F.args_tuple_iterator_next_1 _)))
 show Nv (NJ prog w) _ (Xu (.ref j) 0 >>= _) _ _ s;refine M9 (QK e1 e3 (x:=.ref t) Z ?_);show Nv (NJ prog w) _ (if(Oy t==PH)=true then _ else _) _ _ s;rw[if_neg (λz=>Wh z:¬((Oy t==PH)=true))];show Nv (NJ prog w) _ (Xu (.ref j) 1 >>= _) _ _ s;refine M9 (QK e1 e3 (x:=.int k 0) Z ?_);show Nv (NJ prog w) _ (seqItems? (.ref t) >>= _) _ _ s;refine M9 (SN f1 f2 ?_);simp only[c,OK];refine M9 (SE (M9 (Qj e1 e3 (by simp) ?_)));show Nv (NJ prog w) _ (newExc (.type "StopIteration") [] >>= _) _ _ _;refine M9 ?_;simp only[newTuple,newExc];refine M9 (N3 ?_ (by size_fits));refine M9 (m:=Rg _ _) (UM (a:=PH) (by first|rfl | (simp only[Rg]<;>rfl)) ?_);refine N3 ?_ (by size_fits);simp only[raiseNew];refine M9 (U8 ?_)
 first|rw[hh]|rw[show A.in1.handled=none from hh]
 refine M9 (Nj (Wu (g _ _ (((OT ..).extBut.push _).push _) ⟨_,Nr _ Z,Z⟩)))
structure MC(z TI TO i1 i2:Addr):Prop where
 a1:TI≠z
 a2:TO≠z
 a3:i1≠z
 a4:i2≠z
 a5:TI≠TO
 a6:TI≠i1
 a7:TI≠i2
 a8:TO≠i1
 a9:TO≠i2
 b1:i1≠i2
end
theorem oy{X:Cx}{pins:List (Addr×O8)}{σ:L2.St}{H:Hp}{s:Nf}{h':Np}{t':Nat}{fp:List Addr}{p:Addr}{v:HO}(I:Inv X pins σ H s)
  (k:∀b o,b∉fp->s.heap.get? b=some o->h'.get? b=some o) (hf:∀b∈fp,hX X pins H b) (hp:s.heap.objs.size≤p) (new:bW X.prog X.w (aE H p v) h' p v) :
  Inv X pins σ (aE H p v) { s with heap:=h',toks:=t'}:=by
 have off:∀b u,H b=some u->b∉fp:=λb u e z=>by rw[(hf b z).1] at e;cases e
 have hn:H p=none:=I.hok.fresh hp;have old:∀b u,H b=some u->aE H p v b=some u:=λb u e=>by rw[aJ (aU e hn)];exact e
 refine I.step (g':=s.gens) (d':=s.drawn) (ch:=fp) (λb hb=>?_) (λb o _ _ hc e _=>k b o hc e) (λb o _ _ hc e _=>⟨o.slots,k b o hc e⟩) (λb o _ e n=>?_)
  (λb o hc e=>⟨o,k b o hc e⟩) (λb xs e=>old b _ e) (λb o u e=>old b _ e) (λb ps e=>⟨#[],by rw[old b _ e];simp⟩) (λm hm=>?_) (λb u e=>?_) I.bare
 ·obtain⟨_,f1,_,f3,f4,f5⟩:=hf b hb;exact⟨f3,f1,f4,f5⟩
 ·rw[aJ (NT (NE (Nt e) hp))];exact n
 ·obtain⟨o,es,ep,ho,r⟩:=hm;exact⟨o,es,ep,k _ o (λz=>(hf _ z).2.1 Z) ho,r⟩
 ·by_cases hb:b=p
  ·subst hb;rw[ag] at e;cases e;exact new
  ·rw[aJ hb] at e;refine(I.hok b u e).stay (λc v hc q=>k c v ?_ q) (λc q=>old c _ q) λc xs q=>old c _ q
   rcases hc with z|z
   ·rw[z];exact off b u e
   ·exact off c _ z
theorem uE{X:Cx}{pins:List (Addr×O8)}{σ:L2.St}{H:Hp}{s:Nf}{a b:Addr}{xs:List V}(I:Inv X pins σ H s)(h:bC X.K H a xs)(f:hX X pins H b):a≠b:=λz=>by
 subst z;rcases h with(h | ⟨o,h⟩) | ⟨o,its,n,hk,_⟩
 ·rw[f.1] at h;cases h
 ·rw[f.1] at h;cases h
 ·have e:=I.ok.mod.kin a o hk;rcases f.2.2.2.1 with z|z
  ·exact I.ok.noex a o e z
  ·rw[(I.ok.bs a o e).1] at z;cases z
def Mx(K:M6)(a b:Addr):It:=
 ⟨λi H=>∃xs ys x y,bC K H a xs/\bC K H b ys/\xs[i]?=some x/\ys[i]?=some y,
  λi H v H'=>∃p x y,H p=none/\v=.ref p/\H'=aE H p (.tup [x,y])/\(∀xs,bC K H a xs->xs[i]?=some x)/\∀ys,bC K H b ys->ys[i]?=some y,
  λi H=>∃xs ys,bC K H a xs/\bC K H b ys/\(xs.length≤i∨ys.length≤i)⟩
def MW(z TI TO i1 i2 a b:Addr)(i:Nat)(h:Np):Prop:=IsZip h z TI TO .none/\WR h TI (.ref i1) (.ref i2)/\(∃u v,WR h TO u v)/\h.IsTupleIter i1 a i/\h.IsTupleIter i2 b i
theorem iT{h h':Np}(x:h.IsTupleIter i a n)(k:∀o,h.get? i=some o->h'.get? i=some o):h'.IsTupleIter i a n:=let ⟨o,e,r⟩:=x;⟨o,k o e,r⟩
theorem xK{h h':Np}(x:h.IsTuple a ys)(k:∀o,h.get? a=some o->h'.get? a=some o):h'.IsTuple a ys:=let ⟨o,e,r⟩:=x;⟨o,k o e,r⟩
abbrev zA(h:Np)(a:Addr):Np:=h.push { cls:=.type "tuple_iterator",data:=.fields #[.ref a,.int 0 0]}
abbrev zB(h:Np)(a b:Addr):Np:=zA (zA h a) b
abbrev zC(h:Np)(a b:Addr):Np:=(zB h a b).push { cls:=.type "tuple",data:=.seq #[.ref h.objs.size,.ref (zA h a).objs.size]}
abbrev zD(h:Np)(a b:Addr):Np:=(zC h a b).push { cls:=.type "tuple",data:=.seq #[.none,.none]}
abbrev zE(h:Np)(a b:Addr):Np:=(zD h a b).push { cls:=.type "zip",data:=.fields #[.none,.bool false,.bool false,.ref (zB h a b).objs.size,.ref (zC h a b).objs.size]}
def L9(K:M6)(ta:TA):TI:=λσ H R=>ta σ H λvs H1=>∃a b,vs=[.ref a,.ref b]/\(∃xs,bC K H1 a xs)/\(∃ys,bC K H1 b ys)/\R (Mx K a b) H1
theorem wN(hh:A.handled=none)(it a:Addr)(ne:a≠it)(items:Array Value):
  Draws prog w A it [it,a] items.size (λi v=>items[i]?=some v) (λi h=>h.IsTupleIter it a i/\h.IsTuple a items) where
 live:=λ_ _ st=>let ⟨o,ho,_⟩:=st.1;⟨o,ho⟩
 frame:=λ_ _ _ st hk=>⟨iT st.1 λo e=>hk it (by simp) o e,xK st.2 λo e=>hk a (by simp) o e⟩
 item:=λi s Q E hi st hQ=>by
  have hx:items[i]?=some (items[i]'hi):=OY hi;exact CC st.1 st.2 hx λh' i' sb=>hQ _ h' s.toks hx ⟨i',xK st.2 λo e=>sb.extBut _ _ ne e⟩ sb
 done:=λs Q E st hE=>Aw hh st.1 st.2 (by simp) hE
theorem wM(a:Addr)(xs:Array Value):Meets (NO.«enumerate.__new__» ⟨[.type "enumerate",.ref a],[]⟩) (λ_ R s=>s.heap.IsTuple a xs∧
   R (.ok (.ret (.ref (zA s.heap a).objs.size))) { s with heap:=(zA s.heap a).push { cls:=.type "enumerate",data:=.fields #[.none,.bool false,.ref s.heap.objs.size,So 0,.none,.none]} }):=
 .of_wp λprog w A R s h=>by
  obtain⟨hp,g,d,tk,os⟩:=s;obtain⟨hl,h⟩:=h;obtain⟨⟨c,dct,dt,sl⟩,ho,hc,n,hd⟩:=id hl
  replace hc:c=.type "tuple" := hc
  replace hd:dt=.seq xs n:=hd
  subst hc hd;have hsub:=sub_enumerate;have L:Np.IsTuple (Nf.heap ⟨hp,g,d,tk,os⟩) a xs:=hl
  wp_walk using Qx ho
  refine wpAny_stack_any λst=>Nj ?_
  split
  ·rename_i c _ _ _ _ _
   cases(c==Pt "enumerate")
   ·wp_walk using Qx ho,Qh L
    exact⟨_,Z,h⟩
   ·wp_walk using Qx ho,Qh L
    exact⟨_,Z,h⟩
  ·wp_walk using Qx ho,Qh L
   exact⟨_,Z,h⟩
theorem ub(hL:s.heap.IsTuple a items)
  (h:∀h',IsEnum h' (s.heap.objs.size+1) s.heap.objs.size 0 .none->h'.IsTupleIter s.heap.objs.size a 0->h'.objs.size=s.heap.objs.size+2→ (∀b o,s.heap.get? b=some o->h'.get? b=some o)->Q (.ref (s.heap.objs.size+1)) { s with heap:=h'}):
  Nv (NJ prog w) A (call (.type "enumerate") [.ref a]) Q E s:=by
 refine callType_new F.called_enumerate (by decide) (F.typeCall_enumerate_1 _) (F.newCall_enumerate_1 _) (λobj=>F.args_object_init_2 obj _) F.entry_enumerate_new
  (wM a items) ⟨hL,?_⟩
 have hz:(zA s.heap a).objs.size=s.heap.objs.size+1:=O9 ..;show _/\_;rw[hz];have he:IsEnum ((zA s.heap a).push { cls:=.type "enumerate",data:=.fields #[.none,.bool false,.ref s.heap.objs.size,So 0,.none,.none]}) (s.heap.objs.size+1) s.heap.objs.size 0 .none:=by
  have:=Nr (zA s.heap a) (o:={ cls:=.type "enumerate",data:=.fields #[.none,.bool false,.ref s.heap.objs.size,So 0,.none,.none]}) Z;rw[hz] at this;exact this
 refine⟨⟨_,he,Z⟩,h _ he ⟨_,Nc _ (Nr _ Z),Z,Z⟩ (by rw[O9,hz]) λb o x=>Nc _ (Nc _ x)⟩
theorem uF{X:Cx}{pins:List (Addr×O8)}{σ:L2.St}{H:Hp}{s:Nf}{a b:Addr}{xs:List V}(I:Inv X pins σ H s)(h:aV X.K H a xs)(f:hX X pins H b):a≠b:=λz=>by
 subst z;rcases h with(h | ⟨o,h⟩) | ⟨o,its,n,hk,_⟩
 ·rw[f.1] at h;cases h
 ·rw[f.1] at h;cases h
 ·have e:=I.ok.mod.kin a o hk;rcases f.2.2.2.1 with z|z
  ·exact I.ok.noex a o e z
  ·rw[(I.ok.bs a o e).1] at z;cases z
theorem l4{h h':Np}(x:h.IsListIter i a n)(k:∀o,h.get? i=some o->h'.get? i=some o):h'.IsListIter i a n:=x.at k
def xi(K:M6)(a:Addr):It:=
 ⟨λi H=>∃xs x,bC K H a xs/\xs[i]?=some x,
  λi H v H'=>∃p x,H p=none/\v=.ref p/\H'=aE H p (.tup [.int i,x])/\∀xs,bC K H a xs->xs[i]?=some x,
  λi H=>∃xs,bC K H a xs/\xs.length≤i⟩
theorem xI{P:NW}{w:Ol}{K:M6}{elts:List N9}{x1}{pos:Q4}{e it a:Addr}(hei:e≠it) :
  sd P w K (.Tuple elts x1 pos) (xi K a) [e,it] e (λi h=>(∃old,IsEnum h e it (i:Nat) old)/\h.IsTupleIter it a i) where
 mem:=by simp
 obj:=λi h st c hc=>by
  obtain⟨⟨old,h1⟩,⟨o2,h2,c2,d2⟩⟩:=st;simp only[Nq,Oo,or_false] at hc;rcases hc with rfl|rfl
  ·exact⟨_,h1,λv q=>by cases(show Te _=UV v from q)⟩
  ·exact⟨o2,h2,λv q=>by rw[d2] at q;cases q⟩
 keep:=λi h h' st k=>by
  obtain⟨⟨old,h1⟩,h2⟩:=st;exact⟨⟨old,k e (by simp) _ h1⟩,iT h2 λo q=>k it (by simp) o q⟩
 item:=by
  intro X hP hw hK hc i pins s σ H E I hf st hg;subst hP hw hK;obtain⟨xs,x,q1,hx⟩:=hg;obtain⟨its,rv,p1,z1⟩:=I.tuple q1;obtain⟨u,hu,ru⟩:=rv.get hx;have off:∀c∈[e,it],a≠c:=λc hc=>uE I q1 (hf c hc)
  obtain⟨⟨old,h1⟩,h2⟩:=st;have hh:X.A.in1.handled=none:=I.ok.hd hc;have na:a≠it:=off it (by simp);have ne:e∉[it,a]:=λq=>by
   simp only[Nq,Oo,or_false] at q;rcases q with q|q
   ·exact hei q
   ·exact off e (by simp) q.symm
  have hi:i<its.toArray.size:=by have:=(Ni.mp hu).1;simpa using this
  have el:e<s.heap.objs.size:=Nt h1;have il:it<s.heap.objs.size:=by obtain⟨o2,q2,_⟩:=h2;exact Nt q2
  refine TL (wN hh it a na its.toArray) h1 ⟨h2,p1⟩ hi hei ne λv h' tk hv eo st' tup hz hk=>⟨_,Z,SO eo λh'' e2 sb=>?_⟩
  have ev:v=u:=by
   have:its.toArray[i]?=some u:=by simpa using hu
   rw[this] at hv;exact(OB hv).symm
  subst ev;have nt:s.heap.objs.size≠e:=Qt el;have ni:s.heap.objs.size≠it:=Qt il;have P:bW X.prog X.w (aE H s.heap.objs.size (.tup [.int i,x])) h'' s.heap.objs.size (.tup [.int i,x]):=
   ⟨by show 2≤sizeLine;decide,[.int i tk,v],.cons ⟨_,Z⟩ (.cons ru .nil),⟨_,sb.extBut _ _ nt tup,Z,_,Z⟩⟩
  have I2:Inv X pins σ (aE H s.heap.objs.size (.tup [.int i,x])) { s with heap:=h'',toks:=tk+1}:=oy I (λc o' n q=>by
   have n1:c≠e:=λr=>n (by simp[r])
   have n2:c≠it:=λr=>n (by simp[r])
   exact sb.extBut _ _ n1 (hk c o' n1 n2 q)) hf (Nb _) P
  refine⟨.ref s.heap.objs.size,_,I2,Z,⟨_,x,I.fresh,Z,Z,λys hy=>by rw[I.tuple_inj hy q1];exact hx⟩,⟨⟨_,by simpa using e2⟩,iT st'.1 λo q=>sb.extBut _ _ hei.symm q⟩,λc hc=>?_⟩;have lt:c<s.heap.objs.size:=by
   simp only[Nq,Oo,or_false] at hc;rcases hc with rfl|rfl
   ·exact el
   ·exact il
  rw[aJ (NT lt)];exact(hf c hc).1
 done:=by
  intro X hP hw hK hc i pins s σ H E I hf st hg;subst hP hw hK;obtain⟨xs,q1,hx⟩:=hg;obtain⟨its,rv,p1,z1⟩:=I.tuple q1;have off:∀c∈[e,it],a≠c:=λc hc=>uE I q1 (hf c hc)
  obtain⟨⟨old,h1⟩,h2⟩:=st;have hh:X.A.in1.handled=none:=I.ok.hd hc;have hl:=rv.length;have nn:its.toArray[i]?=none:=by rw[SQ];simp;omega
  have hT:s.TypeIs (.ref e) "enumerate" := ⟨_,h1,Z⟩;unfold RQ;refine M9 (RD (Os (name:=OL "__next__") hT F.slot_enumerate_next (OA F.slot_enumerate_next hT F.entry_enumerate_next ?_ (F.args_enumerate_next_1 _))))
  show Nv _ _ (Xu (.ref e) 2 >>= _) _ _ _;refine M9 (QK h1 Z (x:=.ref it) Z ?_);refine M9 (Aw hh h2 p1 nn λh' x he' hx'=>?_);obtain⟨o,ho,hcl⟩:=hx';refine M9 (Rn (T := "StopIteration") (b:=true) ⟨o,ho,hcl⟩ SR ?_);refine Nj ⟨Z,?_⟩;exact oz (t':=s.toks) I (λc o' n q=>he' c o' (λr=>n (by simp[r])) q) hf
 self:=λA i s Q E st h=>by
  obtain⟨⟨old,h1⟩,_⟩:=st;exact RY h1 h
def Iz(K:M6)(ta:TA):TI:=λσ H R=>ta σ H λvs H1=>∃a,vs=[.ref a]/\(∃xs,bC K H1 a xs)/\R (xi K a) H1
theorem Ci{X:Cx}{elts:List N9}{x1}{tp p pos:Q4}{a:N9}{ta:TA}(hg:Gl X "enumerate")(hm:X.mg "enumerate"=none)(ha:PA X [a] ta)(hs:Nw [a] X.env=[(false,eval a X.env)]:=by rfl) :
  PI X (.Tuple elts x1 tp) (.Call (.Name "enumerate" p) [a] [] pos) (Iz X.K ta):=by
 intro pins s σ H R I h;refine Xr (gU I hg hm (show Pu "enumerate"=some (.type "enumerate") by kernel_rfl) (OQ (cF (ha pos pins s σ H _ I h) λus s1 ⟨vs,H1,I1,r1,q1⟩=>?_) hs Z));obtain⟨a,e,⟨xs,hx⟩,q⟩:=q1;subst e;obtain⟨u,rfl,ru⟩:=r1.one
 cases ru
 obtain⟨its,_,p1,_⟩:=I1.tuple hx;refine ub p1 λh' he hi sz kk=>RY he ?_
 have I2:Inv X pins σ H1 { s1 with heap:=h'}:=I1.kept (t':=s1.toks) kk;refine⟨_,[s1.heap.objs.size+1,s1.heap.objs.size],_,_,H1,rfl,I2,xI (a:=a) (Wi _),⟨⟨_,he⟩,hi⟩,λc hc=>?_,q⟩;have le:s1.heap.objs.size≤c:=by
  simp only[Nq,Oo,or_false] at hc;rcases hc with h|h
  ·rw[h];exact O4 _
  ·rw[h];exact Nb _
 exact I1.fpOk le (I1.hok.fresh le)
theorem AS{K:M6}{a:Addr}{xs:List V}{g:TG}{tb:TS}{D:i7}{σ:L2.St}{H:Hp}(Pv:Nat->L2.St->Hp->Prop)(h0:Pv 0 σ H)
  (hl:∀i σ H,i≤xs.length->Pv i σ H->bC K H a xs)
  (hs:∀i x p σ H,xs[i]?=some x->Pv i σ H->H p=none->g (.ref p) σ (aE H p (.tup [.int i,x])) λσ2 H2=>tb { D with nx:=Pv (i+1),ct:=Pv (i+1),bk:=D.nx} σ2 H2) (hd:∀σ H,Pv xs.length σ H->D.nx σ H) :
  ∃W:Nat->Nat->L2.St->Hp->Prop,(∃m,W 0 m σ H)/\∀i m σ H,W i m σ H→
   ((xi K a).stop i H/\D.nx σ H)∨((xi K a).go i H/\∃N:L2.St->Hp->Prop,(∀σ' H',N σ' H'->∃m',m'<m/\W (i+1) m' σ' H')/\∀x H',(xi K a).yld i H x H'->g x σ H' λσ2 H2=>tb { D with nx:=N,ct:=N,bk:=D.nx} σ2 H2):=by
 refine⟨λi m σ H=>m=xs.length-i/\i≤xs.length/\Pv i σ H,⟨_,Z,NB _,h0⟩,?_⟩;rintro i m σ H ⟨rfl,hi,p⟩;have q:=hl i σ H hi p;by_cases hlt:i<xs.length
 ·refine .inr ⟨⟨xs,_,q,M8 hlt⟩,Pv (i+1),λσ' H' p'=>⟨xs.length-(i+1),by omega,Z,hlt,p'⟩,λx H' y=>?_⟩;obtain⟨pp,v,hp,rfl,rfl,hv⟩:=y;exact hs i v pp σ _ (hv xs q) p hp
 ·have e:i=xs.length:=by omega
  subst e;exact .inl ⟨⟨xs,q,Nb _⟩,hd σ H p⟩
def xj(K:M6)(a:Addr):It:=
 ⟨λi H=>∃xs x,aV K H a xs/\xs[i]?=some x,
  λi H v H'=>∃p x,H p=none/\v=.ref p/\H'=aE H p (.tup [.int i,x])/\∀xs,aV K H a xs->xs[i]?=some x,
  λi H=>∃xs,aV K H a xs/\xs.length≤i⟩
theorem xJ{P:NW}{w:Ol}{K:M6}{elts:List N9}{x1}{pos:Q4}{e it a:Addr}(hei:e≠it) :
  sd P w K (.Tuple elts x1 pos) (xj K a) [e,it] e (λi h=>(∃old,IsEnum h e it (i:Nat) old)/\h.IsListIter it a i) where
 mem:=by simp
 obj:=λi h st c hc=>by
  obtain⟨⟨old,h1⟩,⟨o2,h2,c2,d2⟩⟩:=st;simp only[Nq,Oo,or_false] at hc;rcases hc with rfl|rfl
  ·exact⟨_,h1,λv q=>by cases(show Te _=UV v from q)⟩
  ·exact⟨o2,h2,λv q=>by rw[d2] at q;cases q⟩
 keep:=λi h h' st k=>by
  obtain⟨⟨old,h1⟩,h2⟩:=st;exact⟨⟨old,k e (by simp) _ h1⟩,l4 h2 λo q=>k it (by simp) o q⟩
 item:=by
  intro X hP hw hK hc i pins s σ H E I hf st hg;subst hP hw hK;obtain⟨xs,x,q1,hx⟩:=hg;obtain⟨its,rv,p1,z1⟩:=I.list q1;obtain⟨u,hu,ru⟩:=rv.get hx;have off:∀c∈[e,it],a≠c:=λc hc=>uF I q1 (hf c hc)
  obtain⟨⟨old,h1⟩,h2⟩:=st;have hh:X.A.in1.handled=none:=I.ok.hd hc;have na:a≠it:=off it (by simp);have ne:e∉[it,a]:=λq=>by
   simp only[Nq,Oo,or_false] at q;rcases q with q|q
   ·exact hei q
   ·exact off e (by simp) q.symm
  have hi:i<its.toArray.size:=by have:=(Ni.mp hu).1;simpa using this
  have el:e<s.heap.objs.size:=Nt h1;have il:it<s.heap.objs.size:=by obtain⟨o2,q2,_⟩:=h2;exact Nt q2
  refine TL (Draws.list hh it a na its.toArray) h1 ⟨h2,p1.isList⟩ hi hei ne λv h' tk hv eo st' tup hz hk=>⟨_,Z,SO eo λh'' e2 sb=>?_⟩
  have ev:v=u:=by
   have:its.toArray[i]?=some u:=by simpa using hu
   rw[this] at hv;exact(OB hv).symm
  subst ev;have nt:s.heap.objs.size≠e:=Qt el;have ni:s.heap.objs.size≠it:=Qt il;have P:bW X.prog X.w (aE H s.heap.objs.size (.tup [.int i,x])) h'' s.heap.objs.size (.tup [.int i,x]):=
   ⟨by show 2≤sizeLine;decide,[.int i tk,v],.cons ⟨_,Z⟩ (.cons ru .nil),⟨_,sb.extBut _ _ nt tup,Z,_,Z⟩⟩
  have I2:Inv X pins σ (aE H s.heap.objs.size (.tup [.int i,x])) { s with heap:=h'',toks:=tk+1}:=oy I (λc o' n q=>by
   have n1:c≠e:=λr=>n (by simp[r])
   have n2:c≠it:=λr=>n (by simp[r])
   exact sb.extBut _ _ n1 (hk c o' n1 n2 q)) hf (Nb _) P
  refine⟨.ref s.heap.objs.size,_,I2,Z,⟨_,x,I.fresh,Z,Z,λys hy=>by rw[I.list_inj hy q1];exact hx⟩,⟨⟨_,by simpa using e2⟩,l4 st'.1 λo q=>sb.extBut _ _ hei.symm q⟩,λc hc=>?_⟩;have lt:c<s.heap.objs.size:=by
   simp only[Nq,Oo,or_false] at hc;rcases hc with rfl|rfl
   ·exact el
   ·exact il
  rw[aJ (NT lt)];exact(hf c hc).1
 done:=by
  intro X hP hw hK hc i pins s σ H E I hf st hg;subst hP hw hK;obtain⟨xs,q1,hx⟩:=hg;obtain⟨its,rv,p1,z1⟩:=I.list q1;have off:∀c∈[e,it],a≠c:=λc hc=>uF I q1 (hf c hc)
  obtain⟨⟨old,h1⟩,h2⟩:=st;have hh:X.A.in1.handled=none:=I.ok.hd hc;have hl:=rv.length;have nn:its.toArray[i]?=none:=by rw[SQ];simp;omega
  have hT:s.TypeIs (.ref e) "enumerate" := ⟨_,h1,Z⟩;unfold RQ;refine M9 (RD (Os (name:=OL "__next__") hT F.slot_enumerate_next (OA F.slot_enumerate_next hT F.entry_enumerate_next ?_ (F.args_enumerate_next_1 _))))
  show Nv _ _ (Xu (.ref e) 2 >>= _) _ _ _;refine M9 (QK h1 Z (x:=.ref it) Z ?_);refine M9 (wpAny_nextOf_list_end hh h2 p1.isList nn λh' x he' hx'=>?_);obtain⟨o,ho,hcl⟩:=hx';refine M9 (Rn (T := "StopIteration") (b:=true) ⟨o,ho,hcl⟩ SR ?_);refine Nj ⟨Z,?_⟩;exact oz (t':=s.toks) I (λc o' n q=>he' c o' (λr=>n (by simp[r])) q) hf
 self:=λA i s Q E st h=>by
  obtain⟨⟨old,h1⟩,_⟩:=st;exact RY h1 h
def IA(K:M6)(ta:TA):TI:=λσ H R=>ta σ H λvs H1=>∃a,vs=[.ref a]/\(∃xs,aV K H1 a xs)/\R (xj K a) H1
theorem Aa{X:Cx}{elts:List N9}{x1}{tp p pos:Q4}{a:N9}{ta:TA}(hg:Gl X "enumerate")(hm:X.mg "enumerate"=none)(ha:PA X [a] ta)(hs:Nw [a] X.env=[(false,eval a X.env)]:=by rfl) :
  PI X (.Tuple elts x1 tp) (.Call (.Name "enumerate" p) [a] [] pos) (IA X.K ta):=by
 intro pins s σ H R I h;refine Xr (gU I hg hm (show Pu "enumerate"=some (.type "enumerate") by kernel_rfl) (OQ (cF (ha pos pins s σ H _ I h) λus s1 ⟨vs,H1,I1,r1,q1⟩=>?_) hs Z));obtain⟨a,e,⟨xs,hx⟩,q⟩:=q1;subst e;obtain⟨u,rfl,ru⟩:=r1.one
 cases ru
 obtain⟨its,_,p1,_⟩:=I1.list hx;refine call_enumerate_list p1.isList λh' he hi sz kk=>RY he ?_
 have I2:Inv X pins σ H1 { s1 with heap:=h'}:=I1.kept (t':=s1.toks) kk;refine⟨_,[s1.heap.objs.size+1,s1.heap.objs.size],_,_,H1,rfl,I2,xJ (a:=a) (Wi _),⟨⟨_,he⟩,hi⟩,λc hc=>?_,q⟩;have le:s1.heap.objs.size≤c:=by
  simp only[Nq,Oo,or_false] at hc;rcases hc with h|h
  ·rw[h];exact O4 _
  ·rw[h];exact Nb _
 exact I1.fpOk le (I1.hok.fresh le)
theorem wK{K:M6}{a:Addr}{xs:List V}{g:TG}{tb:TS}{D:i7}{σ:L2.St}{H:Hp}(Pv:Nat->L2.St->Hp->Prop)(h0:Pv 0 σ H)
  (hl:∀i σ H,i≤xs.length->Pv i σ H->aV K H a xs)
  (hs:∀i x p σ H,xs[i]?=some x->Pv i σ H->H p=none->g (.ref p) σ (aE H p (.tup [.int i,x])) λσ2 H2=>tb { D with nx:=Pv (i+1),ct:=Pv (i+1),bk:=D.nx} σ2 H2) (hd:∀σ H,Pv xs.length σ H->D.nx σ H) :
  ∃W:Nat->Nat->L2.St->Hp->Prop,(∃m,W 0 m σ H)/\∀i m σ H,W i m σ H→
   ((xj K a).stop i H/\D.nx σ H)∨((xj K a).go i H/\∃N:L2.St->Hp->Prop,(∀σ' H',N σ' H'->∃m',m'<m/\W (i+1) m' σ' H')/\∀x H',(xj K a).yld i H x H'->g x σ H' λσ2 H2=>tb { D with nx:=N,ct:=N,bk:=D.nx} σ2 H2):=by
 refine⟨λi m σ H=>m=xs.length-i/\i≤xs.length/\Pv i σ H,⟨_,Z,NB _,h0⟩,?_⟩;rintro i m σ H ⟨rfl,hi,p⟩;have q:=hl i σ H hi p;by_cases hlt:i<xs.length
 ·refine .inr ⟨⟨xs,_,q,M8 hlt⟩,Pv (i+1),λσ' H' p'=>⟨xs.length-(i+1),by omega,Z,hlt,p'⟩,λx H' y=>?_⟩;obtain⟨pp,v,hp,rfl,rfl,hv⟩:=y;exact hs i v pp σ _ (hv xs q) p hp
 ·have e:i=xs.length:=by omega
  subst e;exact .inl ⟨⟨xs,q,Nb _⟩,hd σ H p⟩
section
variable {prog:NW}{w:Ol}{A:N8}{E:Value->Nf->Prop}
end
def Ma(K:M6)(n:Nat)(t:xc):TG:=λv σ H Q=>∃a xs,v=.ref a/\aV K H a xs/\xs.length=n/\t xs σ H Q
section
variable {prog:NW}{w:Ol}{A:N8}{E:Value->Nf->Prop}{s:Nf}
open HT in
theorem qr{t sl:Addr}{items:Array Value}{vl vu:Value}{lo hi:Option Int}{Q:Value->Nf->Prop}(ht:Vw s.heap t items)(hs:s.heap.IsSliceOf sl vl vu .none)(pl:Ui vl lo)(pu:Ui vu hi)
  (h1:sIx items.size 0 lo=0) (h2:sIx items.size items.size hi=items.size) (h:Q (.ref t) s):Nv (NJ prog w) A (Ss (.ref t) (.ref sl)) Q E s:=by
 obtain⟨os,hos,hcs,hds⟩:=id hs;have hTs:s.TypeIs (.ref sl) "slice" := ⟨os,hos,hcs⟩;unfold Ss
 try with_reducible refine wpAny_holding ?_
 first|refine M9 (Nj ?_)|skip
 refine M9 (VB ht.typeIs (by decide) ?_);refine M9 (Os (name:=OL "__getitem__") ht.typeIs OR (OA OR ht.typeIs U1 ?_ (Vk _ _)))
 show Nv _ _ (SK (.ref t) >>= _) _ _ s;refine M9 (tupleItemsOf_ ht ?_);refine M9 (RT hTs ?_);rw[if_pos (by decide)];refine M9 (gs hs pl pu ?_);have hyes:((((sIx items.size 0 lo:Nat):Int)==0&&(1:Int)==1&&(sIx items.size items.size hi-sIx items.size 0 lo)==items.size)=true):=by
  rw[h1,h2];simp
 show Nv _ _ (if(((sIx items.size 0 lo:Nat):Int)==0&&(1:Int)==1&&(sIx items.size items.size hi-sIx items.size 0 lo)==items.size)=true then _ else _) _ _ s;rw[if_pos hyes];refine M9 ?_;unfold NO.Tuple.tupleIsExact;refine M9 (RT ht.typeIs ?_);refine Nj ?_;rw[if_pos (by decide)];exact M9 (SE (Nj ⟨_,Z,Nj h⟩))
end
def Hw(K:M6):V->Option Int->Option Int->Hp->VK->Prop:=λx lo hi H Q=>∃a xs,x=.ref a/\bC K H a xs/\HT.sIx xs.length 0 lo=0/\HT.sIx xs.length xs.length hi=xs.length/\Q (.ref a) H
theorem BO:xx X (Hw X.K):=by
 intro pins s σ H x v vl vu lo hi sl Q I rx hs pl pu h;obtain⟨a,xs,rfl,hx,h1,h2,q⟩:=h
 cases rx
 obtain⟨its,r,ht,hz⟩:=I.tuple hx;have hlen:its.toArray.size=xs.length:=by rw[NK];exact r.length.symm
 refine⟨"tuple",_,OR.lookup,ht.typeIs,?_⟩;exact qr ht hs pl pu (by rw[hlen];exact h1) (by rw[hlen];exact h2) ⟨.ref a,H,I,Z,q⟩
theorem BP:xx X (λx lo hi H Q=>Hw X.K x lo hi H Q∨Hx X.K x lo hi H Q):=xx.or BO Ed
end B
namespace B
theorem FY(hb:0<b)(hd:0<d)(e:a*d=c*b):dZ a b=dZ c d:=by
 have hr:=eQ (a:=c) hd;have hc:=jZ (a:=c) hd;generalize dZ c d=m at hr hc ⊢;refine fT hb hr.pos hr.cop ?_;refine Qi (show d≠0 by omega) ?_;have e1:m.1*b*d=m.1*d*b:=by ac_rfl
 have e2:a*m.2*d=a*d*m.2:=by ac_rfl
 rw[e1,hc,e2,e]
 ac_rfl
structure Bq(D N:Nat)(r:R):Prop where
 pos:0<r.2
 cop:Nx r.1 r.2=1
 dvd:r.2∣(D:Int)
 le:r.1.natAbs≤N*r.2.natAbs
theorem Bq.red(h:Bq D N r):hU r:=⟨h.pos,h.cop⟩
theorem vx{D N:Nat}{a b:Int}(hb:0<b)(hd:b∣(D:Int))(hl:a.natAbs≤N*b.natAbs):Bq D N (dZ a b):=by
 obtain⟨g,x,y,e0,gp,e1,e2,c⟩:=fK (a:=a) hb;have yp:=i4 hb gp e2;have e:dZ a b=(x,y):=by
  unfold dZ;rw[e0,show a/g=x by rw[e1];exact NN _ (by omega),show b/g=y by rw[e2];exact NN _ (by omega)]
 rw[e];refine⟨yp,c,Si ⟨g,by rw[e2,PN]⟩ hd,?_⟩;rw[e1,e2,PU,PU] at hl;have gn:0<g.natAbs:=by omega
 refine Nat.le_of_mul_le_mul_left (c:=g.natAbs) ?_ gn;show g.natAbs*x.natAbs≤g.natAbs*(N*y.natAbs);rw[Nat.mul_left_comm];exact hl
theorem Bq.mono(h:Bq D N r)(hd:D∣D')(hn:N≤N'):Bq D' N' r:=
 ⟨h.pos,h.cop,Si h.dvd (Int.ofNat_dvd.mpr hd),NH h.le (Rh _ hn)⟩
theorem Bq.plus(hD:0<D)(h:Bq D N r)(k:Bq D M q):Bq D (N+M) (bF r q):=by
 obtain⟨y,ey⟩:=h.dvd;obtain⟨v,ev⟩:=k.dvd;have dp:(0:Int)<(D:Int):=by omega
 have e:bF r q=dZ (r.1*y+q.1*v) (D:Int):=by
  unfold bF;refine FY (Oc h.pos k.pos) dp ?_;rw[UN,UN];have a1:r.1*q.2*(D:Int)=r.1*y*(r.2*q.2):=by rw[ey];ac_rfl
  have a2:q.1*r.2*(D:Int)=q.1*v*(r.2*q.2):=by rw[ev];ac_rfl
  rw[a1,a2]
 rw[e];refine vx dp (Int.dvd_refl _) ?_;have b1:(r.1*y).natAbs≤N*D:=by
  have:(D:Int).natAbs=r.2.natAbs*y.natAbs:=by rw[ey,PU]
  rw[PU];have z:=Rh y.natAbs h.le;rw[Xa,←this] at z
  simpa using z
 have b2:(q.1*v).natAbs≤M*D:=by
  have:(D:Int).natAbs=q.2.natAbs*v.natAbs:=by rw[ev,PU]
  rw[PU];have z:=Rh v.natAbs k.le;rw[Xa,←this] at z
  simpa using z
 have b3:=VH (r.1*y) (q.1*v);have b4:(D:Int).natAbs=D:=RG D;rw[b4,Wv];omega
theorem Bq.neg(h:Bq D N r):Bq D N (-r.1,r.2):=⟨h.pos,by show Nx (-r.1) r.2=1;rw[Int.neg_gcd];exact h.cop,h.dvd,by show(-r.1).natAbs≤_;rw[WS];exact h.le⟩
theorem Bq.minus(hD:0<D)(h:Bq D N r)(k:Bq D M q):Bq D (N+M) (cY r q):=by
 rw[←lY];exact h.plus hD k.neg
theorem Bq.times(h:Bq D N r)(k:Bq E M q):Bq (D*E) (N*M) (aC r q):=by
 refine vx (Oc h.pos k.pos) ?_ ?_
 ·rw[RF];exact Int.mul_dvd_mul h.dvd k.dvd
 ·rw[PU,PU];have z:=UO h.le k.le
  calc r.1.natAbs*q.1.natAbs≤N*r.2.natAbs*(M*q.2.natAbs):=z
   _=N*M*(r.2.natAbs*q.2.natAbs):=by ac_rfl
theorem u3(ha:0<a)(hb:0<b):0<(dZ a b).1:=Px ha (Ox (ck hb)) (TK a b)
theorem Bq.bot(hD:0<D)(h:Bq D N r):r.2.natAbs≤D:=by
 have:=R4.mpr h.dvd;rw[RG] at this;exact U9 hD this
theorem Bq.wf(h:Bq D N r)(hD:0<D)(h1:D<2^n)(h2:N*D<2^n):Wf n r:=
 ⟨h.pos,OP (NH h.le (P5 _ (h.bot hD))) h2,OP (h.bot hD) h1,h.cop⟩
theorem AB:bK r q=true↔r.1*q.2<q.1*r.2:=by unfold bK;exact decide_eq_true_iff
theorem rp:bK r q=false↔q.1*r.2≤r.1*q.2:=by unfold bK;rw[decide_eq_false_iff_not,Int.not_lt]
theorem tM(ha:0≤a):0≤(dZ a b).1:=Qq ha (by omega)
theorem Ce(hr:hU r)(hq:hU q)(h1:0≤r.1)(h2:0≤q.1):0≤(bF r q).1:=
 tM (Int.add_nonneg (RZ h1 (Ox hq.pos)) (RZ h2 (Ox hr.pos)))
end B
namespace B
open PySem PySem.Spec L2 PyProof.Rows
inductive Rl where
 |pow (k:Int)
 |tab (rows:List (R×R))
def sZ:R×R:=((0,1),(0,1))
def Ec(lo hi:R×R):R:=Ii (cY hi.2 lo.2) (cY hi.1 lo.1)
def Ji(rows:List (R×R))(k:Nat):R:=Ec (rows.getD k sZ) (rows.getD (k+1) sZ)
def Ih(rows:List (R×R))(s:R):Nat:=rows.countP λr=>bK r.1 s
def HP(rows:List (R×R))(s:R):Nat:=rows.countP λr=>!bK s r.1
def Iv(rows:List (R×R))(s:R):R:=if Ih rows s=0 then(0,1) else Ji rows (Ih rows s-1)
def EO(rows:List (R×R))(s:R):Option R:=if HP rows s<rows.length then some (Ji rows (HP rows s-1)) else none
def HS(k:Int)(s:R):R:=aC (k,1) (HU s (k-1).toNat)
def Jj:Rl->R->R×Option R
 | .pow k,s=>(HS k s,some (HS k s))
 | .tab rows,s=>(Iv rows s,EO rows s)
def Mz(rows:List (R×R)):Prop:=rows.Pairwise λa b=>bK a.1 b.1=true
def MI(rows:List (R×R)):Prop:=∀r∈rows,0<r.1.2
abbrev D0:Nat:=5822723907000000000
abbrev N0:Nat:=1000000007
abbrev N1:Nat:=17179869184
abbrev NR:Nat:=11000000077
abbrev N2:Nat:=1180591620717411303424
structure GA(rows:List (R×R)):Prop where
 n2:2≤rows.length
 n12:rows.length≤12
 inc:Mz rows
 zero:∃y,rows[0]?=some ((0,1),y)
 sp:∀r∈rows,Bq D0 NR r.1
 pw:∀r∈rows,Bq (D0*D0) N2 r.2
def Mo:Rl->Prop
 | .pow k=>2≤k/\k≤4
 | .tab rows=>GA rows
structure Ml(s:R):Prop where
 bq:Bq (D0*2) N1 s
 nn:0≤s.1
def Lu:Rl->R->Prop
 | .pow _,_=>True
 | .tab rows,s=>∃r,rows[rows.length-1]?=some r/\bK r.1 s=false
def MR(rows:List (R×R))(s:R)(i:Nat):R:=if 0<Ih rows s/\Ih rows s-1<i then Ji rows (Ih rows s-1) else(0,1)
def MQ(rows:List (R×R))(s:R)(i:Nat):Option R:=if 0<HP rows s/\HP rows s-1<i then some (Ji rows (HP rows s-1)) else none
def K5(k:Int)(s:R)(j:Nat):R:=dZ (k*s.1^j) (s.2^j)
def Le(l:R)(r:Option R)(g:R):Bool:=!bK g l&&(match r with|none=>true|some x=>!bK x g)
end B
namespace B
def val(r:R):Rat:=(r.1:Rat)/(r.2:Rat)
theorem dq{b:Int}(h:0<b):(b:Rat)≠0:=λz=>by
 have:b=0:=Ut.mp (by rw[z];rfl);omega
theorem DU{r:R}{a b:Int}(hr:0<r.2)(hb:(b:Rat)≠0)(h:r.1*b=a*r.2):val r=(a:Rat)/(b:Rat):=by
 have h2:(r.1:Rat)*(b:Rat)=(a:Rat)*(r.2:Rat):=by rw[←Oj,←Oj,h]
 have h1:=dq hr;unfold val;generalize (r.1:Rat)=x at *;generalize (r.2:Rat)=y at *;generalize (a:Rat)=u at *;generalize (b:Rat)=v at *;grind
theorem jK(hb:0<b):val (dZ a b)=(a:Rat)/(b:Rat):=DU (eQ hb).pos (dq hb) (jZ hb)
theorem ia(hr:0<r.2)(hq:0<q.2):val (bF r q)=val r+val q:=by
 unfold bF;rw[jK (Oc hr hq)];have h1:=dq hr;have h2:=dq hq;unfold val;rw[Sr,Oj,Oj,Oj];generalize (r.1:Rat)=x at *;generalize (r.2:Rat)=y at *;generalize (q.1:Rat)=u at *;generalize (q.2:Rat)=v at *;grind
theorem fI(hr:0<r.2)(hq:0<q.2):val (cY r q)=val r-val q:=by
 unfold cY;rw[jK (Oc hr hq)];have h1:=dq hr;have h2:=dq hq;unfold val;rw[Rat.intCast_sub,Oj,Oj,Oj];generalize (r.1:Rat)=x at *;generalize (r.2:Rat)=y at *;generalize (q.1:Rat)=u at *;generalize (q.2:Rat)=v at *;grind
theorem fH(hr:0<r.2)(hq:0<q.2):val (aC r q)=val r*val q:=by
 unfold aC;rw[jK (Oc hr hq)];have h1:=dq hr;have h2:=dq hq;unfold val;rw[Oj,Oj];generalize (r.1:Rat)=x at *;generalize (r.2:Rat)=y at *;generalize (q.1:Rat)=u at *;generalize (q.2:Rat)=v at *;grind
theorem fY(hr:hU r)(hq:hU q)(h:val r=val q):r=q:=by
 have h1:=dq hr.pos;have h2:=dq hq.pos;have e:r.1*q.2=q.1*r.2:=by
  refine Ut.mp ?_;rw[Oj,Oj];unfold val at h;generalize (r.1:Rat)=x at *;generalize (r.2:Rat)=y at *;generalize (q.1:Rat)=u at *;generalize (q.2:Rat)=v at *;grind
 have e1:dZ r.1 r.2=(r.1,r.2):=fT hr.pos hr.pos hr.cop Z;have e2:dZ r.1 r.2=(q.1,q.2):=fT hr.pos hq.pos hq.cop e.symm;exact e1.symm.trans e2
theorem eT(hr:0<r.2):val r=0↔r.1=0:=by
 have h1:=dq hr;unfold val;constructor
 ·intro h;refine Ut.mp ?_;show(r.1:Rat)=((0:Int):Rat);rw[show((0:Int):Rat)=0 from Z];generalize (r.1:Rat)=x at *;generalize (r.2:Rat)=y at *;grind
 ·intro h;rw[h];show((0:Int):Rat)/_=0;rw[show((0:Int):Rat)=0 from Z];generalize (r.2:Rat)=y at *;grind
end B
namespace B
def MO(rows:List (R×R))(i:Nat):Rat:=(val (rows.getD (i+1) sZ).2-val (rows.getD i sZ).2)/(val (rows.getD (i+1) sZ).1-val (rows.getD i sZ).1)
section
variable {s p:Nat->Rat}{n:Nat}
def sl(s p:Nat->Rat)(i:Nat):Rat:=(p (i+1)-p i)/(s (i+1)-s i)
end
end B
namespace B
open PySem PySem.Spec L2 PyProof.Rows
structure QE(X:Cx)(e:N9)(t:TE):Prop where
 p:PE X e t
structure QT(X:Cx)(e:N9)(t:TT):Prop where
 p:PT X e t
structure QW(X:Cx)(e:N9)(t:TT):Prop where
 p:PW X e t
structure QA(X:Cx)(es:List N9)(t:TA):Prop where
 p:PA X es t
structure QS(X:Cx)(st:Stmt)(t:TS):Prop where
 p:PS X st t
structure dS(X:Cx)(st:List Stmt)(t:TS):Prop where
 p:uk X st t
structure QI(X:Cx)(tg iter:N9)(wi:TI):Prop where
 p:PI X tg iter wi
structure QG(X:Cx)(target:N9)(t:TG):Prop where
 p:PG X target t
structure IP(X:Cx)(ts:List N9)(t:xc):Prop where
 p:GX X ts t
theorem dS.ok(h:dS X b t)(r:t D σ H):∃t:TS,uk X b t/\t D σ H:=⟨t,h.p,r⟩
structure QO(X:Cx)(o:Option N9)(t:L2.TO):Prop where
 p:PO X o t
section
set_option autoImplicit true
set_option relaxedAutoImplicit true
theorem qv(i:Nat){x:NV}{pos:Q4}(hN:X.N[i]?=some x:=by rfl)(hv:IJ X.env.scope x:=by first|exact NG Z|exact NC (NG Z)|exact NC (NC Z))(hd:(x==("__debug__" : NV))=false:=by decide)(hcd:(x==("__classdict__" : NV))=false:=by decide):QE X (.Name x pos) (DY i):=⟨pv i hN hv hd hcd⟩
theorem ah{i j pos}:QE X (.Constant (.int i) j pos) (tC (.int i)):=⟨Fi ⟩
theorem eU{b j pos}:QE X (.Constant (.bool b) j pos) (tC (.bl b)):=⟨Ig ⟩
theorem o4{j pos}:QE X (.Constant .none j pos) (tC .non):=⟨Fg ⟩
theorem zO{x j pos}:QE X (.Constant (.str x) j pos) (tC (.str x)):=⟨Fd ⟩
theorem dN{x:NV}{v:V}{u:Value}{pos:Q4}(hg:Gl X x)(hm:X.mg x=some u)(r:bv v u)(hd:(x==("__debug__" : NV))=false:=by decide):QE X (.Name x pos) (tC v):=⟨Cn hg hm r hd⟩
theorem iH{x:NV}{v:V}{u:Value}{pos:Q4}(hg:Gl X x)(hm:X.mg x=none)(hv:Pu x=some u)(r:bv v u)(hn:x ≠ "__name__" := by decide)(hd:(x==("__debug__" : NV))=false:=by decide):QE X (.Name x pos) (tC v):=⟨Cq hg hm hv r hn hd⟩
theorem jr(ho:Ju X (unaryOp op) r)(ha:QE X a ta):QE X (.UnaryOp op a pos) (Ky r ta):=⟨HY ho ha.p⟩
theorem zP(ha:QE X a ta):QE X (.UnaryOp .Not a pos) (Dk ta):=⟨Ff ha.p⟩
theorem aP(ho:gK X (QX op) r)(ha:QE X a ta)(hb:QE X b tb):QE X (.BinOp a op b pos) (By r ta tb):=⟨HZ ho ha.p hb.p⟩
theorem oZ{op}(h:QE X a t):QE X (.BoolOp op [a] pos) t:=⟨Fe h.p⟩
theorem lP{em:List N9}(ha:QE X a ta)(hb:QE X (.BoolOp .And (b::em) pos) tb):QE X (.BoolOp .And (a::b::em) pos) (Dp ta tb):=⟨Fj ha.p hb.p⟩
theorem f6(ho:gK X (Oz op) r)(ha:QE X a ta)(hb:QE X b tb)(hm:Rz op b=false):QE X (.Compare a [op] [b] pos) (By r ta tb):=⟨Co ho ha.p hb.p hm⟩
theorem qW{op op':WG}{r r':R2}(ho:gK X (Oz op) r)(ho':gK X (Oz op') r')(ha:QE X a ta)(hb:QE X b tb)(hc:QE X c tc)(hm:Wb [op,op'] [b,c]=false:=by with_unfolding_all rfl):QE X (.Compare a [op,op'] [b,c] pos) (oB r r' ta tb tc):=⟨Aj ho ho' ha.p hb.p hc.p hm⟩
theorem qV(hc:QT X c tA)(ha:QE X a ta)(hb:QE X b tb):QE X (.IfExp c a b pos) (KI tA ta tb):=⟨Ag hc.p ha.p hb.p⟩
theorem cL(h:QA X es t):QE X (.List es pos) (Hk t):=⟨Fh h.p⟩
theorem bz{x1}(h:QA X es t):QE X (.Tuple es x1 pos) (He t):=⟨Fc h.p⟩
theorem lO{lo hi:Option N9}{r:V->Option Int->Option Int->Hp->VK->Prop}(hr:xx X r)(he:QE X e te)(hl:QO X lo tl)(hu:QO X hi th):QE X (.Subscript e (.Slice lo hi none p2) pos) (KA r te tl th):=⟨Ae hr he.p hl.p hu.p⟩
theorem B1   : QO X none uz:=⟨Cd ⟩
theorem jp(h:QE X e te):QO X (some e) (Dj te):=⟨Cc h.p⟩
theorem bB(hr:GG X r)(ha:QE X a ta)(hb:QE X b tb)(hs:pT b):QE X (.Subscript a b pos) (By r ta tb):=⟨Ic hr ha.p hb.p hs⟩
theorem fz(F:bX X.prog X.w X.K X.mg X.base CX k f fd ps sp)(hr:ft k X.A)(hg:Gl X x)(hm:X.mg x=some (.ref f))(hk:PQ X.K (.ref f)=true)(hb:ba X.K fd ps ds)(hd:bE dvs ds)(hx:pU CX X E)(ha:QA X (e::es) t)(hdb:(x==("__debug__" : NV))=false:=by decide)(he:Nw (e::es) X.env=(false,eval e X.env)::Nw es X.env:=by rfl)(hpl:(Rc pos (Nw es X.env)).any (·.1)=false:=by rfl):QE X (.Call (.Name x p) (e::es) [] pos) (xT sp dvs E t):=⟨Cp F hr hg hm hk hb hd hx ha.p hdb he hpl⟩
theorem aG{id:String}(hc:c6 X (.builtin id) r)(hg:Gl X x)(hm:X.mg x=none)(hv:Pu x=some (.builtin id))(ha:QA X (e::es) t)(hn:x ≠ "__name__" := by decide)(hdb:(x==("__debug__" : NV))=false:=by decide)(he:Nw (e::es) X.env=(false,eval e X.env)::Nw es X.env:=by rfl)(hpl:(Rc pos (Nw es X.env)).any (·.1)=false:=by rfl):QE X (.Call (.Name x p) (e::es) [] pos) (Jd r t):=⟨Ak hc hg hm hv ha.p hn hdb he hpl⟩
theorem bM(hc:c6 X (.type T) r)(hg:Gl X x)(hm:X.mg x=none)(hv:Pu x=some (.type T))(ha:QA X (e::es) t)(hn:x ≠ "__name__" := by decide)(hdb:(x==("__debug__" : NV))=false:=by decide)(he:Nw (e::es) X.env=(false,eval e X.env)::Nw es X.env:=by rfl)(hpl:(Rc pos (Nw es X.env)).any (·.1)=false:=by rfl):QE X (.Call (.Name x p) (e::es) [] pos) (Jd r t):=⟨wk hc hg hm hv ha.p hn hdb he hpl⟩
theorem gY{id:String}(pa:PlainAttrs T)(slot:Slot T name id)(hty:typeOf (.builtin id)=Pq (.type "method_descriptor"))(hm:Lm X id r)(ho:QE X o to)(ha:QA X (e::es) t)(hbase:RB o name X.env (eval o X.env)=eval o X.env:=by rfl) (hfew:((Rc cpos (Nw (e::es) X.env)).all (λx=>!x.1)&&(VA cpos (Tk [] X.env)).all (λx=>x.1.isSome)
  &&decide ((e::es).length+([]:List Sv).length+(if([]:List Sv).isEmpty then 0 else 1)<30))=true:=by rfl) (hline:(apos.endLine==cpos.line)=true:=by rfl) (hs:Nw (e::es) X.env=(false,eval e X.env)::Nw es X.env:=by rfl) (hplain:(Rc cpos (Nw es X.env)).any (·.1)=false:=by rfl):QE X (.Call (.Attribute o name apos) (e::es) [] cpos) (KM X.K T r to t):=⟨Ie pa slot hty hm ho.p ha.p hbase hfew hline hs hplain⟩
theorem af   : QA X [] Hj:=⟨Fk ⟩
theorem ac(ha:QE X e te)(hr:QA X es t)(hs:Nw (e::es) X.env=(false,eval e X.env)::Nw es X.env:=by rfl):QA X (e::es) (Do te t):=⟨Cs ha.p hr.p hs⟩
theorem aQ(ho:gK X (Oz op) r)(ha:QE X a ta)(hb:QE X b tb)(hm:Rz op b=false):QT X (.Compare a [op] [b] pos) (uy (By r ta tb)):=⟨B6 ho ha.p hb.p hm⟩
theorem lN{op op':WG}{r r':R2}(ho:gK X (Oz op) r)(ho':gK X (Oz op') r')(ha:QE X a ta)(hb:QE X b tb)(hc:QE X c tc)(hm:Wb [op,op'] [b,c]=false:=by with_unfolding_all rfl):QT X (.Compare a [op,op'] [b,c] pos) (uy (oB r r' ta tb tc)):=⟨zT ho ho' ha.p hb.p hc.p hm⟩
theorem df{e:N9}{t:TE}(h:QE X e t)(he:∀whole,isTrue e X.env whole=(do let v ←whole;Xk e.pos;holding [v] (truthy v)):=by intro _;rfl):QT X e (tB t):=⟨EZ h.p he⟩
theorem dQ(ha:QT X a tA):QT X (.UnaryOp .Not a pos) (Hi tA):=⟨E1 ha.p⟩
theorem ii{em:List N9}(ha:QT X a tA)(hb:QW X (.BoolOp .And (b::em) pos) tB'):QW X (.BoolOp .And (a::b::em) pos) (Ho tA tB'):=⟨EX ha.p hb.p⟩
theorem iF(ha:QT X a tA):QW X (.BoolOp .And [a] pos) tA:=⟨B3 ha.p⟩
theorem iQ{em:List N9}(ha:QT X a tA)(hb:QW X (.BoolOp .Or (b::em) pos) tB'):QW X (.BoolOp .Or (a::b::em) pos) (KD tA tB'):=⟨HQ ha.p hb.p⟩
theorem gQ(ha:QT X a tA):QW X (.BoolOp .Or [a] pos) tA:=⟨EW ha.p⟩
theorem fS(h:QW X e t):QT X e t:=⟨PW.pt h.p⟩
theorem ET{i:Nat}{x:NV}{e:N9}{te:TE}{pos':Q4}(hN:X.N.Nodup)(hi:X.N[i]?=some x)(hx:xh X.env.scope x)(he:QE X e te)(hs:Q3 e (some (.Name x pos')) pos.line X.env=Pq false:=by rfl)(hf:X.fn x=true∨X.env.scope.names.lookup x=some .local:=by first|exact .inl Z|exact .inr Z|assumption):QS X (.Assign [.Name x pos'] e pos) (oC te (jx i)):=⟨E3 hN hi hx he.p hs hf⟩
theorem tq{i j:Nat}{x y:NV}{a b:N9}{ta:TA}{px py pt:Q4}{kt k2 pt2}(hc:X.calm=true)(hN:X.N.Nodup)(hi:X.N[i]?=some x)(hj:X.N[j]?=some y)(hij:i≠j)(hx:X.env.scope.names.lookup x=some .local)(hy:X.env.scope.names.lookup y=some .local)(ha:QA X [a,b] ta)(hw:Tt [.Tuple [.Name x px,.Name y py] kt pt] (.Tuple [a,b] k2 pt2) X.env=Pq (some [x,y]))(hs:Ts [.Tuple [.Name x px,.Name y py] kt pt] (.Tuple [a,b] k2 pt2) pos.line X.env=Pq false:=by rfl):QS X (.Assign [.Tuple [.Name x px,.Name y py] kt pt] (.Tuple [a,b] k2 pt2) pos) (Hg i j ta):=⟨E5 hc hN hi hj hij hx hy ha.p hw hs⟩
theorem gf{tg e:N9}{te:TE}{g:TG}(he:QE X e te)(hg:QG X tg g)(hs:Ts [tg] e pos.line X.env=Pq false:=by rfl)(hw:Tt [tg] e X.env=Pq none:=by rfl)(h1:(Pw [tg] X.env).map (·.2)=[R6 tg X.env]:=by rfl):QS X (.Assign [tg] e pos) (oC te g):=⟨E8 he.p hg.p hs hw h1⟩
theorem EU{i:Nat}{x:NV}{e:N9}{te:TE}{op:WH}{ti:GV}{pos':Q4}(hN:X.N.Nodup)(hi:X.N[i]?=some x)(hx:xh X.env.scope x)(he:QE X e te)(ho:Kk X op ti)(hf:X.fn x=true∨X.env.scope.names.lookup x=some .local:=by first|exact .inl Z|exact .inr Z|assumption):QS X (.AugAssign (.Name x pos') op e pos) (Hn i te ti):=⟨E7 hN hi hx he.p ho hf⟩
theorem ca(hc:QT X c tc)(ha:dS X a t)(hb:dS X b u):QS X (.If c a b pos) (Hl tc t u):=⟨HR hc.p ha.p hb.p⟩
theorem ij(hp:Oe (NJ X.prog X.w) X.A X.env X.xe)(hc:QT X c tc)(hb:dS X body tb):QS X (.While c body [] pos) (xP tc tb):=⟨zV hp hc.p hb.p⟩
theorem cj{iter:N9}{body:List Stmt}{wi:TI}{g:TG}{tb:TS}{pos:Q4}(hp:Oe (NJ X.prog X.w) X.A X.env X.xe)(hc:X.calm=true)(hi:QI X tg iter wi)(hg:QG X tg g)(hb:dS X body tb)(hs:∀x,Ph iter X.env x=Pq x:=by intro _;rfl):QS X (.For tg iter body [] pos) (Hm wi g tb):=⟨E6 hp hc hi.p hg.p hb.p hs⟩
theorem aO(he:QE X e te):QS X (.Return (some e) pos) (Hf te):=⟨E4 he.p⟩
theorem dD(he:QE X e te)(hs:Q3 e none pos.line X.env=Pq false:=by rfl):QS X (.Expr e pos) (Dm te):=⟨Ca he.p hs⟩
theorem qT   : QS X (.Continue pos) Dn:=⟨qX ⟩
theorem gz{st:Stmt}  : QS X st xQ:=⟨zX ⟩
theorem be   : dS X [] Dl:=⟨B8 ⟩
theorem aj{st:Stmt}(h1:QS X st t):dS X [st] t:=⟨B7 h1.p⟩
theorem zK{st:Stmt}{em:List Stmt}(h1:QS X st t)(h2:dS X em u):dS X (st::em) (DZ t u):=⟨zU h1.p h2.p⟩
theorem b8{a:N9}{ta:TA}{p pos:Q4}(hg:Gl X "range")(hm:X.mg "range"=none)(ha:QA X [a] ta)(hs:Nw [a] X.env=[(false,eval a X.env)]:=by rfl):QI X tg (.Call (.Name "range" p) [a] [] pos) (DE ta):=⟨wj hg hm ha.p hs⟩
theorem iG{a b:N9}{ta:TA}{p pos:Q4}(hg:Gl X "range")(hm:X.mg "range"=none)(ha:QA X [a,b] ta)(hs:Nw [a,b] X.env=[(false,eval a X.env),(false,eval b X.env)]:=by rfl)(hs2:Nw [b] X.env=[(false,eval b X.env)]:=by rfl):QI X tg (.Call (.Name "range" p) [a,b] [] pos) (DD ta):=⟨wg hg hm ha.p hs hs2⟩
theorem cX(hl:QE X l tl):QI X tg l (AN X.K tl):=⟨Ch hl.p⟩
theorem dg(hl:QE X l tl):QI X tg l (CO X.K tl):=⟨z8 hl.p⟩
theorem ao{i:Nat}{x:NV}(hN:X.N.Nodup)(hi:X.N[i]?=some x)(hx:xh X.env.scope x)(hf:X.fn x=true∨X.env.scope.names.lookup x=some .local:=by first|exact .inl Z|exact .inr Z|assumption):QG X (.Name x pos) (jx i):=⟨Cl hN hi hx hf⟩
theorem ik{es:List N9}{k:Nat}{t:xc}{n:Nat}(hc:X.calm=true)(h:IP X es t)(hn:(Pw es X.env).length=n:=by rfl)(hst:(Pw es X.env).findIdx? (·.1)=none:=by rfl):QG X (.Tuple es k pos) (CQ X.K n t):=⟨Ac hc h.p hn hst⟩
theorem jV{o i:N9}{to ti:TE}{t:Bf}(ho:QE X o to)(hi:QE X i ti)(hs:GD X t) (ha:∀v,R6 (.Subscript o i pos) X.env v=(do
   let ov ←holding [v] (eval o X.env);let iv ←holding [v,ov] (eval i X.env)
   Xk pos
   holding [v,ov,iv] (Xl ov iv v)
   release [v,ov,iv] []):=by intro _;rfl):QG X (.Subscript o i pos) (IC to ti t):=⟨Fa ho.p hi.p hs ha⟩
theorem dE   : IP X [] ID:=⟨Cj ⟩
theorem bi{e:N9}{es:List N9}{t:TG}{u:xc}(h1:QG X e t)(h2:IP X es u)(hs:(Pw (e::es) X.env).map (·.2)=R6 e X.env::(Pw es X.env).map (·.2):=by rfl):IP X (e::es) (DG t u):=⟨Ab h1.p h2.p hs⟩
end
structure GW(X:Cx)(ifs:List N9)(t:TT):Prop where
 p:DO X ifs t
section
set_option autoImplicit true
set_option relaxedAutoImplicit true
theorem bQ:GW X [] Hd:=⟨B5 ⟩
theorem dC(h:QT X c t):GW X [c] t:=⟨B4 h.p⟩
theorem bD(hc:X.calm=true)(hi:QI X tg iter wi)(hg:∀C fp pins s H,QG (j6 X N' scope cl C fp pins s H) tg g)(ht:∀C fp pins s H,GW (j6 X N' scope cl C fp pins s H) ifs tt)(he:∀C fp pins s H,QE (j6 X N' scope cl C fp pins s H) elt te)(hfree:cS X scope cl N' src)(hclos:R8 scope X.env=Pq cl)(hcell:∀x∈scope.names,x.2≠.cell)(hkind:scope.kind=.function)(hnames:∀x∈scope.names,x.2=.local->scope.names.lookup x.1=some .local)(hcl:fG X scope cl)(hs:∀x,Ph iter X.env x=Pq x:=by intro _;rfl):QE X (.ListComp elt [⟨tg,iter,ifs,0⟩] scope pos) (jg wi src g tt te):=⟨Af hc hi.p (λz0 z1 z2 z3 z4=>(hg z0 z1 z2 z3 z4).p) (λz0 z1 z2 z3 z4=>(ht z0 z1 z2 z3 z4).p) (λz0 z1 z2 z3 z4=>(he z0 z1 z2 z3 z4).p) hfree hclos hcell hkind hnames hcl hs⟩
theorem dM{i:Nat}{x:NV}{pos' pos2:Q4}(hN:X.N.Nodup)(hi':X.N[i]?=some x)(hx:xh X.env.scope x)(hc:X.calm=true)(hi:QI X tg iter wi)(hg:∀C fp pins s H,QG (j6 X N' scope cl C fp pins s H) tg g)(ht:∀C fp pins s H,GW (j6 X N' scope cl C fp pins s H) ifs tt)(he:∀C fp pins s H,QE (j6 X N' scope cl C fp pins s H) elt te)(hfree:cS X scope cl N' src)(hclos:R8 scope X.env=Pq cl)(hcell:∀x∈scope.names,x.2≠.cell)(hkind:scope.kind=.function)(hnames:∀x∈scope.names,x.2=.local->scope.names.lookup x.1=some .local)(hcl:fG X scope cl)(hs:∀x,Ph iter X.env x=Pq x:=by intro _;rfl)(hsw:Q3 (.ListComp elt [⟨tg,iter,ifs,0⟩] scope pos) (some (.Name x pos')) pos2.line X.env=Pq true:=by rfl)(hf:X.fn x=true∨X.env.scope.names.lookup x=some .local:=by first|exact .inl Z|exact .inr Z|assumption):QS X (.Assign [.Name x pos'] (.ListComp elt [⟨tg,iter,ifs,0⟩] scope pos) pos2) (oC (jg wi src g tt te) (jx i)):=⟨B9 hN hi' hx hc hi.p (λz0 z1 z2 z3 z4=>(hg z0 z1 z2 z3 z4).p) (λz0 z1 z2 z3 z4=>(ht z0 z1 z2 z3 z4).p) (λz0 z1 z2 z3 z4=>(he z0 z1 z2 z3 z4).p) hfree hclos hcell hkind hnames hcl hs hsw hf⟩
end
section
variable {X:Cx}{K:M6}
theorem Ck{es:List N9}{k:Nat}{t:xc}{n:Nat}{pos:Q4}(hK:X.K=K)(hc:X.calm=true)(h:GX X es t)
  (hn:(Pw es X.env).length=n:=by rfl) (hst:(Pw es X.env).findIdx? (·.1)=none:=by rfl):PG X (.Tuple es k pos) (CQ K n t):=hK▸Ac hc h hn hst
theorem Cg(hK:X.K=K)(hl:PE X l tl):PI X tg l (CO K tl):=hK▸z8 hl
theorem bj(hK:X.K=K):GG X (ER K):=hK▸au
theorem cR(hK:X.K=K):GG X (ES K):=hK▸bI
def LX(K:M6):List V->Hp->VK->Prop:=λxs H Q=>∃p ys,xs=[.ref p]/\(aV K H p ys∨bC K H p ys)/\Q (.int ys.length) H
end
theorem bu:Nw (.BinOp a op b pos:: es) env=(false,eval (.BinOp a op b pos) env):: Nw es env:=Z
end B
namespace B
open PySem
section
variable {es:List N9}{env:W6}
theorem bO{a b c}:Nw (.Tuple a b c::es) env=(false,eval (.Tuple a b c) env)::Nw es env:=Z
theorem ya{a b}:Nw (.List a b::es) env=(false,eval (.List a b) env)::Nw es env:=Z
theorem aI{a b c}:Nw (.Subscript a b c::es) env=(false,eval (.Subscript a b c) env)::Nw es env:=Z
theorem aF{a b c d}:Nw (.Call a b c d::es) env=(false,eval (.Call a b c d) env)::Nw es env:=Z
theorem ad{a b}:Nw (.Name a b::es) env=(false,eval (.Name a b) env)::Nw es env:=Z
theorem aB{a b c}:Nw (.Constant a b c::es) env=(false,eval (.Constant a b c) env)::Nw es env:=Z
theorem oE{a b c}:Nw (.UnaryOp a b c::es) env=(false,eval (.UnaryOp a b c) env)::Nw es env:=Z
theorem yb{a b c d}:Nw (.Compare a b c d::es) env=(false,eval (.Compare a b c d) env)::Nw es env:=Z
theorem cW{a b c d}:Nw (.ListComp a b c d::es) env=(false,eval (.ListComp a b c d) env)::Nw es env:=Z
theorem BB{a b c d}:Nw (.IfExp a b c d::es) env=(false,eval (.IfExp a b c d) env)::Nw es env:=Z
end
end B
namespace B
open PySem L2 PyProof.Rows
inductive cV{α:Type}(P:V->α->Prop):List V->List α->Prop where
 |nil:cV P [] []
 |cons {x:V} {d:α} {xs:List V} {ds:List α} (h:P x d) (t:cV P xs ds):cV P (x::xs) (d::ds)
theorem cV.len{α:Type}{P:V->α->Prop}:∀{xs:List V} {ds:List α},cV P xs ds->xs.length=ds.length
 |_,_,.nil=>rfl
 |_,_,.cons _ t=>congrArg (·+1) t.len
theorem cV.mono{α:Type}{P P':V->α->Prop}(m:∀v d,P v d->P' v d):∀{xs:List V} {ds:List α},cV P xs ds->cV P' xs ds
 |_,_,.nil=>.nil
 |_,_,.cons h t=>.cons (m _ _ h) (t.mono m)
theorem cV.snoc{α:Type}{P:V->α->Prop}{x:V}{d:α}(k:P x d):∀{xs:List V} {ds:List α},cV P xs ds->cV P (xs++[x]) (ds++[d])
 |_,_,.nil=>.cons k .nil
 |_,_,.cons h t=>.cons h (t.snoc k)
theorem cV.at{α:Type}{P:V->α->Prop}:∀{xs:List V} {ds:List α},cV P xs ds->∀{i:Nat} {x:V},xs[i]?=some x->∃d,ds[i]?=some d/\P x d
 |_,_,.cons h _,0,x,e=>by
  rw[QF] at e
  cases e
  exact⟨_,Z,h⟩
 |_,_,.cons _ t,i+1,x,e=>t.at (i:=i) (by rw[QH] at e;exact e)
 |_,_,.nil,_,_,e=>by cases e
theorem cV.deep{α:Type}{K:M6}{H:Hp}{P:V->α->Prop}{f:α->PyData}(m:∀v d,P v d->bH K H v (f d)):∀{xs:List V} {ds:List α},cV P xs ds->aZ K H xs (ds.map f)
 |_,_,.nil=>.nil
 |_,_,.cons h t=>.cons (m _ _ h) (t.deep m)
end B
namespace B
open PySem PySem.Spec L2 PyProof.Rows
theorem cV.last{ds:List α}(h:cV P xs ds)(hn:ds.length=n+1):∃x d,mN xs (-1)=some x/\ds[n]?=some d/\P x d/\xs[n]?=some x:=by
 have hl:=h.len;have hx:xs[n]?=some (xs[n]'(by omega)):=M8 _;obtain⟨d,hd,p⟩:=h.at hx;refine⟨_,d,?_,hd,p,hx⟩;have e:xs=xs.take n++[xs[n]'(by omega)]:=by
  have:=Ux n xs;rw[S1 (by omega)] at this;rw[List.drop_eq_nil_of_le (by omega)] at this;exact this.symm
 have:=mM (xs.take n) (xs[n]'(by omega));rw[←e] at this;exact this
section
set_option autoImplicit true
set_option relaxedAutoImplicit true
theorem EV(hl:QE X l tl):QI X tg l (Iy X.K tl):=⟨E9 hl.p⟩
theorem jq{K:M6}{es:List N9}{k:Nat}{t:xc}{n:Nat}{pos:Q4}(hK:X.K=K)(hc:X.calm=true)(h:IP X es t)(hn:(Pw es X.env).length=n:=by rfl)(hst:(Pw es X.env).findIdx? (·.1)=none:=by rfl):QG X (.Tuple es k pos) (CQ K n t):=⟨Ck hK hc h.p hn hst⟩
theorem B2{K:M6}{l tg:N9}{tl:TE}(hK:X.K=K)(hl:QE X l tl):QI X tg l (CO K tl):=⟨Cg hK hl.p⟩
end
def L3(K:M6):R2:=λx y H Q=>∃d d',bH K H x d/\bH K H y d'/\d.canLay0=true/\d'.canLay0=true/\d.depth≤32/\Q (.bl (OW d d')) H
theorem vi:OW (dR r) (dR q)=decide (r=q):=by
 by_cases h:r=q
 ·rw[decide_eq_true h,h];exact rO q
 ·rw[decide_eq_false h]
  cases c:OW (dR r) (dR q) with
  |false=>rfl
  |true=>exact absurd (Gg c) h
def HL(K:M6):List V->Hp->VK->Prop:=λxs H Q=>∃a ys n b,xs=[.ref a,.ty n]/\bC K H a ys/\kq "tuple" n=some b/\Q (.bl b) H
theorem wW:c6 X (.builtin "isinstance") (HL X.K):=by
 intro pins s σ H xs us Q I r h;obtain⟨a,ys,n,b,rfl,hS,e,q⟩:=h;obtain⟨u,u2,rfl,rx,ry⟩:=ux r;obtain rfl:u2=Pt n:=ry
 cases(show u=Oy a from rx)
 obtain⟨its,_,⟨o,h1,h2,_⟩,_⟩:=I.tuple hS;exact OU Vh I.kIn ⟨o,h1,h2⟩ (tR e) (λz=>nomatch z) λtk=>⟨.bl b,H,I.tok tk,Z,q⟩
section
set_option autoImplicit true
set_option relaxedAutoImplicit true
end
end B
namespace L2
open PySem PySem.Spec PyProof.Rows
section
variable {κ:Type} [DecidableEq κ]
def jL(kvs:List (κ×V))(k:κ):Option V:=(kvs.find? λkv=>decide (kv.1=k)).map (·.2)
def gR(kvs:List (κ×V))(k:κ)(v:V):List (κ×V):=
 if(kvs.any λkv=>decide (kv.1=k))=true then kvs.map (λkv=>if kv.1=k then(kv.1,v) else kv) else kvs++[(k,v)]
def Lc(kvs:List (κ×V))(k:κ):List (κ×V):=kvs.filter λkv=>decide (kv.1≠k)
theorem je{p:κ×V}{r:List (κ×V)}{k:κ}(e:p.1=k):jL (p::r) k=some p.2:=by simp[jL,QZ,e]
theorem jf{p:κ×V}{r:List (κ×V)}{k:κ}(e:¬p.1=k):jL (p::r) k=jL r k:=by simp[jL,QZ,e]
theorem qk(k:κ):∀kvs:List (κ×V),(kvs.any λkv=>decide (kv.1=k))=(jL kvs k).isSome
 | []=>rfl
 |p::r=>by
  rw[Pr];by_cases e:p.1=k
  ·simp only[je e,decide_eq_true e,Bool.true_or,RH]
  ·rw[jf e,decide_eq_false e,Tu];exact qk k r
theorem ko(kvs:List (κ×V))(k:κ)(v:V):(gR kvs k v).length≤kvs.length+1:=by
 unfold gR
 split
 ·rw[Na];omega
 ·rw[NL,NU,PD];omega
theorem ng.isSome_eq(r:ng o u):o.isSome=u.isSome:=by
 cases o with
 |none=>cases u with
  |none=>rfl
  |some _=>exact(show False from r).elim
 |some _=>cases u with
  |none=>exact(show False from r).elim
  |some _=>rfl
theorem ng.getD(r:ng o u)(rd:bv d d'):bv (o.getD d) (u.getD d'):=by
 cases o with
 |none=>cases u with
  |none=>exact rd
  |some _=>exact(show False from r).elim
 |some _=>cases u with
  |none=>exact(show False from r).elim
  |some _=>exact r
theorem KV.val{kvs:List (κ×V)}{vs:List (κ×Value)}(r:KV kvs vs)(k:κ):ng (jL kvs k) (VM vs k):=by
 unfold KV at r
 induction r with
 |nil=>exact QQ
 | @cons p q ps qs h t ih=>
  obtain⟨h1,h2⟩:=h;by_cases e:p.1=k
  ·have e':q.1=k:=h1.symm.trans e;have b:VM (q::qs) k=some q.2:=by simp[VM,QZ,e']
   rw[je e,b];exact h2
  ·have e':¬q.1=k:=λz=>e (h1.trans z)
   have b:VM (q::qs) k=VM qs k:=by simp[VM,QZ,e']
   rw[jf e,b];exact ih
theorem KV.any{kvs:List (κ×V)}{vs:List (κ×Value)}(r:KV kvs vs)(k:κ):(kvs.any λkv=>decide (kv.1=k))=vs.any λkv=>decide (kv.1=k):=by
 unfold KV at r
 induction r with
 |nil=>rfl
 |cons h t ih=>rw[Pr,Pr,ih,h.1]
theorem KV.repl{kvs:List (κ×V)}{vs:List (κ×Value)}(r:KV kvs vs)(k:κ){y:V}{u:Value}(ry:bv y u) :
  KV (kvs.map λkv=>if kv.1=k then(kv.1,y) else kv) (vs.map λkv=>if kv.1=k then(kv.1,u) else kv):=by
 unfold KV at r ⊢
 induction r with
 |nil=>exact .nil
 | @cons p q ps qs h t ih=>
  rw[Ob,Ob];refine .cons ?_ ih;obtain⟨h1,h2⟩:=h;by_cases e:p.1=k
  ·rw[if_pos e,if_pos (h1.symm.trans e)];exact⟨h1,ry⟩
  ·rw[if_neg e,if_neg (λz=>e (h1.trans z))];exact⟨h1,h2⟩
theorem KV.put{kvs:List (κ×V)}{vs:List (κ×Value)}(r:KV kvs vs)(k:κ){y:V}{u:Value}(ry:bv y u):KV (gR kvs k y) (stored vs k u):=by
 unfold gR stored;rw[r.any k];by_cases e:(vs.any λkv=>decide (kv.1=k))=true
 ·rw[if_pos e,if_pos e];exact r.repl k ry
 ·rw[if_neg e,if_neg e];exact Paired.snoc r ⟨Z,ry⟩
theorem KV.length{kvs:List (κ×V)}{vs:List (κ×Value)}(r:KV kvs vs):kvs.length=vs.length:=Paired.length r
end
theorem AG(r:bv (kV k) u):(cA P w).is k u=true:=by
 cases k with
 |inl i=>obtain⟨t,e⟩:=(show ∃t,u=PY i t from r);subst e;exact rj P w i t
 |inr x=>obtain⟨t,e⟩:=(show ∃t,u=TF x t from r);subst e;exact rh P w x t
theorem nL{P:NW}{w:Ol}:∀{ks:List dz} {us:List Value},bE (ks.map kV) us->ItemsAre (cA P w) ks us
 | [],_,r=>by rw[VC] at r;cases r;exact .nil
 |k::ks,_,r=>by
  rw[Ob] at r
  cases r with
  |cons h t=>exact .cons (AG h) (nL t)
abbrev KT(H:Hp):List (List dz×V)->List (List dz×Addr×Value)->Prop:=Paired λp q=>p.1=q.1/\H q.2.1=some (.tup (p.1.map kV))/\bv p.2 q.2.2
theorem KT.val(r:KT H kvs xs)(k:List dz):ng (jL kvs k) ((WT xs k).map (·.2)):=by
 induction r with
 |nil=>exact QQ
 | @cons p q ps qs h t ih=>
  obtain⟨h1,_,h2⟩:=h;by_cases e:p.1=k
  ·have e':q.1=k:=h1.symm.trans e;have b:WT (q::qs) k=some q.2:=by simp[WT,QZ,e']
   rw[je e,b];exact h2
  ·have e':¬q.1=k:=λz=>e (h1.trans z)
   have b:WT (q::qs) k=WT qs k:=by simp[WT,QZ,e']
   rw[jf e,b];exact ih
theorem KT.repl(r:KT H kvs xs)(k:List dz)(ry:bv y u):
  KT H (kvs.map λkv=>if kv.1=k then(kv.1,y) else kv) (xs.map (putAt k u)):=by
 induction r with
 |nil=>exact .nil
 | @cons p q ps qs h t ih=>
  rw[Ob,Ob];refine .cons ?_ ih;obtain⟨h1,h2,h3⟩:=h;unfold putAt;by_cases e:p.1=k
  ·rw[if_pos e,if_pos (h1.symm.trans e)];exact⟨h1,h2,ry⟩
  ·rw[if_neg e,if_neg (λz=>e (h1.trans z))];exact⟨h1,h2,h3⟩
theorem KT.put(r:KT H kvs xs)(k:List dz)(hb:H b=some (.tup (k.map kV)))(ry:bv y u):
  KT H (gR kvs k y) (storedH xs k b u):=by
 have e:(kvs.any λkv=>decide (kv.1=k))=(WT xs k).isSome:=by
  rw[qk,(r.val k).isSome_eq,Option.isSome_map]
 unfold gR storedH;rw[e];by_cases q:(WT xs k).isSome=true
 ·rw[if_pos q,if_pos q];exact r.repl k ry
 ·rw[if_neg q,if_neg q];exact Paired.snoc r ⟨Z,hb,ry⟩
theorem KT.keeps(r:KT H kvs xs)(ht:∀b ys,H b=some (.tup ys)->H' b=some (.tup ys)):KT H' kvs xs:=
 Paired.mapP r λ_ _ z=>⟨z.1,ht _ _ z.2.1,z.2.2⟩
section
variable {P:NW}{w:Ol}{H:Hp}{h:Np}{a:Addr}
theorem Dt(ok:iR P w H h)(e:Rd H a u):bW P w H h a u:=e.ok ok
theorem A0(ok:iR P w H h)(e:Rd H a (.dK kvs)):kvs.length≤sizeLine/\(a==QN)=false/\∃vs,KV kvs vs/\h.DictOf (cA P w) a vs:=
 show bW P w H h a (.dK kvs) from Dt ok e
theorem DK(ok:iR P w H h)(e:H a=some (.dK kvs)):kvs.length≤sizeLine/\(a==QN)=false/\∃vs,KV kvs vs/\h.DictOf (cA P w) a vs:=A0 ok (.inl e)
theorem tS(ok:iR P w H h)(e:H a=some (.tup (ks.map kV))):(TH (cA P w)).is h ks a:=by
 obtain⟨_,its,r,o,h1,h2,n,h3⟩:=(show bW P w H h a (.tup (ks.map kV)) from ok a _ e);exact⟨o,its.toArray,n,h1,h2,h3,by simpa using nL r⟩
theorem AZ(ok:iR P w H h)(e:Rd H a (.dT kvs)):kvs.length≤sizeLine/\(a==QN)=false∧
  ∃xs,KT H kvs xs/\h.DictOfH (TH (cA P w)) a xs:=by
 obtain⟨z,y,xs,r,o,es,ep,h1,h2,h3,h4,h5⟩:=(show bW P w H h a (.dT kvs) from Dt ok e);refine⟨z,y,xs,r,o,es,ep,h1,h2,h3,h4,λx hx=>?_,h5⟩;have all:∀{l:List (List dz×V)} {m:List (List dz×Addr×Value)},KT H l m->∀x∈m,(TH (cA P w)).is h x.1 x.2.1:=by
  intro l m q
  induction q with
  |nil=>intro x hx;exact nomatch hx
  | @cons p q ps qs hq t ih=>
   intro x hx;rcases Nq.mp hx with e|hx
   ·subst e;exact tS ok (by rw[←hq.1];exact hq.2.1)
   ·exact ih x hx
 exact all r x hx
theorem IH(ok:iR P w H h)(e:H a=some (.dT kvs)):kvs.length≤sizeLine/\(a==QN)=false∧
  ∃xs,KT H kvs xs/\h.DictOfH (TH (cA P w)) a xs:=AZ ok (.inl e)
end
def mQ(H:Hp)(a:Addr)(y:V)(r:Option V):Prop:=
 (∃kvs k,Rd H a (.dK kvs)/\y=kV k/\r=jL kvs k)∨∃kvs k b,Rd H a (.dT kvs)/\y=.ref b/\H b=some (.tup (k.map kV))/\r=jL kvs k
def ut(H:Hp)(a:Addr)(y v:V)(H':Hp):Prop:=
 (∃kvs k,H a=some (.dK kvs)/\y=kV k/\kvs.length<sizeLine/\H'=aE H a (.dK (gR kvs k v)))∨
 ∃kvs k b,H a=some (.dT kvs)/\y=.ref b/\H b=some (.tup (k.map kV))/\kvs.length<sizeLine/\H'=aE H a (.dT (gR kvs k v))
theorem mQ.k{H:Hp}{a:Addr}{kvs:List (dz×V)}{k:dz}(e:H a=some (.dK kvs)):mQ H a (kV k) (jL kvs k):=.inl ⟨kvs,k,.inl e,Z,Z⟩
theorem ut.k{H:Hp}{a:Addr}{kvs:List (dz×V)}{k:dz}{v:V}(e:H a=some (.dK kvs))(hl:kvs.length<sizeLine):ut H a (kV k) v (aE H a (.dK (gR kvs k v))):=.inl ⟨kvs,k,e,Z,hl,Z⟩
section
variable {X:Cx}{pins:List (Addr×O8)}{σ:St}{H:Hp}{s:Nf}{a:Addr}{y v:V}{u r:Value}{o:Option V}{A:N8}{E:Value->Nf->Prop}
theorem Inv.big(I:Inv X pins σ H s):QN<s.heap.objs.size:=by
 have h:NS<s.heap.objs.size:=(I.mod.glob.keeps I.bk).lt;exact Rm (by decide) h
theorem pN(I:Inv X pins σ H s)(mu:IR (H a))(hs:Ow a s.heap h')(he:∃q,h'.get? a=some q)(new:bW X.prog X.w (aE H a ob) h' a ob):
  Inv X pins σ (aE H a ob) { s with heap:=h',toks:=t'}:=
 I.write (x:=a) (e:=a) mu (.inl Z) (λb q hb z=>(hs.2 b hb).trans z) he new
theorem Gj(z:kvs.length≤sizeLine)(hd:(a==QN)=false)(rel:KV kvs vs)(dd:h'.DictOf (cA P w) a vs):
  bW P w H' h' a (.dK kvs):=⟨z,hd,vs,rel,dd⟩
theorem wO(hu:A.units+1<cLine)(I:Inv X pins σ H s)(g:ut H a y v H')(ry:bv y u)(rv:bv v r)(h:∀s',Inv X pins σ H' s'->Q () s'):
  Nv (NJ X.prog X.w) A (Xl (.ref a) u r) Q E s:=by
 rcases g with⟨kvs,k,e,ey,l,eH⟩ | ⟨kvs,k,b,e,ey,eb,l,eH⟩
 ·subst ey eH;obtain⟨z,hd,vs,rel,dd⟩:=DK I.hok e;have hz:vs.length≤sizeLine:=by rw[←rel.length];exact z
  have hl:(gR kvs k v).length≤sizeLine:=by have:=ko kvs k v;omega
  refine wpAny_setItem_pairs (hsz:=hz) (AG ry) dd λh' dd' hs=>h _ ?_
  have he:∃q,h'.get? a=some q:=let ⟨q,_,_,hq,_⟩:=dd';⟨q,hq⟩;exact pN I (by rw[e];exact QQ) hs he (Gj hl hd (rel.put k rv) dd')
 ·subst ey eH
  cases(show u=Oy b from ry)
  obtain⟨z,hd,xs,rel,dd⟩:=IH I.hok e;have hz:xs.length≤sizeLine:=by rw[←Paired.length rel];exact z
  have hl:(gR kvs k v).length≤sizeLine:=by have:=ko kvs k v;omega
  refine wpAny_setItem_heap (hsz:=hz) (Vo hu) (tS I.hok eb) dd λh' dd' hs=>h _ ?_
  obtain⟨q,es,ep,hq,h2,h3,h4,_,h5⟩:=dd';refine pN I (by rw[e];exact QQ) hs ⟨q,hq⟩ ⟨hl,hd,_,(rel.put k eb rv).keeps λc ys ec=>?_,q,es,ep,hq,h2,h3,h4,h5⟩;rw[aJ (Is ec e (λz=>nomatch z))];exact ec
end
section
variable {X:Cx}{pins:List (Addr×O8)}{σ:St}{H:Hp}{s:Nf}{a:Addr}{kvs:List (dz×V)}{k:dz}{u:Value}{A:N8}{E:Value->Nf->Prop}
end
def Mr(i:N9):Prop:=∀ov iv,UG i false ov iv=Xm [ov,iv] (Ss ov iv)
def KL(td ty:TE):TE:=λσ H Q=>td σ H λx H1=>ty σ H1 λy H2=>∃a v,x=.ref a/\mQ H2 a y (some v)/\Q v H2
def LM(ty td:TE):TE:=λσ H Q=>ty σ H λy H1=>td σ H1 λx H2=>∃a o,x=.ref a/\mQ H2 a y o/\Q (.bl o.isSome) H2
def Jb(ty td:TE):TE:=λσ H Q=>ty σ H λy H1=>td σ H1 λx H2=>∃a o,x=.ref a/\mQ H2 a y o/\Q (.bl (!o.isSome)) H2
def Ds(td ty tv:TE):TS:=λD σ H=>tv σ H λv H1=>td σ H1 λx H2=>ty σ H2 λy H3=>∃a H4,x=.ref a/\ut H3 a y v H4/\D.nx σ H4
def KS(td ty tv:TE)(rd:V->V->Hp->VK->Prop):TS:=λD σ H=>td σ H λx H1=>ty σ H1 λy H2=>∃a v,x=.ref a/\mQ H2 a y (some v)∧
 tv σ H2 λy2 H3=>rd v y2 H3 λz H4=>∃H5,ut H4 a y z H5/\D.nx σ H5
section
variable {X:Cx}{o i e value:N9}{pos pos' tpos:Q4}{td ty tv:TE}
theorem Cb(hu:X.A.units+1<cLine)(ho:PE X o td)(hi:PE X i ty)(hv:PE X value tv)(hs:Q3 value (some (.Subscript o i pos')) pos.line X.env=Pq false) :
  PS X (.Assign [.Subscript o i pos'] value pos) (Ds td ty tv):=by
 intro pins s σ H D I h;refine wpAny_Assign_Subscript (cF (hv pins s σ H _ I h) λr s1 ⟨v,H1,I1,rv,q1⟩=>cF (ho pins s1 σ H1 _ I1 q1) λu s2 ⟨x,H2,I2,rx,q2⟩=>cF (hi pins s2 σ H2 _ I2 q2) λiv s3 ⟨y,H3,I3,ry,a,H4,ex,g,q3⟩=>?_) hs;subst ex;obtain rfl:u=Oy a:=rx;exact wO hu I3 g ry rv λs4 I4=>⟨σ,H4,I4,q3⟩
end
theorem A1(h:Np)(hb:QN<h.objs.size):bW P w H (h.push { cls:=.type "dict",data:=.dict #[]}) h.objs.size (.dK []):=
 ⟨NB _,beq_eq_false_iff_ne.mpr (Qs (NT hb)),[],.nil,Np.DictOf.new h⟩
def xR:TE:=λ_ H Q=>∀p,H p=none->Q (.ref p) (aE H p (.dK []))
section
variable {X:Cx}{pos:Q4}
theorem Ah:PE X (.Dict [] [] pos) xR:=λpins s σ H Q I h=>
 wpAny_Dict_empty ⟨.ref s.heap.objs.size,_,I.laid (a:=s.heap.objs.size) (o:=.dK []) (t':=s.toks) (λ_ _ q=>Nc _ q) (Nb _) (A1 s.heap I.big),Z,h _ (I.hok.fresh (Nb _))⟩
end
def sy:List (TE×TE)->St->Hp->(List (V×V)->Hp->Prop)->Prop
 | [],_,H,Q=>Q [] H
 | (tk,tv)::r,σ,H,Q=>tk σ H λx H1=>tv σ H1 λy H2=>sy r σ H2 λps H3=>Q ((x,y)::ps) H3
abbrev VV:List (V×V)->List (Value×Value)->Prop:=Paired λp q=>bv p.1 q.1/\bv p.2 q.2
def M0(X:Cx)(pos:Q4)(keys:List (Option N9))(values:List N9)(trs:List (TE×TE)):Prop:=
 ∀(pins:List (Addr×O8)) (s:Nf) (σ:St) (H:Hp) (Q:List (V×V)->Hp->Prop),Inv X pins σ H s->sy trs σ H Q→
  Nv (NJ X.prog X.w) X.A (evalPairs (pairTrees keys values X.env pos)) (λvs s'=>∃ps H',Inv X pins σ H' s'/\VV ps vs/\Q ps H') X.xe s
def FZ(kvs more:List (dz×V)):List (dz×V):=more.foldl (λacc kv=>gR acc kv.1 kv.2) kvs
def KK(trs:List (TE×TE)):TE:=λσ H Q=>∀p,H p=none->sy trs σ (aE H p (.dK [])) λps H2=>H2 p=some (.dK [])/\∃kvs:List (dz×V),ps=kvs.map (λkv=>(kV kv.1,kv.2))/\kvs.length≤15/\Q (.ref p) (aE H2 p (.dK (FZ [] kvs)))
structure M1(X:Cx)(o:N9)(m:NV)(apos:Q4)(e:N9)(cpos:Q4):Prop where
 base:RB o m X.env (eval o X.env)=eval o X.env
 few:((Rc cpos (Nw [e] X.env)).all (λx=>!x.1)&&(VA cpos (Tk [] X.env)).all (λx=>x.1.isSome)
 &&decide (([e]:List N9).length+([]:List Sv).length+(if([]:List Sv).isEmpty then 0 else 1)<30))=true
 line:(apos.endLine==cpos.line)=true
 trees:Rc cpos (Nw [e] X.env)=[(false,eval e X.env)]
structure M2(X:Cx)(o:N9)(m:NV)(apos:Q4)(e f:N9)(cpos:Q4):Prop where
 base:RB o m X.env (eval o X.env)=eval o X.env
 few:((Rc cpos (Nw [e,f] X.env)).all (λx=>!x.1)&&(VA cpos (Tk [] X.env)).all (λx=>x.1.isSome)
 &&decide (([e,f]:List N9).length+([]:List Sv).length+(if([]:List Sv).isEmpty then 0 else 1)<30))=true
 line:(apos.endLine==cpos.line)=true
 trees:Rc cpos (Nw [e,f] X.env)=[(false,eval e X.env),(false,eval f X.env)]
def Kq(H:Hp)(a:Addr):Prop:=(∃kvs,Rd H a (.dK kvs))∨∃kvs,Rd H a (.dT kvs)
theorem AM{X:Cx}{pins:List (Addr×O8)}{σ:St}{H:Hp}{s:Nf}{a:Addr}(I:Inv X pins σ H s)(d:Kq H a) :
  s.TypeIs (.ref a) "dict"/\(∀b,Oy a=.ref b->∃ob,s.heap.get? b=some ob/\ob.dict=none)/\(a==QN)=false:=by
 rcases d with⟨kvs,e⟩ | ⟨kvs,e⟩
 ·obtain⟨_,hd,vs,_,dd⟩:=A0 I.hok e;refine⟨dd.typeIs,λb q=>?_,hd⟩
  cases q
  obtain⟨ob,_,_,h1,h2,_⟩:=dd;exact⟨ob,h1,h2.2.1⟩
 ·obtain⟨_,hd,xs,_,dd⟩:=AZ I.hok e;refine⟨dd.typeIs,λb q=>?_,hd⟩
  cases q
  obtain⟨ob,_,_,h1,h2,_⟩:=dd;exact⟨ob,h1,h2.2.1⟩
section
variable {X:Cx}{pins:List (Addr×O8)}{σ:St}{H:Hp}{s:Nf}{a:Addr}{y d:V}{u r:Value}{o:Option V}{A:N8}{E:Value->Nf->Prop}
theorem Gm(hu:A.units+1<cLine)(I:Inv X pins σ H s)(g:mQ H a y o)(ry:bv y u)(rd:bv d r)(h:∀w' s',Inv X pins σ H s'->bv (o.getD d) w'->Q w' s'):
  Nv (NJ X.prog X.w) A (call (.builtin "dict.get") [.ref a,u,r]) Q E s:=by
 rcases g with⟨kvs,k,e,ey,l⟩ | ⟨kvs,k,b,e,ey,eb,l⟩
 ·subst ey;obtain⟨z,hd,vs,rel,dd⟩:=A0 I.hok e;refine call_meetsIn R5 dd.typeIs Ul (TM _ _ _) (meets_dict_get_default (cA X.prog X.w) a (AG ry) hd r) ⟨_,dd.mapOf,h _ _ (I.tok _) ?_⟩;rw[l];exact(rel.val k).getD rd
 ·subst ey
  cases(show u=Oy b from ry)
  obtain⟨z,hd,xs,rel,dd⟩:=AZ I.hok e;refine call_meetsIn R5 dd.typeIs Ul (TM _ _ _) (meetsH_dict_get_default (TH (cA X.prog X.w)) a b hd r) ⟨Vo hu,k,xs,tS I.hok eb,dd,h _ _ (I.tok _) ?_⟩;rw[l];exact(rel.val k).getD rd
end
def JI(td ty:TE):TE:=λσ H Q=>td σ H λx H1=>∃a,x=.ref a/\Kq H1 a/\ty σ H1 λy H2=>∃o,mQ H2 a y o/\Q (o.getD .non) H2
def xS(td ty tx:TE):TE:=λσ H Q=>td σ H λx H1=>∃a,x=.ref a/\Kq H1 a/\ty σ H1 λy H2=>tx σ H2 λz H3=>∃o,mQ H3 a y o/\Q (o.getD z) H3
section
variable {X:Cx}{o e f:N9}{apos cpos:Q4}{td ty tx:TE}
theorem Ai(hu:X.A.units+1<cLine)(ho:PE X o td)(he:PE X e ty)(hf:PE X f tx)(m:M2 X o "get" apos e f cpos):PE X (.Call (.Attribute o "get" apos) [e,f] [] cpos) (xS td ty tx):=by
 intro pins s σ H Q I h;refine VN m.base m.few m.line TN R5 PySem.F.type_dict_get (cF (ho pins s σ H _ I h) λu s1 ⟨x,H1,I1,rx,a,ex,d,q1⟩=>?_);subst ex;obtain rfl:u=Oy a:=rx;obtain⟨t1,t2,_⟩:=AM I1 d;refine⟨t1,t2,?_⟩;rw[m.trees];refine Calls.callWith_builtin Z (Calls.evalArgs_plain (Calls.spliced_cons (cF (he pins s1 σ H1 _ I1 q1) λiv s2 ⟨y,H2,I2,ry,q2⟩=>
  Calls.spliced_cons (cF (hf pins s2 σ H2 _ I2 q2) λfv s3 ⟨z,H3,I3,rz,ov,g,q3⟩=>Calls.spliced_nil ?_))))
 exact Gm hu I3 g ry rz λw' s4 I4 rw'=>⟨_,H3,I4,rw',q3⟩
end
end L2
namespace B
open PySem PySem.Spec L2 PyProof.Rows
theorem dX{α β:Type}{K:M6}{H:Hp}{D a:Addr}{xs:List V}{ds:List α}{P:Hp->V->β->Prop}{f:α->β}{src:List (Option Nat)}{σ:L2.St}{g:TG}{tt:TT}{te:TE}{Q:Hp->Prop}
  (mono:∀H H' v d,aK K H H'->P H v d->P H' v d) (hD:H D=none) (hS:bC K H a xs) (hl:xs.length=ds.length) (hn:ds.length≤1000)
  (turn:∀(i:Nat) (x:V) (d:α) (H':Hp),xs[i]?=some x->ds[i]?=some d->aD H H'->∀(R:VK) (E:Hp->Prop),(∀v H'',aD H' H''->P H'' v (f d)->R v H'')→
   g x (cJ src σ) H' λσ2 H2=>fu (cJ src σ) σ2/\tt σ2 H2 λok H3=>if ok=true then te σ2 H3 R else E H3)
  (fin:∀H' ys,aD H H'->H' D=some (.lst ys)->cV (P H') ys (ds.map f)->Q H') :
  ∃W:Nat->Nat->List V->Hp->Prop,(∃m,W 0 m [] (aE H D (.lst [])))/\∀i m ys H,W i m ys H->((Bh K a).stop i H/\Q H)∨((Bh K a).go i H/\∀x H',(Bh K a).yld i H x H'→
   g x (cJ src σ) H' λσ2 H2=>fu (cJ src σ) σ2/\tt σ2 H2 λok H3=>
    if ok=true then te σ2 H3 λy H4=>H4 D=some (.lst ys)/\ys.length<sizeLine/\∃m',m'<m/\W (i+1) m' (ys++[y]) (aE H4 D (.lst (ys++[y]))) else ∃m',m'<m/\W (i+1) m' ys H3):=by
 refine⟨λi m ys H'=>i≤ds.length/\m=ds.length-i/\H' D=some (.lst ys)/\aD H H'/\cV (P H') ys ((ds.take i).map f),⟨_,NB _,Z,ag,ai hD _,.nil⟩,?_⟩;rintro i m ys H1 ⟨hi,rfl,d1,s1,al1⟩;have hS1:bC K H1 a xs:=aK.same s1 _ _ hS;by_cases hix:i<ds.length
 ·have hx0:xs[i]?=some (xs[i]'(by omega)):=M8 _;refine .inr ⟨⟨xs,_,hS1,hx0⟩,?_⟩;rintro x H2 ⟨rfl,hy⟩;have hx:=hy xs hS1;obtain⟨d,hd⟩:∃d,ds[i]?=some d:=⟨_,M8 hix⟩;refine turn i x d _ hx hd s1 _ _ λv H3 s3 p3=>?_
  have d3:H3 D=some (.lst ys):=s3 _ _ d1;have tm:aK K H2 (aE H3 D (.lst (ys++[v]))):=(aK.same s3).trans (aK.up d3 _);refine⟨d3,bh (by rw[al1.len,Na,OH];omega),ds.length-(i+1),by omega,hix,Z,ag,λb o q=>?_,?_⟩
  ·rw[aJ (aU q hD)];exact s3 _ _ (s1 _ _ q)
  ·rw[Oi,hd,N5];exact(al1.mono λv d p=>mono _ _ _ _ tm p).snoc (mono _ _ _ _ (aK.up d3 _) p3)
 ·have e:i=ds.length:=by omega
  subst e;rw[Op] at al1;exact .inl ⟨⟨xs,hS1,by omega⟩,fin H1 ys s1 d1 al1⟩
def lh:PyData->String
 | .none => "NoneType"
 | .bool _ => "bool"
 | .int _ => "int"
 | .str _ => "str"
 | .list _ => "list"
 | .tuple _ => "tuple"
 | .dict _ => "dict"
def HM(K:M6):List V->Hp->VK->Prop:=λxs H Q=>∃v d n b,xs=[v,.ty n]/\bH K H v d/\kq (lh d) n=some b/\Q (.bl b) H
theorem fL:c6 X (.builtin "isinstance") (HM X.K):=by
 intro pins s σ H xs us Q I r h;obtain⟨v,d,n,b,rfl,hD,e,q⟩:=h
 cases hD with
 |non=>exact jD pins s σ H _ us Q I r ⟨_,n,_,b,Z,.non,e,q⟩
 |bl c=>exact jD pins s σ H _ us Q I r ⟨_,n,_,b,Z,.bl c,e,q⟩
 |int i=>exact jD pins s σ H _ us Q I r ⟨_,n,_,b,Z,.int i,e,q⟩
 |str x=>exact jD pins s σ H _ us Q I r ⟨_,n,_,b,Z,.str x,e,q⟩
 | @tup a ys ds hS hA=>exact wW pins s σ H _ us Q I r ⟨a,ys,n,b,Z,hS,e,q⟩
 | @lst a ys ds hS hA=>
  obtain⟨u,u2,rfl,rx,ry⟩:=ux r;obtain rfl:u2=Pt n:=ry
  cases(show u=Oy a from rx)
  obtain⟨its,_,⟨o,k,h1,h2,_⟩,_⟩:=I.list hS;exact OU Tj I.kIn ⟨o,h1,h2⟩ (tR e) (λz=>nomatch z) λtk=>⟨.bl b,H,I.tok tk,Z,q⟩
def ot:PyData->Bool
 | .int _=>true
 |_=>false
def LC(n:Nat):PyData->Bool
 | .tuple xs=>decide (xs.length=n)
 |_=>false
def Hv:PyData->Bool
 | .tuple [.int a,.int b]=>decide (1≤b)&&decide (Nx a b=1)
 |_=>false
def K6:PyData->Bool
 | .tuple [x,y]=>Hv x&&Hv y
 |_=>false
theorem CK{K:M6}{H:Hp}{v:V}{d:PyData}(h:bH K H v d):∃b c,kq (lh d) "int"=some b/\kq (lh d) "bool"=some c/\ot d=(b&&!c):=by
 cases h with
 |non=>exact⟨false,false,by simp only[lh];decide +kernel,by simp only[lh];decide +kernel,Z⟩
 |bl b=>exact⟨true,true,by simp only[lh];decide +kernel,by simp only[lh];decide +kernel,Z⟩
 |int i=>exact⟨true,false,by simp only[lh];decide +kernel,by simp only[lh];decide +kernel,Z⟩
 |str x=>exact⟨false,false,by simp only[lh];decide +kernel,by simp only[lh];decide +kernel,Z⟩
 |lst e t=>exact⟨false,false,by simp only[lh];decide +kernel,by simp only[lh];decide +kernel,Z⟩
 |tup e t=>exact⟨false,false,by simp only[lh];decide +kernel,by simp only[lh];decide +kernel,Z⟩
theorem CJ{K:M6}{H:Hp}{v:V}{d:PyData}(h:bH K H v d):(kq (lh d) "tuple"=some true/\∃a xs ds,v=.ref a/\d=.tuple ds/\bC K H a xs/\aZ K H xs ds)∨(kq (lh d) "tuple"=some false/\∀ds,d≠.tuple ds):=by
 cases h with
 |non=>exact .inr ⟨by simp only[lh];decide +kernel,λ_ z=>nomatch z⟩
 |bl b=>exact .inr ⟨by simp only[lh];decide +kernel,λ_ z=>nomatch z⟩
 |int i=>exact .inr ⟨by simp only[lh];decide +kernel,λ_ z=>nomatch z⟩
 |str x=>exact .inr ⟨by simp only[lh];decide +kernel,λ_ z=>nomatch z⟩
 |lst e t=>exact .inr ⟨by simp only[lh];decide +kernel,λ_ z=>nomatch z⟩
 |tup e t=>exact .inl ⟨by simp only[lh];decide +kernel,_,_,_,Z,Z,e,t⟩
theorem aZ.len{K:M6}{H:Hp}:∀{xs:List V} {ds:List PyData},aZ K H xs ds->xs.length=ds.length
 |_,_,.nil=>rfl
 |_,_,.cons _ t=>congrArg Nat.succ t.len
structure Sh(k n:Nat)(d:PyData):Prop where
 sh:d.showable=true
 nd:d.hasDict=false
 dp:d.depth≤k
 sz:d.shown.length≤n
theorem Sh.mono(h:Sh k n d)(hk:k≤k')(hn:n≤n'):Sh k' n' d:=⟨h.sh,h.nd,NH h.dp hk,NH h.sz hn⟩
theorem Sh.all{k n:Nat}:∀{ds:List PyData},(∀d∈ds,Sh k n d)->Vp ds=true/\VO ds=false/\QY ds≤k/\((Q0 ds).map (·.length)).sum≤n*ds.length/\(Q0 ds).length=ds.length
 | [],_=>⟨Z,Z,NB _,NB _,Z⟩
 |d::ds,h=>by
  obtain⟨a,b,c,e,f⟩:=Sh.all (ds:=ds) λx hx=>h x (No _ hx)
  have z:=h d Ng;refine⟨?_,?_,?_,?_,?_⟩
  ·show(d.showable&&Vp ds)=true;rw[z.sh,a];rfl
  ·show(d.hasDict||VO ds)=false;rw[z.nd,b];rfl
  ·show max d.depth (QY ds)≤k;exact Nat.max_le.mpr ⟨z.dp,c⟩
  ·show d.shown.length+((Q0 ds).map (·.length)).sum≤n*(ds.length+1);have:=z.sz;rw[Ro];omega
  ·show(Q0 ds).length+1=ds.length+1;rw[f]
theorem Sh.tup(h:∀d∈ds,Sh k n d)(hm:ds.length≤m)(hN:(n+3)*m+8≤N):Sh (k+1) N (.tuple ds):=by
 obtain⟨a,b,c,e,f⟩:=Sh.all h;refine⟨a,b,R9 c,?_⟩;show(tupleText (Q0 ds)).length≤N;have q:=tupleText_len_le (Q0 ds);have l:n*ds.length+3*ds.length≤(n+3)*m:=by
  rw[←Wv];exact P5 _ hm
 omega
theorem Sh.shows(h:Sh k n d)(hk:k≤16)(hn:n≤16777216):Bg d:=⟨h.sh,h.nd,NH h.sz (NH hn (by decide)),NH h.dp hk⟩
mutual
theorem bH.same{K:M6}{H H':Hp}(s:aD H H'):∀{v:V} {d:PyData},bH K H v d->bH K H' v d
 |_,_,.non=>.non
 |_,_,.bl b=>.bl b
 |_,_,.int i=>.int i
 |_,_,.str x=>.str x
 |_,_,.lst e t=>.lst (s.seq e) (aZ.same s t)
 |_,_,.tup e t=>.tup (aK.same s _ _ e) (aZ.same s t)
theorem aZ.same{K:M6}{H H':Hp}(s:aD H H'):∀{vs:List V} {ds:List PyData},aZ K H vs ds->aZ K H' vs ds
 |_,_,.nil=>.nil
 |_,_,.cons h t=>.cons (bH.same s h) (aZ.same s t)
end
theorem Cv:gK X (Oz .IsNot) (λx y H Q=>∃b c,x=.bl b/\y=.bl c/\Q (.bl (!decide (b=c))) H):=by
 intro pins s σ H x y v u Q I rx ry h;obtain⟨b,c,rfl,rfl,q⟩:=h;obtain rfl:v=QM b:=rx;obtain rfl:u=QM c:=ry;refine wpAny_isNot_plain (by cases b<;>cases c<;>rfl) ⟨.bl _,H,I,?_,q⟩
 cases b<;>cases c<;>rfl
end B
namespace B
open PySem PySem.Spec L2 PyProof.Rows
def K3(K:M6):R2:=λx y H Q=>∃a b xs ys,x=.ref a/\y=.ref b/\bC K H a xs/\bC K H b ys/\xs.length+ys.length≤sizeLine/\∀p H',aD H H'->bC K H' p (xs++ys)->Q (.ref p) H'
def JO(K:M6):V->Option Int->Option Int->Hp->VK->Prop:=λx lo hi H Q=>∃a xs,x=.ref a/\bC K H a xs/\∀p H',aD H H'->bC K H' p (jB xs lo hi)->Q (.ref p) H'
theorem uJ:xx X (JO X.K):=by
 intro pins s σ H x v vl vu lo hi sl Q I rx hs pl pu h;obtain⟨a,xs,rfl,hx,q⟩:=h;refine BP pins s σ H _ v vl vu lo hi sl Q I rx hs pl pu ?_;by_cases c:HT.sIx xs.length 0 lo=0/\HT.sIx xs.length xs.length hi=xs.length
 ·refine .inl ⟨a,xs,Z,hx,c.1,c.2,q a H (aD.refl H) ?_⟩;have e:jB xs lo hi=xs:=by
   unfold jB;rw[c.1,c.2,WU,Nat.sub_zero,Op]
  rw[e];exact hx
 ·exact .inr ⟨a,xs,Z,hx,c,λp hp=>q p _ (ai hp _) (bC.of ag)⟩
theorem Gq{xs:List V}(h:n≤xs.length):jB xs none (some (n:Int))=xs.take n:=by
 unfold jB;rw[HT.sIx_nat,HT.sIx_none,Uu h,Nat.sub_zero,WU]
def Gz(K:M6)(s:Addr):Prop:=∃ns:List Int,ns.length≤63/\∀H:Hp,aV K H s (ns.map V.int)
structure cD(K:M6)(H:Hp)(t s:Addr):Prop where
 ex:∃(ns:List Int) (p q:Int),H t=some (.lst [.ref s,.int p,.int q])/\((Rd H s (.lst (ns.map V.int))/\s≠t)∨∀H',aV K H' s (ns.map V.int))/\ns.length≤63/\0≤p/\0≤q
theorem BX(h:Rd H a u)(z:aD H H'):Rd H' a u:=by
 rcases h with h | ⟨o,h⟩
 ·exact .inl (z _ _ h)
 ·exact .inr ⟨o,z _ _ h⟩
theorem oX(h:Rd H a u)(n:l≠a):Rd (aE H l o) a u:=by
 unfold Rd;rw[aJ n.symm];exact h
theorem zG(h:Rd H a u)(n:H l=none):l≠a:=λe=>by
 subst e;rcases h with h | ⟨o,h⟩
 ·rw[n] at h;cases h
 ·rw[n] at h;cases h
theorem cD.lst{K:M6}{H:Hp}{t s:Addr}(h:cD K H t s):∃xs,H t=some (.lst xs):=let ⟨_,_,_,e,_⟩:=h.ex;⟨_,e⟩
theorem cD.same{K:M6}{H H':Hp}{t s:Addr}(h:cD K H t s)(z:aD H H'):cD K H' t s:=by
 obtain⟨ns,p,q,h1,h2,h3⟩:=h.ex;refine⟨ns,p,q,z _ _ h1,?_,h3⟩;rcases h2 with⟨a,b⟩|a
 ·exact .inl ⟨BX a z,b⟩
 ·exact .inr a
theorem cD.new{K:M6}{H:Hp}{t s p:Addr}(h:cD K H t s)(n:H p=none)(o:HO):cD K (aE H p o) t s:=h.same (ai n o)
theorem cD.off{K:M6}{H:Hp}{t s D:Addr}(h:cD K H t s)(n:H D=none):D≠s∨Gz K s:=by
 obtain⟨ns,p,q,_,h2,h3,_⟩:=h.ex;rcases h2 with⟨a,_⟩|a
 ·exact .inl (zG a n)
 ·exact .inr ⟨ns,h3,a⟩
theorem cD.upl{K:M6}{H:Hp}{t s l:Addr}(h:cD K H t s)(a:l≠t)(b:l≠s∨Gz K s)(o:HO):cD K (aE H l o) t s:=by
 obtain⟨ns,p,q,h1,h2,h3⟩:=h.ex;rcases b with b | ⟨ms,m3,m⟩
 ·refine⟨ns,p,q,by rw[aJ a.symm];exact h1,?_,h3⟩;rcases h2 with⟨c,d⟩|c
  ·exact .inl ⟨oX c b,d⟩
  ·exact .inr c
 ·exact⟨ms,p,q,by rw[aJ a.symm];exact h1,.inr m,m3,h3.2⟩
def yf(K:M6):Sp:=λvs H Q _=>∃(a:Addr) (ns:List Int),vs=[.ref a]/\aV K H a (ns.map V.int)/\ns.length≤63/\∀(t:Addr) (H':Hp),aD H H'->H t=none->cD K H' t a->Q (.ref t) H'
def yh(K:M6):Sp:=λvs H Q _=>∃(t s:Addr) (m:Int),vs=[.ref t,.int m]/\cD K H t s/\0<m/\m<1073741824/\∀(r:Int) (xs:List V),0≤r->r<m->cD K (aE H t (.lst xs)) t s->Q (.int r) (aE H t (.lst xs))
theorem cD.mk3{K:M6}{H:Hp}{t a:Addr}{ns:List Int}(hS:aV K H a (ns.map V.int))(hl:ns.length≤63)(ht:H t=none):cD K (aE H t (.lst [.ref a,.int 0,.int 0])) t a:=by
 refine⟨ns,0,0,ag,?_,hl,Qd _,Qd _⟩;rcases hS with h|h
 ·exact .inl ⟨oX h (zG h ht),(zG h ht).symm⟩
 ·exact .inr λ_=>.inr h
section
set_option autoImplicit true
set_option relaxedAutoImplicit true
theorem kY{X:Cx}{elts:List N9}{x1}{tp p pos:Q4}{a:N9}{ta:TA}(hg:Gl X "enumerate")(hm:X.mg "enumerate"=none)(ha:QA X [a] ta)(hs:Nw [a] X.env=[(false,eval a X.env)]:=by rfl):QI X (.Tuple elts x1 tp) (.Call (.Name "enumerate" p) [a] [] pos) (Iz X.K ta):=⟨Ci hg hm ha.p hs⟩
theorem qU{X:Cx}{elts:List N9}{x1}{tp p pos:Q4}{a:N9}{ta:TA}(hg:Gl X "enumerate")(hm:X.mg "enumerate"=none)(ha:QA X [a] ta)(hs:Nw [a] X.env=[(false,eval a X.env)]:=by rfl):QI X (.Tuple elts x1 tp) (.Call (.Name "enumerate" p) [a] [] pos) (IA X.K ta):=⟨Aa hg hm ha.p hs⟩
end
theorem k6:∀{ns:List Int} {us:List Value},bE (ns.map V.int) us->Pe us ns
 | [],_,.nil=>.nil
 |n::ns,_,.cons r t=>by
  obtain⟨tk,rfl⟩:=(show ∃t,_=PY n t from r);exact .cons _ _ (k6 t)
theorem j9(hc:X.calm=true):c6 X (.builtin "sum") (λxs H Q=>∃(p:Addr) (ns:List Int),xs=[.ref p]/\aV X.K H p (ns.map V.int)/\Q (.int ns.sum) H):=by
 intro pins s σ H xs us Q I r h;obtain⟨p,ns,rfl,hq,q⟩:=h;obtain⟨u,rfl,rx⟩:=eS r
 cases rx
 obtain⟨its,rv,pl,hz⟩:=I.list hq;have hi:=k6 rv;obtain⟨zs,ez⟩:=hi.allInts.items;have hl:=pl.isList;rw[ez] at hl;have en:numsOf its=ns:=hi.numsOf;rw[show its=its.toArray.toList from Z,ez,Va] at en;refine sum_intListG (I.ok.hd hc) hl λh' tk t' hk=>?_
 rw[preSum_eq,R0 (by simp),en];exact⟨.int ns.sum,H,I.kept (t':=tk) hk,⟨_,Z⟩,q⟩
theorem rY:∀{bs:List Bool} {us:List Value},bE (bs.map V.bl) us->∀{i:Nat} {v:Value},us[i]?=some v->v=.bool (bs.getD i true)
 | [],_,.nil,i,v,e=>by cases e
 |b::bs,_,.cons r t,0,v,e=>by
  rw[QF] at e
  cases e
  exact(show _=QM b from r)
 |b::bs,_,.cons r t,i+1,v,e=>by
  rw[QH] at e;exact rY t e
theorem og:∀(bs:List Bool),(M7 bs.length).all (λi=>bs.getD i true)=bs.all id
 | []=>rfl
 |b::bs=>by
  rw[NU,R1,Sf,Rp,Sf];have:=og bs;show(b&&(M7 bs.length).all (λi=>bs.getD i true))=(id b&&bs.all id);rw[this];rfl
theorem ka(hc:X.calm=true):c6 X (.builtin "all") (λxs H Q=>∃(p:Addr) (bs:List Bool),xs=[.ref p]/\aV X.K H p (bs.map V.bl)/\Q (.bl (bs.all id)) H):=by
 intro pins s σ H xs us Q I r h;obtain⟨p,bs,rfl,hq,q⟩:=h;obtain⟨u,rfl,rx⟩:=eS r
 cases rx
 obtain⟨its,rv,pl,hz⟩:=I.list hq;have ne:p≠s.heap.objs.size:=by
  obtain⟨o,ho,_⟩:=pl.isList;exact NT (Nt ho)
 have hlen:its.toArray.size=bs.length:=by rw[NK,←rv.length,Na]
 refine call_all_walk (Q6 pl.isList ?_);refine⟨_,_,_,_,_,_,λi=>bs.getD i true,Z,WV (A:=X.A.in1) (I.ok.hd hc) _ p ne its.toArray,⟨⟨_,Nr _ Z,Z,Z⟩,pl.isList.push _⟩,λi v s' Q' E' hv hQ=>?_,λh' tk hk=>?_⟩
 ·have e:=rY rv (i:=i) (v:=v) (by simpa using hv);subst e;exact Pg hQ
 ·rw[hlen,og];refine⟨.bl _,H,I.kept (t':=tk) λb o e=>hk b o (λz=>?_) (Nc _ e),Z,q⟩;rw[Nm.mp z] at e;exact absurd (Nt e) (Of _)
section
variable {prog:NW}{w:Ol}{A:N8}{E:Value->Nf->Prop}{s:Nf}
theorem m6{a b c:Int}{n:Nat}(hh:A.handled=none)(hr:UW s.heap r a b c t u v)(hsmall:Qz a b c=true)
  (hn:OV a b c=n) (hlen:n≤2^24)
  (hQ:∀h' tk acc,(∀b o,s.heap.get? b=some o->h'.get? b=some o)->VP (λi v=>∃t,v=.int (a+i*c) t) acc n->Q acc.toList { s with heap:=h',toks:=tk}):
  Nv (NJ prog w) A (Xn (.ref r)) Q E s:=by
 unfold Xn;refine M9 (SS (P3 F.entry_proto_collect ?_));rw[Pp F.plain_proto_collect _];show Nv _ A.in1 (VG [] >>= λl=>again (.builtin "list.__iadd__" ⟨[l,.ref r],[]⟩)) _ _ s;refine M9 (N3 ?_);refine Nj ⟨Sj F.plain_list_iadd _,P3 F.entry_list_iadd ?_⟩;rw[Pp F.plain_list_iadd _];show Nv _ A.in1 (Q7 (.ref s.heap.objs.size) (.ref r) (.ref s.heap.objs.size)) _ _ { s with heap:=s.heap.push { cls:=.type "list",data:=.seq ([]:List Value).toArray} };refine wpAny_extend_range (R:=wants (λv s'=>Nv (NJ prog w) A (match v with | .ref a=>(do match (←load a).data with | .seq xs _=>Pq xs.toList|_=>unsupported "internal:collect")|_=>unsupported "internal:collect") Q E s') E) (s:={ s with heap:=s.heap.push { cls:=.type "list",data:=.seq ([]:List Value).toArray} }) hh (Nc _ hr) hsmall hn hlen s.heap.objs.size _ _ (Nr _ rfl) λh' tk acc' c' hk hS hI=>?_
 show Nv _ A (load s.heap.objs.size >>= _) _ _ _;refine M9 (WJ hS ?_);exact Nj (hQ h' tk acc' (λb o e=>hk b o (NT (Nt e)) (Nc _ e)) hI)
theorem jw{a b c:Int}{n:Nat}(hsmall:Qz a b c=true)(hn:OV a b c=n)(hlen:n≤2^24):
  Meets (NO.«tuple.__new__» ⟨[.type "tuple",.ref r],[]⟩)
   (λA R s=>A.handled=none/\UW s.heap r a b c t u v/\∀(h':Np) (tk:Nat) (acc:Array Value),(∀b o,s.heap.get? b=some o->h'.get? b=some o)->VP (λi v=>∃t,v=.int (a+i*c) t) acc n→
    R (.ok (.ret (.ref h'.objs.size))) { s with heap:=h'.push { cls:=.type "tuple",data:=.seq acc},toks:=tk}):=
 .of_wp λprog w A R s h=>by
  obtain⟨hh,hr,h⟩:=h;have hsub:=sub_tuple_self;have hinit:=init_tuple_lookup;have hmh:=madeHere_tuple;have hT:s.TypeIs (.ref r) "range" := ⟨_,hr,Z⟩;have hh1:A.in1.handled=none:=hh
  wp_walk using RT hT,m6 hh1 hr hsmall hn hlen
  intro h' tk acc hk hacc;show Nv _ _ (Pk acc.toList.toArray >>= λv=>ret v) _ _ _;unfold Pk;refine M9 (N3 ?_ (show acc.toList.toArray.size≤sizeLine by simp only[Array.toArray_toList];rw[hacc.1,Tf];exact hlen));refine Nj ⟨_,Z,?_⟩;have e:acc.toList.toArray=acc:=by simp
  rw[e];exact h h' tk acc hk hacc
theorem j8{a b c:Int}{n:Nat}(hh:A.handled=none)(hr:UW s.heap r a b c t u v)(hsmall:Qz a b c=true)
  (hn:OV a b c=n) (hlen:n≤2^24)
  (hQ:∀(h':Np) (tk:Nat) (acc:Array Value),(∀b o,s.heap.get? b=some o->h'.get? b=some o)->VP (λi v=>∃t,v=.int (a+i*c) t) acc n->Q (.ref h'.objs.size) { s with heap:=h'.push { cls:=.type "tuple",data:=.seq acc},toks:=tk}):
  Nv (NJ prog w) A (call (.type "tuple") [.ref r]) Q E s:=by
 refine callType_new F.called_tuple (by decide) (F.typeCall_tuple_1 _) (F.newCall_tuple_1 _) (λobj=>F.args_object_init_2 obj _) F.entry_tuple_new
  (jw hsmall hn hlen) ⟨hh,hr,λh' tk acc hk hacc=>⟨⟨_,Nr _ Z,Z⟩,hQ h' tk acc hk hacc⟩⟩
end
def upTo(n:Nat):List Int:=(M7 n).map λi:Nat=>(i:Int)
theorem lg(h:VP (λi v=>∃t,v=.int ((0:Int)+i*1) t) acc n):bE ((upTo n).map V.int) acc.toList:=by
 obtain⟨hl,ha⟩:=h;have key:∀m,m≤n->bE ((upTo m).map V.int) (acc.toList.take m):=by
  intro m
  induction m with
  |zero=>intro _;rw[WW];exact .nil
  |succ m ih=>
   intro hm;have hlt:m<acc.size:=by omega
   have e1:acc.toList.take (m+1)=acc.toList.take m++[acc[m]]:=by
    rw[Oi];simp[hlt]
   have e2:(upTo (m+1)).map V.int=(upTo m).map V.int++[V.int m]:=by
    unfold upTo;rw[Oq];simp
   rw[e1,e2];refine(ih (by omega)).append (.cons ?_ .nil);obtain⟨t,e⟩:=ha m acc[m] (by simp[hlt]);exact⟨t,by rw[e];simp⟩
 have:=key n (Nb _)
 rwa [R0 (by simp[hl])] at this
def Di(ta:TA):TE:=λσ H Q=>ta σ H λvs H1=>∃j:Int,vs=[.int j]/\∀p,H1 p=none->Q (.ref p) (aE H1 p (.rng 0 j))
theorem Cm{X:Cx}{a:N9}{ta:TA}{p pos:Q4}(hg:Gl X "range")(hm:X.mg "range"=none)(ha:PA X [a] ta)(hs:Nw [a] X.env=[(false,eval a X.env)]:=by rfl) :
  PE X (.Call (.Name "range" p) [a] [] pos) (Di ta):=by
 intro pins s σ H Q I h;refine Xr (gU I hg hm Vf (OQ (cF (ha pos pins s σ H _ I h) λus s1 ⟨vs,H1,I1,r1,q1⟩=>?_) hs Z));obtain⟨j,e,q⟩:=q1;subst e;obtain⟨u,rfl,t,rfl⟩:=eS r1;refine call_range_1 ?_;exact⟨.ref s1.heap.objs.size,_,I1.laid (o:=.rng 0 j) (λb o e=>Nc _ e) (Nb _) ⟨_,t,_,Nr _ Z⟩,Z,q _ (I1.hok.fresh (Nb _))⟩
theorem uK(n:Nat):OV 0 n 1=n:=by rw[rangeSize_one];split<;>omega
theorem rX(hc:X.calm=true):c6 X (.type "tuple") (λxs H Q=>∃p,∃n:Nat,xs=[.ref p]/\H p=some (.rng 0 n)/\n≤1000/\∀l,H l=none->Q (.ref l) (aE H l (.tup ((upTo n).map V.int)))):=by
 intro pins s σ H xs us Q I r h;obtain⟨p,n,rfl,hp,hn,q⟩:=h;obtain⟨u,rfl,rx⟩:=eS r
 cases rx
 obtain⟨t,u,w,e⟩:=(show bW X.prog X.w H s.heap p (.rng 0 n) from I.hok p _ hp);refine j8 (I.ok.hd hc) (show UW s.heap p 0 n 1 t u w from e) (Xg (by omega) (by omega) (by omega) (by omega)) (uK n) (by omega) λh' tk acc hk hi=>?_
 have rv:=lg hi;have I1:Inv X pins σ H { s with heap:=h',toks:=tk}:=I.kept (t':=tk) hk;have hl:(upTo n).length=n:=by unfold upTo;simp
 have I2:Inv X pins σ (aE H h'.objs.size (.tup ((upTo n).map V.int))) { s with heap:=h'.push { cls:=.type "tuple",data:=.seq acc},toks:=tk}:=
  I1.laid (t':=tk) (λb o e=>Nc _ e) (Nb _) (show bW X.prog X.w _ _ _ (.tup ((upTo n).map V.int)) from⟨by rw[Na,hl,Tf];omega,acc.toList,rv,by have:=Wa h' acc;simpa using this⟩)
 exact⟨.ref h'.objs.size,_,I2,Z,q _ (I1.hok.fresh (Nb _))⟩
def IV(hi:Int)(n:Nat):It:=⟨λi _=>i<n,λi H x H'=>H'=H/\x=.int (hi-i),λi _=>n≤i⟩
theorem vM{P:NW}{w:Ol}{K:M6}{tg:N9}(it:Addr)(lo:Int)(n:Nat):sd P w K tg (IV lo n) [it] it (λi h=>UF h it (lo+(i:Nat)*(-1)) ((n:Int)-(i:Nat)) (-1)) where
 mem:=by simp
 obj:=λi h st b hb=>by
  have e:b=it:=by simpa using hb
  subst e;exact⟨_,st,λv z=>by
   have z':Te _=UV v:=z
   cases z'⟩
 keep:=λi h h' st k=>k it (by simp) _ st
 item:=by
  intro X hP hw hK hc i pins s σ H E I hf st hg;subst hP hw hK;obtain⟨f0,f1,f2,f3,f4,f5⟩:=hf it (by simp);have W:=Xq.range (prog:=X.prog) (w:=X.w) (I.ok.hd hc) it lo (-1) n;refine W.item i s _ _ hg st λv h' tk hv st' kk=>?_
  obtain⟨t,rfl⟩:=hv;have I1:Inv X pins σ H { s with heap:=h',toks:=tk}:=I.turned (λb o hb e=>kk b o (by simpa using hb) e) f0 f1 f3 f4 f5;refine⟨_,rfl,vg (s:={ s with heap:=h',toks:=tk}) (n := "range_iterator") st' rfl rfl (by decide) ⟨.int (lo-i),H,I1,⟨t,?_⟩,⟨rfl,rfl⟩,st',λb hb=>(hf b hb).1⟩⟩;rw[show lo+(i:Int)*(-1)=lo-i by omega]
 done:=by
  intro X hP hw hK hc i pins s σ H E I hf st hg;subst hP hw hK;obtain⟨f0,f1,f2,f3,f4,f5⟩:=hf it (by simp);exact Uc (I.ok.hd hc) st (by have:n≤i:=hg;omega) λh' eb=>⟨Z,I.turned (t':=s.toks) (λb o hb e=>eb b o hb e) f0 f1 f3 f4 f5⟩
 self:=λ_ _ _ _ _ st h=>Ud st h
theorem nB(a b:Int):OV a b (-1)=((a-b).toNat:Nat):=by
 unfold OV;rw[if_neg (by decide)]
 split
 ·rw[show(-(-1):Int)=1 by decide,Uh];omega
 ·omega
theorem sL(ha:-1000≤a)(ha':a≤1000)(hb:-1000≤b)(hb':b≤1000):Qz a b (-1)=true:=by
 unfold Qz;rw[nB];simp only[NO.Range.rangeFitsLong,NM,WA,decide_eq_true_eq,beq_iff_eq,show ¬(-1:Int)>0 by decide,if_false];omega
def DB(ta:TA):TI:=λσ H R=>ta σ H λvs H1=>∃i j:Int,vs=[.int i,.int j,.int (-1)]/\(-1000≤i/\i≤1000/\-1000≤j/\j≤1000)/\R (IV i (i-j).toNat) H1
theorem we{X:Cx}{tg:N9}{a b c:N9}{ta:TA}{p pos:Q4}(hg:Gl X "range")(hm:X.mg "range"=none)(ha:PA X [a,b,c] ta)(hs:Nw [a,b,c] X.env=[(false,eval a X.env),(false,eval b X.env),(false,eval c X.env)]:=by rfl)(hs2:Nw [b,c] X.env=[(false,eval b X.env),(false,eval c X.env)]:=by rfl) :
  PI X tg (.Call (.Name "range" p) [a,b,c] [] pos) (DB ta):=by
 intro pins s σ H R I h;refine Xr (gU I hg hm Vf (OQ (cF (ha pos pins s σ H _ I h) λus s1 ⟨vs,H1,I1,r1,q1⟩=>?_) (by rw[hs,hs2]) (by rw[hs2];rfl)));obtain⟨i,j,e,⟨q1,q2,q3,q4⟩,q⟩:=q1;subst e
 cases r1 with
 |cons r rr=>
  cases rr with
  |cons r' rr=>
   cases rr with
   |cons r'' rr=>
    cases rr
    obtain⟨t,rfl⟩:=r;obtain⟨t',rfl⟩:=r';obtain⟨t'',rfl⟩:=r'';refine call_range_3 (by decide) ?_ (.inl (Ue (by decide)));refine Ve (UW.new ..) (sL q1 q2 q3 q4) ?_;have I2:Inv X pins σ H1 { s1 with heap:=s1.heap.push { cls:=.type "range",data:=.fields #[.int i t,.int j t',.int (-1) t'']},toks:=s1.toks}:=I1.kept λb o e=>Nc _ e
    refine⟨(s1.heap.push { cls:=.type "range",data:=.fields #[.int i t,.int j t',.int (-1) t'']}).objs.size,[(s1.heap.push { cls:=.type "range",data:=.fields #[.int i t,.int j t',.int (-1) t'']}).objs.size],_,_,H1,Z,
     I2.kept (t':=s1.toks) λb o e=>Nc _ e,vM _ i (i-j).toNat,?_,λb hb=>?_,q⟩
    ·have e1:i+((0:Nat):Int)*(-1)=i:=by simp
     have e2:(((i-j).toNat:Nat):Int)-((0:Nat):Int)=OV i j (-1):=by rw[nB];omega
     show UF _ _ (i+((0:Nat):Int)*(-1)) ((((i-j).toNat:Nat):Int)-((0:Nat):Int)) (-1);rw[e1,e2];exact Nr _ Z
    ·have e:b=(s1.heap.push { cls:=.type "range",data:=.fields #[.int i t,.int j t',.int (-1) t'']}).objs.size:=by simpa using hb
     subst e;exact I2.fpOk (Nb _) (I2.hok.fresh (Nb _))
theorem AT{hi:Int}{n:Nat}{g:TG}{tb:TS}{D:i7}{σ:L2.St}{H:Hp}(Pv:Nat->L2.St->Hp->Prop)(h0:Pv 0 σ H)
  (hs:∀i σ H,i<n->Pv i σ H->g (.int (hi-i)) σ H λσ2 H2=>tb { D with nx:=Pv (i+1),ct:=Pv (i+1),bk:=D.nx} σ2 H2) (hd:∀σ H,Pv n σ H->D.nx σ H) :
  ∃W:Nat->Nat->L2.St->Hp->Prop,(∃m,W 0 m σ H)/\∀i m σ H,W i m σ H→
   ((IV hi n).stop i H/\D.nx σ H)∨((IV hi n).go i H/\∃N:L2.St->Hp->Prop,(∀σ' H',N σ' H'->∃m',m'<m/\W (i+1) m' σ' H')/\∀x H',(IV hi n).yld i H x H'->g x σ H' λσ2 H2=>tb { D with nx:=N,ct:=N,bk:=D.nx} σ2 H2):=by
 refine⟨λi m σ H=>m=n-i/\i≤n/\Pv i σ H,⟨_,Z,NB _,h0⟩,?_⟩;rintro i m σ H ⟨rfl,hi',p⟩;by_cases hlt:i<n
 ·refine .inr ⟨hlt,Pv (i+1),λσ' H' p'=>⟨n-(i+1),by omega,Z,hlt,p'⟩,λx H' y=>?_⟩;obtain⟨rfl,rfl⟩:=y;exact hs i σ _ hlt p
 ·have e:i=n:=by omega
  subst e;exact .inl ⟨Nb _,hd σ H p⟩
section
set_option autoImplicit true
set_option relaxedAutoImplicit true
theorem oY{X:Cx}{a:N9}{ta:TA}{p pos:Q4}(hg:Gl X "range")(hm:X.mg "range"=none)(ha:QA X [a] ta)(hs:Nw [a] X.env=[(false,eval a X.env)]:=by rfl):QE X (.Call (.Name "range" p) [a] [] pos) (Di ta):=⟨Cm hg hm ha.p hs⟩
theorem v3{X:Cx}{tg:N9}{a b c:N9}{ta:TA}{p pos:Q4}(hg:Gl X "range")(hm:X.mg "range"=none)(ha:QA X [a,b,c] ta)(hs:Nw [a,b,c] X.env=[(false,eval a X.env),(false,eval b X.env),(false,eval c X.env)]:=by rfl)(hs2:Nw [b,c] X.env=[(false,eval b X.env),(false,eval c X.env)]:=by rfl):QI X tg (.Call (.Name "range" p) [a,b,c] [] pos) (DB ta):=⟨we hg hm ha.p hs hs2⟩
end
structure GT(J:It)(H:Hp)(n:Nat)(P:Nat->V->Hp->Prop):Prop where
 go:∀i H',i<n->aD H H'->J.go i H'
 stop:∀H',aD H H'->J.stop n H'
 yld:∀i H' x H'',i<n->aD H H'->J.yld i H' x H''->aD H' H''/\P i x H''
theorem eO{K:M6}{H:Hp}{a:Addr}{xs:List V}(h:aV K H a xs):GT (Br K a) H xs.length (λi x _=>xs[i]?=some x) where
 go:=λi H' hi s=>⟨xs,_,s.seq h,M8 hi⟩
 stop:=λH' s=>⟨xs,s.seq h,Nb _⟩
 yld:=λi H' x H'' hi s y=>by obtain⟨rfl,hy⟩:=y;exact⟨aD.refl _,hy xs (s.seq h)⟩
theorem iA{K:M6}{H:Hp}{a:Addr}{xs:List V}(h:bC K H a xs):GT (Bh K a) H xs.length (λi x _=>xs[i]?=some x) where
 go:=λi H' hi s=>⟨xs,_,aK.same s _ _ h,M8 hi⟩
 stop:=λH' s=>⟨xs,aK.same s _ _ h,Nb _⟩
 yld:=λi H' x H'' hi s y=>by obtain⟨rfl,hy⟩:=y;exact⟨aD.refl _,hy xs (aK.same s _ _ h)⟩
theorem kM{lo:Int}{n:Nat}:GT (xy lo n) H n (λi x _=>x=.int (lo+i)) where
 go:=λi H' hi s=>hi
 stop:=λH' s=>Nb _
 yld:=λi H' x H'' hi s y=>by obtain⟨rfl,rfl⟩:=y;exact⟨aD.refl _,Z⟩
theorem oq{K:M6}{H:Hp}{a:Addr}{xs:List V}(h:bC K H a xs):GT (xi K a) H xs.length (λi v H'=>∃p x,v=.ref p/\xs[i]?=some x/\H' p=some (.tup [.int i,x])) where
 go:=λi H' hi s=>⟨xs,_,aK.same s _ _ h,M8 hi⟩
 stop:=λH' s=>⟨xs,aK.same s _ _ h,Nb _⟩
 yld:=λi H' x H'' hi s y=>by obtain⟨p,v,hp,rfl,rfl,hy⟩:=y;exact⟨ai hp _,p,v,Z,hy xs (aK.same s _ _ h),ag⟩
theorem Bu{K:M6}{H:Hp}{a:Addr}{xs:List V}(h:aV K H a xs):GT (xj K a) H xs.length (λi v H'=>∃p x,v=.ref p/\xs[i]?=some x/\H' p=some (.tup [.int i,x])) where
 go:=λi H' hi s=>⟨xs,_,s.seq h,M8 hi⟩
 stop:=λH' s=>⟨xs,s.seq h,Nb _⟩
 yld:=λi H' x H'' hi s y=>by obtain⟨p,v,hp,rfl,rfl,hy⟩:=y;exact⟨ai hp _,p,v,Z,hy xs (s.seq h),ag⟩
theorem bY{J:It}{H:Hp}{D:Addr}{n:Nat}{P:Nat->V->Hp->Prop}(w:GT J H n P)(c:Nat->Bool)(f:Nat->V){src:List (Option Nat)}{σ:L2.St}{g:TG}{tt:TT}{te:TE}{Q:Hp->Prop}(hD:H D=none)(hn:n≤1000)
  (turn:∀(i:Nat) (x:V) (H':Hp),i<n->aD H H'->P i x H'->∀(R:VK) (E:Hp->Prop),(c i=true->∀H'',aD H' H''->R (f i) H'')->(c i=false->∀H'',aD H' H''->E H'')→
   g x (cJ src σ) H' λσ2 H2=>fu (cJ src σ) σ2/\tt σ2 H2 λok H3=>if ok=true then te σ2 H3 R else E H3)
  (fin:∀H',aD H H'->H' D=some (.lst (((M7 n).filter c).map f))->Q H') :
  ∃W:Nat->Nat->List V->Hp->Prop,(∃m,W 0 m [] (aE H D (.lst [])))/\∀i m ys H,W i m ys H->(J.stop i H/\Q H)∨(J.go i H/\∀x H',J.yld i H x H'→
   g x (cJ src σ) H' λσ2 H2=>fu (cJ src σ) σ2/\tt σ2 H2 λok H3=>
    if ok=true then te σ2 H3 λy H4=>H4 D=some (.lst ys)/\ys.length<sizeLine/\∃m',m'<m/\W (i+1) m' (ys++[y]) (aE H4 D (.lst (ys++[y]))) else ∃m',m'<m/\W (i+1) m' ys H3):=by
 refine⟨λi m ys H'=>i≤n/\m=n-i/\ys=((M7 i).filter c).map f/\aD H H'/\H' D=some (.lst ys),⟨_,NB _,Z,Z,ai hD _,ag⟩,?_⟩;rintro i m ys H1 ⟨hi,rfl,rfl,s1,d1⟩;by_cases hix:i<n
 ·refine .inr ⟨w.go i H1 hix s1,λx H2 y=>?_⟩;obtain⟨s2,p⟩:=w.yld i H1 x H2 hix s1 y;have d2:=s2 _ _ d1;have len:(((M7 i).filter c).map f).length≤i:=by
   rw[Na];exact NH (On _ _) (by rw[NP];exact Nb _)
  refine turn i x H2 hix (s1.trans s2) p _ _ (λhc H3 s3=>?_) λhc H3 s3=>?_
  ·have d3:=s3 _ _ d2;refine⟨d3,bh (by omega),n-(i+1),by omega,hix,Z,?_,λb o q=>?_,ag⟩
   ·rw[Oq,RI,N5];simp[hc]
   ·rw[aJ (aU q hD)];exact s3 _ _ (s2 _ _ (s1 _ _ q))
  ·refine⟨n-(i+1),by omega,hix,Z,?_,(s1.trans s2).trans s3,s3 _ _ d2⟩;rw[Oq,RI,N5];simp[hc]
 ·have e:i=n:=by omega
  subst e;exact .inl ⟨w.stop H1 s1,fin H1 s1 d1⟩
theorem dJ{α β:Type}(d:α)(p:α->Bool)(f:α->β):∀l:List α,((M7 l.length).filter λi=>p (l.getD i d)).map (λi=>f (l.getD i d))=(l.filter p).map f
 | []=>rfl
 |x::l=>by
  have ih:=dJ d p f l;rw[NU,R1,Sa,Sa];have e:(((M7 l.length).map Nat.succ).filter λi=>p ((x::l).getD i d)).map (λi=>f ((x::l).getD i d))=(l.filter p).map f:=by
   rw[List.filter_map,OE];exact ih
  show(if p x=true then _ else _:List Nat).map _=_
  cases hp:p x with
  |true=>
   simp only[if_true,Ob];rw[e];rfl
  |false=>
   simp only[Oa,if_false];exact e
theorem di{α β:Type}(d:α)(f:α->β)(l:List α):((M7 l.length).filter λ_=>true).map (λi=>f (l.getD i d))=l.map f:=by
 have:=dJ d (λ_=>true) f l;rw[this,Ov.mpr (by intros;rfl)]
theorem ap{α:Type}{l:List α}{i:Nat}{x:α}(d:α)(h:l[i]?=some x):l.getD i d=x:=by rw[Nn,h];rfl
section
variable {prog:NW}{w:Ol}{A:N8}{E:Value->Nf->Prop}{s:Nf}
theorem zF(hl:s.heap.get? l=some { cls:=.type "list",dict:=none,data:=.seq items k,slots:=#[]})
  (hlo:-(2^63:Int)≤x) (hhi:x<2^63) (hsz:items.size*x.toNat≤2^24)
  (h:Q (.ref s.heap.objs.size) { s with heap:=s.heap.push { cls:=.type "list",data:=.seq (WX (λx1 x2=>x1++x2) #[] (ND (if items.isEmpty=true then 0 else x.toNat) items))} }):
  Nv (NJ prog w) A (QX .Mult (.ref l) (.int x u)) Q E s:=
 wpAny_binaryOp_repeat_ref (T := "list") (U := "int") (by decide) ⟨_,hl,Z⟩ (λs'=>WO s' x u) noFill_list_mul F.fills_int_mul F.slot_int_rmul repeat_list F.slot_int_index.lookup
  (Vl F.slot_int_rmul (WO s x u) F.entry_int_rmul (F.args_int_rmul_2 _ _) (int___rmul___int_list x u l items k)
   ⟨hl,Z,⟨_,hl,Z⟩,Vl F.slot_list_mul ⟨_,hl,Z⟩ F.entry_list_mul (F.args_list_mul_2 _ _)
    (AutoListH.list___mul___list_int_3 l items k x u (by simp[NO.List.listFitsIndex];omega) (by omega) (by simp[NO.List.listTooLong,sizeLine];omega))
    ⟨hl,h⟩⟩)
end
theorem rK(u:Value):∀(n:Nat) (acc:Array Value),(WX (λx1 x2=>x1++x2) acc (ND n #[u])).toList=acc.toList++ND n u
 |0,acc=>by simp
 |n+1,acc=>by
  rw[U4,OI,rK u n,U4];simp
theorem qg{v:V}{u:Value}(r:bv v u):∀n:Nat,bE (ND n v) (ND n u)
 |0=>.nil
 |n+1=>.cons r (qg r n)
theorem uR:gK X (QX .Mult) (λx y H Q=>∃(p:Addr) (v:V) (n:Nat),x=.ref p/\y=.int n/\H p=some (.lst [v])/\n≤1000/\∀l,H l=none->Q (.ref l) (aE H l (.lst (ND n v)))):=by
 intro pins s σ H x y xv yv Q I rx ry h;obtain⟨p,v,n,rfl,rfl,hp,hn,q⟩:=h
 cases(show xv=Oy p from rx)
 obtain⟨t,rfl⟩:=(show ∃t,yv=PY n t from ry);obtain⟨_,its,c,rv,e⟩:=(show bW X.prog X.w H s.heap p (.lst [v]) from I.hok p _ hp)
 cases rv with
 | @cons _ u _ _ r0 rr=>
 cases rr
 refine zF e (by omega) (by omega) (by simp;omega) ?_;have el:(WX (λx1 x2=>x1++x2) #[] (ND (if([u]:List Value).toArray.isEmpty=true then 0 else(n:Int).toNat) [u].toArray))=(ND n u).toArray:=by
  apply Array.ext';have:=rK u n #[]
  simpa using this
 rw[el];have I2:Inv X pins σ (aE H s.heap.objs.size (.lst (ND n v))) { s with heap:=s.heap.push { cls:=.type "list",data:=.seq (ND n u).toArray} }:=
  I.laid (t':=s.toks) (λb o e=>Nc _ e) (Nb _) (show bW X.prog X.w _ _ _ (.lst (ND n v)) from⟨by rw[Qm,Tf];omega,ND n u,_,qg r0 n,Nr _ Z⟩)
 exact⟨.ref s.heap.objs.size,_,I2,Z,q _ (I.hok.fresh (Nb _))⟩
theorem mH(hc:X.calm=true):c6 X (.type "list") (λxs H Q=>∃p,∃n:Nat,xs=[.ref p]/\H p=some (.rng 0 n)/\n≤1000/\∀l,H l=none->Q (.ref l) (aE H l (.lst ((upTo n).map V.int)))):=by
 intro pins s σ H xs us Q I r h;obtain⟨p,n,rfl,hp,hn,q⟩:=h;obtain⟨u,rfl,rx⟩:=eS r
 cases rx
 obtain⟨t,u,w,e⟩:=(show bW X.prog X.w H s.heap p (.rng 0 n) from I.hok p _ hp);refine call_list_range (I.ok.hd hc) (show UW s.heap p 0 n 1 t u w from e) (Xg (by omega) (by omega) (by omega) (by omega)) (uK n) (by omega) λh' tk acc c' hk hS hi=>?_
 have rv:=lg hi;have hl:(upTo n).length=n:=by unfold upTo;simp
 have I2:Inv X pins σ (aE H s.heap.objs.size (.lst ((upTo n).map V.int))) { s with heap:=h',toks:=tk}:=
  I.laid (t':=tk) hk (Nb _) (show bW X.prog X.w _ _ _ (.lst ((upTo n).map V.int)) from⟨by rw[Na,hl,Tf];omega,acc.toList,c',rv,by simpa using hS⟩)
 exact⟨.ref s.heap.objs.size,_,I2,Z,q _ (I.hok.fresh (Nb _))⟩
theorem eP{X:Cx}{K:M6}(hK:X.K=K):gK X (Oz .NotIn) (K1 K true):=hK▸gT
theorem k7(t:Nat)(ls:List Nat):vd (.int t) (ls.map λn:Nat=>V.int n)=ls.contains t:=by
 unfold vd;rw[Sx]
 induction ls with
 |nil=>rfl
 |cons a r ih=>
  rw[Pr,Vq,ih]
  congr 1
  show decide (((a:Nat):Int)=(t:Nat))=(t==a);by_cases h:t=a
  ·subst h;simp
  ·rw[beq_eq_false_iff_ne.mpr h];exact decide_eq_false (by omega)
theorem rL(ls:List Nat):(ls.map λn:Nat=>V.int n).all jA=true:=by
 rw[Rp,N4];intro x _;rfl
def Df(ds:List PyData):Prop:=∀e∈ds,e.canLay0=true/\e.depth≤32
def L1(K:M6):R2:=λx y H Q=>∃p xs ds d,y=.ref p/\aV K H p xs/\aZ K H xs ds/\Df ds/\bH K H x d/\d.canLay0=true/\OW d d=true/\Q (.bl (ds.any λe=>OW e d)) H
def Jn(K:M6):R2:=λx y H Q=>∃p xs ds d,y=.ref p/\aV K H p xs/\aZ K H xs ds/\Df ds/\bH K H x d/\d.canLay0=true/\OW d d=true/\Q (.bl (!ds.any λe=>OW e d)) H
def K0(K:M6):R2:=λx y H Q=>∃p xs ds d,y=.ref p/\bC K H p xs/\aZ K H xs ds/\Df ds/\bH K H x d/\d.canLay0=true/\OW d d=true/\Q (.bl (ds.any λe=>OW e d)) H
def Jq(K:M6):V->List V->Hp->VK->Prop:=λx vs H Q=>∃p xs ds w d,x=.ref p/\vs=[w]/\aV K H p xs/\aZ K H xs ds/\Df ds/\bH K H w d/\d.canLay0=true/\OW d d=true/\(∃e∈ds,OW e d=true)∧
 ∀(j:Nat) (e:PyData),ds[j]?=some e->OW e d=true->(∀m f,m<j->ds[m]?=some f->OW f d=false)->Q (.int j) H
def Jo:V->List V->Hp->VK->Prop:=λx vs H Q=>∃(l:Addr) (xs:List V) (j:Nat) (y:V),x=.ref l/\vs=[.int j,y]/\H l=some (.lst xs)/\j≤xs.length/\xs.length<sizeLine/\Q .non (aE H l (.lst (xs.take j++y::xs.drop j)))
mutual
def La:PyData->Bool
 | .int i=>decide (i.natAbs<2^230)
 | .tuple ds=>tU ds
 | .list ds=>tU ds
 | .dict _=>false
 |_=>true
def tU:List PyData->Bool
 | []=>true
 |d::ds=>La d&&tU ds
end
structure Gd(k n:Nat)(d:PyData):Prop where
 sh:Sh k n d
 lay:d.canLay0=true
 bd:La d=true
def II:PyData->R
 | .tuple [.int a,.int b]=>(a,b)
 |_=>(0,1)
def Kb:PyData->R×R
 | .tuple [x,y]=>(II x,II y)
 |_=>sZ
end B
namespace B
open PySem PySem.Spec L2 PyProof.Rows
theorem wV(hc:X.calm=true):c6 X (.builtin "max") (λxs H Q=>∃(p:Addr) (ns:List Int),xs=[.ref p]/\aV X.K H p (ns.map V.int)/\0<ns.length/\∀M,M∈ns->(∀a∈ns,a≤M)->Q (.int M) H):=by
 intro pins s σ H xs us Q I r h;obtain⟨p,ns,rfl,hq,hne,q⟩:=h;obtain⟨u,rfl,rx⟩:=eS r
 cases rx
 obtain⟨its,rv,pl,hz⟩:=I.list hq;have hi:=k6 rv;obtain⟨zs,ez⟩:=hi.allInts.items;have hl:=pl.isList;rw[ez] at hl;have en:numsOf its=ns:=hi.numsOf;rw[show its=its.toArray.toList from Z,ez,Va] at en;have hlen:zs.size=ns.length:=by rw[←en,Na,NZ]
 refine max_intList (I.ok.hd hc) hl (by omega) λv h' tk hv hk=>?_
 obtain⟨t,rfl⟩:=intItems_at hv;obtain⟨h1,h2⟩:=argBest_gt (numAt zs) (zs.size-1);refine⟨.int _,H,I.kept (t':=tk) hk,⟨_,Z⟩,q _ ?_ λa ha=>?_⟩
 ·rw[WY,en];exact getD_mem (by omega)
 ·rw[←en] at ha;obtain⟨j,hj,rfl⟩:=mem_getD ha;rw[Na,NZ] at hj;rw[←WY];exact h2 j (by omega)
theorem nV(hc:X.calm=true):c6 X (.builtin "min") (λxs H Q=>∃(p:Addr) (ns:List Int),xs=[.ref p]/\aV X.K H p (ns.map V.int)/\0<ns.length/\∀M,M∈ns->(∀a∈ns,M≤a)->Q (.int M) H):=by
 intro pins s σ H xs us Q I r h;obtain⟨p,ns,rfl,hq,hne,q⟩:=h;obtain⟨u,rfl,rx⟩:=eS r
 cases rx
 obtain⟨its,rv,pl,hz⟩:=I.list hq;have hi:=k6 rv;obtain⟨zs,ez⟩:=hi.allInts.items;have hl:=pl.isList;rw[ez] at hl;have en:numsOf its=ns:=hi.numsOf;rw[show its=its.toArray.toList from Z,ez,Va] at en;have hlen:zs.size=ns.length:=by rw[←en,Na,NZ]
 refine min_intList (I.ok.hd hc) hl (by omega) λv h' tk hv hk=>?_
 obtain⟨t,rfl⟩:=intItems_at hv;obtain⟨h1,h2⟩:=argBest_lt (numAt zs) (zs.size-1);refine⟨.int _,H,I.kept (t':=tk) hk,⟨_,Z⟩,q _ ?_ λa ha=>?_⟩
 ·rw[WY,en];exact getD_mem (by omega)
 ·rw[←en] at ha;obtain⟨j,hj,rfl⟩:=mem_getD ha;rw[Na,NZ] at hj;rw[←WY];exact h2 j (by omega)
theorem iy{J:It}{H:Hp}{D:Addr}{n:Nat}(Pv:Nat->List V->Hp->Prop){src:List (Option Nat)}{σ:L2.St}{g:TG}{tt:TT}{te:TE}{Q:Hp->Prop}(h0:Pv 0 [] (aE H D (.lst [])))
  (go:∀i ys H',i<n->Pv i ys H'->J.go i H') (stop:∀ys H',Pv n ys H'->J.stop n H'/\Q H')
  (turn:∀i ys H' x H'',i<n->Pv i ys H'->J.yld i H' x H''->∀(R:VK) (E:Hp->Prop),(∀y H4,H4 D=some (.lst ys)->ys.length<sizeLine->Pv (i+1) (ys++[y]) (aE H4 D (.lst (ys++[y])))->R y H4)->(∀H3,Pv (i+1) ys H3->E H3)→
   g x (cJ src σ) H'' λσ2 H2=>fu (cJ src σ) σ2/\tt σ2 H2 λok H3=>if ok=true then te σ2 H3 R else E H3) :
  ∃W:Nat->Nat->List V->Hp->Prop,(∃m,W 0 m [] (aE H D (.lst [])))/\∀i m ys H,W i m ys H->(J.stop i H/\Q H)∨(J.go i H/\∀x H',J.yld i H x H'→
   g x (cJ src σ) H' λσ2 H2=>fu (cJ src σ) σ2/\tt σ2 H2 λok H3=>
    if ok=true then te σ2 H3 λy H4=>H4 D=some (.lst ys)/\ys.length<sizeLine/\∃m',m'<m/\W (i+1) m' (ys++[y]) (aE H4 D (.lst (ys++[y]))) else ∃m',m'<m/\W (i+1) m' ys H3):=by
 refine⟨λi m ys H'=>i≤n/\m=n-i/\Pv i ys H',⟨_,NB _,Z,h0⟩,?_⟩;rintro i m ys H1 ⟨hi,rfl,p⟩;by_cases hix:i<n
 ·refine .inr ⟨go i ys H1 hix p,λx H2 y=>?_⟩;refine turn i ys H1 x H2 hix p y _ _ (λy H4 a b c=>⟨a,b,n-(i+1),by omega,hix,Z,c⟩) λH3 c=>⟨n-(i+1),by omega,hix,Z,c⟩
 ·have e:i=n:=by omega
  subst e;exact .inl (stop ys H1 p)
def JJ(t:TS):TS:=λD σ H=>∃M:L2.St->Hp->Prop,t { D with nx:=M} σ H/\∀σ' H',M σ' H'->D.nx σ' H'
theorem jU{X:Cx}{st:Stmt}{t:TS}(h:QS X st t):QS X st (JJ t):=⟨by
 intro pins s σ H D I q;obtain⟨M,q,k⟩:=q;refine cF (h.p pins s σ H _ I q) λf s' z=>?_
 cases f with
 |next=>obtain⟨σ',H',I',m⟩:=z;exact⟨σ',H',I',k _ _ m⟩
 |brk=>exact z
 |cont=>exact z
 |ret u=>exact z⟩
end B
namespace B
abbrev Ln:=Nat×Nat
inductive iP(es:List Ln):Nat->Nat->Prop where
 |one {a b:Nat} (h:(a,b)∈es):iP es a b
 |step {a b c:Nat} (h:(a,b)∈es) (t:iP es b c):iP es a c
theorem iP.trans(x:iP es a b)(y:iP es b c):iP es a c:=by
 induction x with
 |one h=>exact .step h y
 |step h _ ih=>exact .step h (ih y)
def ur(n:Nat)(es:List Ln):Prop:=∀e∈es,e.1<n/\e.2<n
def Jz(n:Nat)(es:List Ln)(L:Nat->Nat->Bool):Prop:=∀i j,i<n->j<n->(L i j=true↔iP es j i)
def Mf(L:Nat->Nat->Bool)(a b:Nat):Nat->Nat->Bool:=λi j=>L i j||((decide (i=b)||L i b)&&(decide (j=a)||L a j))
theorem C2(n:Nat):Jz n [] (λ_ _=>false):=λi j _ _=>by
 constructor
 ·intro h;cases h
 ·intro h
  cases h with
  |one m=>cases m
  |step m _=>cases m
structure Rx(n:Nat)(es:List Ln)(v:Nat->Int)(ps:Nat->Nat)(r k:Nat)(F:Nat->Int):Prop where
 bas:∀i,i<n->v i≤F i
 att:∀i,i<n->∃j,j<n/\(j=i∨iP es j i)/\F i=v j
 don:∀i,i<n->ps i<r->∀j,j<n->(j=i∨iP es j i)->v j≤F i
 cur:∀m a b,m<k->es[m]?=some (a,b)->ps b≤r->∀j,j<n->(j=a∨iP es j a)->v j≤F b
def LR(F:Nat->Int)(a b:Nat):Nat->Int:=λi=>if i=b then max (F b) (F a) else F i
structure GU(n:Nat)(es:List Ln)(v:Nat->Int)(F:Nat->Int):Prop where
 up:∀i j,i<n->j<n->(j=i∨iP es j i)->v j≤F i
 att:∀i,i<n->∃j,j<n/\(j=i∨iP es j i)/\F i=v j
def Bz(es:List Ln):List Ln:=es.map λe=>(e.2,e.1)
theorem uB:(a,b)∈Bz es↔(b,a)∈es:=by
 unfold Bz;rw[Nu];constructor
 ·rintro⟨⟨x,y⟩,m,e⟩
  cases e
  exact m
 ·exact λm=>⟨_,m,Z⟩
theorem uA:iP (Bz es) a b↔iP es b a:=by
 have f:∀{fs:List Ln} {a b:Nat},iP fs a b->iP (Bz fs) b a:=λ{fs a b} h=>by
  induction h with
  |one m=>exact .one (uB.mpr m)
  |step m _ ih=>exact ih.trans (.one (uB.mpr m))
 have ss:Bz (Bz es)=es:=by unfold Bz;rw[OE];exact List.map_id' _
 exact⟨λh=>by have:=f h;rw[ss] at this;exact this,f⟩
end B
namespace B
open PySem PySem.Spec L2 PyProof.Rows
def Jc(r r' r'':R2)(ta tb tc td:TE):TE:=λσ H Q=>ta σ H λx H1=>tb σ H1 λy H2=>r x y H2 λz H3=>∃k,z=.bl k∧
 (if k=true then tc σ H3 λw' H4=>r' y w' H4 λz' H5=>∃k',z'=.bl k'/\(if k'=true then td σ H5 λu' H6=>r'' w' u' H6 Q else Q (.bl false) H5) else Q (.bl false) H3)
theorem aZ.atN{K:M6}{H:Hp}:∀{xs:List V} {ds:List PyData},aZ K H xs ds->∀{i:Nat} {d:PyData},ds[i]?=some d->∃x,xs[i]?=some x/\bH K H x d
 |_,_,.cons h _,0,d,e=>by
  rw[QF] at e
  cases e
  exact⟨_,Z,h⟩
 |_,_,.cons _ t,i+1,d,e=>aZ.atN t (i:=i) (by rw[QH] at e;exact e)
 |_,_,.nil,_,_,e=>by cases e
section
variable {prog:NW}{w:Ol}{A:N8}{E:Value->Nf->Prop}{s:Nf}
end
def LF(K:M6)(te:TE):TE:=λσ H Q=>te σ H λx H1=>∃a xs,x=.ref a/\bC K H1 a xs/\∀p,H1 p=none->Q (.ref p) (aE H1 p (.tup xs.reverse))
end B
namespace B
theorem rW{b:Int}(h:0<b):(0:Rat)<(b:Rat):=by
 have:=Pz.mpr h;exact this
theorem fO(hr:0<r.2)(hq:0<q.2):bK r q=true↔val r<val q:=by
 rw[AB,←Pz,Oj,Oj];have h1:=rW hr;have h2:=rW hq;have e1:(r.1:Rat)=val r*(r.2:Rat):=by
  have:=dq hr;unfold val;generalize (r.1:Rat)=x at *;generalize (r.2:Rat)=y at *;grind
 have e2:(q.1:Rat)=val q*(q.2:Rat):=by
  have:=dq hq;unfold val;generalize (q.1:Rat)=x at *;generalize (q.2:Rat)=y at *;grind
 rw[e1,e2];generalize val r=x at *;generalize val q=y at *;generalize (r.2:Rat)=u at *;generalize (q.2:Rat)=v at *;have c:0<u*v:=Rat.mul_pos h1 h2;constructor
 ·intro h;have h':x*(u*v)<y*(u*v):=by grind
  by_cases w:x<y
  ·exact w
  ·have z:y≤x:=WZ.mp w;have:=PJ z (QV c);grind
 ·intro h;have:=O6 h c;grind
theorem fX(hr:0<r.2)(hq:0<q.2):bK r q=false↔val q≤val r:=by
 have a:=fO hr hq
 cases c:bK r q with
 |true=>
  have:=a.mp c;constructor
  ·intro z;cases z
  ·intro z;grind
 |false=>
  constructor
  ·intro _;by_cases w:val r<val q
   ·rw[a.mpr w] at c;cases c
   ·exact WZ.mp w
  ·intro _;rfl
end B
namespace B
open PySem PySem.Spec L2 PyProof.Rows
def MZ(zs:List R):Prop:=zs.Pairwise λa b=>bK a b=true
end B
namespace L2
open PySem PySem.Spec PyProof.Rows
structure IN(k:Nat)(A:N8):Prop where
 dp:A.depth+3*k+5<recursionLimit
 un:A.units+16*k+200<cLine
 gd:A.guards=some []
structure Lp(P:NW)(w:Ol)(K:M6)(mg:NV->Option Value)(base:Np)(CX:sg)(k:Nat)(f:Addr)(fd:Nl)(ps:List NV)(sp:Sp):Prop where
 len:∀vs H Q E,sp vs H Q E->vs.length=ps.length
 run:∀(A:N8) (outer:List W6) (s:Nf) (H:Hp) (args:Args) (us:List Value) (vs:List V) (Q:VK) (E:XK),IN k A->Bj P w K mg base A outer s H->Uf s fd args (ps.zip us)->bE vs us->sp vs H Q E→
  RS (NJ P w) A (.call (.ref f) args) (CR CX outer P w H s Q E) s
def MT(CX:sg)(P:NW)(w:Ol)(K:M6)(mg:NV->Option Value)(base:Np)(N:List NV)(qual:NV)(scope:Rt)(f:Addr)(cd:Value)(A:N8)(outer:List W6)(s:Nf)(H:Hp)(E:XK):Cx:={ b6 CX P w K mg base N qual scope f cd A outer s H E with calm:=false}
section
variable {X:Cx}{CX:sg}{k:Nat}{f C:Addr}{fd:Nl}{ps:List NV}{sp:Sp}{dvs:List V}{ds:List Value}{E:XK}{x m:NV}{p pos apos:Q4}{e o:N9}{es:List N9}{ta:TE}{t:TA}
end
section
variable {P:NW}{w:Ol}{K:M6}{mg:NV->Option Value}{base:Np}
end
end L2
namespace B
open PySem PySem.Spec L2 PyProof.Rows
section
set_option autoImplicit true
set_option relaxedAutoImplicit true
end
def IU(d:Addr)(ob:O8)(kvs:List (dz×V)):It:=
 ⟨λi H=>H d=some (.frz ob (.dK kvs))/\i<kvs.length,
  λi H x H'=>∃p k v,H p=none/\x=.ref p/\kvs[i]?=some (k,v)/\H'=aE H p (.tup [kV k,v]),
  λi H=>H d=some (.frz ob (.dK kvs))/\kvs.length≤i⟩
theorem KV.get:∀{kvs:List (dz×V)} {vs:List (dz×Value)},KV kvs vs->∀{i:Nat} {k:dz} {v:V},kvs[i]?=some (k,v)->∃u,vs[i]?=some (k,u)/\bv v u
 |_,_,.nil,i,k,v,h=>by simp at h
 | (a,b)::r,(c,d)::t,.cons h z,0,k,v,e=>by
  have e':(a,b)=(k,v):=by simpa using e
  cases e'
  obtain⟨h1,h2⟩:=h;have h1':a=c:=h1;subst h1';exact⟨d,Z,h2⟩
 |_::r,_::t,.cons h z,i+1,k,v,e=>by
  obtain⟨u,q,w⟩:=KV.get z (i:=i) (by simpa using e);exact⟨u,by simpa using q,w⟩
theorem Ix(h:mf k u=true):bv (kV k) u:=by
 rcases cB h with⟨i,t,rfl,rfl⟩ | ⟨x,t,rfl,rfl⟩
 ·exact⟨t,Z⟩
 ·exact⟨t,Z⟩
theorem Gi:W0 table "dict_itemiterator.__iter__"=some NO.«dict_keyiterator.__iter__»:=
 UP (by kernel_rfl) (by first|rfl|decide +kernel | (unfold String.splitOn;simp +decide [String.splitOnAux])) (by decide +kernel) (by kernel_rfl) (id' := "dict_keyiterator.__iter__")
theorem sq{P:NW}{w:Ol}{K:M6}{elts:List N9}{x1}{pos:Q4}{it d:Addr}{ob:O8}{kvs:List (dz×V)}{es:Array Wc}{ep:Nat}(hob:ob.data=.dict es ep) :
  sd P w K (.Tuple elts x1 pos) (IU d ob kvs) [it] it (λi h=>∃ok ov,IsItemIter h it d i kvs.length ep ok ov) where
 mem:=by simp
 obj:=λi h st c hc=>by
  obtain⟨ok,ov,e⟩:=st;rw[Nm] at hc;subst hc;exact⟨_,e,λv q=>by cases(show Te _=UV v from q)⟩
 keep:=λi h h' ⟨ok,ov,e⟩ k=>⟨ok,ov,k it (by simp) _ e⟩
 item:=by
  intro X hP hw hK hc i pins s σ H E I hf st hg;subst hP hw hK;obtain⟨hd,hi⟩:=hg;obtain⟨ok,ov,e⟩:=st;obtain⟨q0,z,hds,vs,rel,o,es',ep',d1,d2,d3,d4⟩:=(show bW X.prog X.w H s.heap d (.frz ob (.dK kvs)) from I.hok d _ hd);have eo:o=ob:=OB (d1.symm.trans q0);subst eo;rw[hob] at d3
  cases d3
  have dat:s.heap.DictAt (cA X.prog X.w) d vs ep:=⟨o,es,d1,d2,hob,d4⟩;obtain⟨k,v,hkv'⟩:∃k v,kvs[i]?=some (k,v):=⟨(kvs[i]'hi).1,(kvs[i]'hi).2,M8 hi⟩;obtain⟨u,hu,ru⟩:=KV.get rel hkv';have ndi:it≠d:=λq=>by rw[q] at hf;have:=(hf d (by simp)).1;rw[hd] at this;cases this
  have itl:it<s.heap.objs.size:=Nt e;rw[rel.length] at e;refine wpAny_pyNext_items_item e dat hu λkey h1 hkey eo tup hz hk=>⟨_,Z,wpAny_letOwnedTupleGo_items eo λh2 e2 sb=>?_⟩
  have nt:s.heap.objs.size≠it:=Qt itl;have P:bW X.prog X.w (aE H s.heap.objs.size (.tup [kV k,v])) h2 s.heap.objs.size (.tup [kV k,v]):=
   ⟨by show 2≤sizeLine;decide,[key,u],.cons (Ix hkey) (.cons ru .nil),⟨_,sb.extBut _ _ nt tup,Z,_,Z⟩⟩
  have I2:Inv X pins σ (aE H s.heap.objs.size (.tup [kV k,v])) { s with heap:=h2,toks:=s.toks}:=oy I (λc o' n q=>by
   have n':c≠it:=λr=>n (by simp[r])
   exact sb.extBut _ _ n' (hk c o' n' q)) hf (Nb _) P
  refine⟨.ref s.heap.objs.size,_,I2,Z,⟨_,k,v,I.fresh,Z,hkv',Z⟩,⟨key,u,by rw[rel.length];exact e2⟩,λc hc=>?_⟩;have hc':c=it:=by simpa using hc
  rw[hc',aJ (Qs nt)];exact(hf it (by simp)).1
 done:=by
  intro X hP hw hK hc i pins s σ H E I hf st hg;subst hP hw hK;obtain⟨hd,hi⟩:=hg;obtain⟨ok,ov,e⟩:=st;obtain⟨q0,z,hds,vs,rel,o,es',ep',d1,d2,d3,d4⟩:=(show bW X.prog X.w H s.heap d (.frz ob (.dK kvs)) from I.hok d _ hd);have eo:o=ob:=OB (d1.symm.trans q0);subst eo;rw[hob] at d3
  cases d3
  have dat:s.heap.DictAt (cA X.prog X.w) d vs ep:=⟨o,es,d1,d2,hob,d4⟩;have hh:X.A.in1.handled=none:=I.ok.hd hc;rw[rel.length] at e hi;refine wpAny_pyNext_items_end hh e dat (NX hi) λh1 ex=>⟨Z,?_⟩
  exact oz (t':=s.toks) I (λc o' n q=>ex c o' (λr=>n (by simp[r])) q) hf
 self:=λA i s Q E st h=>by
  obtain⟨ok,ov,e⟩:=st;have hT:s.TypeIs (.ref it) "dict_itemiterator" := ⟨_,e,Z⟩;refine Tn hT RE (OA RE hT Gi ?_ (PySem.F.args_dict_itemiterator_iter_1 _));show Nv _ _ (ret (.ref it)) _ _ s;exact Nj ⟨_,Z,"dict_itemiterator",_,hT,PySem.F.slot_dict_itemiterator_next.lookup,h⟩
def AO(td:TE):TI:=λσ H R=>td σ H λx H1=>∃d kvs,x=.ref d/\H1 d=some (.dK kvs)/\∀ob,R (IU d ob kvs) (aE H1 d (.frz ob (.dK kvs)))
theorem z9{X:Cx}{elts:List N9}{x1}{tp apos pos:Q4}{o:N9}{td:TE}(ho:PE X o td)(hb:RB o "items" X.env (eval o X.env)=eval o X.env:=by rfl)(hl:(apos.endLine==pos.line)=true:=by rfl) :
  PI X (.Tuple elts x1 tp) (.Call (.Attribute o "items" apos) [] [] pos) (AO td):=by
 intro pins s σ H R I h;refine VN (T := "dict") (id := "dict.items") hb Z hl TN TQ PySem.F.type_dict_items (cF (ho pins s σ H _ I h) λu s1 ⟨x,H1,I1,rx,d,kvs,ex,e,q⟩=>?_);subst ex;obtain rfl:u=Oy d:=rx;obtain⟨z,hds,vs,rel,dd⟩:=DK I1.hok e;obtain⟨t1,t2,_⟩:=AM I1 (.inl ⟨kvs,.inl e⟩);refine⟨t1,t2,?_⟩;show Nv _ _ (callWith pos (.builtin "dict.items") [.ref d] [] []) _ _ _;refine method_meetsIn TQ PySem.F.entry_dict_items Z (PySem.evalArgs_none ⟨Z,t1,PySem.F.args_dict_items_1 _,_,meets_dict_items (cA X.prog X.w) d hds,⟨vs,dd⟩,?_⟩);obtain⟨o',es,ep,d1,d2,d3,d4⟩:=id dd;have dat:s1.heap.DictAt (cA X.prog X.w) d vs ep:=⟨o',es,d1,d2,d3,d4⟩;refine wpAny_pyIter_items (d:=d) (kvs:=vs) (ep:=ep) ⟨_,Nr _ Z,Z,Z⟩ (dat.push _) ?_;have sz:(s1.heap.push { cls:=.type "dict_items",data:=.fields #[.ref d]}).objs.size=s1.heap.objs.size+1:=O9 ..;have I2:=I1.kept (t':=s1.toks) (h':=(s1.heap.push { cls:=.type "dict_items",data:=.fields #[.ref d]}).push { cls:=.type "dict_itemiterator",data:=.fields #[.none,.bool false,.ref d,.int 0 0,.int vs.length 0,.int ep 0,.none,.none]}) λb o q=>Nc _ (Nc _ q)
 have hit:=Nr (s1.heap.push { cls:=.type "dict_items",data:=.fields #[.ref d]}) (o:={ cls:=.type "dict_itemiterator",data:=.fields #[.none,.bool false,.ref d,.int 0 0,.int vs.length 0,.int ep 0,.none,.none]}) Z;have dl:d<s1.heap.objs.size:=Nt d1;have k2:∀b o,s1.heap.get? b=some o->((s1.heap.push { cls:=.type "dict_items",data:=.fields #[.ref d]}).push { cls:=.type "dict_itemiterator",data:=.fields #[.none,.bool false,.ref d,.int 0 0,.int vs.length 0,.int ep 0,.none,.none]}).get? b=some o:=λb o q=>Nc _ (Nc _ q)
 generalize (s1.heap.push { cls:=.type "dict_items",data:=.fields #[.ref d]}).push { cls:=.type "dict_itemiterator",data:=.fields #[.none,.bool false,.ref d,.int 0 0,.int vs.length 0,.int ep 0,.none,.none]}=hE at I2 hit k2 ⊢;rw[sz] at hit ⊢;have I3:=pN (h':=hE) (t':=s1.toks) (ob:=.frz o' (.dK kvs)) I2 (by rw[e];exact QQ) ⟨Z,λ_ _=>Z⟩ ⟨_,k2 _ _ d1⟩ ⟨k2 _ _ d1,z,hds,vs,rel,o',es,ep,k2 _ _ d1,d2,d3,d4⟩;have nd:s1.heap.objs.size+1≠d:=Qt (OM dl);refine⟨_,[s1.heap.objs.size+1],_,_,_,Z,I3,sq d3,⟨.none,.none,by rw[rel.length];exact hit⟩,λc hc=>?_,q o'⟩;have hc':c=s1.heap.objs.size+1:=by simpa using hc
 subst hc';exact I1.fpOk (O4 _) (by rw[aJ nd];exact I1.hok.fresh (O4 _))
theorem nP{d:Addr}{ob:O8}{kvs:List (dz×V)}{g:TG}{tb:TS}{D:i7}{σ:L2.St}{H:Hp}(Pv:Nat->L2.St->Hp->Prop)(h0:Pv 0 σ H)
  (hl:∀i σ H,Pv i σ H->H d=some (.frz ob (.dK kvs)))
  (hs:∀i k v p σ H,kvs[i]?=some (k,v)->Pv i σ H->H p=none->g (.ref p) σ (aE H p (.tup [kV k,v])) λσ2 H2=>tb { D with nx:=Pv (i+1),ct:=Pv (i+1),bk:=D.nx} σ2 H2) (hd:∀σ H,Pv kvs.length σ H->D.nx σ H) :
  ∃W:Nat->Nat->L2.St->Hp->Prop,(∃m,W 0 m σ H)/\∀i m σ H,W i m σ H→
   ((IU d ob kvs).stop i H/\D.nx σ H)∨((IU d ob kvs).go i H/\∃N:L2.St->Hp->Prop,(∀σ' H',N σ' H'->∃m',m'<m/\W (i+1) m' σ' H')/\∀x H',(IU d ob kvs).yld i H x H'->g x σ H' λσ2 H2=>tb { D with nx:=N,ct:=N,bk:=D.nx} σ2 H2):=by
 refine⟨λi m σ H=>m=kvs.length-i/\i≤kvs.length/\Pv i σ H,⟨_,Z,NB _,h0⟩,?_⟩;rintro i m σ H ⟨rfl,hi,p⟩;have q:=hl i σ H p;by_cases hlt:i<kvs.length
 ·refine .inr ⟨⟨q,hlt⟩,Pv (i+1),λσ' H' p'=>⟨kvs.length-(i+1),by omega,Z,hlt,p'⟩,λx H' y=>?_⟩;obtain⟨pp,k,v,hp,rfl,hkv,rfl⟩:=y;exact hs i k v pp σ _ hkv p hp
 ·have e:i=kvs.length:=by omega
  subst e;exact .inl ⟨⟨q,Nb _⟩,hd σ H p⟩
def m4(ps:List (Int×Int)):List (dz×V):=ps.map λp=>(Ps p.1,V.int p.2)
def su:List (Int×Int)->Int->Int
 | [],_=>0
 | (c,u)::r,b=>if c=b then u else su r b
def gH:List (Int×Int)->Int->Int->List (Int×Int)
 | [],b,t=>[(b,0+t)]
 | (c,u)::r,b,t=>if c=b then(c,u+t)::r else(c,u)::gH r b t
theorem zS{p:dz×V}(e:p.1=k)(n:∀q∈r,q.1≠k):gR (p:: r) k v=(k,v):: r:=by
 unfold gR;rw[if_pos (by simp[e]),Ob,if_pos e,e]
 congr 1
 exact(Rw (g:=id) (λq hq=>by rw[if_neg (n q hq)];rfl)).trans (Ww r)
theorem v6{p:dz×V}(e:¬p.1=k):gR (p:: r) k v=p:: gR r k v:=by
 unfold gR;rw[Pr,decide_eq_false e,Tu]
 split
 ·rw[Ob,if_neg e]
 ·rfl
theorem pJ:∀(ps:List (Int×Int)) (b:Int),(jL (m4 ps) (Ps b)).getD (V.int 0)=V.int (su ps b)
 | [],b=>rfl
 | (c,u)::r,b=>by
  show(jL ((Ps c,V.int u)::m4 r) (Ps b)).getD (V.int 0)=V.int (if c=b then u else su r b);by_cases e:c=b
  ·rw[if_pos e,je (by rw[e])];rfl
  ·rw[if_neg e,jf (λz=>e (by injection z)),pJ r b]
theorem o5:∀(ps:List (Int×Int)) (b t:Int),(ps.map (·.1)).Nodup->gR (m4 ps) (Ps b) (V.int (su ps b+t))=m4 (gH ps b t)
 | [],b,t,_=>rfl
 | (c,u)::r,b,t,nd=>by
  have nd':=Ot.mp nd;show gR ((Ps c,V.int u)::m4 r) (Ps b) (V.int ((if c=b then u else su r b)+t))=m4 (if c=b then(c,u+t)::r else(c,u)::gH r b t);by_cases e:c=b
  ·rw[if_pos e,if_pos e,zS (by rw[e]) (λq hq z=>?_)]
   ·show _=(Ps c,V.int (u+t))::m4 r;rw[e]
   ·obtain⟨p,hp,rfl⟩:=Nu.mp hq;have z':p.1=b:=by injection z
    exact nd'.1 (Nu.mpr ⟨p,hp,z'.trans e.symm⟩)
  ·rw[if_neg e,if_neg e,v6 (λz=>e (by injection z)),o5 r b t nd'.2];rfl
def iU:List (Int×Int)->Rat
 | []=>0
 |p::r=>(p.2:Rat)/(p.1:Rat)+iU r
theorem Db{a b c:Rat}:(a+b)/c=a/c+b/c:=by rw[RL,RL,RL,Rat.add_mul]
theorem lC:∀(ps:List (Int×Int)) (b t:Int),iU (gH ps b t)=iU ps+(t:Rat)/(b:Rat)
 | [],b,t=>by
  show((0+t:Int):Rat)/(b:Rat)+0=0+(t:Rat)/(b:Rat);rw[PP];grind
 | (c,u)::r,b,t=>by
  show iU (if c=b then(c,u+t)::r else(c,u)::gH r b t)=(u:Rat)/(c:Rat)+iU r+(t:Rat)/(b:Rat);by_cases e:c=b
  ·rw[if_pos e];show((u+t:Int):Rat)/(c:Rat)+iU r=_;rw[Sr,Db,e];grind
  ·rw[if_neg e];show(u:Rat)/(c:Rat)+iU (gH r b t)=_;rw[lC r b t];grind
theorem jM:∀(ps:List (Int×Int)) (p:Int×Int),iU (ps++[p])=iU ps+(p.2:Rat)/(p.1:Rat)
 | [],p=>by show(p.2:Rat)/(p.1:Rat)+0=0+_;grind
 |q::r,p=>by
  show(q.2:Rat)/(q.1:Rat)+iU (r++[p])=(q.2:Rat)/(q.1:Rat)+iU r+_;rw[jM r p];grind
structure mP(n i:Nat)(ps:List (Int×Int)):Prop where
 nd:(ps.map (·.1)).Nodup
 len:ps.length≤i
 bot:∀p∈ps,0<p.1/\p.1.natAbs<2^n
 top:∀p∈ps,p.2.natAbs≤i*2^n
theorem mO:∀(ps:List (Int×Int)) (b t:Int) (c:Int),c∈(gH ps b t).map (·.1)↔c∈ps.map (·.1)∨c=b
 | [],b,t,c=>by simp[gH]
 | (d,u)::r,b,t,c=>by
  show c∈(if d=b then(d,u+t)::r else(d,u)::gH r b t).map (·.1)↔_;by_cases e:d=b
  ·rw[if_pos e];constructor
   ·intro h;exact .inl h
   ·rintro (h|h)
    ·exact h
    ·exact Nq.mpr (.inl (h.trans e.symm))
  ·rw[if_neg e,Ob,Ob,Nq,Nq,mO r b t c];exact or_assoc.symm
theorem Be:∀(ps:List (Int×Int)) (b t:Int),(ps.map (·.1)).Nodup->((gH ps b t).map (·.1)).Nodup
 | [],b,t,_=>by simp[gH]
 | (d,u)::r,b,t,nd=>by
  have nd':=Ot.mp nd;show((if d=b then(d,u+t)::r else(d,u)::gH r b t).map (·.1)).Nodup;by_cases e:d=b
  ·rw[if_pos e];exact nd
  ·rw[if_neg e,Ob,Ot];refine⟨λz=>?_,Be r b t nd'.2⟩;rcases(mO r b t d).mp z with h|h
   ·exact nd'.1 h
   ·exact e h
theorem vD:∀(ps:List (Int×Int)) (b t:Int),(gH ps b t).length≤ps.length+1
 | [],b,t=>Nb 1
 | (d,u)::r,b,t=>by
  show(if d=b then(d,u+t)::r else(d,u)::gH r b t).length≤_
  split
  ·exact O4 _
  ·exact R9 (vD r b t)
theorem vC:∀(ps:List (Int×Int)) (b t:Int) (M N:Nat),(∀p∈ps,p.2.natAbs≤M)->t.natAbs≤N->∀p∈gH ps b t,p.2.natAbs≤M+N
 | [],b,t,M,N,_,ht,p,hp=>by
  have e:p=(b,0+t):=by simpa [gH] using hp
  rw[e];show(0+t).natAbs≤M+N;omega
 | (d,u)::r,b,t,M,N,h,ht,p,hp=>by
  have hu:u.natAbs≤M:=h (d,u) Ng;have hr:∀q∈r,q.2.natAbs≤M:=λq hq=>h q (No _ hq)
  have hp':p∈(if d=b then(d,u+t)::r else(d,u)::gH r b t):=hp
  split at hp'
  ·rcases Nq.mp hp' with e|e
   ·rw[e];show(u+t).natAbs≤M+N;omega
   ·have:=hr p e;omega
  ·rcases Nq.mp hp' with e|e
   ·rw[e];show u.natAbs≤M+N;omega
   ·exact vC r b t M N hr ht p e
theorem mP.add(h:mP n i ps)(w:Wf n r):mP n (i+1) (gH ps r.2 r.1) where
 nd:=Be ps r.2 r.1 h.nd
 len:=NH (vD ps r.2 r.1) (R9 h.len)
 bot:=λp hp=>by
  rcases(mO ps r.2 r.1 p.1).mp (Nu.mpr ⟨p,hp,Z⟩) with z|z
  ·obtain⟨q,hq,e⟩:=Nu.mp z;rw[←e];exact h.bot q hq
  ·rw[z];exact⟨w.pos,w.bot⟩
 top:=λp hp=>by
  have:=vC ps r.2 r.1 (i*2^n) (2^n) h.top (Pb w.top) p hp;rw[Wv,UK];exact this
theorem mP.nil(n:Nat):mP n 0 []:=⟨PV,Nb _,(λ_ h=>nomatch h),(λ_ h=>nomatch h)⟩
theorem mP.wf(h:mP n i ps)(hi:i≤255)(hp:p∈ps):Wf (n+8) (dZ p.2 p.1):=by
 refine tL (h.bot p hp).1 ?_ (NE (h.bot p hp).2 (PR (by decide) (by omega)));have a:=h.top p hp;have b:i*2^n≤255*2^n:=Rh _ hi;have c:0<2^n:=Nat.pow_pos (by decide);rw[Nat.pow_add];omega
def iS:List R->Rat
 | []=>0
 |r::t=>val r+iS t
theorem jJ:∀(rs:List R) (r:R),iS (rs++[r])=iS rs+val r
 | [],r=>by show val r+0=0+val r;grind
 |q::t,r=>by show val q+iS (t++[r])=val q+iS t+val r;rw[jJ t r];grind
theorem qj:∀(rs:List R) (acc:R),hU acc->(∀r∈rs,hU r)->hU (rs.foldl bF acc)/\val (rs.foldl bF acc)=val acc+iS rs
 | [],acc,ha,_=>⟨ha,by show val acc=val acc+0;grind⟩
 |r::t,acc,ha,h=>by
  have hr:=h r Ng;obtain⟨a,b⟩:=qj t (bF acc r) (zZ ha hr) λq hq=>h q (No _ hq)
  refine⟨a,?_⟩;rw[OI,b,ia ha.pos hr.pos];show val acc+val r+iS t=val acc+(val r+iS t);grind
theorem gM:val (0,1)=0:=by decide +kernel
theorem tf:hU (0,1):=⟨by decide,by decide⟩
theorem iB(h:∀r∈rs,hU r):hU (cO rs)/\val (cO rs)=iS rs:=by
 obtain⟨a,b⟩:=qj rs (0,1) tf h;refine⟨a,b.trans ?_⟩;rw[gM];grind
theorem xV(h:∀r∈rs,hU r)(hx:hU x)(e:val x=iS rs):x=cO rs:=
 fY hx (iB h).1 (e.trans (iB h).2.symm)
theorem Wf.red(h:Wf n r):hU r:=⟨h.pos,h.cop⟩
theorem uD(n:Nat):∀(rs:List R) (m:Nat) (acc:R),Wf m acc->(∀r∈rs,Wf n r)->Wf (m+(n+1)*rs.length) (rs.foldl bF acc)
 | [],m,acc,ha,_=>ha
 |r::t,m,acc,ha,h=>by
  refine(uD n t (m+n+1) (bF acc r) (js ha (h r Ng)) λq hq=>h q (No _ hq)).mono ?_;rw[NU,Ro];omega
theorem uC(h:∀r∈rs,Wf n r):Wf (1+(n+1)*rs.length) (cO rs):=uD n rs 1 (0,1) gL h
section
set_option autoImplicit true
set_option relaxedAutoImplicit true
theorem zQ   : QE X (.Dict [] [] pos) xR:=⟨Ah ⟩
theorem zR(hu:X.A.units+1<cLine)(ho:QE X o td)(he:QE X e ty)(hf:QE X f tx)(m:M2 X o "get" apos e f cpos):QE X (.Call (.Attribute o "get" apos) [e,f] [] cpos) (xS td ty tx):=⟨Ai hu ho.p he.p hf.p m⟩
theorem B0(hu:X.A.units+1<cLine)(ho:QE X o td)(hi:QE X i ty)(hv:QE X value tv)(hs:Q3 value (some (.Subscript o i pos')) pos.line X.env=Pq false):QS X (.Assign [.Subscript o i pos'] value pos) (Ds td ty tv):=⟨Cb hu ho.p hi.p hv.p hs⟩
theorem zN{X:Cx}{elts:List N9}{x1}{tp apos pos:Q4}{o:N9}{td:TE}(ho:QE X o td)(hb:RB o "items" X.env (eval o X.env)=eval o X.env:=by rfl)(hl:(apos.endLine==pos.line)=true:=by rfl):QI X (.Tuple elts x1 tp) (.Call (.Attribute o "items" apos) [] [] pos) (AO td):=⟨z9 ho.p hb hl⟩
end
end B
namespace B
abbrev Pl:=Nat×Nat
def bL(p:Pl):Int:=(p.2:Int)-p.1+1
def ki(p q:Pl):Prop:=p.1<q.1∨(p.1=q.1/\q.2≤p.2)
structure kx(S:Pl->Prop)(L:Pl->Int)(p:Pl):Prop where
 inn:S p
 all:∀q,S q->L q*bL p<L p*bL q∨(L q*bL p=L p*bL q/\ki p q)
def gl(n:Nat)(p:Pl):Prop:=p.1≤p.2/\p.2<n
theorem gl.pos(h:gl n p):0<bL p:=by unfold bL;have:=h.1;omega
theorem kx.uniq(a:kx S L p)(b:kx S L q):p=q:=by
 have h1:=a.all q b.inn;have h2:=b.all p a.inn;rcases h1 with h1 | ⟨h1,o1⟩
 ·rcases h2 with h2 | ⟨h2,_⟩<;>omega
 ·rcases h2 with h2 | ⟨_,o2⟩
  ·omega
  ·unfold ki at o1 o2;apply Xs<;>omega
theorem kx.scale(ha:0<a)(hb:0<b)(e:∀q,M q*a=L q*b)(h:kx S L p):kx S M p:=by
 refine⟨h.inn,λq hq=>?_⟩;have k1:(M q*bL p)*a=(L q*bL p)*b:=by rw[Ou,e,Ou]
 have k2:(M p*bL q)*a=(L p*bL q)*b:=by rw[Ou,e,Ou]
 rcases h.all q hq with z | ⟨z,o⟩
 ·refine .inl (Ri (a:=a) ?_ (Ox ha));rw[k1,k2];exact Q8 z hb
 ·refine .inr ⟨Qi (Int.ne_of_gt ha) ?_,o⟩;rw[k1,k2,z]
theorem CW{l p q lr lp lq:Int}(hr:0<lr)(hp:0<lp)(hq:0<lq)(h1:l*lp≤p*lr)(h2:p*lq<q*lp):l*lq<q*lr:=by
 refine Ri (a:=lp) ?_ (Ox hp);have a1:l*lq*lp=l*lp*lq:=Ou _ _ _;have a2:q*lr*lp=q*lp*lr:=Ou _ _ _;have b1:l*lp*lq≤p*lr*lq:=Sb h1 (Ox hq);have b2:p*lr*lq=p*lq*lr:=Ou _ _ _;have b3:p*lq*lr<q*lp*lr:=Q8 h2 hr;omega
theorem CY{l p q lr lp lq:Int}(hr:0<lr)(hp:0<lp)(hq:0<lq)(h1:l*lp<p*lr)(h2:p*lq≤q*lp):l*lq<q*lr:=by
 refine Ri (a:=lp) ?_ (Ox hp);have a1:l*lq*lp=l*lp*lq:=Ou _ _ _;have a2:q*lr*lp=q*lp*lr:=Ou _ _ _;have b1:l*lp*lq<p*lr*lq:=Q8 h1 hq;have b2:p*lr*lq=p*lq*lr:=Ou _ _ _;have b3:p*lq*lr≤q*lp*lr:=Sb h2 (Ox hr);omega
theorem CZ{l p q lr lp lq:Int}(hp:0<lp)(h1:l*lp=p*lr)(h2:p*lq=q*lp):l*lq=q*lr:=by
 refine Qi (a:=lp) (Int.ne_of_gt hp) ?_;have a1:l*lq*lp=l*lp*lq:=Ou _ _ _;have a2:q*lr*lp=q*lp*lr:=Ou _ _ _;have b2:p*lr*lq=p*lq*lr:=Ou _ _ _;rw[a1,a2,h1,b2,h2]
theorem kx.more(h:kx S L p)(st:∀r,S' r->gl n r)(e:∀r,S' r↔S r∨r=q)(gt:L p*bL q<L q*bL p):kx S' L q:=by
 have iq:S' q:=(e q).mpr (.inr Z);have ip:S' p:=(e p).mpr (.inl h.inn);refine⟨iq,λr hr=>?_⟩;rcases(e r).mp hr with z|z
 ·refine .inl (CW (st r hr).pos (st p ip).pos (st q iq).pos ?_ gt);rcases h.all r z with z | ⟨z,_⟩
  ·exact Ox z
  ·exact Int.le_of_eq z
 ·subst z;exact .inr ⟨Z,.inr ⟨Z,Nb _⟩⟩
theorem kx.stay(h:kx S L p)(e:∀r,S' r↔S r∨r=q)(le:L q*bL p≤L p*bL q)(o:ki p q∨L q*bL p≠L p*bL q):kx S' L p:=by
 refine⟨(e p).mpr (.inl h.inn),λr hr=>?_⟩;rcases(e r).mp hr with z|z
 ·exact h.all r z
 ·subst z;by_cases c:L r*bL p=L p*bL r
  ·rcases o with o|o
   ·exact .inr ⟨c,o⟩
   ·exact absurd c o
  ·exact .inl (by omega)
theorem kx.longer(h:kx S L p)(st:∀r,S' r->gl n r)(e:∀r,S' r↔S r∨r=q)(eq:L q*bL p=L p*bL q)(b:q.1=p.1)(l:p.2≤q.2):kx S' L q:=by
 have iq:S' q:=(e q).mpr (.inr Z);have ip:S' p:=(e p).mpr (.inl h.inn);refine⟨iq,λr hr=>?_⟩;rcases(e r).mp hr with z|z
 ·rcases h.all r z with z | ⟨z,o⟩
  ·exact .inl (CY (st r hr).pos (st p ip).pos (st q iq).pos z (Int.le_of_eq eq.symm))
  ·refine .inr ⟨CZ (st p ip).pos z eq.symm,?_⟩;unfold ki at o ⊢;omega
 ·subst z;exact .inr ⟨Z,.inr ⟨Z,Nb _⟩⟩
theorem kx.congr(h:kx S L p)(e:∀r,S' r↔S r):kx S' L p:=⟨(e p).mpr h.inn,λq hq=>h.all q ((e q).mp hq)⟩
def gI(n b e:Nat)(p:Pl):Prop:=gl n p/\(p.1<b∨(p.1=b/\e≤p.2))
def fV(n b e:Nat)(p:Pl):Prop:=gl n p/\(p.1<b∨(p.1=b/\p.2<e))
theorem sP(h1:b≤e)(h2:e<n)(r:Pl):gI n b e r↔gI n b (e+1) r∨r=(b,e):=by
 obtain⟨x,y⟩:=r;unfold gI gl;rw[Tw];show(x≤y/\y<n)/\_↔((x≤y/\y<n)/\_)∨_;simp only;omega
theorem sN(h1:b≤e)(h2:e<n)(r:Pl):fV n b (e+1) r↔fV n b e r∨r=(b,e):=by
 obtain⟨x,y⟩:=r;unfold fV gl;rw[Tw];simp only;omega
theorem sR(r:Pl):gI n (b+1) n r↔gI n b b r:=by
 obtain⟨x,y⟩:=r;unfold gI gl;simp only;omega
theorem sO(r:Pl):fV n (b+1) (b+1) r↔fV n b n r:=by
 obtain⟨x,y⟩:=r;unfold fV gl;simp only;omega
theorem vW(r:Pl):gl n r↔gI n n n r:=by
 obtain⟨x,y⟩:=r;unfold gI gl;simp only;omega
theorem nE(r:Pl):gl n r↔fV n n n r:=by
 obtain⟨x,y⟩:=r;unfold fV gl;simp only;omega
abbrev Wn:=Option (Nat×Nat)
def eZ(b e:Nat):Wn->Bool
 |none=>false
 |some (x,y)=>decide (b≤x)&&decide (y≤e)
def bS(ws:List Wn)(p:Pl):List Nat:=(M7 ws.length).filter λi=>eZ p.1 p.2 (ws.getD i none)
def dy(ws:List Wn)(A:Nat->Int)(p:Pl):Int:=((bS ws p).map A).sum
theorem iV{A:Nat->Int}(h:∀i,0≤A i):∀l:List Nat,0≤(l.map A).sum
 | []=>Qd _
 |x::l=>by
  rw[Ob,Qe];have:=h x;have:=iV h l;omega
theorem nA{A C:Nat->Int}{a b:Int}:∀l:List Nat,(∀i∈l,C i*a=A i*b)->(l.map C).sum*a=(l.map A).sum*b
 | [],_=>by simp
 |x::l,h=>by
  rw[Ob,Qe,Ob,Qe,UN,UN,h x Ng,nA l λi hi=>h i (No _ hi)]
end B
namespace B
open PySem PySem.Spec L2 PyProof.Rows
def cQ(ns:List Int):List Int:=ns.foldl PL []
theorem tj(ns:List Int):(M7 ns.length).map (λi=>ns.getD i 0)=ns:=by
 apply Wj
 ·simp
 ·intro i h1 h2;rw[TR,Vr,Nn,M8 h2];rfl
theorem rM(ns:List Int):VQ (λi=>ns.getD i 0) ns.length=cQ ns:=by
 unfold VQ cQ;rw[tj]
theorem fb:∀(ns σ:List Int),σ.Nodup->(ns.foldl PL σ).Nodup/\(∀k,k∈ns.foldl PL σ↔k∈σ∨k∈ns)/\(ns.foldl PL σ).length≤σ.length+ns.length∧
  ((ns.foldl PL σ).length=σ.length+ns.length↔(σ++ns).Nodup)
 | [],σ,h=>⟨h,λk=>by simp,by simp,by simp[h]⟩
 |n::ns,σ,h=>by
  rw[OI];by_cases c:σ.any (·==n)=true
  ·have e:PL σ n=σ:=by unfold PL;rw[if_pos c]
   rw[e];obtain⟨a1,a2,a3,a4⟩:=fb ns σ h;have hm:n∈σ:=by
    obtain⟨x,hx,q⟩:=Sc.mp c;rw[←show x=n from by simpa using q];exact hx
   refine⟨a1,λk=>?_,by rw[NU];omega,?_⟩
   ·rw[a2,Nq];constructor
    ·rintro (h|h)
     ·exact .inl h
     ·exact .inr (.inr h)
    ·rintro (h|h|h)
     ·exact .inl h
     ·rw[h];exact .inl hm
     ·exact .inr h
   ·constructor
    ·intro q;rw[NU] at q;omega
    ·intro q;exact absurd Z ((OC.mp q).2.2 n hm n Ng)
  ·have e:PL σ n=σ++[n]:=by unfold PL;rw[if_neg c]
   rw[e];have hm:n∉σ:=λhx=>c (Sc.mpr ⟨n,hx,by simp⟩)
   have h':(σ++[n]).Nodup:=OC.mpr ⟨h,by simp,λa ha b hb=>by
    rw[Nm] at hb;intro z;rw[z,hb] at ha;exact hm ha⟩
   obtain⟨a1,a2,a3,a4⟩:=fb ns (σ++[n]) h';refine⟨a1,λk=>?_,?_,?_⟩
   ·rw[a2,NF,Nm,Nq,or_assoc]
   ·rw[NL,Q5] at a3;rw[NU];omega
   ·rw[NL,Q5,Q9] at a4;rw[←show [n]++ns=n::ns from Z,←a4,NL,Q5];omega
theorem mX(ns:List Int):(cQ ns).Nodup:=(fb ns [] (by simp)).1
theorem rn(ns:List Int)(k:Int):k∈cQ ns↔k∈ns:=by
 have:=(fb ns [] (by simp)).2.1 k;unfold cQ
 simpa using this
theorem tI(ns:List Int):(cQ ns).length≤ns.length:=by
 have:=(fb ns [] (by simp)).2.2.1;unfold cQ
 simpa using this
def KY(K:M6):List V->Hp->VK->Prop:=λxs H Q=>∃p ns,xs=[.ref p]/\aV K H p (ns.map V.int)/\ns.length≤1000/\∀l,H l=none->Q (.ref l) (aE H l (.set (λk=>(cQ ns).any (·==k)) (cQ ns).length))
def KZ:List V->Hp->VK->Prop:=λxs H Q=>∃p S n,xs=[.ref p]/\H p=some (.set S n)/\Q (.int n) H
def ke(xs:Array Nat):Prop:=∀i j (_:i<j) (hj:j<xs.size),xs[i]'(by omega)<xs[j]
theorem mK{xs:Array Nat}{j:Nat}:∀(fuel lo hi:Nat),lo≤hi->hi≤xs.size->hi-lo≤fuel->ke xs->(∀i (h:i<xs.size),i<lo->xs[i]<j)->(∀i (h:i<xs.size),hi≤i->j≤xs[i])→
  lo≤SetTable.below.go xs j fuel lo hi/\SetTable.below.go xs j fuel lo hi≤hi/\(∀i (h:i<xs.size),i<SetTable.below.go xs j fuel lo hi->xs[i]<j)/\(∀i (h:i<xs.size),SetTable.below.go xs j fuel lo hi≤i->j≤xs[i])
 |0,lo,hi,h1,h2,h3,_,a,b=>by
  unfold SetTable.below.go;exact⟨Nb _,h1,a,λi h q=>b i h (by omega)⟩
 |fuel+1,lo,hi,h1,h2,h3,R,a,b=>by
  unfold SetTable.below.go;by_cases c:lo<hi
  ·rw[if_pos c];have hm:(lo+hi)/2<xs.size:=by omega
   have e:xs.getD ((lo+hi)/2) j=xs[(lo+hi)/2]:=by simp[SU,hm]
   dsimp only;rw[e];by_cases d:xs[(lo+hi)/2]<j
   ·rw[if_pos d];obtain⟨c1,c2,c3,c4⟩:=mK fuel ((lo+hi)/2+1) hi (by omega) h2 (by omega) R (λi h q=>by
     by_cases z:i=(lo+hi)/2
     ·subst z;exact d
     ·exact Rm (R i ((lo+hi)/2) (by omega) hm) d) b
    exact⟨by omega,c2,c3,c4⟩
   ·rw[if_neg d];obtain⟨c1,c2,c3,c4⟩:=mK fuel lo ((lo+hi)/2) (by omega) (by omega) (by omega) R a (λi h q=>by
     by_cases z:i=(lo+hi)/2
     ·subst z;omega
     ·have:=R ((lo+hi)/2) i (by omega) h;omega)
    exact⟨c1,by omega,c3,c4⟩
  ·rw[if_neg c];exact⟨Nb _,h1,a,λi h q=>b i h (by omega)⟩
theorem mJ(R:ke xs)(j:Nat):SetTable.below xs j≤xs.size/\(∀i (h:i<xs.size),i<SetTable.below xs j->xs[i]<j)/\(∀i (h:i<xs.size),SetTable.below xs j≤i->j≤xs[i]):=by
 have:=mK (xs:=xs) (j:=j) xs.size 0 xs.size (NB _) (Nb _) (by omega) R (λi h q=>by omega) (λi h q=>by omega);exact this.2
theorem mL(R:ke xs)(hi:i≤xs.size)(lo:∀k (h:k<xs.size),k<i->xs[k]<j)(hi':∀k (h:k<xs.size),i≤k->j≤xs[k]):SetTable.below xs j=i:=by
 obtain⟨a,b,c⟩:=mJ R j;rcases To (SetTable.below xs j) i with h|h|h
 ·have h1:=c (SetTable.below xs j) (by omega) (Nb _);have h2:=lo (SetTable.below xs j) (by omega) h;omega
 ·exact h
 ·have h1:=b i (by omega) h;have h2:=hi' i (by omega) (Nb _);omega
theorem ud(R:ke xs):SetTable.below xs 0=0:=mL R (NB _) (λ_ _ h=>by omega) (λ_ _ _=>NB _)
theorem uf(R:ke xs)(h:i<xs.size):SetTable.below xs (xs[i]+1)=i+1:=
 mL R h (λk hk q=>by
  by_cases z:k=i
  ·subst z;omega
  ·exact OM (R k i (by omega) h)) (λk hk q=>R i k (by omega) hk)
theorem w6(R:ke xs)(h:i<xs.size):SetTable.below xs xs[i]=i:=
 mL R (Pb h) (λk hk q=>R k i q h) (λk hk q=>by
  by_cases z:k=i
  ·subst z;omega
  ·exact Pb (R i k (by omega) hk))
theorem kJ{t:SetTable}(R:ke t.place)(h:t.slot j=.empty):∀i (q:i<t.place.size),t.place[i]≠j:=by
 intro i q e;unfold SetTable.slot at h;dsimp only at h;rw[←e,w6 R q] at h;simp[q] at h
theorem qR(R:ke xs)(n:∀i (q:i<xs.size),xs[i]≠j):ke (SetTable.insertAt xs (SetTable.below xs j) j):=by
 obtain⟨a,b,c⟩:=mJ R j;have el:=SetTable.toList_insertAt xs (SetTable.below xs j) j;have P:xs.toList.Pairwise (· < ·):=by
  rw[Om];intro i k hi hk q;exact R i k q (by simpa using hk)
 suffices S:(SetTable.insertAt xs (SetTable.below xs j) j).toList.Pairwise (· < ·) by
  rw[Om] at S;intro i k q hk;exact S i k (by simpa using Rm q hk) (by simpa using hk) q
 rw[el];have s1:∀x∈xs.toList.take (SetTable.below xs j),x<j:=by
  intro x hx;obtain⟨i,hi,rfl⟩:=ON.mp hx;rw[Tp];have hi2:i<SetTable.below xs j:=by rw[OH] at hi;omega
  exact b i (by omega) hi2
 have s2:∀x∈xs.toList.drop (SetTable.below xs j),j<x:=by
  intro x hx;obtain⟨i,hi,rfl⟩:=ON.mp hx;rw[Tq];rw[Qf,NZ] at hi;have h1:=c (SetTable.below xs j+i) (by omega) (by omega);have h2:=n (SetTable.below xs j+i) (by omega);show j<xs[SetTable.below xs j+i];omega
 rw[Rj];refine⟨P.sublist (Tl _ _),Ql.mpr ⟨s2,P.sublist (Tr _ _)⟩,λx hx y hy=>?_⟩;rcases Nq.mp hy with rfl|hy
 ·exact s1 x hx
 ·exact Rm (s1 x hx) (s2 y hy)
theorem nO(j:Nat):SetTable.has #[] j=false:=by
 unfold SetTable.has;simp
theorem lQ{t:SetTable}(hd:t.dummies=#[])(h:Int):∀(fuel:Nat) (p:SetTable.Probe) (m:SetTable.Met),p.dummy=none->SetTable.probe.go t (λ_=>h+1) h fuel p=some m->∃j,m=.empty j none/\t.slot j=.empty
 |0,p,m,_,e=>by unfold SetTable.probe.go at e;cases e
 |fuel+1,p,m,z,e=>by
  unfold SetTable.probe.go at e
  split at e
  ·rename_i hs
   cases e
   exact⟨p.j,by rw[z],hs⟩
  ·rename_i hs;unfold SetTable.slot at hs;dsimp only at hs;rw[hd,nO] at hs
   split at hs<;>simp at hs
  ·rw[if_neg (by simp;omega)] at e;refine lQ hd h fuel _ m ?_ e;unfold SetTable.advance
   split<;>exact z
theorem mZ{t:SetTable}(hd:t.dummies=#[])(e:t.freeSlot h=some (j,b)):t.slot j=.empty:=by
 unfold SetTable.freeSlot at e
 cases q:t.probe (λ_=>h+1) h (t.probeStart h) with
 |none=>rw[q] at e;cases e
 |some m=>
  obtain⟨j',rfl,hs⟩:=lQ hd h _ _ m Z q;rw[q] at e;simp only[TJ,Vs,VR,Tw] at e;rw[←e.1];exact hs
def uj(t:SetTable):Prop:=t.plain=true->t.dummies=#[]/\ke t.place
theorem sx(a b:Nat)(led:Bool):uj (.fresh a b led):=λ_=>⟨Z,λi j h hj=>absurd hj (by simp[SetTable.fresh])⟩
theorem qw(T:uj t)(es:Array (Int×Value))(h:Int)(x:Value):uj (Xp t es h x).2.1/\(Xp t es h x).2.1.led=t.led:=by
 unfold Xp
 split
 ·rename_i j b e;dsimp only;unfold SetTable.orStandIn
  split
  ·refine⟨λhp=>?_,Z⟩;have hp':t.plain=true:=hp;obtain⟨d,R⟩:=T hp';refine⟨?_,qR R (kJ R (mZ d e))⟩;show(if SetTable.has t.dummies j then _ else t.dummies)=#[];rw[d,nO];rfl
  ·exact⟨λhp=>absurd hp (by simp[SetTable.standIn]),Z⟩
 ·exact⟨λhp=>absurd hp (by simp[SetTable.standIn]),Z⟩
theorem vZ(n:Nat)(f:Nat->Option Nat):ke ((((M7 n).filterMap λj=>(f j).map (j,·)).map (·.1)).toArray):=by
 have S:(((M7 n).filterMap λj=>(f j).map (j,·)).map (·.1)).Pairwise (· < ·):=by
  rw[List.map_filterMap];refine Qc.filterMap _ (R:=(· < ·)) (λa b h x hx y hy=>?_) Qa;simp only[UQ,N6] at hx hy;obtain⟨_,_,rfl⟩:=hx;obtain⟨_,_,rfl⟩:=hy;exact h
 intro i k q hk;rw[Om] at S;simp only[UR];exact S i k (by simpa using Rm q hk) (by simpa using hk) q
theorem mT(es:Array (Int×Value))(n:Nat):uj (TU t es n).2.1/\(TU t es n).2.1.led=t.led:=by
 unfold TU
 split
 ·rename_i t' order e;dsimp only
  split
  ·unfold SetTable.relaid SetTable.laid at e
   cases q:SetTable.layClean (SetTable.sizeAbove n-1) (es.map (·.1)) with
   |none=>rw[q] at e;cases e
   |some owner=>
    rw[q] at e;simp only[Option.bind_eq_bind,Option.bind_some,Option.pure_def,VR,Tw] at e;obtain⟨rfl,_⟩:=e;exact⟨λ_=>⟨Z,vZ _ _⟩,Z⟩
  ·exact⟨λhp=>absurd hp (by simp[SetTable.standIn]),Z⟩
 ·exact⟨λhp=>absurd hp (by simp[SetTable.standIn]),Z⟩
theorem mB{α:Type}{l:List α}{i:Nat}(h:i<l.length):UY (l[i]::l.eraseIdx i) l:=by
 rw[List.eraseIdx_eq_take_drop_succ];have e:l=l.take i++l[i]::l.drop (i+1):=by rw[List.getElem_cons_drop,Ux]
 exact(List.perm_middle.symm).trans (.of_eq e.symm)
theorem kn{α:Type}(next:Nat->Nat):∀(fuel k:Nat) (left:List α) (out:Array α),left.length=fuel->UY (VS next fuel k left out).toList (out.toList++left)
 |0,k,left,out,h=>by
  unfold VS;rw[QJ.mp h,O1]
 |fuel+1,k,left,out,h=>by
  unfold VS;have hm:next k%left.length<left.length:=W2 _ (by omega);rw[M8 hm];dsimp only;refine(kn next fuel (k+1) (left.eraseIdx (next k%left.length)) (out.push left[next k%left.length]) (by rw[SV hm];omega)).trans ?_;rw[VT,Q9];refine UY.append_left _ ?_;exact mB hm
theorem wd(next:Nat->Nat)(xs:Array α):UY (SC next xs).toList xs.toList:=by
 unfold SC;have:=kn next xs.size 0 xs.toList #[] (by simp)
 simpa using this
section
variable {prog:NW}{w:Ol}{A:N8}{E:Value->Nf->Prop}{s:Nf}
def ou:Value->Int
 | .int n _=>n
 |_=>0
def cN(w:Ol)(h:Np)(a:Addr)(ks:List Int):Prop:=∃o es ep t,h.get? a=some o/\o.ExactSet/\o.data=.set es ep t/\(∀e∈es.toList,∃n u,e=(RP n,PY n u))∧
 (es.toList.map λe=>ou e.2).Perm ks/\t.fits es.size=true/\uj t/\t.led=!w.params.followText "set-order"
theorem cN.at(I:cN w h a ks)(k:∀o,h.get? a=some o->h'.get? a=some o):cN w h' a ks:=by
 obtain⟨o,es,ep,t,ho,r⟩:=I;exact⟨o,es,ep,t,k o ho,r⟩
theorem AX(h:∀e∈es,∃n u,e=(RP n,PY n u)):ElemsOf (Ub prog w) es:=by
 intro e he;obtain⟨n,u,rfl⟩:=h e he;exact⟨⟨n,W3 _ _ _ _,Z⟩,Z⟩
theorem AL:(Ub prog w).is k (.int n u)=decide (k=n):=by
 show UD k (.int n u)=_;unfold UD;by_cases e:k=n
 ·subst e;simp
 ·rw[decide_eq_false e]
  simpa using λz:n=k=>e z.symm
theorem rC(ho:s.heap.get? a=some o)(hx:o.ExactSet)(hd:o.data=.set es ep t)
  (h1:∀e∈es'.toList,∃n u,e=(RP n,PY n u)) (h2:(es'.toList.map λe=>ou e.2).Perm ks) (h3:t'.fits es'.size=true) (h4:uj t') (h5:t'.led=!w.params.followText "set-order"):
  (s.heap.update a (SW es' t')).get? a=some { o with data:=.set es' (ep+1) t'}/\cN w (s.heap.update a (SW es' t')) a ks:=by
 have hg:(s.heap.update a (SW es' t')).get? a=some { o with data:=.set es' (ep+1) t'}:=by
  have:=OS (SW es' t') ho (by rw[putSet_of es' t' hd];rfl);rw[putSet_of es' t' hd] at this;exact this
 exact⟨hg,_,es',ep+1,t',hg,hx,Z,h1,h2,h3,h4,h5⟩
theorem Gc(I:cN w s.heap a ks)(hb:ks.length+1<scanBound)
  (h:∀b h',Ow a s.heap h'->cN w h' a (PL ks k)->Q b { s with heap:=h'}):Nv (NJ prog w) A (setAddHashed a (.int k u) (RP k)) Q E s:=by
 obtain⟨o,es,ep,t,ho,hx,hd,hs,hp,hf,T,hl⟩:=I;have hn:es.size=ks.length:=by rw[←hp.length_eq,Na,NZ]
 have hel:ElemsOf (Ub prog w) es.toList:=AX hs;have hb0:es.size<scanBound:=by omega
 unfold setAddHashed setAddHashedIn;refine wpAny_holding (M9 (Qu ho hd hf ?_));dsimp only;rw[byScan_of (knd:=Ub prog w) (x:=.int k u) Z hb0 hel];simp only[↓reduceIte];unfold setAddByScan;refine M9 (M9 (SE (M9 (wpAny_setScan_of (knd:=Ub prog w) (k:=k) (W3 _ _ _ _) ho hd hf hel ?_))))
 cases hr:List.findIdx? (λe=>(Ub prog w).is k e.2) es.toList with
 |some j=>
  dsimp only;obtain⟨hj,hpj,_⟩:=List.findIdx?_eq_some_iff_getElem.mp hr;obtain⟨n,v,e⟩:=hs _ (NY hj);have hk:k∈ks:=by
   refine hp.mem_iff.mp (Nu.mpr ⟨_,NY hj,?_⟩);rw[e] at hpj ⊢;rw[AL] at hpj;exact(of_decide_eq_true hpj).symm
  have hd':PL ks k=ks:=by unfold PL;rw[if_pos (Sc.mpr ⟨k,hk,by simp⟩)]
  refine Nj (Nj ?_);have:=h false s.heap (Ow.refl a s.heap) (by rw[hd'];exact⟨o,es,ep,t,ho,hx,hd,hs,hp,hf,T,hl⟩);have e:s={ s with heap:=s.heap}:=by cases s;rfl
  rw[e];exact this
 |none=>
  dsimp only;have hk:k∉ks:=λz=>by
   obtain⟨e,he,q⟩:=Nu.mp (hp.mem_iff.mpr z);have:=List.findIdx?_eq_none_iff.mp hr e he;obtain⟨n,v,rfl⟩:=hs e he;rw[AL] at this;exact(of_decide_eq_false this) q.symm
  have hd':PL ks k=ks++[k]:=by
   unfold PL;rw[if_neg (λz=>by obtain⟨x,m,q⟩:=Sc.mp z;exact hk (by rw[←show x=k from by simpa using q];exact m))]
  rw[hd'] at h;have hperm:=layNew_perm t es (RP k) (.int k u);have hfits:=layNew_fits t es (RP k) (.int k u);have htidy:=qw T es (RP k) (.int k u);show Nv _ _ (match Xp t es (RP k) (.int k u) with | (es,t,wasDummy,gave)=>_) _ _ _;generalize Xp t es (RP k) (.int k u)=L at hperm hfits htidy ⊢;obtain⟨es1,t1,dm,gave⟩:=L;dsimp only at hperm hfits htidy ⊢;rw[VT] at hperm;have s1:∀e∈es1.toList,∃n u,e=(RP n,PY n u):=λe he=>by
   rcases NF.mp (hperm.mem_iff.mp he) with q|q
   ·exact hs e q
   ·exact⟨k,u,Nm.mp q⟩
  have p1:(es1.toList.map λe=>ou e.2).Perm (ks++[k]):=by
   refine(hperm.map _).trans ?_;rw[N5];exact hp.append (.refl _)
  have n1:es1.size=ks.length+1:=by rw[←NZ,hperm.length_eq,NL,NZ,hn];rfl
  have z1:es1.size≤sizeLine:=fits_of_scanBound (by omega);have gw:∀(b:Bool) {s₁:Nf} {Q':Unit->Nf->Prop},Q' () s₁->Nv (NJ prog w) A (match b with|true=>rule "set.scan.the-table-gave-way" |false=>Pq ()) Q' E s₁:=
   λb s₁ Q' hq=>by cases b<;>first|exact Nj hq|exact SE hq
  have tail:∀(t2:SetTable) (R:Option Bool->Nf->Prop),t2.fits es1.size=true->uj t2->t2.led=t.led->(∀h',Ow a s.heap h'->cN w h' a (ks++[k])->R (some true) { s with heap:=h'})→
    Nv (NJ prog w) A (do
     storeSet a es1 t2
     if(!dm&&t2.tooFull)=true then do
       (match (TU t2 es1 (SetTable.grown es1.size)).2.2 with|true=>rule "set.scan.the-table-gave-way" |false=>Pq ())
       storeSet a (TU t2 es1 (SetTable.grown es1.size)).1 (TU t2 es1 (SetTable.grown es1.size)).2.1
       Pq (some true)
      else Pq (some true)) R E s:=by
   intro t2 R f2 T2 l2 hR;refine M9 (VU ho hd ?_ z1);obtain⟨g1,I1⟩:=rC (w:=w) (ks:=ks++[k]) ho hx hd s1 p1 f2 T2 (l2.trans hl);have b1:=OT s.heap a (SW es1 t2)
   split
   ·have hp2:=relayAll_perm t2 es1 (SetTable.grown es1.size);have hf2:=relayAll_fits t2 es1 (SetTable.grown es1.size);have ht2:=mT (t:=t2) es1 (SetTable.grown es1.size);generalize TU t2 es1 (SetTable.grown es1.size)=Rl at hp2 hf2 ht2 ⊢;obtain⟨es2,t3,gv⟩:=Rl;dsimp only at hp2 hf2 ht2 ⊢;have n2:es2.size=es1.size:=by rw[←NZ,hp2.length_eq,NZ]
    refine M9 (gw _ (M9 (VU g1 Z (Nj (hR _ (b1.trans (OT _ a _)) ?_)) (by rw[n2];exact z1))));exact(rC (s:={ s with heap:=s.heap.update a (SW es1 t2)}) (w:=w) (ks:=ks++[k]) g1 hx rfl (λe he=>s1 e (hp2.mem_iff.mp he)) ((hp2.map _).trans p1) hf2 ht2.1 (ht2.2.trans (l2.trans hl))).2
   ·exact Nj (hR _ b1 I1)
  refine M9 (gw _ ?_)
  split
  ·refine M9 ?_;rw[hashByValue_scannable 8 (x:=.int k u) Z];refine Nj ?_;exact tail _ _ hfits htidy.1 htidy.2 λh' b i=>Nj (h true h' b i)
  ·refine M9 (Nj ?_);simp only[↓reduceIte];exact tail _ _ hfits htidy.1 htidy.2 λh' b i=>Nj (h true h' b i)
end
section
variable {prog:NW}{w:Ol}{A:N8}{E:Value->Nf->Prop}{s:Nf}
def cn(w:Ol):O8:={ cls:=.type "set",dict:=none,data:=.set #[] 0 (.fresh 0 0 (!w.params.followText "set-order"))}
theorem rF(e:h.get? a=some (cn w)):cN w h a []:=
 ⟨_,#[],0,_,e,⟨Z,Z,Z⟩,Z,λe h=>by simp at h,.refl _,Z,sx _ _ _,Z⟩
theorem Gb(v:Value)(h:Q₁ (.ref s.heap.objs.size) { s with heap:=s.heap.push (cn w)}):
  RS (NJ prog w) A (.call (.builtin "set.__new__") ⟨[.type "set",v],[]⟩) (wants Q₁ E) s:=by
 refine codeAny_of_tree ?_;show Nv _ A.in1 (do checkBuiltinCall "set.__new__" ⟨[.type "set",v],[]⟩;again (.builtin "set.__new__" ⟨[.type "set",v],[]⟩)) _ _ s;refine M9 (UM (PySem.F.newCall_set_1 v) (Nj ⟨Sj Uy _,P3 PySem.F.entry_set_new ?_⟩));rw[Pp Uy _];unfold NO.«set.__new__» NO.Frozenset.newClass;have hsub:=sub_set_self;obtain⟨hp,g,d,tk,os⟩:=s;dsimp only
 wp_walk
 refine TV (Nj ?_);dsimp only;simp only[newObj];exact M9 (wpAny_alloc (Nj (Nj h)))
variable {R:We->Nf->Prop}{I:Addr}{fp wr:List Addr}{G:Array GenState->Array GenState->Prop}{n:Nat}{P:Nat->Value->Prop}{St:Nat->Nf->Prop}
theorem ve(W:WalksS prog w A.in1 I fp wr G n P St)(S:Addr)(hSf:S∉fp)(val:Nat->Int)(hval:∀i v,P i v->∃t,v=.int (val i) t)(hb:n+1<scanBound) :
  ∀(k i:Nat) (s:Nf),n-i=k->i≤n->St i s->cN w s.heap S (VQ val i)→
   (∀s',Moved (S::wr) G s s'->cN w s'.heap S (VQ val n)->R (.ok (.ret .none)) s')->RS (NJ prog w) A (.builtin "set.update.loop" ⟨[.ref S,.ref I],[]⟩) R s:=by
 have hSw:S∉wr:=λh=>hSf (W.sub _ h)
 have hsub:∀b∈wr,b∈S::wr:=λb hb=>No _ hb
 intro k
 induction k with
 |zero=>
  intro i s hk hi hst hS hR;obtain rfl:i=n:=by omega
  refine P3 Ry ?_;rw[Pp P6 _];show Nv _ A.in1 (RQ (.ref I) >>= _) _ _ s;refine M9 (W.done s _ _ hst λs' hm=>?_);exact Nj (hR s' (hm.mono hsub) (hS.at λo e=>hm.heap S _ hSw e))
 |succ k ih=>
  intro i s hk hi hst hS hR;refine P3 Ry ?_;rw[Pp P6 _];show Nv _ A.in1 (RQ (.ref I) >>= _) _ _ s;refine M9 (W.item i s _ _ (by omega) hst λv s' hP hst' hm=>?_);obtain⟨t,rfl⟩:=hval i v hP;show Nv _ A.in1 (holding [PY (val i) t] (setAdd S (.int (val i) t)) >>= _) _ _ s';refine M9 (wpAny_holding ?_);unfold setAdd;refine wpAny_holding (M9 ((Ub prog w).pyHash (k:=val i) (W3 _ _ _ _) ?_));refine Gc (s:={ s' with toks:=s'.toks+1}) (hS.at λo e=>hm.heap S _ hSw e) (by have:=firstMet_length_le val i;omega) λb h' hsb hS2=>?_
  rw[←firstMet_succ] at hS2;refine Nj ⟨Sj P6 _,ih (i+1) _ (by omega) (by omega) (W.frame _ s' _ _ hst' (O4 _) λb hb o e=>?_) hS2 λs'' hm'' hS''=>?_⟩
  ·rw[hsb.2 b (λh:b=S=>hSf (by rw[←h];exact hb))];exact e
  ·refine hR s'' (Moved.trans W.gtrans ((hm.mono hsub).then_heap (O4 _) λb o hb e=>?_) hm'') hS'';rw[hsb.2 b (λh:b=S=>hb (by rw[h];exact Ng))];exact e
end
section
variable {prog:NW}{w:Ol}{A:N8}{E:Value->Nf->Prop}{s:Nf}
set_option maxRecDepth 100000 in
set_option maxHeartbeats 3200000 in
theorem CN(hT0:T = "list"∨T = "tuple")
  (hh:A.handled=none) (hol:s.heap.get? l=some ol) (hcl:ol.cls=.type T) (hdl:ol.data=.seq items nl) (hi:Pe items.toList ns) (hb:items.size+1<scanBound)
  (h:∀(h':Np) (tk:Nat),cN w h' s.heap.objs.size (cQ ns)->(∀b o,b<s.heap.objs.size->s.heap.get? b=some o->h'.get? b=some o)->Q (.ref s.heap.objs.size) { s with heap:=h',toks:=tk}):
  Nv (NJ prog w) A (call (.type "set") [.ref l]) Q E s:=by
 have hlen:items.size=ns.length:=by rw[←NZ];exact US hi
 obtain⟨c,tl,hmro⟩:=Pn.mro;have hmade:=Pn.made;have hsub:=Pn.sub;refine wpAny_call (codeAny_of_tree ?_);show Nv _ _ (callAny (.type "set") _) _ _ _;refine Nj ⟨Code.quiet_builtin _ (by decide +kernel),P3 PySem.F.entry_type_call ?_⟩;rw[N8.under_plain (weight_type_call_type "set" [.ref l] []) Z];have h1:=Pn.notType;have h2:=Pn.canCreate;have hct:=PySem.F.typeCall_set_1 (.ref l)
 repeat(any_goals(first|assumption|wp_step))
 refine Su (Gb (.ref l) (E:=E) (Q₁:=λobj s₁=>obj=.ref s.heap.objs.size/\s₁={ s with heap:=s.heap.push (cn w)}) ⟨rfl,rfl⟩) λr s₁ hr=>?_
 cases r with
 |error e=>exact hr
 |ok fl=>
  cases fl with
  |ret obj=>
   obtain⟨rfl,rfl⟩:=hr;have hS:(s.heap.push (cn w)).get? s.heap.objs.size=some (cn w):=Nr _ Z;have hT:Nf.TypeIs { s with heap:=s.heap.push (cn w)} (.ref s.heap.objs.size) "set" := ⟨_,hS,rfl⟩;have hli:=Pn.init.lookup;have hbi:=Pn.init.bind (.ref s.heap.objs.size)
   repeat(any_goals(first|assumption|wp_step))
   refine Su (codeAny_call_builtin (R:=wants (λr s₂=>r=.none/\∃h' tk,s₂={ s with heap:=h',toks:=tk}/\cN w h' s.heap.objs.size (cQ ns)∧ (∀b o,b<s.heap.objs.size->s.heap.get? b=some o->h'.get? b=some o)) E) Pn.init.plain PySem.F.entry_set_init (check_set_init_1 hT ?_)) λr₂ s₂ hr₂=>?_
   ·have hlS:l<s.heap.objs.size:=Nt hol;have hh3:A.in1.in1.in1.handled=none:=by simp[hh]
    have hol':(s.heap.push (cn w)).get? l=some ol:=Nc _ hol;have sz:(s.heap.push (cn w)).objs.size=s.heap.objs.size+1:=O9 ..;have hneI:l≠(s.heap.push (cn w)).objs.size:=NT (by rw[sz];exact OM hlS);have hSf:s.heap.objs.size∉[(s.heap.push (cn w)).objs.size,l]:=by
     simp only[Nq,Oo,or_false,not_or];exact⟨NT (by rw[sz];exact Qg _),Qt hlS⟩
    have hval:∀(i:Nat) (v:Value),items[i]?=some v->∃t,v=.int ((λi=>ns.getD i 0) i) t:=λi v hv=>Pe.int_at hi i v (by rw[Array.getElem?_toList];exact hv)
    have fin:∀(it:O8) (s':Nf),Moved [s.heap.objs.size,(s.heap.push (cn w)).objs.size] (λa b=>b=a) { s with heap:=(s.heap.push (cn w)).push it} s'→
      cN w s'.heap s.heap.objs.size (VQ (λi=>ns.getD i 0) items.size)→
      ∃h' tk,s'={ s with heap:=h',toks:=tk}/\cN w h' s.heap.objs.size (cQ ns)/\(∀b o,b<s.heap.objs.size->s.heap.get? b=some o->h'.get? b=some o):=by
     intro it s' hm hS';rw[hlen,rM] at hS';obtain⟨h',g',d',tk',os'⟩:=s';obtain rfl:g'=s.gens:=hm.gens;obtain rfl:d'=s.drawn:=hm.drawn;obtain rfl:os'=s.os:=hm.os;refine⟨h',tk',Z,hS',λb o hb e=>hm.heap b o ?_ (Nc _ (Nc _ e))⟩;simp only[Nq,Oo,or_false,not_or];exact⟨NT hb,NT (by rw[sz];exact OM hb)⟩
    obtain⟨ocls,odict,odata,oslots⟩:=ol;simp only at hcl hdl;subst hcl;subst hdl;have n1:=PySem.F.sub_list_set;have n2:=PySem.F.sub_list_frozenset;have n3:=PySem.F.sub_tuple_set;have n4:=PySem.F.sub_tuple_frozenset;have n5:(Pt "list"==Pt "dict")=false:=by decide
    have n6:(Pt "tuple"==Pt "dict")=false:=by decide
    unfold NO.«set.__init__» noKeywords NO.Frozenset.updateFrom;generalize hPI:Vd=PI;rcases hT0 with rfl|rfl
    ·have hl1:(s.heap.push (cn w)).IsList l items:=⟨_,hol',Z,nl,Z⟩
     wp_walk
     subst hPI;refine Q6 hl1 (M9 (SS ?_));refine ve ((WV hh3 _ l hneI items).toS) s.heap.objs.size hSf (λi=>ns.getD i 0) hval hb (items.size-0) 0 _ (by omega) (NB _)
      ⟨⟨_,Nr _ Z,Z,Z⟩,(hl1.push _)⟩ (rF (Nc _ hS)) λs' hm hS'=>?_
     obtain⟨h',tk,rfl,c1,c2⟩:=fin _ s' hm hS';exact Nj (Nj ⟨Z,h',tk,Z,c1,c2⟩)
    ·have hl1:(s.heap.push (cn w)).IsTuple l items:=⟨_,hol',Z,nl,Z⟩
     wp_walk
     subst hPI;refine Qh hl1 (M9 (SS ?_));refine ve ((Xq.tuple hh3 _ l hneI items).toS) s.heap.objs.size hSf (λi=>ns.getD i 0) hval hb (items.size-0) 0 _ (by omega) (NB _)
      ⟨⟨_,Nr _ Z,Z,Z⟩,(hl1.push _)⟩ (rF (Nc _ hS)) λs' hm hS'=>?_
     obtain⟨h',tk,rfl,c1,c2⟩:=fin _ s' hm hS';exact Nj (Nj ⟨Z,h',tk,Z,c1,c2⟩)
   ·cases r₂ with
    |error e=>exact hr₂
    |ok fl₂=>
     cases fl₂ with
     |ret r=>
      obtain⟨rfl,h',tk,rfl,hS',hk'⟩:=hr₂
      repeat(any_goals(first|assumption|wp_step))
      exact h _ _ hS' hk'
     |_=>exact hr₂.elim
  |_=>exact hr.elim
end
namespace FS
theorem owner:Manifest.owners.lookup (String.ofList ['r','o','t','a','r','e','t','i','_','t','e','s'].reverse)=some Manifest.sig_set_iterator:=by kernel_rfl
theorem slot_next:Slot "set_iterator" "__next__" "set_iterator.__next__" :=
 .of (owner := "set_iterator") (n := "__next__") (by rw[typeLookup_type,Uz];kernel_rfl) (by decide +kernel) (by decide +kernel) (by decide +kernel)
  (by first|exact .inl (by decide +kernel)|exact .inr (by decide +kernel)) (by rw[isSubtype_type];kernel_rfl)
theorem entry_next:W0 table "set_iterator.__next__"=some NO.«set_iterator.__next__»:=entryFor_of_tree (by kernel_rfl)
theorem args_next(a:Value):argsOk "set_iterator.__next__" ⟨[a],[]⟩:=by
 unfold argsOk;rw[signature?_of (id := "set_iterator.__next__") (n:=['_','_','t','x','e','n','_','_']) (o:=['r','o','t','a','r','e','t','i','_','t','e','s']) (by kernel_rfl) owner];kernel_rfl
theorem entry_iter:W0 table "set.__iter__"=some NO.«frozenset.__iter__»:=UP (id' := "frozenset.__iter__") (by kernel_rfl) Z (by decide +kernel) (by kernel_rfl)
theorem slot_iter2:Slot "set_iterator" "__iter__" "set_iterator.__iter__" :=
 .of (owner := "set_iterator") (n := "__iter__") (by rw[typeLookup_type,Uz];kernel_rfl) (by decide +kernel) (by decide +kernel) (by decide +kernel)
  (by first|exact .inl (by decide +kernel)|exact .inr (by decide +kernel)) (by rw[isSubtype_type];kernel_rfl)
theorem entry_iter2:W0 table "set_iterator.__iter__"=some NO.«dict_keyiterator.__iter__»:=UP (id' := "dict_keyiterator.__iter__") (by kernel_rfl) Z (by decide +kernel) (by kernel_rfl)
theorem args_iter2(a:Value):argsOk "set_iterator.__iter__" ⟨[a],[]⟩:=by
 unfold argsOk;rw[signature?_of (id := "set_iterator.__iter__") (n:=['_','_','r','e','t','i','_','_']) (o:=['r','o','t','a','r','e','t','i','_','t','e','s']) (by kernel_rfl) owner];kernel_rfl
end FS
section
variable {prog:NW}{w:Ol}{A:N8}{E:Value->Nf->Prop}{s:Nf}
def jm(first:Value)(i:Nat)(a:Addr)(n ep:Nat):O8:={ cls:=.type "set_iterator",data:=.fields #[first,.int i 0,.ref a,.int n 0,.int ep 0]}
theorem BN{o:O8}{es:Array (Int×Value)}{ep i slot next:Nat}{t:SetTable}(hI:s.heap.get? I=some (jm (.int slot 0) i a es.size ep))
  (ho:s.heap.get? a=some o) (hd:o.data=.set es ep t) (hf:t.fits es.size=true) (hx:∀(A:N8) (E:Value->Nf->Prop) (Q:Option (Value×Nat)->Nf->Prop),Q (some (x,next)) s->Nv (NJ prog w) A (UZ a slot i ep) Q E s)
  (hQ:∀h',h'.get? I=some (jm (.int next 0) (i+1) a es.size ep)->Ow I s.heap h'->Q (some x) { s with heap:=h'}):Nv (NJ prog w) A (RQ (.ref I)) Q E s:=by
 have hT:s.TypeIs (.ref I) "set_iterator" := ⟨_,hI,Z⟩;unfold RQ;refine M9 (RD (Os (name:=OL "__next__") hT FS.slot_next (OA FS.slot_next hT FS.entry_next ?_ (FS.args_next _))));unfold NO.«set_iterator.__next__» VW;simp only[Rq,PM,Oa,↓reduceIte,Um,PD,bne_self_eq_false];refine M9 (Nj ?_);refine M9 (SX hI Z ?_);dsimp only;refine M9 (QB ho hd hf ?_);rw[if_neg (by simp)];refine M9 (hx _ _ _ ?_);dsimp only;refine M9 (Qj hI Z (by simp) ?_);have e1:(s.heap.update I (Xb (·.setIfInBounds 0 (So next)))).get? I=some (jm (.int next 0) i a es.size ep):=OS _ hI Z;refine M9 (Qj e1 Z (by simp) (Nj ⟨x,Z,Nj (hQ _ (OS _ e1 Z) ((OT ..).trans (OT ..)))⟩))
theorem Eb{o:O8}{es:Array (Int×Value)}{ep i slot:Nat}{t:SetTable}(hh:A.handled=none)(hI:s.heap.get? I=some (jm (.int slot 0) i a es.size ep))
  (ho:s.heap.get? a=some o) (hd:o.data=.set es ep t) (hf:t.fits es.size=true) (hx:∀(A:N8) (E:Value->Nf->Prop) (Q:Option (Value×Nat)->Nf->Prop),Q none s->Nv (NJ prog w) A (UZ a slot i ep) Q E s)
  (hQ:∀h',Ws I s.heap h'->Q none { s with heap:=h'}):Nv (NJ prog w) A (RQ (.ref I)) Q E s:=by
 have hT:s.TypeIs (.ref I) "set_iterator" := ⟨_,hI,Z⟩;unfold RQ;refine M9 (RD (Os (name:=OL "__next__") hT FS.slot_next (OA FS.slot_next hT FS.entry_next ?_ (FS.args_next _))));unfold NO.«set_iterator.__next__» VW;simp only[Rq,PM,Oa,↓reduceIte,Um,PD,bne_self_eq_false];refine M9 (Nj ?_);refine M9 (SX hI Z ?_);dsimp only;refine M9 (QB ho hd hf ?_);rw[if_neg (by simp)];refine M9 (hx _ _ _ ?_)
 try dsimp only
 refine M9 (Qj hI Z (by simp) ?_);refine M9 ?_;simp only[newExc,newTuple];refine M9 (N3 ?_ (by size_fits));refine M9 (m:=Rg _ _) (UM (a:=PH) (by first|rfl | (simp only[Rg];rfl)) ?_);refine N3 ?_ (by size_fits);simp only[raiseNew];refine M9 (U8 ?_);rw[show A.in1.handled=none from hh];refine M9 (Nj (Wu ?_));refine M9 (Rn (T := "StopIteration") (b:=true) ⟨_,Nr _ Z,Z⟩ SR ?_);exact Nj (hQ _ (((OT ..).extBut.push _).push _))
theorem BS{o op:O8}{es:Array (Int×Value)}{ep i np pl:Nat}{t:SetTable}{hs:Int}(hI:s.heap.get? I=some (jm (.ref p) i a es.size ep))
  (ho:s.heap.get? a=some o) (hd:o.data=.set es ep t) (hf:t.fits es.size=true) (hp:s.heap.get? p=some op) (hpd:op.data=.seq ps np) (hpi:ps[i]?=some (.int pl u)) (hx:es[pl]?=some (hs,x))
  (hQ:∀h',h'.get? I=some (jm (.ref p) (i+1) a es.size ep)->Ow I s.heap h'->Q (some x) { s with heap:=h'}):Nv (NJ prog w) A (RQ (.ref I)) Q E s:=by
 have hT:s.TypeIs (.ref I) "set_iterator" := ⟨_,hI,Z⟩;unfold RQ;refine M9 (RD (Os (name:=OL "__next__") hT FS.slot_next (OA FS.slot_next hT FS.entry_next ?_ (FS.args_next _))));unfold NO.«set_iterator.__next__» VW;simp only[Rq,PM,Oa,↓reduceIte,Um,PD,bne_self_eq_false];refine M9 (Nj ?_);refine M9 (SX hI Z ?_);dsimp only;refine M9 (QB ho hd hf ?_);rw[if_neg (by simp)]
 try dsimp only
 refine M9 (SN hp hpd ?_)
 try dsimp only
 simp only[OK,hpi];unfold setNextDrawn;refine M9 (M9 (Qu ho hd hf ?_))
 try dsimp only
 rw[if_neg (by simp)];simp only[hx];refine Nj (M9 (Qj hI Z (by simp) (Nj ⟨x,Z,Nj (hQ _ (OS _ hI Z) (OT ..))⟩)))
theorem Eh(hh:A.handled=none)(hI:s.heap.get? I=some (jm (.ref p) i a es.size ep))
  (ho:s.heap.get? a=some o) (hd:o.data=.set es ep t) (hf:t.fits es.size=true) (hp:s.heap.get? p=some op) (hpd:op.data=.seq ps np) (hpi:ps[i]?=none)
  (hQ:∀h',Ws I s.heap h'->Q none { s with heap:=h'}):Nv (NJ prog w) A (RQ (.ref I)) Q E s:=by
 have hT:s.TypeIs (.ref I) "set_iterator" := ⟨_,hI,Z⟩;unfold RQ;refine M9 (RD (Os (name:=OL "__next__") hT FS.slot_next (OA FS.slot_next hT FS.entry_next ?_ (FS.args_next _))));unfold NO.«set_iterator.__next__» VW;simp only[Rq,PM,Oa,↓reduceIte,Um,PD,bne_self_eq_false];refine M9 (Nj ?_);refine M9 (SX hI Z ?_);dsimp only;refine M9 (QB ho hd hf ?_);rw[if_neg (by simp)]
 try dsimp only
 refine M9 (SN hp hpd ?_)
 try dsimp only
 simp only[OK,hpi];have e1:(s.heap.update I (Xb (·.setIfInBounds 0 (So 0)))).get? I=some (jm (.int 0 0) i a es.size ep):=OS _ hI Z;refine M9 (Qj hI Z (by simp) (M9 (Qj e1 Z (by simp) ?_)));refine M9 ?_;simp only[newExc,newTuple];refine M9 (N3 ?_ (by size_fits));refine M9 (m:=Rg _ _) (UM (a:=PH) (by first|rfl | (simp only[Rg];rfl)) ?_);refine N3 ?_ (by size_fits);simp only[raiseNew];refine M9 (U8 ?_);rw[show A.in1.handled=none from hh];refine M9 (Nj (Wu ?_));refine M9 (Rn (T := "StopIteration") (b:=true) ⟨_,Nr _ Z,Z⟩ SR ?_);exact Nj (hQ _ ((((OT ..).trans (OT ..)).extBut.push _).push _))
end
end B
namespace B
open PySem PySem.Spec L2 PyProof.Rows
section
variable {prog:NW}{w:Ol}{A:N8}{E:Value->Nf->Prop}{s:Nf}
theorem iK(h:Q (w.params.followText "set-order") s):Nv (NJ prog w) A setsByText Q E s:=by
 unfold setsByText;exact M9 (TV (Nj h))
theorem CB(hb:w.params.followText "set-order"=true)(ho:s.heap.get? a=some o)(hd:o.data=.set es ep t)(hf:t.fits es.size=true)
  (h:Q (((SC (w.params.setOrder a ep) es)[i]?).map λe=>(e.2,slot)) s):Nv (NJ prog w) A (UZ a slot i ep) Q E s:=by
 unfold UZ;refine M9 (Qu ho hd hf ?_);dsimp only;refine M9 (iK ?_);rw[hb];simp only[↓reduceIte,bne_self_eq_false,Oa];unfold setWalk;refine M9 (M9 (Qu ho hd hf ?_));dsimp only;refine M9 (iK ?_);rw[hb];simp only[↓reduceIte];exact M9 (TV (Nj (Nj h)))
theorem FP(hb:w.params.followText "set-order"=false)(hl:t.led=true)(hp:(!t.plain&&decide (es.size>1))=false)
  (ho:s.heap.get? a=some o) (hd:o.data=.set es ep t) (hf:t.fits es.size=true)
  (h:Q (match es[SetTable.below t.place slot]?,t.place[SetTable.below t.place slot]? with|some (_,x),some j=>some (x,j+1)|_,_=>none) s):Nv (NJ prog w) A (UZ a slot i ep) Q E s:=by
 unfold UZ;refine M9 (Qu ho hd hf ?_);dsimp only;refine M9 (iK ?_);rw[hb];simp only[Oa,↓reduceIte];show Nv _ _ (if(!t.plain&&decide (es.size>1))=true then _ else _) _ _ _;rw[hp];simp only[Oa,↓reduceIte];show Nv _ _ ((if(!t.led&&!es.isEmpty)=true then _ else Pq PUnit.unit) >>= _) _ _ _;rw[hl];simp only[PM,QD,Oa,↓reduceIte];refine M9 (Nj (Nj h))
theorem vJ(hn:n≠0)(h:∀i d,i<n->Q i { s with drawn:=d}):Nv (NJ prog w) A (choose src n) Q E s:=by
 intro Γ p hΓ;unfold choose;rw[Sem.wp_choose];exact⟨hn,by rw[Sem.wp_pure];exact h _ _ (W2 _ (Nat.pos_of_ne_zero hn))⟩
theorem mD{α:Type}:∀(n:Nat) (xs:List α) (s:Nf) (Q:List α->Nf->Prop),xs.length=n->(∀ys d,UY ys xs->Q ys { s with drawn:=d})->Nv (NJ prog w) A (Xi n xs) Q E s
 |0,xs,s,Q,e,h=>by
  unfold Xi;have:=h [] s.drawn (by rw[QJ.mp e]);exact Nj this
 |n+1,[],s,Q,e,h=>by simp at e
 |n+1,x::xs,s,Q,e,h=>by
  unfold Xi;refine M9 (vJ (by simp) λi d hi=>?_);rw[M8 hi];dsimp only;refine M9 (mD n _ _ _ (by rw[SV hi];omega) λys d' hy=>Nj ?_);exact h _ d' ((hy.cons _).trans (mB hi))
theorem nk(hI:s.heap.get? I=some (jm first i a n ep))(h:Q (.ref I) s):Nv (NJ prog w) A (Vd (.ref I)) Q E s:=by
 have hT:s.TypeIs (.ref I) "set_iterator" := ⟨_,hI,Z⟩;refine Tn hT FS.slot_iter2 (OA FS.slot_iter2 hT FS.entry_iter2 ?_ (FS.args_iter2 _));show Nv _ _ (ret (.ref I)) _ _ s;exact Nj ⟨_,Z,"set_iterator",_,hT,FS.slot_next.lookup,h⟩
theorem qf(hh:A.handled=none)(hne:a≠I)(hd:o.data=.set es ep t)(hf:t.fits es.size=true)(items:Array Value)(slotf:Nat->Nat)
  (hnx:∀(A:N8) (E:Value->Nf->Prop) (s:Nf) (Q:Option (Value×Nat)->Nf->Prop) (i:Nat),s.heap.get? a=some o->i≤items.size->Q (items[i]?.map λx=>(x,slotf (i+1))) s->Nv (NJ prog w) A (UZ a (slotf i) i ep) Q E s):
  WalksS prog w A I [I,a] [I] (λa b=>b=a) items.size (λi v=>items[i]?=some v) (λi s=>s.heap.get? I=some (jm (.int (slotf i) 0) i a es.size ep)/\s.heap.get? a=some o) where
 sub:=λb hb=>by simp at hb;simp[hb]
 grefl:=λ_=>rfl
 gtrans:=λ_ _ _ h1 h2=>h2.trans h1
 frame:=λ_ _ _ _ st _ hk=>⟨hk I (by simp) _ st.1,hk a (by simp) _ st.2⟩
 item:=λi s Q E hi st hQ=>by
  refine BN (next:=slotf (i+1)) (x:=items[i]) st.1 st.2 hd hf (λA E Q q=>hnx A E s Q i st.2 (Pb hi) (by rw[OY hi];exact q)) λh' hI hs=>?_
  refine hQ _ _ (by simp[hi]) ⟨hI,?_⟩ ⟨λb o hb e=>hs.extBut b o (λz=>hb (by simp[z])) e,Z,Z,Z,Nb _⟩;exact hs.extBut a o hne st.2
 done:=λs Q E st hQ=>by
  refine Eb hh st.1 st.2 hd hf (λA E Q q=>hnx A E s Q items.size st.2 (Nb _) (by rw[Qb (Nb _)];exact q)) λh' hx=>?_
  exact hQ _ ⟨λb o hb e=>hx b o (λz=>hb (by simp[z])) e,Z,Z,Z,Nb _⟩
 self:=λ_ _ _ _ st hQ=>nk st.1 hQ
end
section
variable {prog:NW}{w:Ol}{A:N8}{E:Value->Nf->Prop}{s:Nf}
theorem sj(hh:A.handled=none)(hne:a≠I)(hpe:p≠I)(hd:o.data=.set es ep t)(hf:t.fits es.size=true)(hpd:op.data=.seq ps np)(items:Array Value)
  (hz:items.size=ps.size) (hps:∀(i:Nat) (h:i<items.size),∃(pl:Nat) (u:W5) (hs:Int),ps[i]?=some (.int pl u)/\es[pl]?=some (hs,items[i])):
  WalksS prog w A I [I,a,p] [I] (λa b=>b=a) items.size (λi v=>items[i]?=some v) (λi s=>s.heap.get? I=some (jm (.ref p) i a es.size ep)/\s.heap.get? a=some o/\s.heap.get? p=some op) where
 sub:=λb hb=>by simp at hb;simp[hb]
 grefl:=λ_=>rfl
 gtrans:=λ_ _ _ h1 h2=>h2.trans h1
 frame:=λ_ _ _ _ st _ hk=>⟨hk I (by simp) _ st.1,hk a (by simp) _ st.2.1,hk p (by simp) _ st.2.2⟩
 item:=λi s Q E hi st hQ=>by
  obtain⟨pl,u,hs,e1,e2⟩:=hps i hi;refine BS st.1 st.2.1 hd hf st.2.2 hpd e1 e2 λh' hI hs=>?_
  exact hQ _ _ (by simp[hi]) ⟨hI,hs.extBut a o hne st.2.1,hs.extBut p op hpe st.2.2⟩ ⟨λb o hb e=>hs.extBut b o (λz=>hb (by simp[z])) e,Z,Z,Z,Nb _⟩
 done:=λs Q E st hQ=>by
  refine Eh hh st.1 st.2.1 hd hf st.2.2 hpd (by rw[hz];exact Qb (Nb _)) λh' hx=>?_
  exact hQ _ ⟨λb o hb e=>hx b o (λz=>hb (by simp[z])) e,Z,Z,Z,Nb _⟩
 self:=λ_ _ _ _ st hQ=>nk st.1 hQ
def Gx(prog:NW)(w:Ol)(a:Addr)(ks:List Int)(s:Nf)(It:Addr)(s1:Nf):Prop:=
 ∃(fp:List Addr) (items:Array Value) (St:Nat->Nf->Prop),(∀A':N8,A'.handled=none->WalksS prog w A' It fp [It] (λa b=>b=a) items.size (λi v=>items[i]?=some v) St)/\St 0 s1/\It∈fp/\(∀b∈fp,b<s1.heap.objs.size/\(b=a∨s.heap.objs.size≤b))∧
  s.heap.objs.size≤It/\∃ms,Pe items.toList ms/\ms.Perm ks
theorem gW:∀{es:List (Int×Value)},(∀e∈es,∃n u,e=(RP n,PY n u))->Pe (es.map (·.2)) (es.map λe=>ou e.2)
 | [],_=>.nil
 |e::es,h=>by
  obtain⟨n,u,rfl⟩:=h e Ng;exact .cons n u (gW λx hx=>h x (No _ hx))
def yt(t:SetTable):Nat->Nat
 |0=>0
 |k+1=>t.place.getD k 0+1
theorem ue(R:ke t.place)(h:i≤t.place.size):SetTable.below t.place (yt t i)=i:=by
 cases i with
 |zero=>exact ud R
 |succ k=>
  have hk:k<t.place.size:=by omega
  show SetTable.below t.place (t.place.getD k 0+1)=k+1;rw[show t.place.getD k 0=t.place[k] from by simp[SU,hk]];exact uf R hk
theorem AI(I:cN w s.heap a ks)(hb:ks.length≤1000)
  (h:∀(It:Addr) (h':Np) d,(∀b o,s.heap.get? b=some o->h'.get? b=some o)->Gx prog w a ks s It { s with heap:=h',drawn:=d}->Q (.ref It) { s with heap:=h',drawn:=d}):Nv (NJ prog w) A (Vd (.ref a)) Q E s:=by
 obtain⟨o,es,ep,t,ho,hx,hd,hs,hp,hf,T,hl⟩:=I;have hT:s.TypeIs (.ref a) "set" := ⟨o,ho,hx.1⟩;have hlt:a<s.heap.objs.size:=Nt ho;refine Tn hT UA (OA UA hT FS.entry_iter ?_ (PySem.F.args_set_iter_1 _));unfold NO.«frozenset.__iter__» NO.Frozenset.slot0 VW;simp only[Rq,PM,Oa,↓reduceIte,Um,PD,bne_self_eq_false];unfold NO.Frozenset.addrOf NO.Frozenset.sizeOf;refine M9 (Nj ?_)
 try dsimp only
 refine M9 (Nj ?_);refine M9 (M9 (QB ho hd hf (Nj ?_)));unfold setDrawn;refine M9 (M9 (Qu ho hd hf ?_));dsimp only;refine M9 (iK (Nj ?_));show Nv _ _ (if(!w.params.followText "set-order"&&(!t.plain&&decide (es.size>1)))=true then _ else _) _ _ _;have hn:es.size=ks.length:=by rw[←hp.length_eq,Na,NZ]
 by_cases c:(!w.params.followText "set-order"&&(!t.plain&&decide (es.size>1)))=true
 ·rw[if_pos c];refine M9 (mD es.size (M7 es.size) _ _ (by simp) λys d hy=>?_);refine M9 (wpAny_newTuple ?_ ?_)
  ·have ho1:(s.heap.push { cls:=.type "tuple",data:=.seq (ys.map λi:Nat=>So i).toArray}).get? a=some o:=Nc _ ho;refine M9 (VX ho1 hd hf ?_);refine M9 (N3 ?_ (by size_fits));have sz:(s.heap.push { cls:=.type "tuple",data:=.seq (ys.map λi:Nat=>So i).toArray}).objs.size=s.heap.objs.size+1:=O9 ..;refine Nj ⟨_,Z,"set_iterator",_,⟨_,Nr _ Z,Z⟩,FS.slot_next.lookup,h _ _ d (λb o e=>Nc _ (Nc _ e)) ?_⟩;have hmem:∀i∈ys,i<es.size:=λi hi=>Nk.mp (hy.mem_iff.mp hi)
   have yl:ys.length=es.size:=by rw[hy.length_eq,NP]
   have hpe:s.heap.objs.size≠(s.heap.push { cls:=.type "tuple",data:=.seq (ys.map λi:Nat=>So i).toArray}).objs.size:=by rw[sz];exact NT (Qg _)
   have hne:a≠(s.heap.push { cls:=.type "tuple",data:=.seq (ys.map λi:Nat=>So i).toArray}).objs.size:=by rw[sz];exact NT (OM hlt)
   refine⟨_,(ys.map λi=>(es.getD i (0,.none)).2).toArray,_,λA' hh=>sj (p:=s.heap.objs.size) hh hne hpe hd hf (ps:=(ys.map λi:Nat=>So i).toArray) Z _ (by simp) λi hi=>?_,
    ⟨Nr _ Z,Nc _ ho1,Nc _ (Nr _ Z)⟩,by simp,λb hb=>?_,by rw[sz];exact O4 _,?_⟩
   ·have hi':i<ys.length:=by simpa using hi
    have hm:=hmem _ (NY hi');refine⟨ys[i],0,(es[ys[i]]).1,?_,?_⟩
    ·simp[hi',So]
    ·rw[OY hm];simp[SU,hm]
   ·rw[O9,sz];simp only[Nq,Oo,or_false] at hb;rcases hb with rfl|rfl|rfl
    ·rw[sz];exact⟨Qg _,.inr (O4 _)⟩
    ·exact⟨OM (OM hlt),.inl Z⟩
    ·exact⟨OM (Qg _),.inr (Nb _)⟩
   ·refine⟨ys.map λi=>ou (es.getD i (0,.none)).2,?_,?_⟩
    ·have all:∀{zs:List Nat},(∀i∈zs,i<es.size)->Pe (zs.map λi=>(es.getD i (0,.none)).2) (zs.map λi=>ou (es.getD i (0,.none)).2):=by
      intro zs hz;have:=gW (es:=zs.map λi=>es.getD i (0,.none)) λe he=>by
       obtain⟨i,hi,rfl⟩:=Nu.mp he;have hm:=hz i hi;rw[show es.getD i (0,.none)=es[i] from by simp[SU,hm]];exact hs _ (by simp)
      rw[OE,OE] at this;exact this
     simpa using all hmem
    ·refine(hy.map _).trans ?_;have e:(M7 es.size).map (λi=>ou (es.getD i (0,.none)).2)=es.toList.map λe=>ou e.2:=by
      apply Wj
      ·simp
      ·intro i h1 h2;have hm:i<es.size:=by simpa using h2
       simp[SU,hm]
     rw[e];exact hp
  ·rw[Na,hy.length_eq,NP,hn];exact NH hb (by decide)
 ·rw[if_neg c];refine M9 (Nj (M9 (VX ho hd hf (M9 (N3 ?_ (by size_fits))))));have keep:∀b o,s.heap.get? b=some o->(s.heap.push (jm (.int 0 0) 0 a es.size ep)).get? b=some o:=λb o e=>Nc _ e
  refine Nj ⟨_,Z,"set_iterator",_,⟨_,Nr _ Z,Z⟩,FS.slot_next.lookup,h s.heap.objs.size _ s.drawn keep ?_⟩;have hne:a≠s.heap.objs.size:=NT hlt;have sz:(s.heap.push (jm (.int 0 0) 0 a es.size ep)).objs.size=s.heap.objs.size+1:=O9 ..;have hfp:∀b∈[s.heap.objs.size,a],b<(s.heap.push (jm (.int 0 0) 0 a es.size ep)).objs.size/\(b=a∨s.heap.objs.size≤b):=λb hb=>by
   rw[sz];simp only[Nq,Oo,or_false] at hb;rcases hb with rfl|rfl
   ·exact⟨Qg _,.inr (Nb _)⟩
   ·exact⟨OM hlt,.inl Z⟩
  cases bt:w.params.followText "set-order" with
  |true=>
   refine⟨_,(SC (w.params.setOrder a ep) es).map (·.2),_,λA' hh=>qf hh hne hd hf _ (λ_=>0) λA E s Q i hs' hi q=>?_,⟨Nr _ Z,keep _ _ ho⟩,by simp,hfp,Nb _,?_⟩
   ·refine CB bt hs' hd hf ?_;rw[Vt,UQ] at q;exact q
   ·have pp:=wd (w.params.setOrder a ep) es;refine⟨_,?_,(pp.map λe=>ou e.2).trans hp⟩;rw[Wl];exact gW λe he=>hs e (pp.mem_iff.mp he)
  |false=>
   rw[bt] at c hl;have c':(!t.plain&&decide (es.size>1))=false:=by simpa using c
   have R:ke t.place:=by
    cases pl:t.plain with
    |true=>exact(T pl).2
    |false=>
     rw[pl] at c';have h1:¬es.size>1:=by simpa using c'
     intro i j q hj;have:t.place.size=es.size:=by
      unfold SetTable.fits at hf;simp only[NM,beq_iff_eq,decide_eq_true_eq] at hf;exact hf.1
     omega
   have hps:t.place.size=es.size:=by
    unfold SetTable.fits at hf;simp only[NM,beq_iff_eq,decide_eq_true_eq] at hf;exact hf.1
   refine⟨_,es.map (·.2),_,λA' hh=>qf hh hne hd hf _ (yt t) λA E s Q i hs' hi q=>?_,⟨Nr _ Z,keep _ _ ho⟩,by simp,hfp,Nb _,?_⟩
   ·rw[Array.size_map] at hi;refine FP bt hl c' hs' hd hf ?_;rw[ue R (by omega)];rw[Vt,UQ] at q;by_cases z:i<es.size
    ·rw[OY z] at q ⊢;rw[OY (show i<t.place.size by omega)];have:yt t (i+1)=t.place[i]'(by omega)+1:=by
      show t.place.getD i 0+1=_;simp[SU,show i<t.place.size by omega]
     simp only[WB,Function.comp_apply] at q;rw[this] at q;exact q
    ·rw[Qb (by omega)] at q ⊢;exact q
   ·refine⟨_,?_,hp⟩;rw[Wl];exact gW hs
end
def K2(K:M6):V->List V->Hp->VK->Prop:=λx vs H Q=>∃l b xs zs,x=.ref l/\vs=[.ref b]/\H l=some (.lst xs)/\bC K H b zs/\xs.length+zs.length≤1000/\Q .non (aE H l (.lst (xs++zs)))
theorem fU:∀{ns:List Int} {us:List Value},bE (ns.map V.int) us->Pe us ns
 | [],[],_=>.nil
 |i::ns,u::us,h=>by
  cases h with
  |cons a t=>
   obtain⟨k,rfl⟩:=(show ∃k,u=PY i k from a);exact .cons i k (fU t)
theorem uT:∀{ns:List Int} {us:List Value},Pe us ns->bE (ns.map V.int) us
 |_,_,.nil=>.nil
 |_,_,.cons n t h=>.cons ⟨t,Z⟩ (uT h)
def KW(K:M6):List V->Hp->VK->Prop:=λxs H Q=>∃p ns,xs=[.ref p]/\(aV K H p (ns.map V.int)∨bC K H p (ns.map V.int))/\ns.length<64/\∀(l:Addr) (ms:List Int),ms.Perm ns->ms.Pairwise (·≤·)->H l=none->Q (.ref l) (aE H l (.lst (ms.map V.int)))
section
variable {prog:NW}{w:Ol}{A:N8}{E:Value->Nf->Prop}{s:Nf}
theorem CL{acc items:Array Value}(h:Pe items.toList ms)(hi:VP (λi v=>items[i]?=some v) acc items.size):Pe acc.toList ms:=by
 have e:acc=items:=by
  apply Array.ext_getElem?;intro i;by_cases c:i<acc.size
  ·have:=hi.2 i acc[i] (OY c);rw[this,OY c]
  ·rw[Qb (by omega),Qb (by have:=hi.1;omega)]
 rw[e];exact h
theorem rT(hh:A.handled=none)(I:cN w s.heap a ks)(hb:ks.length≤1000)
  (h:∀(items:List Value) (ms:List Int) h' d tk,Pe items ms->ms.Perm ks->(∀b o,s.heap.get? b=some o->h'.get? b=some o)->Q items { s with heap:=h',drawn:=d,toks:=tk}):Nv (NJ prog w) A (Xn (.ref a)) Q E s:=by
 have hlt:a<s.heap.objs.size:=by obtain⟨o,_,_,_,ho,_⟩:=I;exact Nt ho
 have hSa:s.heap.objs.size≠a:=Qt hlt;unfold Xn;refine M9 (SS (P3 PySem.F.entry_proto_collect ?_));rw[Pp PySem.F.plain_proto_collect _];show Nv _ A.in1 (VG [] >>= λl=>again (.builtin "list.__iadd__" ⟨[l,.ref a],[]⟩)) _ _ s;refine M9 (N3 ?_);refine Nj ⟨Sj TW _,P3 PySem.F.entry_list_iadd ?_⟩;rw[Pp TW _];have I1:cN w (s.heap.push { cls:=.type "list",data:=.seq ([]:List Value).toArray}) a ks:=I.at λo e=>Nc _ e
 have hS₁:(s.heap.push { cls:=.type "list",data:=.seq ([]:List Value).toArray}).get? s.heap.objs.size=some { cls:=.type "list",data:=.seq ([]:List Value).toArray}:=Nr _ Z;show Nv _ A.in1 (Q7 (.ref s.heap.objs.size) (.ref a) (.ref s.heap.objs.size)) _ _ _;unfold Q7;have tys:∀(h:Np) (s1:Nf),cN w h a ks->s1.heap=h->s1.TypeIs (.ref a) "set" := λh s1 J e=>by
  obtain⟨o,_,_,_,ho,hx,_⟩:=J;exact⟨o,by rw[e];exact ho,hx.1⟩
 refine M9 (RT (tys _ _ I1 Z) ?_);have h1:Tx (.ref s.heap.objs.size) (.ref a)=false:=by simp[Tx,hSa]
 have h2:(Pt "set"==Pt "list")=false:=by decide
 have h3:(Pt "set"==Pt "tuple")=false:=by decide
 simp only[h1,h2,h3,Xc,Oa,if_false];refine M9 (AI (prog:=prog) I1 hb λIt h' d keep W=>?_);obtain⟨fp,items,St,W,st,hI,hfp,hge,ms,hms,hpm⟩:=W;have sz:(s.heap.push { cls:=.type "list",data:=.seq ([]:List Value).toArray}).objs.size=s.heap.objs.size+1:=O9 ..;refine M9 (wpAny_holding ?_);unfold NO.List.listLengthHint;have I2:cN w h' a ks:=I1.at λo e=>keep a o e
 have t2:=tys h' { s with heap:=h',drawn:=d} I2 rfl;refine M9 (wpAny_specialOf t2 PySem.F.slot_set_len.lookup ?_)
 (generalize CP:("set.__len__" : String)=id0;(fail_if_success (clear CP id0));wp_delta;rw[show splitId id0=some ("set","__len__") from by subst CP;decide +kernel];subst CP)
 refine M9 (Rn (b:=true) t2 sub_set_self ?_);show Nv _ A.in1 (typeOf (Oy a) >>= _) _ _ _;refine M9 (RT t2 (Nj ?_));have hS2:h'.get? s.heap.objs.size=some { cls:=.type "list",data:=.seq ([]:List Value).toArray}:=keep _ _ hS₁;have hSf:s.heap.objs.size∉fp:=λhm=>by
  rcases(hfp _ hm).2 with e|e
  ·exact hSa e
  ·rw[sz] at e;exact Nat.not_succ_le_self _ e
 show Nv _ A.in1 (rule "list.extend.makes-room" >>= λ_=>NO.List.listTouch (.ref s.heap.objs.size) >>= λ_=>
  again (.builtin "list.extend.loop" ⟨[.ref s.heap.objs.size,.ref It,.ref s.heap.objs.size],[]⟩)) _ _ _
 refine M9 (SE (M9 ?_));show Nv _ A.in1 (updateSeq s.heap.objs.size (·.push .none) >>= λ_=>updateSeq s.heap.objs.size (·.pop)) _ _ _;refine M9 (wpAny_updateSeq hS2 Z ?_);have hS3:=OS (Rf (·.push PH)) hS2 Z;refine wpAny_updateSeq hS3 Z ?_;have hS4:=OS (Rf (·.pop)) hS3 Z;have oth:∀b o,b≠s.heap.objs.size->h'.get? b=some o->((h'.update s.heap.objs.size (Rf (·.push PH))).update s.heap.objs.size (Rf (·.pop))).get? b=some o:=
  λb o hb e=>(QR _ _ (Qs hb)).trans ((QR _ _ (Qs hb)).trans e)
 have hn:items.size≤sizeLine:=by
  rw[←NZ,US hms,hpm.length_eq];exact NH hb (by decide)
 have W1:=W A.in1 (by simp[hh]);refine Nj ⟨Sj PySem.F.plain_extend_loop _,codeAny_extend_loopS W1 hn _ hSf _ items.size 0 _ _ _ Z (NB _) (W1.frame 0 ({ s with heap:=h',drawn:=d}:Nf) _ s.toks st (Nb _) λb hb o e=>oth b o (λh=>hSf (h▸hb)) e) hS4 (VP.nil _) λs' acc' c' hm hS' hacc=>?_⟩
 show Nv _ A (load s.heap.objs.size >>= _) _ _ s';refine M9 (WJ hS' (Nj ?_));obtain⟨h3,g3,d3,t3,o3⟩:=s';obtain rfl:g3=s.gens:=hm.gens;obtain rfl:d3=d:=hm.drawn;obtain rfl:o3=s.os:=hm.os;refine h acc'.toList ms h3 d3 t3 (CL hms hacc) hpm λb o e=>?_
 have hb1:b<s.heap.objs.size:=Nt e;refine hm.heap b o ?_ (oth b o (NT hb1) (keep b o (Nc _ e)));simp only[Nq,Oo,or_false,not_or];exact⟨NT hb1,NT (NE hb1 (NH (O4 _) (show s.heap.objs.size+1≤It from by rw[←sz];exact hge)))⟩
end
theorem Inv.drew{X:Cx}{pins:List (Addr×O8)}{σ:L2.St}{H:Hp}{s:Nf}(d:Drawn)(I:L2.Inv X pins σ H s):L2.Inv X pins σ H { s with drawn:=d}:=
 ⟨I.ok,I.os,I.bare,I.base,I.loc,I.cell,I.free,I.freeC,I.pin,I.hok,I.len⟩
def sM(w:Ol)(a:Addr)(ks:List Int):HO:=.ext λh=>cN w h a ks
theorem BR(e:cN w h a ks):bW P w H h a (sM w a ks):=
 ⟨e,let ⟨o,_,_,_,q,_⟩:=e;⟨o,q⟩,λ_ _ q k=>q.at k⟩
def Hy(w:Ol)(K:M6):List V->Hp->VK->Prop:=λxs H Q=>∃p ns,xs=[.ref p]/\(aV K H p (ns.map V.int)∨bC K H p (ns.map V.int))/\ns.length≤1000/\∀l,H l=none->Q (.ref l) (aE H l (sM w l (cQ ns)))
theorem wT(hc:X.calm=true):c6 X (.type "set") (Hy X.w X.K):=by
 intro pins s σ H xs us Q I r h;obtain⟨p,ns,rfl,hq,hz,q⟩:=h;obtain⟨u,rfl,rx⟩:=eS r
 cases rx
 have go:∀(its:List Value) (T:String) (o:O8) (n:Nat),bE (ns.map V.int) its->(T = "list"∨T = "tuple")->s.heap.get? p=some o->o.cls=.type T->o.data=.seq its.toArray n→
   Nv (NJ X.prog X.w) X.A (call (.type "set") [.ref p]) (EP X pins σ Q) X.xe s:=λits T o n rv hT ho hc' hd=>by
  have hl:=rv.length;rw[Na] at hl;refine CN (ns:=ns) hT (I.ok.hd hc) ho hc' hd (by simpa using fU rv) (by rw[NK,←hl];unfold scanBound;omega) λh' tk hS hk=>?_
  exact⟨.ref s.heap.objs.size,_,I.laid (a:=s.heap.objs.size) (o:=sM X.w s.heap.objs.size (cQ ns)) (t':=tk) (λb o e=>hk b o (Nt e) e) (Nb _) (BR hS),Z,q _ (I.hok.fresh (Nb _))⟩
 rcases hq with hq|hq
 ·obtain⟨its,r',pl,_⟩:=I.list hq;obtain⟨o,ho,hc',n,hd⟩:=pl.isList;exact go its "list" o n r' (.inl Z) ho hc' hd
 ·obtain⟨its,r',⟨o,ho,hc',n,hd⟩,_⟩:=I.tuple hq;exact go its "tuple" o n r' (.inr Z) ho hc' hd
def zI(w:Ol):List V->Hp->VK->Prop:=λxs H Q=>∃p ks,xs=[.ref p]/\H p=some (sM w p ks)/\ks.length<64/\∀(l:Addr) (ms:List Int),ms.Perm ks->ms.Pairwise (·≤·)->H l=none->Q (.ref l) (aE H l (.lst (ms.map V.int)))
theorem pO(hc:X.calm=true):c6 X (.builtin "sorted") (zI X.w):=by
 intro pins s σ H xs us Q I r h;obtain⟨p,ks,rfl,hp,h64,q⟩:=h;obtain⟨u,rfl,rx⟩:=eS r
 cases rx
 have S:cN X.w s.heap p ks:=(show bW X.prog X.w H s.heap p (sM X.w p ks) from I.hok p _ hp).1;refine Calls.call_function_entry kind_sorted plain_sorted entry_sorted (args_sorted1 (.ref p)) ?_;unfold NO.«sorted»;refine M9 (m:=checkCount "sorted" 1 1 _) (Nj (M9 (rT (by simp[I.ok.hd hc]) S (by omega) λits ns h1 d tk hi hpm kp=>?_)));have hln:its.length<64:=by rw[US hi,hpm.length_eq];exact h64
 have sz:its.length≤sizeLine:=NH (Pb hln) (by decide);refine M9 (wpAny_newList ?_ sz);have hoL:(h1.push (seqObj "list" its.toArray 0)).get? h1.objs.size=some (seqObj "list" its.toArray 0):=Nr _ Z;show Nv _ _ _ _ _ { s with heap:=h1.push (seqObj "list" its.toArray 0),drawn:=d,toks:=tk};refine M9 (wpAny_holding (OA slot_list_sort ⟨_,hoL,rfl⟩ entry_list_sort (list_sort_tree hoL (by simpa using hi) hln λout ms a1 a2 a3=>⟨_,rfl,Nj ⟨_,rfl,?_⟩⟩) (args_list_sort _)));have I1:L2.Inv X pins σ H { s with heap:=h1,drawn:=d,toks:=tk}:=Inv.drew d (I.kept (t':=tk) kp);obtain⟨ep,he⟩:=sortedHeap_at (out:=out) hoL;have lm:(ms.map V.int).length≤sizeLine:=by rw[Na,a2.length_eq,hpm.length_eq];exact NH (Pb h64) (by decide)
 refine⟨.ref h1.objs.size,_,I1.laid (a:=h1.objs.size) (o:=.lst (ms.map V.int)) (t':=tk) (λb u hb=>?_) (Nb _) ⟨lm,out.toList,ep,uT a1,by simpa using he⟩,Z,q _ ms (a2.trans hpm) a3 (I1.hok.fresh (Nb _))⟩;have hlt:b<h1.objs.size:=Nt hb;rw[sortedHeap_old (NT hlt) (by rw[size_push'];exact OM hlt)];exact Nc _ hb
def KB(ta:TA):TE:=λσ H Q=>ta σ H λvs H1=>∃i j:Int,vs=[.int i,.int j]/\∀p,H1 p=none->Q (.ref p) (aE H1 p (.rng i j))
def Jm:R2:=λx y H Q=>∃(i:Int) (p:Addr) (lo hi:Int),x=.int i/\y=.ref p/\H p=some (.rng lo hi)/\Q (.bl (!(decide (lo≤i)&&decide (i<hi)))) H
section
set_option autoImplicit true
set_option relaxedAutoImplicit true
end
def IE(lo n:Nat):List Nat:=(M7 n).map λi=>lo+i
def LW:List V->Hp->VK->Prop:=λxs H Q=>∃p,∃lo n:Nat,xs=[.ref p]/\H p=some (.rng (lo:Int) ((lo+n:Nat):Int))/\lo+n≤1000/\∀l,H l=none->Q (.ref l) (aE H l (.lst ((IE lo n).map λi:Nat=>V.int i)))
theorem w4:Pu "set"=some (.type "set"):=by kernel_rfl
theorem wR{α β:Type}{K:M6}{H:Hp}{D a:Addr}{xs:List V}{ds:List α}{P:Hp->V->β->Prop}{f:α->β}{src:List (Option Nat)}{σ:L2.St}{g:TG}{tt:TT}{te:TE}{Q:Hp->Prop}
  (mono:∀H H' v d,aK K H H'->P H v d->P H' v d) (hD:H D=none) (hS:aV K H a xs) (hl:xs.length=ds.length) (hn:ds.length≤1000)
  (turn:∀(i:Nat) (x:V) (d:α) (H':Hp),xs[i]?=some x->ds[i]?=some d->aD H H'->∀(R:VK) (E:Hp->Prop),(∀v H'',aD H' H''->P H'' v (f d)->R v H'')→
   g x (cJ src σ) H' λσ2 H2=>fu (cJ src σ) σ2/\tt σ2 H2 λok H3=>if ok=true then te σ2 H3 R else E H3)
  (fin:∀H' ys,aD H H'->H' D=some (.lst ys)->cV (P H') ys (ds.map f)->Q H') :
  ∃W:Nat->Nat->List V->Hp->Prop,(∃m,W 0 m [] (aE H D (.lst [])))/\∀i m ys H,W i m ys H->((Br K a).stop i H/\Q H)∨((Br K a).go i H/\∀x H',(Br K a).yld i H x H'→
   g x (cJ src σ) H' λσ2 H2=>fu (cJ src σ) σ2/\tt σ2 H2 λok H3=>
    if ok=true then te σ2 H3 λy H4=>H4 D=some (.lst ys)/\ys.length<sizeLine/\∃m',m'<m/\W (i+1) m' (ys++[y]) (aE H4 D (.lst (ys++[y]))) else ∃m',m'<m/\W (i+1) m' ys H3):=by
 refine⟨λi m ys H'=>i≤ds.length/\m=ds.length-i/\H' D=some (.lst ys)/\aD H H'/\cV (P H') ys ((ds.take i).map f),⟨_,NB _,Z,ag,ai hD _,.nil⟩,?_⟩;rintro i m ys H1 ⟨hi,rfl,d1,s1,al1⟩;have hS1:aV K H1 a xs:=s1.seq hS;by_cases hix:i<ds.length
 ·have hx0:xs[i]?=some (xs[i]'(by omega)):=M8 _;refine .inr ⟨⟨xs,_,hS1,hx0⟩,?_⟩;rintro x H2 ⟨rfl,hy⟩;have hx:=hy xs hS1;obtain⟨d,hd⟩:∃d,ds[i]?=some d:=⟨_,M8 hix⟩;refine turn i x d _ hx hd s1 _ _ λv H3 s3 p3=>?_
  have d3:H3 D=some (.lst ys):=s3 _ _ d1;have tm:aK K H2 (aE H3 D (.lst (ys++[v]))):=(aK.same s3).trans (aK.up d3 _);refine⟨d3,bh (by rw[al1.len,Na,OH];omega),ds.length-(i+1),by omega,hix,Z,ag,λb o q=>?_,?_⟩
  ·rw[aJ (aU q hD)];exact s3 _ _ (s1 _ _ q)
  ·rw[Oi,hd,N5];exact(al1.mono λv d p=>mono _ _ _ _ tm p).snoc (mono _ _ _ _ (aK.up d3 _) p3)
 ·have e:i=ds.length:=by omega
  subst e;rw[Op] at al1;exact .inl ⟨⟨xs,hS1,by omega⟩,fin H1 ys s1 d1 al1⟩
theorem m7(hw:X.w=w)(hc:X.calm=true):c6 X (.builtin "sorted") (zI w):=hw▸pO hc
theorem nW:∀{bs:List Bool} {us:List Value},bE (bs.map V.bl) us->∀{i:Nat} {v:Value},us[i]?=some v->v=.bool (bs.getD i false)
 | [],_,.nil,i,v,e=>by cases e
 |b::bs,_,.cons r t,0,v,e=>by
  rw[QF] at e
  cases e
  exact(show _=QM b from r)
 |b::bs,_,.cons r t,i+1,v,e=>by
  rw[QH] at e;exact nW t e
theorem n9:∀(bs:List Bool),(M7 bs.length).any (λi=>bs.getD i false)=bs.any id
 | []=>rfl
 |b::bs=>by
  rw[NU,R1,Pr,Sx,Pr];have:=n9 bs;show(b||(M7 bs.length).any (λi=>bs.getD i false))=(id b||bs.any id);rw[this];rfl
theorem wY(hc:X.calm=true):c6 X (.builtin "any") (λxs H Q=>∃(p:Addr) (bs:List Bool),xs=[.ref p]/\aV X.K H p (bs.map V.bl)/\Q (.bl (bs.any id)) H):=by
 intro pins s σ H xs us Q I r h;obtain⟨p,bs,rfl,hq,q⟩:=h;obtain⟨u,rfl,rx⟩:=eS r
 cases rx
 obtain⟨its,rv,pl,hz⟩:=I.list hq;have ne:p≠s.heap.objs.size:=by
  obtain⟨o,ho,_⟩:=pl.isList;exact NT (Nt ho)
 have hlen:its.toArray.size=bs.length:=by rw[NK,←rv.length,Na]
 refine call_any_walk (Q6 pl.isList ?_);refine⟨_,_,_,_,_,_,λi=>bs.getD i false,Z,WV (A:=X.A.in1) (I.ok.hd hc) _ p ne its.toArray,⟨⟨_,Nr _ Z,Z,Z⟩,pl.isList.push _⟩,λi v s' Q' E' hv hQ=>?_,λh' tk hk=>?_⟩
 ·have e:=nW rv (i:=i) (v:=v) (by simpa using hv);subst e;exact Pg hQ
 ·rw[hlen,n9];refine⟨.bl _,H,I.kept (t':=tk) λb o e=>hk b o (λz=>?_) (Nc _ e),Z,q⟩;rw[Nm.mp z] at e;exact absurd (Nt e) (Of _)
def KO(te:TE)(i:Nat):TS:=λD σ H=>te σ H λx H1=>∃σ',σ.set i (some x)=σ'/\D.nx σ' H1
section
variable {prog:NW}{w:Ol}{A:N8}{E:Value->Nf->Prop}{s:Nf}
end
section
variable {X:Cx}{pins:List (Addr×O8)}{σ:L2.St}{H:Hp}{A:N8}{E:Value->Nf->Prop}{a kS:Addr}{vs:List Value}{kz:List Int}{f:Value}{e1:Nat}
def Jy(X:Cx)(σ:L2.St)(H:Hp)(A:N8)(f:Value)(vs:List Value)(kz:List Int):Prop:=
 ∀(i:Nat) (v:Value) (k:Int),vs[i]?=some v->kz[i]?=some k->∀(pins:List (Addr×O8)) (s:Nf),Inv X pins σ H s→
  Nv (NJ X.prog X.w) A (call f [v]) (λu s2=>(∃t,u=.int k t)/\Inv X pins σ H s2) (λ_ _=>False) s
end
def EQ(sp:Sp)(key:Nat->Int):List V->Hp->VK->Prop:=λxs H Q=>∃(p:Addr) (n:Nat),xs=[.ref p]/\H p=some (.rng 0 n)/\n<64/\(∀i<n,∀(Qk:VK),Qk (.int (key i)) H->sp [.int (i:Nat)] H Qk λ_ _ _=>False)∧
 ∀(l:Addr) (ms:List Nat),ms.Perm (M7 n)->ms.Pairwise (λa b=>key a≤key b)->H l=none->Q (.ref l) (aE H l (.lst (ms.map λi:Nat=>V.int i)))
def JF(sp:Sp)(key:Nat->Int)(t:TA):TE:=λσ H Q=>t σ H λvs H1=>EQ sp key vs H1 Q
def HJ:V->List V->Hp->VK->Prop:=λx vs H Q=>∃(l:Addr) (ns:List Nat) (j k:Nat),x=.ref l/\vs=[.int (k:Int)]/\H l=some (.lst (ns.map λi:Nat=>V.int i))/\ns[j]?=some k/\(∀m,m<j->ns[m]?≠some k)/\Q .non (aE H l (.lst ((ns.eraseIdx j).map λi:Nat=>V.int i)))
def J3(k:Int):Value->Bool
 | .int i _=>i==k
 |_=>false
theorem CG:Lo X "list.remove" HJ:=by
 intro pins s σ H x vs v us Q I rx rv h;obtain⟨l,ns,j,k,rfl,rfl,hH,hj,hno,q⟩:=h
 cases rx
 obtain⟨u,rfl,ru⟩:=rv.one;obtain⟨t,rfl⟩:=ru;obtain⟨z,its,n,r,hl,e⟩:=I.lstM hH;rw[Na] at z hl;have at_:∀(m:Nat) (w:Value),its[m]?=some w->∃i t',ns[m]?=some i/\w=.int (i:Int) t':=λm w hw=>by
  have hm:m<its.length:=(Ni.mp hw).1;obtain⟨i,hi⟩:∃i,ns[m]?=some i:=⟨_,M8 (by omega)⟩;obtain⟨w',hw',t',e'⟩:=r.get (show(ns.map λi:Nat=>V.int i)[m]?=some (V.int i) by rw[Nh,hi];rfl);rw[hw] at hw'
  cases hw'
  exact⟨i,t',hi,e'⟩
 have jl:j<ns.length:=(Ni.mp hj).1;have mem:∀y,y∈its.toArray->Wm y (.int (k:Int) t) (J3 k y):=λy hy=>by
  obtain⟨m,hm⟩:=Pa (by simpa using hy);obtain⟨i,t',_,rfl⟩:=at_ m y hm;exact Wm.int _ _ _ _
 have val:∀m (hm:m<its.toArray.size) (i:Nat),ns[m]?=some i->J3 k its.toArray[m]=((i:Int)==(k:Int)):=λm hm i hi=>by
  have e1:its[m]?=some (its.toArray[m]):=by simp only[UR];exact M8 (by simpa using hm)
  obtain⟨i',t',h1,h2⟩:=at_ m _ e1;rw[hi] at h1
  cases h1
  rw[h2];rfl
 refine Vl F.slot_list_remove ⟨_,e,Z⟩ F.entry_list_remove (F.args_list_remove_2 _ _)
  (MeetsSeq.list_remove l its.toArray n _ (J3 k) mem j (by simpa [←hl] using jl) (by rw[val j _ k hj];simp) (λm hm lt=>?_) (by rw[NK];omega)) ⟨e,?_⟩
 ·obtain⟨i,hi⟩:∃i,ns[m]?=some i:=⟨_,M8 (by omega)⟩;rw[val m hm i hi];refine beq_eq_false_iff_ne.mpr λz=>hno m lt ?_
  rw[hi];exact congrArg some (by omega)
 refine⟨.non,_,I.lset (its':=its.eraseIdx j) hH e ?_ ?_ ?_,Z,q⟩
 ·show its.toArray.eraseIdxIfInBounds j=(its.eraseIdx j).toArray;rw[List.eraseIdxIfInBounds_toArray]
 ·have:=r.eraseIdx j;have e2:∀(l:List Nat) (j:Nat),(l.map λi:Nat=>V.int i).eraseIdx j=(l.eraseIdx j).map λi:Nat=>V.int i:=by
   intro l
   induction l with
   |nil=>intro j;rfl
   |cons a l ih=>
    intro j
    cases j with
    |zero=>rfl
    |succ j=>simp only[Ob,TX,ih]
  rw[e2] at this;exact this
 ·rw[Na];have:=List.length_eraseIdx_le ns j;omega
def pY(X:Cx)(N':List NV)(scope:Rt)(y:NV)(cl:List (NV×Addr))(C:Addr)(fp:List Addr)(pins:List (Addr×O8))(s:Nf)(H:Hp):Cx:=
 { X with N:=N',s₀:=s,H₀:=H,env:=RU scope ((y,C+1)::cl) C X.env,outer:=X.stack,stack:=X.stack,ex:=fp,fn:=λz=>z==y,pn:=X.pn++pins,xe:=λ_ _=>False}
structure kh(X:Cx)(scope:Rt)(y:NV)(cl:List (NV×Addr)):Prop where
 has:∀x,((RU scope cl 0 X.env).kindOf x=some .cell∨(RU scope cl 0 X.env).kindOf x=some .free)->x=y∨∃c,cl.lookup x=some c
 up:∀x c,cl.lookup x=some c->X.env.cells.lookup x=some c
 no:cl.lookup y=none
theorem wS(h1:((VF scope X.env).names.all λz=>!(z.2==.cell||z.2==.free)||(z.1==y)||(cl.lookup z.1).isSome)=true)(h2:iL X cl)(h3:cl.lookup y=none):kh X scope y cl:=by
 refine⟨λx h=>?_,λx c e=>h2.mem _ (mem_of_lookup e),h3⟩;have h4:=N4.mp h1;have key:∀k:RA,(k=.cell∨k=.free)->(VF scope X.env).names.lookup x=some k->x=y∨∃c,cl.lookup x=some c:=λk hk e=>by
  have q:=h4 _ (mem_of_lookup e);have z:(k==U7||k==W8)=true:=by rcases hk with rfl|rfl<;>rfl
  simp only[z,PM,Tu,WA] at q;rcases q with q|q
  ·exact .inl (Sz q)
  ·exact .inr (Pj.mp q)
 rcases h with h|h
 ·exact key _ (.inl Z) h
 ·exact key _ (.inr Z) h
theorem eX{cl:List (NV×Addr)}(h:((y,a):: cl).lookup x=some c):(x=y/\c=a)∨(x≠y/\cl.lookup x=some c):=by
 rw[R7] at h
 cases e:x==y with
 |true=>
  rw[e] at h;injection h with h;exact .inl ⟨Sz e,h.symm⟩
 |false=>
  rw[e] at h;refine .inr ⟨λz=>?_,h⟩;rw[z,beq_self_eq_true] at e
  cases e
theorem u4{cl:List (NV×Addr)}(n:cl.lookup y=none)(h:cl.lookup x=some c):((y,a):: cl).lookup x=some c:=by
 have ne:(x==y)=false:=by
  cases e:x==y with
  |true=>rw[Sz e,n] at h;cases h
  |false=>rfl
 rw[R7,ne];exact h
section
variable {M:Model}{A:N8}{E:Value->Nf->Prop}{s:Nf}
theorem CF(hs:∀n:Nat,Sy n scope.names cl=(y,n):: cl)(hp:∀h:Np,Wo h scope.names=h.push { cls:=.type "cell",data:=.cell none})
  (hQ:Q { scope,locals:=s.heap.objs.size,globals,cells:=(y,s.heap.objs.size+1):: cl,qual,func:=none,code:=outer.code,frame:=outer.frame,builtins:=outer.builtins} { s with heap:=(s.heap.push { cls:=.type "dict",data:=.dict #[]}).push { cls:=.type "cell",data:=.cell none} }):
  Nv M A (SL scope globals cl [] qual none .none (some outer)) Q E s:=by
 simp only[SL,RH,if_true];refine M9 (wpAny_alloc (M9 (wpAny_layCells _ (λname kind cells=>by cases hkc:kind==U7<;>simp[hkc]) _ _ _ _ ?_)));rw[hs,hp];refine M9 (Nj (Nj ?_));rw[show({ s with heap:=s.heap.push { cls:=.type "dict",data:=.dict #[]} }:Nf).heap.objs.size=s.heap.objs.size+1 from O9 ..];exact hQ
end
section
variable {X:Cx}{N':List NV}{scope:Rt}{y:NV}{cl:List (NV×Addr)}{src:List (Option Nat)}{pins:List (Addr×O8)}{σ:L2.St}{H:Hp}{s:Nf}{fp:List Addr}
theorem Cx.compD_ok{C:Addr}(I:Inv X pins σ H s)(hC:s.heap.objs.size≤C)(hk:scope.kind=.function)(hf:∀b∈fp,hX X pins H b)(hfs:∀b∈fp,b<s.heap.objs.size)(hc:kh X scope y cl) :
  (pY X N' scope y cl C fp pins s H).Ok where
 mod:=I.ok.mod
 kind:=hk
 glob:=I.ok.glob
 blt:=I.ok.blt
 above:=hC
 inj:=λa b c e1 e2=>by
  have old:∀z,cl.lookup z=some (C+1)->False:=λz e=>by
   obtain⟨v,o,ho,_⟩:=I.cell z _ (hc.up z _ e);have q:=Nt ho;exact Of _ (NE (OP (O4 C) q) hC)
  rcases eX e1 with⟨h1,h2⟩ | ⟨_,h2⟩
  ·rcases eX e2 with⟨h3,_⟩ | ⟨_,h4⟩
   ·rw[h1,h3]
   ·rw[h2] at h4;exact(old b h4).elim
  ·rcases eX e2 with⟨_,h4⟩ | ⟨_,h4⟩
   ·rw[h4] at h2;exact(old a h2).elim
   ·exact I.ok.inj a b c (hc.up a c h2) (hc.up b c h4)
 has:=λx h=>by
  rcases hc.has x h with z | ⟨c,z⟩
  ·exact⟨C+1,by show((y,C+1)::cl).lookup x=_;rw[z,R7,beq_self_eq_true]⟩
  ·exact⟨c,u4 hc.no z⟩
 cab:=λx c z e=>by
  have zx:x=y:=Sz z;rcases eX e with⟨_,h2⟩ | ⟨h1,_⟩
  ·rw[h2];exact NH hC (O4 C)
  ·exact absurd zx h1
 hd:=I.ok.hd
 frames:=I.ok.frames
 stk:=.inl Z
 exf:=λb hb=>⟨λz=>by have:=hfs b hb;rw[show b=C from z] at this;exact absurd (NE this hC) (Of _),λx c e=>by
  rcases eX e with⟨_,h2⟩ | ⟨_,h2⟩
  ·have q:=hfs b hb;intro z;rw[show b=C+1 from z.symm.trans h2] at q;exact Of _ (NE (OP (O4 C) q) hC)
  ·exact(hf b hb).2.2.2.2.1 x c (hc.up x c h2)⟩
 bs:=I.bs
 bsz:=NH I.ok.bsz I.sz
 noex:=λb o e hb=>by
  rcases(hf b hb).2.2.2.1 with z|z
  ·exact I.ok.noex b o e z
  ·rw[(I.ok.bs b o e).1] at z;cases z
 exfs:=λb hb z=>by
  rcases Nq.mp (I.stkSub b z) with q|q
  ·exact(hf b hb).2.1 q
  ·exact(hf b hb).2.2.1 q
 funs:=I.stack
 frf:=I.stkFree
theorem Inv.compD{C:Addr}{h₁:Np}{m:NV->Option Value}{tk:Nat}(I:Inv X pins σ H s)(hC:C=s.heap.objs.size)(hns:h₁.Ns C m)(hcl1:h₁.IsCell (C+1) none)(keep:∀b o,s.heap.get? b=some o->h₁.get? b=some o)
  (hk:scope.kind=.function) (hf:∀b∈fp,hX X pins H b) (hfs:∀b∈fp,b<s.heap.objs.size) (hc:kh X scope y cl) (hfree:cS X scope cl N' src) :
  Inv (pY X N' scope y cl C fp pins s H) [] (cJ src σ) H { s with heap:=h₁,toks:=tk} where
 ok:=Cx.compD_ok I (QU hC.symm) hk hf hfs hc
 os:=Z
 bare:=I.bare
 base:=Un.kept keep
 loc:=⟨m,hns,λi x v e1 e2 _=>by
  obtain⟨j,hj,hσ,kc,kc',hl⟩:=hfree.at e1 e2;obtain⟨m0,hn0,hl0⟩:=I.loc;obtain⟨u,r,l⟩:=hl0 j x v hj hσ (NC (NG kc));rcases l with⟨k,_⟩ | ⟨k,c,e,o,ho,hd⟩
  ·rw[kc] at k;cases k
  ·exact⟨u,r,.inr ⟨.inl kc',c,u4 hc.no (hl.trans e),o,keep c o ho,hd⟩⟩⟩
 cell:=λx c e=>by
  rcases eX e with⟨_,h2⟩ | ⟨_,h2⟩
  ·rw[h2];exact⟨none,hcl1⟩
  ·obtain⟨v,o,ho,hd⟩:=I.cell x c (hc.up x c h2);exact⟨v,o,keep _ _ ho,hd⟩
 free:=I.hok.fresh (QU hC.symm)
 freeC:=λx c e=>by
  rcases eX e with⟨_,h2⟩ | ⟨_,h2⟩
  ·rw[h2];exact I.hok.fresh (by rw[hC];exact O4 _)
  ·exact I.freeC x c (hc.up x c h2)
 pin:=λp hp=>by
  have hp':p∈X.pn++pins:=by
   have z:p∈(X.pn++pins)++[]:=hp;rw[O1] at z;exact z
  obtain⟨e,n,ne,nf,d⟩:=I.pin p hp';refine⟨keep _ _ e,n,λz=>?_,λz=>?_,d⟩
  ·have:=Nt e;rw[show p.1=C from z,hC] at this;exact Of _ this
  ·rcases Nq.mp (I.stkSub _ z) with q|q
   ·exact ne q
   ·exact nf q
 hok:=I.hok.kept keep
 len:=by show(cJ src σ).length=N'.length;unfold cJ;rw[Na,hfree.len]
end
section
variable {X:Cx}{N':List NV}{scope:Rt}{y:NV}{cl:List (NV×Addr)}{src:List (Option Nat)}{tg iter elt:N9}{ifs:List N9}{wi:TI}{g:TG}{tt:TT}{te:TE}{pos:Q4}
theorem wQ(hc:X.calm=true)(hi:PI X tg iter wi)(hg:∀C fp pins s H,PG (pY X N' scope y cl C fp pins s H) tg g)(ht:∀C fp pins s H,DO (pY X N' scope y cl C fp pins s H) ifs tt)
  (he:∀C fp pins s H,PE (pY X N' scope y cl C fp pins s H) elt te) (hfree:cS X scope cl N' src) (hcf:∀n:Nat,Sy n scope.names cl=(y,n)::cl) (hcp:∀h:Np,Wo h scope.names=h.push { cls:=.type "cell",data:=.cell none}) (hkind:scope.kind=.function) (hcl:kh X scope y cl)
  {RR:Value->Addr->We->Nf->Prop} {pins:List (Addr×O8)} {s:Nf} {σ:L2.St} {H:Hp} {Q:VK} (I:Inv X pins σ H s) (h:jg wi src g tt te σ H Q)
  (hRR:∀D C H' s',Q (.ref D) H'->(∃m,s'.heap.Ns C m)->Inv X pins σ H' s'->xg X pins H' C->RR (.ref D) C (.ok .next) s') :
  Nv (NJ X.prog X.w) X.A (eval iter X.env) (λx s₁=>Nv (NJ X.prog X.w) X.A (Vd x) (λitv s₂=>Nv (NJ X.prog X.w) X.A (VG []) (λacc s₃=>
   Nv (NJ X.prog X.w) X.A (SL scope X.env.globals cl [] X.env.qual none .none (some X.env)) (λcenv s₄=>
    RS (NJ X.prog X.w) X.A (.compStart (.ListComp elt [⟨tg,iter,ifs,0⟩] scope pos) 0 itv acc { cenv with scope:=VF scope X.env}) (RR acc cenv.locals) s₄) X.xe s₃) X.xe s₂) X.xe s₁) X.xe s:=by
 refine cF (hi pins s σ H _ I h) λv s1 h1=>cF h1 λitv s2 h2=>?_
 obtain⟨it,fp,tn,J,H2,e,I2,T,st2,f2,h2⟩:=h2;subst e;refine N3 ?_ (by show 0≤sizeLine;exact NB _);have hD:H2 s2.heap.objs.size=none:=I2.fresh;have I3:Inv X pins σ (aE H2 s2.heap.objs.size (.lst [])) { s2 with heap:=s2.heap.push { cls:=.type "list",data:=.seq ([]:List Value).toArray} }:=I2.lnew (t':=s2.toks) (its:=[]) .nil (NB _);obtain⟨W,⟨m0,w0⟩,turn⟩:=h2 s2.heap.objs.size hD;generalize hDe:s2.heap.objs.size=D at I3 turn w0 hD ⊢;have st3:tn 0 (s2.heap.push { cls:=.type "list",data:=.seq ([]:List Value).toArray}):=T.keep _ _ _ st2 λb _ o e=>Nc _ e
 have f3:∀b∈fp,hX X pins (aE H2 D (.lst [])) b/\b<(s2.heap.push { cls:=.type "list",data:=.seq ([]:List Value).toArray}).objs.size:=λb hb=>by
  obtain⟨o,e,_⟩:=T.obj _ _ st2 b hb;have l:=Nt e;rw[hDe] at l;refine⟨⟨?_,(f2 b hb).2⟩,by rw[O9,hDe];exact OM l⟩;rw[aJ (NT l)];exact(f2 b hb).1
 generalize (s2.heap.push { cls:=.type "list",data:=.seq ([]:List Value).toArray})=h3 at I3 st3 f3 ⊢;refine CF hcf hcp ?_;have sz:(h3.push { cls:=.type "dict",data:=.dict #[]}).objs.size=h3.objs.size+1:=O9 ..;have hns₄:=(Np.Ns.new h3 (.type "dict")).keeps λb o e=>Nc { cls:=.type "cell",data:=.cell none} e
 have hce₄:((h3.push { cls:=.type "dict",data:=.dict #[]}).push { cls:=.type "cell",data:=.cell none}).IsCell (h3.objs.size+1) none:=⟨_,by rw[←sz];exact Nr _ Z,Z⟩;have keep:∀b o,h3.get? b=some o->((h3.push { cls:=.type "dict",data:=.dict #[]}).push { cls:=.type "cell",data:=.cell none}).get? b=some o:=λb o e=>Nc _ (Nc _ e)
 generalize (h3.push { cls:=.type "dict",data:=.dict #[]}).push { cls:=.type "cell",data:=.cell none}=h₄ at hns₄ hce₄ keep ⊢;have I4:=Inv.compD (C:=h3.objs.size) (fp:=fp) (tk:=s2.toks) I3 Z hns₄ hce₄ keep hkind (λb hb=>(f3 b hb).1) (λb hb=>(f3 b hb).2) hcl hfree;have st4:tn 0 h₄:=T.keep _ _ _ st3 λb _ o e=>keep b o e
 have fpn:∀b∈fp,(aE H2 D (.lst [])) b=none:=λb hb=>(f3 b hb).1.1
 have hn3:∀b∈fp,b≠h3.objs.size:=λb hb=>NT (f3 b hb).2
 have stat:∀{H':Hp},(∀b∈fp,H' b=none)->∀b∈fp,hX (pY X N' scope y cl h3.objs.size fp pins { s2 with heap:=h3} (aE H2 D (.lst []))) [] H' b:=λhn b hb=>
  ⟨hn b hb,hn3 b hb,I4.ok.exfs b hb,.inl hb,λx c e=>(by
   rcases eX e with⟨_,h2⟩ | ⟨_,h2⟩
   ·intro z;have q:=(f3 b hb).2;rw[show b=h3.objs.size+1 from z.symm.trans h2] at q;exact Of _ (OP (O4 _) q)
   ·exact(f3 b hb).1.2.2.2.2.1 x c (hcl.up x c h2)),λp hp=>(f3 b hb).1.2.2.2.2.2 p (by
   have z:p∈(X.pn++pins)++[]:=hp;rw[O1] at z;exact z)⟩
 have back:∀{H':Hp} {s':Nf},Inv (pY X N' scope y cl h3.objs.size fp pins { s2 with heap:=h3} (aE H2 D (.lst []))) [] (cJ src σ) H' s'->(∃m,s'.heap.Ns h3.objs.size m)/\Inv X pins σ H' s'/\xg X pins H' h3.objs.size:=λ{H' s'} I'=>by
  have Ib:Inv X pins σ H' s':=I3.call' I'.os I'.base I'.hok I'.bare λb hb=>⟨(f3 b hb).1.2.2.2.1,(f3 b hb).1.2.1,(f3 b hb).1.2.2.2.2.1,(f3 b hb).1.2.2.2.2.2⟩
  refine⟨let ⟨m,hm,_⟩:=I'.loc;⟨m,hm⟩,Ib,⟨I'.free,λz=>?_,I3.nofs (Nb _),Rb I3.sz,λx c e z=>?_,λp hp z=>?_⟩⟩
  ·have:=I3.lt;rw[←z] at this;exact Of _ this
  ·obtain⟨v,o,ho,_⟩:=I3.cell x c e;have:=Nt ho;rw[z] at this;exact Of _ this
  ·obtain⟨e,_⟩:=I3.pin p hp;have:=Nt e;rw[z] at this;exact Of _ this
 have loop:RS (NJ X.prog X.w) X.A (.compLoop (.ListComp elt [⟨tg,iter,ifs,0⟩] scope pos) 0 (.ref it) (.ref D) (RU scope ((y,h3.objs.size+1)::cl) h3.objs.size X.env)) (RR (.ref D) h3.objs.size) { s2 with heap:=h₄,toks:=s2.toks}:=by
  refine nT (λn s'=>∃i ys H',Inv (pY X N' scope y cl h3.objs.size fp pins { s2 with heap:=h3} (aE H2 D (.lst []))) [] (cJ src σ) H' s'/\tn i s'.heap/\(∀b∈fp,H' b=none)/\W i n ys H') ?_ m0 ⟨0,[],_,I4,st4,fpn,w0⟩;rintro n s5 ⟨i,ys,H5,I5,st5,fr5,w5⟩;rcases turn i n ys H5 w5 with⟨stop,qn⟩ | ⟨go,step⟩
  ·refine cF (T.done (pY X N' scope y cl h3.objs.size fp pins { s2 with heap:=h3} (aE H2 D (.lst []))) rfl rfl rfl hc i [] s5 _ H5 _ I5 (stat fr5) st5 stop) λr s6 ⟨hr,I6⟩=>?_
   subst hr;obtain⟨b1,b2,b3⟩:=back I6;exact hRR D _ H5 s6 qn b1 b2 b3
  ·refine cF (T.item (pY X N' scope y cl h3.objs.size fp pins { s2 with heap:=h3} (aE H2 D (.lst []))) rfl rfl rfl hc i [] s5 _ H5 _ I5 (stat fr5) st5 go) λr s6 ⟨u,hr,h6⟩=>?_
   subst hr;refine cF h6 λ_ s7 ⟨x,H7,I7,r7,y7,st7,fr7⟩=>?_
   have I7':=I7.pinned (stat fr7) (T.obj _ _ st7);refine cF (hg _ _ _ _ _ _ s7 _ H7 x u _ I7' r7 (step x H7 y7)) λ_ s8 ⟨σ8,H8,I8,ex8,q8⟩=>?_
   refine cF (ht _ _ _ _ _ _ s8 σ8 H8 _ I8 q8) λok s9 ⟨H9,I9,q9⟩=>?_
   have again:∀{ys':List V} {Ha:Hp} {sa:Nf},Inv (pY X N' scope y cl h3.objs.size fp pins { s2 with heap:=h3} (aE H2 D (.lst []))) ([]++jX fp s7.heap) σ8 Ha sa->(∃m',m'<n/\W (i+1) m' ys' Ha)→
     ∃m,m<n/\∃i ys H',Inv (pY X N' scope y cl h3.objs.size fp pins { s2 with heap:=h3} (aE H2 D (.lst []))) [] (cJ src σ) H' sa/\tn i sa.heap/\(∀b∈fp,H' b=none)/\W i m ys H':=λ{ys' Ha sa} Ia ⟨m',hm,wa⟩=>by
    refine⟨m',hm,i+1,ys',Ha,(Ia.unpinned).weak ex8.1.symm ex8.2,T.keep _ _ _ st7 λb hb o e=>(Ia.pin (b,o) (Nz _ (Nz _ (eK hb e)))).1,λb hb=>?_,wa⟩;obtain⟨o,e,_⟩:=T.obj _ _ st7 b hb;exact(Ia.pin (b,o) (Nz _ (Nz _ (eK hb e)))).2.1
   cases ok with
   |false=>exact again I9 q9
   |true=>
    refine cF (he _ _ _ _ _ _ s9 σ8 H9 _ I9 q9) λy s10 ⟨yv,H10,I10,r10,q10,hz,wn⟩=>?_
    refine cF (cE _ s10 σ8 H10 (.ref D) [yv] (.ref D) [y] (λ_ Hz=>∃m',m'<n/\W (i+1) m' (ys++[yv]) Hz) I10 Z (.cons r10 .nil) ⟨D,ys,yv,Z,Z,q10,hz,wn⟩) λ_ s11 ⟨_,H11,I11,_,q11⟩=>?_
    exact again I11 q11
 exact Uk loop (T.self _ 0 _ _ _ st4 loop)
theorem zW{i:Nat}{x:NV}{pos' pos2:Q4}(hN:X.N.Nodup)(hi':X.N[i]?=some x)(hx:xh X.env.scope x)(hc:X.calm=true)(hi:PI X tg iter wi)(hg:∀C fp pins s H,PG (pY X N' scope y cl C fp pins s H) tg g)(ht:∀C fp pins s H,DO (pY X N' scope y cl C fp pins s H) ifs tt)
  (he:∀C fp pins s H,PE (pY X N' scope y cl C fp pins s H) elt te) (hfree:cS X scope cl N' src) (hclos:R8 scope X.env=Pq cl) (hcf:∀n:Nat,Sy n scope.names cl=(y,n)::cl) (hcp:∀h:Np,Wo h scope.names=h.push { cls:=.type "cell",data:=.cell none}) (hkind:scope.kind=.function)
  (hnames:∀x∈scope.names,x.2=.local->scope.names.lookup x.1=some .local) (hcl:kh X scope y cl) (hs:∀x,Ph iter X.env x=Pq x:=by intro _;rfl)
  (hsw:Q3 (.ListComp elt [⟨tg,iter,ifs,0⟩] scope pos) (some (.Name x pos')) pos2.line X.env=Pq true:=by rfl) (hf:X.fn x=true∨X.env.scope.names.lookup x=some .local:=by first|exact .inl Z|exact .inr Z|assumption) :
  PS X (.Assign [.Name x pos'] (.ListComp elt [⟨tg,iter,ifs,0⟩] scope pos) pos2) (oC (jg wi src g tt te) (jx i)):=by
 intro pins s σ H D I h;rw[Uw _ _ _ _ hsw];refine M9 (Se ?_);show Nv _ _ ((comprehension (.ListComp elt [⟨tg,iter,ifs,0⟩] scope pos) scope X.env _ (VG []) false (eval iter X.env) (some (R6 (.Name x pos') X.env)) >>= λ_=>Pq ()) >>= λ_=>Pq V9) _ _ s;refine M9 (M9 (Qw (RC (use:=some (R6 (.Name x pos') X.env)) (Q:=λ_ s''=>SP X pins D .next s'') Z hs hclos hkind hnames (wQ hc hi hg ht he hfree hcf hcp hkind hcl (RR:=λacc C=>compPost (NJ X.prog X.w) X.A X.xe (some (R6 (.Name x pos') X.env)) (λ_ s''=>SP X pins D .next s'') acc C) I h λE C H' s' q hm hI hb=>?_)) (λ_ s'' h''=>Nj (Nj h'')) λ_ _ e=>e));obtain⟨m,o,es,ep,ho,hd,r1,r2⟩:=hm;have I':Inv X (pins++[(C,o)]) σ H' s':=hI.pins_of λp hp=>by
  rcases NF.mp hp with h|h
  ·exact hI.pin p (Nz _ h)
  ·rw[Nm] at h;rw[h];exact⟨ho,hb.no,hb.lo,hb.fs,λv z=>by rw[hd] at z;cases z⟩
 refine Td (fP I' hN hi' hx (show bv (.ref E) (.ref E) from Z) (λs'' I''=>?_) hf);have hC:=(I''.pin (C,o) (Nz _ (Nz _ Ng))).1;have I3:Inv X pins (σ.set i (some (.ref E))) H' s'':=I''.pins_of λp hp=>I''.pin p (Nz _ (OX _ hp))
 exact⟨m,⟨o,es,ep,hC,hd,r1,r2⟩,λh' sb=>⟨_,H',hb.turned I3 sb,q⟩⟩
end
section
variable {X:Cx}{N':List NV}{scope:Rt}{y:NV}{cl:List (NV×Addr)}{src:List (Option Nat)}{tg iter elt:N9}{ifs:List N9}{wi:TI}{g:TG}{tt:TT}{te:TE}{pos:Q4}
theorem zL{i:Nat}{x:NV}{pos' pos2:Q4}(hN:X.N.Nodup)(hi':X.N[i]?=some x)(hx:xh X.env.scope x)(hc:X.calm=true)(hi:QI X tg iter wi)(hg:∀C fp pins s H,QG (pY X N' scope y cl C fp pins s H) tg g)(ht:∀C fp pins s H,GW (pY X N' scope y cl C fp pins s H) ifs tt)(he:∀C fp pins s H,QE (pY X N' scope y cl C fp pins s H) elt te)(hfree:cS X scope cl N' src)(hclos:R8 scope X.env=Pq cl)(hcf:∀n:Nat,Sy n scope.names cl=(y,n)::cl)(hcp:∀h:Np,Wo h scope.names=h.push { cls:=.type "cell",data:=.cell none})(hkind:scope.kind=.function)(hnames:∀x∈scope.names,x.2=.local->scope.names.lookup x.1=some .local)(hcl:kh X scope y cl)(hs:∀x,Ph iter X.env x=Pq x:=by intro _;rfl)(hsw:Q3 (.ListComp elt [⟨tg,iter,ifs,0⟩] scope pos) (some (.Name x pos')) pos2.line X.env=Pq true:=by rfl)(hf:X.fn x=true∨X.env.scope.names.lookup x=some .local:=by first|exact .inl Z|exact .inr Z|assumption):QS X (.Assign [.Name x pos'] (.ListComp elt [⟨tg,iter,ifs,0⟩] scope pos) pos2) (oC (jg wi src g tt te) (jx i)):=⟨zW hN hi' hx hc hi.p (λz0 z1 z2 z3 z4=>(hg z0 z1 z2 z3 z4).p) (λz0 z1 z2 z3 z4=>(ht z0 z1 z2 z3 z4).p) (λz0 z1 z2 z3 z4=>(he z0 z1 z2 z3 z4).p) hfree hclos hcf hcp hkind hnames hcl hs hsw hf⟩
theorem v4(hclos:R8 scope X.env=Pq cl)(hc:X.calm=true)(hi:QI X tg iter wi)(hg:∀C fp pins s H,QG (j6 X N' scope cl C fp pins s H) tg g)(ht:∀C fp pins s H,GW (j6 X N' scope cl C fp pins s H) ifs tt)(he:∀C fp pins s H,QE (j6 X N' scope cl C fp pins s H) elt te)(hfree:cS X scope cl N' src)(hcell:∀x∈scope.names,x.2≠.cell)(hkind:scope.kind=.function)(hnames:∀x∈scope.names,x.2=.local->scope.names.lookup x.1=some .local)(hcl:fG X scope cl)(hs:∀x,Ph iter X.env x=Pq x:=by intro _;rfl):QE X (.ListComp elt [⟨tg,iter,ifs,0⟩] scope pos) (jg wi src g tt te):=bD hc hi hg ht he hfree hclos hcell hkind hnames hcl hs
theorem zM{K:M6}{l tg:N9}{tl:TE}(hK:X.K=K)(hl:QE X l tl):QI X tg l (AN K tl):=by subst hK;exact cX hl
theorem uc{X:Cx}{K:M6}(hK:X.K=K)(hc:X.calm=true):c6 X (.builtin "any") (λxs H Q=>∃p bs,xs=[V.ref p]/\aV K H p (Xv V.bl bs)/\Q (V.bl (bs.any id)) H):=by subst hK;exact wY hc
end
structure dY(K:M6)(n:NV)(st:Stmt)(f:Addr)(d:Nl):Prop where
 p:PySem.W.nsIn K NS n=some (some (.ref f))
 F:eg K n n st f d
section
variable {K:M6}{n:NV}{st:Stmt}{f:Addr}{d:Nl}
theorem isF{oc:Value}{od an:Option Addr}{sl:Array (Option Value)}{kV dc pm cd ct:Value}(p:PySem.W.nsIn K NS n=some (some (.ref f)))
  (l:K.lookup f=some ⟨oc,od,.func (P8 n n (f9 st) (fF st) (av st) .none kV dc pm an cd ct),sl⟩) (c:SI K cd n=true) (k:PQ K (.ref f)=true) :
  dY K n st f (P8 n n (f9 st) (fF st) (av st) .none kV dc pm an cd ct):=⟨p,Gf l c k⟩
abbrev BA(n:NV)(st:Stmt)(us:List Value)(ps:List NV):Prop:=∀(kV dc pm:Value) (an:Option Addr) (cd ct:Value),WL (P8 n n (f9 st) (fF st) (av st) .none kV dc pm an cd ct) ⟨us,[]⟩=Pq (ps.zip us)
theorem dY.b1{x:NV}(I:dY K n st f d)(h:∀u,BA n st [u] [x]:=by exact λ_ _ _ _ _ _ _=>Z):ba K d [x] []:=I.F.binds λa b c e g i us hl=>match us,hl with | [u],_=>h u a b c e g i
theorem dY.b2{x y:NV}(I:dY K n st f d)(h:∀u v,BA n st [u,v] [x,y]:=by exact λ_ _ _ _ _ _ _ _=>Z):ba K d [x,y] []:=I.F.binds λa b c e g i us hl=>match us,hl with | [u,v],_=>h u v a b c e g i
theorem dY.b3{x y z:NV}(I:dY K n st f d)(h:∀u v w,BA n st [u,v,w] [x,y,z]:=by exact λ_ _ _ _ _ _ _ _ _=>Z):ba K d [x,y,z] []:=I.F.binds λa b c e g i us hl=>match us,hl with | [u,v,w],_=>h u v w a b c e g i
theorem dY.b4{x y z t:NV}(I:dY K n st f d)(h:∀u v w r,BA n st [u,v,w,r] [x,y,z,t]:=by exact λ_ _ _ _ _ _ _ _ _ _=>Z):ba K d [x,y,z,t] []:=I.F.binds λa b c e g i us hl=>match us,hl with | [u,v,w,r],_=>h u v w r a b c e g i
theorem dY.b5{x y z t s:NV}(I:dY K n st f d)(h:∀u v w r q,BA n st [u,v,w,r,q] [x,y,z,t,s]:=by exact λ_ _ _ _ _ _ _ _ _ _ _=>Z):ba K d [x,y,z,t,s] []:=I.F.binds λa b c e g i us hl=>match us,hl with | [u,v,w,r,q],_=>h u v w r q a b c e g i
end
theorem ae{X:Cx}{st:Stmt}{em:List Stmt}{t u:TS}(h1:QS X st t)(h2:dS X em u):dS X (st::em) (let Uq:=u;DZ t Uq):=zK h1 h2
def IS(K:M6)(a b:Addr):It:=
 ⟨λi H=>∃xs ys x y,aV K H a xs/\bC K H b ys/\xs[i]?=some x/\ys[i]?=some y,
  λi H v H'=>∃p x y,H p=none/\v=.ref p/\H'=aE H p (.tup [x,y])/\(∀xs,aV K H a xs->xs[i]?=some x)/\∀ys,bC K H b ys->ys[i]?=some y,
  λi H=>∃xs ys,aV K H a xs/\bC K H b ys/\(xs.length≤i∨ys.length≤i)⟩
def Lf(z TI TO i1 i2 a b:Addr)(i:Nat)(h:Np):Prop:=IsZip h z TI TO .none/\WR h TI (.ref i1) (.ref i2)/\(∃u v,WR h TO u v)/\h.IsListIter i1 a i/\h.IsTupleIter i2 b i
abbrev G8(h:Np)(a:Addr):Np:=h.push { cls:=.type "list_iterator",data:=.fields #[.ref a,.int 0 0]}
abbrev G6(h:Np)(a b:Addr):Np:=(G8 h a).push { cls:=.type "tuple_iterator",data:=.fields #[.ref b,.int 0 0]}
abbrev G4(h:Np)(a b:Addr):Np:=(G6 h a b).push { cls:=.type "tuple",data:=.seq #[.ref h.objs.size,.ref (G8 h a).objs.size]}
abbrev JA(h:Np)(a b:Addr):Np:=(G4 h a b).push { cls:=.type "tuple",data:=.seq #[.none,.none]}
abbrev Lw(h:Np)(a b:Addr):Np:=(JA h a b).push { cls:=.type "zip",data:=.fields #[.none,.bool false,.bool false,.ref (G6 h a b).objs.size,.ref (G4 h a b).objs.size]}
def J5(K:M6)(ta:TA):TI:=λσ H R=>ta σ H λvs H1=>∃a b,vs=[.ref a,.ref b]/\(∃xs,aV K H1 a xs)/\(∃ys,bC K H1 b ys)/\R (IS K a b) H1
def IT(K:M6)(a b:Addr):It:=
 ⟨λi H=>∃xs ys x y,aV K H a xs/\aV K H b ys/\xs[i]?=some x/\ys[i]?=some y,
  λi H v H'=>∃p x y,H p=none/\v=.ref p/\H'=aE H p (.tup [x,y])/\(∀xs,aV K H a xs->xs[i]?=some x)/\∀ys,aV K H b ys->ys[i]?=some y,
  λi H=>∃xs ys,aV K H a xs/\aV K H b ys/\(xs.length≤i∨ys.length≤i)⟩
def Lg(z TI TO i1 i2 a b:Addr)(i:Nat)(h:Np):Prop:=IsZip h z TI TO .none/\WR h TI (.ref i1) (.ref i2)/\(∃u v,WR h TO u v)/\h.IsListIter i1 a i/\h.IsListIter i2 b i
abbrev G9(h:Np)(a:Addr):Np:=h.push { cls:=.type "list_iterator",data:=.fields #[.ref a,.int 0 0]}
abbrev G7(h:Np)(a b:Addr):Np:=(G9 h a).push { cls:=.type "list_iterator",data:=.fields #[.ref b,.int 0 0]}
abbrev G5(h:Np)(a b:Addr):Np:=(G7 h a b).push { cls:=.type "tuple",data:=.seq #[.ref h.objs.size,.ref (G9 h a).objs.size]}
abbrev JB(h:Np)(a b:Addr):Np:=(G5 h a b).push { cls:=.type "tuple",data:=.seq #[.none,.none]}
abbrev Lx(h:Np)(a b:Addr):Np:=(JB h a b).push { cls:=.type "zip",data:=.fields #[.none,.bool false,.bool false,.ref (G7 h a b).objs.size,.ref (G5 h a b).objs.size]}
def J6(K:M6)(ta:TA):TI:=λσ H R=>ta σ H λvs H1=>∃a b,vs=[.ref a,.ref b]/\(∃xs,aV K H1 a xs)/\(∃ys,aV K H1 b ys)/\R (IT K a b) H1
section
variable {prog:NW}{w:Ol}{A:N8}{E:Value->Nf->Prop}
end
section
variable {prog:NW}{w:Ol}{A:N8}{E:Value->Nf->Prop}{s:Nf}
end
structure IM(K:M6)(H:Hp)(ys:List V)(kvs:List (List dz×V)):Prop where
 len:ys.length=kvs.length
 row:∀(i:Nat) (kv:List dz×V),kvs[i]?=some kv->∃r b,ys[i]?=some (.ref r)/\bC K H r [.ref b,kv.2]/\H b=some (.tup (kv.1.map kV))
 nd:(kvs.map (·.1)).Nodup
def JU(K:M6):List V->Hp->VK->Prop:=λvs H Q=>∃(p:Addr) (ob:O8) (ys:List V) (kvs:List (List dz×V)),vs=[.ref p]/\H p=some (.frz ob (.tup ys))/\ob.dict=none/\IM K H ys kvs/\∀l,H l=none->Q (.ref l) (aE H l (.dT kvs))
def KU(K:M6):List V->Hp->VK->Prop:=λvs H Q=>∃(p:Addr) (ys:List V),vs=[.ref p]/\aV K H p ys/\∀(l:Addr) (ob:O8),H l=none->ob.dict=none->Q (.ref l) (aE H l (.frz ob (.tup ys)))
section
variable {X:Cx}{K:M6}
end
end B
local macro_rules
 | `(tactic| nofun)=>`(tactic| (extract_lets +lift;try dsimp -zeta -zetaDelta only[L2.Cx.nox,L2.Cx.wish,L2.b6]))
namespace My
open PySem L2 B PyProof.Rows
theorem cw{X:Cx}{pos:Q4}(i:Nat){x:NV}{e:N9}{te:TE}{pos':Q4}(hN:X.N.Nodup)(he:QE X e te)(hi:X.N[i]?=some x:=by rfl)(hx:xh X.env.scope x:=by first|exact NG Z|exact NC Z)(hs:Q3 e (some (.Name x pos')) pos.line X.env=Pq false:=by rfl)(hf:X.fn x=true∨X.env.scope.names.lookup x=some .local:=by first|exact .inl Z|exact .inr Z|assumption):QS X (.Assign [.Name x pos'] e pos) (oC te (jx i)):=ET hN hi hx he hs hf
theorem fg{N P:List NV}{sc:Rt}(a:sc.kind=.function:=by rfl)(b:sc.isCoroutine=false:=by rfl)(c:sc.isGenerator=false:=by rfl)(d:N.Nodup:=by decide +kernel)(e:N.take P.length=P:=by rfl)(f:∀x∈P,sc.names.lookup x=some .local∨sc.names.lookup x=some .cell:=by decide +kernel)(g:∀y∈sc.names,y.2≠.free:=by decide +kernel):aM N P sc:=⟨a,b,c,d,e,f,g⟩
theorem cI{X:Cx}{k j:Nat}{f:Addr}{fd:Nl}{ps:List NV}{sp:Sp}{x:NV}{p pos:Q4}{e:N9}{es:List N9}{t:TA}(F:bX X.prog X.w X.K X.mg X.base ee k f fd ps sp)(hr:ft j X.A)(hm:X.mg x=some (.ref f))(hk:PQ X.K (.ref f)=true)(hb:ba X.K fd ps [])(ha:QA X (e::es) t)(hl:k≤j:=by decide)(hg:Gl X x:=by rfl)(hdb:(x==("__debug__" : NV))=false:=by decide)(he:Nw (e::es) X.env=(false,eval e X.env)::Nw es X.env:=by rfl)(hpl:(Rc pos (Nw es X.env)).any (·.1)=false:=by rfl):QE X (.Call (.Name x p) (e::es) [] pos) (xT sp [] E0 t):=fz F (hr.mono hl) hg hm hk hb .nil ju ha hdb he hpl
theorem bZ{X:Cx}{a b:N9}{ta tb:TE}{pos:Q4}{r:R2}(hr:GG X r)(ha:QE X a ta)(hb:QE X b tb)(hs:pT b:=by exact λ_ _=>Z):QE X (.Subscript a b pos) (By r ta tb):=bB hr ha hb hs
theorem MU{K:M6}{x qual:NV}{st:Stmt}{f:Addr}{fd:Nl}{ps:List NV}(F:eg K x qual st f fd) (h:∀(kV doc pm:Value) (an:Option Addr) (cdv ct:Value) (us:List Value),us.length=ps.length->WL (P8 x qual (f9 st) (fF st) (av st) .none kV doc pm an cdv ct) ⟨us,[]⟩=Pq (ps.zip us):=by
 intro _ _ _ _ _ _ us hl
 match us,hl with
 | [],h2=>first|rfl | (simp at h2)
 | [_],h2=>first|rfl | (simp at h2)
 | [_,_],h2=>first|rfl | (simp at h2)
 | [_,_,_],h2=>first|rfl | (simp at h2)
 | [_,_,_,_],h2=>first|rfl | (simp at h2)
 |_::_::_::_::_::_,h2=>simp at h2):ba K fd ps []:=F.binds h
def top(i:Nat):Stmt:=PySem.Challenge.pw_paceplan_k46_whole_fits_or_too_much.main.body.getD i (.Pass ⟨0,0,0,0⟩)
abbrev zf:Stmt:=top 1
abbrev EF:Stmt:=top 2
abbrev zo:Stmt:=top 3
abbrev EJ:Stmt:=top 12
abbrev yO:Stmt:=top 13
abbrev yJ:Stmt:=top 14
abbrev yN:Stmt:=top 15
abbrev yM:Stmt:=top 16
abbrev yI:Stmt:=top 17
abbrev yU:Stmt:=top 18
abbrev yQ:Stmt:=top 19
abbrev yL:Stmt:=top 20
abbrev zu:Stmt:=top 21
abbrev zn:Stmt:=top 24
abbrev zt:Stmt:=top 25
abbrev ze:Stmt:=top 26
abbrev EE:Stmt:=top 27
abbrev zd:Stmt:=top 28
abbrev ED:Stmt:=top 30
abbrev yH:Stmt:=top 31
abbrev EI:Stmt:=top 32
abbrev zc:Stmt:=top 33
abbrev yP:Stmt:=top 34
abbrev EH:Stmt:=top 35
abbrev EC:Stmt:=top 36
abbrev EG:Stmt:=top 38
abbrev zb:Stmt:=top 39
abbrev zm:Stmt:=top 40
abbrev yK:Stmt:=top 41
abbrev zq:Stmt:=top 42
abbrev EB:Stmt:=top 46
abbrev zk:Stmt:=top 47
abbrev yG:Stmt:=top 48
abbrev za:Stmt:=top 50
abbrev yZ:Stmt:=top 51
abbrev yY:Stmt:=top 53
abbrev yT:Stmt:=top 54
abbrev yS:Stmt:=top 55
abbrev yX:Stmt:=top 56
abbrev yR:Stmt:=top 57
abbrev zj:Stmt:=top 58
abbrev zi:Stmt:=top 59
abbrev EA:Stmt:=top 60
abbrev zp:Stmt:=top 61
abbrev yW:Stmt:=top 62
abbrev yV:Stmt:=top 63
abbrev zw:Stmt:=top 64
abbrev zr:Stmt:=top 65
abbrev zh:Stmt:=top 66
abbrev zg:Stmt:=top 67
abbrev yF:Stmt:=top 68
set_option genInjectivity false in
structure Ad where
 a_Q25:Addr
 d_Q25:Nl
 a_Q4:Addr
 d_Q4:Nl
 a_Q16:Addr
 d_Q16:Nl
 a_Q0:Addr
 d_Q0:Nl
 a_Q45:Addr
 d_Q45:Nl
 a_Q50:Addr
 d_Q50:Nl
 a_Q46:Addr
 d_Q46:Nl
 a_Q47:Addr
 d_Q47:Nl
 a_Q51:Addr
 d_Q51:Nl
 a_Q36:Addr
 d_Q36:Nl
 a_Q41:Addr
 d_Q41:Nl
 a_Q48:Addr
 d_Q48:Nl
 a_Q11:Addr
 d_Q11:Nl
 a_Q17:Addr
 d_Q17:Nl
 a_Q12:Addr
 d_Q12:Nl
 a_Q26:Addr
 d_Q26:Nl
 a_Q5:Addr
 d_Q5:Nl
 a_Q27:Addr
 d_Q27:Nl
 a_Q6:Addr
 d_Q6:Nl
 a_Q52:Addr
 d_Q52:Nl
 a_Q1:Addr
 d_Q1:Nl
 a_Q28:Addr
 d_Q28:Nl
 a_Q42:Addr
 d_Q42:Nl
 a_Q2:Addr
 d_Q2:Nl
 a_Q7:Addr
 d_Q7:Nl
 a_Q3:Addr
 d_Q3:Nl
 a_Q29:Addr
 d_Q29:Nl
 a_Q18:Addr
 d_Q18:Nl
 a_Q49:Addr
 d_Q49:Nl
 a_Q14:Addr
 d_Q14:Nl
 a_Q8:Addr
 d_Q8:Nl
 a_Q19:Addr
 d_Q19:Nl
 a_Q53:Addr
 d_Q53:Nl
 a_Q30:Addr
 d_Q30:Nl
 a_Q31:Addr
 d_Q31:Nl
 a_Q32:Addr
 d_Q32:Nl
 a_Q37:Addr
 d_Q37:Nl
 a_Q38:Addr
 d_Q38:Nl
 a_Q33:Addr
 d_Q33:Nl
 a_Q39:Addr
 d_Q39:Nl
 a_Q20:Addr
 d_Q20:Nl
 a_Q21:Addr
 d_Q21:Nl
 a_Q9:Addr
 d_Q9:Nl
 a_Q15:Addr
 d_Q15:Nl
 a_Q34:Addr
 d_Q34:Nl
 a_Q35:Addr
 d_Q35:Nl
 a_Q10:Addr
 d_Q10:Nl
 a_Q13:Addr
 d_Q13:Nl
 a_Q22:Addr
 d_Q22:Nl
 a_Q23:Addr
 d_Q23:Nl
 a_Q54:Addr
 d_Q54:Nl
 c_NOUGHT:Addr
 k_TURNS:W5
 k_FITS:W5
 k_MUCH:W5
 c_Q24:Addr
 c_Q43:Addr
 c_Q44:Addr
 c_Q40:Addr
structure fc(K:M6)(mg:NV->Option Value)(t:Ad):Prop where
 F_Q25:eg K "is_whole" "is_whole" zf t.a_Q25 t.d_Q25
 b_Q25:ba K t.d_Q25 ["thing"] []
 m_Q25:mg "is_whole"=some (.ref t.a_Q25)
 F_Q4:eg K "is_number_of" "is_number_of" EF t.a_Q4 t.d_Q4
 b_Q4:ba K t.d_Q4 ["thing","count"] []
 m_Q4:mg "is_number_of"=some (.ref t.a_Q4)
 F_Q16:eg K "is_rising" "is_rising" zo t.a_Q16 t.d_Q16
 b_Q16:ba K t.d_Q16 ["thing","count"] []
 m_Q16:mg "is_rising"=some (.ref t.a_Q16)
 F_Q0:eg K "greatest_divisor" "greatest_divisor" EJ t.a_Q0 t.d_Q0
 b_Q0:ba K t.d_Q0 ["one","other"] []
 m_Q0:mg "greatest_divisor"=some (.ref t.a_Q0)
 F_Q45:eg K "ratio" "ratio" yO t.a_Q45 t.d_Q45
 b_Q45:ba K t.d_Q45 ["top","bottom"] []
 m_Q45:mg "ratio"=some (.ref t.a_Q45)
 F_Q50:eg K "plus" "plus" yJ t.a_Q50 t.d_Q50
 b_Q50:ba K t.d_Q50 ["one","other"] []
 m_Q50:mg "plus"=some (.ref t.a_Q50)
 F_Q46:eg K "minus" "minus" yN t.a_Q46 t.d_Q46
 b_Q46:ba K t.d_Q46 ["one","other"] []
 m_Q46:mg "minus"=some (.ref t.a_Q46)
 F_Q47:eg K "times" "times" yM t.a_Q47 t.d_Q47
 b_Q47:ba K t.d_Q47 ["one","other"] []
 m_Q47:mg "times"=some (.ref t.a_Q47)
 F_Q51:eg K "over" "over" yI t.a_Q51 t.d_Q51
 b_Q51:ba K t.d_Q51 ["one","other"] []
 m_Q51:mg "over"=some (.ref t.a_Q51)
 F_Q36:eg K "is_less" "is_less" yU t.a_Q36 t.d_Q36
 b_Q36:ba K t.d_Q36 ["one","other"] []
 m_Q36:mg "is_less"=some (.ref t.a_Q36)
 F_Q41:eg K "lesser" "lesser" yQ t.a_Q41 t.d_Q41
 b_Q41:ba K t.d_Q41 ["one","other"] []
 m_Q41:mg "lesser"=some (.ref t.a_Q41)
 F_Q48:eg K "total" "total" yL t.a_Q48 t.d_Q48
 b_Q48:ba K t.d_Q48 ["some"] []
 m_Q48:mg "total"=some (.ref t.a_Q48)
 F_Q11:eg K "whole_parts" "whole_parts" zu t.a_Q11 t.d_Q11
 b_Q11:ba K t.d_Q11 ["some"] []
 m_Q11:mg "whole_parts"=some (.ref t.a_Q11)
 F_Q17:eg K "in_window" "in_window" zn t.a_Q17 t.d_Q17
 b_Q17:ba K t.d_Q17 ["work","turn"] []
 m_Q17:mg "in_window"=some (.ref t.a_Q17)
 F_Q12:eg K "no_leanings" "no_leanings" zt t.a_Q12 t.d_Q12
 b_Q12:ba K t.d_Q12 ["count"] []
 m_Q12:mg "no_leanings"=some (.ref t.a_Q12)
 F_Q26:eg K "add_lean" "add_lean" ze t.a_Q26 t.d_Q26
 b_Q26:ba K t.d_Q26 ["leanings","lean"] []
 m_Q26:mg "add_lean"=some (.ref t.a_Q26)
 F_Q5:eg K "all_leanings" "all_leanings" EE t.a_Q5 t.d_Q5
 b_Q5:ba K t.d_Q5 ["count","leans"] []
 m_Q5:mg "all_leanings"=some (.ref t.a_Q5)
 F_Q27:eg K "drawn_in" "drawn_in" zd t.a_Q27 t.d_Q27
 b_Q27:ba K t.d_Q27 ["sheet"] []
 m_Q27:mg "drawn_in"=some (.ref t.a_Q27)
 F_Q6:eg K "kept_windows" "kept_windows" ED t.a_Q6 t.d_Q6
 b_Q6:ba K t.d_Q6 ["works","left"] []
 m_Q6:mg "kept_windows"=some (.ref t.a_Q6)
 F_Q52:eg K "held" "held" yH t.a_Q52 t.d_Q52
 b_Q52:ba K t.d_Q52 ["windows","begin","end"] []
 m_Q52:mg "held"=some (.ref t.a_Q52)
 F_Q1:eg K "tightest_places" "tightest_places" EI t.a_Q1 t.d_Q1
 b_Q1:ba K t.d_Q1 ["windows","amounts","count"] []
 m_Q1:mg "tightest_places"=some (.ref t.a_Q1)
 F_Q28:eg K "tightest" "tightest" zc t.a_Q28 t.d_Q28
 b_Q28:ba K t.d_Q28 ["works","left"] []
 m_Q28:mg "tightest"=some (.ref t.a_Q28)
 F_Q42:eg K "layers" "layers" yP t.a_Q42 t.d_Q42
 b_Q42:ba K t.d_Q42 ["works"] []
 m_Q42:mg "layers"=some (.ref t.a_Q42)
 F_Q2:eg K "layer_density" "layer_density" EH t.a_Q2 t.d_Q2
 b_Q2:ba K t.d_Q2 ["works","layer"] []
 m_Q2:mg "layer_density"=some (.ref t.a_Q2)
 F_Q7:eg K "layer_speeds" "layer_speeds" EC t.a_Q7 t.d_Q7
 b_Q7:ba K t.d_Q7 ["works"] []
 m_Q7:mg "layer_speeds"=some (.ref t.a_Q7)
 F_Q3:eg K "first_to_come" "first_to_come" EG t.a_Q3 t.d_Q3
 b_Q3:ba K t.d_Q3 ["works","leanings","waiting"] []
 m_Q3:mg "first_to_come"=some (.ref t.a_Q3)
 F_Q29:eg K "order_of" "order_of" zb t.a_Q29 t.d_Q29
 b_Q29:ba K t.d_Q29 ["works","leans"] []
 m_Q29:mg "order_of"=some (.ref t.a_Q29)
 F_Q18:eg K "deal_turn" "deal_turn" zm t.a_Q18 t.d_Q18
 b_Q18:ba K t.d_Q18 ["works","order","left","turn","speed"] []
 m_Q18:mg "deal_turn"=some (.ref t.a_Q18)
 F_Q49:eg K "dealt" "dealt" yK t.a_Q49 t.d_Q49
 b_Q49:ba K t.d_Q49 ["works","leans","speeds"] []
 m_Q49:mg "dealt"=some (.ref t.a_Q49)
 F_Q14:eg K "least_plan" "least_plan" zq t.a_Q14 t.d_Q14
 b_Q14:ba K t.d_Q14 ["sheet"] []
 m_Q14:mg "least_plan"=some (.ref t.a_Q14)
 F_Q8:eg K "bound_amount" "bound_amount" EB t.a_Q8 t.d_Q8
 b_Q8:ba K t.d_Q8 ["work","top","turns"] []
 m_Q8:mg "bound_amount"=some (.ref t.a_Q8)
 F_Q19:eg K "lets_much" "lets_much" zk t.a_Q19 t.d_Q19
 b_Q19:ba K t.d_Q19 ["works","hands","top","thing"] []
 m_Q19:mg "lets_much"=some (.ref t.a_Q19)
 F_Q53:eg K "fits" "fits" yG t.a_Q53 t.d_Q53
 b_Q53:ba K t.d_Q53 ["works","top"] []
 m_Q53:mg "fits"=some (.ref t.a_Q53)
 F_Q30:eg K "_law_tape" "_law_tape" za t.a_Q30 t.d_Q30
 b_Q30:ba K t.d_Q30 ["_law_script"] []
 m_Q30:mg "_law_tape"=some (.ref t.a_Q30)
 F_Q31:eg K "_law_draw" "_law_draw" yZ t.a_Q31 t.d_Q31
 b_Q31:ba K t.d_Q31 ["_law_tape_here","_law_many"] []
 m_Q31:mg "_law_draw"=some (.ref t.a_Q31)
 F_Q32:eg K "_law_frac" "_law_frac" yY t.a_Q32 t.d_Q32
 b_Q32:ba K t.d_Q32 ["_law_top","_law_bottom"] []
 m_Q32:mg "_law_frac"=some (.ref t.a_Q32)
 F_Q37:eg K "_law_add" "_law_add" yT t.a_Q37 t.d_Q37
 b_Q37:ba K t.d_Q37 ["_law_one","_law_other"] []
 m_Q37:mg "_law_add"=some (.ref t.a_Q37)
 F_Q38:eg K "_law_mul" "_law_mul" yS t.a_Q38 t.d_Q38
 b_Q38:ba K t.d_Q38 ["_law_one","_law_other"] []
 m_Q38:mg "_law_mul"=some (.ref t.a_Q38)
 F_Q33:eg K "_law_less" "_law_less" yX t.a_Q33 t.d_Q33
 b_Q33:ba K t.d_Q33 ["_law_one","_law_other"] []
 m_Q33:mg "_law_less"=some (.ref t.a_Q33)
 F_Q39:eg K "_law_sum" "_law_sum" yR t.a_Q39 t.d_Q39
 b_Q39:ba K t.d_Q39 ["_law_some"] []
 m_Q39:mg "_law_sum"=some (.ref t.a_Q39)
 F_Q20:eg K "_law_works" "_law_works" zj t.a_Q20 t.d_Q20
 b_Q20:ba K t.d_Q20 ["_law_tape_here","_law_many"] []
 m_Q20:mg "_law_works"=some (.ref t.a_Q20)
 F_Q21:eg K "_law_units" "_law_units" zi t.a_Q21 t.d_Q21
 b_Q21:ba K t.d_Q21 ["_law_works_here"] []
 m_Q21:mg "_law_units"=some (.ref t.a_Q21)
 F_Q9:eg K "_law_tightest" "_law_tightest" EA t.a_Q9 t.d_Q9
 b_Q9:ba K t.d_Q9 ["_law_works_here","_law_left"] []
 m_Q9:mg "_law_tightest"=some (.ref t.a_Q9)
 F_Q15:eg K "_law_layers" "_law_layers" zp t.a_Q15 t.d_Q15
 b_Q15:ba K t.d_Q15 ["_law_works_here"] []
 m_Q15:mg "_law_layers"=some (.ref t.a_Q15)
 F_Q34:eg K "_law_pace" "_law_pace" yW t.a_Q34 t.d_Q34
 b_Q34:ba K t.d_Q34 ["_law_works_here","_law_layer"] []
 m_Q34:mg "_law_pace"=some (.ref t.a_Q34)
 F_Q35:eg K "_law_plan" "_law_plan" yV t.a_Q35 t.d_Q35
 b_Q35:ba K t.d_Q35 ["_law_tape_here","_law_works_here"] []
 m_Q35:mg "_law_plan"=some (.ref t.a_Q35)
 F_Q10:eg K "_law_is_right" "_law_is_right" zw t.a_Q10 t.d_Q10
 b_Q10:ba K t.d_Q10 ["_law_sheet","_law_plan_here"] []
 m_Q10:mg "_law_is_right"=some (.ref t.a_Q10)
 F_Q13:eg K "_law_are_few" "_law_are_few" zr t.a_Q13 t.d_Q13
 b_Q13:ba K t.d_Q13 ["_law_works_here","_law_top","_law_turns"] []
 m_Q13:mg "_law_are_few"=some (.ref t.a_Q13)
 F_Q22:eg K "_law_keeps" "_law_keeps" zh t.a_Q22 t.d_Q22
 b_Q22:ba K t.d_Q22 ["_law_plan_here","_law_top"] []
 m_Q22:mg "_law_keeps"=some (.ref t.a_Q22)
 F_Q23:eg K "_law_right" "_law_right" zg t.a_Q23 t.d_Q23
 b_Q23:ba K t.d_Q23 ["_law_works_here","_law_top","_law_plans","_law_high"] []
 m_Q23:mg "_law_right"=some (.ref t.a_Q23)
 F_Q54:eg K "law" "law" yF t.a_Q54 t.d_Q54
 b_Q54:ba K t.d_Q54 ["_law_script"] []
 m_Q54:mg "law"=some (.ref t.a_Q54)
 m_NOUGHT:mg "NOUGHT"=some (.ref t.c_NOUGHT)
 q_NOUGHT:∀H,bC K H t.c_NOUGHT [.int (0),.int (1)]
 m_TURNS:mg "TURNS"=some (.int (24) t.k_TURNS)
 m_FITS:mg "FITS"=some (.str "fits" t.k_FITS)
 m_MUCH:mg "MUCH"=some (.str "much" t.k_MUCH)
 m_Q24:mg "PaceError"=some (.ref t.c_Q24)
 m_Q43:mg "NoMuch"=some (.ref t.c_Q43)
 m_Q44:mg "NoRoom"=some (.ref t.c_Q44)
 m_Q40:mg "NoRatio"=some (.ref t.c_Q40)
 z_abs:mg "abs"=none
 z_all:mg "all"=none
 z_any:mg "any"=none
 z_bool:mg "bool"=none
 z_enumerate:mg "enumerate"=none
 z_int:mg "int"=none
 z_isinstance:mg "isinstance"=none
 z_len:mg "len"=none
 z_list:mg "list"=none
 z_max:mg "max"=none
 z_min:mg "min"=none
 z_range:mg "range"=none
 z_repr:mg "repr"=none
 z_set:mg "set"=none
 z_sorted:mg "sorted"=none
 z_sum:mg "sum"=none
 z_tuple:mg "tuple"=none
abbrev qC:=yf
abbrev qI:=yh
def iM(_:M6):Sp:=λvs H Q _=>∃a b:Int,vs=[.int a,.int b]/\Q (.int (Nx a b:Nat)) H
theorem AE(hB:0<B)(hb:0<b)(h1:B∣84)(h2:b∣84):0<B*(b/(Nx B b:Int))/\B*(b/(Nx B b:Int))∣84/\B∣B*(b/(Nx B b:Int))/\b∣B*(b/(Nx B b:Int)):=by
 obtain⟨m,rfl⟩:=OF (Ox hB);obtain⟨n,rfl⟩:=OF (Ox hb);have e:(m:Int)*((n:Int)/(Nx m n:Int))=((Nat.lcm m n:Nat):Int):=by
  show(m:Int)*((n:Int)/((Nat.gcd m n:Nat):Int))=_;rw[←Int.natCast_ediv,←RF];unfold Nat.lcm;rw[Nat.mul_div_assoc _ (Nat.gcd_dvd_right m n)]
 rw[e];have p:=Nat.lcm_pos (show 0<m by omega) (show 0<n by omega);refine⟨by omega,?_,P0.mpr (Nat.dvd_lcm_left m n),P0.mpr (Nat.dvd_lcm_right m n)⟩;have a1:m∣84:=P0.mp h1;have a2:n∣84:=P0.mp h2;exact P0.mpr (Nat.lcm_dvd a1 a2)
def Ay(H:Hp)(Q:VK)(r:R):Prop:=∀p,H p=none->Q (.ref p) (aE H p (.tup [.int r.1,.int r.2]))
def I0(K:M6)(H:Hp)(Q:VK)(r:R):Prop:=∀(v:V) (H':Hp),aD H H'->RV K H' v r->Q v H'
def qA(_:M6):Sp:=λvs H Q _=>∃a b:Int,vs=[.int a,.int b]/\0<b/\b.natAbs<2^4000/\Ay H Q (dZ a b)
def uG(K:M6):Sp:=λvs H Q _=>∃(v w:V) (r q:R) (n m:Nat),vs=[v,w]/\RV K H v r/\RV K H w q/\Wf n r/\Wf m q/\n+m+1≤3000/\Ay H Q (bF r q)
def qy(K:M6):Sp:=λvs H Q _=>∃(v w:V) (r q:R) (n m:Nat),vs=[v,w]/\RV K H v r/\RV K H w q/\Wf n r/\Wf m q/\n+m+1≤3000/\Ay H Q (aC r q)
def Mm(K:M6)(H:Hp)(a:Addr)(xs:List V):Prop:=aV K H a xs∨bC K H a xs
def ye(K:M6):Sp:=λvs H Q _=>∃(a:Addr) (xs:List V) (rs:List R) (n:Nat),vs=[.ref a]/\Mm K H a xs/\Jw K H xs rs/\(∀r∈rs,Wf n r)/\rs.length≤255/\(n+9)*(rs.length+1)≤2990/\∀(v':V) (H':Hp),aD H H'->RV K H' v' (cO rs)->Q v' H'
theorem iu{a g:Int}(hg:0<g)(h:a.natAbs<2^4000):(a/g).natAbs<2^4000:=OP (gi a hg) h
theorem mj(hb:0<b)(h:b.natAbs<2^4000):((Nx a b:Nat):Int).natAbs<2^4000:=by
 have z:Nx a b≤b.natAbs:=U9 (by omega) (by have:=PZ a b;exact R4.mpr this);have e:((Nx a b:Nat):Int).natAbs=Nx a b:=RG _;omega
theorem bU{i:Int}(h:i.natAbs<2^n)(hn:n≤4000):i.natAbs<2^4000:=NE h (PR (by decide) hn)
abbrev qH:=qA
abbrev sJ:=uG
abbrev sI:=qy
def BD(K:M6):Sp:=λvs H Q _=>∃(v w:V) (r:R) (n m:Nat),vs=[v,w]/\RV K H v r/\RV K H w ((m:Int),1)/\Wf n r/\0<m/\m≤24/\n≤2000/\I0 K H Q (aC r (1,(m:Int)))
def sG(K:M6):Sp:=λvs H Q _=>∃(a:Addr) (xs:List V) (rs:List R),vs=[.ref a]/\aV K H a xs/\cV (RV K H) xs rs/\(∀r∈rs,Wf 4 r)/\rs.length≤64/\∀(v':V) (H':Hp),aD H H'->RV K H' v' (cO rs)->Q v' H'
theorem FX{m:Nat}(h:0<m):dZ 1 (m:Int)=(1,(m:Int)):=fT (by omega) (by omega) (by simp) (by omega)
theorem An{m:Nat}(h:0<m)(h':m≤24):Wf 5 ((1,(m:Int)):R):=⟨by show(0:Int)<m;omega,by show(1:Int).natAbs<2^5;decide,by show((m:Int)).natAbs<32;omega,by simp⟩
theorem vB{K:M6}{H:Hp}{xs:List V}{rs:List R}(h:cV (RV K H) xs rs):Jw K H xs rs:=⟨h.len,λi x r hx hr=>by obtain⟨d,hd,p⟩:=h.at hx;rw[hr] at hd;cases hd;exact p⟩
theorem cV.setI{α:Type}{P:V->α->Prop}{v:V}{d:α}(k:P v d):∀{xs:List V} {ds:List α} (i:Nat),cV P xs ds->cV P (xs.set i v) (ds.set i d)
 |_,_,_,.nil=>.nil
 |_,_,0,.cons _ t=>.cons k t
 |_,_,i+1,.cons h t=>.cons h (cV.setI k i t)
theorem cV.rep{α:Type}{P:V->α->Prop}{v:V}{d:α}(k:P v d):∀n:Nat,cV P (ND n v) (ND n d)
 |0=>.nil
 |n+1=>.cons k (cV.rep k n)
theorem pH(h:t<n):AH n (t:Int)=some t:=by
 unfold AH;simp;omega
abbrev Wk:=Nat×Nat×R
def Bn(K:M6)(H:Hp)(v:V)(w:Wk):Prop:=∃p x,v=.ref p/\bC K H p [.int w.1,.int w.2.1,x]/\RV K H x w.2.2
theorem Bn.mono{K:M6}{H H':Hp}{v:V}{w:Wk}(h:Bn K H v w)(t:aK K H H'):Bn K H' v w:=let ⟨p,x,e,s,r⟩:=h;⟨p,x,e,t _ _ s,r.mono t⟩
structure Bk(r:R):Prop where
 top:1≤r.1
 top':r.1≤12
 bot:1≤r.2
 bot':r.2≤7
 dvd:r.2∣84
 wf:Wf 4 r
structure br(w:Wk):Prop where
 le:w.1≤w.2.1
 lt:w.2.1<24
 am:Bk w.2.2
def fo(K:M6)(H:Hp)(v:V)(ws:List Wk):Prop:=∃p xs,v=.ref p/\bC K H p xs/\cV (Bn K H) xs ws
theorem fo.mono{K:M6}{H H':Hp}{v:V}{ws:List Wk}(h:fo K H v ws)(t:aK K H H'):fo K H' v ws:=let ⟨p,xs,e,s,a⟩:=h;⟨p,xs,e,t _ _ s,a.mono λ_ _ q=>q.mono t⟩
def aL(ls:List Nat):List V:=ls.map λn:Nat=>V.int n
theorem C8(h1:1≤a)(h2:a≤12)(h3:1≤b)(h4:b≤7)(h5:b∣84):Bk (dZ a b):=by
 have g0:0<(Nx a b:Int):=ck (by omega);have da:(Nx a b:Int)∣a:=TK a b;have db:(Nx a b:Int)∣b:=PZ a b;have p1:0<a/(Nx a b:Int):=Px (by omega) (Ox g0) da;have p2:0<b/(Nx a b:Int):=Px (by omega) (Ox g0) db;have q1:a/(Nx a b:Int)≤a:=Rr _ (by omega);have q2:b/(Nx a b:Int)≤b:=Rr _ (by omega);refine⟨p1,by show a/(Nx a b:Int)≤12;omega,p2,by show b/(Nx a b:Int)≤7;omega,Si ?_ h5,tL (by omega) (by show a.natAbs<16;omega) (by show b.natAbs<16;omega)⟩;exact⟨(Nx a b:Int),(Int.ediv_mul_cancel db).symm⟩
def oG(K:M6):Sp:=λvs H Q _=>∃(t s:Addr) (m:Nat),vs=[.ref t,.int m]/\cD K H t s/\m≤64/\∀(v:V) (ws:List Wk) (H':Hp),bP t H H'->cD K H' t s->fo K H' v ws->ws.length=m->(∀w∈ws,br w)->Q v H'
def bG(ws:List Wk):List Int:=ws.map λw=>w.2.2.1*84/w.2.2.2
def fj(B:Int)(ws:List Wk):List Int:=ws.map λw=>w.2.2.1*(B/w.2.2.2)
def oH(K:M6):Sp:=λvs H Q _=>∃(v:V) (ws:List Wk),vs=[v]/\fo K H v ws/\ws.length≤64/\(∀w∈ws,br w)/\∀(l:Addr) (H':Hp),aD H H'->H l=none->H' l=some (.lst ((bG ws).map V.int))->Q (.ref l) H'
def lE(K:M6):Sp:=λvs H Q _=>∃(a:Addr) (xs:List V) (ws:List Wk),vs=[.ref a]/\aV K H a xs/\cV (RV K H) xs (ws.map λw=>w.2.2)/\ws.length≤64/\(∀w∈ws,br w)/\∀(l:Addr) (B:Int) (H':Hp),aD H H'->H l=none->0<B->B∣84->(∀w∈ws,w.2.2.2∣B)->H' l=some (.lst ((fj B ws).map V.int))->Q (.ref l) H'
def fw(w:Wk)(t:Nat):Bool:=decide (w.1≤t)&&decide (t≤w.2.1)
def oN(K:M6):Sp:=λvs H Q _=>∃(v:V) (w:Wk) (t:Nat),vs=[v,.int t]/\Bn K H v w/\Q (.bl (fw w t)) H
def gg(ls:List Nat)(w:Wk):List Nat:=(M7 ls.length).filter λi=>fw w (ls.getD i 0)
def bn(ls:List Nat)(w:Wk):Wn:=match gg ls w with
 | []=>none
 |x::r=>some (x,(x::r).getLast (by simp))
def uo(K:M6)(H:Hp)(v:V):Wn->Prop
 |none=>v=.non
 |some q=>∃p,v=.ref p/\bC K H p [.int q.1,.int q.2]
theorem uo.mono{K:M6}{H H':Hp}{v:V}{o:Wn}(h:uo K H v o)(t:aK K H H'):uo K H' v o:=by
 cases o with
 |none=>exact h
 |some q=>obtain⟨p,e,s⟩:=h;exact⟨p,e,t _ _ s⟩
def kC(K:M6):Sp:=λvs H Q _=>∃(v:V) (q:Addr) (ws:List Wk) (ls:List Nat),vs=[v,.ref q]/\fo K H v ws/\ws.length≤64/\bC K H q (aL ls)/\ls.length≤24/\∀(l:Addr) (xs:List V) (H':Hp),aD H H'->H l=none->H' l=some (.lst xs)->cV (uo K H') xs (ws.map (bn ls))->Q (.ref l) H'
def BI(K:M6):Sp:=λvs H Q _=>∃(l:Addr) (xs:List V) (os:List Wn) (p:Pl),vs=[.ref l,.int p.1,.int p.2]/\aV K H l xs/\cV (uo K H) xs os/\os.length≤64/\∀(D:Addr) (H':Hp),aD H H'->H D=none->H' D=some (.lst (aL (bS os p)))->Q (.ref D) H'
def gJ(as:List Int)(i:Nat):Int:=as.getD i 0
theorem u7{os:List Wn}(hb:∀x∈as,0≤x/\x≤1008)(hn:os.length≤64)(q:Pl):0≤dy os (gJ as) q/\dy os (gJ as) q≤64512:=by
 have h0:∀i,0≤gJ as i/\gJ as i≤1008:=λi=>by
  unfold gJ;rw[Nn]
  cases e:as[i]? with
  |none=>exact⟨by decide,by decide⟩
  |some x=>exact hb x (Nd e)
 have key:∀l:List Nat,0≤(l.map (gJ as)).sum/\(l.map (gJ as)).sum≤1008*(l.length:Int):=by
  intro l
  induction l with
  |nil=>exact⟨by simp,by simp⟩
  |cons x l ih=>
   rw[Ob,Qe,NU];have:=h0 x;omega
 have k:=key (bS os q);have l:(bS os q).length≤os.length:=by
  unfold bS;exact NH (On _ _) (by rw[NP];exact Nb _)
 unfold dy;omega
def mR(K:M6)(H:Hp)(S:Pl->Prop)(L:Pl->Int)(vb:Addr)(ld ln:Int):Prop:=(ld=-1/\ln=1/\∀r,¬S r)∨∃q:Pl,bC K H vb [.int q.1,.int q.2]/\ld=L q/\ln=bL q/\kx S L q
theorem mR.mono{K:M6}{H H':Hp}{S S':Pl->Prop}{L:Pl->Int}{vb:Addr}{ld ln:Int}(h:mR K H S L vb ld ln)(t:aK K H H')(e:∀r,S' r↔S r):mR K H' S' L vb ld ln:=by
 rcases h with⟨a,b,c⟩ | ⟨q,hq,a,b,c⟩
 ·exact .inl ⟨a,b,λr hr=>c r ((e r).mp hr)⟩
 ·exact .inr ⟨q,t _ _ hq,a,b,c.congr e⟩
theorem wZ(e:∀r,S r↔r=q):kx S L q:=⟨(e q).mpr Z,λr hr=>by rw[(e r).mp hr];exact .inr ⟨Z,.inr ⟨Z,Nb _⟩⟩⟩
def iW(K:M6):Sp:=λvs H Q _=>∃(l a:Addr) (xs:List V) (os:List Wn) (as:List Int) (n:Nat),vs=[.ref l,.ref a,.int n]/\aV K H l xs/\cV (uo K H) xs os/\os.length≤64/\aV K H a (as.map V.int)/\as.length=os.length/\(∀x∈as,0≤x/\x≤1008)/\1≤n/\n≤24/\∀(p:Addr) (q:Pl) (H':Hp),aD H H'->bC K H' p [.int q.1,.int q.2]->kx (gl n) (dy os (gJ as)) q->Q (.ref p) H'
def rg(ls:List Nat):PyData:=.tuple (ls.map λn:Nat=>Py n)
def Ke(ls:List Nat)(os:List Wn)(q:Pl):PyData:=.tuple [rg ((ls.drop q.1).take (q.2+1-q.1)),rg (bS os q)]
theorem Al(ok:∀w∈ws,br w)(b0:0<B)(bd:B∣84):∀x∈fj B ws,0≤x/\x≤1008:=by
 intro x hx;obtain⟨w,hw,rfl⟩:=Nu.mp hx;have o:=(ok w hw).am;have B84:=Tz (by decide) bd;have q0:0≤B/w.2.2.2:=Qq (by omega) (by have:=o.bot;omega);have q1:B/w.2.2.2≤B:=Rr _ (by omega);have t1:=o.top;have t2:=o.top';refine⟨RZ (by omega) q0,?_⟩;have:w.2.2.1*(B/w.2.2.2)≤12*84:=Int.mul_le_mul t2 (by omega) q0 (by decide);omega
theorem qo(ok:∀w∈ws,br w):∀x∈bG ws,0≤x/\x≤1008:=by
 intro x hx;obtain⟨w,hw,rfl⟩:=Nu.mp hx;have o:=(ok w hw).am;have t1:=o.top;have t2:=o.top';refine⟨Qq (by omega) (by have:=o.bot;omega),?_⟩;have:=Rr (a:=w.2.2.1*84) w.2.2.2 (by omega);omega
theorem ql(ok:∀w∈ws,br w)(dv:∀w∈ws,w.2.2.2∣B)(i:Nat):gJ (bG ws) i*B=gJ (fj B ws) i*84:=by
 unfold gJ bG fj;rw[Nn,Nn,Nh,Nh]
 cases e:ws[i]? with
 |none=>simp
 |some w=>
  have hw:=Nd e;have o:=(ok w hw).am;obtain⟨m,hm⟩:=dv w hw;obtain⟨n,hn⟩:=o.dvd;have nz:w.2.2.2≠0:=by have:=o.bot;omega
  show w.2.2.1*84/w.2.2.2*B=w.2.2.1*(B/w.2.2.2)*84;have e1:w.2.2.1*84/w.2.2.2=w.2.2.1*n:=by
   rw[hn,RW];exact NN _ nz
  have e2:B/w.2.2.2=m:=by
   rw[hm];exact NN _ nz
  rw[e1,e2,hm,hn]
  ac_rfl
theorem vo{ls:List Nat}(h1:a≤b)(h2:b≤ls.length):jB (aL ls) (some (a:Int)) (some (b:Int))=aL ((ls.drop a).take (b-a)):=by
 unfold jB aL;rw[HT.sIx_nat,HT.sIx_nat,Na,show min b ls.length=b from Uu h2,show min a ls.length=a from Uu (by omega),List.map_take,List.map_drop]
theorem mE{K:M6}{H:Hp}{p:Addr}{ls:List Nat}(h:bC K H p (aL ls)):bH K H (.ref p) (rg ls):=by
 refine .tup h ?_;clear h;unfold aL
 induction ls with
 |nil=>exact .nil
 |cons x r ih=>exact .cons (.int _) ih
def pV(K:M6)(H:Hp)(v:V)(y:List Nat×List Nat):Prop:=∃p a b,v=.ref p/\bC K H p [.ref a,.ref b]/\bC K H a (aL y.1)/\bC K H b (aL y.2)
theorem pV.mono{K:M6}{H H':Hp}{v:V}{y:List Nat×List Nat}(h:pV K H v y)(t:aK K H H'):pV K H' v y:=let ⟨p,a,b,e,h1,h2,h3⟩:=h;⟨p,a,b,e,t _ _ h1,t _ _ h2,t _ _ h3⟩
def c5(ls:List Nat)(q:Pl):List Nat:=(ls.drop q.1).take (q.2+1-q.1)
def cT(ls:List Nat)(q:Pl):List Nat:=ls.filter λt=>!(c5 ls q).contains t
def jG(ws:List Wk)(ls:List Nat):Nat:=ws.countP λw=>(bn ls w).isSome
theorem fD:i∈gg ls w↔i<ls.length/\fw w (ls.getD i 0)=true:=by
 unfold gg;rw[NA,Nk]
theorem uv(h:gg ls w=[]):bn ls w=none:=by unfold bn;rw[h]
theorem qd(h:gg ls w=x:: r):bn ls w=some (x,(x:: r).getLast (by simp)):=by unfold bn;rw[h]
theorem hZ:(bn ls w).isSome=true↔∃t∈ls,fw w t=true:=by
 cases c:gg ls w with
 |nil=>
  rw[uv c];refine⟨λh=>(by cases h),λ⟨t,ht,e⟩=>?_⟩;obtain⟨i,hi,rfl⟩:=ON.mp ht;have m:i∈gg ls w:=fD.mpr ⟨hi,by rw[ap 0 (M8 hi)];exact e⟩;rw[c] at m
  cases m
 |cons x r=>
  rw[qd c];refine⟨λ_=>?_,λ_=>Z⟩;have m:x∈gg ls w:=by rw[c];exact Ng
  obtain⟨hi,e⟩:=fD.mp m;rw[ap 0 (M8 hi)] at e;exact⟨_,NY hi,e⟩
theorem tw(ls:List Nat)(w:Wk):(gg ls w).Pairwise (· < ·):=PX _ Qa
theorem jb(h:bn ls w=some (a,b)):a∈gg ls w/\b∈gg ls w/\∀i∈gg ls w,a≤i/\i≤b:=by
 cases c:gg ls w with
 |nil=>rw[uv c] at h;cases h
 |cons x r=>
  rw[qd c] at h;have srt:=tw ls w;rw[c] at srt;injection h with h;injection h with h1 h2;subst h1 h2;refine⟨Ng,List.getLast_mem _,λi hi=>⟨?_,?_⟩⟩
  ·rcases Nq.mp hi with z|z
   ·omega
   ·have:=(Ql.mp srt).1 i z;omega
  ·have e:=Q1 (show(x::r)≠[] by simp);rw[←e] at srt hi;rcases NF.mp hi with z|z
   ·have:=(Rj.mp srt).2.2 i z _ (Nm.mpr Z);omega
   ·have:=Nm.mp z;omega
theorem FT{ls:List Nat}(nd:ls.Nodup){i j:Nat}{hi:i<ls.length}{hj:j<ls.length}(e:ls[i]=ls[j]):i=j:=by
 have h:=Om.mp nd;rcases To i j with z|z|z
 ·exact absurd e (h i j hi hj z)
 ·exact z
 ·exact absurd e.symm (h j i hj hi z)
theorem pD(nd:ls.Nodup)(hp:gl ls.length p)(hi:i<ls.length):ls[i]∈c5 ls p↔p.1≤i/\i≤p.2:=by
 have h1:=hp.1;have h2:=hp.2;unfold c5;constructor
 ·intro h;obtain⟨j,hj,e⟩:=ON.mp h;rw[OH,Qf] at hj;rw[Tp,Tq] at e;have:=FT nd e;omega
 ·rintro⟨a,b⟩;refine ON.mpr ⟨i-p.1,by rw[OH,Qf];omega,?_⟩;rw[Tp,Tq]
  congr 1
  omega
theorem nH(nd:ls.Nodup)(hp:gl ls.length p):(bn (cT ls p) w).isSome=((bn ls w).isSome&&!eZ p.1 p.2 (bn ls w)):=by
 have key:(bn (cT ls p) w).isSome=true↔∃i,∃hi:i<ls.length,fw w ls[i]=true/\¬(p.1≤i/\i≤p.2):=by
  rw[hZ];constructor
  ·rintro⟨t,ht,e⟩;unfold cT at ht;obtain⟨m,c⟩:=NA.mp ht;obtain⟨i,hi,rfl⟩:=ON.mp m;refine⟨i,hi,e,λz=>?_⟩;rw[PF.mpr ((pD nd hp hi).mpr z)] at c
   cases c
  ·rintro⟨i,hi,e,n⟩;refine⟨ls[i],NA.mpr ⟨NY hi,?_⟩,e⟩
   cases c:(c5 ls p).contains ls[i] with
   |false=>rfl
   |true=>exact absurd ((pD nd hp hi).mp (PF.mp c)) n
 have pm:∀i,i∈gg ls w↔∃hi:i<ls.length,fw w ls[i]=true:=λi=>by
  rw[fD];constructor
  ·rintro⟨hi,e⟩;rw[ap 0 (M8 hi)] at e;exact⟨hi,e⟩
  ·rintro⟨hi,e⟩;exact⟨hi,by rw[ap 0 (M8 hi)];exact e⟩
 cases c:bn ls w with
 |none=>
  have n:¬(bn (cT ls p) w).isSome=true:=λh=>by
   obtain⟨i,hi,e,_⟩:=key.mp h;have:=hZ.mpr ⟨ls[i],NY hi,e⟩;rw[c] at this
   cases this
  simpa using n
 |some q=>
  obtain⟨a,b⟩:=q;obtain⟨m1,m2,bd⟩:=jb c;show(bn (cT ls p) w).isSome=(true&&!(decide (p.1≤a)&&decide (b≤p.2)));by_cases h:p.1≤a/\b≤p.2
  ·rw[decide_eq_true h.1,decide_eq_true h.2];have n:¬(bn (cT ls p) w).isSome=true:=λh'=>by
    obtain⟨i,hi,e,n⟩:=key.mp h';have:=bd i ((pm i).mpr ⟨hi,e⟩);exact n (by omega)
   simpa using n
  ·have y:(bn (cT ls p) w).isSome=true:=key.mpr (by
    by_cases z:p.1≤a
    ·obtain⟨hi,e⟩:=(pm b).mp m2;exact⟨b,hi,e,by omega⟩
    ·obtain⟨hi,e⟩:=(pm a).mp m1;exact⟨a,hi,e,by omega⟩)
   rw[y];by_cases z:p.1≤a
   ·rw[decide_eq_false (show ¬b≤p.2 from λq=>h ⟨z,q⟩),Pm];rfl
   ·rw[decide_eq_false z];rfl
theorem mh(os:List Wn)(p:Pl):(bS os p).length=os.countP (eZ p.1 p.2):=by
 have:=congrArg List.length (dJ (none:Wn) (eZ p.1 p.2) id os);rw[Na,Na] at this;rw[List.countP_eq_length_filter];exact this
theorem uU(nd:ls.Nodup)(hp:gl ls.length p):jG ws (cT ls p)+(bS (ws.map (bn ls)) p).length=jG ws ls:=by
 rw[mh,List.countP_map];unfold jG
 induction ws with
 |nil=>rfl
 |cons w ws ih=>
  rw[TY,TY,TY,nH nd hp,show(eZ p.1 p.2∘bn ls) w=eZ p.1 p.2 (bn ls w) from Z]
  cases c:bn ls w with
  |none=>
   have:eZ p.1 p.2 none=false:=Z;rw[this];simp only[Vs,QD,Oa,if_false,VY];exact ih
  |some q=>
   cases eZ p.1 p.2 (some q) with
   |true=>
    simp only[RH,PM,Pm,Oa,if_false,if_true,VY];omega
   |false=>
    simp only[RH,UT,Sg,Oa,if_false,if_true,VY];omega
theorem uO(nd:ls.Nodup)(p:Pl):(cT ls p).Nodup:=PX _ nd
theorem uV(h:jG ws ls=0)(r:Pl):dy (ws.map (bn ls)) A r=0:=by
 have e:bS (ws.map (bn ls)) r=[]:=by
  refine List.eq_nil_of_length_eq_zero ?_;rw[mh];have h':∀w∈ws,¬(bn ls w).isSome=true:=P7.mp h;refine P7.mpr λo ho=>?_
  obtain⟨w,hw,rfl⟩:=Nu.mp ho;have n:=h' w hw
  cases c:bn ls w with
  |none=>intro z;cases z
  |some q=>rw[c] at n;exact absurd Z n
 unfold dy;rw[e];rfl
theorem AC{A:Nat->Int}(h:∀i,0≤A i):∀{l:List Nat} {i:Nat},i∈l->A i≤(l.map A).sum
 |x::l,i,hi=>by
  rw[Ob,Qe];rcases Nq.mp hi with z|z
  ·subst z;have:=iV h l;omega
  ·have:=AC h z;have:=h x;omega
theorem qm(ok:∀w∈ws,br w)(i:Nat):0≤gJ (bG ws) i:=by
 unfold gJ;rw[Nn]
 cases e:(bG ws)[i]? with
 |none=>decide
 |some x=>exact(qo ok x (Nd e)).1
theorem u6(ok:∀w∈ws,br w)(h:∀r,gl ls.length r->dy (ws.map (bn ls)) (gJ (bG ws)) r=0):jG ws ls=0:=by
 refine P7.mpr λw hw n=>?_
 obtain⟨q,hq⟩:=Pj.mp n;obtain⟨a,b⟩:=q;obtain⟨m1,m2,bd⟩:=jb hq;have sec:gl ls.length (a,b):=⟨(bd b m2).1,(fD.mp m2).1⟩;obtain⟨i,hi,rfl⟩:=ON.mp hw;have mi:i∈bS (ws.map (bn ls)) (a,b):=by
  unfold bS;refine NA.mpr ⟨Nk.mpr (by rw[Na];exact hi),?_⟩;rw[ap none (show(ws.map (bn ls))[i]?=some (some (a,b)) by rw[Nh,M8 hi];exact congrArg some hq)];show(decide (a≤a)&&decide (b≤b))=true;simp
 have l:=AC (qm ok) mi;have z:=h _ sec;unfold dy at z;rw[z] at l;have o:=(ok _ hw).am;have eu:gJ (bG ws) i=ws[i].2.2.1*84/ws[i].2.2.2:=ap 0 (by unfold bG;rw[Nh,M8 hi];rfl);rw[eu] at l;have t1:=o.top;have b1:=o.bot;have b2:=o.bot';have:1≤ws[i].2.2.1*84/ws[i].2.2.2:=(Int.le_ediv_iff_mul_le (by omega)).mpr (by omega);omega
def pZ(ws:List Wk)(ls:List Nat)(p:Pl):Prop:=kx (gl ls.length) (dy (ws.map (bn ls)) (gJ (bG ws))) p/\0<dy (ws.map (bn ls)) (gJ (bG ws)) p
theorem F8(ok:∀w∈ws,br w)(b:kx (gl ls.length) (dy (ws.map (bn ls)) (gJ (bG ws))) p)(h:jG ws ls≠0):pZ ws ls p:=by
 refine⟨b,?_⟩;have nn:∀r,0≤dy (ws.map (bn ls)) (gJ (bG ws)) r:=λr=>iV (qm ok) _
 by_cases c:0<dy (ws.map (bn ls)) (gJ (bG ws)) p
 ·exact c
 ·refine absurd (u6 ok λr hr=>?_) h;have z:dy (ws.map (bn ls)) (gJ (bG ws)) p=0:=by have:=nn p;omega
  have q:=b.all r hr;have pp:=(show gl ls.length p from b.inn).pos;rw[z,VZ] at q;by_cases e:dy (ws.map (bn ls)) (gJ (bG ws)) r=0
  ·exact e
  ·have:=Oc (show 0<dy (ws.map (bn ls)) (gJ (bG ws)) r by have:=nn r;omega) pp;omega
theorem pZ.held(h:pZ ws ls p):0<(bS (ws.map (bn ls)) p).length:=by
 have:=h.2;unfold dy at this
 cases c:bS (ws.map (bn ls)) p with
 |nil=>rw[c] at this;exact absurd this (by simp)
 |cons x r=>exact Nat.succ_pos _
abbrev Ly:=List Nat×List Nat
def fJ(ws:List Wk)(ls:List Nat)(p:Pl):Ly:=(c5 ls p,bS (ws.map (bn ls)) p)
inductive fM(ws:List Wk):List Nat->List Ly->Prop where
 |nil {ls:List Nat} (h:jG ws ls=0):fM ws ls []
 |cons {ls:List Nat} {p:Pl} {r:List Ly} (h:pZ ws ls p) (t:fM ws (cT ls p) r):fM ws ls (fJ ws ls p::r)
theorem fM.uniq(h:fM ws ls a):∀{b:List Ly},fM ws ls b->a=b:=by
 induction h with
 |nil z=>
  intro b hb
  cases hb with
  |nil _=>rfl
  |cons h t=>have:=h.2;rw[uV z] at this;exact absurd this (by decide)
 |cons h t ih=>
  intro b hb
  cases hb with
  |nil z=>have:=h.2;rw[uV z] at this;exact absurd this (by decide)
  |cons h' t'=>
   have e:=h.1.uniq h'.1;subst e;rw[ih t']
structure hV(n:Nat)(y:Ly):Prop where
 pos:0<y.1.length
 few:y.1.length≤24
 lt:∀t∈y.1,t<24
 num:∀i∈y.2,i<n
 len:y.2.length≤n
theorem tP(hp:gl ls.length p)(hl:ls.length≤24)(hb:∀t∈ls,t<24):hV ws.length (fJ ws ls p):=by
 have h1:=hp.1;have h2:=hp.2;have e:(c5 ls p).length=min (p.2+1-p.1) (ls.length-p.1):=by unfold c5;rw[OH,Qf]
 refine⟨by show 0<(c5 ls p).length;omega,by show(c5 ls p).length≤24;omega,λt ht=>hb t (Sk (Qv ht)),λi hi=>?_,?_⟩
 ·have:i∈bS (ws.map (bn ls)) p:=hi;unfold bS at this;have:=Nk.mp (NA.mp this).1;rw[Na] at this;exact this
 ·show(bS (ws.map (bn ls)) p).length≤ws.length;rw[mh];exact NH List.countP_le_length (by rw[Na];exact Nb _)
def qz(K:M6):Sp:=λvs H Q _=>∃(v:V) (q:Addr) (ws:List Wk) (ls:List Nat),vs=[v,.ref q]/\fo K H v ws/\ws.length≤64/\(∀w∈ws,br w)/\bC K H q (aL ls)/\1≤ls.length/\ls.length≤24/\∀(x:V) (B:Int) (p:Pl) (H':Hp),aD H H'->0<B->B∣84->(∀w∈ws,w.2.2.2∣B)->kx (gl ls.length) (dy (ws.map (bn ls)) (gJ (fj B ws))) p->pV K H' x (fJ ws ls p)->Q x H'
theorem C3{S S':Pl->Prop}{L:Pl->Int}(st:∀r,S' r↔S r∨r=(i,e))(sec:∀r,S' r->gl n r)(z:∀r,S r->L r=0)(c:0<L (i,e)):kx S' L (i,e):=by
 refine⟨(st _).mpr (.inr Z),λr hr=>?_⟩;rcases(st r).mp hr with h|h
 ·rw[z r h,VZ];exact .inl (Oc c (sec r hr).pos)
 ·rw[h];exact .inr ⟨Z,.inr ⟨Z,Nb _⟩⟩
theorem A7{L:Int}{ln mn len:Int}(h0:0≤L)(hm:0<mn)(hl:0<len)(c:mn*len≤L*ln):0<L:=by
 have:=Oc hm hl;by_cases e:L=0
 ·rw[e,VZ] at c;omega
 ·omega
def Jv(K:M6)(H:Hp)(v:V)(s:Nat×Nat×Nat):Prop:=∃p,v=.ref p/\bC K H p [.int s.1,.int s.2.1,.int s.2.2]
theorem Jv.mono{K:M6}{H H':Hp}{v:V}{s:Nat×Nat×Nat}(h:Jv K H v s)(t:aK K H H'):Jv K H' v s:=let ⟨p,e,q⟩:=h;⟨p,e,t _ _ q⟩
def xp(os:List Wn)(i:Nat):List (Nat×Nat×Nat):=(M7 i).filterMap λj=>(os.getD j none).map λq=>(q.1,q.2,j)
theorem uH(os:List Wn)(i:Nat):(xp os i).length≤i:=by
 have:=List.length_filterMap_le (λj=>(os.getD j none).map λq=>(q.1,q.2,j)) (M7 i);rw[NP] at this;exact this
theorem yn{os:List Wn}(h:os.getD i none=none):xp os (i+1)=xp os i:=by
 unfold xp;rw[Oq,UB,P4,h];simp
theorem ym{os:List Wn}{q:Nat×Nat}(h:os.getD i none=some q):xp os (i+1)=xp os i++[(q.1,q.2,i)]:=by
 unfold xp;rw[Oq,UB,P4,h];simp
def rG(p:Pl)(s:Nat×Nat×Nat):Bool:=decide (p.1≤s.1)&&decide (s.2.1≤p.2)
theorem sK(os:List Wn)(p:Pl):((xp os os.length).filter (rG p)).map (λs=>s.2.2)=bS os p:=by
 unfold xp bS;generalize M7 os.length=l
 induction l with
 |nil=>rfl
 |cons j l ih=>
  rw[P4,Sa]
  cases e:os.getD j none with
  |none=>
   simp only[Option.map_none,eZ,Oa,if_false];exact ih
  |some q=>
   simp only[WB,Sa];show(if rG p (q.1,q.2,j)=true then _ else _:List (Nat×Nat×Nat)).map _=if eZ p.1 p.2 (some q)=true then _ else _
   have hb:rG p (q.1,q.2,j)=eZ p.1 p.2 (some q):=Z;rw[hb]
   cases eZ p.1 p.2 (some q) with
   |true=>simp only[if_true,Ob];rw[ih]
   |false=>simp only[Oa,if_false];exact ih
def oo(K:M6)(H:Hp)(os:List Wn)(S:Pl->Prop)(L:Pl->Int)(pb:Addr):Prop:=∃(mn ln bg:Int) (lb:Addr),bC K H pb [.int mn,.int ln,.int bg,.ref lb]/\((mn=0/\ln=1/\bg=0/\∀r,S r->L r=0)∨∃q:Pl,0<L q/\mn=L q/\ln=bL q/\bg=(q.1:Int)/\aV K H lb (aL (bS os q))/\kx S L q)
theorem oo.mono{K:M6}{H H':Hp}{os:List Wn}{S S':Pl->Prop}{L:Pl->Int}{pb:Addr}(h:oo K H os S L pb)(s:aD H H')(e:∀r,S' r↔S r):oo K H' os S' L pb:=by
 obtain⟨mn,ln,bg,lb,hp,h⟩:=h;refine⟨mn,ln,bg,lb,aK.same s _ _ hp,?_⟩;rcases h with⟨a,b,c,d⟩ | ⟨q,a,b,c,d,f,g⟩
 ·exact .inl ⟨a,b,c,λr hr=>d r ((e r).mp hr)⟩
 ·exact .inr ⟨q,a,b,c,d,s.seq f,g.congr e⟩
def kA(K:M6):Sp:=λvs H Q _=>∃(v:V) (q:Addr) (ws:List Wk) (ls:List Nat),vs=[v,.ref q]/\fo K H v ws/\ws.length≤64/\(∀w∈ws,br w)/\aV K H q (aL ls)/\ls.length≤24/\(∀H',aD H H'->jG ws ls=0->Q .non H')/\∀(x:V) (p:Pl) (H':Hp),x≠.non->aD H H'->pZ ws ls p->pV K H' x (fJ ws ls p)->Q x H'
mutual
def KP:PyData->Bool
 | .int _=>true
 | .str _=>true
 | .bool _=>true
 | .none=>true
 | .tuple ds=>decide (ds.length≤1000)&&Dr ds
 |_=>false
def Dr:List PyData->Bool
 | []=>true
 |d::ds=>KP d&&Dr ds
end
def qL(k:Nat)(K:M6):Sp:=λvs H Q _=>∃(v w:V) (d:PyData),vs=[v,w]/\bH K H v d/\bH K H w d/\d.depth≤k/\KP d=true/\∀H',aD H H'->Q (.bl true) H'
abbrev GQ:=qL 0
abbrev GP:=qL 1
abbrev GO:=qL 2
abbrev GN:=qL 3
abbrev BG:=qL 4
theorem oQ(h:i.natAbs<2^100):Sh 0 2000 (.int i):=by
 refine⟨?_,Z,Nb _,NH (F2 h (by decide)) (by decide)⟩;show decide (i.natAbs.log2<1920)=true;refine decide_eq_true ?_;by_cases z:i.natAbs=0
 ·rw[z];decide
 ·exact NE ((UJ z).mpr h) (by decide)
def Kc(w:Wk):PyData:=.tuple [.int w.1,.int w.2.1,dR w.2.2]
def Gn(ws:List Wk):PyData:=.tuple (ws.map Kc)
theorem Bn.deep{K:M6}{H:Hp}{v:V}{w:Wk}(h:Bn K H v w):bH K H v (Kc w):=by
 obtain⟨p,x,rfl,hS,rx⟩:=h;exact .tup hS (.cons (.int _) (.cons (.int _) (.cons rx.deep .nil)))
theorem fo.deep{K:M6}{H:Hp}{v:V}{ws:List Wk}(h:fo K H v ws):bH K H v (Gn ws):=by
 obtain⟨p,xs,rfl,hS,al⟩:=h;exact .tup hS (al.deep λ_ _ q=>q.deep)
theorem nK{n:Nat}(h:n<24):((n:Int)).natAbs<2^100:=by
 have:(2:Nat)^100=1267650600228229401496703205376:=by decide
 omega
theorem Eg(h:br w):Sh 2 20000 (Kc w):=by
 have o:=h.am;have big:(2:Nat)^100=1267650600228229401496703205376:=by decide
 have l1:=h.le;have l2:=h.lt;have t1:=o.top;have t2:=o.top';have b1:=o.bot;have b2:=o.bot';refine Sh.tup (k:=1) (n:=6100) (m:=3) (λd hd=>?_) (Nb _) (by decide);simp only[Nq,Oo,or_false] at hd;rcases hd with rfl|rfl|rfl
 ·exact(oQ (nK (by omega))).mono (by decide) (by decide)
 ·exact(oQ (nK (by omega))).mono (by decide) (by decide)
 ·refine Sh.tup (k:=0) (n:=2000) (m:=2) (λd hd=>?_) (Nb _) (by decide);simp only[Nq,Oo,or_false] at hd;rcases hd with rfl|rfl
  ·exact oQ (by omega)
  ·exact oQ (by omega)
theorem yw(h:∀w∈ws,br w)(hw:ws.length≤64):Bg (Gn ws):=by
 refine Sh.shows (k:=3) (n:=1290000) (Sh.tup (k:=2) (n:=20000) (m:=64) (λd hd=>?_) (by rw[Na];exact hw) (by decide)) (by decide) (by decide);obtain⟨w,hw',rfl⟩:=Nu.mp hd;exact Eg (h w hw')
def MS(y:List Nat×List Nat):PyData:=.tuple [rg y.1,rg y.2]
def bV:Wk:=(0,0,(0,1))
def gG(ws:List Wk)(y:List Nat×List Nat):List R:=y.2.map λi=>(ws.getD i bV).2.2
def de(ws:List Wk)(y:List Nat×List Nat):R:=aC (cO (gG ws y)) (1,(y.1.length:Int))
def ji(r:R)(ss:List R)(ts:List Nat):List R:=ts.foldl (λs t=>s.set t r) ss
def aX(ws:List Wk)(lys:List (List Nat×List Nat)):List R:=lys.foldl (λss y=>ji (de ws y) ss y.1) (ND 24 (0,1))
theorem lK(r:R):∀(ts:List Nat) (ss:List R),(ji r ss ts).length=ss.length
 | [],_=>rfl
 |t::ts,ss=>by
  show(ji r (ss.set t r) ts).length=_;rw[lK r ts,P2]
theorem iD(ws:List Wk):∀(lys:List (List Nat×List Nat)) (ss:List R),(lys.foldl (λss y=>ji (de ws y) ss y.1) ss).length=ss.length
 | [],_=>rfl
 |y::r,ss=>by rw[OI,iD ws r,lK]
theorem Bb{ws:List Wk}{n:Nat}{y:List Nat×List Nat}(ok:∀w∈ws,br w)(h:hV ws.length y):∀r∈gG ws y,Wf 4 r:=by
 intro r hr;obtain⟨i,hi,rfl⟩:=Nu.mp hr;have hl:=h.num i hi;rw[ap bV (M8 hl)];exact(ok _ (NY hl)).am.wf
theorem uW(ok:∀w∈ws,br w):jG ws (M7 24)=ws.length:=by
 refine List.countP_eq_length.mpr λw hw=>hZ.mpr ⟨w.1,Nk.mpr ?_,?_⟩
 ·have:=(ok w hw).le;have:=(ok w hw).lt;omega
 ·unfold fw;rw[decide_eq_true (Nb _),decide_eq_true (ok w hw).le];rfl
theorem FR(ws:List Wk):jG ws []=0:=P7.mpr λw _ h=>by
 obtain⟨t,ht,_⟩:=hZ.mp h
 cases ht
theorem k4(h:pZ ws ls p):gl ls.length p:=h.1.inn
def Kl(K:M6)(H:Hp)(v:V)(lys:List (List Nat×List Nat)):Prop:=∃p xs,v=.ref p/\bC K H p xs/\cV (pV K H) xs lys
def vU(K:M6):Sp:=λvs H Q _=>∃(v:V) (ws:List Wk),vs=[v]/\fo K H v ws/\ws.length≤64/\(∀w∈ws,br w)/\∀(x:V) (lys:List (List Nat×List Nat)) (H':Hp),aD H H'->Kl K H' x lys->fM ws (M7 24) lys->(∀y∈lys,hV ws.length y)->lys.length≤64->Q x H'
def mV(K:M6):Sp:=λvs H Q _=>∃(v:V) (ws:List Wk),vs=[v]/\fo K H v ws/\ws.length≤64/\(∀w∈ws,br w)/\∀(l:Addr) (xs:List V) (lys:List (List Nat×List Nat)) (H':Hp),aD H H'->H l=none->H' l=some (.lst xs)->cV (pV K H') xs lys->fM ws (M7 24) lys->(∀y∈lys,hV ws.length y)->lys.length≤64->Q (.ref l) H'
def gr(K:M6):Sp:=λvs H Q _=>∃(v x:V) (ws:List Wk) (y:List Nat×List Nat),vs=[v,x]/\fo K H v ws/\ws.length≤64/\(∀w∈ws,br w)/\pV K H x y/\hV ws.length y/\I0 K H Q (de ws y)
abbrev qF:=gr
def ky(K:M6):Sp:=λvs H Q _=>∃(v:V) (ws:List Wk),vs=[v]/\fo K H v ws/\ws.length≤64/\(∀w∈ws,br w)/\∀(p:Addr) (xs:List V) (lys:List (List Nat×List Nat)) (H':Hp),aD H H'->bC K H' p xs->cV (RV K H') xs (aX ws lys)->fM ws (M7 24) lys->Q (.ref p) H'
def Bl(K:M6):Sp:=λvs H Q _=>∃(v:V) (ws:List Wk),vs=[v]/\fo K H v ws/\ws.length≤64/\(∀w∈ws,br w)/\∀(l:Addr) (xs:List V) (lys:List (List Nat×List Nat)) (H':Hp),aD H H'->H' l=some (.lst xs)->cV (RV K H') xs (aX ws lys)->fM ws (M7 24) lys->Q (.ref l) H'
def Jx(K:M6)(H:Hp)(v:V)(e:Ln):Prop:=∃p,v=.ref p/\bC K H p [.int (e.1:Nat),.int (e.2:Nat)]
theorem Jx.mono{K:M6}{H H':Hp}{v:V}{e:Ln}(h:Jx K H v e)(t:aK K H H'):Jx K H' v e:=let ⟨p,q,s⟩:=h;⟨p,q,t _ _ s⟩
def uq(K:M6)(H:Hp)(v:V)(es:List Ln):Prop:=∃p xs,v=.ref p/\bC K H p xs/\cV (Jx K H) xs es
theorem uq.mono{K:M6}{H H':Hp}{v:V}{es:List Ln}(h:uq K H v es)(t:aK K H H'):uq K H' v es:=let ⟨p,xs,e,s,a⟩:=h;⟨p,xs,e,t _ _ s,a.mono λ_ _ q=>q.mono t⟩
def vY(n:Nat)(f:Nat->Bool):List V:=(M7 n).map λj=>V.bl (f j)
theorem oV(h:j<n):(vY n f)[j]?=some (.bl (f j)):=by
 unfold vY;rw[Nh,O5 h];rfl
structure Bp(H:Hp)(l:Addr)(rows:List Addr)(n:Nat)(L:Nat->Nat->Bool):Prop where
 top:H l=some (.lst (rows.map V.ref))
 len:rows.length=n
 nd:rows.Nodup
 ne:l∉rows
 row:∀i r,rows[i]?=some r->H r=some (.lst (vY n (L i)))
theorem Bp.same(h:Bp H l rows n L)(s:aD H H'):Bp H' l rows n L:=⟨s _ _ h.top,h.len,h.nd,h.ne,λi r e=>s _ _ (h.row i r e)⟩
structure Kp(rows:List Addr)(H H':Hp):Prop where
 keep:∀b o,b∉rows->H b=some o->H' b=some o
 ls:∀r∈rows,∃xs,H r=some (.lst xs)
 ls':∀r∈rows,∃xs,H' r=some (.lst xs)
theorem Kp.trans(a:Kp rows H H1)(b:Kp rows H1 H2):Kp rows H H2:=⟨λc o n e=>b.keep c o n (a.keep c o n e),a.ls,b.ls'⟩
theorem Kp.same(s:aD H H')(h:∀r∈rows,∃xs,H r=some (.lst xs)):Kp rows H H':=⟨λc o _ e=>s _ _ e,h,λr m=>let ⟨xs,e⟩:=h r m;⟨xs,s _ _ e⟩⟩
theorem Kp.up(m:r∈rows)(h:∀r∈rows,∃xs,H r=some (.lst xs))(ys:List V):Kp rows H (aE H r (.lst ys)):=⟨λc o n e=>by rw[aJ (show c≠r from λz=>n (by rw[z];exact m))];exact e,h,λq mq=>by
 by_cases c:q=r
 ·subst c;exact⟨_,ag⟩
 ·rw[aJ c];exact h q mq⟩
theorem Bp.ls(h:Bp H l rows n L):∀r∈rows,∃xs,H r=some (.lst xs):=λr m=>by
 obtain⟨i,hi,e⟩:=ON.mp m;exact⟨_,h.row i r (by rw[M8 hi,e])⟩
theorem aK.kp{K:M6}{rows:List Addr}{H H':Hp}(k:Kp rows H H'):aK K H H':=λp xs h=>by
 rcases h with h|h
 ·have n:p∉rows:=λm=>by
   obtain⟨ys,e⟩:=k.ls p m;rcases h with h | ⟨o,h⟩<;>rw[e] at h<;>cases h
  rcases h with h | ⟨o,h⟩
  ·exact .inl (.inl (k.keep _ _ n h))
  ·exact .inl (.inr ⟨o,k.keep _ _ n h⟩)
 ·exact .inr h
def lF(_:M6):Sp:=λvs H Q _=>∃n:Nat,vs=[.int n]/\n≤64/\∀(l:Addr) (rows:List Addr) (H':Hp),aD H H'->H l=none->(∀r∈rows,H r=none)->Bp H' l rows n (λ_ _=>false)->Q (.ref l) H'
def ur(_:Nat)(es:List Ln):Prop:=es=[]
def qM(_:M6):Sp:=λ_ _ _ _=>False
def kG(K:M6):Sp:=λvs H Q _=>∃(n:Nat) (v:V) (es:List Ln),vs=[.int n,v]/\uq K H v es/\ur n es/\n≤64/\∀(l:Addr) (rows:List Addr) (L:Nat->Nat->Bool) (H':Hp),aD H H'->Bp H' l rows n L->Jz n es L->Q (.ref l) H'
structure Mh(w:Wk):Prop where
 l1:w.1<24
 l2:w.2.1<24
 am:Wf 98 w.2.2
def vF(ws:List Wk)(j:Nat):Int:=((ws.getD j bV).1:Nat)
def vL(ws:List Wk)(j:Nat):Int:=-((ws.getD j bV).2.1:Nat)
structure iz(ws:List Wk)(es:List Ln)(f l:Nat->Int):Prop where
 a:GU ws.length es (vF ws) f
 b:GU ws.length (Bz es) (vL ws) (λi=>- l i)
theorem xM{n:Nat}{v:Nat->Int}{P:Nat->Prop}:∀k,k≤n->(∀j,j<k->¬P j)∨∃M,(∀j,j<k->P j->v j≤M)/\∃j,j<k/\P j/\M=v j
 |0,_=>.inl λj hj=>absurd hj (Qr _)
 |k+1,hk=>by
  rcases xM (n:=n) (v:=v) (P:=P) k (by omega) with h | ⟨M,h1,j,h2,h3,h4⟩
  ·by_cases c:P k
   ·refine .inr ⟨v k,λj hj pj=>?_,k,by omega,c,Z⟩;by_cases z:j=k
    ·subst z;exact Qd _
    ·exact absurd pj (h j (by omega))
   ·refine .inl λj hj pj=>?_
    by_cases z:j=k
    ·subst z;exact c pj
    ·exact h j (by omega) pj
  ·by_cases c:P k/\M<v k
   ·refine .inr ⟨v k,λi hi pi=>?_,k,by omega,c.1,Z⟩;by_cases z:i=k
    ·subst z;exact Qd _
    ·have:=h1 i (by omega) pi;have:=c.2;omega
   ·refine .inr ⟨M,λi hi pi=>?_,j,by omega,h3,h4⟩;by_cases z:i=k
    ·subst z;by_cases y:v i≤M
     ·exact y
     ·exact absurd ⟨pi,by omega⟩ c
    ·exact h1 i (by omega) pi
theorem GU.ex(n:Nat)(es:List Ln)(v:Nat->Int):∃F,GU n es v F:=by
 have h:∀i,∃M:Int,i<n->(∀j,j<n->(j=i∨iP es j i)->v j≤M)/\∃j,j<n/\(j=i∨iP es j i)/\M=v j:=λi=>by
  rcases xM (n:=n) (v:=v) (P:=λj=>j=i∨iP es j i) n (Nb _) with h | ⟨M,h1,h2⟩
  ·exact⟨0,λhi=>absurd (.inl Z) (h i hi)⟩
  ·exact⟨M,λ_=>⟨h1,h2⟩⟩
 exact⟨λi=>Classical.choose (h i),⟨λi j hi hj z=>(UC (h i) hi).1 j hj z,λi hi=>(UC (h i) hi).2⟩⟩
theorem iz.ex(ws:List Wk)(es:List Ln):∃f l,iz ws es f l:=by
 obtain⟨f,hf⟩:=GU.ex ws.length es (vF ws);obtain⟨g,hg⟩:=GU.ex ws.length (Bz es) (vL ws);refine⟨f,λi=>- g i,hf,?_⟩;have:(λi=>- - g i)=g:=funext λi=>Int.neg_neg _
 rw[this];exact hg
def wP(ws:List Wk)(f l:Nat->Int)(i:Nat):PyData:=.tuple [.int (f i),.int (l i),dR (ws.getD i bV).2.2]
def i6(n:Nat)(f l:Nat->Int):Option Nat:=(M7 n).find? λi=>decide (l i<f i)
def JM(ws:List Wk)(f l:Nat->Int):PyData:=match i6 ws.length f l with
 |some i=>.int i
 |none=>.tuple ((M7 ws.length).map (wP ws f l))
theorem A9(hi:i<n)(h:l i<f i)(b:∀j,j<i->f j≤l j):i6 n f l=some i:=by
 unfold i6;rw[TB];refine⟨decide_eq_true h,Nk.mpr hi,λj hj=>?_⟩;have:=b j hj;rw[decide_eq_false (by omega)];rfl
theorem rZ(b:∀j,j<n->f j≤l j):i6 n f l=none:=by
 unfold i6;rw[SY];intro j hj;have:=b j (Nk.mp hj);rw[decide_eq_false (by omega)];simp
theorem A4{K:M6}{H H':Hp}(t:aK K H H'){ws:List Wk}{f l:Nat->Int}{i:Nat}{v:V}(h:bH K H v (wP ws f l i)):bH K H' v (wP ws f l i):=by
 unfold wP at h ⊢
 cases h with
 |tup e h=>
  cases h with
  |cons h1 h=>
   cases h with
   |cons h2 h=>
    cases h with
    |cons h3 h=>
     cases h
     cases h1
     cases h2
     refine .tup (t _ _ e) (.cons (.int _) (.cons (.int _) (.cons ?_ .nil)))
     cases h3 with
     |tup e3 h3=>
      cases h3 with
      |cons a h3=>
       cases h3 with
       |cons b h3=>cases h3;cases a;cases b;exact .tup (t _ _ e3) (.cons (.int _) (.cons (.int _) .nil))
theorem sr{K:M6}{H H':Hp}(t:aK K H H'){ws:List Wk}{f l:Nat->Int}:∀{zs:List Nat} {vs:List V},aZ K H vs (zs.map (wP ws f l))->aZ K H' vs (zs.map (wP ws f l))
 | [],_,.nil=>.nil
 |_::_,_,.cons h r=>.cons (A4 t h) (sr t r)
theorem kr{K:M6}{H:Hp}:∀{xs ys:List V} {ds es:List PyData},aZ K H xs ds->aZ K H ys es->aZ K H (xs++ys) (ds++es)
 |_,_,_,_,.nil,h=>h
 |_,_,_,_,.cons a t,h=>.cons a (kr t h)
def Lk(K:M6)(H:Hp)(v:V)(ws:List Wk)(es:List Ln):Prop:=∃p a b,v=.ref p/\bC K H p [a,b]/\fo K H a ws/\uq K H b es
def GL(_:M6):Sp:=λvs H Q _=>∃i:Int,vs=[.int i]/\Q (.int i) H
def GR(_:M6)(C:Addr):Sp:=λvs H Q _=>∃(a:Addr) (n:Int),vs=[.ref a,.int n]/\H a=some (wL a C none)/\∀d,H d=none->d≠a->Q .non (aE (aE H a (wL a C (some d))) d (dO d [("work",.int n)]))
structure IL(ws:List Wk)(es:List Ln):Prop where
 few:ws.length≤20
 ok:∀w∈ws,Mh w
 es:ur ws.length es
def nc(n:Nat)(es:List Ln):Prop:=∃ps:Nat->Nat,(∀i,i<n->ps i<n)/\∀a b,(a,b)∈es->ps a<ps b
def Mb(es:List Ln):PyData:=.tuple (es.map λe=>.tuple [.int (e.1:Nat),.int (e.2:Nat)])
theorem kw(h:Bk r):Bq 84 12 r:=by
 have a:=h.top;have b:=h.top';have c:=h.bot;refine⟨by omega,h.wf.cop,h.dvd,?_⟩;have:12*1≤12*r.2.natAbs:=P5 _ (by omega);omega
theorem xW{D N:Nat}(hD:0<D):∀{rs:List R},(∀r∈rs,Bq D N r)->∀{a:R} {M:Nat},Bq D M a->Bq D (M+N*rs.length) (rs.foldl bF a)
 | [],_,a,M,h=>by simpa using h
 |r::rs,hr,a,M,h=>by
  have:=xW hD (λq hq=>hr q (No _ hq)) (h.plus hD (hr r Ng));rw[OI,NU,Ro];refine this.mono (O7 _) (by omega)
theorem A8:Bq D 0 ((0,1):R):=⟨by decide,by decide,⟨(D:Int),by show(D:Int)=1*D;omega⟩,by show 0≤_;exact NB _⟩
theorem oD(hD:0<D)(h:∀r∈rs,Bq D N r):Bq D (N*rs.length) (cO rs):=by
 have:=xW hD h (A8 (D:=D));rw[R3] at this;exact this
theorem BY(ok:∀w∈ws,br w)(hw:ws.length≤9)(lok:hV ws.length y):Bq (84*y.1.length) 108 (de ws y):=by
 have am:∀r∈gG ws y,Bq 84 12 r:=λr hr=>by
  obtain⟨i,hi,rfl⟩:=Nu.mp hr;have hl:=lok.num i hi;rw[ap bV (M8 hl)];exact kw (ok _ (NY hl)).am
 have la:(gG ws y).length=y.2.length:=Na _;have len:=lok.len;have pos:=lok.pos;have s:=(oD (by decide) am).mono (O7 _) (show 12*(gG ws y).length≤108 by omega);have o:Bq y.1.length 1 ((1,(y.1.length:Int)):R):=⟨by show(0:Int)<_;omega,by simp,Int.dvd_refl _,by show(1:Int).natAbs≤1*((y.1.length:Int)).natAbs;omega⟩;exact s.times o
def yg(K:M6):Sp:=λvs H Q _=>∃(v w:V) (r q:R) (n m:Nat),vs=[v,w]/\RV K H v r/\RV K H w q/\Wf n r/\Wf m q/\n+m+1≤3000/\I0 K H Q (cY r q)
def lH(K:M6):Sp:=λvs H Q _=>∃(v w:V) (r q:R) (n m:Nat),vs=[v,w]/\RV K H v r/\RV K H w q/\Wf n r/\Wf m q/\n+m+1≤3000/\Q (.bl (bK r q)) H
abbrev qG:=lH
theorem rR(h:Nx a b=1):Nx (-a) b=1:=by rw[Int.neg_gcd];exact h
theorem Gp:∀m,m<25->0<m->84*m∣449755225920:=by decide
def bo(ws:List Wk)(i:Nat):Nat:=(ws.getD i bV).2.1
def gD(ws:List Wk)(l:List Nat):List Nat:=l.filter λi=>l.all λj=>decide (bo ws i≤bo ws j)
open Classical in
noncomputable def f8 (es:List Ln) (i j:Nat):Bool:=decide (iP es j i)
open Classical in
theorem j3:f8 es i j=true↔iP es j i:=by unfold f8;exact decide_eq_true_iff
noncomputable def jy (ws:List Wk) (es:List Ln) (l:List Nat):List Nat:=(gD ws l).filter λi=>!(gD ws l).any (f8 es i)
noncomputable def g4 (ws:List Wk) (es:List Ln) (l:List Nat):Nat:=(jy ws es l).getD 0 0
def cu(n:Nat)(come:List Nat):List Nat:=(M7 n).filter λi=>!come.contains i
noncomputable def aR (ws:List Wk) (es:List Ln):Nat->List Nat
 |0=>[]
 |k+1=>aR ws es k++[g4 ws es (cu ws.length (aR ws es k))]
theorem uZ{i:Nat}(h:(aL ls)[i]?=some x):∃n,ls[i]?=some n/\x=.int (n:Nat):=by
 unfold aL at h;rw[Nh] at h;obtain⟨n,hn,rfl⟩:=N6.mp h;exact⟨n,hn,Z⟩
theorem l9(f:Nat->Nat):∀(l:List Nat),l≠[]->∃i∈l,∀j∈l,f i≤f j
 | [],h=>absurd Z h
 | [a],_=>⟨a,Ng,λj hj=>by rw[Nm] at hj;rw[hj];exact Nb _⟩
 |a::b::l,_=>by
  obtain⟨i,hi,m⟩:=l9 f (b::l) (by simp);by_cases c:f a≤f i
  ·refine⟨a,Ng,λj hj=>?_⟩;rcases Nq.mp hj with z|z
   ·rw[z];exact Nb _
   ·exact NH c (m j z)
  ·refine⟨i,No _ hi,λj hj=>?_⟩;rcases Nq.mp hj with z|z
   ·rw[z];omega
   ·exact m j z
theorem gC:i∈gD ws l↔i∈l/\∀j∈l,bo ws i≤bo ws j:=by
 unfold gD;rw[NA,N4];exact and_congr_right λ_=>forall_congr' λj=>forall_congr' λ_=>decide_eq_true_iff
theorem iP.rank{es:List Ln}{ps:Nat->Nat}(h:∀a b,(a,b)∈es->ps a<ps b)(r:iP es a b):ps a<ps b:=by
 induction r with
 |one m=>exact h _ _ m
 |step m _ ih=>exact Rm (h _ _ m) ih
theorem CS(rk:nc n es)(h:l≠[]):jy ws es l≠[]:=by
 obtain⟨ps,_,hp⟩:=rk;obtain⟨i,hi,m⟩:=l9 (bo ws) l h;have hl:gD ws l≠[]:=λz=>by
  have:=gC.mpr ⟨hi,m⟩;rw[z] at this;cases this
 obtain⟨j,hj,q⟩:=l9 ps _ hl;intro z;have:j∈jy ws es l:=by
  unfold jy;rw[NA];refine⟨hj,?_⟩;rw[Ra,Tg];intro b hb c;have:=iP.rank hp (j3.mp c);have:=q b hb;omega
 rw[z] at this;cases this
theorem kZ(rk:nc n es)(h:l≠[]):(jy ws es l)[0]?=some (g4 ws es l):=by
 have:=CS (ws:=ws) rk h;unfold g4
 cases e:jy ws es l with
 |nil=>exact absurd e this
 |cons a r=>rfl
theorem lV(rk:nc n es)(h:l≠[]):g4 ws es l∈l:=by
 have a:=Nd (kZ (ws:=ws) rk h);exact(gC.mp (NA.mp a).1).1
theorem uw(n:Nat)(c:List Nat):(cu n c).Nodup:=PX _ Rs
theorem eW:i∈cu n c↔i<n/\i∉c:=by
 unfold cu;rw[NA,Nk,Ra,Sl,decide_eq_false_iff_not]
theorem vK(n:Nat)(c:List Nat)(x:Nat):cu n (c++[x])=(cu n c).filter λi=>decide (i≠x):=by
 unfold cu;rw[Vu];refine V0 λi _=>?_
 rw[O0,NM,Ra,Ra,Sl,Sl,decide_eq_false_iff_not,decide_eq_false_iff_not,decide_eq_true_iff,NF,Nm];exact⟨λh=>⟨λz=>h (.inr z),λz=>h (.inl z)⟩,λh z=>z.elim h.2 h.1⟩
theorem rN:∀{l:List Nat} {j x:Nat},l.Nodup->l[j]?=some x->l.eraseIdx j=l.filter (λi=>decide (i≠x))/\(l.eraseIdx j).length+1=l.length
 | [],j,x,_,h=>by simp at h
 |a::l,0,x,nd,h=>by
  have e:a=x:=by simpa using h
  subst e;obtain⟨n1,n2⟩:=Ot.mp nd;refine⟨?_,Z⟩;have e1:(a::l).filter (λi=>decide (i≠a))=l.filter (λi=>decide (i≠a)):=RM (by simp);have e2:l.filter (λi=>decide (i≠a))=l:=Ov.mpr λi hi=>decide_eq_true λz=>n1 (by rw[←z];exact hi)
  rw[e1,e2];rfl
 |a::l,j+1,x,nd,h=>by
  obtain⟨n1,n2⟩:=Ot.mp nd;have h':l[j]?=some x:=by simpa using h
  obtain⟨e1,e2⟩:=rN n2 h';have ne:a≠x:=λz=>n1 (by rw[z];exact Nd h')
  have e3:(a::l).filter (λi=>decide (i≠x))=a::l.filter (λi=>decide (i≠x)):=RN (decide_eq_true ne);rw[TX,e3,←e1];refine⟨Z,?_⟩;rw[NU,NU,e2]
theorem AU{l:List Nat}{j x:Nat}(nd:l.Nodup)(h:l[j]?=some x):∀m,m<j->l[m]?≠some x:=λm hm e=>by
 obtain⟨h1,e1⟩:=Ni.mp e;obtain⟨h2,e2⟩:=Ni.mp h;exact Om.mp nd m j h1 h2 hm (e1.trans e2.symm)
structure um(ws:List Wk)(es:List Ln)(k:Nat):Prop where
 len:(aR ws es k).length=k
 lt:∀i∈aR ws es k,i<ws.length
 wl:(cu ws.length (aR ws es k)).length+k=ws.length
theorem Am(ws:List Wk)(es:List Ln):um ws es 0:=by
 refine⟨Z,λi hi=>absurd (show i∈([]:List Nat) from hi) (by simp),?_⟩;show(cu ws.length []).length+0=_;unfold cu;have e:(M7 ws.length).filter (λi=>!([]:List Nat).contains i)=M7 ws.length:=Ov.mpr λi _=>Z
 rw[e,NP];rfl
theorem um.ne(h:um ws es k)(hk:k<ws.length):cu ws.length (aR ws es k)≠[]:=λz=>by
 have:=h.wl;rw[z] at this;have e:0+k=ws.length:=this;omega
theorem um.step(h:um ws es k)(rk:nc ws.length es)(hk:k<ws.length):um ws es (k+1)/\∃j:Nat,(cu ws.length (aR ws es k))[j]?=some (g4 ws es (cu ws.length (aR ws es k)))/\(cu ws.length (aR ws es k)).eraseIdx j=cu ws.length (aR ws es (k+1)):=by
 have m:=lV (ws:=ws) rk (h.ne hk);obtain⟨j,hj⟩:=Pa m;obtain⟨e1,e2⟩:=rN (uw _ _) hj;have e3:(cu ws.length (aR ws es k)).eraseIdx j=cu ws.length (aR ws es (k+1)):=by
  rw[e1];exact(vK _ _ _).symm
 refine⟨⟨?_,λi hi=>?_,?_⟩,j,hj,e3⟩
 ·show(aR ws es k++[_]).length=k+1;rw[NL,h.len];rfl
 ·rcases NF.mp (show i∈aR ws es k++[_] from hi) with z|z
  ·exact h.lt i z
  ·rw[Nm.mp z];exact(eW.mp m).1
 ·rw[←e3];have:=h.wl;omega
theorem dP{ws:List Wk}{es:List Ln}(rk:nc ws.length es):∀k,k≤ws.length->um ws es k
 |0,_=>Am ws es
 |k+1,h=>((dP rk k (Nat.le_of_succ_le h)).step rk h).1
def Mg(es:List Ln)(w:Nat)(fd:List Nat)(i:Nat):Bool:=decide ((es.getD i (0,0)).2=w)&&!fd.contains (es.getD i (0,0)).1
def MV(es:List Ln)(w:Nat)(fd:List Nat):List Nat:=(M7 es.length).filter (Mg es w fd)
def Jt(es:List Ln)(is:List Nat):List Nat:=is.map λi=>(es.getD i (0,0)).1
structure MJ(es:List Ln)(w n:Nat)(is:List Nat):Prop where
 nd:is.Nodup
 lt:∀i∈is,i<es.length
 sound:∀x∈Jt es is,iP es x w
 base:∀a,(a,w)∈es->a∈Jt es is
 done:∀j x,j<n->(Jt es is)[j]?=some x->∀a,(a,x)∈es->a∈Jt es is
structure fe(r:R):Prop where
 bq:Bq 449755225920 128 r
 nn:0≤r.1
theorem fe.wf(h:fe r):Wf 50 r:=h.bq.wf (by decide) (by decide) (by decide)
theorem fe.red(h:fe r):hU r:=h.bq.red
theorem C6:fe (0,1):=⟨A8.mono (O7 _) (by decide),Qd _⟩
theorem gN(h:0<r.2):0≤val r↔0≤r.1:=by
 have zz:val ((0,1):R)=0:=(eT (r:=(0,1)) (by decide)).mpr Z;rw[←zz,←fX (r:=r) (q:=(0,1)) h (by decide),rp];show 0*r.2≤r.1*1↔_;omega
theorem AD{r:R}(hp:0<r.2)(hn:0≤r.1):r.1.natAbs≤N*r.2.natAbs↔val r≤(N:Rat):=by
 have e:val (((N:Nat):Int),1)=(N:Rat):=by
  show(((N:Nat):Int):Rat)/((1:Int):Rat)=_;rw[show((1:Int):Rat)=1 from Z];have:(((N:Nat):Int):Rat)=(N:Rat):=Z;rw[this];grind
 rw[←e,←fX (r:=(((N:Nat):Int),1)) (q:=r) (by show(0:Int)<1;decide) hp,rp];show _↔r.1*1≤(N:Int)*r.2;have h1:((r.1.natAbs:Nat):Int)=r.1:=by omega
 have h2:((r.2.natAbs:Nat):Int)=r.2:=by omega
 rw[←Int.ofNat_le,RF,h1,h2,Int.mul_one]
def fE(a b:R):R:=if bK b a=true then b else a
theorem pF(ha:fe a)(hb:fe b):fe (fE a b):=by
 unfold fE
 split
 ·exact hb
 ·exact ha
theorem F1(ha:fe a)(hb:fe b):val (fE a b)≤val a/\val (fE a b)≤val b:=by
 unfold fE
 cases c:bK b a with
 |true=>
  rw[if_pos Z];have:=(fO hb.bq.pos ha.bq.pos).mp c;exact⟨QV this,OG⟩
 |false=>
  rw[if_neg Ny];exact⟨OG,(fX hb.bq.pos ha.bq.pos).mp c⟩
theorem xX(hx:fe x)(ha:fe a)(h:val a≤val x):fe (cY x a):=by
 have b:=Bq.minus (by decide) hx.bq ha.bq;have ev:val (cY x a)=val x-val a:=fI hx.bq.pos ha.bq.pos;have na:=(gN ha.bq.pos).mpr ha.nn;have nn:0≤(cY x a).1:=(gN b.pos).mp (by rw[ev];grind);refine⟨⟨b.pos,b.cop,b.dvd,(AD b.pos nn).mpr ?_⟩,nn⟩;have:=(AD hx.bq.pos hx.nn).mp hx.bq.le;rw[ev];grind
abbrev Pc:=Nat×R
abbrev xD:=List R×R×List Pc
def cP(ws:List Wk)(t:Nat)(st:xD)(i:Nat):xD:=
 if fw (ws.getD i bV) t=true/\fE (st.1.getD i (0,1)) st.2.1≠(0,1) then(st.1.set i (cY (st.1.getD i (0,1)) (fE (st.1.getD i (0,1)) st.2.1)),cY st.2.1 (fE (st.1.getD i (0,1)) st.2.1),st.2.2++[(i,fE (st.1.getD i (0,1)) st.2.1)]) else st
def d7(ws:List Wk)(ord:List Nat)(t:Nat)(lf:List R)(sp:R):xD:=ord.foldl (cP ws t) (lf,sp,[])
def bc(ws:List Wk)(ord:List Nat)(ss:List R):Nat->List R×List (List Pc)
 |0=>(ws.map λw=>w.2.2,[])
 |t+1=>((d7 ws ord t (bc ws ord ss t).1 (ss.getD t (0,1))).1,(bc ws ord ss t).2++[(d7 ws ord t (bc ws ord ss t).1 (ss.getD t (0,1))).2.2])
structure vI(n:Nat)(st:xD):Prop where
 len:st.1.length=n
 lf:∀r∈st.1,fe r
 rm:fe st.2.1
 pc:∀p∈st.2.2,p.1<n/\fe p.2
theorem dh{n:Nat}{l:List R}(h:∀r∈l,fe r)(i:Nat):fe (l.getD i (0,1)):=by
 rw[Nn]
 cases e:l[i]? with
 |none=>exact C6
 |some r=>exact h r (Nd e)
theorem vI.step{st:xD}(h:vI n st)(hi:i<n):vI n (cP ws t st i)/\(cP ws t st i).2.2.length≤st.2.2.length+1:=by
 unfold cP
 split
 ·have a:=dh (n:=n) h.lf i;have le:=F1 a h.rm;have la:=pF a h.rm;refine⟨⟨by rw[P2];exact h.len,λr hr=>?_,xX h.rm la le.2,λp hp=>?_⟩,by rw[NL];exact Nb _⟩
  ·rcases Ta hr with z|z
   ·exact h.lf r z
   ·rw[z];exact xX a la le.1
  ·rcases NF.mp hp with z|z
   ·exact h.pc p z
   ·rw[Nm.mp z];exact⟨hi,la⟩
 ·exact⟨h,O4 _⟩
theorem vI.fold{ws:List Wk}{n t:Nat}:∀{ord:List Nat} {st:xD},vI n st->(∀i∈ord,i<n)->vI n (ord.foldl (cP ws t) st)/\(ord.foldl (cP ws t) st).2.2.length≤st.2.2.length+ord.length
 | [],st,h,_=>⟨h,Nb _⟩
 |i::ord,st,h,hl=>by
  obtain⟨h1,l1⟩:=h.step (ws:=ws) (t:=t) (hl i Ng);obtain⟨h2,l2⟩:=h1.fold (ws:=ws) (t:=t) (ord:=ord) λj hj=>hl j (No _ hj)
  refine⟨h2,?_⟩;rw[OI,NU];omega
structure Mp(n m:Nat)(p:List R×List (List Pc)):Prop where
 len:p.1.length=n
 lf:∀r∈p.1,fe r
 pc:∀q∈p.2,q.length≤m/\∀x∈q,x.1<n/\fe x.2
theorem fB{ws:List Wk}{ord:List Nat}{ss:List R}(okw:∀w∈ws,br w)(ho:∀i∈ord,i<ws.length)(hs:∀r∈ss,fe r):∀t,Mp ws.length ord.length (bc ws ord ss t)/\(bc ws ord ss t).2.length=t
 |0=>by
  refine⟨⟨Na _,λr hr=>?_,λq hq=>by cases hq⟩,Z⟩;obtain⟨w,hw,rfl⟩:=Nu.mp hr;have a:=(okw w hw).am;exact⟨(kw a).mono ⟨5354228880,by decide⟩ (by decide),by have:=a.top;omega⟩
 |t+1=>by
  obtain⟨h,hl⟩:=fB okw ho hs t;obtain⟨d,dl⟩:=vI.fold (ws:=ws) (t:=t) (ord:=ord) (st:=((bc ws ord ss t).1,ss.getD t (0,1),[])) ⟨h.len,h.lf,dh (n:=0) hs t,λp hp=>by cases hp⟩ ho;refine⟨⟨d.len,d.lf,λq hq=>?_⟩,?_⟩
  ·rcases NF.mp (show q∈(bc ws ord ss t).2++[_] from hq) with z|z
   ·exact h.pc q z
   ·rw[Nm.mp z];refine⟨?_,d.pc⟩;have:(d7 ws ord t (bc ws ord ss t).1 (ss.getD t (0,1))).2.2.length≤0+ord.length:=dl;omega
  ·show((bc ws ord ss t).2++[_]).length=t+1;rw[NL,hl];rfl
def me(lf:List R):Option Nat:=(M7 lf.length).find? λi=>decide (lf.getD i (0,1)≠(0,1))
theorem wB(hi:i<lf.length)(h:lf.getD i (0,1)≠(0,1))(b:∀j,j<i->lf.getD j (0,1)=(0,1)):me lf=some i:=by
 unfold me;rw[TB];exact⟨decide_eq_true h,Nk.mpr hi,λj hj=>by rw[decide_eq_false (λz=>z (b j hj))];rfl⟩
theorem wC(b:∀j,j<lf.length->lf.getD j (0,1)=(0,1)):me lf=none:=by
 unfold me;rw[SY];intro j hj z;exact(of_decide_eq_true z) (b j (Nk.mp hj))
noncomputable def dI (ws:List Wk) (es:List Ln) (ss:List R):List R×List (List Pc):=bc ws (aR ws es ws.length) ss 24
def vG(K:M6)(H:Hp)(v:V)(c:Pc):Prop:=∃p x,v=.ref p/\bC K H p [.int (c.1:Nat),x]/\RV K H x c.2
theorem vG.mono{K:M6}{H H':Hp}{v:V}{c:Pc}(h:vG K H v c)(t:aK K H H'):vG K H' v c:=let ⟨p,x,e,s,r⟩:=h;⟨p,x,e,t _ _ s,r.mono t⟩
def xq(K:M6)(H:Hp)(v:V)(q:List Pc):Prop:=∃p xs,v=.ref p/\bC K H p xs/\cV (vG K H) xs q
theorem xq.mono{K:M6}{H H':Hp}{v:V}{q:List Pc}(h:xq K H v q)(t:aK K H H'):xq K H' v q:=let ⟨p,x,e,s,r⟩:=h;⟨p,x,e,t _ _ s,r.mono λ_ _ z=>z.mono t⟩
def Kf(c:Pc):PyData:=.tuple [.int (c.1:Nat),dR c.2]
def Kd(q:List Pc):PyData:=.tuple (q.map Kf)
def A3(ps:List (List Pc)):PyData:=.tuple (ps.map Kd)
theorem vG.deep{K:M6}{H:Hp}{v:V}{c:Pc}(h:vG K H v c):bH K H v (Kf c):=by
 obtain⟨p,x,rfl,hS,hx⟩:=h;exact .tup hS (.cons (.int _) (.cons hx.deep .nil))
theorem xq.deep{K:M6}{H:Hp}{v:V}{q:List Pc}(h:xq K H v q):bH K H v (Kd q):=by
 obtain⟨p,xs,rfl,hS,al⟩:=h;exact .tup hS (al.deep λ_ _ z=>z.deep)
noncomputable def JN (ws:List Wk) (es:List Ln) (ss:List R):PyData:=match me (dI ws es ss).1 with
 |some i=>.int (i:Nat)
 |none=>A3 (dI ws es ss).2
def Mn(K:M6)(H:Hp)(v:V)(rs:List R):Prop:=∃p xs,v=.ref p/\bC K H p xs/\cV (RV K H) xs rs
structure Bs(N:Nat)(r:R):Prop where
 bq:Bq 449755225920 N r
 nn:0≤r.1
theorem Bs.am(h:Bs N r)(hN:N≤128):fe r:=⟨h.bq.mono (O7 _) hN,h.nn⟩
theorem jN(ok:∀w∈ws,br w)(hw:ws.length≤9)(lok:hV ws.length y):Bs 108 (de ws y):=by
 have b:=BY ok hw lok;refine⟨b.mono (Gp _ (by have:=lok.few;omega) lok.pos) (Nb _),?_⟩;have nn:0≤(cO (gG ws y)).1:=by
  have go:∀(l:List R) (a:R),hU a->0≤a.1->(∀r∈l,Bk r)->0≤(l.foldl bF a).1:=by
   intro l
   induction l with
   |nil=>intro a _ na _;exact na
   |cons r l ih=>
    intro a ra na hl;have h:=hl r Ng;have hr:hU r:=⟨by have:=h.bot;omega,h.wf.cop⟩;exact ih (bF a r) (eQ (Oc ra.pos hr.pos)) (Ce ra hr na (by have:=h.top;omega)) λq hq=>hl q (No _ hq)
  refine go _ (0,1) ⟨by decide,by decide⟩ (by decide) λr hr=>?_
  obtain⟨i,hi,rfl⟩:=Nu.mp hr;have hl:=lok.num i hi;rw[ap bV (M8 hl)];exact(ok _ (NY hl)).am
 show 0≤(dZ ((cO (gG ws y)).1*1) _).1;exact tM (by omega)
theorem yc{ws:List Wk}(ok:∀w∈ws,br w)(hw:ws.length≤9):∀{lys:List Ly} {ss:List R},(∀y∈lys,hV ws.length y)->(∀r∈ss,Bs 108 r)->∀r∈lys.foldl (λss y=>ji (de ws y) ss y.1) ss,Bs 108 r
 | [],ss,_,h=>h
 |y::lys,ss,hl,h=>by
  refine yc (lys:=lys) ok hw (λz hz=>hl z (No _ hz)) ?_;have sp:=jN ok hw (hl y Ng);have go:∀(ts:List Nat) (ss:List R),(∀r∈ss,Bs 108 r)->∀r∈ji (de ws y) ss ts,Bs 108 r:=by
   intro ts
   induction ts with
   |nil=>intro ss h;exact h
   |cons t ts ih=>
    intro ss h;refine ih (ss.set t (de ws y)) λr hr=>?_
    rcases Ta hr with z|z
    ·exact h r z
    ·rw[z];exact sp
  exact go y.1 ss h
def vT(K:M6):Sp:=λvs H Q _=>∃(v w:V) (r q:R),vs=[v,w]/\RV K H v r/\RV K H w q/\fe r/\fe q/\∀u,RV K H u (fE r q)->Q u H
structure IX(K:M6)(H:Hp)(v u:V)(ws:List Wk)(es:List Ln):Prop where
 wv:fo K H v ws
 w8:ws.length≤8
 ok:∀w∈ws,br w
 lv:uq K H u es
 eok:ur ws.length es
 rk:nc ws.length es
 e8:es.length≤8
def jO(K:M6):Sp:=λvs H Q _=>∃(v:V) (l wl:Addr) (ws:List Wk) (es:List Ln) (rows:List Addr) (L:Nat->Nat->Bool) (ls:List Nat),vs=[v,.ref l,.ref wl]/\fo K H v ws/\ws.length≤8/\Bp H l rows ws.length L/\Jz ws.length es L/\aV K H wl (aL ls)/\(∀i∈ls,i<ws.length)/\ls≠[]/\ls.length≤8/\nc ws.length es/\∀H',aD H H'->Q (.int (g4 ws es ls:Nat)) H'
def qB(K:M6):Sp:=λvs H Q _=>∃(v u:V) (ws:List Wk) (es:List Ln),vs=[v,u]/\IX K H v u ws es/\∀(l:Addr) (H':Hp),aD H H'->H l=none->H' l=some (.lst (aL (aR ws es ws.length)))->Q (.ref l) H'
def oO(K:M6):Sp:=λvs H Q _=>∃(v u:V) (o lf:Addr) (ws:List Wk) (ord:List Nat) (xs:List V) (rs:List R) (t:Nat) (sp:R),vs=[v,.ref o,.ref lf,.int (t:Nat),u]/\fo K H v ws/\H o=some (.lst (aL ord))/\H lf=some (.lst xs)/\o≠lf/\cV (RV K H) xs rs/\rs.length=ws.length/\(∀r∈rs,fe r)/\RV K H u sp/\fe sp/\(∀i∈ord,i<ws.length)/\ord.length≤8∧
 ∀(w:V) (ys:List V) (H':Hp),bP lf H H'->H' lf=some (.lst ys)->cV (RV K H') ys (d7 ws ord t rs sp).1->xq K H' w (d7 ws ord t rs sp).2.2->Q w H'
def yi(K:M6):Sp:=λvs H Q _=>∃(v u s:V) (ws:List Wk) (es:List Ln) (ss:List R),vs=[v,u,s]/\IX K H v u ws es/\Mn K H s ss/\ss.length=24/\(∀r∈ss,fe r)/\me (dI ws es ss).1=none/\∀(w:V) (H':Hp),aD H H'->bH K H' w (A3 (dI ws es ss).2)->Q w H'
def BH(K:M6):Sp:=λvs H Q _=>∃(v:V) (es:List Ln) (w:Nat),vs=[v,.int (w:Nat)]/\uq K H v es/\es.length≤64/\∀(l:Addr) (as:List Nat) (H':Hp),aD H H'->H' l=some (.lst (aL as))->(∀x,x∈as↔iP es x w)->as.length≤64->Q (.ref l) H'
def D6(_:M6):Sp:=λvs H Q _=>∃i:Int,vs=[.int i]/\0≤i/\i≤1000/\Q (.int (i*7%11)) H
def Dq(K:M6):Sp:=λvs H Q _=>∃(v u:V) (a:Addr) (ws:List Wk) (es:List Ln) (come:List Nat),vs=[v,u,.ref a]/\IX K H v u ws es/\aV K H a (aL come)/\cu ws.length come≠[]/\∀H',aD H H'->Q (.int (g4 ws es (cu ws.length come):Nat)) H'
def BF(K:M6):Sp:=λvs H Q _=>∃(v u:V) (q:Addr) (qs:List V) (ws:List Wk) (es:List Ln) (ss:List R),vs=[v,u,.ref q]/\IX K H v u ws es/\H q=some (.lst qs)/\cV (RV K H) qs ss/\ss.length=24/\(∀r∈ss,fe r)/\∀(w:V) (H':Hp),aD H H'->bH K H' w (JN ws es ss)->Q w H'
def BE(K:M6)(C:Addr):Sp:=λvs H Q _=>∃(x dd:Addr) (fs:List (NV×V)),vs=[.ref x]/\H x=some (IG x C dd)/\H dd=some (dO dd fs)/\∀(l:Addr) (H':Hp),aD H H'->H' l=some (.lst [.bl true,.bl true,.bl true,.bl false])->Q (.ref l) H'
def bR(b:Bool)(x:Rat):Rat:=if b=true then x else 0
theorem dH(x:Rat):bR true x=x:=Z
theorem cK(x:Rat):bR false x=0:=Z
def sQ{α:Type}(f:α->Rat):List α->Rat
 | []=>0
 |x::l=>f x+sQ f l
theorem fZ{α:Type}{f g:α->Rat}:∀{l:List α},(∀x∈l,f x≤g x)->sQ f l≤sQ g l
 | [],_=>OG
 |x::l,h=>by
  have a:=h x Ng;have b:=fZ (l:=l) λy hy=>h y (No _ hy)
  show f x+sQ f l≤g x+sQ g l;grind
theorem aN{α:Type}{f g:α->Rat}:∀{l:List α},(∀x∈l,f x=g x)->sQ f l=sQ g l
 | [],_=>rfl
 |x::l,h=>by
  show f x+sQ f l=g x+sQ g l;rw[h x Ng,aN λy hy=>h y (No _ hy)]
theorem d8{α:Type}{f g:α->Rat}:∀l:List α,sQ (λx=>f x+g x) l=sQ f l+sQ g l
 | []=>by show(0:Rat)=0+0;grind
 |x::l=>by
  show f x+g x+sQ (λx=>f x+g x) l=(f x+sQ f l)+(g x+sQ g l);rw[d8 l];grind
theorem eI{α:Type}(c:Rat){f:α->Rat}:∀l:List α,sQ (λx=>c*f x) l=c*sQ f l
 | []=>by show(0:Rat)=c*0;grind
 |x::l=>by
  show c*f x+sQ (λx=>c*f x) l=c*(f x+sQ f l);rw[eI c l];grind
theorem fh{α:Type}{f:α->Rat}:∀a b:List α,sQ f (a++b)=sQ f a+sQ f b
 | [],b=>by show sQ f b=0+sQ f b;grind
 |x::a,b=>by
  show f x+sQ f (a++b)=(f x+sQ f a)+sQ f b;rw[fh a b];grind
theorem gy{α:Type}{f:α->Rat}(c:α->Bool):∀l:List α,sQ f (l.filter c)=sQ (λx=>bR (c x) (f x)) l
 | []=>rfl
 |x::l=>by
  have ih:=gy (f:=f) c l
  cases e:c x with
  |true=>
   rw[RN e];show f x+sQ f (l.filter c)=bR (c x) (f x)+sQ _ l;rw[ih,e];rfl
  |false=>
   rw[RM (by rw[e];simp)];show sQ f (l.filter c)=bR (c x) (f x)+sQ _ l;rw[ih,e,cK];grind
theorem i3{α β:Type}{f:β->Rat}(m:α->β):∀l:List α,sQ f (l.map m)=sQ (λx=>f (m x)) l
 | []=>rfl
 |x::l=>by
  show f (m x)+sQ f (l.map m)=f (m x)+sQ _ l;rw[i3 m l]
theorem qP{f:α->Rat}{l:List α}(h:∀x∈l,0≤f x):0≤sQ f l:=by
 have:=fZ (f:=λ_:α=>(0:Rat)) (g:=f) (l:=l) h;have z:∀l:List α,sQ (λ_:α=>(0:Rat)) l=0:=λl=>by
  induction l with
  |nil=>rfl
  |cons x l ih=>show(0:Rat)+_=0;rw[ih];grind
 rw[z] at this;exact this
theorem jk(d:α)(l:List α):sQ f l=sQ (λi=>f (l.getD i d)) (M7 l.length):=by
 have e:=di (β:=α) d id l;have e':(M7 l.length).filter (λ_=>true)=M7 l.length:=by simp
 rw[e',Ww] at e;have:=i3 (f:=f) (λi=>id (l.getD i d)) (M7 l.length);rw[e] at this;exact this
def k9(P:Nat->Bool):Rat:=sQ (λt=>bR (P t) 1) (M7 24)
theorem gk(b:Bool)(h:0≤x):0≤bR b x:=by cases b with|true=>exact h|false=>exact OG
theorem Fn:(0:Rat)≤1:=by decide +kernel
theorem A5(P:Nat->Bool):0≤k9 P:=qP λ_ _=>gk _ Fn
theorem j7(h:∀t,t<24->P t=Q t):k9 P=k9 Q:=aN λt ht=>by rw[h t (Nk.mp ht)]
theorem gF(h:∀t,t<24->bR (X t) 1=bR (P t) 1+bR (Q t) 1):k9 X=k9 P+k9 Q:=by
 unfold k9;rw[←d8];exact aN λt ht=>h t (Nk.mp ht)
theorem vt(ht:t<24)(h:P t=true):0<k9 P:=by
 have e:=gF (X:=P) (P:=λu=>decide (u=t)) (Q:=λu=>P u&&!decide (u=t)) (λu _=>by
  by_cases c:u=t
  ·subst c;rw[h,decide_eq_true Z];show(1:Rat)=1+0;grind
  ·rw[decide_eq_false c,UT,Sg];show bR (P u) 1=0+bR (P u) 1;grind)
 have n:=A5 λu=>P u&&!decide (u=t)
 have o:k9 (λu=>decide (u=t))=1:=by
  have:∀t:Fin 24,k9 (λu=>decide (u=t.1))=1:=by decide +kernel
  exact this ⟨t,ht⟩
 rw[o] at e;grind
theorem sY{P:Nat->Bool}{x:Nat}:∀d,(∀i,x≤i->i<x+d->P i=true)->sQ (λt=>bR (P t) 1) (M7 (x+d))=sQ (λt=>bR (P t) 1) (M7 x)+(d:Rat)
 |0,_=>by show sQ _ (M7 x)=sQ _ (M7 x)+((0:Nat):Rat);rw[show((0:Nat):Rat)=0 from Z];grind
 |d+1,h=>by
  have ih:=sY (P:=P) (x:=x) d λi a b=>h i a (by omega)
  rw[←Xd,Oq,fh,ih];show _+(bR (P (x+d)) 1+0)=_;rw[h (x+d) (by omega) (by omega),dH,show((d+1:Nat):Rat)=(d:Rat)+1 from WC d 1];grind
theorem oU{P:Nat->Bool}{x:Nat}:∀d,(∀i,x≤i->i<x+d->P i=false)->sQ (λt=>bR (P t) 1) (M7 (x+d))=sQ (λt=>bR (P t) 1) (M7 x)
 |0,_=>rfl
 |d+1,h=>by
  have ih:=oU (P:=P) (x:=x) d λi a b=>h i a (by omega)
  rw[←Xd,Oq,fh,ih];show _+(bR (P (x+d)) 1+0)=_;rw[h (x+d) (by omega) (by omega),cK];grind
theorem lM(P:Nat->Bool):∀k,∃x,x≤k/\(∀i,x≤i->i<k->P i=true)/\(x=0∨P (x-1)=false)
 |0=>⟨0,Nb _,λi a b=>by omega,.inl Z⟩
 |k+1=>by
  cases c:P k with
  |false=>exact⟨k+1,Nb _,λi a b=>by omega,.inr c⟩
  |true=>
   obtain⟨x,h1,h2,h3⟩:=lM P k;refine⟨x,by omega,λi a b=>?_,h3⟩;by_cases z:i=k
   ·rw[z];exact c
   ·exact h2 i a (by omega)
def eN(A:Nat->Bool)(w:Wk):Bool:=(M7 24).all λt=>!fw w t||A t
theorem dG:eN A w=true↔∀t,t<24->fw w t=true->A t=true:=by
 unfold eN;rw[N4];constructor
 ·intro h t ht e;have:=h t (Nk.mpr ht);rw[e] at this
  simpa using this
 ·intro h t ht
  cases e:fw w t with
  |false=>rfl
  |true=>rw[h t (Nk.mp ht) e];rfl
theorem eY(h:∀t,t<24->A t=true->A' t=true)(q:eN A w=true):eN A' w=true:=dG.mpr λt ht e=>h t ht (dG.mp q t ht e)
theorem wH(w:Wk)(h:∀t,t<24->A t=A' t):eN A w=eN A' w:=by
 rw[O0];exact⟨eY λt ht e=>by rw[←h t ht];exact e,eY λt ht e=>by rw[h t ht];exact e⟩
def jH(w:Wk):Rat:=val w.2.2
def FM(ws:List Wk)(A:Nat->Bool):Rat:=sQ (λw=>bR (eN A w) (jH w)) ws
theorem ug(h:br w):0<jH w:=by
 have a:=h.am;show 0<val w.2.2;unfold val;have h1:(0:Rat)<(w.2.2.1:Rat):=Pz.mpr (show(0:Int)<w.2.2.1 by have:=a.top;omega);have h2:(0:Rat)<(w.2.2.2:Rat):=Pz.mpr (show(0:Int)<w.2.2.2 by have:=a.bot;omega);generalize (w.2.2.1:Rat)=x at *;generalize (w.2.2.2:Rat)=y at *;exact(Rat.lt_div_iff h2).mpr (by grind)
theorem oa{ws:List Wk}(ok:∀w∈ws,br w):∀w∈ws,0≤jH w:=λw hw=>QV (ug (ok w hw))
theorem tT(hx:0≤x)(h:b=true->c=true):bR b x≤bR c x:=by
 cases b with
 |false=>exact gk c hx
 |true=>rw[h Z];exact OG
theorem Dg(nn:∀w∈ws,0≤jH w)(h:∀t,t<24->A t=true->A' t=true):FM ws A≤FM ws A':=fZ λw hw=>tT (nn w hw) (eY h)
theorem Bi(h:∀t,t<24->A t=A' t):FM ws A=FM ws A':=aN λw _=>by rw[wH w h]
theorem se(nn:∀w∈ws,0≤jH w)(A B:Nat->Bool):FM ws A+FM ws B≤FM ws (λt=>A t||B t)+FM ws (λt=>A t&&B t):=by
 unfold FM;rw[←d8,←d8];refine fZ λw hw=>?_
 have x:=nn w hw;have o1:eN A w=true->eN (λt=>A t||B t) w=true:=eY λt _ e=>by rw[e];rfl
 have o2:eN B w=true->eN (λt=>A t||B t) w=true:=eY λt _ e=>by rw[e,V1]
 have o3:eN A w=true->eN B w=true->eN (λt=>A t&&B t) w=true:=λa b=>dG.mpr λt ht e=>by rw[dG.mp a t ht e,dG.mp b t ht e];rfl
 have n3:=gk (eN (λt=>A t&&B t) w) x
 cases a:eN A w with
 |true=>
  cases b:eN B w with
  |true=>rw[o1 a,o3 a b];exact OG
  |false=>rw[o1 a,dH,cK];grind
 |false=>
  cases b:eN B w with
  |true=>rw[o2 b,dH,cK];grind
  |false=>
   have n4:=gk (eN (λt=>A t||B t) w) x;rw[cK];grind
theorem jI:(bn ((M7 24).filter q) w).isSome=!eN (λt=>!q t) w:=by
 rw[O0,hZ];constructor
 ·rintro⟨t,ht,e⟩;obtain⟨h1,h2⟩:=NA.mp ht
  cases c:eN (λt=>!q t) w with
  |false=>rfl
  |true=>
   have:=dG.mp c t (Nk.mp h1) e;rw[h2] at this
   cases this
 ·intro h;apply Tb;intro n;have:eN (λt=>!q t) w=true:=dG.mpr λt ht e=>by
   cases c:q t with
   |false=>rfl
   |true=>exact absurd ⟨t,NA.mpr ⟨Nk.mpr ht,c⟩,e⟩ n
  rw[this] at h
  cases h
def dW(ls:List Nat)(p:Pl)(w:Wk):Bool:=eZ p.1 p.2 (bn ls w)
def SM(ws:List Wk)(ls:List Nat)(p:Pl):Rat:=sQ (λw=>bR (dW ls p w) (jH w)) ws
theorem vf(ws:List Wk)(ls:List Nat)(p:Pl):bS (ws.map (bn ls)) p=(M7 ws.length).filter λi=>dW ls p (ws.getD i bV):=by
 unfold bS dW;rw[Na];refine V0 λi hi=>?_
 have hl:=Nk.mp hi;have h:=M8 hl;rw[ap bV h,ap none (show(ws.map (bn ls))[i]?=some (bn ls ws[i]) by rw[Nh,h];rfl)]
theorem Ba(ws:List Wk)(ls:List Nat)(p:Pl):gG ws (fJ ws ls p)=(ws.filter (dW ls p)).map λw=>w.2.2:=by
 unfold gG fJ;rw[vf];exact dJ bV (dW ls p) (λw:Wk=>w.2.2) ws
theorem jd:∀rs:List R,iS rs=sQ val rs
 | []=>rfl
 |r::rs=>by
  show val r+iS rs=val r+sQ val rs;rw[jd rs]
theorem Bv(ws:List Wk)(ls:List Nat)(p:Pl):iS (gG ws (fJ ws ls p))=SM ws ls p:=by
 rw[Ba,jd,i3];exact gy _ ws
theorem xG(h:br w):((w.2.2.1*84/w.2.2.2:Int):Rat)=84*jH w:=by
 obtain⟨n,hn⟩:=h.am.dvd;have b:=h.am.bot;have e:w.2.2.1*84/w.2.2.2=w.2.2.1*n:=by
  rw[hn,RW];exact NN _ (by omega)
 have e2:(84:Rat)=(w.2.2.2:Rat)*(n:Rat):=by
  rw[←Oj,←hn];rfl
 have nz:(w.2.2.2:Rat)≠0:=dq (by omega);rw[e,Oj,e2];show _=_*val w.2.2;unfold val;generalize (w.2.2.1:Rat)=x at *;generalize (w.2.2.2:Rat)=y at *;generalize (n:Rat)=z at *;grind
theorem qx:∀l:List Int,((l.sum:Int):Rat)=sQ (λx:Int=>(x:Rat)) l
 | []=>rfl
 |x::l=>by
  rw[Qe,Sr,qx l];rfl
theorem u8(ok:∀w∈ws,br w)(ls:List Nat)(p:Pl):((dy (ws.map (bn ls)) (gJ (bG ws)) p:Int):Rat)=84*SM ws ls p:=by
 unfold dy;have e:(bS (ws.map (bn ls)) p).map (gJ (bG ws))=(ws.filter (dW ls p)).map λw=>w.2.2.1*84/w.2.2.2:=by
  rw[vf,←dJ bV (dW ls p) (λw:Wk=>w.2.2.1*84/w.2.2.2) ws];refine Rw λi hi=>?_
  have h:=M8 (Nk.mp (NA.mp hi).1);rw[ap bV h];exact ap 0 (by unfold bG;rw[Nh,h];rfl)
 rw[e,qx,i3,gy];unfold SM;rw[←eI];refine aN λw hw=>?_
 rw[xG (ok w hw)]
 cases dW ls p w with
 |true=>rfl
 |false=>show(0:Rat)=84*0;grind
theorem im(h:gl n p):(0:Rat)<(bL p:Rat):=Pz.mpr h.pos
theorem xO(ok:∀w∈ws,br w)(h:pZ ws ls p)(hr:gl ls.length r):SM ws ls r*(bL p:Rat)≤SM ws ls p*(bL r:Rat):=by
 have a:dy (ws.map (bn ls)) (gJ (bG ws)) r*bL p≤dy (ws.map (bn ls)) (gJ (bG ws)) p*bL r:=by
  rcases h.1.all r hr with z | ⟨z,_⟩<;>omega
 have b:=Rat.intCast_le_intCast.mpr a;rw[Oj,Oj,u8 ok,u8 ok] at b;generalize SM ws ls r=x at *;generalize SM ws ls p=y at *;generalize (bL p:Rat)=u at *;generalize (bL r:Rat)=v at *;grind
theorem wI(h:dW ls p w=true):(bn ls w).isSome=true:=by
 unfold dW at h
 cases c:bn ls w with
 |none=>rw[c] at h;cases h
 |some x=>rfl
theorem AQ(e:bn ls w=some (a,b)):dW ls p w=(decide (p.1≤a)&&decide (b≤p.2)):=by
 unfold dW;rw[e];rfl
def nx(q:Nat->Bool)(p:Pl):Nat->Bool:=λt=>!(c5 ((M7 24).filter q) p).contains t&&q t
theorem kW(q:Nat->Bool)(p:Pl):cT ((M7 24).filter q) p=(M7 24).filter (nx q p):=by
 unfold cT nx;rw[Vu]
theorem Dz(q:Nat->Bool):((M7 24).filter q).Nodup:=PX _ Rs
theorem FQ(hp:gl ((M7 24).filter q).length p):FM ws (λt=>!nx q p t)=FM ws (λt=>!q t)+SM ws ((M7 24).filter q) p:=by
 unfold FM SM;rw[←d8];refine aN λw _=>?_
 have e:=nH (w:=w) (Dz q) hp;rw[kW,jI,jI] at e;have hs:=wI (ls:=(M7 24).filter q) (p:=p) (w:=w);rw[jI] at hs;show bR (eN _ w) _=bR (eN _ w) _+bR (dW _ p w) _;have e':eN (λt=>!nx q p t) w=(eN (λt=>!q t) w||dW ((M7 24).filter q) p w):=by
  have:eZ p.1 p.2 (bn ((M7 24).filter q) w)=dW ((M7 24).filter q) p w:=Z;rw[this] at e
  cases a:eN (λt=>!nx q p t) w<;>cases b:eN (λt=>!q t) w<;>cases c:dW ((M7 24).filter q) p w<;>rw[a,b,c] at e<;>first|rfl|cases e
 rw[e']
 cases b:eN (λt=>!q t) w with
 |true=>
  cases c:dW ((M7 24).filter q) p w with
  |true=>rw[b] at hs;cases hs c
  |false=>show jH w=jH w+0;grind
 |false=>
  cases c:dW ((M7 24).filter q) p w with
  |true=>show jH w=0+jH w;grind
  |false=>show(0:Rat)=0+0;grind
theorem A6(q P:Nat->Bool):k9 (λt=>q t&&P t)=sQ (λi=>bR (P (((M7 24).filter q).getD i 0)) 1) (M7 ((M7 24).filter q).length):=by
 rw[←jk (f:=λt=>bR (P t) 1) 0 ((M7 24).filter q),gy];refine aN λt _=>?_
 show bR (q t&&P t) 1=bR (q t) (bR (P t) 1)
 cases q t<;>rfl
theorem Ax(hp:gl ((M7 24).filter q).length p):k9 (λt=>q t&&!nx q p t)=(bL p:Rat):=by
 have e1:k9 (λt=>q t&&!nx q p t)=k9 (λt=>q t&&(c5 ((M7 24).filter q) p).contains t):=j7 λt _=>by
  unfold nx
  cases q t<;>cases(c5 ((M7 24).filter q) p).contains t<;>rfl
 rw[e1,A6];have h1:=hp.1;have h2:=hp.2;have e2:sQ (λi=>bR ((c5 ((M7 24).filter q) p).contains (((M7 24).filter q).getD i 0)) 1) (M7 ((M7 24).filter q).length)=sQ (λi=>bR (decide (p.1≤i)&&decide (i≤p.2)) 1) (M7 ((M7 24).filter q).length):=aN λi hi=>by
  have hi':=Nk.mp hi;have m:=pD (Dz q) hp hi';rw[ap 0 (M8 hi')]
  congr 1
  rw[O0,PF,m,NM,decide_eq_true_iff,decide_eq_true_iff]
 rw[e2];generalize ((M7 24).filter q).length=n at *;obtain⟨d,rfl⟩:∃d,n=(p.2+1)+d:=⟨n-(p.2+1),by omega⟩;rw[oU (x:=p.2+1) d λi a b=>by rw[decide_eq_false (show ¬i≤p.2 by omega),Pm]];obtain⟨e,he⟩:∃e,p.2+1=p.1+e:=⟨p.2+1-p.1,by omega⟩;rw[he,sY (x:=p.1) e λi a b=>by rw[decide_eq_true a,decide_eq_true (show i≤p.2 by omega)];rfl];have z:=oU (P:=λi=>decide (p.1≤i)&&decide (i≤p.2)) (x:=0) p.1 λi a b=>by
  show(decide (p.1≤i)&&_)=false;rw[decide_eq_false (show ¬p.1≤i by omega)];rfl
 rw[R3] at z;rw[z];show(0:Rat)+(e:Rat)=_;have:bL p=(e:Int):=by unfold bL;omega
 rw[this,QC];grind
theorem vV(q:Nat->Bool):((M7 24).filter q).Pairwise (· < ·):=PX _ Qa
theorem Cf(e:bn ((M7 24).filter q) w=some (a,b))(h1:a≤i)(h2:i≤b):i∈gg ((M7 24).filter q) w:=by
 obtain⟨m1,m2,_⟩:=jb e;have srt:=Om.mp (vV q);generalize (M7 24).filter q=ls at *;obtain⟨la,wa⟩:=fD.mp m1;obtain⟨lb,wb⟩:=fD.mp m2;have li:i<ls.length:=by omega
 rw[ap 0 (M8 la)] at wa;rw[ap 0 (M8 lb)] at wb;refine fD.mpr ⟨li,?_⟩;rw[ap 0 (M8 li)];unfold fw at wa wb ⊢;rw[NM,decide_eq_true_iff,decide_eq_true_iff] at wa wb ⊢;have u1:ls[a]≤ls[i]:=by
  by_cases z:a=i
  ·subst z;exact Nb _
  ·exact Pb (srt a i la li (by omega))
 have u2:ls[i]≤ls[b]:=by
  by_cases z:i=b
  ·subst z;exact Nb _
  ·exact Pb (srt i b li lb (by omega))
 omega
def gB(ls:List Nat)(P:Nat->Bool)(k:Nat)(w:Wk):Bool:=(bn ls w).isSome&&(gg ls w).all λi=>decide (i<k)&&P i
theorem j5:gB ls P k w=true↔(bn ls w).isSome=true/\∀i∈gg ls w,i<k/\P i=true:=by
 unfold gB;rw[NM,N4];constructor
 ·rintro⟨a,b⟩;refine⟨a,λi hi=>?_⟩;have:=b i hi;rw[NM,decide_eq_true_iff] at this;exact this
 ·rintro⟨a,b⟩;refine⟨a,λi hi=>?_⟩;rw[NM,decide_eq_true_iff];exact b i hi
def GM(ws:List Wk)(ls:List Nat)(P:Nat->Bool)(k:Nat):Rat:=sQ (λw=>bR (gB ls P k w) (jH w)) ws
theorem IW(ok:∀w∈ws,br w)(h:pZ ws ((M7 24).filter q) p)(P:Nat->Bool):∀n k,k≤n->k≤((M7 24).filter q).length->GM ws ((M7 24).filter q) P k*(bL p:Rat)≤SM ws ((M7 24).filter q) p*sQ (λi=>bR (P i) 1) (M7 k):=by
 have nn:=oa ok;have lp:=im h.1.inn;intro n
 induction n with
 |zero=>
  intro k hk _;obtain rfl:k=0:=by omega
  have z:GM ws ((M7 24).filter q) P 0=0:=by
   have le:GM ws ((M7 24).filter q) P 0≤sQ (λ_:Wk=>bR false 0) ws:=fZ λw _=>by
    cases c:gB ((M7 24).filter q) P 0 w with
    |false=>exact OG
    |true=>
     obtain⟨a,b⟩:=j5.mp c;obtain⟨⟨x,y⟩,e⟩:=Pj.mp a;have:=(b x (jb e).1).1;omega
   have z0:∀l:List Wk,sQ (λ_:Wk=>bR false 0) l=0:=λl=>by
    induction l with
    |nil=>rfl
    |cons x l ih=>show bR false 0+_=0;rw[ih,cK];grind
   rw[z0] at le;have ge:0≤GM ws ((M7 24).filter q) P 0:=qP λw hw=>gk _ (nn w hw)
   grind
  rw[z];show(0:Rat)*_≤_*0;grind
 |succ n ih=>
  intro k hk hl;by_cases k0:k≤n
  ·exact ih k k0 hl
  obtain rfl:k=n+1:=by omega
  cases c:P n with
  |false=>
   have e:GM ws ((M7 24).filter q) P (n+1)≤GM ws ((M7 24).filter q) P n:=fZ λw hw=>tT (nn w hw) λg=>by
    obtain⟨a,b⟩:=j5.mp g;refine j5.mpr ⟨a,λi hi=>?_⟩;obtain⟨x,y⟩:=b i hi;refine⟨?_,y⟩;by_cases z:i=n
    ·rw[z,c] at y;cases y
    ·omega
   have e2:=PJ e (QV lp);have i1:=ih n (Nb _) (by omega);rw[Oq (n:=n),fh];show _≤_*(_+(bR (P n) 1+0));rw[c,cK];grind
  |true=>
   obtain⟨x,x1,x2,x3⟩:=lM P (n+1);have xn:x≤n:=by
    by_cases z:x=n+1
    ·subst z;rcases x3 with y|y
     ·omega
     ·rw[show n+1-1=n by omega,c] at y;cases y
    ·omega
   have e:GM ws ((M7 24).filter q) P (n+1)≤GM ws ((M7 24).filter q) P x+SM ws ((M7 24).filter q) (x,n):=by
    unfold GM SM;rw[←d8];refine fZ λw hw=>?_
    have w0:=nn w hw;have n1:=gk (gB ((M7 24).filter q) P x w) w0;have n2:=gk (dW ((M7 24).filter q) (x,n) w) w0
    cases g:gB ((M7 24).filter q) P (n+1) w with
    |false=>rw[cK];grind
    |true=>
     obtain⟨a,b⟩:=j5.mp g;obtain⟨⟨u,v⟩,eu⟩:=Pj.mp a;obtain⟨m1,m2,bd⟩:=jb eu;by_cases z:v<x
     ·have:gB ((M7 24).filter q) P x w=true:=j5.mpr ⟨a,λi hi=>⟨by have:=bd i hi;omega,(b i hi).2⟩⟩;rw[this,dH];grind
     ·have xu:x≤u:=by
       apply Tb;intro nu;have m:=Cf eu (i:=x-1) (by omega) (by omega);have y:=(b _ m).2;rcases x3 with y'|y'
       ·omega
       ·rw[y'] at y;cases y
      have vn:=(b v m2).1;have:dW ((M7 24).filter q) (x,n) w=true:=by
       rw[AQ eu,NM,decide_eq_true_iff,decide_eq_true_iff];exact⟨xu,by show v≤n;omega⟩
      rw[this,dH];grind
   have i1:=ih x xn (by omega);have t1:=xO ok h (r:=(x,n)) ⟨xn,by show n<_;omega⟩;obtain⟨d,hd⟩:∃d,n+1=x+d:=⟨n+1-x,by omega⟩;have r:=sY (P:=P) (x:=x) d λi a b=>x2 i a (by omega)
   rw[←hd] at r;rw[r];have ld:(bL (x,n):Rat)=(d:Rat):=by
    have:bL (x,n)=(d:Int):=by show(n:Int)-(x:Int)+1=_;omega
    rw[this,QC]
   rw[ld] at t1;have e2:=PJ e (QV lp);generalize GM ws ((M7 24).filter q) P (n+1)=g1 at *;generalize GM ws ((M7 24).filter q) P x=g0 at *;generalize SM ws ((M7 24).filter q) (x,n)=s1 at *;generalize SM ws ((M7 24).filter q) p=sp at *;generalize (bL p:Rat)=l at *;generalize sQ (λt=>bR (P t) 1) (M7 x)=c0 at *;generalize (d:Rat)=dd at *;grind
theorem Ge(ok:∀w∈ws,br w)(h:pZ ws ((M7 24).filter q) p)(hA:∀t,t<24->q t=false->A t=true):(FM ws A-FM ws (λt=>!q t))*(bL p:Rat)≤SM ws ((M7 24).filter q) p*k9 (λt=>q t&&A t):=by
 have g:=IW ok h (λi=>A (((M7 24).filter q).getD i 0)) _ _ (Nb _) (Nb ((M7 24).filter q).length);rw[A6];have e:FM ws A=FM ws (λt=>!q t)+GM ws ((M7 24).filter q) (λi=>A (((M7 24).filter q).getD i 0)) ((M7 24).filter q).length:=by
  unfold FM GM;rw[←d8];refine aN λw _=>?_
  have wi:=jI (q:=q) (w:=w)
  cases c:eN (λt=>!q t) w with
  |true=>
   have g0:gB ((M7 24).filter q) (λi=>A (((M7 24).filter q).getD i 0)) ((M7 24).filter q).length w=false:=by
    unfold gB;rw[wi,c];rfl
   have a1:eN A w=true:=eY (λt ht e=>hA t ht (by simpa using e)) c;rw[g0,a1,dH,cK];grind
  |false=>
   rw[c] at wi;have eq:eN A w=gB ((M7 24).filter q) (λi=>A (((M7 24).filter q).getD i 0)) ((M7 24).filter q).length w:=by
    rw[O0,j5,dG];constructor
    ·intro z;refine⟨wi,λi hi=>?_⟩;obtain⟨li,wl⟩:=fD.mp hi;refine⟨li,?_⟩;have m:=NY li;rw[ap 0 (M8 li)] at wl ⊢;exact z _ (Nk.mp (NA.mp m).1) wl
    ·rintro⟨_,z⟩ t ht e
     cases cq:q t with
     |false=>exact hA t ht cq
     |true=>
      obtain⟨i,li,ei⟩:=ON.mp (NA.mpr ⟨Nk.mpr ht,cq⟩);have gd:((M7 24).filter q).getD i 0=t:=by rw[ap 0 (M8 li)];exact ei
      have y:=(z i (fD.mpr ⟨li,by rw[gd];exact e⟩)).2;rw[gd] at y;exact y
   rw[eq,cK];grind
 rw[e];grind
def Bm(ws:List Wk):List Ly->Nat->Option R
 | [],_=>none
 |y::r,t=>if y.1.contains t then some (de ws y) else Bm ws r t
theorem lI(ws:List Wk)(y:Ly)(r:List Ly)(t:Nat):Bm ws (y::r) t=if y.1.contains t then some (de ws y) else Bm ws r t:=by rw[Bm]
def ja(ws:List Wk)(lys:List Ly)(t:Nat):Rat:=match Bm ws lys t with
 |none=>0
 |some r=>val r
theorem kP(ws:List Wk)(t:Nat):ja ws [] t=0:=Z
theorem jh(ws:List Wk)(y:Ly)(r:List Ly)(t:Nat):ja ws (y::r) t=if y.1.contains t then val (de ws y) else ja ws r t:=by
 unfold ja;rw[lI]
 cases y.1.contains t<;>rfl
theorem yk(h:fM ws ls lys):(Bm ws lys t).isSome=true->t∈ls:=by
 induction h with
 |nil z=>intro e;cases e
 | @cons ls p r h tl ih=>
  intro e;rw[lI] at e
  cases c:(fJ ws ls p).1.contains t with
  |true=>exact Sk (Qv (show t∈(ls.drop p.1).take (p.2+1-p.1) from PF.mp c))
  |false=>
   rw[c] at e;exact(NA.mp (ih e)).1
theorem qN(r:R)(d:R):∀(ts:List Nat) (ss:List R) (t:Nat),t<ss.length->(ji r ss ts).getD t d=if ts.contains t then r else ss.getD t d
 | [],ss,t,_=>rfl
 |u::ts,ss,t,h=>by
  show(ji r (ss.set u r) ts).getD t d=_;rw[qN r d ts (ss.set u r) t (by rw[P2];exact h),Vq]
  cases c:ts.contains t with
  |true=>simp
  |false=>
   by_cases z:t=u
   ·subst z;simp[Nn,h]
   ·have z':¬u=t:=λq=>z q.symm
    simp[Nn,z,z',OJ]
theorem BC(h:fM ws ls lys):∀(ss:List R) (t:Nat) (d:R),t<ss.length->(lys.foldl (λss y=>ji (de ws y) ss y.1) ss).getD t d=(Bm ws lys t).getD (ss.getD t d):=by
 induction h with
 |nil z=>intro ss t d _;rfl
 | @cons ls p r h tl ih=>
  intro ss t d ht;rw[OI,ih _ t d (by rw[lK];exact ht),qN _ _ _ _ _ ht,lI]
  cases c:(fJ ws ls p).1.contains t with
  |false=>rfl
  |true=>
   have:Bm ws r t=none:=by
    cases e:Bm ws r t with
    |none=>rfl
    |some x=>
     have m:=yk tl (t:=t) (by rw[e];rfl);have:=(NA.mp m).2;rw[show(c5 ls p).contains t=true from c] at this
     cases this
   rw[this];rfl
theorem iC(h:fM ws (M7 24) lys)(ht:t<24)(d:R):val ((aX ws lys).getD t d)=ja ws lys t:=by
 unfold aX;rw[BC h _ t d (by rw[Qm];exact ht)];unfold ja
 cases Bm ws lys t with
 |some r=>rfl
 |none=>
  show val ((ND 24 ((0,1):R)).getD t d)=0;rw[ap d (show(ND 24 ((0,1):R))[t]?=some (0,1) by rw[Po,if_pos ht])];exact gM
theorem C5(ok:∀w∈ws,br w)(ls:List Nat)(p:Pl):∀r∈gG ws (fJ ws ls p),hU r:=by
 intro r hr;rw[Ba] at hr;obtain⟨w,hw,rfl⟩:=Nu.mp hr;exact(ok w (NA.mp hw).1).am.wf.red
theorem vq(hp:gl ls.length p):(((c5 ls p).length:Nat):Rat)=(bL p:Rat):=by
 have h1:=hp.1;have h2:=hp.2;have e:(c5 ls p).length=p.2+1-p.1:=by unfold c5;rw[OH,Qf];omega
 have:bL p=(((c5 ls p).length:Nat):Int):=by rw[e];unfold bL;omega
 rw[this,QC]
theorem iE(ok:∀w∈ws,br w)(hp:gl ls.length p):val (de ws (fJ ws ls p))*(bL p:Rat)=SM ws ls p:=by
 obtain⟨rd,e⟩:=iB (C5 ok ls p);have lp:=im hp;have cl:=vq hp;have pos:(0:Int)<(((fJ ws ls p).1.length:Nat):Int):=by
  refine Pz.mp ?_;rw[QC];show((0:Int):Rat)<(((c5 ls p).length:Nat):Rat);rw[cl];exact lp
 unfold de;rw[fH rd.pos pos,e,Bv];have v1:val ((1,(((fJ ws ls p).1.length:Nat):Int)):R)=1/(bL p:Rat):=by
  unfold val;show((1:Int):Rat)/((((c5 ls p).length:Nat):Int):Rat)=_;rw[QC,cl];rfl
 rw[v1];generalize SM ws ls p=s at *;generalize (bL p:Rat)=l at *;have:l≠0:=λz=>by rw[z] at lp;exact absurd lp (by decide +kernel)
 grind
theorem DN(ok:∀w∈ws,br w)(ls:List Nat)(p:Pl):0≤SM ws ls p:=qP λw hw=>gk _ (oa ok w hw)
theorem D5(ok:∀w∈ws,br w)(hp:gl ls.length p):0≤val (de ws (fJ ws ls p)):=by
 have e:=iE ok hp;have s:=DN ok ls p;have lp:=im hp;rw[←e] at s;generalize val (de ws (fJ ws ls p))=d at *;generalize (bL p:Rat)=l at *;by_cases z:0≤d
 ·exact z
 ·have z':d<0:=Uo.mp z;have:=O6 z' lp;grind
theorem yj(ok:∀w∈ws,br w)(h:fM ws ls lys)(t:Nat):0≤ja ws lys t:=by
 induction h with
 |nil z=>exact OG
 | @cons ls p r h tl ih=>
  rw[jh]
  cases c:(fJ ws ls p).1.contains t with
  |true=>exact D5 ok h.1.inn
  |false=>exact ih
theorem ir(ok:∀w∈ws,br w)(h:pZ ws ((M7 24).filter q) p)(hA:∀t,t<24->q t=false->A t=true):FM ws A-FM ws (λt=>!q t)≤val (de ws (fJ ws ((M7 24).filter q) p))*k9 (λt=>q t&&A t):=by
 have g:=Ge ok h hA;have e:=iE ok h.1.inn;have lp:=im h.1.inn;rw[←e] at g;generalize FM ws A-FM ws (λt=>!q t)=x at *;generalize val (de ws (fJ ws ((M7 24).filter q) p))=d at *;generalize k9 (λt=>q t&&A t)=c at *;generalize (bL p:Rat)=l at *;by_cases z:x≤d*c
 ·exact z
 ·have z':d*c<x:=Uo.mp z;have:=O6 z' lp;grind
theorem FU{a b c:Rat}(h:a≤b)(hc:0≤c):a*c≤b*c:=PJ h hc
theorem j4{a b c:Rat}(hc:0<c)(h:a*c≤b*c):a≤b:=by
 by_cases z:a≤b
 ·exact z
 ·have:=O6 (Uo.mp z) hc;grind
theorem Me{d c1 c2 l f0 fC:Rat}(g:fC-f0≤d*c2)(sp:l=c1+c2):d*c1≤f0+d*l-fC:=by
 subst sp;rw[UU];grind
theorem Md{d s0 c1 c2 l f0 fA fN:Rat}(g:fA-f0≤d*c2)(k0:s0*c1≤fA-fN)(nF:fN=f0+d*l)(sp:c2=c1+l):s0*c1≤d*c1:=by
 subst sp nF;rw[UU] at g;grind
theorem Mc{d s0 c1 c2 c3 l f1 f2 f3 f4 f5:Rat}(k1:s0*c2≤f4-f1)(k2:f3+(f5+d*l)≤f1+f2)(g2:f2-f5≤d*c3)(sp2:l=c1+c3)(m:s0*c1≤d*c1):s0*(c2+c1)≤f4-f3:=by
 subst sp2;rw[UU] at k2 ⊢;grind
theorem pG:(c5 ((M7 24).filter q) p).contains t=true->q t=true:=λh=>by
 have:=Sk (Qv (show t∈(((M7 24).filter q).drop p.1).take (p.2+1-p.1) from PF.mp h));exact(NA.mp this).2
theorem J0(ok:∀w∈ws,br w)(h:fM ws ls lys):∀(q:Nat->Bool),ls=(M7 24).filter q->∀t,t<24->0<ja ws lys t->∃A:Nat->Bool,A t=true/\q t=true/\(∀u,u<24->q u=false->A u=true)/\∀C:Nat->Bool,(∀u,u<24->q u=false->C u=true)->(∀u,u<24->C u=true->A u=true)->ja ws lys t*k9 (λu=>A u&&!C u)≤FM ws A-FM ws C:=by
 have nn:=oa ok
 induction h with
 |nil z=>intro q e t ht s;exact absurd s (by rw[kP];decide +kernel)
 | @cons ls p r h tl ih=>
  intro q e t ht s;subst e;have hp:gl ((M7 24).filter q).length p:=h.1.inn;have nF:=FQ (ws:=ws) hp;have nC:=Ax hp;have sv:=iE ok hp;rw[jh] at s ⊢
  cases c:(fJ ws ((M7 24).filter q) p).1.contains t with
  |true=>
   rw[c,if_pos Z] at s;rw[if_pos Z];have qt:=pG (q:=q) (p:=p) c;refine⟨λu=>!nx q p u,?_,qt,λu _ qu=>?_,λC hC hA=>?_⟩
   ·show(!nx q p t)=true;unfold nx;rw[show(c5 ((M7 24).filter q) p).contains t=true from c];rfl
   ·show(!nx q p u)=true;unfold nx;rw[qu,Pm];rfl
   ·have g:=ir ok h hC;have sp:=gF (X:=λt=>q t&&!nx q p t) (P:=λu=>!nx q p u&&!C u) (Q:=λt=>q t&&C t) (λu hu=>by
     have a1:=hC u hu;have a2:C u=true->(!nx q p u)=true:=hA u hu;show bR (q u&&!nx q p u) 1=bR (!nx q p u&&!C u) 1+bR (q u&&C u) 1
     cases x:q u<;>cases y:nx q p u<;>cases z:C u<;>rw[x,z] at a1<;>rw[y,z] at a2<;>first | (exact absurd (a1 Z) (by decide)) | (exact absurd (a2 Z) (by decide)) | (show(1:Rat)=1+0;grind) | (show(1:Rat)=0+1;grind) | (show(0:Rat)=0+0;grind))
    rw[nC] at sp;rw[nF,←sv];exact Me g sp
  |false=>
   rw[c,if_neg (by simp)] at s;rw[if_neg (by simp)];obtain⟨A,At,nt,hA,key⟩:=ih (nx q p) (kW q p) t ht s;have nq:∀u,nx q p u=true->q u=true:=λu e=>by
    unfold nx at e;rw[NM] at e;exact e.2
   have hA':∀u,u<24->q u=false->A u=true:=λu hu e=>hA u hu (by cases x:nx q p u with|false=>rfl|true=>rw[nq u x] at e;cases e)
   have g:=ir ok h hA';have k0:=key (λu=>!nx q p u) (λu _ e=>by show(!nx q p u)=true;rw[e];rfl) (λu hu e=>hA u hu (by simpa using e));have pos:0<k9 (λu=>A u&&!!nx q p u):=vt ht (by show(A t&&!!nx q p t)=true;rw[At,nt];rfl);have sp:=gF (X:=λt=>q t&&A t) (P:=λu=>A u&&!!nx q p u) (Q:=λt=>q t&&!nx q p t) (λu hu=>by
    have a1:=nq u;have a2:=hA u hu;show bR (q u&&A u) 1=bR (A u&&!!nx q p u) 1+bR (q u&&!nx q p u) 1
    cases x:q u<;>cases y:nx q p u<;>cases z:A u<;>rw[x,y] at a1<;>rw[y,z] at a2<;>first | (exact absurd (a1 Z) (by decide)) | (exact absurd (a2 Z) (by decide)) | (show(1:Rat)=1+0;grind) | (show(1:Rat)=0+1;grind) | (show(0:Rat)=0+0;grind))
   rw[nC] at sp;have dle:ja ws r t≤val (de ws (fJ ws ((M7 24).filter q) p)):=by
    refine j4 pos ?_;rw[←sv] at nF;exact Md g k0 nF sp
   refine⟨A,At,nq t nt,hA',λC hC hCA=>?_⟩;have k1:=key (λu=>C u||!nx q p u) (λu _ e=>by show(C u||!nx q p u)=true;rw[e,UT,V1]) (λu hu e=>by
    cases x:nx q p u with
    |false=>exact hA u hu x
    |true=>
     have e':(C u||!nx q p u)=true:=e;rw[x,PM,Xc] at e';exact hCA u hu e')
   have k2:=se nn C (λu=>!nx q p u);have g2:=ir ok h (A:=λt=>C t&&!nx q p t) (λu hu e=>by
    show(C u&&!nx q p u)=true;rw[hC u hu e];unfold nx;rw[e,Pm];rfl)
   have sp2:=gF (X:=λt=>q t&&!nx q p t) (P:=λu=>!nx q p u&&!C u) (Q:=λt=>q t&&(C t&&!nx q p t)) (λu hu=>by
    have a1:=hC u hu;have a2:=nq u;show bR (q u&&!nx q p u) 1=bR (!nx q p u&&!C u) 1+bR (q u&&(C u&&!nx q p u)) 1
    cases x:q u<;>cases y:nx q p u<;>cases z:C u<;>rw[x,z] at a1<;>rw[x,y] at a2<;>first | (exact absurd (a1 Z) (by decide)) | (exact absurd (a2 Z) (by decide)) | (show(1:Rat)=1+0;grind) | (show(1:Rat)=0+1;grind) | (show(0:Rat)=0+0;grind))
   rw[nC] at sp2;have sp3:=gF (X:=λu=>A u&&!C u) (P:=λu=>A u&&!(C u||!nx q p u)) (Q:=λu=>!nx q p u&&!C u) (λu hu=>by
    have a1:=hA u hu;show bR (A u&&!C u) 1=bR (A u&&!(C u||!nx q p u)) 1+bR (!nx q p u&&!C u) 1
    cases x:A u<;>cases y:nx q p u<;>cases z:C u<;>rw[x,y] at a1<;>first | (exact absurd (a1 Z) (by decide)) | (show(1:Rat)=1+0;grind) | (show(1:Rat)=0+1;grind) | (show(0:Rat)=0+0;grind))
   have m:=FU dle (A5 λu=>!nx q p u&&!C u);rw[nF,←sv] at k2;rw[sp3];exact Mc k1 k2 g2 sp2 m
theorem jF(ok:∀w∈ws,br w):FM ws (λ_=>false)=0:=by
 have e:FM ws (λ_=>false)=sQ (λ_:Wk=>0*(0:Rat)) ws:=aN λw hw=>by
  have:eN (λ_=>false) w=false:=by
   cases c:eN (λ_=>false) w with
   |false=>rfl
   |true=>
    have o:=ok w hw;have l1:=o.le;have l2:=o.lt;have:=dG.mp c w.1 (by omega) (by unfold fw;rw[decide_eq_true (Nb _),decide_eq_true l1];rfl)
    cases this
  rw[this,cK];grind
 rw[e,eI];grind
theorem D9(ok:∀w∈ws,br w)(h:fM ws ls lys):∀(q:Nat->Bool),ls=(M7 24).filter q->sQ (λt=>bR (q t) (ja ws lys t)) (M7 24)=FM ws (λ_=>true)-FM ws (λt=>!q t):=by
 induction h with
 | @nil ls z=>
  intro q e;subst e;have e:FM ws (λ_=>true)=FM ws (λu=>!q u):=aN λw hw=>by
   have n:=P7.mp z w hw;rw[jI] at n;have i0:eN (λt=>!q t) w=true:=by simpa using n
   rw[i0,eY (λ_ _ _=>Z) i0]
  rw[e];have e2:sQ (λt=>bR (q t) (ja ws [] t)) (M7 24)=sQ (λ_:Nat=>0*(0:Rat)) (M7 24):=aN λt _=>by
   rw[kP]
   cases q t with
   |true=>rw[dH];grind
   |false=>rw[cK];grind
  rw[e2,eI];grind
 | @cons ls p r h tl ih=>
  intro q e;subst e;have hp:gl ((M7 24).filter q).length p:=h.1.inn;have i1:=ih (nx q p) (kW q p);have nF:=FQ (ws:=ws) hp;have nC:=Ax hp;have sv:=iE ok hp;have e2:sQ (λt=>bR (q t) (ja ws (fJ ws ((M7 24).filter q) p::r) t)) (M7 24)=sQ (λt=>bR (nx q p t) (ja ws r t)+val (de ws (fJ ws ((M7 24).filter q) p))*bR (q t&&!nx q p t) 1) (M7 24):=aN λt ht=>by
   rw[jh];have n:nx q p t=(!(c5 ((M7 24).filter q) p).contains t&&q t):=Z;have lf:=pG (q:=q) (p:=p) (t:=t);rw[show(fJ ws ((M7 24).filter q) p).1.contains t=(c5 ((M7 24).filter q) p).contains t from Z]
   cases a:(c5 ((M7 24).filter q) p).contains t with
   |true=>
    rw[a] at n lf;rw[lf Z,n];show val _=0+val _*1;grind
   |false=>
    rw[a] at n;rw[n]
    cases q t with
    |true=>show ja ws r t=ja ws r t+_*0;grind
    |false=>show(0:Rat)=0+_*0;grind
  rw[e2,d8,i1,eI];have:sQ (λt=>bR (q t&&!nx q p t) 1) (M7 24)=(bL p:Rat):=nC;rw[this,sv,nF];grind
theorem Dh(ws:List Wk):FM ws (λ_=>true)=sQ jH ws:=aN λw _=>by
 have:eN (λ_=>true) w=true:=dG.mpr λ_ _ _=>Z
 rw[this];rfl
theorem cap(ok:∀w∈ws,br w)(h:fM ws ls lys):∀(q A:Nat->Bool),ls=(M7 24).filter q->(∀t,t<24->q t=false->A t=true)->FM ws A-FM ws (λt=>!q t)≤sQ (λt=>bR (q t&&A t) (ja ws lys t)) (M7 24):=by
 induction h with
 | @nil ls z=>
  intro q A e hA;subst e;have e:FM ws (λ_=>true)=FM ws (λu=>!q u):=aN λw hw=>by
   have n:=P7.mp z w hw;rw[jI] at n;have i0:eN (λt=>!q t) w=true:=by simpa using n
   rw[i0,eY (λ_ _ _=>Z) i0]
  have m:=Dg (oa ok) (A:=A) (A':=λ_=>true) (λ_ _ _=>Z);have nn:0≤sQ (λt=>bR (q t&&A t) (ja ws [] t)) (M7 24):=qP λt _=>gk _ (by rw[kP];exact OG)
  rw[e] at m;grind
 | @cons ls p r h tl ih=>
  intro q A e hA;subst e;have i1:=ih (nx q p) (λt=>A t||!nx q p t) (kW q p) (λt _ hn=>by
   show(A t||!nx q p t)=true;rw[hn];exact V1 _)
  have g:=ir ok h (A:=λt=>A t&&!nx q p t) (λt ht hq=>by
   show(A t&&!nx q p t)=true;rw[hA t ht hq];unfold nx;rw[hq,Pm];rfl)
  have sup:=se (oa ok) A (λt=>!nx q p t);have e2:sQ (λt=>bR (q t&&A t) (ja ws (fJ ws ((M7 24).filter q) p::r) t)) (M7 24)=sQ (λt=>bR (nx q p t&&(A t||!nx q p t)) (ja ws r t)+val (de ws (fJ ws ((M7 24).filter q) p))*bR (q t&&(A t&&!nx q p t)) 1) (M7 24):=aN λt ht=>by
   rw[jh];have n:nx q p t=(!(c5 ((M7 24).filter q) p).contains t&&q t):=Z;have lf:=pG (q:=q) (p:=p) (t:=t);rw[show(fJ ws ((M7 24).filter q) p).1.contains t=(c5 ((M7 24).filter q) p).contains t from Z]
   cases a:(c5 ((M7 24).filter q) p).contains t with
   |true=>
    rw[a] at n lf;rw[lf Z,n]
    cases A t with
    |true=>show val _=0+val _*1;grind
    |false=>show(0:Rat)=0+val _*0;grind
   |false=>
    rw[a] at n;rw[n]
    cases q t with
    |true=>
     cases A t with
     |true=>show ja ws r t=ja ws r t+_*0;grind
     |false=>show(0:Rat)=0+_*0;grind
    |false=>show(0:Rat)=0+_*0;grind
  rw[e2,d8,eI];have c:sQ (λt=>bR (q t&&(A t&&!nx q p t)) 1) (M7 24)=k9 (λt=>q t&&(A t&&!nx q p t)):=Z;rw[c];grind
abbrev Ls:=Nat->Rat
def gm(L:Ls)(i:Nat)(x:Rat):Ls:=λj=>if j=i then x else L j
def mn(a b:Rat):Rat:=if a≤b then a else b
def cG(W:Nat->Bool)(st:Ls×Rat)(i:Nat):Ls×Rat:=if W i=true then(gm st.1 i (st.1 i-mn (st.1 i) st.2),st.2-mn (st.1 i) st.2) else st
def eD(W:Nat->Bool)(ord:List Nat)(L:Ls)(s:Rat):Ls×Rat:=ord.foldl (cG W) (L,s)
theorem FW(a b:Rat):mn a b≤a:=by
 unfold mn
 split
 ·exact OG
 ·rename_i h;exact QV (Uo.mp h)
theorem AA(a b:Rat):mn a b≤b:=by
 unfold mn
 split
 ·assumption
 ·exact OG
theorem Iu(ha:0≤a)(hb:0≤b):0≤mn a b:=by
 unfold mn
 split
 ·exact ha
 ·exact hb
theorem Dy(a b:Rat):mn a b=a∨mn a b=b:=by
 unfold mn
 split
 ·exact .inl Z
 ·exact .inr Z
structure xt(L:Ls)(s:Rat)(st:Ls×Rat):Prop where
 nn:∀i,0≤L i->0≤st.1 i
 le:∀i,st.1 i≤L i
 rm:0≤st.2
theorem xt.step{W:Nat->Bool}{L:Ls}{s:Rat}{st:Ls×Rat}(hL:∀i,0≤L i)(h:xt L s st)(i:Nat):xt L s (cG W st i):=by
 unfold cG
 split
 ·have a1:=FW (st.1 i) st.2;have a2:=AA (st.1 i) st.2;have a3:=Iu (h.nn i (hL i)) h.rm;refine⟨λj _=>?_,λj=>?_,?_⟩
  ·show 0≤gm st.1 i _ j;unfold gm
   split
   ·grind
   ·exact h.nn j (hL j)
  ·show gm st.1 i _ j≤L j;unfold gm;have:=h.le j
   split
   ·rename_i e;subst e;grind
   ·exact this
  ·show 0≤st.2-mn (st.1 i) st.2;grind
 ·exact h
theorem xt.fold{W:Nat->Bool}{L:Ls}{s:Rat}(hL:∀i,0≤L i):∀{ord:List Nat} {st:Ls×Rat},xt L s st->xt L s (ord.foldl (cG W) st)
 | [],_,h=>h
 |i::ord,st,h=>xt.fold hL (ord:=ord) (h.step hL i)
theorem lD{st:Ls×Rat}(h:j≠i):(cG W st i).1 j=st.1 j:=by
 unfold cG
 split
 ·show gm st.1 i _ j=_;unfold gm;rw[if_neg h]
 ·rfl
theorem mo{W:Nat->Bool}{j:Nat}:∀{ord:List Nat} {st:Ls×Rat},j∉ord->(ord.foldl (cG W) st).1 j=st.1 j
 | [],_,_=>rfl
 |i::ord,st,h=>by
  rw[OI,mo (λz=>h (No _ z)),lD (λz=>h (by rw[z];exact Ng))]
theorem xZ{st:Ls×Rat}(hi:i<n):sQ (cG W st i).1 (M7 n)-(cG W st i).2=sQ st.1 (M7 n)-st.2:=by
 unfold cG
 split
 ·show sQ (gm st.1 i (st.1 i-mn (st.1 i) st.2)) (M7 n)-(st.2-mn (st.1 i) st.2)=_;have key:∀(m:Nat) (x:Rat),sQ (gm st.1 i x) (M7 m)=sQ st.1 (M7 m)+(if i<m then x-st.1 i else 0):=by
   intro m x
   induction m with
   |zero=>show(0:Rat)=0+(if i<0 then _ else 0);rw[if_neg (Qr _)];grind
   |succ m ih=>
    rw[Oq,fh,fh,ih];show sQ st.1 (M7 m)+_+(gm st.1 i x m+0)=sQ st.1 (M7 m)+(st.1 m+0)+_;unfold gm;by_cases c:i<m
    ·rw[if_pos c,if_neg (by omega),if_pos (by omega)];grind
    ·rw[if_neg c];by_cases e:m=i
     ·subst e;rw[if_pos Z,if_pos (by omega)];grind
     ·rw[if_neg e,if_neg (by omega)];grind
  rw[key,if_pos hi];grind
 ·rfl
theorem rJ{W:Nat->Bool}{n:Nat}:∀{ord:List Nat} {st:Ls×Rat},(∀i∈ord,i<n)->sQ (ord.foldl (cG W) st).1 (M7 n)-(ord.foldl (cG W) st).2=sQ st.1 (M7 n)-st.2
 | [],_,_=>rfl
 |i::ord,st,h=>by
  rw[OI,rJ (λj hj=>h j (No _ hj)),xZ (h i Ng)]
theorem vS{st:Ls×Rat}(h0:0≤st.1 i)(hr:st.2=0):(cG W st i).1=st.1/\(cG W st i).2=0:=by
 unfold cG
 split
 ·have e:mn (st.1 i) st.2=0:=by
   rw[hr];rcases Dy (st.1 i) 0 with z|z
   ·have:=AA (st.1 i) 0;rw[z] at this ⊢;grind
   ·exact z
  rw[e];refine⟨?_,?_⟩
  ·show gm st.1 i (st.1 i-0)=st.1
   funext j
   unfold gm
   split
   ·rename_i z;subst z;grind
   ·rfl
  ·show st.2-0=0;grind
 ·exact⟨Z,hr⟩
theorem nQ{W:Nat->Bool}:∀{ord:List Nat} {st:Ls×Rat},(∀i,0≤st.1 i)->st.2=0->(ord.foldl (cG W) st).1=st.1/\(ord.foldl (cG W) st).2=0
 | [],_,_,hr=>⟨Z,hr⟩
 |i::ord,st,h0,hr=>by
  obtain⟨e1,e2⟩:=vS (W:=W) (h0 i) hr;rw[OI];have:=nQ (W:=W) (ord:=ord) (st:=cG W st i) (by rw[e1];exact h0) e2;rw[e1] at this;exact this
theorem ny(hL:∀j,0≤L j)(hs:0≤s)(nd:(l1++i:: l2).Nodup)(hW:W i=true)(hl:0<(eD W (l1++i:: l2) L s).1 i):
  (eD W (l1++i:: l2) L s).2=0/\∀j,j∉l1->j≠i->(eD W (l1++i:: l2) L s).1 j=L j:=by
 have e:eD W (l1++i::l2) L s=l2.foldl (cG W) (cG W (l1.foldl (cG W) (L,s)) i):=by
  unfold eD;rw[P1,OI]
 have i0:xt L s (L,s):=⟨λ_ h=>h,λ_=>OG,hs⟩;have i1:=i0.fold (W:=W) hL (ord:=l1);have i2:=i1.step (W:=W) hL i;obtain⟨n1,n2,n3⟩:=OC.mp nd;have il2:i∉l2:=(Ot.mp n2).1;rw[e] at hl ⊢;rw[mo il2] at hl;have offA:∀j,j∉l1->(l1.foldl (cG W) (L,s)).1 j=L j:=λj hj=>mo hj
 generalize l1.foldl (cG W) (L,s)=A at *;have room:(cG W A i).2=0:=by
  unfold cG at hl ⊢;rw[if_pos hW] at hl ⊢;show A.2-mn (A.1 i) A.2=0;have hl':0<A.1 i-mn (A.1 i) A.2:=by
   have:0<gm A.1 i (A.1 i-mn (A.1 i) A.2) i:=hl;unfold gm at this;rw[if_pos Z] at this;exact this
  rcases Dy (A.1 i) A.2 with z|z
  ·rw[z] at hl';grind
  ·rw[z];grind
 obtain⟨e1,e2⟩:=nQ (W:=W) (ord:=l2) (st:=cG W A i) (λj=>i2.nn j (hL j)) room;refine⟨e2,λj hj hji=>?_⟩;rw[e1,lD hji];exact offA j hj
theorem qp{W:Nat->Bool}{i:Nat}(h:W i=false):∀{ord:List Nat} {st:Ls×Rat},(ord.foldl (cG W) st).1 i=st.1 i
 | [],_=>rfl
 |j::ord,st=>by
  rw[OI,qp h (ord:=ord)];by_cases c:i=j
  ·subst c;unfold cG;rw[if_neg (by rw[h];exact Ny)]
  ·exact lD c
theorem jj{α β:Type}(f:α->β->Rat)(m:List β):∀l:List α,sQ (λx=>sQ (λy=>f x y) m) l=sQ (λy=>sQ (λx=>f x y) l) m
 | []=>by
  show(0:Rat)=sQ (λ_=>(0:Rat)) m;have e:sQ (λ_:β=>(0:Rat)) m=sQ (λy:β=>0*((λ_=>(0:Rat)) y)) m:=aN λ_ _=>by grind
  rw[e,eI];grind
 |x::l=>by
  show sQ (λy=>f x y) m+sQ (λx=>sQ (λy=>f x y) m) l=sQ (λy=>f x y+sQ (λx=>f x y) l) m;rw[jj f m l,d8]
theorem sW(hi:i<n)(c:Rat):sQ (λj=>if j=i then c else 0) (M7 n)=c:=by
 have key:∀m:Nat,sQ (λj=>if j=i then c else 0) (M7 m)=if i<m then c else 0:=by
  intro m
  induction m with
  |zero=>show(0:Rat)=_;rw[if_neg (Qr _)]
  |succ m ih=>
   rw[Oq,fh,ih];show _+((if m=i then c else 0)+0)=_;by_cases e:m=i
   ·subst e;rw[if_neg (Of _),if_pos Z,if_pos (Qg _)];grind
   ·by_cases l:i<m
    ·rw[if_pos l,if_neg e,if_pos (by omega)];grind
    ·rw[if_neg l,if_neg e,if_neg (by omega)];grind
 rw[key,if_pos hi]
theorem uN(g:Nat->Rat)(b:Nat):∀N,b≤N->sQ (λt=>bR (decide (b≤t)) (g t-g (t+1))) (M7 N)=g b-g N:=by
 intro N
 induction N with
 |zero=>intro h;rw[show b=0 by omega];show(0:Rat)=_;grind
 |succ N ih=>
  intro h;rw[Oq,fh];show _+(bR (decide (b≤N)) (g N-g (N+1))+0)=_;by_cases c:b≤N
  ·rw[ih c,decide_eq_true c,dH];grind
  ·have e:b=N+1:=by omega
   have z:sQ (λt=>bR (decide (b≤t)) (g t-g (t+1))) (M7 N)=sQ (λ_:Nat=>0*(0:Rat)) (M7 N):=aN λt ht=>by
    have:=Nk.mp ht;rw[decide_eq_false (by omega),cK];grind
   rw[z,eI,decide_eq_false c,cK,e];grind
theorem BT(g:Nat->Rat)(d:Nat):∀k,sQ (λt=>bR (decide (t≤d)) (g t)) (M7 (d+1+k))=sQ g (M7 (d+1)):=by
 intro k
 induction k with
 |zero=>exact aN λt ht=>by have:=Nk.mp ht;rw[decide_eq_true (by omega),dH]
 |succ k ih=>
  rw[show d+1+(k+1)=(d+1+k)+1 by omega,Oq,fh,ih];show _+(bR (decide (d+1+k≤d)) _+0)=_;rw[decide_eq_false (by omega),cK];grind
def Wt(f l:Nat->Nat)(t i:Nat):Bool:=decide (f i≤t)&&decide (t≤l i)
def cU(ord:List Nat)(f l:Nat->Nat)(a:Ls)(s:Nat->Rat):Nat->Ls
 |0=>a
 |t+1=>(eD (Wt f l t) ord (cU ord f l a s t) (s t)).1
structure eF(n:Nat)(ord:List Nat)(f l:Nat->Nat)(a:Ls)(s:Nat->Rat):Prop where
 nd:ord.Nodup
 mem:∀i,i∈ord↔i<n
 srt:ord.Pairwise (λi j=>l i≤l j)
 win:∀i,i<n->f i≤l i/\l i<24
 an:∀i,0≤a i
 sn:∀t,0≤s t
 cap:∀b d,b≤d->d<24->sQ (λj=>bR (decide (b≤f j)&&decide (l j≤d)) (a j)) (M7 n)≤sQ (λt=>bR (decide (t≤d)) (bR (decide (b≤t)) (s t))) (M7 24)
section
variable {n:Nat}{ord:List Nat}{f l:Nat->Nat}{a:Ls}{s:Nat->Rat}
theorem eF.sti(h:eF n ord f l a s)(hL:∀i,0≤L i)(t:Nat):xt L (s t) (eD (Wt f l t) ord L (s t)):=xt.fold hL ⟨λ_ h=>h,λ_=>OG,h.sn t⟩
theorem eF.nn(h:eF n ord f l a s):∀t i,0≤cU ord f l a s t i
 |0,i=>h.an i
 |t+1,i=>(h.sti (h.nn t) t).nn i (h.nn t i)
theorem eF.dn(h:eF n ord f l a s)(t i:Nat):cU ord f l a s (t+1) i≤cU ord f l a s t i:=(h.sti (h.nn t) t).le i
theorem eF.dn'(h:eF n ord f l a s)(t i:Nat):∀k,cU ord f l a s (t+k) i≤cU ord f l a s t i
 |0=>OG
 |k+1=>V2 (h.dn (t+k) i) (h.dn' t i k)
theorem eF.out(h:eF n ord f l a s)(hw:Wt f l t i=false):cU ord f l a s (t+1) i=cU ord f l a s t i:=qp hw
theorem eF.sum(h:eF n ord f l a s)(t:Nat):sQ (λj=>cU ord f l a s t j-cU ord f l a s (t+1) j) (M7 n)=s t-(eD (Wt f l t) ord (cU ord f l a s t) (s t)).2:=by
 have q:=rJ (W:=Wt f l t) (n:=n) (ord:=ord) (st:=(cU ord f l a s t,s t)) λi hi=>(h.mem i).mp hi
 have e:sQ (λj=>cU ord f l a s t j-cU ord f l a s (t+1) j) (M7 n)=sQ (cU ord f l a s t) (M7 n)-sQ (cU ord f l a s (t+1)) (M7 n):=by
  have e1:=d8 (f:=λj=>cU ord f l a s t j-cU ord f l a s (t+1) j) (g:=cU ord f l a s (t+1)) (M7 n);have e2:sQ (λx=>cU ord f l a s t x-cU ord f l a s (t+1) x+cU ord f l a s (t+1) x) (M7 n)=sQ (cU ord f l a s t) (M7 n):=aN λx _=>by grind
  grind
 rw[e];have q':sQ (cU ord f l a s (t+1)) (M7 n)-(eD (Wt f l t) ord (cU ord f l a s t) (s t)).2=sQ (cU ord f l a s t) (M7 n)-s t:=q;grind
theorem eF.all_le(h:eF n ord f l a s)(t:Nat):sQ (λj=>cU ord f l a s t j-cU ord f l a s (t+1) j) (M7 n)≤s t:=by
 rw[h.sum];have:=(h.sti (h.nn t) t).rm;grind
theorem eF.full(h:eF n ord f l a s)(hi:i<n)(hw:Wt f l t i=true)(hl:0<cU ord f l a s (t+1) i):sQ (λj=>bR (decide (l j≤l i)) (cU ord f l a s t j-cU ord f l a s (t+1) j)) (M7 n)=s t:=by
 obtain⟨l1,l2,e⟩:=RJ ((h.mem i).mpr hi);have nd:=h.nd;have srt:=h.srt;rw[e] at nd srt;have hl':0<(eD (Wt f l t) (l1++i::l2) (cU ord f l a s t) (s t)).1 i:=by rw[←e];exact hl
 obtain⟨r0,keep⟩:=ny (h.nn t) (h.sn t) nd hw hl';rw[←e] at r0 keep;have sm:=h.sum t;rw[r0] at sm;have e2:sQ (λj=>bR (decide (l j≤l i)) (cU ord f l a s t j-cU ord f l a s (t+1) j)) (M7 n)=sQ (λj=>cU ord f l a s t j-cU ord f l a s (t+1) j) (M7 n):=aN λj _=>by
  by_cases c:l j≤l i
  ·rw[decide_eq_true c,dH]
  ·rw[decide_eq_false c,cK];have j1:j∉l1:=λz=>c ((Rj.mp srt).2.2 j z i Ng)
   have j2:j≠i:=λz=>c (by rw[z];exact Nb _)
   have k:cU ord f l a s (t+1) j=cU ord f l a s t j:=keep j j1 j2;rw[k];grind
 rw[e2,sm];grind
theorem J9(h:eF n ord f l a s)(hi:i<n):cU ord f l a s 24 i=0:=by
 by_cases z:cU ord f l a s 24 i=0
 ·exact z
 exfalso;have pos:0<cU ord f l a s 24 i:=by
  have:=h.nn 24 i;grind
 obtain⟨w1,w2⟩:=h.win i hi;have later:∀t,t≤24->0<cU ord f l a s t i:=λt ht=>by
  have:=h.dn' t i (24-t);rw[show t+(24-t)=24 by omega] at this;grind
 let P:Nat->Bool:=λt=>decide (sQ (λj=>bR (decide (l j≤l i)) (cU ord f l a s t j-cU ord f l a s (t+1) j)) (M7 n)=s t)
 have Pin:∀t,f i≤t->t≤l i->P t=true:=λt h1 h2=>decide_eq_true (h.full hi (by unfold Wt;rw[decide_eq_true h1,decide_eq_true h2];rfl) (later (t+1) (by omega)))
 obtain⟨b,hb,hrun,hend⟩:=lM P (l i+1);have bf:b≤f i:=by
  by_cases c:b≤f i
  ·exact c
  ·rcases hend with e|e
   ·omega
   ·rw[Pin (b-1) (by omega) (by omega)] at e;cases e
 have early:∀j,j<n->l j≤l i->f j<b->cU ord f l a s b j-cU ord f l a s (l i+1) j=0:=λj hj h1 h2=>by
  have e:P (b-1)=false:=by
   rcases hend with e|e
   ·omega
   ·exact e
  by_cases c:b-1≤l j
  ·have z0:cU ord f l a s b j=0:=by
    by_cases zz:cU ord f l a s b j=0
    ·exact zz
    exfalso;have nb:=h.nn b j;have fl:=h.full (t:=b-1) hj (by unfold Wt;rw[decide_eq_true (show f j≤b-1 by omega),decide_eq_true c];rfl) (by rw[show b-1+1=b by omega];grind);have m:sQ (λk=>bR (decide (l k≤l j)) (cU ord f l a s (b-1) k-cU ord f l a s (b-1+1) k)) (M7 n)≤sQ (λk=>bR (decide (l k≤l i)) (cU ord f l a s (b-1) k-cU ord f l a s (b-1+1) k)) (M7 n):=fZ λk _=>tT (by have:=h.dn (b-1) k;grind) λq=>decide_eq_true (by have:=of_decide_eq_true q;omega)
    have m2:sQ (λk=>bR (decide (l k≤l i)) (cU ord f l a s (b-1) k-cU ord f l a s (b-1+1) k)) (M7 n)≤sQ (λk=>cU ord f l a s (b-1) k-cU ord f l a s (b-1+1) k) (M7 n):=fZ λk _=>by
     have:=h.dn (b-1) k
     cases decide (l k≤l i) with
     |true=>exact OG
     |false=>rw[cK];grind
    have m3:=h.all_le (b-1);have:P (b-1)=true:=decide_eq_true (by grind);rw[this] at e
    cases e
   have d1:=h.dn' b j (l i+1-b);rw[show b+(l i+1-b)=l i+1 by omega] at d1;have d2:=h.nn (l i+1) j;grind
  ·have st:∀k,cU ord f l a s (b+k) j=cU ord f l a s b j:=λk=>by
    induction k with
    |zero=>rfl
    |succ k ih=>
     rw[←ih];exact h.out (t:=b+k) (by unfold Wt;rw[decide_eq_false (show ¬b+k≤l j by omega),Pm])
   have:=st (l i+1-b);rw[show b+(l i+1-b)=l i+1 by omega] at this;rw[this];grind
 have tot:sQ (λt=>bR (decide (b≤t)) (s t)) (M7 (l i+1))=sQ (λj=>bR (decide (l j≤l i)) (cU ord f l a s b j-cU ord f l a s (l i+1) j)) (M7 n):=by
  have e1:sQ (λt=>bR (decide (b≤t)) (s t)) (M7 (l i+1))=sQ (λt=>sQ (λj=>bR (decide (l j≤l i)) (bR (decide (b≤t)) (cU ord f l a s t j-cU ord f l a s (t+1) j))) (M7 n)) (M7 (l i+1)):=aN λt ht=>by
   have tl:=Nk.mp ht;by_cases c:b≤t
   ·rw[decide_eq_true c,dH,←of_decide_eq_true (hrun t c tl)];exact aN λj _=>by rw[dH]
   ·rw[decide_eq_false c,cK];have e:sQ (λj=>bR (decide (l j≤l i)) (bR false (cU ord f l a s t j-cU ord f l a s (t+1) j))) (M7 n)=sQ (λ_:Nat=>0*(0:Rat)) (M7 n):=aN λj _=>by
     rw[cK]
     cases decide (l j≤l i) with
     |true=>rw[dH];grind
     |false=>rw[cK];grind
    rw[e,eI];grind
  rw[e1,jj];exact aN λj _=>by
   cases decide (l j≤l i) with
   |true=>
    have:=uN (λt=>cU ord f l a s t j) b (l i+1) hb;rw[dH,←this];exact aN λt _=>by rw[dH]
   |false=>
    rw[cK];have e:sQ (λt=>bR false (bR (decide (b≤t)) (cU ord f l a s t j-cU ord f l a s (t+1) j))) (M7 (l i+1))=sQ (λ_:Nat=>0*(0:Rat)) (M7 (l i+1)):=aN λt _=>by rw[cK];grind
    rw[e,eI];grind
 have le:sQ (λj=>bR (decide (l j≤l i)) (cU ord f l a s b j-cU ord f l a s (l i+1) j)+(if j=i then cU ord f l a s (l i+1) i else 0)) (M7 n)≤sQ (λj=>bR (decide (b≤f j)&&decide (l j≤l i)) (a j)) (M7 n):=fZ λj hj=>by
  have jn:=Nk.mp hj;by_cases c1:l j≤l i
  ·rw[decide_eq_true c1,dH,Sg];by_cases c2:b≤f j
   ·rw[decide_eq_true c2,dH];have d1:=h.dn' 0 j b;rw[R3] at d1;have d1':cU ord f l a s b j≤a j:=d1;have d2:=h.nn (l i+1) j;by_cases e:j=i
    ·subst e;rw[if_pos Z];grind
    ·rw[if_neg e];grind
   ·rw[decide_eq_false c2,cK,early j jn c1 (by omega),if_neg (λe=>c2 (by rw[e];exact bf))];grind
  ·rw[decide_eq_false c1,cK,Pm,cK,if_neg (λe=>c1 (by rw[e];exact Nb _))];grind
 rw[d8,sW hi,←tot] at le;have cp:=h.cap b (l i) (by omega) w2;have up:=BT (λt=>bR (decide (b≤t)) (s t)) (l i) (24-(l i+1));rw[show l i+1+(24-(l i+1))=24 by omega] at up;rw[up] at cp;have:=later (l i+1) (by omega);grind
end
def dj(l:List R):Ls:=λj=>val (l.getD j (0,1))
theorem km:val ((0,1):R)=0:=(eT (r:=(0,1)) (by decide)).mpr Z
theorem FV(ha:fe a)(hb:fe b):mn (val a) (val b)=val (fE a b):=by
 unfold fE mn
 cases c:bK b a with
 |true=>
  rw[if_pos Z,if_neg];have:=(fO hb.bq.pos ha.bq.pos).mp c;exact Uo.mpr this
 |false=>
  rw[if_neg Ny,if_pos];exact(fX hb.bq.pos ha.bq.pos).mp c
theorem Bw(hi:i<l.length)(x:R):dj (l.set i x)=gm (dj l) i (val x):=by
 funext j
 unfold dj gm;rw[Nn,V3];by_cases c:j=i
 ·subst c;rw[if_pos Z,if_pos Z,if_pos hi];rfl
 ·rw[if_neg (λz=>c z.symm),if_neg c,←Nn]
theorem xY{ws:List Wk}{st:xD}(h:vI n st)(hi:i<n):(dj (cP ws t st i).1,val (cP ws t st i).2.1)=cG (λj=>fw (ws.getD j bV) t) (dj st.1,val st.2.1) i:=by
 have al:=dh (n:=n) h.lf i;have e:=FV al h.rm;have eL:dj st.1 i=val (st.1.getD i (0,1)):=Z;unfold cP cG;dsimp only;by_cases c:fw (ws.getD i bV) t=true
 ·rw[if_pos c];show _=(gm (dj st.1) i (dj st.1 i-mn (dj st.1 i) (val st.2.1)),val st.2.1-mn (dj st.1 i) (val st.2.1));rw[eL,e];by_cases z:fE (st.1.getD i (0,1)) st.2.1=(0,1)
  ·rw[if_neg (λq=>q.2 z),z,km];have e1:gm (dj st.1) i (val (st.1.getD i (0,1))-0)=dj st.1:=by
    funext j
    unfold gm
    split
    ·rename_i q;subst q;show _-0=val _;grind
    ·rfl
   rw[e1];have e2:val st.2.1-0=val st.2.1:=by grind
   rw[e2]
  ·rw[if_pos ⟨c,z⟩];have la:=pF al h.rm;show(dj (st.1.set i _),val (cY st.2.1 _))=_;rw[Bw (by rw[h.len];exact hi),fI al.bq.pos la.bq.pos,fI h.rm.bq.pos la.bq.pos]
 ·rw[if_neg (λz=>c z.1),if_neg c]
theorem jz{ws:List Wk}{n t:Nat}:∀{ord:List Nat} {st:xD},vI n st->(∀i∈ord,i<n)->(dj (ord.foldl (cP ws t) st).1,val (ord.foldl (cP ws t) st).2.1)=ord.foldl (cG (λj=>fw (ws.getD j bV) t)) (dj st.1,val st.2.1)
 | [],_,_,_=>rfl
 |i::ord,st,h,hl=>by
  rw[OI,OI,←xY h (hl i Ng)];exact jz (h.step (ws:=ws) (t:=t) (hl i Ng)).1 λj hj=>hl j (No _ hj)
abbrev fW(ws:List Wk)(i:Nat):Nat:=(ws.getD i bV).1
abbrev aW(ws:List Wk):Ls:=dj (ws.map λw=>w.2.2)
theorem jt{ws:List Wk}{ord:List Nat}{ss:List R}(okw:∀w∈ws,br w)(ho:∀i∈ord,i<ws.length)(hs:∀r∈ss,fe r):∀t,dj (bc ws ord ss t).1=cU ord (fW ws) (bo ws) (aW ws) (dj ss) t
 |0=>rfl
 |t+1=>by
  obtain⟨h,hl⟩:=fB okw ho hs t;have d:vI ws.length ((bc ws ord ss t).1,ss.getD t (0,1),[]):=⟨h.len,h.lf,dh (n:=0) hs t,λp hp=>by cases hp⟩;have q:=jz (ws:=ws) (t:=t) d ho;have e:=congrArg Prod.fst q;show dj (ord.foldl (cP ws t) ((bc ws ord ss t).1,ss.getD t (0,1),[])).1=(eD (Wt (fW ws) (bo ws) t) ord (cU ord (fW ws) (bo ws) (aW ws) (dj ss) t) (dj ss t)).1;rw[←jt okw ho hs t];exact e
theorem jY{ws:List Wk}{es:List Ln}(rk:nc ws.length es):∀k,k≤ws.length->(aR ws es k).Nodup
 |0,_=>PV
 |k+1,h=>by
  have oi:=dP (es:=es) rk k (by omega);show(aR ws es k++[_]).Nodup;rw[OC];refine⟨jY rk k (by omega),Ot.mpr ⟨by simp,PV⟩,λa ha b hb z=>?_⟩;have m:=lV (ws:=ws) rk (oi.ne (by omega));rw[Nm.mp hb] at z;subst z;exact(eW.mp m).2 ha
theorem o7(rk:nc ws.length es)(i:Nat):i∈aR ws es ws.length↔i<ws.length:=by
 have oi:=dP (es:=es) rk ws.length (Nb _);refine⟨oi.lt i,λh=>?_⟩;by_cases c:i∈aR ws es ws.length
 ·exact c
 ·have:i∈cu ws.length (aR ws es ws.length):=eW.mpr ⟨h,c⟩;have l:=oi.wl;have e:(cu ws.length (aR ws es ws.length)).length=0:=by omega
  rw[QJ.mp e] at this
  cases this
theorem uQ{ws:List Wk}{es:List Ln}(rk:nc ws.length es):∀k,k≤ws.length->(aR ws es k).Pairwise (λi j=>bo ws i≤bo ws j)/\∀i∈aR ws es k,∀j,j<ws.length->j∉aR ws es k->bo ws i≤bo ws j
 |0,_=>⟨.nil,λi hi=>absurd (show i∈([]:List Nat) from hi) (by simp)⟩
 |k+1,h=>by
  obtain⟨p,q⟩:=uQ (es:=es) rk k (by omega);have oi:=dP (es:=es) rk k (by omega);have ne:=oi.ne (by omega);have m:=lV (ws:=ws) rk ne;have ml:∀j,j<ws.length->j∉aR ws es k->bo ws (g4 ws es (cu ws.length (aR ws es k)))≤bo ws j:=λj h1 h2=>by
   have a:=Nd (kZ (ws:=ws) rk ne);exact(gC.mp (NA.mp a).1).2 j (eW.mpr ⟨h1,h2⟩)
  refine⟨?_,λi hi j hj nj=>?_⟩
  ·show(aR ws es k++[_]).Pairwise _;rw[Rj];exact⟨p,TZ _ _,λa ha b hb=>by rw[Nm.mp hb];exact q a ha _ (eW.mp m).1 (eW.mp m).2⟩
  ·have nj':j∉aR ws es k:=λz=>nj (OX _ z)
   rcases NF.mp (show i∈aR ws es k++[_] from hi) with z|z
   ·exact q i z j hj nj'
   ·rw[Nm.mp z];exact ml j hj nj'
theorem Ga(h:br w)(b d:Nat)(hd:d<24):eN (λt=>decide (b≤t)&&decide (t≤d)) w=(decide (b≤w.1)&&decide (w.2.1≤d)):=by
 have h1:=h.le;have h2:=h.lt;rw[O0,dG,NM,decide_eq_true_iff,decide_eq_true_iff];constructor
 ·intro q;have a:=q w.1 (by omega) (by unfold fw;rw[decide_eq_true (Nb _),decide_eq_true h1];rfl);have c:=q w.2.1 h2 (by unfold fw;rw[decide_eq_true h1,decide_eq_true (Nb _)];rfl);rw[NM,decide_eq_true_iff,decide_eq_true_iff] at a c;exact⟨a.1,c.2⟩
 ·rintro⟨q1,q2⟩ t ht it;unfold fw at it;rw[NM,decide_eq_true_iff,decide_eq_true_iff] at it;rw[NM,decide_eq_true_iff,decide_eq_true_iff];omega
theorem vE(h:i<ws.length):aW ws i=jH (ws.getD i bV):=by
 unfold aW dj jH;rw[ap (0,1) (show(ws.map λw=>w.2.2)[i]?=some ws[i].2.2 by rw[Nh,M8 h];rfl),ap bV (M8 h)]
theorem tV(ok:∀w∈ws,br w)(rk:nc ws.length es)(h:fM ws (M7 24) lys):eF ws.length (aR ws es ws.length) (fW ws) (bo ws) (aW ws) (dj (aX ws lys)) where
 nd:=jY rk _ (Nb _)
 mem:=o7 rk
 srt:=(uQ rk _ (Nb _)).1
 win:=λi hi=>by
  have o:=ok _ (NY hi);unfold fW bo;rw[ap bV (M8 hi)];exact⟨o.le,o.lt⟩
 an:=λi=>by
  by_cases c:i<ws.length
  ·rw[vE c];refine oa ok _ ?_;rw[ap bV (M8 c)];exact NY c
  ·unfold aW dj;rw[Nn,NX (by rw[Na];omega)];show 0≤val ((0,1):R);rw[km];exact OG
 sn:=λt=>by
  by_cases c:t<24
  ·show 0≤val ((aX ws lys).getD t (0,1));rw[iC h c];exact yj ok h t
  ·have e24:(aX ws lys).length=24:=by
    unfold aX;rw[iD];rfl
   unfold dj;rw[Nn,NX (by omega)];show 0≤val ((0,1):R);rw[km];exact OG
 cap:=λb d hb hd=>by
  have c:=cap ok h (λ_=>true) (λt=>decide (b≤t)&&decide (t≤d)) (Ov.mpr λ_ _=>Z).symm (λt _ z=>by cases z);have e0:FM ws (λt=>!(λ_=>true) t)=0:=jF ok;rw[e0] at c;have e1:FM ws (λt=>decide (b≤t)&&decide (t≤d))=sQ (λj=>bR (decide (b≤fW ws j)&&decide (bo ws j≤d)) (aW ws j)) (M7 ws.length):=by
   unfold FM;rw[jk bV];exact aN λj hj=>by
    have jl:=Nk.mp hj;rw[Ga (by rw[ap bV (M8 jl)];exact ok _ (NY jl)) b d hd,vE jl];rfl
  have e2:sQ (λt=>bR (true&&(decide (b≤t)&&decide (t≤d))) (ja ws lys t)) (M7 24)=sQ (λt=>bR (decide (t≤d)) (bR (decide (b≤t)) (dj (aX ws lys) t))) (M7 24):=aN λt ht=>by
   have tl:=Nk.mp ht;have ev:dj (aX ws lys) t=ja ws lys t:=iC h tl _;rw[ev]
   cases decide (b≤t)<;>cases decide (t≤d)<;>rfl
  rw[←e1,←e2];grind
theorem wo(ok:∀w∈ws,br w)(rk:nc ws.length es)(h:fM ws (M7 24) lys)(hs:∀r∈aX ws lys,fe r):me (dI ws es (aX ws lys)).1=none:=by
 have oi:=dP (es:=es) rk ws.length (Nb _);obtain⟨po,_⟩:=fB (ord:=aR ws es ws.length) (ss:=aX ws lys) ok oi.lt hs 24;refine wC λj hj=>?_
 have jn:j<ws.length:=by rw[←po.len];exact hj
 have e:=J9 (tV (es:=es) ok rk h) jn;rw[←jt ok oi.lt hs 24] at e;have a:=dh (n:=0) po.lf j;have e':val ((dI ws es (aX ws lys)).1.getD j (0,1))=0:=e;have z:=(eT a.bq.pos).mp e';have r:=a.red;refine fY r ⟨by decide,by decide⟩ ?_;rw[km];exact e'
structure De(ws:List Wk)(n t:Nat)(L0:List R)(s:R)(seen:List Nat)(st:xD):Prop where
 ok:vI n st
 sub:(st.2.2.map (·.1)).Sublist seen
 pc:∀i r,(i,r)∈st.2.2->fw (ws.getD i bV) t=true/\fe r/\0<val r/\val r=dj L0 i-dj st.1 i
 un:∀i,i∉st.2.2.map (·.1)->st.1.getD i (0,1)=L0.getD i (0,1)
 sum:sQ (λp:Pc=>val p.2) st.2.2+val st.2.1=val s
theorem C7(h:fe r)(hz:r≠(0,1)):0<val r:=by
 have n:=(gN h.bq.pos).mpr h.nn;by_cases z:val r=0
 ·exfalso;refine hz (fY h.red ⟨by decide,by decide⟩ ?_);rw[km];exact z
 ·grind
theorem De.step{ws:List Wk}{n t i:Nat}{L0:List R}{s:R}{seen:List Nat}{st:xD}(h:De ws n t L0 s seen st)(hi:i<n)(ni:i∉seen):De ws n t L0 s (seen++[i]) (cP ws t st i):=by
 have d1:=(h.ok.step (ws:=ws) (t:=t) hi).1;have nf:i∉st.2.2.map (·.1):=λz=>ni (h.sub.subset z)
 have al:=dh (n:=n) h.ok.lf i;have la:=pF al h.ok.rm;by_cases c:fw (ws.getD i bV) t=true/\fE (st.1.getD i (0,1)) st.2.1≠(0,1)
 ·have e:cP ws t st i=(st.1.set i (cY (st.1.getD i (0,1)) (fE (st.1.getD i (0,1)) st.2.1)),cY st.2.1 (fE (st.1.getD i (0,1)) st.2.1),st.2.2++[(i,fE (st.1.getD i (0,1)) st.2.1)]):=by
   unfold cP;rw[if_pos c]
  have u0:=h.un i nf;rw[e] at d1 ⊢;have il:i<st.1.length:=by rw[h.ok.len];exact hi
  have off:∀j x,j≠i->(st.1.set i x).getD j (0,1)=st.1.getD j (0,1):=λj x hj=>by
   rw[Nn,OJ (λz=>hj z.symm),←Nn]
  have on:∀x,(st.1.set i x).getD i (0,1)=x:=λx=>by
   rw[Nn,Pd il];rfl
  refine⟨d1,?_,λj r hj=>?_,λj hj=>?_,?_⟩
  ·show((st.2.2++[(i,fE (st.1.getD i (0,1)) st.2.1)]).map (λp:Pc=>p.1)).Sublist _;rw[N5];exact V4.append h.sub (V5 _)
  ·rcases NF.mp hj with z|z
   ·obtain⟨a1,a2,a3,a4⟩:=h.pc j r z;have jn:j≠i:=λq=>nf (by rw[←q];exact Nu.mpr ⟨_,z,Z⟩)
    refine⟨a1,a2,a3,?_⟩;show val r=dj L0 j-val ((st.1.set i _).getD j (0,1));rw[off j _ jn];exact a4
   ·cases Nm.mp z
    refine⟨c.1,la,C7 la c.2,?_⟩;show val (fE (st.1.getD i (0,1)) st.2.1)=val (L0.getD i (0,1))-val ((st.1.set i _).getD i (0,1));rw[on,fI al.bq.pos la.bq.pos,u0];grind
  ·have hj':j∉(st.2.2++[(i,fE (st.1.getD i (0,1)) st.2.1)]).map (·.1):=hj;rw[N5] at hj';have jn:j≠i:=λq=>hj' (Nz _ (by rw[q];exact Ng))
   show(st.1.set i _).getD j (0,1)=_;rw[off j _ jn];exact h.un j λz=>hj' (OX _ z)
  ·show sQ (λp:Pc=>val p.2) (st.2.2++[_])+val (cY st.2.1 _)=val s;rw[fh,fI h.ok.rm.bq.pos la.bq.pos];have:=h.sum;show _+(val (fE (st.1.getD i (0,1)) st.2.1)+0)+_=_;grind
 ·have e:cP ws t st i=st:=by
   unfold cP;rw[if_neg c]
  rw[e];exact⟨h.ok,h.sub.trans (List.sublist_append_left _ _),h.pc,h.un,h.sum⟩
theorem De.fold{ws:List Wk}{n t:Nat}{L0:List R}{s:R}:∀{ord seen:List Nat} {st:xD},De ws n t L0 s seen st->(∀i∈ord,i<n)->(seen++ord).Nodup->De ws n t L0 s (seen++ord) (ord.foldl (cP ws t) st)
 | [],seen,st,h,_,_=>by rw[O1];exact h
 |i::ord,seen,st,h,hl,nd=>by
  have e:seen++i::ord=(seen++[i])++ord:=by simp
  rw[e] at nd ⊢;have ni:i∉seen:=λz=>(OC.mp (OC.mp nd).1).2.2 i z i Ng Z
  exact De.fold (h.step (hl i Ng) ni) (λj hj=>hl j (No _ hj)) nd
theorem o6(okw:∀w∈ws,br w)(ho:∀i∈ord,i<ws.length)(nd:ord.Nodup)(hs:∀r∈ss,fe r)(t:Nat):De ws ws.length t (bc ws ord ss t).1 (ss.getD t (0,1)) ord (d7 ws ord t (bc ws ord ss t).1 (ss.getD t (0,1))):=by
 obtain⟨h,hl⟩:=fB okw ho hs t;have d:vI ws.length ((bc ws ord ss t).1,ss.getD t (0,1),[]):=⟨h.len,h.lf,dh (n:=0) hs t,λp hp=>by cases hp⟩;have q:De ws ws.length t (bc ws ord ss t).1 (ss.getD t (0,1)) [] ((bc ws ord ss t).1,ss.getD t (0,1),[]):=⟨d,V5 _,(λi r hr=>by cases hr),(λi _=>Z),by show(0:Rat)+_=_;grind⟩;exact q.fold ho nd
theorem ig{α:Type}{f:α->Rat}:∀{l:List α},(∀x∈l,0≤f x)->sQ f l=0->∀x∈l,f x=0
 | [],_,_,x,hx=>by cases hx
 |y::l,h,e,x,hx=>by
  have h1:=h y Ng;have h2:=qP (f:=f) (l:=l) λz hz=>h z (No _ hz)
  have e':f y+sQ f l=0:=e;rcases Nq.mp hx with z|z
  ·rw[z];grind
  ·exact ig (λz hz=>h z (No _ hz)) (by grind) x z
theorem EK(l:List α):sQ (λx=>f x-g x) l=sQ f l-sQ g l:=by
 have e1:=d8 (f:=λx=>f x-g x) (g:=g) l;have e2:sQ (λx=>f x-g x+g x) l=sQ f l:=aN λx _=>by grind
 grind
theorem Bc(ok:∀w∈ws,br w)(rk:nc ws.length es)(h:fM ws (M7 24) lys)(ht:t<24):(eD (Wt (fW ws) (bo ws) t) (aR ws es ws.length) (cU (aR ws es ws.length) (fW ws) (bo ws) (aW ws) (dj (aX ws lys)) t) (dj (aX ws lys) t)).2=0:=by
 have E:=tV (es:=es) ok rk h;have tot:sQ (λt=>(eD (Wt (fW ws) (bo ws) t) (aR ws es ws.length) (cU (aR ws es ws.length) (fW ws) (bo ws) (aW ws) (dj (aX ws lys)) t) (dj (aX ws lys) t)).2) (M7 24)=0:=by
  have e1:sQ (λt=>(eD (Wt (fW ws) (bo ws) t) (aR ws es ws.length) (cU (aR ws es ws.length) (fW ws) (bo ws) (aW ws) (dj (aX ws lys)) t) (dj (aX ws lys) t)).2) (M7 24)=sQ (λt=>dj (aX ws lys) t-sQ (λj=>cU (aR ws es ws.length) (fW ws) (bo ws) (aW ws) (dj (aX ws lys)) t j-cU (aR ws es ws.length) (fW ws) (bo ws) (aW ws) (dj (aX ws lys)) (t+1) j) (M7 ws.length)) (M7 24):=aN λt _=>by
   have:=E.sum t;grind
  rw[e1,EK,jj];have e2:sQ (λj=>sQ (λt=>cU (aR ws es ws.length) (fW ws) (bo ws) (aW ws) (dj (aX ws lys)) t j-cU (aR ws es ws.length) (fW ws) (bo ws) (aW ws) (dj (aX ws lys)) (t+1) j) (M7 24)) (M7 ws.length)=sQ (aW ws) (M7 ws.length):=aN λj hj=>by
   have te:=uN (λt=>cU (aR ws es ws.length) (fW ws) (bo ws) (aW ws) (dj (aX ws lys)) t j) 0 24 (by decide);have z:=J9 E (Nk.mp hj);have e:sQ (λt=>cU (aR ws es ws.length) (fW ws) (bo ws) (aW ws) (dj (aX ws lys)) t j-cU (aR ws es ws.length) (fW ws) (bo ws) (aW ws) (dj (aX ws lys)) (t+1) j) (M7 24)=sQ (λt=>bR (decide (0≤t)) (cU (aR ws es ws.length) (fW ws) (bo ws) (aW ws) (dj (aX ws lys)) t j-cU (aR ws es ws.length) (fW ws) (bo ws) (aW ws) (dj (aX ws lys)) (t+1) j)) (M7 24):=aN λt _=>by rw[decide_eq_true (NB _),dH]
   rw[e,te];rw[z];show aW ws j-0=aW ws j;grind
  have e3:sQ (dj (aX ws lys)) (M7 24)=sQ (aW ws) (M7 ws.length):=by
   have sa:=D9 ok h (λ_=>true) (Ov.mpr λ_ _=>Z).symm;have e0:FM ws (λt=>!(λ_=>true) t)=0:=jF ok;rw[e0,Dh,jk bV] at sa;have e4:sQ (dj (aX ws lys)) (M7 24)=sQ (λt=>bR true (ja ws lys t)) (M7 24):=aN λt ht=>by
    rw[dH];exact iC h (Nk.mp ht) _
   have e5:sQ (λi=>jH (ws.getD i bV)) (M7 ws.length)=sQ (aW ws) (M7 ws.length):=aN λj hj=>(vE (Nk.mp hj)).symm
   rw[e4,sa,e5];grind
  rw[e2];have e3':sQ (λt=>dj (aX ws lys) t) (M7 24)=sQ (aW ws) (M7 ws.length):=e3;rw[e3'];grind
 exact ig (λt _=>(E.sti (E.nn t) t).rm) tot t (Nk.mpr ht)
theorem xH(ok:∀w∈ws,br w)(rk:nc ws.length es)(h:fM ws (M7 24) lys)(hs:∀r∈aX ws lys,fe r)(ht:t<24):sQ (λp:Pc=>val p.2) (d7 ws (aR ws es ws.length) t (bc ws (aR ws es ws.length) (aX ws lys) t).1 ((aX ws lys).getD t (0,1))).2.2=ja ws lys t:=by
 have oi:=dP (es:=es) rk ws.length (Nb _);have nd:=jY (es:=es) rk ws.length (Nb _);have p:=(o6 (ord:=aR ws es ws.length) ok oi.lt nd hs t);have u:=Bc (es:=es) ok rk h ht;have q:=jz (ws:=ws) (t:=t) (n:=ws.length) (ord:=aR ws es ws.length) (st:=((bc ws (aR ws es ws.length) (aX ws lys) t).1,(aX ws lys).getD t (0,1),[])) (by
  obtain⟨hh,_⟩:=fB (ord:=aR ws es ws.length) (ss:=aX ws lys) ok oi.lt hs t;exact⟨hh.len,hh.lf,dh (n:=0) hs t,λp hp=>by cases hp⟩) oi.lt
 have e:=congrArg Prod.snd q;have e':val (d7 ws (aR ws es ws.length) t (bc ws (aR ws es ws.length) (aX ws lys) t).1 ((aX ws lys).getD t (0,1))).2.1=(eD (Wt (fW ws) (bo ws) t) (aR ws es ws.length) (dj (bc ws (aR ws es ws.length) (aX ws lys) t).1) (dj (aX ws lys) t)).2:=e;rw[jt ok oi.lt hs t,u] at e';have sm:=p.sum;rw[e'] at sm;have sv:=iC h ht (0,1);rw[←sv];grind
theorem lR{ws:List Wk}{es:List Ln}(rk:nc ws.length es){a b:Nat}(ha:a<ws.length)(r:iP es a b)(le:bo ws a≤bo ws b):∀k,k≤ws.length->∀l1 l2,aR ws es k=l1++b::l2->a∈l1
 |0,_,l1,l2,e=>by
  have e':([]:List Nat)=l1++b::l2:=e
  cases l1<;>cases e'
 |k+1,h,l1,l2,e=>by
  have oi:=dP (es:=es) rk k (by omega);have ne:=oi.ne (by omega);have e':aR ws es k++[g4 ws es (cu ws.length (aR ws es k))]=l1++b::l2:=e;rcases List.eq_nil_or_concat l2 with z | ⟨l3,x,z⟩
  ·subst z;have e2:=Wp e' Z;have eb:g4 ws es (cu ws.length (aR ws es k))=b:=(List.cons.inj e2.2).1;rw[←e2.1];by_cases c:a∈aR ws es k
   ·exact c
   ·exfalso;have aw:a∈cu ws.length (aR ws es k):=eW.mpr ⟨ha,c⟩;have m:=Nd (kZ (ws:=ws) rk ne);obtain⟨m1,m2⟩:=NA.mp m;rw[eb] at m1 m2;have mb:=gC.mp m1;have al:a∈gD ws (cu ws.length (aR ws es k)):=gC.mpr ⟨aw,λj hj=>NH le (mb.2 j hj)⟩;rw[Ra,Tg] at m2;exact m2 a al (j3.mpr r)
  ·subst z;have e3:aR ws es k++[g4 ws es (cu ws.length (aR ws es k))]=(l1++b::l3)++[x]:=by rw[e'];simp
   have e2:=Wp e3 Z;exact lR rk ha r le k (by omega) l1 l3 e2.1
theorem wA(ok:∀w∈ws,br w)(rk:nc ws.length es)(hs:∀r∈ss,fe r)(ha:a<ws.length)(hb:b<ws.length)(r:iP es a b)(le:bo ws a≤bo ws b)(hw:fw (ws.getD a bV) t=true)
  (hp:b∈(d7 ws (aR ws es ws.length) t (bc ws (aR ws es ws.length) ss t).1 (ss.getD t (0,1))).2.2.map (·.1)):dj (bc ws (aR ws es ws.length) ss (t+1)).1 a=0:=by
 have oi:=dP (es:=es) rk ws.length (Nb _);have nd:=jY (es:=es) rk ws.length (Nb _);obtain⟨l1,l2,e⟩:=RJ ((o7 (es:=es) rk a).mpr ha);have bl:b∈l2:=by
  have hbm:=(o7 (es:=es) rk b).mpr hb;rw[e] at hbm;rcases NF.mp hbm with z|z
  ·obtain⟨m1,m2,e2⟩:=RJ z;have e3:aR ws es ws.length=m1++b::(m2++a::l2):=by rw[e,e2];simp
   have am:=lR rk ha r le ws.length (Nb _) _ _ e3;rw[e] at nd;exact absurd Z ((OC.mp nd).2.2 a (by rw[e2];exact OX _ am) a Ng)
  ·rcases Nq.mp z with z|z
   ·subst z;obtain⟨ps,_,hps⟩:=rk;exact absurd (iP.rank hps r) (Of _)
   ·exact z
 by_cases z:dj (bc ws (aR ws es ws.length) ss (t+1)).1 a=0
 ·exact z
 exfalso;have p:=o6 (ord:=aR ws es ws.length) ok oi.lt nd hs t;obtain⟨hh,_⟩:=fB (ord:=aR ws es ws.length) (ss:=ss) ok oi.lt hs t;have d:vI ws.length ((bc ws (aR ws es ws.length) ss t).1,ss.getD t (0,1),[]):=⟨hh.len,hh.lf,dh (n:=0) hs t,λp hp=>by cases hp⟩;have q:=congrArg Prod.fst (jz (ws:=ws) (t:=t) d oi.lt);have q':dj (bc ws (aR ws es ws.length) ss (t+1)).1=(eD (λj=>fw (ws.getD j bV) t) (aR ws es ws.length) (dj (bc ws (aR ws es ws.length) ss t).1) (dj ss t)).1:=q;have nnL:∀j,0≤dj (bc ws (aR ws es ws.length) ss t).1 j:=λj=>(gN (dh (n:=0) hh.lf j).bq.pos).mpr (dh (n:=0) hh.lf j).nn
 have nnS:0≤dj ss t:=(gN (dh (n:=0) hs t).bq.pos).mpr (dh (n:=0) hs t).nn;have sti:xt (dj (bc ws (aR ws es ws.length) ss t).1) (dj ss t) (eD (λj=>fw (ws.getD j bV) t) (aR ws es ws.length) (dj (bc ws (aR ws es ws.length) ss t).1) (dj ss t)):=xt.fold nnL ⟨λ_ h=>h,λ_=>OG,nnS⟩;have pos:0<(eD (λj=>fw (ws.getD j bV) t) (l1++a::l2) (dj (bc ws (aR ws es ws.length) ss t).1) (dj ss t)).1 a:=by
  rw[←e];have:=sti.nn a (nnL a);rw[←q'] at this ⊢;grind
 have nd':=nd;rw[e] at nd';obtain⟨_,keep⟩:=ny nnL nnS nd' hw pos;have b1:b∉l1:=λz=>(OC.mp nd').2.2 b z b (No _ bl) Z
 have b2:b≠a:=λz=>(Ot.mp (OC.mp nd').2.1).1 (by rw[←z];exact bl)
 have kb:=keep b b1 b2;rw[←e,←q'] at kb;obtain⟨⟨b',rr⟩,hm,hb'⟩:=Nu.mp hp;have hb'':b'=b:=hb';subst hb'';obtain⟨_,_,v0,v1⟩:=p.pc _ _ hm;have kb':dj (d7 ws (aR ws es ws.length) t (bc ws (aR ws es ws.length) ss t).1 (ss.getD t (0,1))).1 b'=dj (bc ws (aR ws es ws.length) ss t).1 b':=kb;grind
def cf(pl:List (List Pc))(t k:Nat):Pc:=(pl.getD t []).getD k (0,(0,1))
def kH(pl:List (List Pc))(t k i:Nat):List (Nat×Nat):=((M7 k).filter λj=>decide ((cf pl t j).1=i)).map λj=>(t,j)
def kT(pl:List (List Pc)):Nat->Nat->List (Nat×Nat)
 |0,_=>[]
 |t+1,i=>kT pl t i++kH pl t (pl.getD t []).length i
def iO(pl:List (List Pc))(t i:Nat)(r:R):Nat->R
 |0=>r
 |k+1=>if(cf pl t k).1=i then bF (iO pl t i r k) (cf pl t k).2 else iO pl t i r k
def iN(pl:List (List Pc))(i:Nat):Nat->R
 |0=>(0,1)
 |t+1=>iO pl t i (iN pl i t) (pl.getD t []).length
theorem Ea(h:(cf pl t k).1=i):kH pl t (k+1) i=kH pl t k i++[(t,k)]:=by
 unfold kH;rw[Oq,RI,N5]
 congr 1
 have e:List.filter (λj=>decide ((cf pl t j).1=i)) [k]=[k]:=RN (p:=λj=>decide ((cf pl t j).1=i)) (decide_eq_true h);rw[e];rfl
theorem BL(h:(cf pl t k).1≠i):kH pl t (k+1) i=kH pl t k i:=by
 unfold kH;rw[Oq,RI,N5];show _++(List.filter _ [k]).map _=_;rw[RM (by rw[decide_eq_false h];exact Ny)];show _++[]=_;rw[O1]
theorem uI(h:x∈kH pl t k i):x.1=t/\x.2<k/\(cf pl t x.2).1=i:=by
 obtain⟨j,hj,rfl⟩:=Nu.mp h;obtain⟨h1,h2⟩:=NA.mp hj;exact⟨Z,Nk.mp h1,of_decide_eq_true h2⟩
theorem kQ{pl:List (List Pc)}{i:Nat}:∀{t:Nat} {x:Nat×Nat},x∈kT pl t i->x.1<t/\x.2<(pl.getD x.1 []).length/\(cf pl x.1 x.2).1=i
 |0,x,h=>by cases h
 |t+1,x,h=>by
  rcases NF.mp (show x∈kT pl t i++kH pl t (pl.getD t []).length i from h) with z|z
  ·obtain⟨a,b,c⟩:=kQ z;exact⟨by omega,b,c⟩
  ·obtain⟨a,b,c⟩:=uI z;rw[a];exact⟨by omega,b,c⟩
structure GC(ws:List Wk)(es:List Ln)(pl:List (List Pc)):Prop where
 len:pl.length=24
 few:∀t,(pl.getD t []).length≤8
 pc:∀t k,t<24->k<(pl.getD t []).length->(cf pl t k).1<ws.length/\fe (cf pl t k).2/\0<val (cf pl t k).2/\fw (ws.getD (cf pl t k).1 bV) t=true
 nd:∀t j k,t<24->j<k->k<(pl.getD t []).length->(cf pl t j).1≠(cf pl t k).1
 fin:∀i,i<ws.length->iN pl i 24=(ws.getD i bV).2.2
 ne:∀i,i<ws.length->kT pl 24 i≠[]
 lean:∀a b,(a,b)∈es->∀x∈kT pl 24 a,∀y∈kT pl 24 b,x.1<y.1∨(x.1=y.1/\x.2<y.2)
theorem yr(h:∀j,j<k->(cf pl t j).1≠i):kH pl t k i=[]:=by
 cases e:kH pl t k i with
 |nil=>rfl
 |cons x r=>
  have m:x∈kH pl t k i:=by rw[e];exact Ng
  obtain⟨_,b,c⟩:=uI m;exact absurd c (h _ b)
theorem tY{pl:List (List Pc)}{t i:Nat}{r:R}{N:Nat}(h:Bq 449755225920 N r):∀k,k≤(pl.getD t []).length->(∀j,j<(pl.getD t []).length->fe (cf pl t j).2)->Bq 449755225920 (N+128*k) (iO pl t i r k)
 |0,_,_=>h
 |k+1,hk,ha=>by
  have ih:=tY (i:=i) h k (by omega) ha;show Bq _ _ (if(cf pl t k).1=i then bF (iO pl t i r k) (cf pl t k).2 else iO pl t i r k)
  split
  ·exact(Bq.plus (by decide) ih (ha k (by omega)).bq).mono (O7 _) (by omega)
  ·exact ih.mono (O7 _) (by omega)
theorem tX{ws:List Wk}{pl:List (List Pc)}(few:∀t,(pl.getD t []).length≤8)(pc:∀t k,t<24->k<(pl.getD t []).length->fe (cf pl t k).2)(i:Nat):∀t,t≤24->Bq 449755225920 (1024*t) (iN pl i t)
 |0,_=>(A8.mono (O7 _) (Nb _))
 |t+1,h=>by
  have f:=few t;exact(tY (tX (ws:=ws) few pc i t (by omega)) _ (Nb _) λj hj=>pc t j (by omega) hj).mono (O7 _) (by omega)
theorem pK{pl:List (List Pc)}{t i:Nat}{r:R}(hr:0<r.2):∀k,(∀j,j<k->0<(cf pl t j).2.2)->0<(iO pl t i r k).2/\val (iO pl t i r k)=val r+sQ (λj=>bR (decide ((cf pl t j).1=i)) (val (cf pl t j).2)) (M7 k)
 |0,_=>⟨hr,by show val r=val r+0;grind⟩
 |k+1,h=>by
  obtain⟨p,e⟩:=pK (i:=i) hr k λj hj=>h j (by omega)
  have hk:=h k (by omega);rw[Oq,fh];show 0<(if(cf pl t k).1=i then bF (iO pl t i r k) (cf pl t k).2 else iO pl t i r k).2/\val (if(cf pl t k).1=i then bF (iO pl t i r k) (cf pl t k).2 else iO pl t i r k)=val r+(_+(bR (decide ((cf pl t k).1=i)) (val (cf pl t k).2)+0));by_cases c:(cf pl t k).1=i
  ·rw[if_pos c,decide_eq_true c,dH];refine⟨(eQ (Oc p hk)).pos,?_⟩;rw[ia p hk,e];grind
  ·rw[if_neg c,decide_eq_false c,cK,e];exact⟨p,by grind⟩
theorem jW{ws:List Wk}{ord:List Nat}{ss:List R}:∀{N t:Nat},t<N->(bc ws ord ss N).2.length=N->(bc ws ord ss N).2.getD t []=(d7 ws ord t (bc ws ord ss t).1 (ss.getD t (0,1))).2.2
 |0,t,h,_=>absurd h (Qr _)
 |N+1,t,h,hl=>by
  have e:(bc ws ord ss (N+1)).2=(bc ws ord ss N).2++[(d7 ws ord N (bc ws ord ss N).1 (ss.getD N (0,1))).2.2]:=Z;have l:(bc ws ord ss N).2.length=N:=by
   rw[e,NL] at hl;have:[(d7 ws ord N (bc ws ord ss N).1 (ss.getD N (0,1))).2.2].length=1:=Z;omega
  rw[e,Nn];by_cases c:t<N
  ·rw[SZ (by omega),←Nn];exact jW c l
  ·have:t=N:=by omega
   subst this;rw[SH (by omega),l,Nat.sub_self];rfl
theorem BV{q:List Pc}{f:Pc->Rat}(nd:(q.map (·.1)).Nodup):sQ (λp:Pc=>bR (decide (p.1=i)) (f p)) q=0∨∃p∈q,p.1=i/\sQ (λp:Pc=>bR (decide (p.1=i)) (f p)) q=f p:=by
 induction q with
 |nil=>exact .inl Z
 |cons p q ih=>
  have nd':(p.1::q.map (·.1)).Nodup:=nd;obtain⟨n1,n2⟩:=Ot.mp nd';by_cases c:p.1=i
  ·refine .inr ⟨p,Ng,c,?_⟩;have z:sQ (λp:Pc=>bR (decide (p.1=i)) (f p)) q=sQ (λ_:Pc=>0*(0:Rat)) q:=aN λx hx=>by
    rw[decide_eq_false (λe=>n1 (by rw[c,←e];exact Nu.mpr ⟨x,hx,Z⟩)),cK];grind
   show bR (decide (p.1=i)) (f p)+sQ _ q=f p;rw[z,eI,decide_eq_true c,dH];grind
  ·have e:sQ (λp:Pc=>bR (decide (p.1=i)) (f p)) (p::q)=sQ (λp:Pc=>bR (decide (p.1=i)) (f p)) q:=by
    show bR (decide (p.1=i)) (f p)+sQ _ q=_;rw[decide_eq_false c,cK];grind
   rw[e];rcases ih n2 with z | ⟨x,hx,e1,e2⟩
   ·exact .inl z
   ·exact .inr ⟨x,No _ hx,e1,e2⟩
theorem tz(len0:ws.length=ws0.length)(amt:∀i,i<ws.length->(ws.getD i bV).2.2=(ws0.getD i bV).2.2)(wid:∀i,i<ws.length->(ws0.getD i bV).1≤(ws.getD i bV).1/\(ws.getD i bV).2.1≤(ws0.getD i bV).2.1)
  (lns:∀a b,(a,b)∈es->a<ws.length/\b<ws.length/\(ws.getD a bV).1≤(ws.getD b bV).1/\(ws.getD a bV).2.1≤(ws.getD b bV).2.1) (ok:∀w∈ws,br w) (w8:ws.length≤8) (rk:nc ws.length es) (h:fM ws (M7 24) lys) (hs:∀r∈aX ws lys,fe r):GC ws0 es (dI ws es (aX ws lys)).2:=by
 have oi:=dP (es:=es) rk ws.length (Nb _);have nd:=jY (es:=es) rk ws.length (Nb _);have E:=tV (es:=es) ok rk h;obtain⟨po,pl24⟩:=fB (ord:=aR ws es ws.length) (ss:=aX ws lys) ok oi.lt hs 24;have PC:=λt=>o6 (ord:=aR ws es ws.length) ok oi.lt nd hs t
 have at_:∀t,t<24->(dI ws es (aX ws lys)).2.getD t []=(d7 ws (aR ws es ws.length) t (bc ws (aR ws es ws.length) (aX ws lys) t).1 ((aX ws lys).getD t (0,1))).2.2:=λt ht=>jW ht pl24
 have pv:=λt=>jt (ord:=aR ws es ws.length) (ss:=aX ws lys) ok oi.lt hs t
 generalize hpl:(dI ws es (aX ws lys)).2=pl at at_;have plen:pl.length=24:=by rw[←hpl];exact pl24
 have few:∀t,(pl.getD t []).length≤8:=λt=>by
  rw[Nn]
  cases e:pl[t]? with
  |none=>exact NB _
  |some q=>
   have m:q∈(bc ws (aR ws es ws.length) (aX ws lys) 24).2:=by
    have:=Nd e;rw[←hpl] at this;exact this
   have:=(po.pc q m).1;have l:=oi.len;show q.length≤8;omega
 have mem:∀t k,t<24->k<(pl.getD t []).length->((cf pl t k).1,(cf pl t k).2)∈(d7 ws (aR ws es ws.length) t (bc ws (aR ws es ws.length) (aX ws lys) t).1 ((aX ws lys).getD t (0,1))).2.2:=λt k ht hk=>by
  rw[←at_ t ht];unfold cf;rw[ap (0,(0,1)) (M8 hk)];exact NY hk
 have pc:∀t k,t<24->k<(pl.getD t []).length->(cf pl t k).1<ws.length/\fw (ws.getD (cf pl t k).1 bV) t=true/\fe (cf pl t k).2/\0<val (cf pl t k).2:=λt k ht hk=>by
  have m:=mem t k ht hk;obtain⟨a,b,c,_⟩:=(PC t).pc _ _ m;exact⟨((PC t).ok.pc _ m).1,a,b,c⟩
 have ndt:∀t,t<24->((pl.getD t []).map (·.1)).Nodup:=λt ht=>by
  rw[at_ t ht];exact(PC t).sub.nodup nd
 have ndj:∀t j k,t<24->j<k->k<(pl.getD t []).length->(cf pl t j).1≠(cf pl t k).1:=λt j k ht hj hk=>by
  have p:=Om.mp (ndt t ht) j k (by rw[Na];omega) (by rw[Na];exact hk) hj;unfold cf;rw[ap (0,(0,1)) (M8 (show j<(pl.getD t []).length by omega)),ap (0,(0,1)) (M8 hk)];rw[TR,TR] at p;exact p
 have turnv:∀t i,t<24->sQ (λj=>bR (decide ((cf pl t j).1=i)) (val (cf pl t j).2)) (M7 (pl.getD t []).length)=dj (bc ws (aR ws es ws.length) (aX ws lys) t).1 i-dj (bc ws (aR ws es ws.length) (aX ws lys) (t+1)).1 i:=λt i ht=>by
  have e:sQ (λj=>bR (decide ((cf pl t j).1=i)) (val (cf pl t j).2)) (M7 (pl.getD t []).length)=sQ (λp:Pc=>bR (decide (p.1=i)) (val p.2)) (pl.getD t []):=(jk (f:=λp:Pc=>bR (decide (p.1=i)) (val p.2)) (0,(0,1)) (pl.getD t [])).symm;rw[e];by_cases c:i∈(pl.getD t []).map (·.1)
  ·obtain⟨⟨i',r⟩,hm,e1⟩:=Nu.mp c;have e1':i'=i:=e1;subst e1';rcases BV (i:=i') (f:=λp:Pc=>val p.2) (ndt t ht) with z | ⟨p,hp,e2,e3⟩
   ·exfalso;have hm':=hm;rw[at_ t ht] at hm';obtain⟨_,_,v0,_⟩:=(PC t).pc _ _ hm';have:=ig (f:=λp:Pc=>bR (decide (p.1=i')) (val p.2)) (l:=pl.getD t []) (λx hx=>gk _ (by
     have hx':=hx;rw[at_ t ht] at hx';obtain⟨_,_,w0,_⟩:=(PC t).pc x.1 x.2 hx';exact QV w0)) z _ hm
    rw[decide_eq_true Z,dH] at this;have this':val r=0:=this;grind
   ·rw[e3];have hp':=hp;rw[at_ t ht] at hp';obtain⟨_,_,_,v1⟩:=(PC t).pc p.1 p.2 hp';rw[e2] at v1;exact v1
  ·have z:sQ (λp:Pc=>bR (decide (p.1=i)) (val p.2)) (pl.getD t [])=sQ (λ_:Pc=>0*(0:Rat)) (pl.getD t []):=aN λx hx=>by
    rw[decide_eq_false (λe=>c (by rw[←e];exact Nu.mpr ⟨x,hx,Z⟩)),cK];grind
   rw[at_ t ht] at c;have u:=(PC t).un i c;have u':dj (bc ws (aR ws es ws.length) (aX ws lys) (t+1)).1 i=dj (bc ws (aR ws es ws.length) (aX ws lys) t).1 i:=congrArg val u;rw[z,eI,u'];grind
 have dnv:∀i t,t≤24->0<(iN pl i t).2/\val (iN pl i t)=dj (bc ws (aR ws es ws.length) (aX ws lys) 0).1 i-dj (bc ws (aR ws es ws.length) (aX ws lys) t).1 i:=λi t=>by
  induction t with
  |zero=>intro _;exact⟨by show(0:Int)<1;decide,by show val ((0,1):R)=_;rw[km];grind⟩
  |succ t ih=>
   intro ht;obtain⟨p,e⟩:=ih (by omega);obtain⟨p2,e2⟩:=pK (pl:=pl) (t:=t) (i:=i) p (pl.getD t []).length λj hj=>(pc t j (by omega) hj).2.2.1.bq.pos
   refine⟨p2,?_⟩;show val (iO pl t i (iN pl i t) (pl.getD t []).length)=_;rw[e2,e,turnv t i (by omega)];grind
 have a0:∀i,i<ws.length->val (iN pl i 24)=jH (ws.getD i bV):=λi hi=>by
  have e:=(dnv i 24 (Nb _)).2;rw[pv 24,J9 E hi] at e;have z:dj (bc ws (aR ws es ws.length) (aX ws lys) 0).1 i=jH (ws.getD i bV):=by
   rw[pv 0];exact vE hi
  rw[z] at e;rw[e];grind
 have pos0:∀i,i<ws.length->0<jH (ws.getD i bV):=λi hi=>by
  rw[ap bV (M8 hi)];exact ug (ok _ (NY hi))
 refine⟨plen,few,λt k ht hk=>?_,ndj,λi hi=>?_,λi hi=>?_,λa b hab x hx y hy=>?_⟩
 ·obtain⟨p1,p2,p3,p4⟩:=pc t k ht hk;refine⟨by rw[←len0];exact p1,p3,p4,?_⟩;obtain⟨w1,w2⟩:=wid _ p1;unfold fw at p2 ⊢;rw[NM,decide_eq_true_iff,decide_eq_true_iff] at p2 ⊢;omega
 ·have il:i<ws.length:=by rw[len0];exact hi
  rw[←amt i il];have o:=(ok _ (NY il)).am;have bq:=tX (ws:=ws) few (λt k ht hk=>(pc t k ht hk).2.2.1) i 24 (Nb _);refine fY bq.red ?_ (a0 i il);rw[ap bV (M8 il)];exact(kw o).red
 ·intro e;have il:i<ws.length:=by rw[len0];exact hi
  have z:∀t,t≤24->kT pl t i=[]->val (iN pl i t)=0:=λt=>by
   induction t with
   |zero=>intro _ _;exact km
   |succ t ih=>
    intro ht he;have he':kT pl t i++kH pl t (pl.getD t []).length i=[]:=he;obtain⟨h1,h2⟩:=List.append_eq_nil_iff.mp he';have v:=pK (pl:=pl) (t:=t) (i:=i) (dnv i t (by omega)).1 (pl.getD t []).length λj hj=>(pc t j (by omega) hj).2.2.1.bq.pos
    show val (iO pl t i (iN pl i t) (pl.getD t []).length)=0;rw[v.2,ih (by omega) h1];have q:sQ (λj=>bR (decide ((cf pl t j).1=i)) (val (cf pl t j).2)) (M7 (pl.getD t []).length)=sQ (λ_:Nat=>0*(0:Rat)) (M7 (pl.getD t []).length):=aN λj hj=>by
     rw[decide_eq_false (λc=>by
      have m:(t,j)∈kH pl t (pl.getD t []).length i:=Nu.mpr ⟨j,NA.mpr ⟨hj,decide_eq_true c⟩,Z⟩;rw[h2] at m
      cases m),cK]
     grind
    rw[q,eI];grind
  have v:=z 24 (Nb _) e;rw[a0 i il] at v;have:=pos0 i il;grind
 ·obtain⟨x1,x2,x3⟩:=kQ hx;obtain⟨y1,y2,y3⟩:=kQ hy;obtain⟨al,bl,fab,lab⟩:=lns a b hab;have px:=pc x.1 x.2 x1 x2;have py:=pc y.1 y.2 y1 y2;rw[x3] at px;rw[y3] at py;have wx:=px.2.1;have wy:=py.2.1;unfold fw at wx wy;rw[NM,decide_eq_true_iff,decide_eq_true_iff] at wx wy;by_cases c:x.1<y.1
  ·exact .inl c
  by_cases c2:x.1=y.1
  ·refine .inr ⟨c2,?_⟩;by_cases c3:x.2<y.2
   ·exact c3
   exfalso;obtain⟨ps,_,hps⟩:=id rk;have irr:a≠b:=λe=>by
    have:=iP.rank hps (iP.one hab);rw[e] at this;exact Of _ this
   have ne:x.2≠y.2:=λe=>by
    rw[c2,e,y3] at x3;exact irr x3.symm
   have lt:y.2<x.2:=by omega
   rw[c2] at x2 x3;have sub:=(PC y.1).sub;rw[←at_ y.1 y1] at sub;have ex:((pl.getD y.1 []).map (·.1))[x.2]?=some a:=by
    rw[Nh,M8 x2];have e:=ap (0,(0,1)) (M8 x2);unfold cf at x3;rw[e] at x3;exact congrArg some x3
   have ey:((pl.getD y.1 []).map (·.1))[y.2]?=some b:=by
    rw[Nh,M8 y2];have e:=ap (0,(0,1)) (M8 y2);unfold cf at y3;rw[e] at y3;exact congrArg some y3
   generalize (pl.getD y.1 []).map (·.1)=zs at sub ex ey;obtain⟨hy',ey'⟩:=Ni.mp ey;have d:zs.drop y.2=b::zs.drop (y.2+1):=by rw[S1 hy',ey']
   have am:a∈zs.drop (y.2+1):=by
    refine Nd (i:=x.2-(y.2+1)) ?_;rw[List.getElem?_drop,show y.2+1+(x.2-(y.2+1))=x.2 by omega];exact ex
   have sb:(b::zs.drop (y.2+1)).Sublist (aR ws es ws.length):=by
    rw[←d];exact(Tr _ _).trans sub
   obtain⟨r1,r2,e,hb1,hs2⟩:=List.cons_sublist_iff.mp sb;obtain⟨m1,m2,e2⟩:=RJ hb1;have e3:aR ws es ws.length=m1++b::(m2++r2):=by rw[e,e2];simp
   have ain:=lR rk al (.one hab) lab ws.length (Nb _) _ _ e3;rw[e] at nd;exact(OC.mp nd).2.2 a (by rw[e2];exact OX _ ain) a (hs2.subset am) Z
  ·exfalso;have hw:fw (ws.getD a bV) y.1=true:=by
    unfold fw;rw[NM,decide_eq_true_iff,decide_eq_true_iff];omega
   have hb:b∈(d7 ws (aR ws es ws.length) y.1 (bc ws (aR ws es ws.length) (aX ws lys) y.1).1 ((aX ws lys).getD y.1 (0,1))).2.2.map (·.1):=by
    have m:=mem y.1 y.2 y1 y2;rw[y3] at m;exact Nu.mpr ⟨_,m,Z⟩
   have d:=wA ok rk hs al bl (.one hab) lab hw hb;have mx:=mem x.1 x.2 x1 x2;rw[x3] at mx;obtain⟨_,_,v0,v1⟩:=(PC x.1).pc _ _ mx;have zl:dj (bc ws (aR ws es ws.length) (aX ws lys) x.1).1 a=0:=by
    rw[pv] at d ⊢;have q:=E.dn' (y.1+1) a (x.1-(y.1+1));rw[show y.1+1+(x.1-(y.1+1))=x.1 by omega] at q;have n0:=E.nn x.1 a;grind
   have n1:0≤dj (d7 ws (aR ws es ws.length) x.1 (bc ws (aR ws es ws.length) (aX ws lys) x.1).1 ((aX ws lys).getD x.1 (0,1))).1 a:=by
    have g:=dh (n:=0) (PC x.1).ok.lf a;exact(gN g.bq.pos).mpr g.nn
   grind
structure DM(K:M6)(H:Hp)(v:V)(ws:List Wk)(es:List Ln):Prop where
 sv:Lk K H v ws es
 w8:ws.length≤8
 ok:∀w∈ws,br w
 eok:ur ws.length es
 rk:nc ws.length es
 e8:es.length≤8
theorem DM.sh{K:M6}{H:Hp}{v:V}{ws:List Wk}{es:List Ln}(h:DM K H v ws es):IL ws es:=⟨by have:=h.w8;omega,λw hw=>⟨by have:=(h.ok w hw).le;have:=(h.ok w hw).lt;omega,(h.ok w hw).lt,(h.ok w hw).am.wf.mono (by decide)⟩,h.eok⟩
def kL(ws:List Wk)(f l:Nat->Int):List Wk:=(M7 ws.length).map λi=>((f i).toNat,(l i).toNat,(ws.getD i bV).2.2)
theorem tW(ws:List Wk)(f l:Nat->Int):(kL ws f l).length=ws.length:=by unfold kL;rw[Na,NP]
theorem DJ(h:i<ws.length):(kL ws f l).getD i bV=((f i).toNat,(l i).toNat,(ws.getD i bV).2.2):=by
 refine ap bV ?_;unfold kL;rw[Nh,O5 h];rfl
theorem Gv(h:i6 n f l=none)(hi:i<n):f i≤l i:=by
 unfold i6 at h;rw[SY] at h;have:=h i (Nk.mpr hi);by_cases c:l i<f i
 ·exact absurd (decide_eq_true c) this
 ·omega
theorem uu{ws:List Wk}(ok:∀w∈ws,br w)(h:i<ws.length):br (ws.getD i bV):=by
 rw[ap bV (M8 h)];exact ok _ (NY h)
theorem xE(ok:∀w∈ws,br w)(h:iz ws es f l)(hi:i<ws.length):0≤f i/\f i<24/\0≤l i/\l i<24/\((ws.getD i bV).1:Int)≤f i/\l i≤((ws.getD i bV).2.1:Int):=by
 obtain⟨j,hj,_,e1⟩:=h.a.att i hi;obtain⟨k,hk,_,e2⟩:=h.b.att i hi;have oj:=uu ok hj;have okk:=uu ok hk;have a:=oj.le;have b:=oj.lt;have c:=okk.lt;have u1:=h.a.up i i hi hi (.inl Z);have u2:=h.b.up i i hi hi (.inl Z);unfold vF at e1 u1;unfold vL at e2 u2;omega
theorem DI(ok:∀w∈ws,br w)(h:iz ws es f l)(nb:i6 ws.length f l=none):∀w∈kL ws f l,br w:=λw hw=>by
 obtain⟨i,hi,rfl⟩:=Nu.mp hw;have il:=Nk.mp hi;have q:=Gv nb il;have b:=xE ok h il;have o:=uu ok il;exact⟨by show(f i).toNat≤(l i).toNat;omega,by show(l i).toNat<24;omega,o.am⟩
theorem CV{K:M6}{H:Hp}{u:V}{ws:List Wk}{es:List Ln}{f l:Nat->Int}(ok:∀w∈ws,br w)(h:iz ws es f l)(d:bH K H u (.tuple ((M7 ws.length).map (wP ws f l)))):fo K H u (kL ws f l):=by
 cases d with
 | @tup p xs ds hS hA=>
  refine⟨p,xs,Z,hS,?_⟩;have key:∀(zs:List Nat) (xs:List V),(∀i∈zs,i<ws.length)->aZ K H xs (zs.map (wP ws f l))->cV (Bn K H) xs (zs.map λi=>((f i).toNat,(l i).toNat,(ws.getD i bV).2.2)):=by
   intro zs
   induction zs with
   |nil=>intro xs _ d;cases d;exact .nil
   |cons i zs ih=>
    intro xs hz d
    cases d with
    | @cons x _ xs _ dx dt=>
     refine .cons ?_ (ih _ (λj hj=>hz j (No _ hj)) dt);have b:=xE ok h (hz i Ng)
     cases dx with
     | @tup p ys _ hS hA=>
      cases hA with
      |cons d1 d2=>
       cases d2 with
       |cons d3 d4=>
        cases d4 with
        |cons d5 d6=>
         cases d1
         cases d3
         cases d6
         cases d5 with
         | @tup q zs _ hS2 hA2=>
          cases hA2 with
          |cons e1 e2=>
           cases e2 with
           |cons e3 e4=>
            cases e1
            cases e3
            cases e4
            refine⟨p,.ref q,Z,?_,⟨q,Z,hS2⟩⟩;show bC K H p [.int ((f i).toNat:Nat),.int ((l i).toNat:Nat),.ref q];rw[show(((f i).toNat:Nat):Int)=f i by omega,show(((l i).toNat:Nat):Int)=l i by omega];exact hS
  exact key _ _ (λi hi=>Nk.mp hi) hA
noncomputable def JX (ws:List Wk) (es:List Ln) (f l:Nat->Int) (lys:List Ly):PyData:=A3 (dI (kL ws f l) es (aX (kL ws f l) lys)).2
def qK(K:M6):Sp:=λvs H Q _=>∃(v:V) (ws:List Wk) (es:List Ln),vs=[v]/\Lk K H v ws es/\IL ws es/\(∀f l:Nat->Int,iz ws es f l->i6 ws.length f l=none)/\∀(f l:Nat->Int) (u:V) (H':Hp),aD H H'->iz ws es f l->i6 ws.length f l=none->bH K H' u (.tuple ((M7 ws.length).map (wP ws f l)))->Q u H'
def mU(K:M6):Sp:=λvs H Q _=>∃(v:V) (ws:List Wk) (es:List Ln),vs=[v]/\DM K H v ws es/\(∀f l:Nat->Int,iz ws es f l->i6 ws.length f l=none)/\∀(f l:Nat->Int) (lys:List Ly) (w:V) (H':Hp),aD H H'->iz ws es f l->i6 ws.length f l=none->fM (kL ws f l) (M7 24) lys->bH K H' w (JX ws es f l lys)->Q w H'
theorem tO(h:fM ws ls lys):ls.length≤24->(∀t∈ls,t<24)->∀y∈lys,hV ws.length y:=by
 induction h with
 |nil _=>intro _ _ y hy;cases hy
 |cons h tl ih=>
  intro h1 h2 y hy;rcases Nq.mp hy with z|z
  ·rw[z];exact tP h.1.inn h1 h2
  ·exact ih (NH (On _ _) h1) (λt ht=>h2 t (NA.mp ht).1) y z
theorem sF{ws:List Wk}{lys:List Ly}(ok:∀w∈ws,br w)(hw:ws.length≤9)(lok:∀y∈lys,hV ws.length y):∀r∈aX ws lys,fe r:=λr hr=>(yc (ss:=ND 24 (0,1)) ok hw lok (λr hr=>by rw[TD hr];exact⟨A8.mono (O7 _) (by decide),Qd _⟩) r hr).am (by decide)
def xo(K:M6):Sp:=λvs H Q _=>∃(v:V) (ws:List Wk) (es:List Ln),vs=[v]/\DM K H v ws es/\∀(f l:Nat->Int) (u:V) (H':Hp),aD H H'->iz ws es f l->bH K H' u (JM ws f l)->Q u H'
def MY(K:M6)(C:Addr)(H:Hp)(u:V)(pd:PyData):Option Nat->Prop
 |none=>∃p x l,u=.ref p/\bC K H p [x,.ref l]/\bH K H x pd/\H l=some (.lst [])
 |some i=>∃p l x dd,u=.ref p/\bC K H p [.ref x,.ref l]/\H x=some (IG x C dd)/\H dd=some (dO dd [("work",.int (i:Nat))])/\H l=some (.lst [.bl true,.bl true,.bl true,.bl false])
theorem Gk{K:M6}{H:Hp}{v:V}{r:R}(d:bH K H v (dR r)):RV K H v r:=by
 cases d with
 | @tup q zs _ hS2 hA2=>
  cases hA2 with
  |cons e1 e2=>
   cases e2 with
   |cons e3 e4=>
    cases e1
    cases e3
    cases e4
    exact⟨q,Z,hS2⟩
theorem C1{K:M6}{H:Hp}{v:V}{c:Pc}(d:bH K H v (Kf c)):vG K H v c:=by
 cases d with
 | @tup q zs _ hS2 hA2=>
  cases hA2 with
  |cons e1 e2=>
   cases e2 with
   |cons e3 e4=>
    cases e1
    cases e4
    exact⟨q,_,Z,hS2,Gk e3⟩
theorem mF{α:Type}{K:M6}{H:Hp}{f:α->PyData}{P:V->α->Prop}(h:∀v x,bH K H v (f x)->P v x):∀{l:List α} {xs:List V},aZ K H xs (l.map f)->cV P xs l
 | [],_,d=>by cases d;exact .nil
 |x::l,_,d=>by
  cases d with
  |cons d1 d2=>exact .cons (h _ _ d1) (mF h d2)
theorem C0{K:M6}{H:Hp}{v:V}{q:List Pc}(d:bH K H v (Kd q)):xq K H v q:=by
 cases d with
 | @tup p xs _ hS hA=>exact⟨p,xs,Z,hS,mF (P:=vG K H) (λ_ _ z=>C1 z) hA⟩
theorem pM{K:M6}{H:Hp}{u:V}{pl:List (List Pc)}(d:bH K H u (A3 pl)):∃p xs,u=.ref p/\bC K H p xs/\cV (xq K H) xs pl:=by
 cases d with
 | @tup p xs _ hS hA=>exact⟨p,xs,Z,hS,mF (P:=xq K H) (λ_ _ z=>C0 z) hA⟩
def DL(K:M6)(H:Hp)(v:V)(x:Nat×Nat):Prop:=∃p,v=.ref p/\bC K H p [.int (x.1:Nat),.int (x.2:Nat)]
theorem DL.mono'{K:M6}{H H':Hp}{v:V}{x:Nat×Nat}(h:DL K H v x)(t:aK K H H'):DL K H' v x:=let ⟨p,e,s⟩:=h;⟨p,e,t _ _ s⟩
structure sf(K:M6)(H:Hp)(D:Addr)(rows:List Addr)(n:Nat)(S:Nat->List (Nat×Nat)):Prop where
 top:H D=some (.lst (rows.map V.ref))
 len:rows.length=n
 nd:rows.Nodup
 ne:D∉rows
 row:∀i r,rows[i]?=some r->∃ys,H r=some (.lst ys)/\cV (DL K H) ys (S i)
theorem sf.same{K:M6}{H H':Hp}{D:Addr}{rows:List Addr}{n:Nat}{S:Nat->List (Nat×Nat)}(h:sf K H D rows n S)(s:aD H H'):sf K H' D rows n S:=⟨s _ _ h.top,h.len,h.nd,h.ne,λi r e=>let ⟨ys,a,b⟩:=h.row i r e;⟨ys,s _ _ a,b.mono λ_ _ z=>z.mono' (aK.same s)⟩⟩
theorem sf.push{K:M6}{H:Hp}{D:Addr}{rows:List Addr}{n:Nat}{S S':Nat->List (Nat×Nat)}(h:sf K H D rows n S){j:Nat}{rr:Addr}{ys:List V}{v:V}{x:Nat×Nat}(e:rows[j]?=some rr)(hy:H rr=some (.lst ys))(al:cV (DL K H) ys (S j))(hv:DL K H v x)(h1:S' j=S j++[x])(h2:∀i,i≠j->S' i=S i):sf K (aE H rr (.lst (ys++[v]))) D rows n S':=by
 have tu:=aK.up (K:=K) hy (ys++[v]);refine⟨by rw[aJ (λz=>h.ne (by rw[z];exact Nd e))];exact h.top,h.len,h.nd,h.ne,λi r er=>?_⟩;by_cases c:i=j
 ·subst c;rw[e] at er
  cases er
  exact⟨_,ag,by rw[h1];exact cV.snoc (hv.mono' tu) (al.mono λ_ _ z=>z.mono' tu)⟩
 ·obtain⟨zs,a,b⟩:=h.row i r er;have nr:r≠rr:=λz=>by
   subst z;obtain⟨p1,p2⟩:=Ni.mp e;obtain⟨q1,q2⟩:=Ni.mp er;rcases To i j with l|l|l
   ·exact Om.mp h.nd i j q1 p1 l (q2.trans p2.symm)
   ·exact c l
   ·exact Om.mp h.nd j i p1 q1 l (p2.trans q2.symm)
  exact⟨zs,by rw[aJ nr];exact a,by rw[h2 i c];exact b.mono λ_ _ z=>z.mono' tu⟩
theorem sf.beside{K:M6}{H:Hp}{D dn:Addr}{rows:List Addr}{n:Nat}{S:Nat->List (Nat×Nat)}{ds es:List V}(h:sf K H D rows n S)(hd:H dn=some (.lst ds))(n1:dn≠D)(n2:dn∉rows):sf K (aE H dn (.lst es)) D rows n S:=by
 have tu:=aK.up (K:=K) hd es;refine⟨by rw[aJ n1.symm];exact h.top,h.len,h.nd,h.ne,λi r er=>?_⟩;obtain⟨zs,a,b⟩:=h.row i r er;exact⟨zs,by rw[aJ (λz=>n2 (by rw[←z];exact Nd er))];exact a,b.mono λ_ _ z=>z.mono' tu⟩
theorem sf.congr{K:M6}{H:Hp}{D:Addr}{rows:List Addr}{n:Nat}{S S':Nat->List (Nat×Nat)}(h:sf K H D rows n S)(e:∀i,S' i=S i):sf K H D rows n S':=⟨h.top,h.len,h.nd,h.ne,λi r er=>by rw[e i];exact h.row i r er⟩
theorem CH{F F':Nat->R}(h:∀i,i≠j->F' i=F i):((M7 n).map F).set j (F' j)=(M7 n).map F':=by
 refine PB λi=>?_
 rw[V3,Nh,Nh,Na,NP];by_cases c:j=i
 ·subst c;rw[if_pos Z];by_cases l:j<n
  ·rw[if_pos l,O5 l];rfl
  ·rw[if_neg l,NX (by rw[NP];omega)];rfl
 ·rw[if_neg c]
  cases e:(M7 n)[i]? with
  |none=>rfl
  |some x=>
   have:x=i:=by
    obtain⟨p1,p2⟩:=Ni.mp e;rw[Vr] at p2;exact p2.symm
   subst this;show some (F x)=some (F' x);rw[h x (λz=>c z.symm)]
def qD(K:M6):Sp:=λvs H Q _=>∃(a:Addr) (xs:List V) (rs:List R),vs=[.ref a]/\aV K H a xs/\cV (RV K H) xs rs/\(∀r∈rs,Wf 50 r)/\rs.length≤8/\∀(v':V) (H':Hp),aD H H'->RV K H' v' (cO rs)->Q v' H'
theorem CU(ok:∀w∈ws,br w)(eok:ur ws.length es)(h:iz ws es f l)(a b:Nat)(hab:(a,b)∈es):a<(kL ws f l).length/\b<(kL ws f l).length/\((kL ws f l).getD a bV).1≤((kL ws f l).getD b bV).1/\((kL ws f l).getD a bV).2.1≤((kL ws f l).getD b bV).2.1:=by
 rw[show es=[] from eok] at hab
 cases hab
theorem AY(ok:∀w∈ws,br w)(w8:ws.length≤8)(eok:ur ws.length es)(rk:nc ws.length es)(h:iz ws es f l)(nb:i6 ws.length f l=none)(ly:fM (kL ws f l) (M7 24) lys):GC ws es (dI (kL ws f l) es (aX (kL ws f l) lys)).2:=by
 have ok':=DI ok h nb;have len:=tW ws f l;refine tz len (λi hi=>?_) (λi hi=>?_) (CU ok eok h) ok' (by omega) (by rw[len];exact rk) ly (sF ok' (by omega) (tO ly (by decide) λt ht=>Nk.mp ht))
 ·rw[DJ (by omega)]
 ·have il:i<ws.length:=by omega
  rw[DJ il];have b:=xE ok h il;show _≤(f i).toNat/\(l i).toNat≤_;omega
theorem xU(ok:∀w∈ws,br w)(rk:nc ws.length es)(h:fM ws (M7 24) lys)(hs:∀r∈aX ws lys,fe r):(dI ws es (aX ws lys)).2.map (λq=>cO (q.map (·.2)))=aX ws lys:=by
 have oi:=dP (es:=es) rk ws.length (Nb _);obtain⟨po,pl24⟩:=fB (ord:=aR ws es ws.length) (ss:=aX ws lys) ok oi.lt hs 24;have l24:(aX ws lys).length=24:=by unfold aX;rw[iD];rfl
 refine PB λt=>?_
 rw[Nh];by_cases c:t<24
 ·have e1:(dI ws es (aX ws lys)).2[t]?=some ((dI ws es (aX ws lys)).2.getD t []):=by
   have hl:t<(dI ws es (aX ws lys)).2.length:=by show t<(bc ws (aR ws es ws.length) (aX ws lys) 24).2.length;omega
   rw[M8 hl,ap [] (M8 hl)]
  have e2:(aX ws lys)[t]?=some ((aX ws lys).getD t (0,1)):=by
   rw[M8 (by omega),ap (0,1) (M8 (by omega))]
  rw[e1,e2];have et:(dI ws es (aX ws lys)).2.getD t []=_:=jW c pl24;rw[et];show some (cO _)=some _;have p:=o6 (ord:=aR ws es ws.length) ok oi.lt (jY (es:=es) rk ws.length (Nb _)) hs t;have ts:=xH (es:=es) ok rk h hs c;have rd:∀r∈(d7 ws (aR ws es ws.length) t (bc ws (aR ws es ws.length) (aX ws lys) t).1 ((aX ws lys).getD t (0,1))).2.2.map (λp:Pc=>p.2),hU r:=λr hr=>by
   obtain⟨q,hq,rfl⟩:=Nu.mp hr;exact(p.pc q.1 q.2 hq).2.1.red
  have vs:=iB rd;refine congrArg some (fY vs.1 (dh (n:=0) hs t).red ?_);rw[vs.2,jd,i3,ts,iC h c]
 ·rw[NX (by show(bc ws (aR ws es ws.length) (aX ws lys) 24).2.length≤t;omega),NX (by omega)];rfl
theorem Gw(n:Nat):((M7 n).filter λ_=>true).map (λ_=>V.bl true)=(ND n true).map V.bl:=by
 rw[Vv];have e:(M7 n).filter (λ_=>true)=M7 n:=Ov.mpr λ_ _=>Z
 rw[e];exact List.eq_replicate_iff.mpr ⟨by rw[Na,NP],λb hb=>by obtain⟨_,_,rfl⟩:=Nu.mp hb;rfl⟩
theorem C9(n:Nat):(ND n true).all id=true:=N4.mpr λb hb=>by rw[TD hb];rfl
theorem Ka(rs:List R):(PyData.list (rs.map dR)).depth≤32:=by
 have:=tZ rs;show QY (rs.map dR)+1≤32;omega
theorem Cw{X:Cx}{K:M6}{k:Nat}(hK:X.K=K)(hr:ft k X.A):gK X (Oz .Lt) (HK K):=by subst hK;exact Fm hr.units0
theorem BM:(kH pl t k i).length≤k:=by
 unfold kH;rw[Na];exact NH (On _ _) (by rw[NP];exact Nb _)
theorem BK(pr:GC ws es pl)(i t:Nat)(h:t≤24):(kT pl t i).length≤200:=by
 have key:∀t,(kT pl t i).length≤8*t:=λt=>by
  induction t with
  |zero=>exact Nb _
  |succ t ih=>
   show(kT pl t i++kH pl t (pl.getD t []).length i).length≤_;rw[NL];have:=BM (pl:=pl) (t:=t) (k:=(pl.getD t []).length) (i:=i);have:=pr.few t;omega
 have:=key t;omega
def kB(K:M6):Sp:=λvs H Q _=>∃(v u:V) (ws:List Wk) (es:List Ln) (pl:List (List Pc)),vs=[v,u]/\DM K H v ws es/\bH K H u (A3 pl)/\GC ws es pl/\∀H',aD H H'->Q (.bl true) H'
def Kh(K:M6)(t s lw:Addr)(m:Int)(en i:Nat)(r:Int)(H1:Hp):L2.St->Hp->Prop:=λσ H'=>∃a b:Nat,σ=[some (.ref t),some (.int m),some (.int en),some (.ref lw),some (.int (i:Nat)),some (.int (a:Nat)),some (.int (b:Nat)),some (.int r)]/\a≤b/\b<24/\bP t H1 H'/\cD K H' t s
theorem uP:¬iP [] a b:=λh=>by
 cases h with
 |one h=>cases h
 |step h _=>cases h
theorem qc(h:iz ws [] f l)(hi:i<ws.length):f i=((ws.getD i bV).1:Int)/\l i=((ws.getD i bV).2.1:Int):=by
 obtain⟨j,_,z,e⟩:=h.a.att i hi;obtain⟨k,_,y,g⟩:=h.b.att i hi;rcases z with z|z
 ·rcases y with y|y
  ·rw[z] at e;rw[y] at g;have g':- l i=-((ws.getD i bV).2.1:Int):=g;exact⟨e,by omega⟩
  ·exact absurd y uP
 ·exact absurd z uP
theorem pR(ok:∀w∈ws,br w)(f l:Nat->Int)(h:iz ws [] f l):i6 ws.length f l=none:=rZ λj hj=>by
 obtain⟨a,b⟩:=qc h hj;have:=(uu ok hj).le;omega
theorem mC(h:iz ws [] f l):kL ws f l=ws:=by
 refine PB λi=>?_
 by_cases hi:i<ws.length
 ·unfold kL;rw[Nh,O5 hi];obtain⟨a,b⟩:=qc h hi;show some ((f i).toNat,(l i).toNat,(ws.getD i bV).2.2)=_;rw[a,b,OK,OK,Nn,M8 hi];rfl
 ·rw[NX (by rw[tW];omega),NX (by omega)]
theorem jo(n:Nat):nc n []:=⟨λi=>i,λ_ h=>h,λ_ _ h=>by cases h⟩
theorem oh:(M7 24).filter (λ_=>true)=M7 24:=Ov.mpr λ_ _=>Z
theorem vN(ok:∀w∈ws,br w)(h:fM ws (M7 24) lys)(e:lys=y:: r)(ht:t<24):ja ws lys t≤val (de ws y):=by
 have nn:=yj ok h t;have h':fM ws (M7 24) (y::r):=e▸h;obtain⟨p,hp,ey⟩:∃p,pZ ws (M7 24) p/\y=fJ ws (M7 24) p:=by
  cases h' with
  |cons hp _=>exact⟨_,hp,Z⟩
 by_cases z:0<ja ws lys t
 ·obtain⟨A,hA,_,_,hC⟩:=J0 ok h (λ_=>true) oh.symm t ht z;have c0:=hC (λ_=>false) (λu _ w=>by cases w) (λu _ w=>by cases w);rw[jF ok] at c0;have g:=ir (q:=λ_=>true) (A:=A) ok (by rw[oh];exact hp) (λu _ w=>by cases w);rw[oh,←ey] at g;have e0:FM ws (λ_=>!true)=0:=jF ok;have e1:k9 (λu=>A u&&!false)=k9 A:=j7 λu _=>by simp
  have e2:k9 (λu=>true&&A u)=k9 A:=j7 λu _=>by simp
  rw[e1] at c0;rw[e0,e2] at g;exact j4 (vt ht hA) (V2 c0 g)
 ·have:ja ws lys t=0:=Rat.le_antisymm (WZ.mp z) nn;rw[this];have ys:=k4 hp;have v:=iE (ws:=ws) ok ys;rw[←ey] at v;have sn:=DN (ws:=ws) ok (M7 24) p;exact j4 (im ys) (by rw[v,Rat.zero_mul];exact sn)
def Mt(K:M6)(H:Hp)(u:V)(ls:List Nat):Prop:=∃p q,u=.ref p/\bC K H p [.str (OL "much"),.ref q]/\bC K H q (aL ls)
def MD(K:M6)(H:Hp)(u:V)(pl:List (List Pc)):Prop:=∃p x,u=.ref p/\bC K H p [.str (OL "fits"),x]/\bH K H x (A3 pl)
def BJ(K:M6):Sp:=λvs H Q _=>∃(v w:V) (ws:List Wk) (r:R),vs=[v,w]/\fo K H v ws/\ws.length≤8/\(∀w∈ws,br w)/\RV K H w r/\Wf 70 r/\∀lys,fM ws (M7 24) lys->(∀(y:Ly) (z:List Ly) (u:V) (H':Hp),lys=y::z->hV ws.length y->bK r (de ws y)=true->aD H H'->Mt K H' u y.1->Q u H')/\((∀(y:Ly) (z:List Ly),lys=y::z->bK r (de ws y)=false)->∀(u:V) (H':Hp),aD H H'->MD K H' u (dI ws [] (aX ws lys)).2->Q u H')
theorem gj(h:i.natAbs≤n):Bq 1 n ((i,1):R):=⟨by show(0:Int)<1;decide,by show Nx i 1=1;simp,⟨1,by show((1:Nat):Int)=1*1;decide⟩,by show i.natAbs≤n*1;omega⟩
def qJ(K:M6):Sp:=λvs H Q _=>∃(v:V) (d:PyData),vs=[v]/\bH K H v d/\Q (.bl (ot d)) H
theorem si(h:ot d=true):∃i,d=.int i:=by
 cases d with
 |int i=>exact⟨i,Z⟩
 |_=>cases h
theorem Bd(ds:List PyData):((M7 ds.length).map λi=>f (ds.getD i .none)).all id=ds.all f:=by
 rw[O0,N4,N4];constructor
 ·intro h d hd;obtain⟨i,hi,e⟩:=ON.mp hd;have:=h (f (ds.getD i .none)) (Nu.mpr ⟨i,Nk.mpr hi,Z⟩);rw[ap Wx (M8 hi),e] at this;exact this
 ·intro h b hb;obtain⟨i,hi,rfl⟩:=Nu.mp hb;have hi':=Nk.mp hi;rw[ap Wx (M8 hi')];exact h _ (NY hi')
def kI:PyData->Bool
 | .int i=>decide (0≤i)&&decide (i<24)
 |_=>false
def Az:PyData->Nat
 | .int i=>i.toNat
 |_=>0
def v2(ls:List Nat):Bool:=(M7 (ls.length-1)).all λi=>decide (ls.getD i 0<ls.getD (i+1) 0)
def L7:PyData->List PyData
 | .tuple ds=>ds
 |_=>[]
def Hu:PyData->Bool
 | .tuple ds=>ds.all kI&&v2 (ds.map Az)
 |_=>false
theorem uX:∀{ds:List PyData},ds.all kI=true->∃ls:List Nat,ds=ls.map (λn:Nat=>Py n)/\∀n∈ls,n<24
 | [],_=>⟨[],Z,λn hn=>by cases hn⟩
 |d::ds,h=>by
  rw[Sf,NM] at h;obtain⟨ls,e,hl⟩:=uX h.2
  cases d with
  |int i=>
   have h1:(decide (0≤i)&&decide (i<24))=true:=h.1;rw[NM,decide_eq_true_iff,decide_eq_true_iff] at h1;refine⟨i.toNat::ls,?_,λn hn=>?_⟩
   ·rw[Ob,←e];show _=Py ((i.toNat:Nat):Int)::ds;rw[U5 h1.1]
   ·rcases Nq.mp hn with z|z
    ·omega
    ·exact hl n z
  |_=>cases h.1
theorem uY{ls:List Nat}:(ls.map (λn:Nat=>Py n)).map Az=ls:=by
 rw[OE];exact(Rw λn _=>by show((n:Int)).toNat=n;omega).trans (Ww _)
theorem nR{K:M6}{H:Hp}:∀{ls:List Nat} {xs:List V},aZ K H xs (ls.map λn:Nat=>Py n)->xs=aL ls
 | [],_,.nil=>rfl
 |n::ls,_,.cons h t=>by
  cases h
  rw[nR t];rfl
theorem zy:v2 ls=true↔ls.Pairwise (· < ·):=by
 unfold v2;rw[N4];constructor
 ·intro h
  induction ls with
  |nil=>exact .nil
  |cons x r ih=>
   have ih':r.Pairwise (· < ·):=ih λi hi=>by
    have hi':=Nk.mp hi;have:=h (i+1) (Nk.mpr (by rw[NU];omega))
    simpa using this
   cases r with
   |nil=>exact TZ _ _
   |cons y r=>
    have h0:=of_decide_eq_true (h 0 (Nk.mpr (by simp)));have h0':x<y:=h0;refine Ql.mpr ⟨λz hz=>?_,ih'⟩;rcases Nq.mp hz with e|e
    ·omega
    ·have:=(Ql.mp ih').1 z e;omega
 ·intro h i hi;have hi':=Nk.mp hi;refine decide_eq_true ?_;have e1:ls[i]?=some (ls[i]'(by omega)):=M8 _;have e2:ls[i+1]?=some (ls[i+1]'(by omega)):=M8 _;rw[ap 0 e1,ap 0 e2];exact Om.mp h i (i+1) (by omega) (by omega) (Qg i)
def cy(ls:List Nat)(w:Wk):Nat:=((M7 (w.2.1+1-w.1)).filter λi=>!ls.contains (w.1+i)).length
def cH(tp:R)(ls:List Nat)(w:Wk):R:=cY w.2.2 (aC tp ((cy ls w:Int),1))
def gX(tp:R)(ls:List Nat)(w:Wk):R:=if 0<(cH tp ls w).1 then cH tp ls w else(0,1)
def eR(ws:List Wk)(tp:R)(ls:List Nat):R:=cO (ws.map (gX tp ls))
def dU(hn:Nat)(tp:R)(ls:List Nat):R:=aC tp (((hn*ls.length:Nat):Int),1)
abbrev jE(tp:R):Prop:=Bq 4452576736608000 216 tp
theorem tF(h:w.2.1<24):cy ls w≤24:=by
 unfold cy;refine NH (On _ _) ?_;rw[NP];omega
theorem kX(ht:jE tp)(ok:br w):Bq 4452576736608000 5196 (cH tp ls w):=by
 have a:Bq 4452576736608000 12 w.2.2:=(kw ok.am).mono ⟨53006865912000,by decide⟩ (by decide);have o:=tF (ls:=ls) ok.lt;have b:Bq 4452576736608000 5184 (aC tp ((cy ls w:Int),1)):=(ht.times (gj (i:=(cy ls w:Int)) (n:=24) (by omega))).mono ⟨1,by decide⟩ (by decide);exact Bq.minus (by decide) a b
theorem pQ(ht:jE tp)(ok:br w):Bq 4452576736608000 5196 (gX tp ls w):=by
 unfold gX
 split
 ·exact kX ht ok
 ·exact A8.mono (O7 _) (by decide)
theorem oW(ht:jE tp)(h9:hn≤9)(hl:ls.length≤24):Bq 4452576736608000 46656 (dU hn tp ls):=by
 have:hn*ls.length≤9*24:=UO h9 hl;exact(ht.times (gj (i:=((hn*ls.length:Nat):Int)) (n:=216) (by omega))).mono ⟨1,by decide⟩ (by decide)
theorem jc(ht:jE tp)(ok:∀w∈ws,br w)(h9:ws.length≤9):Bq 4452576736608000 46764 (eR ws tp ls):=by
 have:Bq 4452576736608000 (5196*(ws.map (gX tp ls)).length) (eR ws tp ls):=oD (by decide) λr hr=>by
  obtain⟨w,hw,rfl⟩:=Nu.mp hr;exact pQ ht (ok w hw)
 rw[Na] at this;exact this.mono (O7 _) (by omega)
theorem eE(h:Bq 4452576736608000 N r)(hN:N≤60000):Wf 70 r:=(h.mono (O7 _) hN).wf (by decide) (by decide) (by decide)
theorem Bt(h:hU r)(z:r.1=0):r=(0,1):=by
 refine fY h ⟨by decide,by decide⟩ ?_;rw[(eT h.pos).mpr z];exact((eT (r:=(0,1)) (by decide)).mpr Z).symm
theorem C4(h:bK (cH tp ls w) (0,1)=true):gX tp ls w=(0,1):=by
 have h':(cH tp ls w).1*1<0*(cH tp ls w).2:=of_decide_eq_true h;unfold gX;rw[if_neg (by omega)]
theorem vy(hr:hU (cH tp ls w))(h:bK (cH tp ls w) (0,1)=false):gX tp ls w=cH tp ls w:=by
 have h':¬(cH tp ls w).1*1<0*(cH tp ls w).2:=of_decide_eq_false h;unfold gX
 split
 ·rfl
 ·rename_i c;exact(Bt hr (by omega)).symm
theorem sw:aC a b=aC b a:=by
 unfold aC;rw[PN a.1,PN a.2]
theorem qh:val ((-a,b):R)=- val ((a,b):R):=by
 show((-a:Int):Rat)/(b:Rat)=- ((a:Rat)/(b:Rat));rw[Rat.intCast_neg];generalize (a:Rat)=x;generalize (b:Rat)=y;grind
theorem BW(ht:0<tp.2)(hw:0<w.2.2.2):bF w.2.2 (aC (-(cy ls w:Int),1) tp)=cH tp ls w:=by
 have e:aC (-(cy ls w:Int),1) tp=(-(aC tp ((cy ls w:Int),1)).1,(aC tp ((cy ls w:Int),1)).2):=by
  have r1:hU (aC (-(cy ls w:Int),1) tp):=eQ (Oc (by show(0:Int)<1;decide) ht);have r2:hU (aC tp ((cy ls w:Int),1)):=eQ (Oc ht (by show(0:Int)<1;decide));refine fY r1 ⟨r2.pos,rR r2.cop⟩ ?_;rw[fH (by show(0:Int)<1;decide) ht];have n2:val (-(aC tp ((cy ls w:Int),1)).1,(aC tp ((cy ls w:Int),1)).2)=- val (aC tp ((cy ls w:Int),1)):=qh;rw[n2,fH ht (by show(0:Int)<1;decide)];have n3:val ((-(cy ls w:Int),1):R)=- val (((cy ls w:Int),1):R):=qh;rw[n3];grind
 rw[e,lY];rfl
theorem nh{ws:List Wk}(h:ws[i]?=some w):eR (ws.take (i+1)) tp ls=bF (eR (ws.take i) tp ls) (gX tp ls w):=by
 unfold eR;rw[Oi,h,N5];unfold cO;rw[P1];rfl
theorem v9(h:hU r):bF r (0,1)=r:=by
 refine fY (eQ (Oc h.pos (by decide))) h ?_;rw[ia h.pos (by decide),(eT (r:=(0,1)) (by decide)).mpr Z];grind
def kD(K:M6):Sp:=λvs H Q _=>∃(v:V) (d:PyData),vs=[v,.int 24]/\bH K H v d/\Q (.bl (kI d)) H
def oM(K:M6):Sp:=λvs H Q _=>∃(v:V) (d:PyData),vs=[v,.int 24]/\bH K H v d/\(L7 d).length≤24/\∀H',aD H H'->Q (.bl (Hu d)) H'
def kF(K:M6):Sp:=λvs H Q _=>∃(v u:V) (q:Addr) (w:Wk) (tp:R) (ls:List Nat),vs=[v,u,.ref q]/\Bn K H v w/\br w/\RV K H u tp/\jE tp/\bC K H q (aL ls)/\I0 K H Q (gX tp ls w)
theorem EN(srt:ls.Pairwise (· < ·))(lt:∀n∈ls,n<24):Hu (rg ls)=true:=by
 show((ls.map λn:Nat=>Py n).all kI&&v2 ((ls.map λn:Nat=>Py n).map Az))=true;rw[uY,zy.mpr srt,Sg,N4];intro d hd;obtain⟨n,hn,rfl⟩:=Nu.mp hd;show(decide ((0:Int)≤(n:Int))&&decide ((n:Int)<24))=true;have:=lt n hn;rw[decide_eq_true (by omega),decide_eq_true (by omega)];rfl
structure GY(K:M6)(H:Hp)(v u:V)(pc:Addr)(ws:List Wk)(hn:Nat)(tp:R)(ls:List Nat):Prop where
 wv:fo K H v ws
 ok:∀w∈ws,br w
 w9:ws.length≤9
 h9:hn≤9
 rv:RV K H u tp
 tp:jE tp
 hC:bC K H pc (aL ls)
 srt:ls.Pairwise (· < ·)
 lt:∀n∈ls,n<24
 l24:ls.length≤24
theorem GY.same{K:M6}{H H':Hp}{v u:V}{pc:Addr}{ws:List Wk}{hn:Nat}{tp:R}{ls:List Nat}(a:GY K H v u pc ws hn tp ls)(s:aD H H'):GY K H' v u pc ws hn tp ls:=⟨a.wv.mono (aK.same s),a.ok,a.w9,a.h9,a.rv.mono (aK.same s),a.tp,aK.same s _ _ a.hC,a.srt,a.lt,a.l24⟩
def oF(K:M6):Sp:=λvs H Q _=>∃(v u:V) (pc:Addr) (ws:List Wk) (hn:Nat) (tp:R) (ls:List Nat),vs=[v,.int hn,u,.ref pc]/\GY K H v u pc ws hn tp ls/\bK (dU hn tp ls) (eR ws tp ls)=true/\∀H',aD H H'->Q (.bl true) H'
def lG(K:M6):Sp:=λvs H Q _=>∃(v u:V) (pc:Addr) (ws:List Wk) (tp:R) (ls:List Nat),vs=[v,u,.ref pc]/\GY K H v u pc ws 1 tp ls/\bK (dU 1 tp ls) (eR ws tp ls)=true/\∀H',aD H H'->Q (.bl true) H'
theorem Hb(k:Int):val (k,1)=(k:Rat):=by unfold val;show(k:Rat)/((1:Int):Rat)=k;rw[show((1:Int):Rat)=1 from Z];grind
theorem jT:∀{a b:List Nat},a.Pairwise (· < ·)->b.Pairwise (· < ·)->(∀n,n∈a↔n∈b)->a=b
 | [],[],_,_,_=>rfl
 | [],y::b,_,_,h=>by have:=(h y).mpr Ng;cases this
 |x::a,[],_,_,h=>by have:=(h x).mp Ng;cases this
 |x::a,y::b,ha,hb,h=>by
  obtain⟨ax,ha'⟩:=Ql.mp ha;obtain⟨bx,hb'⟩:=Ql.mp hb;have e:x=y:=by
   rcases Nq.mp ((h x).mp Ng) with q|q
   ·exact q
   ·rcases Nq.mp ((h y).mpr Ng) with r|r
    ·exact r.symm
    ·have h1:=bx x q;have h2:=ax y r;omega
  subst e;rw[jT ha' hb' λn=>?_];constructor
  ·intro q;rcases Nq.mp ((h n).mp (No _ q)) with r|r
   ·have:=ax n q;omega
   ·exact r
  ·intro q;rcases Nq.mp ((h n).mpr (No _ q)) with r|r
   ·have:=bx n q;omega
   ·exact r
theorem mz(ok:∀w∈ws,br w)(h:fM ws (M7 24) (y:: r)):val (de ws y)*(y.1.length:Rat)=FM ws (λt=>y.1.contains t)/\y.1.Pairwise (· < ·)/\(∀t∈y.1,t<24)/\y.1.length≤24:=by
 obtain⟨p,hp,ey⟩:∃p,pZ ws (M7 24) p/\y=fJ ws (M7 24) p:=by
  cases h with
  |cons hp _=>exact⟨_,hp,Z⟩
 have sc:=k4 hp;have e1:y.1=c5 (M7 24) p:=by rw[ey];rfl
 have sub:y.1.Sublist (M7 24):=by
  rw[e1];exact(Tl _ _).trans (Tr _ _)
 refine⟨?_,Qc.sublist sub Qa,λt ht=>Nk.mp (sub.subset ht),by have:=sub.length_le;rw[NP] at this;exact this⟩;have v:=iE (ws:=ws) ok sc;rw[←ey,←vq sc,←e1] at v;rw[v];have n:=FQ (ws:=ws) (q:=λ_=>true) (p:=p) (by rw[oh];exact sc);rw[oh,show FM ws (λ_=>!true)=0 from jF ok,Rat.zero_add] at n;rw[←n];refine Bi λt _=>?_
 unfold nx;rw[oh,←e1];simp
theorem Ct(ok:br w)(h:eN (λt=>ls.contains t) w=true):cy ls w=0:=by
 unfold cy;rw[QJ,Up];intro i hi;have hi':=Nk.mp hi;have l:=ok.le;have l2:=ok.lt;have:=dG.mp h (w.1+i) (by omega) (by unfold fw;rw[decide_eq_true (show w.1≤w.1+i by omega),decide_eq_true (show w.1+i≤w.2.1 by omega)];rfl);rw[this];simp
theorem Gs(ht:jE tp)(ok:br w)(h:eN (λt=>ls.contains t) w=true):val (gX tp ls w)=jH w:=by
 have rb:=kX (ls:=ls) ht ok;have o0:=Ct ok h;have vr:val (cH tp ls w)=jH w:=by
  unfold cH;rw[o0];have tr:hU (aC tp (((0:Nat):Int),1)):=vO ht.red (gj (i:=((0:Nat):Int)) (n:=1) (by decide)).red;rw[fI (kw ok.am).pos tr.pos,fH ht.pos (by show(0:Int)<1;decide),show val ((((0:Nat):Int),1):R)=0 from(eT (r:=(((0:Nat):Int),1)) (by show(0:Int)<1;decide)).mpr Z,V6];show val w.2.2-0=val w.2.2;grind
 have c:bK (cH tp ls w) (0,1)=false:=(fX rb.pos (by decide)).mpr (by
  rw[vr,show val ((0,1):R)=0 from(eT (r:=(0,1)) (by decide)).mpr Z];exact QV (ug ok))
 rw[vy rb.red c,vr]
theorem Gr(ht:jE tp)(ok:br w):0≤val (gX tp ls w):=by
 refine(gN (pQ ht ok).pos).mpr ?_;unfold gX
 split
 ·rename_i c;exact Ox c
 ·exact Qd _
theorem ww(ok:∀w∈ws,br w)(ht:jE tp)(h:fM ws (M7 24) (y:: r))(w9:ws.length≤9)(pos:0<y.1.length)(l:val tp<val (de ws y)):bK (dU 1 tp y.1) (eR ws tp y.1)=true:=by
 obtain⟨fm,_,_,l24⟩:=mz ok h;have wb:=jc (ls:=y.1) ht ok w9;have rb:=oW (ls:=y.1) (hn:=1) ht (by decide) l24;refine(fO rb.pos wb.pos).mpr ?_;have vw:val (eR ws tp y.1)=sQ (λw=>val (gX tp y.1 w)) ws:=by
  unfold eR;rw[(iB λr hr=>?_).2,jd,i3];obtain⟨w,hw,rfl⟩:=Nu.mp hr;exact(pQ ht (ok w hw)).red
 have ge:FM ws (λt=>y.1.contains t)≤val (eR ws tp y.1):=by
  rw[vw];refine fZ λw hw=>?_
  cases c:eN (λt=>y.1.contains t) w with
  |true=>rw[Gs ht (ok w hw) c];exact OG
  |false=>exact Gr ht (ok w hw)
 have vr:val (dU 1 tp y.1)=val tp*(y.1.length:Rat):=by
  unfold dU;rw[fH ht.pos (by show(0:Int)<1;decide),UK,Hb];rfl
 rw[vr];have q:=O6 l (WD.mpr pos);rw[fm] at q;grind
def DX(pl:List (List Pc))(t:Nat):Rat:=sQ (λq:Pc=>val q.2) (pl.getD t [])
def pX(pl:List (List Pc))(i t:Nat):Rat:=sQ (λq:Pc=>bR (decide (q.1=i)) (val q.2)) (pl.getD t [])
structure Bo(ws:List Wk)(pl:List (List Pc)):Prop where
 len:pl.length=24
 few:∀t,(pl.getD t []).length≤8
 pc:∀t q,t<24->q∈pl.getD t []->q.1<ws.length/\fe q.2/\fw (ws.getD q.1 bV) t=true
 sum:∀i,i<ws.length->sQ (pX pl i) (M7 24)=jH (ws.getD i bV)
theorem DW(h:Bo ws pl)(A:Nat->Bool)(ht:t<24):sQ (λi=>bR (eN A (ws.getD i bV)) (pX pl i t)) (M7 ws.length)≤DX pl t:=by
 have e:sQ (λi=>bR (eN A (ws.getD i bV)) (pX pl i t)) (M7 ws.length)=sQ (λi=>sQ (λq:Pc=>bR (eN A (ws.getD i bV)) (bR (decide (q.1=i)) (val q.2))) (pl.getD t [])) (M7 ws.length):=aN λi _=>by
  unfold pX
  cases eN A (ws.getD i bV) with
  |true=>rfl
  |false=>
   show(0:Rat)=sQ (λ_=>0) _;generalize pl.getD t []=l
   induction l with
   |nil=>rfl
   |cons a l ih=>show(0:Rat)=0+sQ (λ_=>0) l;rw[←ih];grind
 rw[e,jj];unfold DX;refine fZ λq hq=>?_
 obtain⟨hi,am,_⟩:=h.pc t q ht hq;have vn:0≤val q.2:=(gN am.bq.pos).mpr am.nn;rw[show sQ (λi=>bR (eN A (ws.getD i bV)) (bR (decide (q.1=i)) (val q.2))) (M7 ws.length)=sQ (λj=>if j=q.1 then bR (eN A (ws.getD q.1 bV)) (val q.2) else 0) (M7 ws.length) from aN λi _=>by
  by_cases c:i=q.1
  ·subst c;rw[decide_eq_true Z,if_pos Z];rfl
  ·rw[decide_eq_false (λz=>c z.symm),if_neg c]
   cases eN A (ws.getD i bV)<;>rfl,sW hi]
 cases eN A (ws.getD q.1 bV) with
 |true=>exact OG
 |false=>exact vn
theorem xk(h:Bo ws pl)(A:Nat->Bool):FM ws A≤sQ (λt=>bR (A t) (DX pl t)) (M7 24):=by
 have e:FM ws A=sQ (λt=>bR (A t) (sQ (λi=>bR (eN A (ws.getD i bV)) (pX pl i t)) (M7 ws.length))) (M7 24):=by
  unfold FM;rw[jk bV];have e2:sQ (λt=>bR (A t) (sQ (λi=>bR (eN A (ws.getD i bV)) (pX pl i t)) (M7 ws.length))) (M7 24)=sQ (λt=>sQ (λi=>bR (eN A (ws.getD i bV)) (pX pl i t)) (M7 ws.length)) (M7 24):=aN λt ht=>by
   cases c:A t with
   |true=>rfl
   |false=>
    show(0:Rat)=_;have z:∀i∈M7 ws.length,bR (eN A (ws.getD i bV)) (pX pl i t)=0:=λi hi=>by
     cases b:eN A (ws.getD i bV) with
     |false=>rfl
     |true=>
      show pX pl i t=0;unfold pX;have zz:∀q∈pl.getD t [],bR (decide (q.1=i)) (val q.2)=(0:Rat):=λq hq=>by
       by_cases qi:q.1=i
       ·have w:=(h.pc t q (Nk.mp ht) hq).2.2;rw[qi] at w;have:=dG.mp b t (Nk.mp ht) w;rw[c] at this
        cases this
       ·rw[decide_eq_false qi];rfl
      rw[aN zz];generalize pl.getD t []=l
      induction l with
      |nil=>rfl
      |cons a l ih=>show(0:Rat)+sQ (λ_=>0) l=0;rw[ih];grind
    rw[aN z];generalize M7 ws.length=l
    induction l with
    |nil=>rfl
    |cons a l ih=>show(0:Rat)=0+sQ (λ_=>0) l;rw[←ih];grind
  rw[e2,jj];refine aN λi hi=>?_
  have s:=h.sum i (Nk.mp hi)
  cases c:eN A (ws.getD i bV) with
  |true=>exact s.symm
  |false=>
   show(0:Rat)=sQ (λ_=>0) _;generalize M7 24=l
   induction l with
   |nil=>rfl
   |cons a l ih=>show(0:Rat)=0+sQ (λ_=>0) l;rw[←ih];grind
 rw[e];refine fZ λt ht=>?_
 cases A t with
 |true=>exact DW h A (Nk.mp ht)
 |false=>exact OG
theorem qQ(c:Rat):∀l:List Nat,sQ (λ_=>c) l=c*(l.length:Rat)
 | []=>by show(0:Rat)=c*((0:Nat):Rat);rw[show((0:Nat):Rat)=0 from Z,V6]
 |a::l=>by
  show c+sQ (λ_=>c) l=c*((l.length+1:Nat):Rat);rw[qQ c l,WC,UU,show((1:Nat):Rat)=1 from Z,Rat.mul_one];grind
theorem CD(ok:∀w∈ws,br w)(hp:Bo ws pl)(h:fM ws (M7 24) (y:: r))(pos:0<y.1.length)(l:c<val (de ws y))(k:∀t,t<24->DX pl t≤c):False:=by
 obtain⟨fm,srt,lt,_⟩:=mz ok h;have f:=xk hp λt=>y.1.contains t
 rw[←gy] at f;have e:(M7 24).filter (λt=>y.1.contains t)=y.1:=jT (PX _ Qa) srt λn=>by
  rw[NA,Nk,PF];exact⟨λz=>z.2,λz=>⟨lt n z,z⟩⟩
 rw[e] at f;have g:sQ (DX pl) y.1≤sQ (λ_=>c) y.1:=fZ λt ht=>k t (lt t ht)
 rw[qQ] at g;have q:=O6 l (WD.mpr pos);rw[fm] at q;have f':FM ws (λt=>y.1.contains t)≤sQ (DX pl) y.1:=f;grind
def CI(r:R)(pl:List (List Pc)):Bool:=pl.all λq=>!bK r (cO (q.map λc:Pc=>c.2))
structure Kj(pl:List (List Pc)):Prop where
 len:pl.length≤24
 few:∀q∈pl,q.length≤8
 am:∀q∈pl,∀c∈q,fe c.2
theorem DA{bs:List Bool}:vd (.bl true) (bs.map V.bl)=bs.any id:=by
 unfold vd;rw[Sx]
 induction bs with
 |nil=>rfl
 |cons b bs ih=>rw[Pr,Pr,ih];cases b<;>rfl
theorem F3:(pl.map λq=>bK r (cO (q.map λc:Pc=>c.2))).any id=!CI r pl:=by
 unfold CI;rw[Sx,←List.not_any_eq_all_not];simp
def oJ(K:M6):Sp:=λvs H Q _=>∃(v u:V) (pl:List (List Pc)) (r:R),vs=[v,u]/\bH K H v (A3 pl)/\Kj pl/\RV K H u r/\jE r/\∀H',aD H H'->Q (.bl (CI r pl)) H'
structure vH(K:M6)(H:Hp)(D:Addr)(rows:List Addr)(pl:List (List Pc)):Prop where
 top:H D=some (.lst (rows.map V.ref))
 len:rows.length=24
 pln:pl.length=24
 nd:rows.Nodup
 nD:D∉rows
 row:∀(i:Nat) (r:Addr) (c:List Pc),rows[i]?=some r->pl[i]?=some c->∃xs,H r=some (.lst xs)/\cV (vG K H) xs c
theorem vH.step{K:M6}{H H':Hp}{D t:Addr}{rows:List Addr}{pl:List (List Pc)}(g:vH K H D rows pl)(nt:D≠t)(nr:t∉rows)(s:bP t H H'):vH K H' D rows pl:=by
 refine⟨s.keep _ _ nt g.top,g.len,g.pln,g.nd,g.nD,λi r c hr hc=>?_⟩;obtain⟨xs,hx,al⟩:=g.row i r c hr hc;exact⟨xs,s.keep _ _ (λz=>nr (z▸Nd hr)) hx,al.mono λ_ _ z=>z.mono (aK.step s)⟩
theorem vH.same{K:M6}{H H':Hp}{D:Addr}{rows:List Addr}{pl:List (List Pc)}(g:vH K H D rows pl)(s:aD H H'):vH K H' D rows pl:=by
 refine⟨s _ _ g.top,g.len,g.pln,g.nd,g.nD,λi r c hr hc=>?_⟩;obtain⟨xs,hx,al⟩:=g.row i r c hr hc;exact⟨xs,s _ _ hx,al.mono λ_ _ z=>z.mono (aK.same s)⟩
theorem vH.at{K:M6}{H:Hp}{D:Addr}{rows:List Addr}{pl:List (List Pc)}(g:vH K H D rows pl){r:Addr}(m:r∈rows):∃xs c,H r=some (.lst xs)/\cV (vG K H) xs c:=by
 obtain⟨i,hi⟩:=Pa m;have il:=(Ni.mp hi).1;have hc:pl[i]?=some (pl[i]'(by rw[g.pln,←g.len];exact il)):=M8 _;obtain⟨xs,h,al⟩:=g.row i r _ hi hc;exact⟨xs,_,h,al⟩
theorem mG{X:Cx}{K:M6}(hK:X.K=K):c6 X (.type "tuple") (λxs H Q=>∃p ys,xs=[.ref p]/\((aV K H p ys/\∀l,H l=none->Q (.ref l) (aE H l (.tup ys)))∨(bC K H p ys/\Q (.ref p) H))):=by subst hK;exact bJ
abbrev Kn:Nat:=5354228880
theorem kU:∀{ns:List Int} {m:Int},(∀z∈ns,1≤z/\z≤m)->(ns.length:Int)≤ns.sum/\ns.sum≤m*ns.length
 | [],m,_=>⟨Qd _,by show(0:Int)≤m*0;omega⟩
 |n::t,m,h=>by
  have ih:=kU λz hz=>h z (No _ hz)
  have:=h n Ng;rw[Qe,NU,Uv,Int.mul_add];refine⟨?_,?_⟩
  ·show(t.length:Int)+1≤_;omega
  ·show _≤m*(t.length:Int)+m*1;omega
theorem yu:∀{ns:List Int},(∀z∈ns,1≤z)->∀{a:Int},a∈ns->a≤ns.sum
 | [],_,_,m=>by cases m
 |n::t,h,a,m=>by
  have h':∀z∈t,1≤z:=λz hz=>h z (No _ hz)
  have nn:0≤t.sum:=by
   clear m h a n
   induction t with
   |nil=>exact Qd _
   |cons b t ih=>rw[Qe];have:=h' b Ng;have:=ih λz hz=>h' z (No _ hz);omega
  have:=h n Ng;rw[Qe];rcases Nq.mp m with e|e
  ·rw[e];omega
  ·have:=yu h' e;omega
theorem Ef{ns:List Int}(h:∀z∈ns,1≤z/\z≤4/\(4<ns.length->z=1))(hl:ns.length≤24)(m:a∈ns):a≤ns.sum/\ns.sum≤24:=by
 refine⟨yu (λz hz=>(h z hz).1) m,?_⟩;by_cases c:4<ns.length
 ·have:=(kU (m:=1) λz hz=>⟨(h z hz).1,by rw[(h z hz).2.2 c];exact Qd _⟩).2;omega
 ·have:=(kU (m:=4) λz hz=>⟨(h z hz).1,(h z hz).2.1⟩).2;omega
theorem Ee(h1:1≤a)(h2:a≤S)(h3:S≤24):Bq Kn 1 (dZ a S)/\0<(dZ a S).1/\(dZ a S).2≤24:=by
 have sp:0<S:=by omega
 refine⟨vx sp ?_ (by omega),u3 (by omega) sp,?_⟩
 ·have z:∀k:Fin 25,0<k.val->((k.val:Nat):Int)∣(Kn:Int):=by decide
  have:=z ⟨S.toNat,by omega⟩ (show 0<S.toNat by omega);rw[show(((⟨S.toNat,by omega⟩:Fin 25).val:Nat):Int)=S by show((S.toNat:Nat):Int)=S;omega] at this;exact this
 ·have:(dZ a S).2≤S:=Rr _ (by omega);omega
def GK(f a n j:Nat):List Nat:=(M7 j).map λk=>f+(a+k)%n
theorem Bx(h:j<n):f+(a+j)%n∉GK f a n j:=λm=>by
 obtain⟨k,hk,e⟩:=Nu.mp m;have kj:=Nk.mp hk;have e':(a+j)%n=(a+k)%n:=by omega
 have z:=Nat.sub_mod_eq_zero_of_mod_eq e';rw[show a+j-(a+k)=j-k by omega,Nat.mod_eq_of_lt (by omega)] at z;omega
theorem xF:GK f a n (j+1)=GK f a n j++[f+(a+j)%n]:=by unfold GK;rw[Oq,N5];rfl
theorem vH.app{K:M6}{H:Hp}{D:Addr}{rows:List Addr}{pl:List (List Pc)}(g:vH K H D rows pl){i:Nat}{r:Addr}{c:List Pc}{xs:List V}{y:V}{pc:Pc}(hr:rows[i]?=some r)(hc:pl[i]?=some c)(hx:H r=some (.lst xs))(al:cV (vG K H) xs c)(hy:vG K H y pc) :
  vH K (aE H r (.lst (xs++[y]))) D rows (pl.set i (c++[pc])):=by
 have tu:aK K H (aE H r (.lst (xs++[y]))):=aK.up hx _;have mr:=Nd hr;have nDr:D≠r:=λz=>g.nD (by rw[z];exact mr)
 refine⟨by rw[aJ nDr];exact g.top,g.len,by rw[P2];exact g.pln,g.nd,g.nD,λi' r' c' hr' hc'=>?_⟩;have il:=(Ni.mp hc).1;by_cases e:i'=i
 ·subst e;rw[hr] at hr'
  cases hr'
  rw[Pd il] at hc'
  cases hc'
  exact⟨_,ag,(al.mono λ_ _ z=>z.mono tu).snoc (hy.mono tu)⟩
 ·rw[OJ (Qs e)] at hc';obtain⟨ys,hys,aly⟩:=g.row i' r' c' hr' hc';have ne:r'≠r:=λz=>by
   obtain⟨h1,e1⟩:=Ni.mp hr;obtain⟨h2,e2⟩:=Ni.mp hr';exact e ((V7 (h₀:=h2) (h₁:=h1) g.nd).mp (by rw[e1,e2,z]))
  exact⟨ys,by rw[aJ ne];exact hys,aly.mono λ_ _ z=>z.mono tu⟩
theorem Cr(h:Bk r)(b:Bq Kn 1 s)(p:0<s.1):fe (aC r s):=⟨((kw h).times b).mono (by decide) (by decide),Ox (u3 (Oc (by have:=h.top;omega) p) (Oc (kw h).pos b.pos))⟩
structure Dd(ws:List Wk)(i:Nat)(pl:List (List Pc)):Prop where
 few:∀c∈pl,c.length≤i
 pc:∀t q,t<24->q∈pl.getD t []->q.1<i/\fe q.2/\fw (ws.getD q.1 bV) t=true
 sum:∀n,n<i->sQ (pX pl n) (M7 24)=jH (ws.getD n bV)
structure Dc(ws:List Wk)(i:Nat)(x:Rat)(pl:List (List Pc)):Prop where
 pc:∀t q,t<24->q∈pl.getD t []->q.1≤i/\fe q.2/\fw (ws.getD q.1 bV) t=true
 sum:∀n,n<i->sQ (pX pl n) (M7 24)=jH (ws.getD n bV)
 own:sQ (pX pl i) (M7 24)=x
theorem jS{α:Type}{f:α->Rat}:∀{l:List α},(∀x∈l,f x=0)->sQ f l=0
 | [],_=>rfl
 |a::l,h=>by
  show f a+sQ f l=0;rw[h a Ng,jS λx hx=>h x (No _ hx)];grind
theorem Dd.start(h:Dd ws i pl):Dc ws i 0 pl:=⟨λt q ht hq=>let ⟨a,b⟩:=h.pc t q ht hq;⟨Pb a,b⟩,h.sum,jS λt ht=>jS λq hq=>by
 have:=(h.pc t q (Nk.mp ht) hq).1;rw[decide_eq_false (by omega)];rfl⟩
theorem Dc.fin(h:Dc ws i (jH (ws.getD i bV)) pl)(few:∀c∈pl,c.length≤i+1):Dd ws (i+1) pl:=⟨few,λt q ht hq=>let ⟨a,b⟩:=h.pc t q ht hq;⟨by omega,b⟩,λn hn=>by
 by_cases e:n=i
 ·rw[e];exact h.own
 ·exact h.sum n (by omega)⟩
theorem BU(l:List α)(a:α):sQ f (l++[a])=sQ f l+f a:=by
 rw[fh];show _+(f a+0)=_;grind
theorem vc(hc:pl[u]?=some c)(hu:u<24):sQ (pX (pl.set u (c++[(i,r)])) n) (M7 24)=sQ (pX pl n) (M7 24)+bR (decide (i=n)) (val r):=by
 have ul:=(Ni.mp hc).1;have e:∀t∈M7 24,pX (pl.set u (c++[(i,r)])) n t=pX pl n t+(if t=u then bR (decide (i=n)) (val r) else 0):=λt _=>by
  unfold pX;by_cases z:t=u
  ·subst z;rw[if_pos Z,Nn,Pd ul,Nn,hc];exact BU c (i,r)
  ·rw[if_neg z,Nn,OJ (Qs z),←Nn];grind
 rw[aN e,d8,sW hu]
theorem Dc.step(h:Dc ws i x pl)(hc:pl[u]?=some c)(hu:u<24)(am:fe r)(iw:fw (ws.getD i bV) u=true):Dc ws i (x+val r) (pl.set u (c++[(i,r)])):=by
 have ul:=(Ni.mp hc).1;refine⟨λt q ht hq=>?_,λn hn=>?_,?_⟩
 ·by_cases z:t=u
  ·subst z;rw[Nn,Pd ul] at hq;rcases NF.mp (show q∈c++[(i,r)] from hq) with w|w
   ·exact h.pc t q ht (by rw[Nn,hc];exact w)
   ·rw[Nm.mp w];exact⟨Nb _,am,iw⟩
  ·rw[Nn,OJ (Qs z),←Nn] at hq;exact h.pc t q ht hq
 ·rw[vc hc hu,h.sum n hn,decide_eq_false (by omega)];show _+(0:Rat)=_;grind
 ·rw[vc hc hu,h.own,decide_eq_true Z];rfl
theorem Dd.plw(h:Dd ws ws.length pl)(l8:ws.length≤8)(len:pl.length=24):Bo ws pl:=⟨len,λt=>by
 rw[Nn]
 cases e:pl[t]? with
 |none=>exact NB _
 |some c=>exact NH (h.few c (Nd e)) l8,h.pc,h.sum⟩
theorem DR(a S:Rat):a*(0:Rat)/S=0:=by rw[V6,RL,Rat.zero_mul]
theorem DT(a:Rat)(h:0<S):a*S/S=a:=by
 have:S≠0:=λz=>by rw[z] at h;exact absurd h Rat.lt_irrefl
 grind
theorem DS(a x y S:Rat):a*(x+y)/S=a*x/S+a*(y/S):=by
 rw[RL,RL,RL];grind
theorem Dd.nul(ws:List Wk):Dd ws 0 (ND 24 ([]:List Pc)):=by
 refine⟨λc hc=>?_,λt q ht hq=>?_,λn hn=>absurd hn (Qr n)⟩
 ·rw[(List.mem_replicate.mp hc).2];exact Nb _
 ·rw[Nn,Po,if_pos ht] at hq;exact absurd hq Oo
def qE(K:M6):Sp:=λvs H Q _=>∃(t s:Addr) (v:V) (ws:List Wk),vs=[.ref t,v]/\cD K H t s/\fo K H v ws/\ws.length≤8/\(∀w∈ws,br w)/\∀(v':V) (pl:List (List Pc)) (H':Hp),bP t H H'->cD K H' t s->bH K H' v' (A3 pl)->Bo ws pl->Q v' H'
def IB(ws:List Wk)(r:R):List Ly->Bool
 | []=>false
 |y::_=>bK r (de ws y)
theorem t0(ok:∀w∈ws,br w)(w8:ws.length≤8)(h:fM ws (M7 24) lys):GC ws [] (dI ws [] (aX ws lys)).2:=by
 obtain⟨f,l,win⟩:=iz.ex ws [];have e:=mC win;have:=AY (lys:=lys) ok w8 Z (jo _) win (pR ok f l win) (by rw[e];exact h);rw[e] at this;exact this
theorem GC.pls(h:GC ws [] pl):Kj pl:=by
 have at_:∀q∈pl,∃t,t<24/\pl.getD t []=q:=λq hq=>by
  obtain⟨t,ht⟩:=Pa hq;exact⟨t,by have:=(Ni.mp ht).1;rw[h.len] at this;exact this,ap [] ht⟩
 refine⟨by rw[h.len];exact Nb _,λq hq=>?_,λq hq c hc=>?_⟩
 ·obtain⟨t,_,e⟩:=at_ q hq;rw[←e];exact h.few t
 ·obtain⟨t,ht,e⟩:=at_ q hq;obtain⟨k,hk⟩:=Pa hc;have kl:=(Ni.mp hk).1;have:=(h.pc t k ht (by rw[e];exact kl)).2.1;unfold cf at this;rw[e,ap (0,(0,1)) hk] at this;exact this
theorem Bo.pls(h:Bo ws pl):Kj pl:=by
 have at_:∀q∈pl,∃t,t<24/\pl.getD t []=q:=λq hq=>by
  obtain⟨t,ht⟩:=Pa hq;exact⟨t,by have:=(Ni.mp ht).1;rw[h.len] at this;exact this,ap [] ht⟩
 refine⟨by rw[h.len];exact Nb _,λq hq=>?_,λq hq c hc=>?_⟩
 ·obtain⟨t,_,e⟩:=at_ q hq;rw[←e];exact h.few t
 ·obtain⟨t,ht,e⟩:=at_ q hq;exact(h.pc t c ht (by rw[e];exact hc)).2.1
theorem ua(ok:∀w∈ws,br w)(w8:ws.length≤8)(tr:jE r)(nn:0≤r.1)(h:fM ws (M7 24) lys)(hi:IB ws r lys=false):CI r (dI ws [] (aX ws lys)).2=true:=by
 have lok:=tO h (by decide) (λt ht=>Nk.mp ht);have ams:=sF ok (by omega) lok;have sa:=xU (es:=[]) ok (jo _) h ams;unfold CI;rw[N4];intro q hq;have mq:cO (q.map (·.2))∈aX ws lys:=by
  rw[←sa];exact List.mem_map_of_mem hq
 obtain⟨t,ht⟩:=Pa mq;have tl:t<24:=by
  have:=(Ni.mp ht).1;unfold aX at this;rw[iD,Qm] at this;exact this
 have v:=iC h tl (0,1);rw[ap (0,1) ht] at v;have am:=ams _ mq;have le:ja ws lys t≤val r:=by
  cases lys with
  |nil=>
   rw[kP];exact(gN tr.pos).mpr nn
  |cons y z=>
   have sp:=(jN ok (by omega) (lok y Ng)).bq.pos;exact V2 (vN ok h Z tl) ((fX tr.pos sp).mp hi)
 have c:bK r (cO (q.map λc:Pc=>c.2))=false:=(fX tr.pos am.bq.pos).mpr (by rw[v];exact le);rw[c];rfl
theorem wc(ok:∀w∈ws,br w)(tr:jE r)(h:fM ws (M7 24) (y:: z))(lo:hV ws.length y)(w8:ws.length≤8)(hi:bK r (de ws y)=true)(hp:Bo ws pl):CI r pl=false:=by
 cases c:CI r pl with
 |false=>rfl
 |true=>
  exfalso;have sp:=(jN ok (by omega) lo).bq.pos;refine CD ok hp h lo.pos ((fO tr.pos sp).mp hi) λt ht=>?_
  unfold CI at c;rw[N4] at c;have tl:t<pl.length:=by rw[hp.len];exact ht
  have mq:=NY tl;have:=c _ mq;have e:pl.getD t []=pl[t]:=ap [] (M8 tl);have red:∀x∈(pl[t]).map (λc:Pc=>c.2),hU x:=λx hx=>by
   obtain⟨q,hq,rfl⟩:=Nu.mp hx;exact(hp.pls.am _ mq q hq).red
  have s:=iB red;have nl:bK r (cO ((pl[t]).map λc:Pc=>c.2))=false:=by simpa using this
  have le:=(fX tr.pos s.1.pos).mp nl;rw[s.2,jd,i3] at le;unfold DX;rw[e];exact le
def re(ls:List Nat):PyData:=.list (ls.map λn:Nat=>Py n)
theorem rP:∀{a b:List Nat},OW (re a) (re b)=decide (a=b)
 | [],[]=>rfl
 | [],_::_=>rfl
 |_::_,[]=>rfl
 |x::a,y::b=>by
  have ih:Tv (a.map λn:Nat=>Py n) (b.map λn:Nat=>Py n)=decide (a=b):=rP (a:=a) (b:=b);show(((x:Nat):Int)==((y:Nat):Int)&&Tv (a.map λn:Nat=>Py n) (b.map λn:Nat=>Py n))=_;rw[ih];by_cases e:x=y
  ·subst e;simp
  ·have e':¬((x:Nat):Int)=((y:Nat):Int):=by omega
   simp[e,e']
theorem nS{K:M6}{H:Hp}{p:Addr}{ls:List Nat}(h:aV K H p (aL ls)):bH K H (.ref p) (re ls):=by
 refine .lst h ?_;clear h;unfold aL
 induction ls with
 |nil=>exact .nil
 |cons x r ih=>exact .cons (.int _) ih
theorem lW(ls:List Nat):(re ls).canLay0=true/\(re ls).depth≤32:=by
 unfold re;constructor
 ·induction ls with
  |nil=>rfl
  |cons x r ih=>exact ih
 ·refine NH (m:=1) ?_ (by decide)
  induction ls with
  |nil=>decide
  |cons x r ih=>simpa [VJ,QY] using ih
theorem Cz{ls:List Nat}{ms:List Int}(h1:∀n∈ls,n<24)(hp:ms.Perm (cQ (ls.map λn:Nat=>(n:Int))))(hs:ms.Pairwise (·≤·)) :
  ∃zs:List Nat,ms.map V.int=aL zs/\zs.Pairwise (· < ·)/\∀n,n∈zs↔n∈ls:=by
 have mem:∀m,m∈ms↔∃n∈ls,(n:Int)=m:=λm=>by
  rw[hp.mem_iff,rn,Nu]
 have pos:∀m∈ms,0≤m:=λm hm=>by
  obtain⟨n,_,rfl⟩:=(mem m).mp hm;omega
 have nd:ms.Nodup:=hp.nodup_iff.mpr (mX _);refine⟨ms.map Int.toNat,?_,?_,λn=>?_⟩
 ·unfold aL;rw[OE];refine Rw λm hm=>?_
  show V.int m=V.int (m.toNat:Int);rw[U5 (pos m hm)]
 ·rw[List.pairwise_map];refine(hs.and nd).imp_of_mem λha hb h=>?_
  have:=pos _ ha;have:=pos _ hb;obtain⟨h1,h2⟩:=h;omega
 ·rw[Nu];constructor
  ·rintro⟨m,hm,rfl⟩;obtain⟨n,hn,rfl⟩:=(mem m).mp hm;rw[OK];exact hn
  ·intro hn;exact⟨(n:Int),(mem _).mpr ⟨n,hn,Z⟩,OK n⟩
def oI(K:M6):Sp:=λvs H Q _=>∃(v u:V) (pp:Addr) (hi:Bool) (ws:List Wk) (r:R) (xs:List V) (pls:List (List (List Pc))),vs=[v,u,.ref pp,.bl hi]/\fo K H v ws/\ws.length≤8/\(∀w∈ws,br w)/\RV K H u r/\jE r/\0≤r.1/\aV K H pp xs/\cV (λv pl=>bH K H v (A3 pl)) xs pls/\pls.length≤2/\(∀pl∈pls,Bo ws pl)/\(∀lys,fM ws (M7 24) lys->hi=IB ws r lys)/\∀H',aD H H'->Q (.bl true) H'
theorem xN(ha:0<a.2)(hb:0<b.2)(h:0≤a.1)(k:0≤b.1):0≤(aC a b).1:=by
 have c:=jZ (a:=a.1*b.1) (Oc ha hb);have p:=(eQ (a:=a.1*b.1) (Oc ha hb)).pos;have e:(aC a b).1*(a.2*b.2)=a.1*b.1*(aC a b).2:=c;have z:0≤a.1*b.1*(aC a b).2:=RZ (RZ h k) (Ox p);rw[←e] at z;have q:=Oc ha hb;rcases(show 0≤(aC a b).1∨(aC a b).1<0 by omega) with w|w
 ·exact w
 ·have:=Int.mul_neg_of_neg_of_pos w q;omega
def GB(K:M6)(H:Hp)(v:V)(pl:List (List Pc)):Prop:=∃p xs,v=.ref p/\bC K H p xs/\cV (xq K H) xs pl
theorem GB.mono{K:M6}{H H':Hp}{v:V}{pl:List (List Pc)}(h:GB K H v pl)(t:aK K H H'):GB K H' v pl:=let ⟨p,x,e,s,r⟩:=h;⟨p,x,e,t _ _ s,r.mono λ_ _ z=>z.mono t⟩
theorem GB.deep{K:M6}{H:Hp}{v:V}{pl:List (List Pc)}(h:GB K H v pl):bH K H v (A3 pl):=by
 obtain⟨p,xs,rfl,hS,al⟩:=h;exact .tup hS (al.deep λ_ _ z=>z.deep)
structure m8(r:R):Prop where
 tp:jE r
 nn:0≤r.1
theorem xL(h:Bs 108 r):m8 r:=⟨h.bq.mono (by decide) (by decide),h.nn⟩
theorem oA(h:Bs 108 r)(q:Bq n M ((a,b):R))(ha:0≤a)(hn:449755225920*n∣4452576736608000)(hM:108*M≤216):m8 (aC r (a,b)):=⟨(h.bq.times q).mono hn hM,xN h.bq.pos q.pos h.nn ha⟩
def oK(K:M6):Sp:=λvs H Q _=>∃(a:Addr) (ns:List Int),vs=[.ref a]/\aV K H a (ns.map V.int)/\ns.length≤63/\∀H',Q (.bl true) H'
theorem Eu:aM ["thing"] ["thing"] (av zf):=fg
theorem Hs:aM ["thing","count"] ["thing","count"] (av EF):=fg
theorem Ey:aM ["thing","count"] ["thing","count"] (av zo):=fg
theorem nG:aM ["one","other","high","low","rest"] ["one","other"] (av EJ):=fg
theorem sT:aM ["top","bottom","shared"] ["top","bottom"] (av yO):=fg
theorem oR:aM ["one","other","shared","top","rest"] ["one","other"] (av yJ):=fg
theorem Ek:aM ["one","other"] ["one","other"] (av yN):=fg
theorem sS:aM ["one","other","left","right"] ["one","other"] (av yM):=fg
theorem Ej:aM ["one","other"] ["one","other"] (av yI):=fg
theorem Eo:aM ["one","other"] ["one","other"] (av yU):=fg
theorem El:aM ["one","other"] ["one","other"] (av yQ):=fg
theorem iY:aM ["some","tops","one","so_far","bottom","top"] ["some"] (av yL):=fg
theorem oS:aM ["some","bottom","one"] ["some"] (av zu):=fg
theorem Ex:aM ["work","turn"] ["work","turn"] (av zn):=fg
theorem Ez:aM ["count"] ["count"] (av zt):=fg
theorem Et:aM ["leanings","lean","ahead","behind","numbers","bases","leaners","leaner","base"] ["leanings","lean"] (av ze):=fg
theorem yz:aM ["count","leans","leanings","lean"] ["count","leans"] (av EE):=fg
theorem gc:aM ["sheet","works","leanings","drawn","number","work","firsts","lasts","first","last"] ["sheet"] (av zd):=fg
theorem uL:aM ["works","left","windows","work","places"] ["works","left"] (av ED):=fg
theorem Ei:aM ["windows","begin","end"] ["windows","begin","end"] (av yH):=fg
theorem ie:aM ["windows","amounts","count","best","best_load","best_length","begin","end","load","length"] ["windows","amounts","count"] (av EI):=fg
theorem sV:aM ["works","left","windows","places"] ["works","left"] (av zc):=fg
theorem iZ:aM ["works","told","left","waiting","layer"] ["works"] (av yP):=fg
theorem Ht:aM ["works","layer"] ["works","layer"] (av EH):=fg
theorem qO:aM ["works","speeds","layer","speed","turn"] ["works"] (av EC):=fg
theorem uM:aM ["works","leanings","waiting","earliest","like","free"] ["works","leanings","waiting"] (av EG):=fg
theorem lL:aM ["works","leans","leanings","waiting","order","number"] ["works","leans"] (av zb):=fg
theorem jQ:aM ["works","order","left","turn","speed","pieces","room","number","amount"] ["works","order","left","turn","speed"] (av zm):=fg
theorem iX:aM ["works","leans","speeds","order","left","plan","turn","number","amount"] ["works","leans","speeds"] (av yK):=fg
theorem yE:aM ["sheet","works"] ["sheet"] (av zq):=fg
theorem yx:aM ["work","top","turns","others","rest"] ["work","top","turns"] (av EB):=fg
theorem yD:aM ["works","hands","top","thing","room"] ["works","hands","top","thing"] (av zk):=fg
theorem yy:aM ["works","top","told"] ["works","top"] (av yG):=fg
theorem Es:aM ["_law_script"] ["_law_script"] (av za):=fg
theorem jP:aM ["_law_tape_here","_law_many","_law_spot","_law_cell","_law_mixed","_law_found"] ["_law_tape_here","_law_many"] (av yZ):=fg
theorem sU:aM ["_law_top","_law_bottom","_law_one","_law_other"] ["_law_top","_law_bottom"] (av yY):=fg
theorem En:aM ["_law_one","_law_other"] ["_law_one","_law_other"] (av yT):=fg
theorem Em:aM ["_law_one","_law_other"] ["_law_one","_law_other"] (av yS):=fg
theorem Er:aM ["_law_one","_law_other"] ["_law_one","_law_other"] (av yX):=fg
theorem ib:aM ["_law_some","_law_found","_law_one"] ["_law_some"] (av yR):=fg
theorem fR:aM ["_law_tape_here","_law_many","_law_end","_law_works_here","_law_k","_law_first","_law_last","_law_way"] ["_law_tape_here","_law_many"] (av zj):=fg
theorem Ew:aM ["_law_works_here"] ["_law_works_here"] (av zi):=fg
theorem gx:aM ["_law_works_here","_law_left","_law_units_here","_law_spans","_law_number","_law_places","_law_best","_law_begin","_law_end","_law_some","_law_many","_law_long","_law_more"] ["_law_works_here","_law_left"] (av EA):=fg
theorem jR:aM ["_law_works_here","_law_left","_law_found","_law_layer"] ["_law_works_here"] (av zp):=fg
theorem Ep:aM ["_law_works_here","_law_layer"] ["_law_works_here","_law_layer"] (av yW):=fg
theorem eG:aM ["_law_tape_here","_law_works_here","_law_turns","_law_number","_law_first","_law_last","_law_amount","_law_wide","_law_many","_law_at","_law_shares","_law_k","_law_part"] ["_law_tape_here","_law_works_here"] (av yV):=fg
theorem gP:aM ["_law_sheet","_law_plan_here","_law_works_here","_law_leans","_law_spots","_law_done","_law_turn","_law_place","_law_number","_law_part"] ["_law_sheet","_law_plan_here"] (av zw):=fg
theorem ic:aM ["_law_works_here","_law_top","_law_turns","_law_wanted","_law_first","_law_last","_law_amount","_law_outside","_law_rest"] ["_law_works_here","_law_top","_law_turns"] (av zr):=fg
theorem Ev:aM ["_law_plan_here","_law_top"] ["_law_plan_here","_law_top"] (av zh):=fg
theorem yC:aM ["_law_works_here","_law_top","_law_plans","_law_high","_law_found"] ["_law_works_here","_law_top","_law_plans","_law_high"] (av zg):=fg
theorem fQ:aM ["_law_script","_law_tape_here","_law_k","_law_works_here","_law_found","_law_rate","_law_plans","_law_tops","_law_ahead","_law_top","_law_high"] ["_law_script"] (av yF):=fg
end My
namespace My
open PySem L2 B PyProof.Rows
section
variable {P:NW}{w:Ol}{K:M6}{mg:NV->Option Value}{base:Np}{t:Ad}
theorem FB(T:fc K mg t):bX P w K mg base ee 1 t.a_Q25 t.d_Q25 ["thing"] (qJ K):=by
 refine T.F_Q25.ok Eu (λvs H Q E h=>?_) (λcdv A outer s H vs Q E hr h=>?_)
 ·obtain⟨_,_,rfl,_⟩:=h;rfl
 obtain⟨v,d,rfl,hD,k⟩:=h;obtain⟨b,c,e1,e2,e3⟩:=CK hD;refine dS.ok (aj (aO (lP (aG fL (by rfl) T.z_isinstance Q2 (ac (qv 0) (ac (iH (v:=V.ty "int") Z T.z_int boot_int Z) af ad) ad)) (oZ (zP (aG fL (by rfl) T.z_isinstance Q2 (ac (qv 0) (ac (iH (v:=V.ty "bool") Z T.z_bool boot_bool Z) af ad) ad))))))) ?_;nofun
 rw[e3] at k;refine⟨_,Z,_,_,_,_,Z,hD,e1,_,Z,?_⟩
 cases b with
 |false=>exact k
 |true=>exact⟨_,Z,_,_,_,_,Z,hD,e2,_,Z,k⟩
theorem Ip(T:fc K mg t):bX P w K mg base ee 2 t.a_Q4 t.d_Q4 ["thing","count"] (kD K):=by
 refine T.F_Q4.ok Hs (λvs H Q E h=>?_) (λcdv A outer s H vs Q E hr h=>?_)
 ·obtain⟨_,_,rfl,_⟩:=h;rfl
 obtain⟨v,d,rfl,hD,k⟩:=h;refine dS.ok (aj (aO (lP (cI (FB T) hr T.m_Q25 T.F_Q25.kp T.b_Q25 (ac (qv 0) af ad)) (oZ (qW gZ lS ah (qv 0) (qv 1)))))) ?_;nofun
 refine⟨_,Z,v,d,Z,hD,_,Z,?_⟩
 cases hw:ot d with
 |false=>
  have e:kI d=false:=by cases d with|int i=>cases hw|_=>rfl
  rw[e] at k;exact k
 |true=>
  obtain⟨i,rfl⟩:=si hw
  cases hD
  have k':Q (.bl (decide (0≤i)&&decide (i<24))) H:=k;refine⟨_,Z,_,_,Z,Z,_,Z,?_⟩;by_cases c:0≤i
  ·refine cC c ?_;rw[decide_eq_true c] at k';exact⟨_,Z,_,_,Z,Z,k'⟩
  ·refine cr c ?_;rw[decide_eq_false c] at k';exact k'
theorem FH(T:fc K mg t):bX P w K mg base ee 3 t.a_Q16 t.d_Q16 ["thing","count"] (oM K):=by
 refine T.F_Q16.ok Ey (λvs H Q E h=>?_) (λcdv A outer s H vs Q E hr h=>?_)
 ·obtain⟨_,_,rfl,_⟩:=h;rfl
 obtain⟨v,d,rfl,hD,hl,k⟩:=h;refine dS.ok (ae (ca (fS (iQ (dQ (df (aG fL (by rfl) T.z_isinstance Q2 (ac (qv 0) (ac (iH (v:=V.ty "tuple") Z T.z_tuple Pf Z) af ad) ad)))) (gQ (dQ (df (aG (ka Z) (by rfl) T.z_all boot_all (ac (bD (N':=["part","count"]) (src:=[none,some 1]) Z (by exact(dg (qv 0))) (λ_ _ _ _ _=>(by exact(by exact ao (i:=0) (by show NQ (["part","count"]:List NV);decide +kernel) (by exact Z) (by first|exact NG Z|exact NC Z)))) (λ_ _ _ _ _=>bQ) (λ_ _ _ _ _=>(by exact(by exact(fz (Ip T) (by exact hr.mono (by decide)) (by exact Z) T.m_Q4 T.F_Q4.kp T.b_Q4 (by exact .nil) (by exact ju) (ac (by exact(qv 0)) (ac (by exact(qv 1)) af ad) ad))))) (by exact⟨Z,Z,Z,Z,trivial⟩) Z (by decide +kernel) Z (by decide +kernel) (by exact aS Z ⟨Z,trivial⟩)) af cW))))))) (aj (aO eU)) be) (aj (aO (aG (ka Z) (by rfl) T.z_all boot_all (ac (bD (N':=["place","thing"]) (src:=[none,some 0]) Z (by exact(iG Z T.z_range (ac ah (ac (aG aH (by rfl) T.z_len OD (ac (qv 0) af ad)) af aF) aB))) (λ_ _ _ _ _=>(by exact(by exact ao (i:=0) (by show NQ (["place","thing"]:List NV);decide +kernel) (by exact Z) (by first|exact NG Z|exact NC Z)))) (λ_ _ _ _ _=>bQ) (λ_ _ _ _ _=>(by exact(by exact(f6 lS (by exact(bB (bj (K:=K) (by exact Z)) (by exact(qv 1)) (by exact(aP gS (by exact(qv 0)) ah)) (by exact λ_ _=>Z))) (by exact(bB (bj (K:=K) (by exact Z)) (by exact(qv 1)) (by exact(qv 0)) (by exact λ_ _=>Z))) (aT _))))) (by exact⟨Z,Z,Z,Z,trivial⟩) Z (by decide +kernel) Z (by decide +kernel) (by exact aS Z ⟨Z,trivial⟩)) af cW))))) ?_
 nofun
 rcases CJ hD with⟨e,p,xs,ds,rfl,rfl,hS,hA⟩ | ⟨e,no⟩
 rotate_left
 ·refine⟨_,Z,_,_,_,_,Z,hD,e,_,Z,hJ (hJ ?_)⟩;have:=k _ (aD.refl _);rw[show Hu d=false by cases d with|tuple ds=>exact absurd rfl (no _)|_=>rfl] at this;exact this
 refine⟨_,Z,_,_,_,_,Z,hD,e,_,Z,d0 ?_⟩;have len:=hA.len;have hl':ds.length≤24:=hl;refine⟨_,Z,p,Z,⟨_,hS⟩,λD hDn=>bY (iA hS) (λ_=>true) (λi=>V.bl (kI (ds.getD i .none))) hDn (by omega) (λi x H' hi s' hx R E kR kE=>?_) λH1 s1 h1=>?_⟩
 ·obtain⟨v,hv,dv⟩:=aZ.atN hA (M8 (show i<ds.length by omega));rw[hx] at hv
  cases hv
  rw[ap Wx (M8 (show i<ds.length by omega))] at kR;exact⟨fu.set Z,_,Z,_,Z,x,_,Z,dv.same s',kR Z _ (aD.refl _)⟩
 have e1:(((M7 xs.length).filter λ_=>true).map λi=>V.bl (kI (ds.getD i .none)))=((M7 xs.length).map λi=>kI (ds.getD i .none)).map V.bl:=by rw[Ov.mpr (λ_ _=>Z),OE];rfl
 rw[e1] at h1;have al:((M7 xs.length).map λi=>kI (ds.getD i .none)).all id=ds.all kI:=by rw[len,Bd]
 refine⟨D,_,Z,aV.of h1,⟨_,Z,?_⟩⟩;rw[al]
 cases hn:ds.all kI with
 |false=>
  refine hJ ?_;have:=k _ s1;rw[show Hu (.tuple ds)=false by show(ds.all kI&&_)=false;rw[hn];rfl] at this;exact this
 |true=>
 refine d0 ?_;obtain⟨ls,rfl,lt⟩:=uX hn
 cases nR hA
 have nl:(aL ls).length=ls.length:=Na _;have l24:ls.length≤24:=by rw[Na] at hl';exact hl'
 have en:(((aL ls).length:Int)-1).toNat=ls.length-1:=by omega
 have hS1:=aK.same (K:=K) s1 _ _ hS;refine⟨_,Z,p,_,Z,.inr hS1,_,_,Z,?_,λD2 hD2=>?_⟩
 ·refine⟨by omega,by omega,by omega,by omega⟩
 rw[en];refine bY (kM (lo:=1)) (λ_=>true) (λi=>V.bl (decide (ls.getD i 0<ls.getD (i+1) 0))) hD2 (by omega) (λi x H' hi s' hx R E kR kE=>?_) λH4 s4 h4=>?_
 ·subst hx;have h2:=aK.same (K:=K) s' _ _ hS1;have a1:ls[i]?=some (ls[i]'(by omega)):=M8 _;have a2:ls[i+1]?=some (ls[i+1]'(by omega)):=M8 _;have b1:(aL ls)[i]?=some (V.int (ls[i]'(by omega):Nat)):=by unfold aL;rw[Nh,a1];rfl
  have b2:(aL ls)[i+1]?=some (V.int (ls[i+1]'(by omega):Nat)):=by unfold aL;rw[Nh,a2];rfl
  rw[ap 0 a1,ap 0 a2] at kR;have c1:mN (aL ls) (1+(i:Int)-1)=some (V.int (ls[i]'(by omega):Nat)):=by rw[show 1+(i:Int)-1=((i:Nat):Int) by omega];exact aY b1
  have c2:mN (aL ls) (1+(i:Int))=some (V.int (ls[i+1]'(by omega):Nat)):=by rw[show 1+(i:Int)=((i+1:Nat):Int) by omega];exact aY b2
  refine⟨fu.set Z,_,Z,_,Z,_,_,Z,Z,p,_,_,_,Z,Z,h2,c1,_,Z,_,Z,p,_,_,_,Z,Z,h2,c2,_,_,Z,Z,?_⟩;have:=kR Z H' (aD.refl _);dsimp only;rw[show decide (((ls[i]'(by omega):Nat):Int)<((ls[i+1]'(by omega):Nat):Int))=decide ((ls[i]'(by omega):Nat)<ls[i+1]'(by omega)) from decide_eq_decide.mpr (by omega)];exact this
 rw[Ov.mpr (λ_ _=>Z)] at h4;refine⟨D2,(M7 (ls.length-1)).map λi=>decide (ls.getD i 0<ls.getD (i+1) 0),Z,aV.of (by rw[OE];exact h4),?_⟩;have:=k _ (s1.trans s4);rw[show Hu (.tuple (ls.map λn:Nat=>Py n))=v2 ls by show(_&&v2 _)=_;rw[hn,uY];rfl] at this;rw[Rp];exact this
theorem nJ(T:fc K mg t):bX P w K mg base ee 1 t.a_Q0 t.d_Q0 ["one","other"] (iM K):=by
 refine T.F_Q0.ok nG (λvs H Q E h=>?_) (λcdv A outer s H vs Q E hr h=>?_)
 ·obtain⟨_,_,rfl,_⟩:=h;rfl
 obtain⟨a,b,rfl,k⟩:=h;refine dS.ok (ae (cw 2 nG.nd (aG mI (by rfl) T.z_abs boot_abs (ac (qv 0) af ad))) (ae (cw 3 nG.nd (aG mI (by rfl) T.z_abs boot_abs (ac (qv 1) af ad))) (ae (ij NI (aQ nI (qv 3) ah (aT _)) (ae (cw 4 nG.nd (aP gh (qv 2) (qv 3))) (ae (cw 2 nG.nd (qv 3)) (aj (cw 3 nG.nd (qv 4)))))) (aj (aO (qv 2)))))) ?_
 nofun
 refine⟨_,Z,_,Z,_,Z,_,Z,?_⟩;rw[ui,ui];refine⟨λm σ H'=>∃(x y:Int) (v:Option V),σ=[some (.int a),some (.int b),some (.int x),some (.int y),v]/\H'=H/\0≤x/\0≤y/\Nx x y=Nx a b/\m=y.toNat,⟨_,_,_,_,Z,Z,by omega,by omega,(by simp[Nx]),Z⟩,?_⟩;rintro m σ H' ⟨x,y,v,rfl,rfl,hx,hy,hg,rfl⟩;refine⟨_,Z,Z,_,Z,?_⟩;by_cases c:y=0
 ·subst c;refine io Z ?_;rw[←hg] at k;refine⟨_,Z,?_⟩;have e:(x:Int)=(Nx x 0:Nat):=by simp[Nx];omega
  rw[←e] at k;exact k
 ·refine AJ (λz=>c (by injection z)) ?_;refine⟨_,λ_ _ z=>z,?_⟩;refine⟨_,Z,_,Z,_,_,Z,Z,(by omega),_,Z,_,Z,?_⟩;refine⟨_,?_,y,x%y,_,Z,Z,hy,O2 _ c,?_,Z⟩
  ·have:=OZ x (show 0<y by omega);have:=O2 x c;omega
  ·rw[rH hx (by omega),hg]
theorem Ar(T:fc K mg t):bX P w K mg base ee 2 t.a_Q45 t.d_Q45 ["top","bottom"] (qA K):=by
 refine T.F_Q45.ok sT (λvs H Q E h=>?_) (λcdv A outer s H vs Q E hr h=>?_)
 ·obtain⟨_,_,rfl,_⟩:=h;rfl
 obtain⟨a,b,rfl,hb,hz,k⟩:=h;refine dS.ok (ae (ca (aQ gA (qv 1) ah (aT _)) (aj gz) be) (ae (cw 2 sT.nd (cI (nJ T) hr T.m_Q0 T.F_Q0.kp T.b_Q0 (ac (qv 0) (ac (qv 1) af ad) ad))) (ae (ca (aQ lS (qv 1) ah (aT _)) (aj (cw 2 sT.nd (jr gO (qv 2)))) be) (aj (aO (bz (ac (aP eJ (qv 0) (qv 2)) (ac (aP eJ (qv 1) (qv 2)) af bu) bu))))))) ?_
 nofun
 have gp:=ck (a:=a) hb;have gb:((Nx a b:Nat):Int).natAbs<2^4000:=by
  have z:Nx a b≤b.natAbs:=U9 (by omega) (by have:=PZ a b;exact R4.mpr this);have e:((Nx a b:Nat):Int).natAbs=Nx a b:=RG _;omega
 refine⟨_,Z,Z,_,Z,?_⟩;refine cr (λz=>by injection z with z;omega) ?_;refine⟨_,rfl,_,rfl,a,b,rfl,?_⟩;refine⟨_,rfl,_,_,rfl,rfl,_,rfl,?_⟩;refine cr (by omega) ?_;refine⟨_,rfl,_,rfl,_,_,rfl,rfl,⟨gp,gb⟩,_,rfl,_,rfl,_,_,rfl,rfl,⟨gp,gb⟩,g9,λp hp=>?_⟩;exact k p hp
theorem Ap(T:fc K mg t):bX P w K mg base ee 2 t.a_Q50 t.d_Q50 ["one","other"] (uG K):=by
 refine T.F_Q50.ok oR (λvs H Q E h=>?_) (λcdv A outer s H vs Q E hr h=>?_)
 ·obtain⟨_,_,_,_,_,_,rfl,_⟩:=h;rfl
 obtain⟨v,w,r,q,n,m,rfl,hv,hw,wr,wq,hz,k⟩:=h;refine dS.ok (ae (cw 2 oR.nd (cI (nJ T) hr T.m_Q0 T.F_Q0.kp T.b_Q0 (ac (bZ au (qv 0) ah) (ac (bZ au (qv 1) ah) af aI) aI))) (ae (cw 3 oR.nd (aP cM (aP dk (bZ au (qv 0) ah) (aP eJ (bZ au (qv 1) ah) (qv 2))) (aP dk (bZ au (qv 1) ah) (aP eJ (bZ au (qv 0) ah) (qv 2))))) (ae (cw 4 oR.nd (cI (nJ T) hr T.m_Q0 T.F_Q0.kp T.b_Q0 (ac (qv 3) (ac (qv 2) af ad) ad))) (aj (aO (bz (ac (aP eJ (qv 3) (qv 4)) (ac (aP dk (aP eJ (bZ au (qv 0) ah) (qv 2)) (aP eJ (bZ au (qv 1) ah) (qv 4))) af bu) bu))))))) ?_
 nofun
 obtain⟨p,rfl,hv⟩:=hv;obtain⟨p',rfl,hw⟩:=hw;have c1:=bU wr.top (show n≤4000 by omega);have c2:=bU wr.bot (show n≤4000 by omega);have c3:=bU wq.top (show m≤4000 by omega);have c4:=bU wq.bot (show m≤4000 by omega);have gp:(0:Int)<(Nx r.2 q.2:Nat):=ck wq.pos;have gb:=mj (a:=r.2) wq.pos c4;refine⟨_,Z,p,_,_,_,Z,Z,hv,Z,_,Z,p',_,_,_,Z,Z,hw,Z,r.2,q.2,Z,?_⟩;have z:=z6 ⟨wr.pos,wr.cop⟩ ⟨wq.pos,wq.cop⟩;have kk:Ay H Q (qY r q):=by rw[z];exact k
 unfold qY at kk;simp only at kk;generalize ((Nx r.2 q.2:Nat):Int)=d at gp gb kk ⊢;refine⟨_,Z,p,_,_,_,Z,Z,hv,Z,_,Z,p',_,_,_,Z,Z,hw,Z,_,Z,_,_,Z,Z,⟨gp,gb⟩,_,_,Z,Z,⟨c1,iu gp c4⟩,_,Z,p',_,_,_,Z,Z,hw,Z,_,Z,p,_,_,_,Z,Z,hv,Z,_,Z,_,_,Z,Z,⟨gp,gb⟩,_,_,Z,Z,⟨c3,iu gp c2⟩,_,_,Z,Z,?_⟩;refine⟨_,Z,_,Z,_,_,Z,?_⟩;have ep:(0:Int)<(Nx (r.1*(q.2/d)+q.1*(r.2/d)) d:Nat):=ck gp;have eb:=mj (a:=r.1*(q.2/d)+q.1*(r.2/d)) gp gb;generalize ((Nx (r.1*(q.2/d)+q.1*(r.2/d)) d:Nat):Int)=e at ep eb kk ⊢;refine⟨_,Z,_,Z,_,_,Z,Z,⟨ep,eb⟩,_,Z,p,_,_,_,Z,Z,hv,Z,_,Z,_,_,Z,Z,⟨gp,gb⟩,_,Z,p',_,_,_,Z,Z,hw,Z,_,Z,_,_,Z,Z,⟨ep,eb⟩,_,_,Z,Z,⟨iu gp c2,iu ep c4⟩,g9,kk⟩
theorem tK(T:fc K mg t):bX P w K mg base ee 3 t.a_Q46 t.d_Q46 ["one","other"] (yg K):=by
 refine T.F_Q46.ok Ek (λvs H Q E h=>?_) (λcdv A outer s H vs Q E hr h=>?_)
 ·obtain⟨_,_,_,_,_,_,rfl,_⟩:=h;rfl
 obtain⟨v,w,r,q,n,m,rfl,hv,hw,wr,wq,hz,k⟩:=h;refine dS.ok (aj (aO (cI (Ap T) hr T.m_Q50 T.F_Q50.kp T.b_Q50 (ac (qv 0) (ac (bz (ac (jr gO (bZ au (qv 1) ah)) (ac (bZ au (qv 1) ah) af aI) oE)) af bO) ad)))) ?_;nofun
 obtain⟨p',rfl,hw⟩:=hw;refine⟨_,Z,_,Z,p',_,_,_,Z,Z,hw,Z,_,Z,_,Z,p',_,_,_,Z,Z,hw,Z,g9,λpt ht=>?_⟩;have s1:=ai ht (.tup [.int (-q.1),.int q.2]);refine⟨v,.ref pt,r,(-q.1,q.2),n,m,Z,hv.mono (aK.same s1),RV.of ag,wr,⟨wq.pos,by show(-q.1).natAbs<_;rw[WS];exact wq.top,wq.bot,rR wq.cop⟩,hz,λp hp=>?_⟩;refine k _ _ (s1.trans (ai hp _)) ?_;rw[←lY];exact RV.of ag
theorem tJ(T:fc K mg t):bX P w K mg base ee 2 t.a_Q47 t.d_Q47 ["one","other"] (qy K):=by
 refine T.F_Q47.ok sS (λvs H Q E h=>?_) (λcdv A outer s H vs Q E hr h=>?_)
 ·obtain⟨_,_,_,_,_,_,rfl,_⟩:=h;rfl
 obtain⟨v,w,r,q,n,m,rfl,hv,hw,wr,wq,hz,k⟩:=h;refine dS.ok (ae (cw 2 sS.nd (cI (nJ T) hr T.m_Q0 T.F_Q0.kp T.b_Q0 (ac (bZ au (qv 0) ah) (ac (bZ au (qv 1) ah) af aI) aI))) (ae (cw 3 sS.nd (cI (nJ T) hr T.m_Q0 T.F_Q0.kp T.b_Q0 (ac (bZ au (qv 1) ah) (ac (bZ au (qv 0) ah) af aI) aI))) (aj (aO (bz (ac (aP dk (aP eJ (bZ au (qv 0) ah) (qv 2)) (aP eJ (bZ au (qv 1) ah) (qv 3))) (ac (aP dk (aP eJ (bZ au (qv 0) ah) (qv 3)) (aP eJ (bZ au (qv 1) ah) (qv 2))) af bu) bu)))))) ?_
 nofun
 obtain⟨p,rfl,hv⟩:=hv;obtain⟨p',rfl,hw⟩:=hw;have c1:=bU wr.top (show n≤4000 by omega);have c2:=bU wr.bot (show n≤4000 by omega);have c3:=bU wq.top (show m≤4000 by omega);have c4:=bU wq.bot (show m≤4000 by omega);have lp:(0:Int)<(Nx r.1 q.2:Nat):=ck wq.pos;have lb:=mj (a:=r.1) wq.pos c4;have mp:(0:Int)<(Nx q.1 r.2:Nat):=ck wr.pos;have mb:=mj (a:=q.1) wr.pos c2;have z:=vP ⟨wr.pos,wr.cop⟩ ⟨wq.pos,wq.cop⟩;have kk:Ay H Q (lB r q):=by rw[z];exact k
 unfold lB at kk;simp only at kk;refine⟨_,Z,p,_,_,_,Z,Z,hv,Z,_,Z,p',_,_,_,Z,Z,hw,Z,r.1,q.2,Z,_,Z,p',_,_,_,Z,Z,hw,Z,_,Z,p,_,_,_,Z,Z,hv,Z,q.1,r.2,Z,?_⟩;generalize ((Nx r.1 q.2:Nat):Int)=l at lp lb kk ⊢;generalize ((Nx q.1 r.2:Nat):Int)=m' at mp mb kk ⊢;refine⟨_,Z,p,_,_,_,Z,Z,hv,Z,_,Z,_,_,Z,Z,⟨lp,lb⟩,_,Z,p',_,_,_,Z,Z,hw,Z,_,Z,_,_,Z,Z,⟨mp,mb⟩,_,_,Z,Z,⟨iu lp c1,iu mp c3⟩,_,Z,p,_,_,_,Z,Z,hv,Z,_,Z,_,_,Z,Z,⟨mp,mb⟩,_,Z,p',_,_,_,Z,Z,hw,Z,_,Z,_,_,Z,Z,⟨lp,lb⟩,_,_,Z,Z,⟨iu mp c2,iu lp c4⟩,g9,kk⟩
theorem Fq(T:fc K mg t):bX P w K mg base ee 3 t.a_Q51 t.d_Q51 ["one","other"] (BD K):=by
 refine T.F_Q51.ok Ej (λvs H Q E h=>?_) (λcdv A outer s H vs Q E hr h=>?_)
 ·obtain⟨_,_,_,_,_,rfl,_⟩:=h;rfl
 obtain⟨v,w,r,n,m,rfl,hv,⟨pw,rfl,hw⟩,wr,m0,m24,hn,k⟩:=h;refine dS.ok (ae (ca (aQ gA (bZ au (qv 1) ah) ah (aT _)) (aj gz) be) (aj (aO (cI (tJ T) hr T.m_Q47 T.F_Q47.kp T.b_Q47 (ac (qv 0) (ac (cI (Ar T) hr T.m_Q45 T.F_Q45.kp T.b_Q45 (ac (bZ au (qv 1) ah) (ac (bZ au (qv 1) ah) af aI) aI)) af aF) ad))))) ?_
 nofun
 refine⟨_,Z,pw,_,_,_,Z,Z,hw,Z,Z,_,Z,cr (λz=>by injection z with z;omega) ?_⟩;refine⟨_,rfl,_,rfl,pw,_,_,_,rfl,rfl,hw,rfl,_,rfl,pw,_,_,_,rfl,rfl,hw,rfl,1,m,rfl,by omega,bU (n:=5) (by show((m:Int)).natAbs<32;omega) (by decide),λpr hpr=>?_⟩;have s1:=ai hpr (.tup [.int (dZ 1 m).1,.int (dZ 1 m).2]);have rr:RV K _ (.ref pr) (dZ 1 m):=RV.of (ag (H:=H) (a:=pr) (o:=.tup [.int (dZ 1 m).1,.int (dZ 1 m).2]));rw[FX m0] at rr s1 ⊢;refine⟨v,.ref pr,r,(1,(m:Int)),n,5,Z,hv.mono (aK.same s1),rr,wr,An m0 m24,by omega,λpt hpt=>?_⟩;exact k _ _ (s1.trans (ai hpt _)) (RV.of ag)
theorem ph(T:fc K mg t):bX P w K mg base ee 1 t.a_Q36 t.d_Q36 ["one","other"] (lH K):=by
 refine T.F_Q36.ok Eo (λvs H Q E h=>?_) (λcdv A outer s H vs Q E hr h=>?_)
 ·obtain⟨_,_,_,_,_,_,rfl,_⟩:=h;rfl
 obtain⟨v,w,r,q,n,m,rfl,hv,hw,wr,wq,hz,k⟩:=h;refine dS.ok (aj (aO (f6 lS (aP dk (bZ au (qv 0) ah) (bZ au (qv 1) ah)) (aP dk (bZ au (qv 1) ah) (bZ au (qv 0) ah)) (aT _)))) ?_;nofun
 obtain⟨p,rfl,hv⟩:=hv;obtain⟨p',rfl,hw⟩:=hw;have c1:=bU wr.top (show n≤4000 by omega);have c2:=bU wr.bot (show n≤4000 by omega);have c3:=bU wq.top (show m≤4000 by omega);have c4:=bU wq.bot (show m≤4000 by omega);refine⟨_,Z,p,_,_,_,Z,Z,hv,Z,_,Z,p',_,_,_,Z,Z,hw,Z,_,_,Z,Z,⟨c1,c4⟩,_,Z,p',_,_,_,Z,Z,hw,Z,_,Z,p,_,_,_,Z,Z,hv,Z,_,_,Z,Z,⟨c3,c2⟩,_,_,Z,Z,k⟩
theorem Fs(T:fc K mg t):bX P w K mg base ee 2 t.a_Q41 t.d_Q41 ["one","other"] (vT K):=by
 refine T.F_Q41.ok El (λvs H Q E h=>?_) (λcdv A outer s H vs Q E hr h=>?_)
 ·obtain⟨_,_,_,_,rfl,_⟩:=h;rfl
 obtain⟨v,w,r,q,rfl,hv,hw,ar,aq,k⟩:=h;refine dS.ok (ae (ca (df (cI (ph T) hr T.m_Q36 T.F_Q36.kp T.b_Q36 (ac (qv 1) (ac (qv 0) af ad) ad))) (aj (aO (qv 1))) be) (aj (aO (qv 0)))) ?_
 nofun
 refine⟨_,Z,_,Z,w,v,q,r,50,50,Z,hw,hv,aq.wf,ar.wf,by decide,_,Z,?_⟩
 cases c:bK q r with
 |true=>exact hJ ⟨_,Z,k _ (by unfold fE;rw[if_pos c];exact hw)⟩
 |false=>exact d0 ⟨_,Z,k _ (by unfold fE;rw[if_neg (by rw[c];exact Ny)];exact hv)⟩
theorem Aq(T:fc K mg t):bX P w K mg base ee 3 t.a_Q48 t.d_Q48 ["some"] (ye K):=by
 refine T.F_Q48.ok iY (λvs H Q E h=>?_) (λcdv A outer s H vs Q E hr h=>?_)
 ·obtain⟨_,_,_,_,rfl,_⟩:=h;rfl
 obtain⟨a,xs,rs,n,rfl,hS,hR,hW,hlen,hbd,k⟩:=h;refine dS.ok (ae (cw 1 iY.nd zQ) (ae (cj NI Z (EV (qv 0)) (ao (i:=2) iY.nd Z (by first|exact NG Z|exact NC Z)) (aj (B0 (DF hr) (qv 1) (bZ au (qv 2) ah) (aP cM (zR (DF hr) (qv 1) (bZ au (qv 2) ah) ah ⟨Z,Z,Z,Z⟩) (bZ au (qv 2) ah)) Z))) (ae (cw 3 iY.nd (dN (v:=.ref t.c_NOUGHT) Z T.m_NOUGHT Z)) (ae (cj NI Z (zN (qv 1)) (ik Z (bi (ao (i:=4) iY.nd Z (by first|exact NG Z|exact NC Z)) (bi (ao (i:=5) iY.nd Z (by first|exact NG Z|exact NC Z)) dE))) (aj (cw 3 iY.nd (cI (Ap T) hr T.m_Q50 T.F_Q50.kp T.b_Q50 (ac (qv 3) (ac (cI (Ar T) hr T.m_Q45 T.F_Q45.kp T.b_Q45 (ac (qv 5) (ac (qv 4) af ad) ad)) af aF) ad))))) (aj (aO (qv 3))))))) ?_
 nofun
 refine λD hDn=>⟨_,Z,?_⟩
 have sD:=ai hDn (.dK []);rcases hS with hS|hS
 ·refine .inl ⟨a,Z,⟨_,sD.seq hS⟩,gE (K:=K) (a:=a) (xs:=xs) (λi σ H'=>∃(x:Option V) (ps:List (Int×Int)),σ=[some (.ref a),some (.ref D),x,none,none,none]/\aD H H'/\H' D=some (.dK (m4 ps))/\mP n i ps/\iU ps=iS (rs.take i)) ⟨none,[],Z,sD,ag,mP.nil n,Z⟩ (λi σ H1 _ ⟨_,_,_,s1,_⟩=>s1.seq hS) ?_ ?_⟩
  ·rintro i y σ H1 hi ⟨x,ps,rfl,s1,hD1,ok,ev⟩;obtain⟨ry,hry,hyv⟩:=hR.at hi;have my:ry∈rs:=Nd hry;have hil:=(Ni.mp hry).1;obtain⟨py,rfl,hSy⟩:=hyv.mono (aK.same s1);have el:(m4 ps).length=ps.length:=Na _;have hlp:(m4 ps).length<sizeLine:=by rw[el];exact bh (by have:=ok.len;omega)
   refine⟨_,Z,D,Z,.inl ⟨_,.inl hD1⟩,_,Z,py,_,_,_,Z,Z,hSy,Z,_,mQ.k (k:=Ps ry.2) hD1,_,Z,py,_,_,_,Z,Z,hSy,Z,su ps ry.2,ry.1,pJ ps ry.2,Z,_,Z,_,Z,py,_,_,_,Z,Z,hSy,Z,D,_,Z,ut.k (k:=Ps ry.2) hD1 hlp,?_⟩;refine⟨_,gH ps ry.2 ry.1,Z,λb o q=>?_,?_,ok.add (hW ry my),?_⟩
   ·rw[aJ (aU q hDn)];exact s1 b o q
   ·rw[o5 ps _ _ ok.nd];exact ag
   ·rw[lC,ev,Oi,hry];exact(jJ _ _).symm
  ·rintro σ H1 ⟨x,ps,rfl,s1,hD1,ok,ev⟩;rw[hR.1,Op] at ev;rw[hR.1] at ok;refine⟨_,Z,D,m4 ps,Z,hD1,λob=>nP (d:=D) (ob:=ob) (kvs:=m4 ps) (λj σ H'=>∃(u:V) (acc:R) (y4 y5:Option V),σ=[some (.ref a),some (.ref D),x,some u,y4,y5]/\aD H H'/\H' D=some (.frz ob (.dK (m4 ps)))/\RV K H' u acc/\Wf (1+(n+9)*j) acc/\val acc=iU (ps.take j)) ⟨_,(0,1),none,none,Z,?_,ag,⟨_,Z,T.q_NOUGHT _⟩,gL,gM⟩ (λi σ H1 ⟨_,_,_,_,_,_,z,_⟩=>z) ?_ ?_⟩
   ·intro b o q;rw[aJ (aU q hDn)];exact s1 b o q
   ·rintro j kk v p σ H2 hkv ⟨u,acc,y4,y5,rfl,s2,hD2,r2,w2,ev2⟩ hp;have hkv':(ps.map λp=>((Ps p.1:dz),V.int p.2))[j]?=some (kk,v):=hkv;rw[Nh] at hkv';obtain⟨q,hq,e⟩:=N6.mp hkv'
    cases e
    have mq:=Nd hq;have hjl:=(Ni.mp hq).1;have wq:=ok.wf hlen mq;have bq:=ok.bot q mq;have e1:=ai hp (.tup [kV (Ps q.1),V.int q.2]);refine⟨p,_,Z,bC.of ag,Z,_,_,Z,_,_,Z,Z,?_⟩;have lj:(n+9)*(j+1)≤(n+9)*rs.length:=P5 _ (by have:=ok.len;omega);rw[Ro] at lj hbd;refine⟨_,Z,_,Z,_,Z,q.2,q.1,Z,bq.1,bU bq.2 (by omega),λp1 g1=>?_⟩;have e2:=ai g1 (.tup [.int (dZ q.2 q.1).1,.int (dZ q.2 q.1).2]);refine⟨u,.ref p1,acc,dZ q.2 q.1,1+(n+9)*j,n+8,Z,(r2.mono (aK.same e1)).mono (aK.same e2),RV.of ag,w2,wq,by omega,λp2 g2=>?_⟩;have e3:=ai g2 (.tup [.int (bF acc (dZ q.2 q.1)).1,.int (bF acc (dZ q.2 q.1)).2]);have s3:=((e1.trans e2).trans e3);refine⟨_,bF acc (dZ q.2 q.1),_,_,Z,s2.trans s3,s3 _ _ hD2,RV.of ag,(js w2 wq).mono (by rw[Ro];omega),?_⟩;rw[ia w2.pos wq.pos,jK bq.1,ev2,Oi,hq];exact(jM _ _).symm
   ·rintro σ H2 ⟨u,acc,y4,y5,rfl,s2,hD2,r2,w2,ev2⟩;have el:(m4 ps).length=ps.length:=Na _;rw[el,Op] at ev2;have es:=xV (λr hr=>(hW r hr).red) w2.red (ev2.trans ev);rw[es] at r2;exact⟨_,Z,k u H2 s2 r2⟩
 ·refine .inr ⟨a,Z,⟨_,aK.same sD _ _ hS⟩,iI (K:=K) (a:=a) (xs:=xs) (λi σ H'=>∃(x:Option V) (ps:List (Int×Int)),σ=[some (.ref a),some (.ref D),x,none,none,none]/\aD H H'/\H' D=some (.dK (m4 ps))/\mP n i ps/\iU ps=iS (rs.take i)) ⟨none,[],Z,sD,ag,mP.nil n,Z⟩ (λi σ H1 _ ⟨_,_,_,s1,_⟩=>aK.same s1 _ _ hS) ?_ ?_⟩
  ·rintro i y σ H1 hi ⟨x,ps,rfl,s1,hD1,ok,ev⟩;obtain⟨ry,hry,hyv⟩:=hR.at hi;have my:ry∈rs:=Nd hry;have hil:=(Ni.mp hry).1;obtain⟨py,rfl,hSy⟩:=hyv.mono (aK.same s1);have el:(m4 ps).length=ps.length:=Na _;have hlp:(m4 ps).length<sizeLine:=by rw[el];exact bh (by have:=ok.len;omega)
   refine⟨_,Z,D,Z,.inl ⟨_,.inl hD1⟩,_,Z,py,_,_,_,Z,Z,hSy,Z,_,mQ.k (k:=Ps ry.2) hD1,_,Z,py,_,_,_,Z,Z,hSy,Z,su ps ry.2,ry.1,pJ ps ry.2,Z,_,Z,_,Z,py,_,_,_,Z,Z,hSy,Z,D,_,Z,ut.k (k:=Ps ry.2) hD1 hlp,?_⟩;refine⟨_,gH ps ry.2 ry.1,Z,λb o q=>?_,?_,ok.add (hW ry my),?_⟩
   ·rw[aJ (aU q hDn)];exact s1 b o q
   ·rw[o5 ps _ _ ok.nd];exact ag
   ·rw[lC,ev,Oi,hry];exact(jJ _ _).symm
  ·rintro σ H1 ⟨x,ps,rfl,s1,hD1,ok,ev⟩;rw[hR.1,Op] at ev;rw[hR.1] at ok;refine⟨_,Z,D,m4 ps,Z,hD1,λob=>nP (d:=D) (ob:=ob) (kvs:=m4 ps) (λj σ H'=>∃(u:V) (acc:R) (y4 y5:Option V),σ=[some (.ref a),some (.ref D),x,some u,y4,y5]/\aD H H'/\H' D=some (.frz ob (.dK (m4 ps)))/\RV K H' u acc/\Wf (1+(n+9)*j) acc/\val acc=iU (ps.take j)) ⟨_,(0,1),none,none,Z,?_,ag,⟨_,Z,T.q_NOUGHT _⟩,gL,gM⟩ (λi σ H1 ⟨_,_,_,_,_,_,z,_⟩=>z) ?_ ?_⟩
   ·intro b o q;rw[aJ (aU q hDn)];exact s1 b o q
   ·rintro j kk v p σ H2 hkv ⟨u,acc,y4,y5,rfl,s2,hD2,r2,w2,ev2⟩ hp;have hkv':(ps.map λp=>((Ps p.1:dz),V.int p.2))[j]?=some (kk,v):=hkv;rw[Nh] at hkv';obtain⟨q,hq,e⟩:=N6.mp hkv'
    cases e
    have mq:=Nd hq;have hjl:=(Ni.mp hq).1;have wq:=ok.wf hlen mq;have bq:=ok.bot q mq;have e1:=ai hp (.tup [kV (Ps q.1),V.int q.2]);refine⟨p,_,Z,bC.of ag,Z,_,_,Z,_,_,Z,Z,?_⟩;have lj:(n+9)*(j+1)≤(n+9)*rs.length:=P5 _ (by have:=ok.len;omega);rw[Ro] at lj hbd;refine⟨_,Z,_,Z,_,Z,q.2,q.1,Z,bq.1,bU bq.2 (by omega),λp1 g1=>?_⟩;have e2:=ai g1 (.tup [.int (dZ q.2 q.1).1,.int (dZ q.2 q.1).2]);refine⟨u,.ref p1,acc,dZ q.2 q.1,1+(n+9)*j,n+8,Z,(r2.mono (aK.same e1)).mono (aK.same e2),RV.of ag,w2,wq,by omega,λp2 g2=>?_⟩;have e3:=ai g2 (.tup [.int (bF acc (dZ q.2 q.1)).1,.int (bF acc (dZ q.2 q.1)).2]);have s3:=((e1.trans e2).trans e3);refine⟨_,bF acc (dZ q.2 q.1),_,_,Z,s2.trans s3,s3 _ _ hD2,RV.of ag,(js w2 wq).mono (by rw[Ro];omega),?_⟩;rw[ia w2.pos wq.pos,jK bq.1,ev2,Oi,hq];exact(jM _ _).symm
   ·rintro σ H2 ⟨u,acc,y4,y5,rfl,s2,hD2,r2,w2,ev2⟩;have el:(m4 ps).length=ps.length:=Na _;rw[el,Op] at ev2;have es:=xV (λr hr=>(hW r hr).red) w2.red (ev2.trans ev);rw[es] at r2;exact⟨_,Z,k u H2 s2 r2⟩
theorem FN(T:fc K mg t):bX P w K mg base ee 2 t.a_Q11 t.d_Q11 ["some"] (lE K):=by
 refine T.F_Q11.ok oS (λvs H Q E h=>?_) (λcdv A outer s H vs Q E hr h=>?_)
 ·obtain⟨_,_,_,rfl,_⟩:=h;rfl
 obtain⟨a,xs,ws,rfl,hS,al,hn,ok,k⟩:=h;refine dS.ok (ae (cw 1 oS.nd ah) (ae (cj NI Z (cX (qv 0)) (ao (i:=2) oS.nd Z (by first|exact NG Z|exact NC Z)) (aj (cw 1 oS.nd (aP fk (qv 1) (aP jv (bZ au (qv 2) ah) (cI (nJ T) hr T.m_Q0 T.F_Q0.kp T.b_Q0 (ac (qv 1) (ac (bZ au (qv 2) ah) af aI) ad))))))) (aj (aO (bD (N':=["one","bottom"]) (src:=[none,some 1]) Z (by exact(cX (qv 0))) (λ_ _ _ _ _=>(by exact(by exact ao (i:=0) (by show NQ (["one","bottom"]:List NV);decide +kernel) (by exact Z) (by first|exact NG Z|exact NC Z)))) (λ_ _ _ _ _=>bQ) (λ_ _ _ _ _=>(by exact(by exact(aP fk (by exact(bB (bj (K:=K) (by exact Z)) (by exact(qv 0)) ah (by exact λ_ _=>Z))) (by exact(aP jv (by exact(qv 1)) (by exact(bB (bj (K:=K) (by exact Z)) (by exact(qv 0)) ah (by exact λ_ _=>Z))))))))) (by exact⟨Z,Z,Z,Z,trivial⟩) Z (by decide +kernel) Z (by decide +kernel) (by exact aS Z ⟨Z,trivial⟩)))))) ?_
 nofun
 have hlen:=al.len;rw[Na] at hlen;let Iv1:Nat->L2.St->Hp->Prop:=λi σ H'=>∃(B:Int) (x3:Option V),σ=[some (.ref a),some (.int B),x3]/\H'=H/\0<B/\B∣84/\∀w∈ws.take i,w.2.2.2∣B
 refine⟨_,Z,a,Z,⟨_,hS⟩,gE (K:=K) (a:=a) (xs:=xs) Iv1 ⟨1,none,Z,Z,by decide,⟨84,Z⟩,by simp⟩ (λi σ H1 _ ⟨_,_,_,e,_⟩=>by rw[e];exact hS) ?_ ?_⟩
 ·rintro i x σ H1 hx ⟨B,x3,rfl,rfl,b0,bd,all⟩;obtain⟨r,hr,px,rfl,hSx⟩:=al.at hx;rw[Nh] at hr;obtain⟨w,hw,er⟩:=N6.mp hr;subst er;have okw:=ok w (Nd hw);have c1:=okw.am.bot;have c2:=okw.am.bot';have B84:=Tz (by decide) bd;have g0:0<(Nx B w.2.2.2:Int):=ck (by omega);have g1:(Nx B w.2.2.2:Int)≤w.2.2.2:=Tz (by omega) (PZ _ _);obtain⟨l0,l1,l2,l3⟩:=AE b0 (show 0<w.2.2.2 by omega) bd okw.am.dvd;refine⟨_,Z,_,Z,px,_,_,_,Z,Z,hSx,Z,_,Z,_,Z,px,_,_,_,Z,Z,hSx,Z,B,w.2.2.2,Z,_,_,Z,Z,⟨by omega,by omega⟩,_,_,Z,Z,.inl ⟨by omega,by omega⟩,?_⟩;refine⟨_,_,Z,Z,l0,l1,λz hz=>?_⟩;rw[Oi,hw] at hz;rcases NF.mp hz with h|h
  ·exact Si (all z h) l2
  ·have:z=w:=by simpa using h
   subst this;exact l3
 ·rintro σ H1 ⟨B,x3,rfl,rfl,b0,bd,all⟩;rw[hlen,Op] at all;have B84:=Tz (by decide) bd;refine⟨_,Z,a,Z,⟨_,hS⟩,λD hD=>bY (eO hS) (λ_=>true) (λi=>V.int ((fj B ws).getD i 0)) hD (by omega) (λi x H' hi s' hx R E kR kE=>?_) λH4 s4 h4=>?_⟩
  ·obtain⟨r,hr,px,rfl,hSx⟩:=al.at hx;rw[Nh] at hr;obtain⟨w,hw,er⟩:=N6.mp hr;subst er;have okw:=ok w (Nd hw);have t':=aK.same (K:=K) s';have e:(fj B ws).getD i 0=w.2.2.1*(B/w.2.2.2):=ap 0 (by unfold fj;rw[Nh,hw];rfl);have q:=kR Z _ (aD.refl _);rw[e] at q;have:=okw.am.bot;have:=okw.am.bot';have:=okw.am.top;have:=okw.am.top';exact⟨fu.set Z,_,Z,px,_,_,_,Z,Z,t' _ _ hSx,Z,_,Z,_,Z,px,_,_,_,Z,Z,t' _ _ hSx,Z,_,_,Z,Z,⟨by omega,by omega⟩,_,_,Z,Z,.inl ⟨by omega,by omega⟩,q⟩
  ·refine k D B H4 s4 hD b0 bd all ?_;rw[h4,show xs.length=(fj B ws).length by unfold fj;rw[Na];exact hlen,di 0 V.int]
theorem Av(T:fc K mg t):bX P w K mg base ee 1 t.a_Q17 t.d_Q17 ["work","turn"] (oN K):=by
 refine T.F_Q17.ok Ex (λvs H Q E h=>?_) (λcdv A outer s H vs Q E hr h=>?_)
 ·obtain⟨_,_,_,rfl,_⟩:=h;rfl
 obtain⟨v,w,t₀,rfl,⟨p,x,rfl,hS,rx⟩,k⟩:=h;refine dS.ok (aj (aO (qW gZ gZ (bZ au (qv 0) ah) (qv 1) (bZ au (qv 0) ah)))) ?_;nofun
 refine⟨_,Z,p,_,_,_,Z,Z,hS,Z,_,Z,_,_,Z,Z,_,Z,?_⟩;by_cases c:w.1≤t₀
 ·refine cC (by omega) ?_;have e:fw w t₀=decide ((t₀:Int)≤(w.2.1:Int)):=by
   unfold fw;rw[decide_eq_true c,Bool.true_and];exact decide_eq_decide.mpr (by omega)
  rw[e] at k;exact⟨_,Z,p,_,_,_,Z,Z,hS,Z,_,_,Z,Z,k⟩
 ·refine cr (by omega) ?_;have e:fw w t₀=false:=by
   unfold fw;rw[decide_eq_false c,QD]
  rw[e] at k;exact k
theorem FL(T:fc K mg t):bX P w K mg base ee 1 t.a_Q12 t.d_Q12 ["count"] (lF K):=by
 refine T.F_Q12.ok Ez (λvs H Q E h=>?_) (λcdv A outer s H vs Q E hr h=>?_)
 ·obtain⟨_,rfl,_⟩:=h;rfl
 obtain⟨n,rfl,hn,k⟩:=h;refine dS.ok (aj (aO (bD (N':=["work","count"]) (src:=[none,some 0]) Z (by exact(b8 Z T.z_range (ac (qv 0) af ad))) (λ_ _ _ _ _=>(by exact(by exact ao (i:=0) (by show NQ (["work","count"]:List NV);decide +kernel) (by exact Z) (by first|exact NG Z|exact NC Z)))) (λ_ _ _ _ _=>bQ) (λ_ _ _ _ _=>(by exact(by exact(aP uR (by exact(cL (ac eU af aB))) (by exact(qv 1)))))) (by exact⟨Z,Z,Z,Z,trivial⟩) Z (by decide +kernel) Z (by decide +kernel) (by exact aS Z ⟨Z,trivial⟩)))) ?_;nofun
 refine⟨_,Z,n,Z,by omega,by omega,λD hD=>iy (J:=xy 0 n) (n:=n) (λi ys H'=>∃rows:List Addr,ys=rows.map V.ref/\rows.length=i/\rows.Nodup/\D∉rows/\(∀r∈rows,H r=none)/\aD H H'/\H' D=some (.lst ys)/\∀r∈rows,H' r=some (.lst (vY n λ_=>false))) ⟨[],Z,Z,PV,(λz=>by cases z),(λr hr=>by cases hr),ai hD _,ag,λr hr=>by cases hr⟩ (λi ys H' hi _=>hi) (λys H' ⟨rows,e1,e2,e3,e4,e5,e6,e7,e8⟩=>⟨Nb _,k D rows H' e6 hD e5 ⟨by rw[e7,e1],e2,e3,e4,λi r e=>e8 r (Nd e)⟩⟩) ?_⟩;rintro i ys H1 x H2 hi ⟨rows,rfl,e2,e3,e4,e5,e6,e7,e8⟩ ⟨rfl,rfl⟩ R E kR kE;refine⟨fu.set Z,?_⟩;refine⟨G0,λq hq=>?_⟩;have s1:=ai hq (.lst [.bl false]);refine⟨_,Z,q,.bl false,n,Z,Z,ag,by omega,λr hr=>?_⟩;have s2:=ai hr (.lst (ND n (.bl false)));have s12:=s1.trans s2;have nr:r∉rows:=λm=>by rw[s1 _ _ (e8 r m)] at hr;cases hr
 have nD:r≠D:=λz=>by subst z;rw[s1 _ _ e7] at hr;cases hr
 have er:ND n (V.bl false)=vY n λ_=>false:=by
  unfold vY;apply PB;intro j;rw[Po,Nh];by_cases c:j<n
  ·rw[if_pos c,O5 c];rfl
  ·rw[if_neg c,NX (by rw[NP];omega)];rfl
 have hD4:=s12 _ _ e7;refine kR (.ref r) _ hD4 (bh (by rw[Na];omega)) ⟨rows++[r],by rw[N5];rfl,by rw[NL,e2];rfl,?_,?_,λz hz=>?_,λb o q=>?_,ag,λz hz=>?_⟩
 ·rw[OC];exact⟨e3,Ot.mpr ⟨(λz=>by cases z),PV⟩,λa ha b hb=>by rw[Nm.mp hb];exact λz=>nr (by rw[←z];exact ha)⟩
 ·intro m;rcases NF.mp m with z|z
  ·exact e4 z
  ·exact nD (Nm.mp z).symm
 ·rcases NF.mp hz with y|y
  ·exact e5 z y
  ·rw[Nm.mp y]
   cases c:H r with
   |none=>rfl
   |some o=>rw[s1 _ _ (e6 _ _ c)] at hr;cases hr
 ·rw[aJ (aU q hD)];exact s12 _ _ (e6 _ _ q)
 ·rcases NF.mp hz with y|y
  ·rw[aJ (show z≠D from λw=>e4 (by rw[←w];exact y))];exact s12 _ _ (e8 z y)
  ·rw[Nm.mp y,aJ nD,ag,er]
theorem FA(T:fc K mg t):bX P w K mg base ee 1 t.a_Q26 t.d_Q26 ["leanings","lean"] (qM K):=by
 exact T.F_Q26.ok Et (λvs H Q E h=>h.elim) (λcdv A outer s H vs Q E hr h=>h.elim)
theorem Dw(T:fc K mg t):bX P w K mg base ee 2 t.a_Q5 t.d_Q5 ["count","leans"] (kG K):=by
 refine T.F_Q5.ok yz (λvs H Q E h=>?_) (λcdv A outer s H vs Q E hr h=>?_)
 ·obtain⟨_,_,_,rfl,_⟩:=h;rfl
 obtain⟨n,v,es,rfl,⟨p,xs,rfl,hS,al⟩,ok,hn,k⟩:=h;refine dS.ok (ae (cw 2 yz.nd (cI (FL T) hr T.m_Q12 T.F_Q12.kp T.b_Q12 (ac (qv 0) af ad))) (ae (cj NI Z (dg (qv 1)) (ao (i:=3) yz.nd Z (by first|exact NG Z|exact NC Z)) (aj (dD (cI (FA T) hr T.m_Q26 T.F_Q26.kp T.b_Q26 (ac (qv 2) (ac (qv 3) af ad) ad))))) (aj (aO (qv 2))))) ?_
 nofun
 refine⟨_,Z,n,Z,hn,λl rows H1 s1 hl hr m1=>?_⟩;have hS1:=aK.same (K:=K) s1 _ _ hS;have sm:∀H',Kp rows H1 H'->aD H H':=λH' kp b o e=>kp.keep b o (λz=>by rw[hr b z] at e;cases e) (s1 _ _ e)
 let Iv1:Nat->L2.St->Hp->Prop:=λi σ H'=>∃(L:Nat->Nat->Bool) (x4:Option V),σ=[some (.int n),some (.ref p),some (.ref l),x4]/\Kp rows H1 H'/\Bp H' l rows n L/\Jz n (es.take i) L
 refine⟨_,Z,p,Z,⟨_,hS1⟩,iI (K:=K) (a:=p) (xs:=xs) Iv1 ⟨_,none,Z,Kp.same (aD.refl _) m1.ls,m1,by rw[WW];exact C2 n⟩ (λi σ H' _ ⟨_,_,_,kp,_⟩=>aK.kp (K:=K) kp _ _ hS1) ?_ ?_⟩
 ·rintro i x σ H2 hx ⟨L,x4,rfl,kp2,m2,c2⟩;obtain⟨⟨a,b⟩,hd,lv⟩:=al.at hx;rw[show es=[] from ok] at hd
  cases hd
 ·rintro σ H2 ⟨L,x4,rfl,kp2,m2,c2⟩;rw[al.len,Op] at c2;exact⟨_,Z,k l rows L H2 (sm _ kp2) m2 c2⟩
theorem Fz(T:fc K mg t):bX P w K mg base ee 3 t.a_Q27 t.d_Q27 ["sheet"] (qK K):=by
 refine T.F_Q27.ok gc (λvs H Q E h=>?_) (λcdv A outer s H vs Q E hr h=>?_)
 ·obtain⟨_,_,_,rfl,_⟩:=h;rfl
 obtain⟨v,ws,es,rfl,⟨p,a,b,rfl,hS,wv,lv⟩,ok,nb_,k⟩:=h;refine dS.ok (ae (cw 1 gc.nd (bZ au (qv 0) ah)) (ae (cw 2 gc.nd (cI (Dw T) hr T.m_Q5 T.F_Q5.kp T.b_Q5 (ac (aG aH (by rfl) T.z_len OD (ac (qv 1) af ad)) (ac (bZ au (qv 0) ah) af aI) aF))) (ae (cw 3 gc.nd (cL af)) (ae (cj NI Z (kY Z T.z_enumerate (ac (qv 1) af ad)) (ik Z (bi (ao (i:=4) gc.nd Z (by first|exact NG Z|exact NC Z)) (bi (ao (i:=5) gc.nd Z (by first|exact NG Z|exact NC Z)) dE))) (ae (dM (i:=6) (N':=["base","other","leanings","number"]) (src:=[none,none,some 2,some 4]) gc.nd Z (by first|exact NG Z|exact NC Z) Z (by exact(kY Z T.z_enumerate (ac (qv 1) af ad))) (λ_ _ _ _ _=>(by exact(by exact jq (K:=K) (n:=2) (by exact Z) (by exact Z) (by exact bi (by exact ao (i:=0) (by show NQ (["base","other","leanings","number"]:List NV);decide +kernel) (by exact Z) (by first|exact NG Z|exact NC Z)) (by exact bi (by exact ao (i:=1) (by show NQ (["base","other","leanings","number"]:List NV);decide +kernel) (by exact Z) (by first|exact NG Z|exact NC Z)) dE))))) (λ_ _ _ _ _=>(dC (df (by exact(bB (cR (K:=K) (by exact Z)) (by exact(bB (cR (K:=K) (by exact Z)) (by exact(qv 2)) (by exact(qv 3)) (by exact λ_ _=>Z))) (by exact(qv 0)) (by exact λ_ _=>Z)))))) (λ_ _ _ _ _=>(by exact(by exact(bB (bj (K:=K) (by exact Z)) (by exact(qv 1)) ah (by exact λ_ _=>Z))))) (by exact⟨Z,Z,Z,Z,⟨Z,Z,Z,Z,trivial⟩⟩) Z (by decide +kernel) Z (by decide +kernel) (by exact aS Z ⟨Z,⟨Z,trivial⟩⟩)) (ae (dM (i:=7) (N':=["leaner","other","number","leanings"]) (src:=[none,none,some 4,some 2]) gc.nd Z (by first|exact NG Z|exact NC Z) Z (by exact(kY Z T.z_enumerate (ac (qv 1) af ad))) (λ_ _ _ _ _=>(by exact(by exact jq (K:=K) (n:=2) (by exact Z) (by exact Z) (by exact bi (by exact ao (i:=0) (by show NQ (["leaner","other","number","leanings"]:List NV);decide +kernel) (by exact Z) (by first|exact NG Z|exact NC Z)) (by exact bi (by exact ao (i:=1) (by show NQ (["leaner","other","number","leanings"]:List NV);decide +kernel) (by exact Z) (by first|exact NG Z|exact NC Z)) dE))))) (λ_ _ _ _ _=>(dC (df (by exact(bB (cR (K:=K) (by exact Z)) (by exact(bB (cR (K:=K) (by exact Z)) (by exact(qv 3)) (by exact(qv 0)) (by exact λ_ _=>Z))) (by exact(qv 2)) (by exact λ_ _=>Z)))))) (λ_ _ _ _ _=>(by exact(by exact(bB (bj (K:=K) (by exact Z)) (by exact(qv 1)) ah (by exact λ_ _=>Z))))) (by exact⟨Z,Z,Z,Z,⟨Z,Z,Z,Z,trivial⟩⟩) Z (by decide +kernel) Z (by decide +kernel) (by exact aS Z ⟨Z,⟨Z,trivial⟩⟩)) (ae (cw 8 gc.nd (aG (wV Z) (by rfl) T.z_max boot_max (ac (aP tG (cL (ac (bZ au (qv 5) ah) af aI)) (qv 6)) af bu))) (ae (cw 9 gc.nd (aG (nV Z) (by rfl) T.z_min boot_min (ac (aP tG (cL (ac (bZ au (qv 5) ah) af aI)) (qv 7)) af bu))) (ae (ca (aQ eV (qv 8) (qv 9) (aT _)) (aj gz) be) (aj (dD (gY Od Og Oh cE (qv 3) (ac (bz (ac (qv 8) (ac (qv 9) (ac (bZ au (qv 5) ah) af aI) ad) ad)) af bO)))))))))) (aj (aO (bM bJ (by rfl) T.z_tuple Pf (ac (qv 3) af ad)))))))) ?_
 nofun
 obtain⟨pa,xs,rfl,hpa,al⟩:=id wv;have hxl:=al.len;have few:=ok.few;obtain⟨f,l_,win⟩:=iz.ex ws es;refine⟨_,Z,p,_,_,_,Z,Z,hS,Z,?_⟩;refine⟨_,Z,pa,_,Z,.inr hpa,_,Z,p,_,_,_,Z,Z,hS,Z,ws.length,b,es,(by rw[hxl];rfl),lv,ok.es,by omega,λl rows L H1 s1 MX1 clo=>?_⟩;refine⟨(by show 0≤sizeLine;exact NB _),λdl hdl=>?_⟩;have s2:=ai hdl (.lst []);have hd2:aE H1 dl (.lst []) dl=some (.lst []):=ag;have MX2:=MX1.same s2;have s02:=s1.trans s2;generalize aE H1 dl (.lst [])=H2 at s2 hd2 MX2 s02 ⊢;have hdN:H dl=none:=by
  cases e:H dl with
  |none=>rfl
  |some o=>rw[s1 _ _ e] at hdl;cases hdl
 have ndl:dl≠l:=λz=>by subst z;rw[MX1.top] at hdl;cases hdl
 have ndr:dl∉rows:=λz=>by obtain⟨ys,e⟩:=MX1.ls _ z;rw[hdl] at e;cases e
 have t02:=aK.same (K:=K) s02;have mst:∀H',bP dl H2 H'->Bp H' l rows ws.length L:=λH' S=>⟨S.keep _ _ (λz=>ndl z.symm) MX2.top,MX2.len,MX2.nd,MX2.ne,λi r e=>S.keep _ _ (λz=>ndr (by rw[←z];exact Nd e)) (MX2.row i r e)⟩
 have sst:∀H',bP dl H2 H'->aD H H':=λH' S b' o e=>S.keep b' o (λz=>by subst z;rw[hdN] at e;cases e) (s02 _ _ e)
 let Iv1:Nat->L2.St->Hp->Prop:=λi σ H'=>∃(ys:List V) (x5 x6 x7 x8 x9 x10:Option V),σ=[some (.ref p),some (.ref pa),some (.ref l),some (.ref dl),x5,x6,x7,x8,x9,x10]/\bP dl H2 H'/\H' dl=some (.lst ys)/\ys.length=i/\aZ K H' ys ((M7 i).map (wP ws f l_))/\∀j,j<i->f j≤l_ j
 refine⟨_,Z,pa,Z,⟨_,t02 _ _ hpa⟩,AS (K:=K) (a:=pa) (xs:=xs) Iv1 ⟨[],none,none,none,none,none,none,Z,bP.refl ⟨_,hd2⟩,hd2,Z,.nil,λj hj=>absurd hj (Qr _)⟩ (λi σ H' _ ⟨_,_,_,_,_,_,_,_,S,_⟩=>aK.step (K:=K) S _ _ (t02 _ _ hpa)) ?_ ?_⟩
 ·rintro i x pe σ H3 hx ⟨ys,x5,x6,x7,x8,x9,x10,rfl,S3,hd3,hys,dp,le⟩ hpe;have hi:i<ws.length:=by have:=(Ni.mp hx).1;omega
  obtain⟨w,hw,pw,am,rfl,hpw,ram⟩:=al.at hx;have ewi:ws.getD i bV=w:=ap bV hw;have wok:=ok.ok w (Nd hw);have s4:=ai hpe (.tup [.int i,.ref pw]);have hpe4:aE H3 pe (.tup [.int i,.ref pw]) pe=some (.tup [.int i,.ref pw]):=ag;generalize aE H3 pe (.tup [.int i,.ref pw])=H4 at s4 hpe4 ⊢;have S4:=S3.trans (bP.same s4 ⟨_,hd3⟩);have t4:=t02.trans (aK.step (K:=K) S4);refine⟨pe,_,Z,bC.of hpe4,Z,_,_,Z,_,_,Z,Z,?_⟩;have MX:=mst _ S4;have SM:=t4;refine⟨_,Z,pa,Z,⟨_,(SM _ _ hpa)⟩,λD1 hD1=>bY (oq ((SM _ _ hpa))) (λj=>L i j) (λj=>V.int ((ws.getD j bV).1:Nat)) hD1 (by omega) (λj y H' hj s' hy R E kR kE=>?_) λH5 s5 h5=>?_⟩
  ·obtain⟨pt,x',rfl,hx',hpt⟩:=hy;obtain⟨w',hw',pw',am',rfl,hpw',_⟩:=al.at hx';have ew:ws.getD j bV=w':=ap bV hw';rw[ew] at kR;have Ms:=MX.same s';obtain⟨rr,hrr⟩:∃r,rows[i]?=some r:=⟨_,M8 (by rw[MX.len];omega)⟩;refine⟨pt,_,Z,bC.of hpt,Z,_,_,Z,_,_,Z,Z,(fu.set Z).set' Z,?_⟩;refine⟨_,Z,_,Z,l,_,_,_,Z,Z,aV.of Ms.top,aY (v:=V.ref rr) (by rw[Nh,hrr];rfl),_,Z,rr,_,_,_,Z,Z,aV.of (Ms.row _ _ hrr),aY (oV (by omega)),_,Z,?_⟩
   cases cl:L i j with
   |true=>
    exact hJ ⟨_,Z,pw',_,_,_,Z,Z,SM.trans (aK.same (K:=K) s') _ _ hpw',Z,kR cl _ (aD.refl _)⟩
   |false=>exact d0 (kE cl _ (aD.refl _))
  rw[show xs.length=ws.length from hxl] at h5;have MX5:=MX.same s5;have SM5:=SM.trans (aK.same (K:=K) s5);refine⟨_,Z,pa,Z,⟨_,(SM5 _ _ hpa)⟩,λD2 hD2=>bY (oq ((SM5 _ _ hpa))) (λj=>L j i) (λj=>V.int ((ws.getD j bV).2.1:Nat)) hD2 (by omega) (λj y H' hj s' hy R E kR kE=>?_) λH6 s6 h6=>?_⟩
  ·obtain⟨pt,x',rfl,hx',hpt⟩:=hy;obtain⟨w',hw',pw',am',rfl,hpw',_⟩:=al.at hx';have ew:ws.getD j bV=w':=ap bV hw';rw[ew] at kR;have Ms:=MX5.same s';obtain⟨rr,hrr⟩:∃r,rows[j]?=some r:=⟨_,M8 (by rw[MX5.len];omega)⟩;refine⟨pt,_,Z,bC.of hpt,Z,_,_,Z,_,_,Z,Z,(fu.set Z).set' Z,?_⟩;refine⟨_,Z,_,Z,l,_,_,_,Z,Z,aV.of Ms.top,aY (v:=V.ref rr) (by rw[Nh,hrr];rfl),_,Z,rr,_,_,_,Z,Z,aV.of (Ms.row _ _ hrr),aY (oV (by omega)),_,Z,?_⟩
   cases cl:L j i with
   |true=>
    exact hJ ⟨_,Z,pw',_,_,_,Z,Z,SM5.trans (aK.same (K:=K) s') _ _ hpw',Z,kR cl _ (aD.refl _)⟩
   |false=>exact d0 (kE cl _ (aD.refl _))
  rw[show xs.length=ws.length from hxl] at h6;have s46:=s5.trans s6;have h5':=s6 _ _ h5;have t6:=SM5.trans (aK.same (K:=K) s6);refine⟨_,Z,pw,_,_,_,Z,Z,t6 _ _ hpw,Z,G0,λq1 hq1=>?_⟩;have s7:=ai hq1 (.lst [.int (w.1:Nat)]);have l1:((M7 ws.length).filter λj=>L i j).length≤ws.length:=NH (On _ _) (by rw[NP];exact Nb _);have l2:((M7 ws.length).filter λj=>L j i).length≤ws.length:=NH (On _ _) (by rw[NP];exact Nb _);refine⟨_,Z,q1,D1,_,_,Z,Z,ag,s7 _ _ h5',Pb (bh (by rw[Na];show 1+_≤1000;omega)),λq2 hq2=>?_⟩;have s8:=ai hq2 (.lst ([.int (w.1:Nat)]++((M7 ws.length).filter λj=>L i j).map λj=>V.int ((ws.getD j bV).1:Nat)));have e8:[V.int (w.1:Nat)]++(((M7 ws.length).filter λj=>L i j).map λj=>V.int ((ws.getD j bV).1:Nat))=((w.1:Int)::((M7 ws.length).filter λj=>L i j).map λj=>((ws.getD j bV).1:Int)).map V.int:=by rw[Ob,OE];rfl
  refine⟨q2,_,Z,aV.of (by rw[←e8];exact ag),by rw[NU];omega,λM hM hB=>?_⟩;have eM:M=f i:=by
   obtain⟨j0,hj0,z0,q0⟩:=win.a.att i hi;have u1:f i≤M:=by
    rw[q0];refine hB _ ?_;rcases z0 with z0|z0
    ·subst z0;unfold vF;rw[ewi];exact Ng
    ·exact No _ (Nu.mpr ⟨j0,NA.mpr ⟨Nk.mpr hj0,(clo i j0 hi hj0).mpr z0⟩,Z⟩)
   have u2:M≤f i:=by
    rcases Nq.mp hM with z|z
    ·have:=win.a.up i i hi hi (.inl Z);unfold vF at this;rw[ewi] at this;omega
    ·obtain⟨j,hj,rfl⟩:=Nu.mp z;obtain⟨hj1,hj2⟩:=NA.mp hj;exact win.a.up i j hi (Nk.mp hj1) (.inr ((clo i j hi (Nk.mp hj1)).mp hj2))
   omega
  rw[eM];have s78:=s7.trans s8;clear hM hB eM;have h6':=s78 _ _ h6;have t8:=t6.trans (aK.same (K:=K) s78);refine⟨_,Z,pw,_,_,_,Z,Z,t8 _ _ hpw,Z,G0,λq3 hq3=>?_⟩;have s9:=ai hq3 (.lst [.int (w.2.1:Nat)]);refine⟨_,Z,q3,D2,_,_,Z,Z,ag,s9 _ _ h6',Pb (bh (by rw[Na];show 1+_≤1000;omega)),λq4 hq4=>?_⟩;have sA:=ai hq4 (.lst ([.int (w.2.1:Nat)]++((M7 ws.length).filter λj=>L j i).map λj=>V.int ((ws.getD j bV).2.1:Nat)));have eA:[V.int (w.2.1:Nat)]++(((M7 ws.length).filter λj=>L j i).map λj=>V.int ((ws.getD j bV).2.1:Nat))=((w.2.1:Int)::((M7 ws.length).filter λj=>L j i).map λj=>((ws.getD j bV).2.1:Int)).map V.int:=by rw[Ob,OE];rfl
  refine⟨q4,_,Z,aV.of (by rw[←eA];exact ag),by rw[NU];omega,λM hM hB=>?_⟩;have eM:M=l_ i:=by
   obtain⟨j0,hj0,z0,q0⟩:=win.b.att i hi;have u1:M≤l_ i:=by
    have q0':- l_ i=-((ws.getD j0 bV).2.1:Int):=q0;have:l_ i=((ws.getD j0 bV).2.1:Int):=by omega
    rw[this];refine hB _ ?_;rcases z0 with z0|z0
    ·subst z0;rw[ewi];exact Ng
    ·exact No _ (Nu.mpr ⟨j0,NA.mpr ⟨Nk.mpr hj0,(clo j0 i hj0 hi).mpr (uA.mp z0)⟩,Z⟩)
   have u2:l_ i≤M:=by
    rcases Nq.mp hM with z|z
    ·have:=win.b.up i i hi hi (.inl Z);unfold vL at this;rw[ewi] at this;have:-(w.2.1:Int)≤- l_ i:=this;omega
    ·obtain⟨j,hj,rfl⟩:=Nu.mp z;obtain⟨hj1,hj2⟩:=NA.mp hj;have:=win.b.up i j hi (Nk.mp hj1) (.inr (uA.mpr ((clo j i (Nk.mp hj1) hi).mp hj2)));have:-((ws.getD j bV).2.1:Int)≤- l_ i:=this;omega
   omega
  rw[eM];clear hM hB eM;have s9A:=s9.trans sA;have s4A:=(s46.trans s78).trans s9A;generalize aE (aE (aE (aE H6 q1 _) q2 _) q3 _) q4 _=HA at s9A s4A ⊢;have SA:=S4.trans (bP.same s4A ⟨_,s4 _ _ hd3⟩);refine⟨_,Z,_,Z,_,_,Z,Z,_,Z,?_⟩;by_cases c:l_ i<f i
  ·refine cC c ?_;have rs:i6 ws.length f l_=some i:=A9 hi c le;exact absurd (nb_ f l_ win) (by rw[rs];exact λz=>nomatch z)
  ·refine cr c ?_;have hdA:=s4A _ _ (s4 _ _ hd3);refine⟨_,Z,.inl ⟨Z,_,aV.of hdA⟩,_,Z,_,Z,_,Z,pw,_,_,_,Z,Z,(t02.trans (aK.step (K:=K) SA)) _ _ hpw,Z,IY,λpn hpn=>?_⟩;have sB:=ai hpn (.tup [.int (f i),.int (l_ i),am]);have hpB:aE HA pn (.tup [.int (f i),.int (l_ i),am]) pn=some (.tup [.int (f i),.int (l_ i),am]):=ag;generalize aE HA pn (.tup [.int (f i),.int (l_ i),am])=HB at sB hpB ⊢;have hdB:=sB _ _ hdA;have SB:=SA.trans (bP.same sB ⟨_,hdA⟩);refine⟨dl,ys,_,Z,Z,hdB,bh (by omega),?_⟩;have tC:aK K HB (aE HB dl (.lst (ys++[.ref pn]))):=aK.up hdB _;refine⟨_,_,_,_,_,_,_,Z,SB.trans (bP.up hdB),ag,by rw[NL,hys];rfl,?_,λj hj=>?_⟩
   ·rw[Oq,N5];have dn:bH K (aE HB dl (.lst (ys++[.ref pn]))) (.ref pn) (wP ws f l_ i):=by
     unfold wP;rw[ewi];exact .tup (tC _ _ (bC.of hpB)) (.cons (.int _) (.cons (.int _) (.cons (((ram.mono t02).mono (aK.step (K:=K) SB)).mono tC).deep .nil)))
    have dd:aZ K (aE HB dl (.lst (ys++[.ref pn]))) ys ((M7 i).map (wP ws f l_)):=by
     refine sr (K:=K) ?_ dp;exact(((aK.same (K:=K) s4).trans (aK.same s4A)).trans (aK.same sB)).trans tC
    exact kr dd (.cons dn .nil)
   ·by_cases z:j<i
    ·exact le j z
    ·have:j=i:=by omega
     subst this;omega
 ·rintro σ H3 ⟨ys,x5,x6,x7,x8,x9,x10,rfl,S3,hd3,hys,dp,le⟩;refine⟨_,Z,dl,_,Z,.inl ⟨aV.of hd3,λpt hpt=>?_⟩⟩;have s4:=ai hpt (.tup ys);refine k f l_ (.ref pt) _ ((sst _ S3).trans s4) win (rZ (λj hj=>le j (by omega))) ?_;rw[hxl] at dp;exact .tup (bC.of ag) (sr (aK.same s4) dp)
theorem Io(T:fc K mg t):bX P w K mg base ee 2 t.a_Q6 t.d_Q6 ["works","left"] (kC K):=by
 refine T.F_Q6.ok uL (λvs H Q E h=>?_) (λcdv A outer s H vs Q E hr h=>?_)
 ·obtain⟨_,_,_,_,rfl,_⟩:=h;rfl
 obtain⟨v,q,ws,ls,rfl,⟨p,xs,rfl,hS,al⟩,hw,hq,hl,k⟩:=h;refine dS.ok (ae (cw 2 uL.nd (cL af)) (ae (cj NI Z (dg (qv 0)) (ao (i:=3) uL.nd Z (by first|exact NG Z|exact NC Z)) (ae (dM (i:=4) (N':=["place","turn","work"]) (src:=[none,none,some 3]) uL.nd Z (by first|exact NG Z|exact NC Z) Z (by exact(kY Z T.z_enumerate (ac (qv 1) af ad))) (λ_ _ _ _ _=>(by exact(by exact jq (K:=K) (n:=2) (by exact Z) (by exact Z) (by exact bi (by exact ao (i:=0) (by show NQ (["place","turn","work"]:List NV);decide +kernel) (by exact Z) (by first|exact NG Z|exact NC Z)) (by exact bi (by exact ao (i:=1) (by show NQ (["place","turn","work"]:List NV);decide +kernel) (by exact Z) (by first|exact NG Z|exact NC Z)) dE))))) (λ_ _ _ _ _=>(dC (df (by exact(fz (Av T) (by exact hr.mono (by decide)) (by exact Z) T.m_Q17 T.F_Q17.kp T.b_Q17 (by exact .nil) (by exact ju) (ac (by exact(qv 2)) (ac (by exact(qv 1)) af ad) ad)))))) (λ_ _ _ _ _=>(by exact(by exact(qv 0)))) (by exact⟨Z,Z,Z,Z,trivial⟩) Z (by decide +kernel) Z (by decide +kernel) (by exact aS Z ⟨Z,trivial⟩)) (aj (dD (gY Od Og Oh cE (qv 2) (ac (qV (aQ eV (aG aH (by rfl) T.z_len OD (ac (qv 4) af ad)) ah (aT _)) (bz (ac (bZ bI (qv 4) ah) (ac (bZ bI (qv 4) (jr gO ah)) af aI) aI)) o4) af BB)))))) (aj (aO (qv 2))))) ?_
 nofun
 have hlen:=al.len;refine⟨(by show 0≤sizeLine;exact NB _),λl h0=>?_⟩;have s0:=ai h0 (.lst []);let Iv1:Nat->L2.St->Hp->Prop:=λi σ H'=>∃(ys:List V) (x4 x5:Option V),σ=[some (.ref p),some (.ref q),some (.ref l),x4,x5]/\aD H H'/\H' l=some (.lst ys)/\cV (uo K H') ys ((ws.take i).map (bn ls))
 refine⟨_,Z,p,Z,⟨_,aK.same (K:=K) s0 _ _ hS⟩,iI (K:=K) (a:=p) (xs:=xs) Iv1 ⟨[],none,none,Z,s0,ag,.nil⟩ (λi σ H1 _ ⟨_,_,_,_,sm,_⟩=>aK.same sm _ _ hS) ?_ ?_⟩
 ·rintro i x σ H1 hx ⟨ys,x4,x5,rfl,s1,hl1,al1⟩;obtain⟨w,hwi,wv⟩:=al.at hx;have hq1:=aK.same (K:=K) s1 _ _ hq;have nl:(aL ls).length=ls.length:=Na _;refine⟨_,Z,q,Z,⟨_,hq1⟩,λD hD=>bY (oq hq1) (λi=>fw w (ls.getD i 0)) (λi=>V.int i) hD (by omega) (λj y H' hj s' hy R E kR kE=>?_) λH4 s4 h4=>?_⟩
  ·obtain⟨pt,z,rfl,hz,hpt⟩:=hy;obtain⟨z',hz',rfl⟩:∃z',ls[j]?=some z'/\V.int (z':Nat)=z:=by
    unfold aL at hz;rw[Nh] at hz;exact N6.mp hz
   rw[ap 0 hz'] at kR kE;refine⟨pt,_,Z,bC.of hpt,Z,_,_,Z,_,_,Z,Z,(fu.set Z).set' Z,?_⟩;refine⟨_,Z,_,Z,x,w,z',Z,wv.mono (aK.same (s1.trans s')),_,Z,?_⟩
   cases c:fw w z' with
   |true=>exact hJ ⟨_,Z,kR c _ (aD.refl _)⟩
   |false=>exact d0 (kE c _ (aD.refl _))
  rw[nl] at h4
  replace h4:H4 D=some (.lst ((gg ls w).map λi:Nat=>V.int i)):=h4
  have hl4:=s4 _ _ hl1;have ne:D≠l:=λz=>by subst z;rw[hl1] at hD;cases hD
  have hle:=al1.len;rw[Na,OH] at hle;have ewi:(ws.take (i+1)).map (bn ls)=(ws.take i).map (bn ls)++[bn ls w]:=by
   rw[Oi,hwi,N5];rfl
  refine⟨_,Z,.inl ⟨Z,_,aV.of hl4⟩,_,Z,D,_,Z,.inl (aV.of h4),_,_,Z,Z,_,Z,?_⟩
  cases c:gg ls w with
  |nil=>
   rw[c] at h4;refine d0 ?_;refine⟨l,_,_,Z,Z,hl4,bh (by omega),?_⟩;refine⟨_,_,_,Z,?_,ag,?_⟩
   ·intro b o e;rw[aJ (aU e h0)];exact s4 _ _ (s1 _ _ e)
   ·rw[ewi];refine(al1.mono λv d m=>m.mono ((aK.same s4).trans (aK.up hl4 _))).snoc ?_;unfold bn;rw[c];rfl
  |cons a r=>
   rw[c] at h4;refine cC (by show(0:Int)<((Xv (λi:Nat=>V.int i) (a::r)).length:Int);rw[Na,NU];omega) ?_;have hlast:mN ((a::r).map λi:Nat=>V.int i) (-1)=some (.int ((a::r).getLast (by simp):Nat)):=by
    have e:=Q1 (show(a::r)≠[] by simp);have e2:(a::r).map (λi:Nat=>V.int i)=(a::r).dropLast.map (λi:Nat=>V.int i)++[V.int ((a::r).getLast (by simp):Nat)]:=by
     conv=>lhs;rw[←e]
     rw[N5];rfl
    rw[e2];exact mM _ _
   have hfst:mN ((a::r).map λi:Nat=>V.int i) 0=some (.int (a:Nat)):=aY (j:=0) Z;refine⟨_,Z,D,_,_,_,Z,Z,aV.of h4,hfst,_,Z,_,Z,D,_,_,_,Z,Z,aV.of h4,hlast,g9,λpt hpt=>?_⟩;have s5:=ai hpt (.tup [.int a,.int ((a::r).getLast (by simp):Nat)]);have hl5:=s5 _ _ hl4;refine⟨l,_,_,Z,Z,hl5,bh (by omega),?_⟩;refine⟨_,_,_,Z,?_,ag,?_⟩
   ·intro b o e;rw[aJ (aU e h0)];exact s5 _ _ (s4 _ _ (s1 _ _ e))
   ·rw[ewi];refine(al1.mono λv d m=>m.mono (((aK.same s4).trans (aK.same s5)).trans (aK.up hl5 _))).snoc ?_;unfold bn;rw[c];exact⟨pt,Z,aK.up (K:=K) hl5 _ _ _ (bC.of ag)⟩
 ·rintro σ H1 ⟨ys,x4,x5,rfl,s1,hl1,al1⟩;rw[hlen,Op] at al1;exact⟨_,Z,k l ys H1 s1 h0 hl1 al1⟩
theorem Ao(T:fc K mg t):bX P w K mg base ee 1 t.a_Q52 t.d_Q52 ["windows","begin","end"] (BI K):=by
 refine T.F_Q52.ok Ei (λvs H Q E h=>?_) (λcdv A outer s H vs Q E hr h=>?_)
 ·obtain⟨_,_,_,_,rfl,_⟩:=h;rfl
 obtain⟨l,xs,os,p,rfl,hS,al,hn,k⟩:=h;refine dS.ok (aj (aO (bD (N':=["number","window","begin","end"]) (src:=[none,none,some 1,some 2]) Z (by exact(qU Z T.z_enumerate (ac (qv 0) af ad))) (λ_ _ _ _ _=>(by exact(by exact jq (K:=K) (n:=2) (by exact Z) (by exact Z) (by exact bi (by exact ao (i:=0) (by show NQ (["number","window","begin","end"]:List NV);decide +kernel) (by exact Z) (by first|exact NG Z|exact NC Z)) (by exact bi (by exact ao (i:=1) (by show NQ (["number","window","begin","end"]:List NV);decide +kernel) (by exact Z) (by first|exact NG Z|exact NC Z)) dE))))) (λ_ _ _ _ _=>(dC (fS (ii (aQ uS (by exact(qv 1)) o4 (aT _)) (ii (aQ gZ (by exact(qv 2)) (by exact(bB (bj (K:=K) (by exact Z)) (by exact(qv 1)) ah (by exact λ_ _=>Z))) (aT _)) (iF (aQ gZ (by exact(bB (bj (K:=K) (by exact Z)) (by exact(qv 1)) ah (by exact λ_ _=>Z))) (by exact(qv 3)) (aT _)))))))) (λ_ _ _ _ _=>(by exact(by exact(qv 0)))) (by exact⟨Z,Z,Z,Z,⟨Z,Z,Z,Z,trivial⟩⟩) Z (by decide +kernel) Z (by decide +kernel) (by exact aS Z ⟨Z,⟨Z,trivial⟩⟩)))) ?_;nofun
 have hlen:=al.len;refine⟨_,Z,l,Z,⟨_,hS⟩,λD hD=>bY (Bu hS) (λi=>eZ p.1 p.2 (os.getD i none)) (λi=>V.int i) hD (by omega) (λi y H' hi s' hx R E kR kE=>?_) λH4 s4 h4=>?_⟩
 ·obtain⟨pt,x,rfl,hx,hpt⟩:=hx;obtain⟨o,ho,ow⟩:=al.at hx;have eo:os.getD i none=o:=ap none ho;rw[eo] at kR kE;refine⟨pt,_,Z,bC.of hpt,Z,_,_,Z,_,_,Z,Z,(fu.set Z).set' Z,?_⟩
  cases o with
  |none=>
   obtain rfl:x=.non:=ow;exact⟨_,Z,Z,_,Z,d0 (d0 (kE Z _ (aD.refl _)))⟩
  |some q=>
   obtain⟨pw,rfl,hw⟩:=ow;have hw':=aK.same (K:=K) s' _ _ hw;refine⟨_,Z,Z,_,Z,hJ ?_⟩;refine⟨_,Z,_,Z,pw,_,_,_,Z,Z,hw',Z,_,_,Z,Z,_,Z,?_⟩;by_cases c:p.1≤q.1
   ·refine cC (by omega) ?_;refine⟨_,Z,pw,_,_,_,Z,Z,hw',Z,_,Z,_,_,Z,Z,_,Z,?_⟩;by_cases c':q.2≤p.2
    ·refine cC (by omega) ?_;exact⟨_,Z,kR (by show(decide (p.1≤q.1)&&decide (q.2≤p.2))=true;rw[decide_eq_true c,decide_eq_true c'];rfl) _ (aD.refl _)⟩
    ·refine cr (by omega) ?_;exact kE (by show(decide (p.1≤q.1)&&decide (q.2≤p.2))=false;rw[decide_eq_false c',Pm]) _ (aD.refl _)
   ·refine cr (by omega) (d0 ?_);exact kE (by show(decide (p.1≤q.1)&&decide (q.2≤p.2))=false;rw[decide_eq_false c,QD]) _ (aD.refl _)
 ·refine k D H4 s4 hD ?_;rw[h4,hlen];rfl
theorem Ir(T:fc K mg t):bX P w K mg base ee 2 t.a_Q1 t.d_Q1 ["windows","amounts","count"] (iW K):=by
 refine T.F_Q1.ok ie (λvs H Q E h=>?_) (λcdv A outer s H vs Q E hr h=>?_)
 ·obtain⟨_,_,_,_,_,_,rfl,_⟩:=h;rfl
 obtain⟨l,a,xs,os,as,n,rfl,hS,al,hn,ha,hlen,hb,n1,n24,k⟩:=h;refine dS.ok (ae (cw 3 ie.nd (bz (ac ah (ac ah af aB) aB))) (ae (cw 4 ie.nd (jr gO ah)) (ae (cw 5 ie.nd ah) (ae (cj NI Z (b8 Z T.z_range (ac (qv 2) af ad)) (ao (i:=6) ie.nd Z (by first|exact NG Z|exact NC Z)) (aj (cj NI Z (v3 Z T.z_range (ac (aP gS (qv 2) ah) (ac (aP gS (qv 6) ah) (ac (jr gO ah) af oE) bu) bu)) (ao (i:=7) ie.nd Z (by first|exact NG Z|exact NC Z)) (ae (cw 8 ie.nd (aG (j9 Z) (by rfl) T.z_sum boot_sum (ac (bD (N':=["number","amounts"]) (src:=[none,some 1]) Z (by exact(cX (cI (Ao T) hr T.m_Q52 T.F_Q52.kp T.b_Q52 (ac (qv 0) (ac (qv 6) (ac (qv 7) af ad) ad) ad)))) (λ_ _ _ _ _=>(by exact(by exact ao (i:=0) (by show NQ (["number","amounts"]:List NV);decide +kernel) (by exact Z) (by first|exact NG Z|exact NC Z)))) (λ_ _ _ _ _=>bQ) (λ_ _ _ _ _=>(by exact(by exact(bB (cR (K:=K) (by exact Z)) (by exact(qv 1)) (by exact(qv 0)) (by exact λ_ _=>Z))))) (by exact⟨Z,Z,Z,Z,trivial⟩) Z (by decide +kernel) Z (by decide +kernel) (by exact aS Z ⟨Z,trivial⟩)) af cW))) (ae (cw 9 ie.nd (aP cM (aP gS (qv 7) (qv 6)) ah)) (aj (ca (aQ eV (aP fk (qv 8) (qv 5)) (aP fk (qv 4) (qv 9)) (aT _)) (ae (cw 3 ie.nd (bz (ac (qv 6) (ac (qv 7) af ad) ad))) (ae (cw 4 ie.nd (qv 8)) (aj (cw 5 ie.nd (qv 9))))) be))))))) (aj (aO (qv 3))))))) ?_
 nofun
 have hxl:=al.len;have LB:=λq=>u7 hb hn q
 generalize hL:dy os (gJ as)=L at LB k;refine⟨g9,λp0 h0=>?_⟩;have s0:=ai h0 (.tup [.int 0,.int 0]);let Iv1:Nat->L2.St->Hp->Prop:=λi σ H'=>∃(vb:Addr) (ld ln:Int) (x7 x8 x9 x10:Option V),σ=[some (.ref l),some (.ref a),some (.int n),some (.ref vb),some (.int ld),some (.int ln),x7,x8,x9,x10]/\aD H H'/\mR K H' (gI n i n) L vb ld ln
 refine⟨_,Z,_,Z,n,Z,by omega,by omega,cZ (lo:=0) (n:=(n:Int).toNat) Iv1 ⟨p0,-1,1,none,none,none,none,Z,s0,.inl ⟨Z,Z,λr hr=>?_⟩⟩ ?_ ?_⟩
 ·unfold gI gl at hr;omega
 ·rintro i σ H1 hi ⟨vb,ld,ln,x7,x8,x9,x10,rfl,s1,best⟩;have hin:i<n:=by omega
  rw[PP];refine⟨_,Z,_,_,Z,Z,_,Z,_,_,Z,Z,_,Z,_,_,Z,⟨by omega,by omega,by omega,by omega⟩,AT (hi:=(n:Int)-1) (n:=((n:Int)-1-((i:Int)-1)).toNat) (λj σ H'=>∃(vb:Addr) (ld ln:Int) (x8 x9 x10:Option V),σ=[some (.ref l),some (.ref a),some (.int n),some (.ref vb),some (.int ld),some (.int ln),some (.int i),x8,x9,x10]/\aD H H'/\mR K H' (gI n i (n-j)) L vb ld ln) ⟨vb,ld,ln,x8,x9,x10,Z,s1,best⟩ ?_ ?_⟩
  ·rintro j σ H2 hj ⟨vb,ld,ln,x8,x9,x10,rfl,s2,best⟩;obtain⟨e,he⟩:∃e:Nat,n-j=e+1:=⟨n-j-1,by omega⟩;rw[he] at best;rw[show(n:Int)-1-(j:Int)=(e:Nat) by omega,show n-(j+1)=e by omega];have t2:=aK.same (K:=K) s2;refine⟨_,Z,_,Z,_,Z,l,xs,os,(i,e),Z,s2.seq hS,al.mono (λ_ _ m=>m.mono t2),hn,λD H3 s3 hD h3=>?_⟩;refine⟨D,Z,⟨_,aV.of h3⟩,λE hE=>bY (eO (aV.of h3)) (λ_=>true) (λm=>V.int (gJ as ((bS os (i,e)).getD m 0))) hE ?_ (λm x H' hm s' hx R E kR kE=>?_) λH4 s4 h4=>?_⟩
   ·unfold aL bS;rw[Na];have:=On (λi_1=>eZ i e (os.getD i_1 none)) (M7 os.length);rw[NP] at this;exact NH this (by omega)
   ·unfold aL at hx;rw[Nh] at hx;obtain⟨z,hz,rfl⟩:=N6.mp hx;have q:=kR Z _ (aD.refl _);rw[ap 0 hz] at q;have hzl:z<os.length:=by
     have:=Nd hz;unfold bS at this;exact Nk.mp (NA.mp this).1
    obtain⟨y,hy⟩:∃y,as[z]?=some y:=⟨_,M8 (by omega)⟩;rw[show gJ as z=y from ap 0 hy] at q;exact⟨fu.set Z,_,Z,_,Z,a,_,_,_,Z,Z,((s2.trans s3).trans s').seq ha,aY (by rw[Nh,hy];rfl),q⟩
   have e4:H4 E=some (.lst (((bS os (i,e)).map (gJ as)).map V.int)):=by
    rw[h4,show(aL (bS os (i,e))).length=(bS os (i,e)).length from Na _,di 0 (λk=>V.int (gJ as k)),OE];rfl
   have s24:=s3.trans s4;have sH:=s2.trans s24;refine⟨E,_,Z,aV.of e4,?_⟩;have eL:((bS os (i,e)).map (gJ as)).sum=L (i,e):=by rw[←hL];rfl
   rw[eL];have lb:=LB (i,e);have elen:(e:Int)-(i:Int)+1=bL (i,e):=Z;refine⟨_,Z,_,Z,_,_,Z,Z,_,_,Z,Z,?_⟩;have lp:1≤bL (i,e)/\bL (i,e)≤24:=by rw[←elen];omega
   have bl:(ld=-1∨(0≤ld/\ld≤64512))/\0<ln:=by
    rcases best with⟨r1,r2,_⟩ | ⟨q,_,r1,r2,b⟩
    ·exact⟨.inl r1,by omega⟩
    ·exact⟨.inr (by rw[r1];exact LB q),by rw[r2];exact(show gl n q from b.inn.1).pos⟩
   refine⟨_,Z,_,Z,_,_,Z,Z,.inl ⟨by omega,by omega⟩,_,Z,_,Z,_,_,Z,Z,.inl ⟨by omega,by omega⟩,_,_,Z,Z,_,Z,?_⟩;have st:=λr=>sP (n:=n) (b:=i) (e:=e) (by omega) (by omega) r
   by_cases c:ld*bL (i,e)<L (i,e)*ln
   ·refine cC c ?_;refine⟨_,Z,_,Z,g9,λpt hpt=>?_⟩;have s5:=ai hpt (.tup [.int (i:Nat),.int (e:Nat)]);refine⟨_,Z,_,Z,?_⟩;refine⟨pt,L (i,e),bL (i,e),_,_,_,Z,sH.trans s5,.inr ⟨(i,e),bC.of ag,Z,Z,?_⟩⟩;rcases best with⟨_,_,r3⟩ | ⟨q,_,r1,r2,b⟩
    ·exact wZ λr=>⟨λh=>((st r).mp h).elim (λz=>absurd z (r3 r)) id,λh=>(st r).mpr (.inr h)⟩
    ·subst r1 r2;exact b.more (n:=n) (λr hr=>hr.1) st c
   ·refine cr c ?_;refine⟨vb,ld,ln,_,_,_,Z,sH,?_⟩;rcases best with⟨r1,r2,r3⟩ | ⟨q,hq,r1,r2,b⟩
    ·exfalso;subst r1 r2;apply c;omega
    ·subst r1 r2;refine .inr ⟨q,aK.same s24 _ _ hq,Z,Z,b.stay st (by omega) (.inl ?_)⟩;have:=b.inn;unfold gI at this;unfold ki;show q.1<i∨q.1=i/\e≤q.2;omega
  ·rintro σ H2 ⟨vb,ld,ln,x8,x9,x10,rfl,s2,best⟩;refine⟨vb,ld,ln,_,_,_,_,Z,s2,best.mono (λ_ _ h=>h) λr=>?_⟩;rw[show n-((n:Int)-1-((i:Int)-1)).toNat=i by omega];exact sR r
 ·rintro σ H1 ⟨vb,ld,ln,x7,x8,x9,x10,rfl,s1,best⟩;rw[show(n:Int).toNat=n by omega] at best;refine⟨_,Z,?_⟩;rcases best with⟨_,_,r3⟩ | ⟨q,hq,_,_,b⟩
  ·exact absurd (show gI n n n (0,0) from⟨⟨Nb _,by show 0<n;omega⟩,.inl (by show 0<n;omega)⟩) (r3 _)
  ·exact k vb q H1 s1 hq (b.congr vW)
theorem Fy(T:fc K mg t):bX P w K mg base ee 3 t.a_Q28 t.d_Q28 ["works","left"] (qz K):=by
 refine T.F_Q28.ok sV (λvs H Q E h=>?_) (λcdv A outer s H vs Q E hr h=>?_)
 ·obtain⟨_,_,_,_,rfl,_⟩:=h;rfl
 obtain⟨v,q,ws,ls,rfl,⟨p,xs,rfl,hS,al⟩,hw,ok,hq,l1,l24,k⟩:=h;refine dS.ok (ae (cw 2 sV.nd (cI (Io T) hr T.m_Q6 T.F_Q6.kp T.b_Q6 (ac (qv 0) (ac (qv 1) af ad) ad))) (ae (cw 3 sV.nd (cI (Ir T) hr T.m_Q1 T.F_Q1.kp T.b_Q1 (ac (qv 2) (ac (cI (FN T) hr T.m_Q11 T.F_Q11.kp T.b_Q11 (ac (bD (N':=["work"]) (src:=[none]) Z (by exact(dg (qv 0))) (λ_ _ _ _ _=>(by exact(by exact ao (i:=0) (by show NQ (["work"]:List NV);decide +kernel) (by exact Z) (by first|exact NG Z|exact NC Z)))) (λ_ _ _ _ _=>bQ) (λ_ _ _ _ _=>(by exact(by exact(bB (bj (K:=K) (by exact Z)) (by exact(qv 0)) ah (by exact λ_ _=>Z))))) (by exact trivial) Z (by decide +kernel) Z (by decide +kernel) (by exact aS Z trivial)) af cW)) (ac (aG aH (by rfl) T.z_len OD (ac (qv 1) af ad)) af aF) aF) ad))) (aj (aO (bz (ac (lO uJ (qv 1) (jp (bZ au (qv 3) ah)) (jp (aP cM (bZ au (qv 3) ah) ah))) (ac (bM bJ (by rfl) T.z_tuple Pf (ac (cI (Ao T) hr T.m_Q52 T.F_Q52.kp T.b_Q52 (ac (qv 2) (ac (bZ au (qv 3) ah) (ac (bZ au (qv 3) ah) af aI) aI) ad)) af aF)) af aF) aI)))))) ?_
 nofun
 have nl:(aL ls).length=ls.length:=Na _;refine⟨_,Z,_,Z,.ref p,q,ws,ls,Z,⟨p,xs,Z,hS,al⟩,hw,hq,l24,λl ys H1 s1 hl0 hl1 al1=>?_⟩;have t1:=aK.same (K:=K) s1;refine⟨_,Z,_,Z,p,Z,⟨_,t1 _ _ hS⟩,λD hD=>dX (K:=K) (P:=RV K) (ds:=ws) (f:=λw:Wk=>w.2.2) (λ_ _ _ _ t p=>p.mono t) hD (t1 _ _ hS) al.len (by omega) (λi x d H' hx hd s' R E kR=>?_) λH2 ys2 s2 hD2 al2=>?_⟩
 ·obtain⟨d',hd',pw,xw,rfl,hSw,rx⟩:=al.at hx;rw[hd] at hd'
  cases hd'
  have t':=aK.same (K:=K) (s1.trans s');exact⟨fu.set Z,_,Z,pw,_,_,_,Z,Z,t' _ _ hSw,Z,kR _ _ (aD.refl _) (rx.mono t')⟩
 refine⟨D,ys2,ws,Z,aV.of hD2,al2,hw,ok,λl2 B H3 s3 hl2 b0 bd dv hl3=>?_⟩;have s13:=s2.trans s3;have t13:=aK.same (K:=K) s13;have sH3:=s1.trans s13;refine⟨_,Z,q,_,Z,.inr (aK.same (K:=K) sH3 _ _ hq),?_⟩;refine⟨l,l2,ys,ws.map (bn ls),fj B ws,ls.length,(by rw[nl];rfl),s13.seq (aV.of hl1),al1.mono (λ_ _ m=>m.mono t13),by rw[Na];exact hw,aV.of hl3,by unfold fj;rw[Na,Na],Al ok b0 bd,l1,l24,λpp pl H4 s4 hpp bst=>?_⟩;have sec:=bst.inn;have c1:pl.1≤pl.2:=sec.1;have c2:pl.2<ls.length:=sec.2;have sH4:=sH3.trans s4;refine⟨_,Z,_,Z,pp,_,_,_,Z,Z,hpp,Z,_,Z,_,Z,pp,_,_,_,Z,Z,hpp,Z,_,_,Z,Z,_,Z,q,_,Z,aK.same (K:=K) sH4 _ _ hq,λpc H5 s5 hpc=>?_⟩;rw[show(pl.2:Int)+1=((pl.2+1:Nat):Int) by omega,vo (by omega) (by omega)] at hpc;have t5:=aK.same (K:=K) s5;have t45:=aK.same (K:=K) (s13.trans (s4.trans s5));refine⟨_,Z,_,Z,pp,_,_,_,Z,Z,t5 _ _ hpp,Z,_,Z,pp,_,_,_,Z,Z,t5 _ _ hpp,Z,l,ys,ws.map (bn ls),pl,Z,(s13.trans (s4.trans s5)).seq (aV.of hl1),al1.mono (λ_ _ m=>m.mono t45),by rw[Na];exact hw,λE H6 s6 hE hE6=>?_⟩;refine⟨E,_,Z,.inl ⟨aV.of hE6,λpe hpe=>?_⟩⟩;have s7:=ai hpe (.tup (aL (bS (ws.map (bn ls)) pl)));refine⟨g9,λpr hpr=>?_⟩;have s8:=ai hpr (.tup [.ref pc,.ref pe]);refine k (.ref pr) B pl _ ((((sH4.trans s5).trans s6).trans s7).trans s8) b0 bd dv bst ?_;exact⟨pr,pc,pe,Z,bC.of ag,aK.same (K:=K) ((s6.trans s7).trans s8) _ _ hpc,aK.same (K:=K) s8 _ _ (bC.of ag)⟩
theorem As(T:fc K mg t):bX P w K mg base ee 4 t.a_Q42 t.d_Q42 ["works"] (vU K):=by
 refine T.F_Q42.ok iZ (λvs H Q E h=>?_) (λcdv A outer s H vs Q E hr h=>?_)
 ·obtain⟨_,_,rfl,_⟩:=h;rfl
 obtain⟨v,ws,rfl,⟨p,xs,rfl,hS,al⟩,hw,ok,k⟩:=h;refine dS.ok (ae (cw 1 iZ.nd (cL af)) (ae (cw 2 iZ.nd (bM (rX Z) (by rfl) T.z_tuple Pf (ac (oY Z T.z_range (ac (dN (v:=.int (24)) Z T.m_TURNS ⟨_,Z⟩) af ad)) af aF))) (ae (cw 3 iZ.nd (aG aH (by rfl) T.z_len OD (ac (qv 0) af ad))) (ae (ij NI (aQ eV (qv 3) ah (aT _)) (ae (cw 4 iZ.nd (cI (Fy T) hr T.m_Q28 T.F_Q28.kp T.b_Q28 (ac (qv 0) (ac (qv 2) af ad) ad))) (ae (dD (gY Od Og Oh cE (qv 1) (ac (qv 4) af ad))) (ae (cw 2 iZ.nd (bM bJ (by rfl) T.z_tuple Pf (ac (bD (N':=["turn","layer"]) (src:=[none,some 4]) Z (by exact(dg (qv 2))) (λ_ _ _ _ _=>(by exact(by exact ao (i:=0) (by show NQ (["turn","layer"]:List NV);decide +kernel) (by exact Z) (by first|exact NG Z|exact NC Z)))) (λ_ _ _ _ _=>(dC (aQ (eP (K:=K) (by exact Z)) (by exact(qv 0)) (by exact(bB (bj (K:=K) (by exact Z)) (by exact(qv 1)) ah (by exact λ_ _=>Z))) (by with_unfolding_all rfl)))) (λ_ _ _ _ _=>(by exact(by exact(qv 0)))) (by exact⟨Z,Z,Z,Z,trivial⟩) Z (by decide +kernel) Z (by decide +kernel) (by exact aS Z ⟨Z,trivial⟩)) af cW))) (aj (EU (i:=3) iZ.nd Z (by first|exact NG Z|exact NC Z) (aG aH (by rfl) T.z_len OD (ac (bZ au (qv 4) ah) af aI)) F9)))))) (aj (aO (bM bJ (by rfl) T.z_tuple Pf (ac (qv 1) af ad)))))))) ?_
 nofun
 have hlen:=al.len;refine⟨(by show 0≤sizeLine;exact NB _),λl h0=>?_⟩;have s0:=ai h0 (.lst []);have hl0:aE H l (.lst []) l=some (.lst []):=ag;refine⟨_,Z,λpr hpr=>?_⟩;have s1:=ai hpr (.rng 0 24);refine⟨pr,24,Z,ag,by decide,λq0 hq0=>?_⟩;have s2:=ai hq0 (.tup ((B.upTo 24).map V.int));have hq0':bC K (aE (aE (aE H l (.lst [])) pr (.rng 0 24)) q0 (.tup ((B.upTo 24).map V.int))) q0 (aL (M7 24)):=by
  have e:aL (M7 24)=(B.upTo 24).map V.int:=by unfold aL B.upTo;rw[OE];rfl
  rw[e];exact bC.of (ag (H:=aE (aE H l (.lst [])) pr (.rng 0 24)) (a:=q0) (o:=.tup ((B.upTo 24).map V.int)))
 have s02:=(s0.trans s1).trans s2;have hl2:=s2 _ _ (s1 _ _ hl0);refine⟨_,Z,p,_,Z,.inr (aK.same (K:=K) s02 _ _ hS),?_⟩;have nf:=uW ok;let Iv1:Nat->L2.St->Hp->Prop:=λm σ H'=>∃(acc:List (List Nat×List Nat)) (ys:List V) (q:Addr) (ls:List Nat) (x5:Option V),σ=[some (.ref p),some (.ref l),some (.ref q),some (.int (jG ws ls)),x5]/\aD H H'/\H' l=some (.lst ys)/\cV (pV K H') ys acc/\bC K H' q (aL ls)/\ls.Nodup/\(∀t∈ls,t<24)/\ls.length≤24/\acc.length+jG ws ls≤ws.length/\(∀y∈acc,hV ws.length y)/\(∀r,fM ws ls r->fM ws (M7 24) (acc++r))/\m=jG ws ls
 refine⟨Iv1,⟨_,[],[],q0,M7 24,none,(by rw[nf,hlen];rfl),s02,hl2,.nil,hq0',Rs,(λt ht=>Nk.mp ht),by decide,(by rw[nf];exact QU (R3 _)),(λy hy=>by cases hy),(λr h=>h),Z⟩,?_⟩;rintro m σ H1 ⟨acc,ys,q,ls,x5,rfl,sm,hl1,al1,hq,nd,lt,l24,few,lok,con,rfl⟩;refine⟨_,Z,_,_,Z,Z,_,Z,?_⟩;by_cases c:jG ws ls=0
 ·refine cr (by omega) ?_;have ly:=con [] (.nil c);rw[O1] at ly;refine⟨_,Z,l,_,Z,.inl ⟨aV.of hl1,λpt hpt=>?_⟩⟩;have s5:=ai hpt (.tup ys);exact k (.ref pt) acc _ (sm.trans s5) ⟨pt,ys,Z,bC.of ag,al1.mono λ_ _ m=>m.mono (aK.same s5)⟩ ly lok (by omega)
 ·refine cC (by omega) ?_;refine⟨_,λ_ _ z=>z,?_⟩;have ln1:1≤ls.length:=by
   cases ls with
   |nil=>exact absurd (FR ws) c
   |cons a r=>exact R9 (NB _)
  refine⟨_,Z,_,Z,.ref p,q,ws,ls,Z,⟨p,xs,Z,aK.same (K:=K) sm _ _ hS,al.mono λ_ _ m=>m.mono (aK.same sm)⟩,hw,ok,hq,ln1,l24,λx B pl H2 s2 b0 bd dv bst lv=>?_⟩;have it:pZ ws ls pl:=F8 ok (bst.scale b0 (by decide) λq=>nA _ λi _=>ql ok dv i) c;have sec:=k4 it;have hl2:=s2 _ _ hl1;have hy:=al1.len;have sm2:=sm.trans s2;have lyo:hV ws.length (fJ ws ls pl):=tP sec l24 lt;refine⟨_,Z,.inl ⟨Z,_,aV.of hl2⟩,_,Z,l,_,_,Z,Z,hl2,bh (by omega),?_⟩;have t3:aK K H2 (aE H2 l (.lst (ys++[x]))):=aK.up hl2 _;have sm3:aD H (aE H2 l (.lst (ys++[x]))):=λb o e=>by rw[aJ (aU e h0)];exact sm2 _ _ e
  have hl3:aE H2 l (.lst (ys++[x])) l=some (.lst (ys++[x])):=ag;have al3:cV (pV K (aE H2 l (.lst (ys++[x])))) (ys++[x]) (acc++[fJ ws ls pl]):=(al1.mono λ_ _ m=>m.mono ((aK.same s2).trans t3)).snoc (lv.mono t3);have lv3:=lv.mono t3;have hq3:=t3 _ _ (aK.same (K:=K) s2 _ _ hq);generalize aE H2 l (.lst (ys++[x]))=H3 at sm3 hl3 al3 lv3 hq3 ⊢;obtain⟨pL,a,b,rfl,hpL,ha,hb⟩:=lv3;have nl:(aL ls).length=ls.length:=Na _;refine⟨_,Z,q,Z,⟨_,hq3⟩,λD hD=>bY (iA hq3) (λi=>!(c5 ls pl).contains (ls.getD i 0)) (λi=>V.int (ls.getD i 0:Nat)) hD (by omega) (λi x H' hi s' hx R E kR kE=>?_) λH4 s4 h4=>?_⟩
  ·unfold aL at hx;rw[Nh] at hx;obtain⟨z,hz,rfl⟩:=N6.mp hx;rw[ap 0 hz] at kR kE;have t':=aK.same (K:=K) s';refine⟨fu.set Z,_,Z,_,Z,pL,_,_,_,Z,Z,t' _ _ hpL,Z,a,_,Z,.inr (t' _ _ ha),Z,rL _,_,Z,?_⟩;have e:vd (.int (z:Nat)) (aL (fJ ws ls pl).1)=(c5 ls pl).contains z:=k7 z (c5 ls pl)
   cases cz:(c5 ls pl).contains z with
   |true=>exact g7 (by show(!vd (.int (z:Nat)) (aL (fJ ws ls pl).1))=false;rw[e,cz];rfl) (kE (by rw[cz];rfl) _ (aD.refl _))
   |false=>exact nM (by show(!vd (.int (z:Nat)) (aL (fJ ws ls pl).1))=true;rw[e,cz];rfl) ⟨_,Z,kR (by rw[cz];rfl) _ (aD.refl _)⟩
  rw[nl,dJ 0 (λt=>!(c5 ls pl).contains t) (λt:Nat=>V.int t)] at h4
  replace h4:H4 D=some (.lst (aL (cT ls pl))):=h4
  refine⟨D,_,Z,.inl ⟨aV.of h4,λqn hqn=>?_⟩⟩;have s5:=ai hqn (.tup (aL (cT ls pl)));have hqn5:bC K _ qn (aL (cT ls pl)):=bC.of (ag (H:=H4) (a:=qn) (o:=.tup (aL (cT ls pl))));have s35:=s4.trans s5;generalize aE H4 qn (.tup (aL (cT ls pl)))=H5 at s35 hqn5 ⊢;have t5:=aK.same (K:=K) s35;have rst:=uU (ws:=ws) nd sec;have hp:=it.held;have lb:(aL (fJ ws ls pl).2).length=(bS (ws.map (bn ls)) pl).length:=Na _;refine⟨_,Z,_,Z,pL,_,_,_,Z,Z,t5 _ _ hpL,Z,b,_,Z,.inr (t5 _ _ hb),_,_,Z,Z,?_⟩;have ew:((jG ws ls:Nat):Int)-((aL (fJ ws ls pl).2).length:Int)=((jG ws (cT ls pl):Nat):Int):=by rw[lb];omega
  have rl:(cT ls pl).length≤ls.length:=On _ _;refine⟨_,?_,acc++[fJ ws ls pl],ys++[.ref pL],qn,cT ls pl,_,(by rw[←ew];rfl),sm3.trans s35,s35 _ _ hl3,al3.mono (λ_ _ m=>m.mono t5),hqn5,uO nd pl,(λt ht=>lt t (NA.mp ht).1),by omega,(by rw[NL];show acc.length+1+_≤_;omega),(λy hy=>?_),(λr hr=>?_),Z⟩
  ·omega
  ·rcases NF.mp hy with h|h
   ·exact lok y h
   ·rw[Nm.mp h];exact lyo
  ·have:=con _ (fM.cons it hr);rw[Q9];exact this
theorem Dx(T:fc K mg t):bX P w K mg base ee 4 t.a_Q2 t.d_Q2 ["works","layer"] (gr K):=by
 refine T.F_Q2.ok Ht (λvs H Q E h=>?_) (λcdv A outer s H vs Q E hr h=>?_)
 ·obtain⟨_,_,_,_,rfl,_⟩:=h;rfl
 obtain⟨v,x,ws,y,rfl,⟨p,xs,rfl,hS,al⟩,hw,ok,lv,lok,k⟩:=h;refine dS.ok (aj (aO (cI (Fq T) hr T.m_Q51 T.F_Q51.kp T.b_Q51 (ac (cI (Aq T) hr T.m_Q48 T.F_Q48.kp T.b_Q48 (ac (bD (N':=["number","works"]) (src:=[none,some 0]) Z (by exact(dg (bB au (qv 1) ah (λ_ _=>Z)))) (λ_ _ _ _ _=>(by exact(by exact ao (i:=0) (by show NQ (["number","works"]:List NV);decide +kernel) (by exact Z) (by first|exact NG Z|exact NC Z)))) (λ_ _ _ _ _=>bQ) (λ_ _ _ _ _=>(by exact(by exact(bB (bj (K:=K) (by exact Z)) (by exact(bB (bj (K:=K) (by exact Z)) (by exact(qv 1)) (by exact(qv 0)) (by exact λ_ _=>Z))) ah (by exact λ_ _=>Z))))) (by exact⟨Z,Z,Z,Z,trivial⟩) Z (by decide +kernel) Z (by decide +kernel) (by exact aS Z ⟨Z,trivial⟩)) af cW)) (ac (bz (ac (aG aH (by rfl) T.z_len OD (ac (bB au (qv 1) ah (λ_ _=>Z)) af aI)) (ac ah af aB) aF)) af bO) aF)))) ?_;nofun
 have hSl:=al.len;obtain⟨pL,a,b,rfl,hpL,ha,hb⟩:=lv;have nb:(aL y.2).length=y.2.length:=Na _;have na:(aL y.1).length=y.1.length:=Na _;have len:=lok.len;refine⟨_,Z,pL,_,_,_,Z,Z,hpL,Z,b,Z,⟨_,hb⟩,λD hD=>dX (K:=K) (P:=RV K) (ds:=y.2) (f:=λi=>(ws.getD i bV).2.2) (λ_ _ _ _ t p=>p.mono t) hD hb nb (by omega) (λi x d H' hx hd s' R E kR=>?_) λH2 ys2 s2 hD2 al2=>?_⟩
 ·have hx':(aL y.2)[i]?=some (V.int (d:Nat)):=by unfold aL;rw[Nh,hd];rfl
  rw[hx] at hx'
  cases hx'
  have hdl:=lok.num d (Nd hd);obtain⟨xw,hxw⟩:∃xw,xs[d]?=some xw:=⟨_,M8 (by omega)⟩;obtain⟨w,hwd,pw,xa,rfl,hSw,rx⟩:=al.at hxw;rw[ap bV hwd] at kR;have t':=aK.same (K:=K) s';exact⟨fu.set Z,_,Z,_,Z,p,_,_,_,Z,Z,t' _ _ hS,aY hxw,pw,_,_,_,Z,Z,t' _ _ hSw,Z,kR _ _ (aD.refl _) (rx.mono t')⟩
 have wf:=Bb (n:=ws.length) ok lok;have la:(gG ws y).length=y.2.length:=Na _;refine⟨D,ys2,gG ws y,4,Z,.inl (aV.of hD2),vB al2,wf,by omega,(by
  have:(4+9)*((gG ws y).length+1)≤13*65:=P5 13 (by omega);omega),λv' H3 s3 rv3=>?_⟩
 have t23:=aK.same (K:=K) (s2.trans s3);refine⟨_,Z,pL,_,_,_,Z,Z,t23 _ _ hpL,Z,a,_,Z,.inr (t23 _ _ ha),g9,λpt hpt=>?_⟩;rw[na];have s4:=ai hpt (.tup [.int (y.1.length:Int),.int 1]);have pos:=lok.pos;have few:=lok.few;refine⟨v',.ref pt,cO (gG ws y),1+(4+1)*(gG ws y).length,y.1.length,Z,rv3.mono (aK.same s4),RV.of ag,uC wf,pos,few,by omega,λu H5 s5 r5=>?_⟩;exact k u H5 (((s2.trans s3).trans s4).trans s5) r5
theorem Im(T:fc K mg t):bX P w K mg base ee 5 t.a_Q7 t.d_Q7 ["works"] (ky K):=by
 refine T.F_Q7.ok qO (λvs H Q E h=>?_) (λcdv A outer s H vs Q E hr h=>?_)
 ·obtain⟨_,_,rfl,_⟩:=h;rfl
 obtain⟨v,ws,rfl,⟨p,xs,rfl,hS,al⟩,hw,ok,k⟩:=h;refine dS.ok (ae (cw 1 qO.nd (aP uR (cL (ac (dN (v:=.ref t.c_NOUGHT) Z T.m_NOUGHT Z) af ad)) (dN (v:=.int (24)) Z T.m_TURNS ⟨_,Z⟩))) (ae (cj NI Z (dg (cI (As T) hr T.m_Q42 T.F_Q42.kp T.b_Q42 (ac (qv 0) af ad))) (ao (i:=2) qO.nd Z (by first|exact NG Z|exact NC Z)) (ae (cw 3 qO.nd (cI (Dx T) hr T.m_Q2 T.F_Q2.kp T.b_Q2 (ac (qv 0) (ac (qv 2) af ad) ad))) (aj (cj NI Z (dg (bZ au (qv 2) ah)) (ao (i:=4) qO.nd Z (by first|exact NG Z|exact NC Z)) (aj (gf (qv 3) (jV (qv 1) (qv 4) gu))))))) (aj (aO (bM bJ (by rfl) T.z_tuple Pf (ac (qv 1) af ad)))))) ?_
 nofun
 refine⟨G0,λl0 h0=>?_⟩;have s0:=ai h0 (.lst [.ref t.c_NOUGHT]);refine⟨l0,.ref t.c_NOUGHT,24,Z,Z,ag,by decide,λl hl=>?_⟩;have s1:=ai hl (.lst (ND 24 (.ref t.c_NOUGHT)));have s01:=s0.trans s1;have hln:H l=none:=by
  cases e:H l with
  |none=>rfl
  |some o=>rw[s0 _ _ e] at hl;cases hl
 have hl1:aE (aE H l0 (.lst [.ref t.c_NOUGHT])) l (.lst (ND 24 (.ref t.c_NOUGHT))) l=some (.lst (ND 24 (.ref t.c_NOUGHT))):=ag;generalize aE (aE H l0 (.lst [.ref t.c_NOUGHT])) l (.lst (ND 24 (.ref t.c_NOUGHT)))=H1 at hl1 s01 ⊢;refine⟨_,Z,.ref p,ws,Z,⟨p,xs,Z,aK.same (K:=K) s01 _ _ hS,al.mono λ_ _ m=>m.mono (aK.same s01)⟩,hw,ok,λx lys H2 s2 lv ly lok ll=>?_⟩;obtain⟨pl,xl,rfl,hpl,all⟩:=lv;have hl2:=s2 _ _ hl1;have s02:=s01.trans s2;have wvS:∀H',aD H H'->fo K H' (.ref p) ws:=λH' s=>⟨p,xs,Z,aK.same (K:=K) s _ _ hS,al.mono λ_ _ m=>m.mono (aK.same s)⟩
 have smS:∀H',bP l H2 H'->aD H H':=λH' S b o e=>S.keep b o (λz=>by subst z;rw[hln] at e;cases e) (s02 _ _ e)
 let Iv1:Nat->L2.St->Hp->Prop:=λi σ H'=>∃(ys:List V) (x3 x4 x5:Option V),σ=[some (.ref p),some (.ref l),x3,x4,x5]/\bP l H2 H'/\H' l=some (.lst ys)/\cV (RV K H') ys (aX ws (lys.take i))
 refine⟨pl,Z,⟨_,hpl⟩,iI (K:=K) (a:=pl) (xs:=xl) Iv1 ⟨_,none,none,none,Z,bP.refl ⟨_,hl2⟩,hl2,cV.rep ⟨_,Z,T.q_NOUGHT _⟩ 24⟩ (λi σ H' _ ⟨_,_,_,_,_,S,_⟩=>aK.step (K:=K) S _ _ hpl) ?_ ?_⟩
 ·rintro i x σ H3 hx ⟨ys,x3,x4,x5,rfl,S3,hl3,al3⟩;obtain⟨y,hy,lvy⟩:=all.at hx;have lyo:=lok y (Nd hy);have sm3:=smS _ S3;have lv3:=lvy.mono (aK.step (K:=K) S3);refine⟨_,Z,_,Z,.ref p,x,ws,y,Z,wvS _ sm3,hw,ok,lv3,lyo,λsv H4 s4 rv4=>?_⟩;have hl4:=s4 _ _ hl3;have lv4:=lv3.mono (aK.same s4);obtain⟨pL,a,b,rfl,hpL,ha,hb⟩:=lv4;have S4:=S3.trans (bP.same s4 ⟨_,hl3⟩);have al4:=al3.mono λ_ _ m=>m.mono (aK.same s4)
  have ly24:=al4.len;rw[show(aX ws (lys.take i)).length=24 by unfold aX;rw[iD];rfl] at ly24;let Iv2:Nat->L2.St->Hp->Prop:=λj σ H'=>∃(zs:List V) (x5:Option V),σ=[some (.ref p),some (.ref l),some (.ref pL),some sv,x5]/\bP l H4 H'/\H' l=some (.lst zs)/\zs.length=24/\cV (RV K H') zs (ji (de ws y) (aX ws (lys.take i)) (y.1.take j))
  refine⟨_,Z,pL,_,_,_,Z,Z,hpL,Z,a,Z,⟨_,ha⟩,iI (K:=K) (a:=a) (xs:=aL y.1) Iv2 ⟨ys,_,Z,bP.refl ⟨_,hl4⟩,hl4,ly24,al4⟩ (λj σ H' _ ⟨_,_,_,S,_⟩=>aK.step (K:=K) S _ _ ha) ?_ ?_⟩
  ·rintro j tv σ H5 ht ⟨zs,x5,rfl,S5,hl5,zl,al5⟩;unfold aL at ht;rw[Nh] at ht;obtain⟨tt,htt,rfl⟩:=N6.mp ht;have lt:=lyo.lt tt (Nd htt);refine⟨_,Z,_,Z,_,Z,l,zs,_,tt,Z,Z,hl5,pH (by omega),?_⟩;have t6:aK K H5 (aE H5 l (.lst (zs.set tt sv))):=aK.up hl5 _;refine⟨_,_,Z,S5.trans (bP.up hl5),ag,by rw[P2];exact zl,?_⟩;have e:ji (de ws y) (aX ws (lys.take i)) (y.1.take (j+1))=(ji (de ws y) (aX ws (lys.take i)) (y.1.take j)).set tt (de ws y):=by
    unfold ji;rw[Oi,htt,P1];rfl
   rw[e];exact cV.setI (rv4.mono ((aK.step (K:=K) S5).trans t6)) tt (al5.mono λ_ _ m=>m.mono t6)
  ·rintro σ H5 ⟨zs,x5,rfl,S5,hl5,zl,al5⟩;rw[show(aL y.1).length=y.1.length from Na _,Op] at al5;refine⟨zs,_,_,_,Z,S4.trans S5,hl5,?_⟩;have e:aX ws (lys.take (i+1))=ji (de ws y) (aX ws (lys.take i)) y.1:=by
    unfold aX;rw[Oi,hy,P1];rfl
   rw[e];exact al5
 ·rintro σ H3 ⟨ys,x3,x4,x5,rfl,S3,hl3,al3⟩;rw[all.len,Op] at al3;refine⟨_,Z,l,_,Z,.inl ⟨aV.of hl3,λpt hpt=>?_⟩⟩;have s5:=ai hpt (.tup ys);exact k pt ys lys _ ((smS _ S3).trans s5) (bC.of ag) (al3.mono λ_ _ m=>m.mono (aK.same s5)) ly
theorem Iq(T:fc K mg t):bX P w K mg base ee 1 t.a_Q3 t.d_Q3 ["works","leanings","waiting"] (jO K):=by
 refine T.F_Q3.ok uM (λvs H Q E h=>?_) (λcdv A outer s H vs Q E hr h=>?_)
 ·obtain⟨_,_,_,_,_,_,_,_,rfl,_⟩:=h;rfl
 obtain⟨v,l,wl,ws,es,rows,L,ls,rfl,⟨p,xs,rfl,hS,al⟩,w8,m0,cl,hwl,lt,ne,l8,rk,k⟩:=h;refine dS.ok (ae (cw 3 uM.nd (aG (nV Z) (by rfl) T.z_min boot_min (ac (bD (N':=["number","works"]) (src:=[none,some 0]) Z (by exact(cX (qv 2))) (λ_ _ _ _ _=>(by exact(by exact ao (i:=0) (by show NQ (["number","works"]:List NV);decide +kernel) (by exact Z) (by first|exact NG Z|exact NC Z)))) (λ_ _ _ _ _=>bQ) (λ_ _ _ _ _=>(by exact(by exact(bB (bj (K:=K) (by exact Z)) (by exact(bB (bj (K:=K) (by exact Z)) (by exact(qv 1)) (by exact(qv 0)) (by exact λ_ _=>Z))) ah (by exact λ_ _=>Z))))) (by exact⟨Z,Z,Z,Z,trivial⟩) Z (by decide +kernel) Z (by decide +kernel) (by exact aS Z ⟨Z,trivial⟩)) af cW))) (ae (cw 4 uM.nd (bD (N':=["number","earliest","works"]) (src:=[none,some 3,some 0]) Z (by exact(cX (qv 2))) (λ_ _ _ _ _=>(by exact(by exact ao (i:=0) (by show NQ (["number","earliest","works"]:List NV);decide +kernel) (by exact Z) (by first|exact NG Z|exact NC Z)))) (λ_ _ _ _ _=>(dC (aQ gA (by exact(bB (bj (K:=K) (by exact Z)) (by exact(bB (bj (K:=K) (by exact Z)) (by exact(qv 2)) (by exact(qv 0)) (by exact λ_ _=>Z))) ah (by exact λ_ _=>Z))) (by exact(qv 1)) (aT _)))) (λ_ _ _ _ _=>(by exact(by exact(qv 0)))) (by exact⟨Z,Z,Z,Z,⟨Z,Z,Z,Z,trivial⟩⟩) Z (by decide +kernel) Z (by decide +kernel) (by exact aS Z ⟨Z,⟨Z,trivial⟩⟩))) (ae (zL (i:=5) (N':=["number","like","leanings"]) (y := "number") (src:=[none,some 4,some 1]) uM.nd Z (by first|exact NG Z|exact NC Z) Z (by exact(cX (qv 4))) (λ_ _ _ _ _=>(by exact(by exact ao (i:=0) (by show NQ (["number","like","leanings"]:List NV);decide +kernel) (by exact Z) (by first|exact NG Z|exact NC Z)))) (λ_ _ _ _ _=>(dC (dQ (df (by exact(aG (uc (K:=K) (by exact Z) (by exact Z)) (by exact Z) T.z_any boot_any (ac (by exact(v4 (N':=["base","leanings","number"]) (src:=[none,some 2,some 0]) (by exact Z) (by exact Z) (by exact(zM (K:=K) (by exact Z) (by exact(qv 1)))) (by exact λ_ _ _ _ _=>(by exact(by exact ao (i:=0) (by show NQ (["base","leanings","number"]:List NV);decide +kernel) (by exact Z) (by first|exact NG Z|exact NC Z)))) (by exact λ_ _ _ _ _=>bQ) (by exact λ_ _ _ _ _=>(by exact(by exact(bB (cR (K:=K) (by exact Z)) (by exact(bB (cR (K:=K) (by exact Z)) (by exact(qv 1)) (by exact(qv 2)) (by exact λ_ _=>Z))) (by exact(qv 0)) (by exact λ_ _=>Z))))) (by exact⟨Z,Z,Z,Z,⟨Z,Z,Z,Z,trivial⟩⟩) (by decide +kernel) (by exact Z) (by decide +kernel) (by exact aS Z ⟨Z,⟨Z,trivial⟩⟩))) af cW))))))) (λ_ _ _ _ _=>(by exact(by exact(qv 0)))) (by exact⟨Z,Z,Z,Z,⟨Z,Z,Z,Z,trivial⟩⟩) Z (λ_=>Z) (λ_=>Z) Z (by decide +kernel) (by exact wS Z ⟨Z,⟨Z,trivial⟩⟩ Z)) (aj (aO (bZ bI (qv 5) ah)))))) ?_
 nofun
 have lx:xs.length=ws.length:=al.len;have lv:(aL ls).length=ls.length:=Na _;have pos:0<ls.length:=List.length_pos_iff.mpr ne;have at_:∀{H':Hp},aD H H'->∀i,i<ws.length->∃pw x,xs[i]?=some (.ref pw)/\bC K H' pw [.int (ws.getD i bV).1,.int (bo ws i:Nat),x]:=λ{H'} s i hi=>by
  have e:xs[i]?=some (xs[i]'(by omega)):=M8 _;obtain⟨w,hw,pw,x,ex,hSw,_⟩:=al.at e;refine⟨pw,x,by rw[e,ex],?_⟩;have g:ws.getD i bV=w:=ap bV hw;unfold bo;rw[g];exact aK.same s _ _ hSw
 have nat_:∀{zs:List Nat} {i:Nat} {x:V},(aL zs)[i]?=some x->∃n,zs[i]?=some n/\x=.int (n:Nat):=λ{zs i x} h=>by
  unfold aL at h;rw[Nh] at h;obtain⟨n,hn,rfl⟩:=N6.mp h;exact⟨n,hn,Z⟩
 refine⟨_,Z,wl,Z,⟨_,hwl⟩,λD1 hD1=>bY (eO hwl) (λ_=>true) (λi=>V.int (bo ws (ls.getD i 0):Nat)) hD1 (by omega) (λi x H' hi sm hx Rk E kR _=>?_) λH1 s1 h1=>?_⟩
 ·obtain⟨n,hn,rfl⟩:=nat_ hx;obtain⟨pw,y,ex,hSw⟩:=at_ sm n (lt n (Nd hn));rw[ap 0 hn] at kR;exact⟨fu.set Z,_,Z,_,Z,p,_,_,_,Z,Z,aK.same sm _ _ hS,aY ex,pw,_,_,_,Z,Z,hSw,Z,kR Z _ (aD.refl _)⟩
 have e1:((M7 (aL ls).length).filter λ_=>true).map (λi=>V.int (bo ws (ls.getD i 0):Nat))=(ls.map λi=>((bo ws i:Nat):Int)).map V.int:=by
  rw[lv,OE];exact di 0 (λn=>V.int (bo ws n:Nat)) ls
 rw[e1] at h1;refine⟨D1,_,Z,aV.of h1,by rw[Na];exact pos,λM hM hle=>?_⟩;have key:∀i,i∈ls->(((bo ws i:Nat):Int)=M↔∀j∈ls,bo ws i≤bo ws j):=λi hi=>by
  constructor
  ·intro e j hj;have:=hle _ (Nu.mpr ⟨j,hj,Z⟩);omega
  ·intro h;obtain⟨j,hj,e⟩:=Nu.mp hM;have a:=h j hj;have b:=hle _ (Nu.mpr ⟨i,hi,Z⟩);omega
 have hw1:aV K H1 wl (aL ls):=s1.seq hwl;refine⟨_,Z,wl,Z,⟨_,hw1⟩,λD2 hD2=>bY (eO hw1) (λi=>ls.all λj=>decide (bo ws (ls.getD i 0)≤bo ws j)) (λi=>V.int (ls.getD i 0:Nat)) hD2 (by omega) (λi x H' hi sm hx Rk E kR kE=>?_) λH2 s2 h2=>?_⟩
 ·obtain⟨n,hn,rfl⟩:=nat_ hx;have sm':=s1.trans sm;have mn:=Nd hn;obtain⟨pw,y,ex,hSw⟩:=at_ sm' n (lt n mn);rw[ap 0 hn] at kR kE;refine⟨fu.set Z,_,Z,_,Z,p,_,_,_,Z,Z,aK.same sm' _ _ hS,aY ex,pw,_,_,_,Z,Z,hSw,Z,_,Z,Z,_,Z,?_⟩;by_cases c:((bo ws n:Nat):Int)=M
  ·refine cC (by rw[c]) ⟨_,Z,kR ?_ _ (aD.refl _)⟩;rw[N4];exact λj hj=>decide_eq_true ((key n mn).mp c j hj)
  ·refine cr (λz=>c (by injection z)) (kE ?_ _ (aD.refl _))
   cases q:ls.all λj=>decide (bo ws n≤bo ws j) with
   |false=>rfl
   |true=>
    rw[N4] at q;exact absurd ((key n mn).mpr λj hj=>of_decide_eq_true (q j hj)) c
 have e2:((M7 (aL ls).length).filter λi=>ls.all λj=>decide (bo ws (ls.getD i 0)≤bo ws j)).map (λi=>V.int (ls.getD i 0:Nat))=aL (gD ws ls):=by
  rw[lv];exact dJ 0 (λn=>ls.all λj=>decide (bo ws n≤bo ws j)) (λn=>V.int (n:Nat)) ls
 rw[e2] at h2;have s12:=s1.trans s2;have lkl:∀i∈gD ws ls,i<ws.length:=λi hi=>lt i (gC.mp hi).1
 have ll:(gD ws ls).length≤ls.length:=On _ _;have lk:(aL (gD ws ls)).length=(gD ws ls).length:=Na _;have hl2:aV K H2 D2 (aL (gD ws ls)):=aV.of h2;generalize hlk:gD ws ls=lk_ at h2 hl2 lkl ll lk;refine⟨_,Z,D2,Z,⟨_,hl2⟩,λD3 hD3=>bY (eO hl2) (λi=>!lk_.any (f8 es (lk_.getD i 0))) (λi=>V.int (lk_.getD i 0:Nat)) hD3 (by omega) (λi x H' hi sm hx Rk E kR kE=>?_) λH3 s3 h3=>?_⟩
 ·obtain⟨n,hn,rfl⟩:=nat_ hx;have mn:=Nd hn;have nl:=lkl n mn;have sm':=s12.trans sm;have hl3:aV K H' D2 (aL lk_):=sm.seq hl2;have mm:=m0.same sm';rw[ap 0 hn] at kR kE;refine⟨fu.set Z,_,Z,D2,Z,⟨_,hl3⟩,λD4 hD4=>bY (eO hl3) (λ_=>true) (λj=>V.bl (f8 es n (lk_.getD j 0))) hD4 (by omega) (λj y H5 hj sm5 hy Rk2 E2 kR2 _=>?_) λH6 s6 h6=>?_⟩
  ·obtain⟨b,hb,rfl⟩:=nat_ hy;have bl:=lkl b (Nd hb);have m5:=mm.same sm5;obtain⟨rr,hrr⟩:∃r,rows[n]?=some r:=⟨_,M8 (by rw[mm.len];exact nl)⟩;have hrow:=m5.row n rr hrr;rw[ap 0 hb] at kR2;have ev:L n b=f8 es n b:=by rw[O0,j3];exact cl n b nl bl
   refine⟨fu.set Z,_,Z,_,Z,l,_,_,_,Z,Z,aV.of m5.top,aY (show(rows.map V.ref)[n]?=some (V.ref rr) by rw[Nh,hrr];rfl),_,Z,rr,_,_,_,Z,Z,aV.of hrow,aY (oV bl),?_⟩;rw[ev];exact kR2 Z _ (aD.refl _)
  ·have e6:((M7 (aL lk_).length).filter λ_=>true).map (λj=>V.bl (f8 es n (lk_.getD j 0)))=(lk_.map (f8 es n)).map V.bl:=by
    rw[lk,OE];exact di 0 (λb=>V.bl (f8 es n b)) lk_
   rw[e6] at h6;refine⟨D4,_,Z,aV.of h6,_,Z,?_⟩;rw[Sx];have ea:lk_.any (id∘f8 es n)=lk_.any (f8 es n):=Z;rw[ea]
   cases c:lk_.any (f8 es n) with
   |false=>exact nM (b:=!false) Z ⟨_,Z,kR (by rw[c];rfl) _ s6⟩
   |true=>exact g7 (b:=!true) Z (kE (by rw[c];rfl) _ s6)
 have e3:((M7 (aL lk_).length).filter λi=>!lk_.any (f8 es (lk_.getD i 0))).map (λi=>V.int (lk_.getD i 0:Nat))=aL (jy ws es ls):=by
  rw[lk];unfold jy;rw[hlk];exact dJ 0 (λn=>!lk_.any (f8 es n)) (λn=>V.int (n:Nat)) lk_
 rw[e3] at h3;have nx:=kZ (ws:=ws) rk ne;refine⟨_,Z,D3,_,_,_,Z,Z,aV.of h3,aY (j:=0) (show(aL (jy ws es ls))[0]?=some (V.int (g4 ws es ls:Nat)) by unfold aL;rw[Nh,nx];rfl),k _ (s12.trans s3)⟩
theorem Fx(T:fc K mg t):bX P w K mg base ee 3 t.a_Q29 t.d_Q29 ["works","leans"] (qB K):=by
 refine T.F_Q29.ok lL (λvs H Q E h=>?_) (λcdv A outer s H vs Q E hr h=>?_)
 ·obtain⟨_,_,_,_,rfl,_⟩:=h;rfl
 obtain⟨v,u,ws,es,rfl,ak,k⟩:=h;refine dS.ok (ae (cw 2 lL.nd (cI (Dw T) hr T.m_Q5 T.F_Q5.kp T.b_Q5 (ac (aG aH (by rfl) T.z_len OD (ac (qv 0) af ad)) (ac (qv 1) af ad) aF))) (ae (cw 3 lL.nd (bM (mH Z) (by rfl) T.z_list Xj (ac (oY Z T.z_range (ac (aG aH (by rfl) T.z_len OD (ac (qv 0) af ad)) af aF)) af aF))) (ae (cw 4 lL.nd (cL af)) (ae (ij NI (aQ eV (aG aH (by rfl) T.z_len OD (ac (qv 3) af ad)) ah (aT _)) (ae (cw 5 lL.nd (cI (Iq T) hr T.m_Q3 T.F_Q3.kp T.b_Q3 (ac (qv 0) (ac (qv 2) (ac (qv 3) af ad) ad) ad))) (ae (dD (gY Od PySem.F.slot_list_remove PySem.F.type_list_remove CG (qv 3) (ac (qv 5) af ad))) (aj (dD (gY Od Og Oh cE (qv 4) (ac (qv 5) af ad))))))) (aj (aO (qv 4))))))) ?_
 nofun
 obtain⟨p,xs,rfl,hS,al⟩:=id ak.wv;have lx:xs.length=ws.length:=al.len;have w8:=ak.w8;refine⟨_,Z,p,_,Z,.inr hS,_,Z,ws.length,u,es,(by rw[←lx];rfl),ak.lv,ak.eok,by omega,λlm rows L H1 s1 m1 c1=>?_⟩;have hS1:=aK.same (K:=K) s1 _ _ hS;refine⟨_,Z,p,_,Z,.inr hS1,_,Z,λpr hpr=>?_⟩;rw[lx];have s2:=ai hpr (.rng 0 ws.length);refine⟨pr,ws.length,Z,ag,by omega,λwl hwl=>?_⟩;have s3:=ai hwl (.lst ((B.upTo ws.length).map V.int));have s23:=s2.trans s3;have hw3:aE (aE H1 pr (.rng 0 ws.length)) wl (.lst ((B.upTo ws.length).map V.int)) wl=some (.lst ((B.upTo ws.length).map V.int)):=ag;have wl0:H1 wl=none:=by
  cases e:H1 wl with
  |none=>rfl
  |some o=>rw[s2 _ _ e] at hwl;cases hwl
 generalize aE (aE H1 pr (.rng 0 ws.length)) wl (.lst ((B.upTo ws.length).map V.int))=H3 at s23 hw3 ⊢;refine⟨(by show 0≤sizeLine;exact NB _),λlo hlo=>?_⟩;have s4:=ai hlo (.lst []);have nlw:lo≠wl:=λz=>by subst z;rw[hw3] at hlo;cases hlo
 have hw4:=s4 _ _ hw3;have ho4:aE H3 lo (.lst []) lo=some (.lst []):=ag;have s14:=s23.trans s4;have lo0:H1 lo=none:=by
  cases e:H1 lo with
  |none=>rfl
  |some o=>rw[s23 _ _ e] at hlo;cases hlo
 have eup:(B.upTo ws.length).map V.int=aL (cu ws.length (aR ws es 0)):=by
  show _=aL ((M7 ws.length).filter λi=>!([]:List Nat).contains i);have e:(M7 ws.length).filter (λi=>!([]:List Nat).contains i)=M7 ws.length:=Ov.mpr λi _=>Z
  rw[e];unfold B.upTo aL;rw[OE];rfl
 rw[eup] at hw4;generalize aE H3 lo (.lst [])=H4 at s14 hw4 ho4 ⊢;have keep:∀H',(∀b o,b≠wl->b≠lo->H4 b=some o->H' b=some o)->aD H1 H':=λH' kp b o e=>kp b o (λz=>by subst z;rw[wl0] at e;cases e) (λz=>by subst z;rw[lo0] at e;cases e) (s14 _ _ e)
 let Iv1:Nat->L2.St->Hp->Prop:=λm σ H'=>∃(i:Nat) (x5:Option V),σ=[some (.ref p),some u,some (.ref lm),some (.ref wl),some (.ref lo),x5]/\(∀b o,b≠wl->b≠lo->H4 b=some o->H' b=some o)/\H' wl=some (.lst (aL (cu ws.length (aR ws es i))))/\H' lo=some (.lst (aL (aR ws es i)))/\i≤ws.length/\m=ws.length-i
 refine⟨Iv1,⟨_,0,none,Z,λ_ _ _ _ e=>e,hw4,ho4,NB _,Z⟩,?_⟩;rintro m σ H5 ⟨i,x5,rfl,kp,hw5,ho5,hi,rfl⟩;have oi:=dP (es:=es) ak.rk i hi;have s5:=keep H5 kp;have wl_:=oi.wl;refine⟨_,Z,wl,_,Z,.inl (aV.of hw5),_,_,Z,Z,_,Z,?_⟩;have lnv:(aL (cu ws.length (aR ws es i))).length=(cu ws.length (aR ws es i)).length:=Na _;by_cases c:i<ws.length
 ·refine cC (by omega) ⟨_,λ_ _ z=>z,?_⟩;obtain⟨oi1,j,hj,ej⟩:=oi.step ak.rk c;refine⟨_,Z,_,Z,_,Z,.ref p,lm,wl,ws,es,rows,L,cu ws.length (aR ws es i),Z,⟨p,xs,Z,aK.same s5 _ _ hS1,(al.mono λ_ _ z=>z.mono (aK.same s1)).mono λ_ _ z=>z.mono (aK.same s5)⟩,w8,m1.same s5,c1,aV.of hw5,(λn hn=>(eW.mp hn).1),oi.ne c,by omega,ak.rk,λH6 s6=>?_⟩;refine⟨_,Z,.inl ⟨Z,_,aV.of (s6 _ _ hw5)⟩,_,Z,wl,_,j,_,Z,Z,s6 _ _ hw5,hj,AU (uw _ _) hj,?_⟩;rw[ej];have ho6:=s6 _ _ ho5;have ho7:aE H6 wl (.lst ((cu ws.length (aR ws es (i+1))).map λi:Nat=>V.int i)) lo=some (.lst (aL (aR ws es i))):=by rw[aJ nlw];exact ho6
  refine⟨_,Z,.inl ⟨Z,_,aV.of ho7⟩,_,Z,lo,_,_,Z,Z,ho7,bh (by unfold aL;rw[Na,oi.len];omega),?_⟩;refine⟨_,(by omega),i+1,_,Z,λb o n1 n2 e=>?_,?_,?_,c,Z⟩
  ·rw[aJ n2,aJ n1];exact s6 _ _ (kp b o n1 n2 e)
  ·rw[aJ (Qs nlw),ag];rfl
  ·rw[ag];show some (HO.lst (aL (aR ws es i)++[_]))=some (HO.lst (aL (aR ws es i++[_])));unfold aL;rw[N5];rfl
 ·refine cr (by omega) ?_;have e:i=ws.length:=by omega
  subst e;exact⟨_,Z,k lo H5 (s1.trans s5) (by
   cases e:H lo with
   |none=>rfl
   |some o=>rw[s1 _ _ e] at lo0;cases lo0) ho5⟩
theorem FG(T:fc K mg t):bX P w K mg base ee 4 t.a_Q18 t.d_Q18 ["works","order","left","turn","speed"] (oO K):=by
 refine T.F_Q18.ok jQ (λvs H Q E h=>?_) (λcdv A outer s H vs Q E hr h=>?_)
 ·obtain⟨_,_,_,_,_,_,_,_,_,_,rfl,_⟩:=h;rfl
 obtain⟨v,u,o,lf,ws,ord,xs,rs,t_,sp,rfl,⟨p,xw,rfl,hS,al⟩,ho,hlf,nol,alr,lr,okr,hu,asp,olt,o8,k⟩:=h;refine dS.ok (ae (cw 5 jQ.nd (cL af)) (ae (cw 6 jQ.nd (qv 4)) (ae (cj NI Z (cX (qv 1)) (ao (i:=7) jQ.nd Z (by first|exact NG Z|exact NC Z)) (ae (ca (dQ (df (cI (Av T) hr T.m_Q17 T.F_Q17.kp T.b_Q17 (ac (bZ au (qv 0) (qv 7)) (ac (qv 3) af ad) aI)))) (aj qT) be) (ae (cw 8 jQ.nd (cI (Fs T) hr T.m_Q41 T.F_Q41.kp T.b_Q41 (ac (bZ bI (qv 2) (qv 7)) (ac (qv 6) af ad) aI))) (aj (ca (aQ (o9 hr) (qv 8) (dN (v:=.ref t.c_NOUGHT) Z T.m_NOUGHT Z) (aT _)) (ae (dD (gY Od Og Oh cE (qv 5) (ac (bz (ac (qv 7) (ac (qv 8) af ad) ad)) af bO))) (ae (gf (cI (tK T) hr T.m_Q46 T.F_Q46.kp T.b_Q46 (ac (bZ bI (qv 2) (qv 7)) (ac (qv 8) af ad) aI)) (jV (qv 2) (qv 7) gu)) (aj (cw 6 jQ.nd (cI (tK T) hr T.m_Q46 T.F_Q46.kp T.b_Q46 (ac (qv 6) (ac (qv 8) af ad) ad)))))) be))))) (aj (aO (bM bJ (by rfl) T.z_tuple Pf (ac (qv 5) af ad))))))) ?_
 nofun
 refine⟨(by show 0≤sizeLine;exact NB _),λdl hdl=>?_⟩;have s1:=ai hdl (.lst []);have hd1:aE H dl (.lst []) dl=some (.lst []):=ag;have ndf:dl≠lf:=λz=>by subst z;rw[hlf] at hdl;cases hdl
 have ndo:dl≠o:=λz=>by subst z;rw[ho] at hdl;cases hdl
 have hlf1:=s1 _ _ hlf;have ho1:=s1 _ _ ho;generalize aE H dl (.lst [])=H1 at s1 hd1 hlf1 ho1 ⊢;have l12:∀r∈[dl,lf],∃xs,H1 r=some (.lst xs):=λr m=>by
  rcases Nq.mp m with z|z
  ·exact⟨_,by rw[z];exact hd1⟩
  ·exact⟨_,by rw[Nm.mp z];exact hlf1⟩
 have t1:=aK.same (K:=K) s1;have onot:o∉[dl,lf]:=λm=>by
  rcases Nq.mp m with z|z
  ·exact ndo z.symm
  ·exact nol (Nm.mp z)
 have md:dl∈[dl,lf]:=Ng;have ml:lf∈[dl,lf]:=No _ Ng;let Iv1:Nat->L2.St->Hp->Prop:=λi σ H'=>∃(rv:V) (zs ys:List V) (st:xD) (x8 x9:Option V),σ=[some (.ref p),some (.ref o),some (.ref lf),some (.int (t_:Nat)),some u,some (.ref dl),some rv,x8,x9]/\st=(ord.take i).foldl (cP ws t_) (rs,sp,[])/\Kp [dl,lf] H1 H'/\H' lf=some (.lst zs)/\cV (RV K H') zs st.1/\RV K H' rv st.2.1/\H' dl=some (.lst ys)/\cV (vG K H') ys st.2.2/\vI ws.length st/\st.2.2.length≤i
 refine⟨_,Z,_,Z,o,Z,⟨_,aV.of ho1⟩,gE (K:=K) (a:=o) (xs:=aL ord) Iv1 ⟨u,xs,[],(rs,sp,[]),none,none,Z,Z,Kp.same (aD.refl _) l12,hlf1,alr.mono λ_ _ z=>z.mono t1,hu.mono t1,hd1,.nil,⟨lr,okr,asp,λp hp=>by cases hp⟩,Nb _⟩ (λi σ H' _ ⟨_,_,_,_,_,_,_,_,kp,_⟩=>aV.of (kp.keep _ _ onot ho1)) ?_ ?_⟩
 ·rintro i x σ H3 hx ⟨rv,zs,ys,st,x8,x9,rfl,est,kp,hl3,alz,hrv,hd3,aly,dok,few⟩;obtain⟨n,hn,rfl⟩:=uZ hx;have nl:=olt n (Nd hn);have i8:i<ord.length:=(Ni.mp hn).1;have t3:=t1.trans (aK.kp kp);have es:(ord.take (i+1)).foldl (cP ws t_) (rs,sp,[])=cP ws t_ st n:=by rw[Oi,hn,P1,est];rfl
  obtain⟨wv,hwv⟩:∃wv,xw[n]?=some wv:=⟨_,M8 (by rw[al.len];exact nl)⟩;obtain⟨w,hw,hwk⟩:=al.at hwv;have ew:ws.getD n bV=w:=ap bV hw;obtain⟨zv,hzv⟩:∃zv,zs[n]?=some zv:=⟨_,M8 (by rw[alz.len,dok.len];exact nl)⟩;obtain⟨r,hr_,hrz⟩:=alz.at hzv;have er:st.1.getD n (0,1)=r:=ap (0,1) hr_;have ar:fe r:=dok.lf r (Nd hr_);refine⟨_,Z,_,Z,p,_,_,_,Z,Z,t3 _ _ hS,aY hwv,_,Z,_,w,t_,Z,hwk.mono t3,_,Z,?_⟩;obtain⟨dk1,fw1⟩:=dok.step (ws:=ws) (t:=t_) nl
  cases c:fw w t_ with
  |false=>
   refine nM (b:=!false) Z ?_;have e0:cP ws t_ st n=st:=by
    unfold cP;rw[if_neg];rintro⟨z,_⟩;rw[ew,c] at z
    cases z
   exact⟨rv,zs,ys,st,_,_,Z,(es.trans e0).symm,kp,hl3,alz,hrv,hd3,aly,dok,by omega⟩
  |true=>
   refine g7 (b:=!true) Z ?_;refine⟨_,Z,_,Z,lf,_,_,_,Z,Z,aV.of hl3,aY hzv,_,Z,_,rv,r,st.2.1,Z,hrz,hrv,ar,dok.rm,λa ha=>?_⟩;have aa:=pF ar dok.rm;generalize ea:fE r st.2.1=am at ha aa;refine⟨_,Z,dR am,dR (0,1),ha.deep,RV.deep ⟨_,Z,T.q_NOUGHT _⟩,Z,Z,rQ _,_,Z,?_⟩;rw[vi];by_cases cz:am=(0,1)
   ·refine g7 (b:=!decide (am=(0,1))) (by rw[decide_eq_true cz];rfl) ?_;have e0:cP ws t_ st n=st:=by
     unfold cP;rw[if_neg];rintro⟨_,z⟩;rw[er,ea] at z;exact z cz
    exact⟨rv,zs,ys,st,_,_,Z,(es.trans e0).symm,kp,hl3,alz,hrv,hd3,aly,dok,by omega⟩
   ·refine nM (b:=!decide (am=(0,1))) (by rw[decide_eq_false cz];rfl) ?_;have e1:cP ws t_ st n=(st.1.set n (cY r am),cY st.2.1 am,st.2.2++[(n,am)]):=by
     unfold cP;rw[if_pos ⟨by rw[ew];exact c,by rw[er,ea];exact cz⟩,er,ea]
    refine⟨_,Z,.inl ⟨Z,_,aV.of hd3⟩,_,Z,_,Z,g9,λpn hpn=>?_⟩;have s4:=ai hpn (.tup [.int (n:Nat),a]);have hp4:aE H3 pn (.tup [.int (n:Nat),a]) pn=some (.tup [.int (n:Nat),a]):=ag;generalize aE H3 pn (.tup [.int (n:Nat),a])=H4 at s4 hp4 ⊢;have hd4:=s4 _ _ hd3;have kp4:=kp.trans (Kp.same s4 kp.ls');refine⟨dl,ys,_,Z,Z,hd4,bh (by rw[aly.len];omega),?_⟩;have kp5:=Kp.up md kp4.ls' (ys++[.ref pn]);have hd5:aE H4 dl (.lst (ys++[.ref pn])) dl=some (.lst (ys++[.ref pn])):=ag;have hl5:aE H4 dl (.lst (ys++[.ref pn])) lf=some (.lst zs):=by rw[aJ (Qs ndf)];exact s4 _ _ hl3
    generalize aE H4 dl (.lst (ys++[.ref pn]))=H5 at kp5 hd5 hl5 ⊢;have t35:=(aK.same (K:=K) s4).trans (aK.kp kp5);have kq5:=kp4.trans kp5;refine⟨_,Z,_,Z,lf,_,_,_,Z,Z,aV.of hl5,aY hzv,_,Z,_,a,r,am,50,50,Z,hrz.mono t35,ha.mono t35,ar.wf,aa.wf,by decide,λmv H6 s6 hmv=>?_⟩;have hl6:=s6 _ _ hl5;have hd6:=s6 _ _ hd5;have kq6:=kq5.trans (Kp.same s6 kq5.ls');have t36:=t35.trans (aK.same s6);refine⟨_,Z,_,Z,lf,zs,_,n,Z,Z,hl6,pH (by rw[alz.len,dok.len];exact nl),?_⟩;have kp7:=Kp.up ml kq6.ls' (zs.set n mv);have hl7:aE H6 lf (.lst (zs.set n mv)) lf=some (.lst (zs.set n mv)):=ag;have hd7:aE H6 lf (.lst (zs.set n mv)) dl=some (.lst (ys++[.ref pn])):=by rw[aJ ndf];exact hd6
    generalize aE H6 lf (.lst (zs.set n mv))=H7 at kp7 hl7 hd7 ⊢;have t67:=aK.kp (K:=K) kp7;have t37:=t36.trans t67;have kq7:=kq6.trans kp7;refine⟨_,Z,_,Z,rv,a,st.2.1,am,50,50,Z,hrv.mono t37,ha.mono t37,dok.rm.wf,aa.wf,by decide,λrv2 H8 s8 hrv2=>?_⟩;have t78:=aK.same (K:=K) s8;have t38:=t37.trans t78;have est':cP ws t_ st n=(ord.take (i+1)).foldl (cP ws t_) (rs,sp,[]):=es.symm;rw[e1] at est' dk1 fw1;exact⟨rv2,_,_,_,_,_,Z,est',kq7.trans (Kp.same s8 kq7.ls'),s8 _ _ hl7,cV.setI (hmv.mono (t67.trans t78)) n (alz.mono λ_ _ z=>z.mono t38),hrv2,s8 _ _ hd7,cV.snoc ⟨pn,a,Z,(((aK.kp kp5).trans (aK.same s6)).trans (t67.trans t78)) _ _ (bC.of hp4),ha.mono t38⟩ (aly.mono λ_ _ z=>z.mono t38),dk1,by omega⟩
 ·rintro σ H3 ⟨rv,zs,ys,st,x8,x9,rfl,est,kp,hl3,alz,hrv,hd3,aly,dok,few⟩;rw[show(aL ord).length=ord.length from Na _,Op] at est;refine⟨_,Z,dl,_,Z,.inl ⟨aV.of hd3,λpt hpt=>?_⟩⟩;have s4:=ai hpt (.tup ys);have t34:=aK.same (K:=K) s4;have e:d7 ws ord t_ rs sp=st:=est.symm;refine k (.ref pt) zs _ ⟨λb o' nb e=>s4 _ _ (kp.keep b o' (λm=>?_) (s1 _ _ e)),⟨_,hlf⟩,⟨_,s4 _ _ hl3⟩⟩ (s4 _ _ hl3) (by rw[e];exact alz.mono λ_ _ z=>z.mono t34) (by rw[e];exact⟨pt,ys,Z,bC.of ag,aly.mono λ_ _ z=>z.mono t34⟩);rcases Nq.mp m with z|z
  ·rw[z,hdl] at e;cases e
  ·exact nb (Nm.mp z)
theorem Fr(T:fc K mg t):bX P w K mg base ee 5 t.a_Q49 t.d_Q49 ["works","leans","speeds"] (yi K):=by
 refine T.F_Q49.ok iX (λvs H Q E h=>?_) (λcdv A outer s H vs Q E hr h=>?_)
 ·obtain⟨_,_,_,_,_,_,rfl,_⟩:=h;rfl
 obtain⟨v,u,s_,ws,es,ss,rfl,ak,⟨q,qs,rfl,hq,alq⟩,l24,oks,nl_,k⟩:=h;refine dS.ok (ae (cw 3 iX.nd (cI (Fx T) hr T.m_Q29 T.F_Q29.kp T.b_Q29 (ac (qv 0) (ac (qv 1) af ad) ad))) (ae (dM (i:=4) (N':=["work"]) (src:=[none]) iX.nd Z (by first|exact NG Z|exact NC Z) Z (by exact(dg (qv 0))) (λ_ _ _ _ _=>(by exact(by exact ao (i:=0) (by show NQ (["work"]:List NV);decide +kernel) (by exact Z) (by first|exact NG Z|exact NC Z)))) (λ_ _ _ _ _=>bQ) (λ_ _ _ _ _=>(by exact(by exact(bB (bj (K:=K) (by exact Z)) (by exact(qv 0)) ah (by exact λ_ _=>Z))))) (by exact trivial) Z (by decide +kernel) Z (by decide +kernel) (by exact aS Z trivial)) (ae (cw 5 iX.nd (cL af)) (ae (cj NI Z (b8 Z T.z_range (ac (dN (v:=.int (24)) Z T.m_TURNS ⟨_,Z⟩) af ad)) (ao (i:=6) iX.nd Z (by first|exact NG Z|exact NC Z)) (aj (dD (gY Od Og Oh cE (qv 5) (ac (cI (FG T) hr T.m_Q18 T.F_Q18.kp T.b_Q18 (ac (qv 0) (ac (qv 3) (ac (qv 4) (ac (qv 6) (ac (bZ au (qv 2) (qv 6)) af aI) ad) ad) ad) ad)) af aF))))) (ae (cj NI Z (qU Z T.z_enumerate (ac (qv 4) af ad)) (ik Z (bi (ao (i:=7) iX.nd Z (by first|exact NG Z|exact NC Z)) (bi (ao (i:=8) iX.nd Z (by first|exact NG Z|exact NC Z)) dE))) (aj (ca (aQ (o9 hr) (qv 8) (dN (v:=.ref t.c_NOUGHT) Z T.m_NOUGHT Z) (aT _)) (aj gz) be))) (aj (aO (bM bJ (by rfl) T.z_tuple Pf (ac (qv 5) af ad))))))))) ?_
 nofun
 obtain⟨p,xs,rfl,hS,al⟩:=id ak.wv;have w8:=ak.w8;have lx:xs.length=ws.length:=al.len;refine⟨_,Z,_,Z,_,u,ws,es,Z,ak,λo H1 s1 _ ho=>?_⟩;have hS1:=aK.same (K:=K) s1 _ _ hS;refine⟨_,Z,p,Z,⟨_,hS1⟩,λlf hlf0=>dX (K:=K) (P:=RV K) (ds:=ws) (f:=λw=>w.2.2) (λ_ _ _ _ t z=>z.mono t) hlf0 hS1 lx (by omega) (λi x d H' hx hd sm Rk E kR=>?_) λH2 ys s2 hlf al2=>?_⟩
 ·obtain⟨d',hd',pw,xa,rfl,hSw,rx⟩:=al.at hx;rw[hd] at hd'
  cases hd'
  have t':=aK.same (K:=K) (s1.trans sm);exact⟨fu.set Z,_,Z,pw,_,_,_,Z,Z,t' _ _ hSw,Z,kR _ _ (aD.refl _) (rx.mono t')⟩
 have ho2:=s2 _ _ ho;have nol:o≠lf:=λz=>by subst z;rw[ho] at hlf0;cases hlf0
 have lfN:H lf=none:=by
  cases e:H lf with
  |none=>rfl
  |some o'=>rw[s1 _ _ e] at hlf0;cases hlf0
 refine⟨(by show 0≤sizeLine;exact NB _),λpl hpl=>?_⟩;have s3:=ai hpl (.lst []);have hp3:aE H2 pl (.lst []) pl=some (.lst []):=ag;have npf:pl≠lf:=λz=>by subst z;rw[hlf] at hpl;cases hpl
 have npo:pl≠o:=λz=>by subst z;rw[ho2] at hpl;cases hpl
 have hl3:=s3 _ _ hlf;have ho3:=s3 _ _ ho2;have al3:=al2.mono λ_ _ z=>z.mono (aK.same s3)
 have s03:=(s1.trans s2).trans s3;have plN:H pl=none:=by
  cases e:H pl with
  |none=>rfl
  |some o'=>rw[s2 _ _ (s1 _ _ e)] at hpl;cases hpl
 generalize aE H2 pl (.lst [])=H3 at s03 hp3 hl3 ho3 al3 ⊢;have t03:=aK.same (K:=K) s03;have oi:=dP (es:=es) ak.rk ws.length (Nb _);have pk:=fB (ord:=aR ws es ws.length) ak.ok oi.lt oks;have md:pl∈[pl,lf]:=Ng;have l12:∀r∈[pl,lf],∃xs,H3 r=some (.lst xs):=λr m=>by
  rcases Nq.mp m with z|z
  ·exact⟨_,by rw[z];exact hp3⟩
  ·exact⟨_,by rw[Nm.mp z];exact hl3⟩
 have onot:o∉[pl,lf]:=λm=>by
  rcases Nq.mp m with z|z
  ·exact npo z.symm
  ·exact nol (Nm.mp z)
 have sk:∀H',Kp [pl,lf] H3 H'->aD H H':=λH' kp b o' e=>kp.keep b o' (λm=>by
  rcases Nq.mp m with z|z
  ·rw[z,plN] at e;cases e
  ·rw[Nm.mp z,lfN] at e;cases e) (s03 _ _ e)
 have olt:=oi.lt;have olen:=oi.len;generalize hod:aR ws es ws.length=od at ho3 pk olt olen;let Iv1:Nat->L2.St->Hp->Prop:=λi σ H'=>∃(zs ys:List V) (x7 x8 x9:Option V),σ=[some (.ref p),some u,some (.ref q),some (.ref o),some (.ref lf),some (.ref pl),x7,x8,x9]/\Kp [pl,lf] H3 H'/\H' lf=some (.lst zs)/\cV (RV K H') zs (bc ws od ss i).1/\H' pl=some (.lst ys)/\cV (xq K H') ys (bc ws od ss i).2
 refine⟨24,Z,by decide,by decide,cZ (lo:=0) (n:=24) Iv1 ⟨_,[],none,none,none,Z,Kp.same (aD.refl _) l12,hl3,al3,hp3,.nil⟩ ?_ ?_⟩
 ·rintro i σ H4 hi ⟨zs,ys,x7,x8,x9,rfl,kp,hl4,alz,hp4,aly⟩;obtain⟨po,pl_⟩:=pk i;have t4:=t03.trans (aK.kp kp);obtain⟨sv,hsv⟩:∃sv,qs[i]?=some sv:=⟨_,M8 (by rw[alq.len,l24];exact hi)⟩;obtain⟨sp,hsp,rsp⟩:=alq.at hsv;have esp:ss.getD i (0,1)=sp:=ap (0,1) hsp;have z0:(0:Int)+(i:Int)=(i:Int):=PP _;refine⟨_,Z,.inl ⟨Z,_,aV.of hp4⟩,_,Z,_,Z,_,Z,_,Z,_,Z,_,Z,q,_,_,_,Z,Z,t4 _ _ hq,(by rw[z0];exact aY hsv),.ref p,sv,o,lf,ws,od,zs,(bc ws od ss i).1,i,sp,(by rw[z0];rfl),⟨p,xs,Z,t4 _ _ hS,al.mono λ_ _ z=>z.mono t4⟩,kp.keep _ _ onot ho3,hl4,nol,alz,po.len,po.lf,rsp.mono t4,oks _ (Nd hsp),olt,by rw[olen];omega,λw ys' H5 S5 hl5 al5 tn5=>?_⟩;have hp5:=S5.keep _ _ npf hp4;have t45:=aK.step (K:=K) S5;have kp5:Kp [pl,lf] H4 H5:=⟨λb o' nb e=>S5.keep b o' (λz=>nb (by rw[z];exact No _ Ng)) e,kp.ls',λr m=>by
   rcases Nq.mp m with z|z
   ·exact⟨_,by rw[z];exact hp5⟩
   ·exact⟨_,by rw[Nm.mp z];exact hl5⟩⟩
  have kq5:=kp.trans kp5;refine⟨pl,ys,_,Z,Z,hp5,bh (by rw[aly.len,pl_];omega),?_⟩;have kp6:=Kp.up md kq5.ls' (ys++[w]);have t56:=aK.kp (K:=K) kp6;rw[←esp] at al5 tn5;exact⟨ys',_,_,_,_,Z,kq5.trans kp6,by rw[aJ (Qs npf)];exact hl5,al5.mono λ_ _ z=>z.mono t56,ag,cV.snoc (tn5.mono t56) (aly.mono λ_ _ z=>(z.mono t45).mono t56)⟩
 rintro σ H4 ⟨zs,ys,x7,x8,x9,rfl,kp,hl4,alz,hp4,aly⟩;obtain⟨po,pl_⟩:=pk 24;have ed:dI ws es ss=bc ws od ss 24:=by unfold dI;rw[hod]
 rw[ed] at k nl_;have s04:=sk H4 kp;generalize bc ws od ss 24=pm at k nl_ alz aly po pl_;have lz:zs.length=ws.length:=by rw[alz.len,po.len]
 let Iv2:Nat->L2.St->Hp->Prop:=λi σ H'=>∃(x8 x9:Option V),σ=[some (.ref p),some u,some (.ref q),some (.ref o),some (.ref lf),some (.ref pl),x7,x8,x9]/\aD H4 H'/\∀j,j<i->pm.1.getD j (0,1)=(0,1)
 refine⟨_,Z,lf,Z,⟨_,aV.of hl4⟩,wK (K:=K) (a:=lf) (xs:=zs) Iv2 ⟨_,_,Z,aD.refl _,λj hj=>absurd hj (Qr _)⟩ (λi σ H' _ ⟨_,_,_,sm,_⟩=>aV.of (sm _ _ hl4)) ?_ ?_⟩
 ·rintro i x pe σ H5 hx ⟨x8,x9,rfl,s5,le⟩ hpe;obtain⟨r,hr_,hrz⟩:=alz.at hx;have er:pm.1.getD i (0,1)=r:=ap (0,1) hr_;have il:i<pm.1.length:=(Ni.mp hr_).1;have s6:=ai hpe (.tup [.int i,x]);have hpe6:aE H5 pe (.tup [.int i,x]) pe=some (.tup [.int i,x]):=ag;generalize aE H5 pe (.tup [.int i,x])=H6 at s6 hpe6 ⊢;have s46:=s5.trans s6;have t46:=aK.same (K:=K) s46;refine⟨pe,_,Z,bC.of hpe6,Z,_,_,Z,_,_,Z,Z,?_⟩;refine⟨_,Z,dR r,dR (0,1),(hrz.mono t46).deep,RV.deep ⟨_,Z,T.q_NOUGHT _⟩,Z,Z,rQ _,_,Z,?_⟩;rw[vi];by_cases cz:r=(0,1)
  ·refine g7 (b:=!decide (r=(0,1))) (by rw[decide_eq_true cz];rfl) ?_;refine⟨_,_,Z,s46,λj hj=>?_⟩;by_cases z:j<i
   ·exact le j z
   ·rw[show j=i by omega,er];exact cz
  ·refine nM (b:=!decide (r=(0,1))) (by rw[decide_eq_false cz];rfl) ?_;exact absurd nl_ (by rw[wB il (by rw[er];exact cz) le];exact λz=>nomatch z)
 ·rintro σ H5 ⟨x8,x9,rfl,s5,le⟩;refine⟨_,Z,pl,_,Z,.inl ⟨aV.of (s5 _ _ hp4),λpt hpt=>?_⟩⟩;have s6:=ai hpt (.tup ys);have t46:=(aK.same (K:=K) s5).trans (aK.same s6);refine k (.ref pt) _ ((s04.trans s5).trans s6) ?_;exact .tup (bC.of ag) ((aly.mono λ_ _ z=>z.mono t46).deep λ_ _ z=>z.deep)
theorem FJ(T:fc K mg t):bX P w K mg base ee 6 t.a_Q14 t.d_Q14 ["sheet"] (mU K):=by
 refine T.F_Q14.ok yE (λvs H Q E h=>?_) (λcdv A outer s H vs Q E hr h=>?_)
 ·obtain⟨_,_,_,rfl,_⟩:=h;rfl
 obtain⟨v,ws,es,rfl,sa,nb_,k⟩:=h;refine dS.ok (ae (cw 1 yE.nd (cI (Fz T) hr T.m_Q27 T.F_Q27.kp T.b_Q27 (ac (qv 0) af ad))) (aj (aO (cI (Fr T) hr T.m_Q49 T.F_Q49.kp T.b_Q49 (ac (qv 1) (ac (bZ au (qv 0) ah) (ac (cI (Im T) hr T.m_Q7 T.F_Q7.kp T.b_Q7 (ac (qv 1) af ad)) af aF) aI) ad))))) ?_
 nofun
 obtain⟨p,a,b,rfl,hS,wv,lv⟩:=id sa.sv;refine⟨_,Z,.ref p,ws,es,Z,sa.sv,sa.sh,nb_,λf l u H1 s1 win nb d1=>?_⟩;have ok':=DI sa.ok win nb;have wv':=CV sa.ok win d1;have w8:=sa.w8;have len:=tW ws f l;have t1:=aK.same (K:=K) s1;refine⟨_,Z,_,Z,p,_,_,_,Z,Z,t1 _ _ hS,Z,_,Z,u,kL ws f l,Z,wv',by omega,ok',λq xs lys H2 s2 hq al ly=>?_⟩;have lok:=tO ly (by decide) (λt ht=>Nk.mp ht);have ams:=sF ok' (by omega) lok;have ak:IX K H2 u b (kL ws f l) es:=⟨wv'.mono (aK.same s2),by omega,ok',(lv.mono t1).mono (aK.same s2),by rw[len];exact sa.eok,by rw[len];exact sa.rk,sa.e8⟩;have nl:=wo (es:=es) ok' (by rw[len];exact sa.rk) ly ams;have l24:(aX (kL ws f l) lys).length=24:=by unfold aX;rw[iD];rfl
 refine⟨u,b,.ref q,kL ws f l,es,aX (kL ws f l) lys,Z,ak,⟨q,xs,Z,hq,al⟩,l24,ams,nl,λw H3 s3 dw=>?_⟩;exact k f l lys w H3 ((s1.trans s2).trans s3) win nb ly dw
theorem Il(T:fc K mg t):bX P w K mg base ee 4 t.a_Q8 t.d_Q8 ["work","top","turns"] (kF K):=by
 refine T.F_Q8.ok yx (λvs H Q E h=>?_) (λcdv A outer s H vs Q E hr h=>?_)
 ·obtain⟨_,_,_,_,_,_,rfl,_⟩:=h;rfl
 obtain⟨v,u,q,w,tp,ls,rfl,⟨p,x,rfl,hS,rx⟩,ok,hu,ht,hq,k⟩:=h;refine dS.ok (ae (dM (i:=3) (N':=["turn","turns"]) (src:=[none,some 2]) yx.nd Z (by first|exact NG Z|exact NC Z) Z (by exact(iG Z T.z_range (ac (bZ au (qv 0) ah) (ac (aP cM (bZ au (qv 0) ah) ah) af bu) aI))) (λ_ _ _ _ _=>(by exact(by exact ao (i:=0) (by show NQ (["turn","turns"]:List NV);decide +kernel) (by exact Z) (by first|exact NG Z|exact NC Z)))) (λ_ _ _ _ _=>(dC (aQ (eP (K:=K) (by exact Z)) (by exact(qv 0)) (by exact(qv 1)) (by with_unfolding_all rfl)))) (λ_ _ _ _ _=>(by exact(by exact(qv 0)))) (by exact⟨Z,Z,Z,Z,trivial⟩) Z (by decide +kernel) Z (by decide +kernel) (by exact aS Z ⟨Z,trivial⟩)) (ae (cw 4 yx.nd (cI (tK T) hr T.m_Q46 T.F_Q46.kp T.b_Q46 (ac (bZ au (qv 0) ah) (ac (cI (tJ T) hr T.m_Q47 T.F_Q47.kp T.b_Q47 (ac (qv 1) (ac (bz (ac (aG aH (by rfl) T.z_len OD (ac (qv 3) af ad)) (ac ah af aB) aF)) af bO) ad)) af aF) aI))) (ae (ca (df (cI (ph T) hr T.m_Q36 T.F_Q36.kp T.b_Q36 (ac (qv 4) (ac (dN (v:=.ref t.c_NOUGHT) Z T.m_NOUGHT Z) af ad) ad))) (aj (aO (dN (v:=.ref t.c_NOUGHT) Z T.m_NOUGHT Z))) be) (aj (aO (qv 4)))))) ?_
 nofun
 have ole:=ok.le;have olt:=ok.lt;have e1:(((w.2.1:Nat):Int)+1-((w.1:Nat):Int)).toNat=w.2.1+1-w.1:=by omega
 refine⟨_,Z,p,_,_,_,Z,Z,hS,Z,_,Z,p,_,_,_,Z,Z,hS,Z,_,_,Z,Z,_,_,Z,?_,λD hD=>?_⟩
 ·refine⟨by omega,by omega,by omega,by omega⟩
 rw[e1];refine bY (kM (lo:=((w.1:Nat):Int))) (λi=>!ls.contains (w.1+i)) (λi=>V.int ((w.1:Nat)+(i:Nat):Int)) hD (by omega) (λi x H' hi s' hx R E kR kE=>?_) λH4 s4 h4=>?_
 ·subst hx;refine⟨fu.set Z,_,Z,_,Z,q,_,Z,.inr (aK.same (K:=K) s' _ _ hq),Z,?_,?_⟩
  ·unfold aL;rw[Rp];exact N4.mpr λ_ _=>Z
  ·refine⟨_,Z,?_⟩;rw[show vd (V.int ((w.1:Nat)+(i:Nat):Int)) (aL ls)=ls.contains (w.1+i) from k7 _ _]
   cases c:ls.contains (w.1+i) with
   |true=>exact d0 (kE (by show(!ls.contains (w.1+i))=false;rw[c];rfl) _ (aD.refl _))
   |false=>exact hJ ⟨_,Z,kR (by show(!ls.contains (w.1+i))=true;rw[c];rfl) _ (aD.refl _)⟩
 have ln:(((M7 (w.2.1+1-w.1)).filter λi=>!ls.contains (w.1+i)).map λi=>V.int ((w.1:Nat)+(i:Nat):Int)).length=cy ls w:=by rw[Na];rfl
 have t4:=aK.same (K:=K) s4;refine⟨_,Z,p,_,_,_,Z,Z,t4 _ _ hS,Z,_,Z,_,Z,D,_,Z,.inl (aV.of h4),g9,λp5 h5=>?_⟩;rw[ln];have s5:=ai h5 (.tup [.int (cy ls w:Int),.int 1]);have r5:RV K (aE H4 p5 (.tup [.int (cy ls w:Int),.int 1])) (.ref p5) ((cy ls w:Int),1):=RV.of ag;generalize aE H4 p5 (.tup [.int (cy ls w:Int),.int 1])=H5 at s5 r5 ⊢;have o24:=tF (ls:=ls) olt;have wi:Wf 70 (((cy ls w:Nat):Int),1):=((gj (i:=(cy ls w:Int)) (n:=24) (by omega)).mono (O7 _) (Nb _)).wf (by decide) (by decide) (by decide);have t5:=t4.trans (aK.same (K:=K) s5);refine⟨u,.ref p5,tp,(((cy ls w:Nat):Int),1),70,70,Z,hu.mono t5,r5,eE ht (by decide),wi,by decide,λp6 h6=>?_⟩;have s6:=ai h6 (.tup [.int (aC tp (((cy ls w:Nat):Int),1)).1,.int (aC tp (((cy ls w:Nat):Int),1)).2]);have r6:RV K _ (.ref p6) (aC tp (((cy ls w:Nat):Int),1)):=RV.of (ag (H:=H5) (a:=p6) (o:=.tup [.int (aC tp (((cy ls w:Nat):Int),1)).1,.int (aC tp (((cy ls w:Nat):Int),1)).2]));have wt:Wf 70 (aC tp (((cy ls w:Nat):Int),1)):=eE ((Bq.times ht (gj (i:=(cy ls w:Int)) (n:=24) (by omega))).mono ⟨1,by decide⟩ (Nb _)) (by decide);refine⟨x,.ref p6,w.2.2,_,4,70,Z,rx.mono (t5.trans (aK.same s6)),r6,ok.am.wf,wt,by decide,λv7 H7 s7 r7=>?_⟩;have wr:=kX (ls:=ls) ht ok;have s17:=((s4.trans s5).trans s6).trans s7;refine⟨_,Z,v7,.ref t.c_NOUGHT,cH tp ls w,(0,1),70,1,Z,r7,⟨_,Z,T.q_NOUGHT _⟩,eE wr (by decide),gL,by decide,_,Z,?_⟩
 cases c0:bK (cH tp ls w) (0,1) with
 |true=>
  refine hJ ?_;refine k _ _ s17 ?_;rw[C4 c0];exact⟨_,Z,T.q_NOUGHT _⟩
 |false=>
  refine d0 ⟨_,Z,?_⟩;refine k _ _ s17 ?_;rw[vy wr.red c0];exact r7
theorem FF(T:fc K mg t):bX P w K mg base ee 5 t.a_Q19 t.d_Q19 ["works","hands","top","thing"] (oF K):=by
 refine T.F_Q19.ok yD (λvs H Q E h=>?_) (λcdv A outer s H vs Q E hr h=>?_)
 ·obtain⟨_,_,_,_,_,_,_,rfl,_⟩:=h;rfl
 obtain⟨v,u,pc,ws,hn,tp,ls,rfl,a,lq,k⟩:=h;refine dS.ok (ae (ca (dQ (df (cI (FH T) hr T.m_Q16 T.F_Q16.kp T.b_Q16 (ac (qv 3) (ac (dN (v:=.int (24)) Z T.m_TURNS ⟨_,Z⟩) af ad) ad)))) (aj gz) be) (ae (cw 4 yD.nd (cI (tJ T) hr T.m_Q47 T.F_Q47.kp T.b_Q47 (ac (qv 2) (ac (bz (ac (aP fk (qv 1) (aG aH (by rfl) T.z_len OD (ac (qv 3) af ad))) (ac ah af aB) bu)) af bO) ad))) (ae (ca (dQ (df (cI (ph T) hr T.m_Q36 T.F_Q36.kp T.b_Q36 (ac (qv 4) (ac (cI (Aq T) hr T.m_Q48 T.F_Q48.kp T.b_Q48 (ac (bD (N':=["work","top","thing"]) (src:=[none,some 2,some 3]) Z (by exact(dg (qv 0))) (λ_ _ _ _ _=>(by exact(by exact ao (i:=0) (by show NQ (["work","top","thing"]:List NV);decide +kernel) (by exact Z) (by first|exact NG Z|exact NC Z)))) (λ_ _ _ _ _=>bQ) (λ_ _ _ _ _=>(by exact(by exact(fz (Il T) (by exact hr.mono (by decide)) (by exact Z) T.m_Q8 T.F_Q8.kp T.b_Q8 (by exact .nil) (by exact ju) (ac (by exact(qv 0)) (ac (by exact(qv 1)) (ac (by exact(qv 2)) af ad) ad) ad))))) (by exact⟨Z,Z,Z,Z,⟨Z,Z,Z,Z,trivial⟩⟩) Z (by decide +kernel) Z (by decide +kernel) (by exact aS Z ⟨Z,⟨Z,trivial⟩⟩)) af cW)) af aF) ad)))) (aj gz) be) (aj (aO eU))))) ?_
 nofun
 have hC:=a.hC;have l24:=a.l24;refine⟨_,Z,.ref pc,rg ls,Z,mE hC,(by show(ls.map _).length≤24;rw[Na];exact l24),λH1 s1=>⟨_,Z,?_⟩⟩;rw[EN a.srt a.lt];refine d0 ?_;have nl:(aL ls).length=ls.length:=Na _;have t1:=aK.same (K:=K) s1;refine⟨_,Z,_,Z,_,Z,pc,_,Z,.inr (t1 _ _ hC),_,_,Z,Z,.inl ⟨by have:=a.h9;omega,by have:=a.h9;omega⟩,g9,λp2 h2=>?_⟩;have en:(hn:Int)*((aL ls).length:Int)=((hn*ls.length:Nat):Int):=by rw[nl];exact(RF _ _).symm
 dsimp only;rw[en];have s2:=ai h2 (.tup [.int ((hn*ls.length:Nat):Int),.int 1]);have r2:RV K (aE H1 p2 (.tup [.int ((hn*ls.length:Nat):Int),.int 1])) (.ref p2) (((hn*ls.length:Nat):Int),1):=RV.of ag;generalize aE H1 p2 (.tup [.int ((hn*ls.length:Nat):Int),.int 1])=H2 at s2 r2 ⊢;have t2:=t1.trans (aK.same (K:=K) s2);have m9:hn*ls.length≤9*24:=UO a.h9 l24;have wi:Wf 70 (((hn*ls.length:Nat):Int),1):=(gj (i:=((hn*ls.length:Nat):Int)) (n:=216) (by omega)).wf (by decide) (by decide) (by decide);refine⟨u,.ref p2,tp,(((hn*ls.length:Nat):Int),1),70,70,Z,a.rv.mono t2,r2,eE a.tp (by decide),wi,by decide,λp3 h3=>?_⟩;have s3:=ai h3 (.tup [.int (dU hn tp ls).1,.int (dU hn tp ls).2]);have r3:RV K (aE H2 p3 (.tup [.int (dU hn tp ls).1,.int (dU hn tp ls).2])) (.ref p3) (dU hn tp ls):=RV.of ag
 replace s3:aD H2 _:=s3
 generalize hG:aE H2 p3 (.tup [.int (dU hn tp ls).1,.int (dU hn tp ls).2])=H3 at s3 r3;rw[show aE H2 p3 (.tup [.int (aC tp (((hn*ls.length:Nat):Int),1)).1,.int (aC tp (((hn*ls.length:Nat):Int),1)).2])=H3 from hG];have s13:=(s1.trans s2).trans s3;have a3:=a.same s13;obtain⟨pw,xs,rfl,hS,al⟩:=a3.wv;have lx:=al.len;have w9:=a.w9;have hC3:=aK.same (K:=K) s13 _ _ hC;refine⟨_,Z,_,Z,pw,Z,⟨_,hS⟩,λD hD=>dX (K:=K) (P:=RV K) (ds:=ws) (f:=gX tp ls) (λ_ _ _ _ t p=>p.mono t) hD hS lx (by omega) (λi x w H' hx hd s' R E kR=>?_) λH4 ys s4 h4 al4=>?_⟩
 ·have t':=aK.same (K:=K) s';obtain⟨w',hw',wv⟩:=al.at hx;rw[hd] at hw'
  cases hw'
  exact⟨fu.set Z,_,Z,_,Z,_,Z,x,u,pc,w,tp,ls,Z,wv.mono t',a.ok w (Nd hd),a3.rv.mono t',a.tp,t' _ _ hC3,λv' H'' s'' r''=>kR v' H'' s'' r''⟩
 have bq:∀r∈ws.map (gX tp ls),Bq 4452576736608000 5196 r:=λr hr=>by
  obtain⟨w,hw,rfl⟩:=Nu.mp hr;exact pQ a.tp (a.ok w hw)
 refine⟨D,ys,ws.map (gX tp ls),70,Z,.inl (aV.of h4),vB al4,λr hr=>eE (bq r hr) (by decide),by rw[Na];omega,by rw[Na];omega,λv5 H5 s5 r5=>?_⟩;have s15:=(s13.trans s4).trans s5;refine⟨.ref p3,v5,dU hn tp ls,eR ws tp ls,70,70,Z,r3.mono (aK.same (s4.trans s5)),r5,eE (oW a.tp a.h9 l24) (by decide),eE (jc a.tp a.ok w9) (by decide),by decide,⟨_,Z,?_⟩⟩;rw[lq];refine d0 ?_;exact k _ s15
theorem Fp(T:fc K mg t):bX P w K mg base ee 7 t.a_Q53 t.d_Q53 ["works","top"] (BJ K):=by
 refine T.F_Q53.ok yy (λvs H Q E h=>?_) (λcdv A outer s H vs Q E hr h=>?_)
 ·obtain⟨_,_,_,_,rfl,_⟩:=h;rfl
 obtain⟨v,w,ws,r,rfl,wv,w8,ok,rw_,wr,k⟩:=h;refine dS.ok (ae (cw 2 yy.nd (cI (As T) hr T.m_Q42 T.F_Q42.kp T.b_Q42 (ac (qv 0) af ad))) (ae (ca (fS (ii (aQ eV (aG aH (by rfl) T.z_len OD (ac (qv 2) af ad)) ah (aT _)) (iF (df (cI (ph T) hr T.m_Q36 T.F_Q36.kp T.b_Q36 (ac (qv 1) (ac (cI (Dx T) hr T.m_Q2 T.F_Q2.kp T.b_Q2 (ac (qv 0) (ac (bZ au (qv 2) ah) af aI) ad)) af aF) ad)))))) (aj (aO (bz (ac (dN (v:=.str "much") Z T.m_MUCH ⟨_,Z⟩) (ac (bZ au (bZ au (qv 2) ah) ah) af aI) ad)))) be) (aj (aO (bz (ac (dN (v:=.str "fits") Z T.m_FITS ⟨_,Z⟩) (ac (cI (FJ T) hr T.m_Q14 T.F_Q14.kp T.b_Q14 (ac (bz (ac (qv 0) (ac (bz af) af bO) ad)) af bO)) af aF) ad)))))) ?_
 nofun
 refine⟨_,Z,v,ws,Z,wv,by omega,ok,λx lys H1 s1 lv ly lok _=>?_⟩;obtain⟨k1,k2⟩:=k lys ly;have t1:=aK.same (K:=K) s1;obtain⟨px,xs,rfl,hx,al⟩:=id lv;have lx:=al.len;refine⟨_,Z,px,_,Z,.inr hx,_,_,Z,Z,_,Z,?_⟩
 cases lys with
 |nil=>
  cases al
  refine cr (by decide) (d0 ?_);have kf:∀(y:Ly) (z:List Ly),([]:List Ly)=y::z->bK r (de ws y)=false:=λy z e=>by cases e
  have sX:=s1;generalize H1=HX at sX;refine⟨_,Z,(by show 0≤sizeLine;exact NB _),λpe he=>⟨g9,λps hs=>?_⟩⟩;have e6:=ai he (.tup []);have e7:=ai hs (.tup [v,.ref pe]);have h6:aE (aE HX pe (.tup [])) ps (.tup [v,.ref pe]) pe=some (.tup []):=e7 _ _ ag;have h7:aE (aE HX pe (.tup [])) ps (.tup [v,.ref pe]) ps=some (.tup [v,.ref pe]):=ag;have e67:=e6.trans e7;generalize aE (aE HX pe (.tup [])) ps (.tup [v,.ref pe])=H7 at h6 h7 e67 ⊢;have sX7:=sX.trans e67;have sa:DM K H7 (.ref ps) ws []:=⟨⟨ps,v,.ref pe,Z,bC.of h7,wv.mono (aK.same sX7),⟨pe,[],Z,bC.of h6,.nil⟩⟩,w8,ok,Z,jo _,by decide⟩;refine⟨.ref ps,ws,[],Z,sa,pR ok,λf l lys' x H8 s8 win nb ly' d=>⟨g9,λp9 h9=>?_⟩⟩;have e9:=ai h9 (.tup [.str (OL "fits"),x]);rw[mC win] at ly';have el:=fM.uniq ly' ly;subst el;unfold JX at d;rw[mC win] at d;exact k2 kf _ _ ((sX7.trans s8).trans e9) ⟨p9,x,Z,bC.of ag,d.same e9⟩
 |cons y z=>
  cases al with
  | @cons x0 _ xr _ ly0 alr=>
  refine cC (by rw[NU];omega) ?_;have a0:mN (x0::xr) 0=some x0:=aY (j:=0) Z;refine⟨_,Z,_,Z,_,Z,px,_,_,_,Z,Z,hx,a0,v,x0,ws,y,Z,wv.mono t1,by omega,ok,ly0,lok y Ng,λu5 H5 s5 r5=>?_⟩;have t5:=aK.same (K:=K) s5;refine⟨w,u5,r,de ws y,70,70,Z,(rw_.mono t1).mono t5,r5,wr,((jN ok (by omega) (lok y Ng)).am (by decide)).wf.mono (by decide),by decide,_,Z,?_⟩
  cases c:bK r (de ws y) with
  |true=>
   refine hJ ?_;obtain⟨py,qa,qb,rfl,hy,hqa,_⟩:=id ly0;refine⟨_,Z,px,_,_,_,Z,Z,t5 _ _ hx,a0,py,_,_,_,Z,Z,t5 _ _ hy,Z,g9,λp6 h6=>?_⟩;have e6:=ai h6 (.tup [.str (OL "much"),.ref qa]);exact k1 y z _ _ Z (lok y Ng) c ((s1.trans s5).trans e6) ⟨p6,qa,Z,bC.of ag,(t5.trans (aK.same e6)) _ _ hqa⟩
  |false=>
   refine d0 ?_;have kf:∀(y':Ly) (z':List Ly),y::z=y'::z'->bK r (de ws y')=false:=λy' z' e=>by
    cases e
    exact c
   have sX:=s1.trans s5;generalize H5=HX at sX;refine⟨_,Z,(by show 0≤sizeLine;exact NB _),λpe he=>⟨g9,λps hs=>?_⟩⟩;have e6:=ai he (.tup []);have e7:=ai hs (.tup [v,.ref pe]);have h6:aE (aE HX pe (.tup [])) ps (.tup [v,.ref pe]) pe=some (.tup []):=e7 _ _ ag;have h7:aE (aE HX pe (.tup [])) ps (.tup [v,.ref pe]) ps=some (.tup [v,.ref pe]):=ag;have e67:=e6.trans e7;generalize aE (aE HX pe (.tup [])) ps (.tup [v,.ref pe])=H7 at h6 h7 e67 ⊢;have sX7:=sX.trans e67;have sa:DM K H7 (.ref ps) ws []:=⟨⟨ps,v,.ref pe,Z,bC.of h7,wv.mono (aK.same sX7),⟨pe,[],Z,bC.of h6,.nil⟩⟩,w8,ok,Z,jo _,by decide⟩;refine⟨.ref ps,ws,[],Z,sa,pR ok,λf l lys' x H8 s8 win nb ly' d=>⟨g9,λp9 h9=>?_⟩⟩;have e9:=ai h9 (.tup [.str (OL "fits"),x]);rw[mC win] at ly';have el:=fM.uniq ly' ly;subst el;unfold JX at d;rw[mC win] at d;exact k2 kf _ _ ((sX7.trans s8).trans e9) ⟨p9,x,Z,bC.of ag,d.same e9⟩
theorem Fw(T:fc K mg t):bX P w K mg base ee 1 t.a_Q30 t.d_Q30 ["_law_script"] (qC K):=by
 refine T.F_Q30.ok Es (λvs H Q E h=>?_) (λcdv A outer s H vs Q E hr h=>?_)
 ·obtain⟨_,_,rfl,_⟩:=h;rfl
 obtain⟨a,ns,rfl,hS,hl,k⟩:=h;refine dS.ok (aj (aO (cL (ac (qv 0) (ac ah (ac ah af aB) aB) ad)))) ?_;nofun
 refine⟨_,Z,IY,λt ht=>?_⟩;exact k t _ (ai ht _) ht (cD.mk3 hS hl ht)
theorem d9(T:fc K mg t):bX P w K mg base ee 1 t.a_Q31 t.d_Q31 ["_law_tape_here","_law_many"] (qI K):=by
 refine T.F_Q31.ok jP (λvs H Q E h=>?_) (λcdv A outer s H vs Q E hr h=>?_)
 ·obtain⟨_,_,_,rfl,_⟩:=h;rfl
 obtain⟨t₁,s₁,m,rfl,tp,hm0,hm1,k⟩:=h;refine dS.ok (ae (ca (aQ gA (bZ bI (qv 0) ah) ah (aT _)) (ae (cw 2 jP.nd (bZ bI (qv 0) ah)) (ae (gf (aP cM (qv 2) ah) (jV (qv 0) ah gu)) (ae (cw 3 jP.nd (qv 2)) (ae (ca (aQ eV (aG aH (by rfl) T.z_len OD (ac (bZ bI (qv 0) ah) af aI)) ah (aT _)) (aj (cw 3 jP.nd (bZ bI (bZ bI (qv 0) ah) (aP gh (qv 2) (aG aH (by rfl) T.z_len OD (ac (bZ bI (qv 0) ah) af aI)))))) be) (ae (ca (fS (iQ (aQ lS (qv 3) (aP Fl ah ah) (aT _)) (gQ (aQ Ij (qv 2) (aG aH (by rfl) T.z_len OD (ac (bZ bI (qv 0) ah) af aI)) (aT _))))) (ae (cw 4 jP.nd (aP gh (aP fk (aP cM (aP gh (qv 3) ah) ah) (aP cM ah (aP fk ah (aP gh (qv 2) ah)))) ah)) (aj (aO (aP gh (aP jv (aP gh (aP fk (aP cM (qv 4) (aP fk ah (qv 2))) ah) ah) ah) (qv 1))))) be) (aj (gf (qv 3) (jV (qv 0) ah gu)))))))) be) (ae (cw 5 jP.nd (aP gh (bZ bI (qv 0) ah) (qv 1))) (ae (gf (aP jv (bZ bI (qv 0) ah) (qv 1)) (jV (qv 0) ah gu)) (aj (aO (qv 5)))))) ?_
 nofun
 obtain⟨ns,p,q,ht,hs,hlen,hp0,hq0⟩:=tp.ex;have hs':∀o,aV K (aE H t₁ o) s₁ (ns.map V.int):=λo=>hs.elim (λz=>.inl (oX z.1 z.2.symm)) λz=>z _
 have tap:∀(p' q':Int),0≤p'->0≤q'->cD K (aE H t₁ (.lst [.ref s₁,.int p',.int q'])) t₁ s₁:=λp' q' a b=>⟨ns,p',q',ag,hs.elim (λz=>.inl ⟨oX z.1 z.2.symm,z.2⟩) λz=>.inr z,hlen,a,b⟩
 have hl:((ns.map V.int).length:Int)=(ns.length:Int):=by rw[Na]
 refine⟨_,Z,t₁,_,_,_,Z,Z,aV.of ht,Z,Z,_,Z,?_⟩;by_cases c0:q=0
 ·refine cC (by rw[c0]) ?_;refine⟨_,Z,t₁,_,_,_,Z,Z,aV.of ht,Z,?_⟩;refine⟨_,Z,_,_,Z,Z,_,Z,t₁,_,_,_,Z,Z,ht,Z,?_⟩;refine⟨_,Z,?_⟩;refine⟨_,Z,t₁,_,_,_,Z,Z,aV.of ag,Z,s₁,_,Z,.inl (hs' _),_,_,Z,Z,_,Z,?_⟩;refine AK (λc9=>?_) (λ_=>?_)
  ·have c8:(0:Int)<(ns.length:Int):=by
    have c7:(0:Int)<((ns.map V.int).length:Int):=of_decide_eq_true c9;rw[hl] at c7;exact c7
   obtain⟨z,hz⟩:=HV (ns:=ns) (r:=p%(ns.length:Int)) (O2 _ (by omega)) (OZ _ c8);rw[←hl] at hz c8;refine⟨_,Z,t₁,_,_,_,Z,Z,aV.of ag,Z,_,Z,_,Z,t₁,_,_,_,Z,Z,aV.of ag,Z,s₁,_,Z,.inl (hs' _),_,_,Z,Z,c8,s₁,_,_,_,Z,Z,hs' _,hz,?_⟩;refine⟨_,Z,_,_,Z,Z,⟨by decide,by decide,by decide⟩,_,_,Z,Z,_,Z,?_⟩;refine AK (λ_=>?_) (λd1=>?_)
   ·refine hJ ?_;refine⟨_,Z,_,_,Z,Z,(by show(0:Int)<_;decide),_,_,Z,Z,_,Z,_,_,Z,Z,(by show(0:Int)<_;decide),_,_,Z,Z,.inl ⟨by omega,by omega⟩,_,_,Z,Z,_,_,Z,Z,.inl ⟨by omega,by omega⟩,_,_,Z,Z,(by show(0:Int)<_;decide),?_⟩;refine⟨_,Z,_,Z,_,_,Z,Z,.inl ⟨by omega,by omega⟩,_,_,Z,Z,_,_,Z,Z,.inr ⟨by decide,by decide⟩,_,_,Z,Z,(by show(0:Int)<_;decide),_,_,Z,Z,⟨by decide,by decide⟩,_,Z,_,_,Z,Z,hm0,?_⟩;exact k _ _ (O2 _ (by omega)) (OZ _ hm0) (tap (p+1) q (by omega) hq0)
   ·refine⟨_,Z,_,Z,t₁,_,_,_,Z,Z,aV.of ag,Z,s₁,_,Z,.inl (hs' _),_,_,Z,Z,_,Z,?_⟩;refine AK (λ_=>?_) (λ_=>?_)
    ·refine⟨_,Z,_,_,Z,Z,(by show(0:Int)<_;decide),_,_,Z,Z,_,Z,_,_,Z,Z,(by show(0:Int)<_;decide),_,_,Z,Z,.inl ⟨by omega,by omega⟩,_,_,Z,Z,_,_,Z,Z,.inl ⟨by omega,by omega⟩,_,_,Z,Z,(by show(0:Int)<_;decide),?_⟩;refine⟨_,Z,_,Z,_,_,Z,Z,.inl ⟨by omega,by omega⟩,_,_,Z,Z,_,_,Z,Z,.inr ⟨by decide,by decide⟩,_,_,Z,Z,(by show(0:Int)<_;decide),_,_,Z,Z,⟨by decide,by decide⟩,_,Z,_,_,Z,Z,hm0,?_⟩;exact k _ _ (O2 _ (by omega)) (OZ _ hm0) (tap (p+1) q (by omega) hq0)
    ·have d2:(0:Int)≤z:=by
      have d3:1000000000000000000≤z:=by simpa using d1
      omega
     refine⟨_,Z,_,Z,t₁,_,_,_,Z,Z,ag,Z,?_⟩;rw[kO];refine⟨_,Z,t₁,_,_,_,Z,Z,aV.of ag,Z,_,Z,_,_,Z,Z,hm0,?_⟩;refine⟨_,Z,t₁,_,_,_,Z,Z,aV.of ag,Z,_,Z,_,_,Z,Z,⟨hm0,hm1⟩,_,Z,t₁,_,_,_,Z,Z,ag,Z,?_⟩;refine⟨_,Z,?_⟩;rw[kO];exact k _ _ (O2 _ (by omega)) (OZ _ hm0) (tap (p+1) (z/m) (by omega) (Qq d2 (by omega)))
  ·obtain⟨z,hz⟩:∃z,z=p:=⟨_,Z⟩;refine⟨_,Z,_,_,Z,Z,⟨by decide,by decide,by decide⟩,_,_,Z,Z,_,Z,?_⟩;refine AK (λ_=>?_) (λd1=>?_)
   ·refine hJ ?_;refine⟨_,Z,_,_,Z,Z,(by show(0:Int)<_;decide),_,_,Z,Z,_,Z,_,_,Z,Z,(by show(0:Int)<_;decide),_,_,Z,Z,.inl ⟨by omega,by omega⟩,_,_,Z,Z,_,_,Z,Z,.inl ⟨by omega,by omega⟩,_,_,Z,Z,(by show(0:Int)<_;decide),?_⟩;refine⟨_,Z,_,Z,_,_,Z,Z,.inl ⟨by omega,by omega⟩,_,_,Z,Z,_,_,Z,Z,.inr ⟨by decide,by decide⟩,_,_,Z,Z,(by show(0:Int)<_;decide),_,_,Z,Z,⟨by decide,by decide⟩,_,Z,_,_,Z,Z,hm0,?_⟩;exact k _ _ (O2 _ (by omega)) (OZ _ hm0) (tap (p+1) q (by omega) hq0)
   ·refine⟨_,Z,_,Z,t₁,_,_,_,Z,Z,aV.of ag,Z,s₁,_,Z,.inl (hs' _),_,_,Z,Z,_,Z,?_⟩;refine AK (λ_=>?_) (λ_=>?_)
    ·refine⟨_,Z,_,_,Z,Z,(by show(0:Int)<_;decide),_,_,Z,Z,_,Z,_,_,Z,Z,(by show(0:Int)<_;decide),_,_,Z,Z,.inl ⟨by omega,by omega⟩,_,_,Z,Z,_,_,Z,Z,.inl ⟨by omega,by omega⟩,_,_,Z,Z,(by show(0:Int)<_;decide),?_⟩;refine⟨_,Z,_,Z,_,_,Z,Z,.inl ⟨by omega,by omega⟩,_,_,Z,Z,_,_,Z,Z,.inr ⟨by decide,by decide⟩,_,_,Z,Z,(by show(0:Int)<_;decide),_,_,Z,Z,⟨by decide,by decide⟩,_,Z,_,_,Z,Z,hm0,?_⟩;exact k _ _ (O2 _ (by omega)) (OZ _ hm0) (tap (p+1) q (by omega) hq0)
    ·have d2:(0:Int)≤p:=by
      have d3:1000000000000000000≤p:=by simpa using d1
      omega
     refine⟨_,Z,_,Z,t₁,_,_,_,Z,Z,ag,Z,?_⟩;rw[kO];refine⟨_,Z,t₁,_,_,_,Z,Z,aV.of ag,Z,_,Z,_,_,Z,Z,hm0,?_⟩;refine⟨_,Z,t₁,_,_,_,Z,Z,aV.of ag,Z,_,Z,_,_,Z,Z,⟨hm0,hm1⟩,_,Z,t₁,_,_,_,Z,Z,ag,Z,?_⟩;refine⟨_,Z,?_⟩;rw[kO];exact k _ _ (O2 _ (by omega)) (OZ _ hm0) (tap (p+1) (p/m) (by omega) (Qq d2 (by omega)))
 refine cr (λz=>c0 (by injection z)) ?_;refine⟨_,Z,t₁,_,_,_,Z,Z,aV.of ht,Z,_,Z,_,_,Z,Z,hm0,?_⟩;refine⟨_,Z,t₁,_,_,_,Z,Z,aV.of ht,Z,_,Z,_,_,Z,Z,⟨hm0,hm1⟩,_,Z,t₁,_,_,_,Z,Z,ht,Z,?_⟩;refine⟨_,Z,?_⟩;exact k _ _ (O2 _ (by omega)) (OZ _ hm0) (tap p (q/m) hp0 (Qq hq0 (by omega)))
theorem lU(T:fc K mg t):bX P w K mg base ee 1 t.a_Q32 t.d_Q32 ["_law_top","_law_bottom"] (qH K):=by
 refine T.F_Q32.ok sU (λvs H Q E h=>?_) (λcdv A outer s H vs Q E hr h=>?_)
 ·obtain⟨_,_,rfl,_⟩:=h;rfl
 obtain⟨a,b,rfl,hb,hz,k⟩:=h;refine dS.ok (ae (tq (i:=2) (j:=3) Z sU.nd Z Z (by decide) Z Z (ac (aG mI (by rfl) T.z_abs boot_abs (ac (qv 0) af ad)) (ac (qv 1) af ad) aF) Z) (ae (ij NI (aQ nI (qv 3) ah (aT _)) (aj (tq (i:=2) (j:=3) Z sU.nd Z Z (by decide) Z Z (ac (qv 3) (ac (aP gh (qv 2) (qv 3)) af bu) ad) Z))) (aj (aO (bz (ac (aP eJ (qv 0) (qv 2)) (ac (aP eJ (qv 1) (qv 2)) af bu) bu)))))) ?_
 nofun
 have gp:=ck (a:=a) hb;have gb:=mj (a:=a) hb hz;refine⟨_,Z,_,Z,_,Z,_,_,Z,?_⟩;rw[ui];refine⟨λm σ H'=>∃(x y:Int),σ=[some (.int a),some (.int b),some (.int x),some (.int y)]/\H'=H/\0≤x/\0≤y/\Nx x y=Nx a b/\m=y.toNat,⟨_,_,_,Z,Z,by omega,by omega,(by simp[Nx]),Z⟩,?_⟩;rintro m σ H' ⟨x,y,rfl,rfl,hx,hy,hg,rfl⟩;refine⟨_,Z,Z,_,Z,?_⟩;by_cases c:y=0
 ·subst c;refine io Z ?_;have e:(x:Int)=(Nx x 0:Nat):=by simp[Nx];omega
  rw[hg] at e;subst e;exact⟨_,Z,_,Z,_,_,Z,Z,⟨gp,gb⟩,_,Z,_,Z,_,_,Z,Z,⟨gp,gb⟩,g9,λp hp=>k p hp⟩
 ·refine AJ (λz=>c (by injection z)) ?_;refine⟨_,λ_ _ z=>z,?_⟩;refine⟨_,Z,_,Z,_,Z,_,_,Z,Z,(by omega),_,_,Z,?_⟩;refine⟨_,?_,y,x%y,Z,Z,hy,O2 _ c,?_,Z⟩
  ·have:=OZ x (show 0<y by omega);have:=O2 x c;omega
  ·rw[rH hx (by omega),hg]
theorem lT(T:fc K mg t):bX P w K mg base ee 2 t.a_Q37 t.d_Q37 ["_law_one","_law_other"] (sJ K):=by
 refine T.F_Q37.ok En (λvs H Q E h=>?_) (λcdv A outer s H vs Q E hr h=>?_)
 ·obtain⟨_,_,_,_,_,_,rfl,_⟩:=h;rfl
 obtain⟨v,w,r,q,n,m,rfl,hv,hw,wr,wq,hz,k⟩:=h;refine dS.ok (aj (aO (cI (lU T) hr T.m_Q32 T.F_Q32.kp T.b_Q32 (ac (aP cM (aP dk (bZ au (qv 0) ah) (bZ au (qv 1) ah)) (aP dk (bZ au (qv 1) ah) (bZ au (qv 0) ah))) (ac (aP dk (bZ au (qv 0) ah) (bZ au (qv 1) ah)) af bu) bu)))) ?_;nofun
 obtain⟨p,rfl,hv⟩:=hv;obtain⟨p',rfl,hw⟩:=hw;have c1:=bU wr.top (show n≤4000 by omega);have c2:=bU wr.bot (show n≤4000 by omega);have c3:=bU wq.top (show m≤4000 by omega);have c4:=bU wq.bot (show m≤4000 by omega);refine⟨_,Z,p,_,_,_,Z,Z,hv,Z,_,Z,p',_,_,_,Z,Z,hw,Z,_,_,Z,Z,⟨c1,c4⟩,_,Z,p',_,_,_,Z,Z,hw,Z,_,Z,p,_,_,_,Z,Z,hv,Z,_,_,Z,Z,⟨c3,c2⟩,_,_,Z,Z,_,Z,p,_,_,_,Z,Z,hv,Z,_,Z,p',_,_,_,Z,Z,hw,Z,_,_,Z,Z,⟨c2,c4⟩,_,_,Z,Oc wr.pos wq.pos,bU (lX wr.bot wq.bot) (by omega),k⟩
theorem i5(T:fc K mg t):bX P w K mg base ee 2 t.a_Q38 t.d_Q38 ["_law_one","_law_other"] (sI K):=by
 refine T.F_Q38.ok Em (λvs H Q E h=>?_) (λcdv A outer s H vs Q E hr h=>?_)
 ·obtain⟨_,_,_,_,_,_,rfl,_⟩:=h;rfl
 obtain⟨v,w,r,q,n,m,rfl,hv,hw,wr,wq,hz,k⟩:=h;refine dS.ok (aj (aO (cI (lU T) hr T.m_Q32 T.F_Q32.kp T.b_Q32 (ac (aP dk (bZ au (qv 0) ah) (bZ au (qv 1) ah)) (ac (aP dk (bZ au (qv 0) ah) (bZ au (qv 1) ah)) af bu) bu)))) ?_;nofun
 obtain⟨p,rfl,hv⟩:=hv;obtain⟨p',rfl,hw⟩:=hw;have c1:=bU wr.top (show n≤4000 by omega);have c2:=bU wr.bot (show n≤4000 by omega);have c3:=bU wq.top (show m≤4000 by omega);have c4:=bU wq.bot (show m≤4000 by omega);refine⟨_,Z,p,_,_,_,Z,Z,hv,Z,_,Z,p',_,_,_,Z,Z,hw,Z,_,_,Z,Z,⟨c1,c3⟩,_,Z,p,_,_,_,Z,Z,hv,Z,_,Z,p',_,_,_,Z,Z,hw,Z,_,_,Z,Z,⟨c2,c4⟩,_,_,Z,Oc wr.pos wq.pos,bU (lX wr.bot wq.bot) (by omega),k⟩
theorem pC(T:fc K mg t):bX P w K mg base ee 1 t.a_Q33 t.d_Q33 ["_law_one","_law_other"] (qG K):=by
 refine T.F_Q33.ok Er (λvs H Q E h=>?_) (λcdv A outer s H vs Q E hr h=>?_)
 ·obtain⟨_,_,_,_,_,_,rfl,_⟩:=h;rfl
 obtain⟨v,w,r,q,n,m,rfl,hv,hw,wr,wq,hz,k⟩:=h;refine dS.ok (aj (aO (f6 lS (aP dk (bZ au (qv 0) ah) (bZ au (qv 1) ah)) (aP dk (bZ au (qv 1) ah) (bZ au (qv 0) ah)) (aT _)))) ?_;nofun
 obtain⟨p,rfl,hv⟩:=hv;obtain⟨p',rfl,hw⟩:=hw;have c1:=bU wr.top (show n≤4000 by omega);have c2:=bU wr.bot (show n≤4000 by omega);have c3:=bU wq.top (show m≤4000 by omega);have c4:=bU wq.bot (show m≤4000 by omega);refine⟨_,Z,p,_,_,_,Z,Z,hv,Z,_,Z,p',_,_,_,Z,Z,hw,Z,_,_,Z,Z,⟨c1,c4⟩,_,Z,p',_,_,_,Z,Z,hw,Z,_,Z,p,_,_,_,Z,Z,hv,Z,_,_,Z,Z,⟨c3,c2⟩,_,_,Z,Z,k⟩
theorem FE(T:fc K mg t):bX P w K mg base ee 2 t.a_Q20 t.d_Q20 ["_law_tape_here","_law_many"] (oG K):=by
 refine T.F_Q20.ok fR (λvs H Q E h=>?_) (λcdv A outer s H vs Q E hr h=>?_)
 ·obtain⟨_,_,_,rfl,_⟩:=h;rfl
 obtain⟨t₁,s₁,m,rfl,tp,hm,k⟩:=h;refine dS.ok (ae (cw 2 fR.nd (bZ bI (cL (ac ah (ac ah (ac ah (ac ah af aB) aB) aB) aB)) (cI (d9 T) hr T.m_Q31 T.F_Q31.kp T.b_Q31 (ac (qv 0) (ac ah af aB) ad)))) (ae (cw 3 fR.nd (cL af)) (ae (cj NI Z (b8 Z T.z_range (ac (qv 1) af ad)) (ao (i:=4) fR.nd Z (by first|exact NG Z|exact NC Z)) (ae (cw 5 fR.nd (cI (d9 T) hr T.m_Q31 T.F_Q31.kp T.b_Q31 (ac (qv 0) (ac (qv 2) af ad) ad))) (ae (cw 6 fR.nd (aP cM (qv 5) (cI (d9 T) hr T.m_Q31 T.F_Q31.kp T.b_Q31 (ac (qv 0) (ac (aP gS (qv 2) (qv 5)) af bu) ad)))) (ae (cw 7 fR.nd (cI (d9 T) hr T.m_Q31 T.F_Q31.kp T.b_Q31 (ac (qv 0) (ac ah af aB) ad))) (ae (jU (ca (aQ gA (qv 7) ah (aT _)) (aj (cw 6 fR.nd (qv 5))) be)) (ae (jU (ca (aQ gA (qv 7) ah (aT _)) (aj (tq (i:=5) (j:=6) Z fR.nd Z Z (by decide) Z Z (ac ah (ac (aP gS (qv 2) ah) af bu) aB) Z)) be)) (ae (jU (ca (fS (ii (aQ gA (qv 7) ah (aT _)) (iF (aQ eV (qv 4) ah (aT _))))) (aj (gf (lO uJ (bZ bI (qv 3) (cI (d9 T) hr T.m_Q31 T.F_Q31.kp T.b_Q31 (ac (qv 0) (ac (qv 4) af ad) ad))) B1 (jp ah)) (ik Z (bi (ao (i:=5) fR.nd Z (by first|exact NG Z|exact NC Z)) (bi (ao (i:=6) fR.nd Z (by first|exact NG Z|exact NC Z)) dE))))) be)) (aj (dD (gY Od Og Oh cE (qv 3) (ac (bz (ac (qv 5) (ac (qv 6) (ac (cI (lU T) hr T.m_Q32 T.F_Q32.kp T.b_Q32 (ac (aP cM ah (cI (d9 T) hr T.m_Q31 T.F_Q31.kp T.b_Q31 (ac (qv 0) (ac ah af aB) ad))) (ac (bZ bI (cL (ac ah (ac ah (ac ah (ac ah (ac ah (ac ah af aB) aB) aB) aB) aB) aB)) (cI (d9 T) hr T.m_Q31 T.F_Q31.kp T.b_Q31 (ac (qv 0) (ac ah af aB) ad))) af aI) bu)) af aF) ad) ad)) af bO))))))))))) (aj (aO (bM bJ (by rfl) T.z_tuple Pf (ac (qv 3) af ad))))))) ?_
 nofun
 obtain⟨y0,e0⟩:=tp.lst;refine⟨GZ,λle hle=>?_⟩;have nle:le≠t₁:=λz=>by subst z;rw[e0] at hle;cases hle
 have s0:=ai hle (.lst [.int 3,.int 7,.int 12,.int 24]);have T0:=tp.new hle (.lst [.int 3,.int 7,.int 12,.int 24]);have h00:aE H le (.lst [.int 3,.int 7,.int 12,.int 24]) le=some (.lst [.int 3,.int 7,.int 12,.int 24]):=ag;generalize aE H le (.lst [.int 3,.int 7,.int 12,.int 24])=H0 at T0 s0 h00 ⊢;obtain⟨y00,e00⟩:=T0.lst;refine⟨_,Z,t₁,s₁,4,Z,T0,by omega,by omega,λr0 x0_ a0 b0 T0=>?_⟩;have S0:bP t₁ H (aE H0 t₁ (.lst x0_)):=(bP.same s0 tp.lst).trans (bP.up e00);have h01:aE H0 t₁ (.lst x0_) le=some (.lst [.int 3,.int 7,.int 12,.int 24]):=by rw[aJ nle];exact h00
 generalize aE H0 t₁ (.lst x0_)=HA at T0 S0 h01 ⊢;rename_i T0';obtain⟨en,hen,en1,en2⟩:∃e:Nat,mN [V.int 3,.int 7,.int 12,.int 24] r0=some (.int e)/\3≤e/\e≤24:=by
  rcases(show r0=0∨r0=1∨r0=2∨r0=3 by omega) with rfl|rfl|rfl|rfl
  ·exact⟨3,Z,by decide,by decide⟩
  ·exact⟨7,Z,by decide,by decide⟩
  ·exact⟨12,Z,by decide,by decide⟩
  ·exact⟨24,Z,by decide,by decide⟩
 refine⟨le,_,_,_,Z,Z,aV.of h01,hen,?_⟩;refine⟨(by show 0≤sizeLine;exact NB _),λlw hlw0=>?_⟩;obtain⟨yA,eA⟩:=T0.lst;have nl:lw≠t₁:=λz=>by subst z;rw[eA] at hlw0;cases hlw0
 have nls:=T0.off hlw0;let Iv1:Nat->L2.St->Hp->Prop:=λi σ H'=>∃(xs:List V) (ws:List Wk) (x5 x6 x7 x8:Option V),σ=[some (.ref t₁),some (.int m),some (.int en),some (.ref lw),x5,x6,x7,x8]/\cD K H' t₁ s₁/\(∀b o,b≠t₁->HA b=some o->H' b=some o)/\H' lw=some (.lst xs)/\cV (Bn K H') xs ws/\ws.length=i/\∀w∈ws,br w
 refine⟨_,Z,m,Z,by omega,by omega,cZ (lo:=0) (n:=(m:Int).toNat) Iv1 ⟨[],[],none,none,none,none,Z,T0.new hlw0 _,(λb o _ q=>ai hlw0 _ _ _ q),ag,.nil,Z,λw hw=>by cases hw⟩ ?_ ?_⟩
 ·rintro i σ H1 hi ⟨xs,ws,x5,x6,x7,x8,rfl,T1,kp,hlw,alw,hlen,okw⟩;rw[PP];obtain⟨y1,e1⟩:=T1.lst;refine⟨_,Z,_,Z,t₁,s₁,en,Z,T1,by omega,by omega,λr2 x2_ a2 b2 T2=>?_⟩;obtain⟨ff,rfl⟩:=OF a2;have S2:bP t₁ H1 _:=bP.up (ys:=x2_) e1;generalize aE H1 t₁ (.lst x2_)=H2 at T2 S2 ⊢;obtain⟨y2,e2⟩:=T2.lst;refine⟨_,Z,_,Z,_,Z,_,Z,_,_,Z,Z,t₁,s₁,(en:Int)-ff,Z,T2,by omega,by omega,λr3 x3_ a3 b3 T3=>?_⟩;have S3:=S2.trans (bP.up (ys:=x3_) e2);generalize aE H2 t₁ (.lst x3_)=H3 at T3 S3 ⊢;obtain⟨y3,e3⟩:=T3.lst;refine⟨_,_,Z,Z,?_⟩;obtain⟨la,hla⟩:∃la:Nat,(ff:Int)+r3=(la:Nat):=⟨((ff:Int)+r3).toNat,by omega⟩;dsimp only;rw[hla];refine⟨_,Z,t₁,s₁,7,Z,T3,by omega,by omega,λr4 x4_ a4 b4 T4=>?_⟩;have S4:=S3.trans (bP.up (ys:=x4_) e3);generalize hHH:aE H3 t₁ (.lst x4_)=HH at T4 S4 ⊢;clear hHH;refine⟨Kh K t₁ s₁ lw m en i r4 H1,⟨_,Z,Z,_,Z,?_⟩,?_⟩
  ·by_cases c0:r4=0
   ·exact cC (by rw[c0]) ⟨_,Z,ff,ff,Z,Nb _,by omega,S4,T4⟩
   ·exact cr (λz=>c0 (by injection z)) ⟨ff,la,Z,by omega,by omega,S4,T4⟩
  clear S4 T4 hla;rintro _ HH ⟨fa,lb,rfl,ab,b24,S4,T4⟩;refine⟨Kh K t₁ s₁ lw m en i r4 H1,⟨_,Z,Z,_,Z,?_⟩,?_⟩
  ·by_cases c1:r4=1
   ·exact cC (by rw[c1]) ⟨_,Z,_,_,Z,Z,_,_,Z,0,en-1,by rw[show((en-1:Nat):Int)=(en:Int)-1 by omega];rfl,NB _,by omega,S4,T4⟩
   ·exact cr (λz=>c1 (by injection z)) ⟨fa,lb,Z,ab,b24,S4,T4⟩
  clear S4 T4 ab b24 fa lb;rintro _ HH ⟨fa,lb,rfl,ab,b24,S4,T4⟩;refine⟨Kh K t₁ s₁ lw m en i r4 H1,⟨_,Z,Z,_,Z,?_⟩,?_⟩
  ·by_cases c2:r4=2
   rotate_left
   ·exact cr (λz=>c2 (by injection z)) (d0 ⟨fa,lb,Z,ab,b24,S4,T4⟩)
   subst c2;refine hJ ⟨_,Z,_,_,Z,Z,_,Z,?_⟩;by_cases ci:0<i
   rotate_left
   ·exact cr (by omega) ⟨fa,lb,Z,ab,b24,S4,T4⟩
   refine cC (by omega) ?_;obtain⟨y4,e4⟩:=T4.lst;have hlw4:HH lw=some (.lst xs):=S4.keep _ _ nl hlw;refine⟨_,Z,_,Z,_,Z,t₁,s₁,i,Z,T4,by omega,by omega,λr9 x9_ a9 b9 T9=>?_⟩;have S9':=S4.trans (bP.up (ys:=x9_) e4);have hlwN:aE HH t₁ (.lst x9_) lw=some (.lst xs):=by rw[aJ nl];exact hlw4
   clear T4;generalize aE HH t₁ (.lst x9_)=HN at T9 S9' hlwN ⊢;obtain⟨j,rfl⟩:=OF a9;obtain⟨xw,hxw⟩:∃xw,xs[j]?=some xw:=⟨_,M8 (by rw[alw.len];omega)⟩;obtain⟨w,hw,pw0,xa,rfl,hSw,ra⟩:=alw.at hxw;have okw0:=okw w (Nd hw);have hSwN:=aK.step (K:=K) S9' _ _ hSw;refine⟨lw,_,_,_,Z,Z,aV.of hlwN,aY hxw,?_⟩;refine⟨_,Z,pw0,_,Z,hSwN,λpc HH sQ hpc=>?_⟩;rw[show jB [V.int (w.1:Nat),V.int (w.2.1:Nat),xa] none (some 2)=[V.int (w.1:Nat),V.int (w.2.1:Nat)] from Gq (n:=2) (by show 2≤3;decide)] at hpc;exact⟨pc,_,Z,hpc,Z,_,_,Z,_,_,Z,Z,w.1,w.2.1,Z,okw0.le,okw0.lt,S9'.trans (bP.same sQ T9.lst),T9.same sQ⟩
  clear S4 T4 ab b24 fa lb;rintro _ HH ⟨ff,la,rfl,ab,b24,S4,T4⟩;have kp4:=S4.keep;have tst4:aK K H1 HH:=aK.step S4;obtain⟨y4,e4⟩:=T4.lst;have hlw4:HH lw=some (.lst xs):=kp4 _ _ nl hlw;refine⟨_,Z,.inl ⟨Z,_,aV.of hlw4⟩,?_⟩;refine⟨_,Z,_,Z,_,Z,t₁,s₁,12,Z,T4,by omega,by omega,λr5 x5_ a5 b5 T5=>?_⟩;have S5:bP t₁ HH _:=bP.up (ys:=x5_) e4;generalize aE HH t₁ (.lst x5_)=H5 at T5 S5 ⊢;obtain⟨y5,e5⟩:=T5.lst;refine⟨_,_,Z,Z,Lv,λl6 h6=>?_⟩;have S6:=S5.trans (bP.new T5.lst h6 (.lst [.int 1,.int 1,.int 2,.int 3,.int 4,.int 7]));have n6:l6≠t₁:=λz=>by subst z;rw[e5] at h6;cases h6
  have T6':=T5.new h6 (.lst [.int 1,.int 1,.int 2,.int 3,.int 4,.int 7]);obtain⟨y6,e6⟩:=T6'.lst;have h6':aE H5 l6 (.lst [.int 1,.int 1,.int 2,.int 3,.int 4,.int 7]) l6=some (.lst [.int 1,.int 1,.int 2,.int 3,.int 4,.int 7]):=ag;generalize aE H5 l6 (.lst [.int 1,.int 1,.int 2,.int 3,.int 4,.int 7])=H6 at T6' S6 e6 h6' ⊢;refine⟨_,Z,t₁,s₁,6,Z,T6',by omega,by omega,λr7 x7_ a7 b7 T7=>?_⟩;have S7:=S6.trans (bP.up (ys:=x7_) e6);have h67:aE H6 t₁ (.lst x7_) l6=some (.lst [.int 1,.int 1,.int 2,.int 3,.int 4,.int 7]):=by rw[aJ n6];exact h6'
  generalize aE H6 t₁ (.lst x7_)=H7 at T7 S7 h67 ⊢;obtain⟨bb,hbb,bo1,bo2,bo3⟩:∃b:Int,mN [V.int 1,.int 1,.int 2,.int 3,.int 4,.int 7] r7=some (.int b)/\1≤b/\b≤7/\b∣84:=by
   rcases(show r7=0∨r7=1∨r7=2∨r7=3∨r7=4∨r7=5 by omega) with rfl|rfl|rfl|rfl|rfl|rfl
   ·exact⟨1,Z,by decide,by decide,by decide⟩
   ·exact⟨1,Z,by decide,by decide,by decide⟩
   ·exact⟨2,Z,by decide,by decide,by decide⟩
   ·exact⟨3,Z,by decide,by decide,by decide⟩
   ·exact⟨4,Z,by decide,by decide,by decide⟩
   ·exact⟨7,Z,by decide,by decide,by decide⟩
  refine⟨l6,_,_,_,Z,Z,aV.of h67,hbb,?_⟩;refine⟨1+r5,bb,Z,by omega,bU (n:=3) (by show bb.natAbs<8;omega) (by decide),λpf hpf=>?_⟩;have am:=C8 (a:=1+r5) (by omega) (by omega) bo1 bo2 bo3;have s8:=ai hpf (.tup [.int (dZ (1+r5) bb).1,.int (dZ (1+r5) bb).2]);have rf:RV K _ (.ref pf) (dZ (1+r5) bb):=⟨pf,Z,bC.of (ag (H:=H7) (a:=pf) (o:=.tup [.int (dZ (1+r5) bb).1,.int (dZ (1+r5) bb).2]))⟩;have T8:=T7.same s8;generalize aE H7 pf (.tup [.int (dZ (1+r5) bb).1,.int (dZ (1+r5) bb).2])=H8 at T8 s8 rf ⊢;refine⟨IY,λpw hpw=>?_⟩;have s9:=ai hpw (.tup [.int (ff:Nat),.int (la:Nat),.ref pf]);have hpw9:bC K _ pw [.int (ff:Nat),.int (la:Nat),.ref pf]:=bC.of (ag (H:=H8) (a:=pw) (o:=.tup [.int (ff:Nat),.int (la:Nat),.ref pf]));have T9:=T8.same s9;have rf9:=rf.mono (aK.same s9);generalize aE H8 pw (.tup [.int (ff:Nat),.int (la:Nat),.ref pf])=H9 at T9 s9 rf9 hpw9 ⊢;have S9:=S7.trans (bP.same (s8.trans s9) T7.lst);have hlw9:=S9.keep _ _ nl hlw4;refine⟨lw,xs,_,Z,Z,hlw9,bh (by rw[alw.len];omega),?_⟩;have t9:aK K H1 (aE H9 lw (.lst (xs++[.ref pw]))):=(tst4.trans (aK.step S9)).trans (aK.up hlw9 _);refine⟨_,ws++[(ff,la,dZ (1+r5) bb)],_,_,_,_,Z,T9.upl nl nls _,λb o nb q=>?_,ag,(alw.mono λv d m=>m.mono t9).snoc ⟨pw,.ref pf,Z,aK.up (K:=K) hlw9 _ _ _ hpw9,rf9.mono (aK.up hlw9 _)⟩,by rw[NL,hlen];rfl,λz hz=>?_⟩
  ·rw[aJ (aU q hlw0)];exact S9.keep _ _ nb (kp4 _ _ nb (kp b o nb q))
  ·rcases NF.mp hz with h|h
   ·exact okw z h
   ·rw[Nm] at h;subst h;exact⟨by show ff≤la;omega,by show la<24;omega,am⟩
 ·rintro σ H1 ⟨xs,ws,x5,x6,x7,x8,rfl,T1,kp,hlw,alw,hlen,okw⟩;refine⟨_,Z,lw,_,Z,.inl ⟨aV.of hlw,λp hp=>?_⟩⟩;have s5:=ai hp (.tup xs);exact k (.ref p) ws _ ((S0.trans ⟨kp,T0.lst,T1.lst⟩).trans (bP.same s5 T1.lst)) (T1.same s5) ⟨p,xs,Z,bC.of ag,alw.mono λ_ _ q=>q.mono (aK.same s5)⟩ (by rw[hlen];omega) okw
theorem FD(T:fc K mg t):bX P w K mg base ee 1 t.a_Q21 t.d_Q21 ["_law_works_here"] (oH K):=by
 refine T.F_Q21.ok Ew (λvs H Q E h=>?_) (λcdv A outer s H vs Q E hr h=>?_)
 ·obtain⟨_,_,rfl,_⟩:=h;rfl
 obtain⟨v,ws,rfl,⟨p,xs,rfl,hS,al⟩,hw,ok,k⟩:=h;refine dS.ok (aj (aO (bD (N':=["_law_work"]) (src:=[none]) Z (by exact(dg (qv 0))) (λ_ _ _ _ _=>(by exact(by exact ao (i:=0) (by show NQ (["_law_work"]:List NV);decide +kernel) (by exact Z) (by first|exact NG Z|exact NC Z)))) (λ_ _ _ _ _=>bQ) (λ_ _ _ _ _=>(by exact(by exact(aP jv (by exact(aP fk (by exact(bB (bj (K:=K) (by exact Z)) (by exact(bB (bj (K:=K) (by exact Z)) (by exact(qv 0)) ah (by exact λ_ _=>Z))) ah (by exact λ_ _=>Z))) ah)) (by exact(bB (bj (K:=K) (by exact Z)) (by exact(bB (bj (K:=K) (by exact Z)) (by exact(qv 0)) ah (by exact λ_ _=>Z))) ah (by exact λ_ _=>Z))))))) (by exact trivial) Z (by decide +kernel) Z (by decide +kernel) (by exact aS Z trivial)))) ?_;nofun
 have hlen:=al.len;refine⟨_,Z,p,Z,⟨_,hS⟩,λD hD=>bY (iA hS) (λ_=>true) (λi=>V.int ((bG ws).getD i 0)) hD (by omega) (λi x H' hi s' hx R E kR kE=>?_) λH4 s4 h4=>?_⟩
 ·obtain⟨w,hw',pw,xw,rfl,hSw,px,rfl,hSx⟩:=al.at hx;have okw:=ok w (Nd hw');have t':=aK.same (K:=K) s';have e:(bG ws).getD i 0=w.2.2.1*84/w.2.2.2:=ap 0 (by unfold bG;rw[Nh,hw'];rfl);have q:=kR Z _ (aD.refl _);rw[e] at q;have:=okw.am.bot;have:=okw.am.bot';exact⟨fu.set Z,_,Z,pw,_,_,_,Z,Z,t' _ _ hSw,Z,px,_,_,_,Z,Z,t' _ _ hSx,Z,_,_,Z,Z,.inr ⟨by decide,by decide⟩,_,Z,pw,_,_,_,Z,Z,t' _ _ hSw,Z,px,_,_,_,Z,Z,t' _ _ hSx,Z,_,_,Z,Z,⟨by omega,by omega⟩,q⟩
 ·refine k D H4 s4 hD ?_;rw[h4,show xs.length=(bG ws).length by unfold bG;rw[Na];exact hlen,di 0 V.int]
theorem Dv(T:fc K mg t):bX P w K mg base ee 2 t.a_Q9 t.d_Q9 ["_law_works_here","_law_left"] (kA K):=by
 refine T.F_Q9.ok gx (λvs H Q E h=>?_) (λcdv A outer s H vs Q E hr h=>?_)
 ·obtain⟨_,_,_,_,rfl,_⟩:=h;rfl
 obtain⟨v,q,ws,ls,rfl,⟨p,xs,rfl,hS,al⟩,hw,ok,hq,l24,kN,k⟩:=h;refine dS.ok (ae (cw 2 gx.nd (cI (FD T) hr T.m_Q21 T.F_Q21.kp T.b_Q21 (ac (qv 0) af ad))) (ae (cw 3 gx.nd (cL af)) (ae (cj NI Z (b8 Z T.z_range (ac (aG aH (by rfl) T.z_len OD (ac (qv 0) af ad)) af aF)) (ao (i:=4) gx.nd Z (by first|exact NG Z|exact NC Z)) (ae (dM (i:=5) (N':=["_law_k","_law_left","_law_works_here","_law_number"]) (src:=[none,some 1,some 0,some 4]) gx.nd Z (by first|exact NG Z|exact NC Z) Z (by exact(b8 Z T.z_range (ac (aG aH (by rfl) T.z_len OD (ac (qv 1) af ad)) af aF))) (λ_ _ _ _ _=>(by exact(by exact ao (i:=0) (by show NQ (["_law_k","_law_left","_law_works_here","_law_number"]:List NV);decide +kernel) (by exact Z) (by first|exact NG Z|exact NC Z)))) (λ_ _ _ _ _=>(dC (lN gZ gZ (by exact(bB (bj (K:=K) (by exact Z)) (by exact(bB (bj (K:=K) (by exact Z)) (by exact(qv 2)) (by exact(qv 3)) (by exact λ_ _=>Z))) ah (by exact λ_ _=>Z))) (by exact(bB (cR (K:=K) (by exact Z)) (by exact(qv 1)) (by exact(qv 0)) (by exact λ_ _=>Z))) (by exact(bB (bj (K:=K) (by exact Z)) (by exact(bB (bj (K:=K) (by exact Z)) (by exact(qv 2)) (by exact(qv 3)) (by exact λ_ _=>Z))) ah (by exact λ_ _=>Z)))))) (λ_ _ _ _ _=>(by exact(by exact(qv 0)))) (by exact⟨Z,Z,Z,Z,⟨Z,Z,Z,Z,⟨Z,Z,Z,Z,trivial⟩⟩⟩) Z (by decide +kernel) Z (by decide +kernel) (by exact aS Z ⟨Z,⟨Z,⟨Z,trivial⟩⟩⟩)) (aj (ca (aQ eV (aG aH (by rfl) T.z_len OD (ac (qv 5) af ad)) ah (aT _)) (aj (dD (gY Od Og Oh cE (qv 3) (ac (bz (ac (bZ bI (qv 5) ah) (ac (bZ bI (qv 5) (jr gO ah)) (ac (qv 4) af ad) aI) aI)) af bO)))) be)))) (ae (cw 6 gx.nd (bz (ac ah (ac ah (ac ah (ac (cL af) af ya) aB) aB) aB))) (ae (cj NI Z (b8 Z T.z_range (ac (aG aH (by rfl) T.z_len OD (ac (qv 1) af ad)) af aF)) (ao (i:=7) gx.nd Z (by first|exact NG Z|exact NC Z)) (aj (cj NI Z (iG Z T.z_range (ac (qv 7) (ac (aG aH (by rfl) T.z_len OD (ac (qv 1) af ad)) af aF) ad)) (ao (i:=8) gx.nd Z (by first|exact NG Z|exact NC Z)) (ae (dM (i:=9) (N':=["_law_span","_law_begin","_law_end"]) (src:=[none,some 7,some 8]) gx.nd Z (by first|exact NG Z|exact NC Z) Z (by exact(cX (qv 3))) (λ_ _ _ _ _=>(by exact(by exact ao (i:=0) (by show NQ (["_law_span","_law_begin","_law_end"]:List NV);decide +kernel) (by exact Z) (by first|exact NG Z|exact NC Z)))) (λ_ _ _ _ _=>(dC (fS (ii (aQ gZ (by exact(qv 1)) (by exact(bB (bj (K:=K) (by exact Z)) (by exact(qv 0)) ah (by exact λ_ _=>Z))) (aT _)) (iF (aQ gZ (by exact(bB (bj (K:=K) (by exact Z)) (by exact(qv 0)) ah (by exact λ_ _=>Z))) (by exact(qv 2)) (aT _))))))) (λ_ _ _ _ _=>(by exact(by exact(bB (bj (K:=K) (by exact Z)) (by exact(qv 0)) ah (by exact λ_ _=>Z))))) (by exact⟨Z,Z,Z,Z,⟨Z,Z,Z,Z,trivial⟩⟩) Z (by decide +kernel) Z (by decide +kernel) (by exact aS Z ⟨Z,⟨Z,trivial⟩⟩)) (ae (cw 10 gx.nd (aG (j9 Z) (by rfl) T.z_sum boot_sum (ac (bD (N':=["_law_number","_law_units_here"]) (src:=[none,some 2]) Z (by exact(cX (qv 9))) (λ_ _ _ _ _=>(by exact(by exact ao (i:=0) (by show NQ (["_law_number","_law_units_here"]:List NV);decide +kernel) (by exact Z) (by first|exact NG Z|exact NC Z)))) (λ_ _ _ _ _=>bQ) (λ_ _ _ _ _=>(by exact(by exact(bB (cR (K:=K) (by exact Z)) (by exact(qv 1)) (by exact(qv 0)) (by exact λ_ _=>Z))))) (by exact⟨Z,Z,Z,Z,trivial⟩) Z (by decide +kernel) Z (by decide +kernel) (by exact aS Z ⟨Z,trivial⟩)) af cW))) (ae (cw 11 gx.nd (aP cM (aP gS (qv 8) (qv 7)) ah)) (ae (cw 12 gx.nd (aP gS (aP fk (qv 10) (bZ au (qv 6) ah)) (aP fk (bZ au (qv 6) ah) (qv 11)))) (aj (ca (fS (iQ (aQ eV (qv 12) ah (aT _)) (gQ (fS (ii (aQ gA (qv 12) ah (aT _)) (ii (aQ eV (qv 10) ah (aT _)) (iF (aQ gA (qv 7) (bZ au (qv 6) ah) (aT _))))))))) (aj (cw 6 gx.nd (bz (ac (qv 10) (ac (qv 11) (ac (qv 7) (ac (qv 9) af ad) ad) ad) ad)))) be))))))))) (ae (ca (aQ gA (bZ au (qv 6) ah) ah (aT _)) (aj (aO o4)) be) (aj (aO (bz (ac (bM bJ (by rfl) T.z_tuple Pf (ac (lO BQ (qv 1) (jp (bZ au (qv 6) ah)) (jp (aP cM (bZ au (qv 6) ah) (bZ au (qv 6) ah)))) af aI)) (ac (bM bJ (by rfl) T.z_tuple Pf (ac (bZ au (qv 6) ah) af aI)) af aF) aF)))))))))) ?_
 nofun
 have nl:(aL ls).length=ls.length:=Na _;have hxl:=al.len;refine⟨_,Z,.ref p,ws,Z,⟨p,xs,Z,hS,al⟩,hw,ok,λlu H1 s1 hu0 hu1=>?_⟩;refine⟨(by show 0≤sizeLine;exact NB _),λlsn hsn=>?_⟩;have s2:=ai hsn (.lst []);have s12:=s1.trans s2;have hsn2:aE H1 lsn (.lst []) lsn=some (.lst []):=ag;let Iv1:Nat->L2.St->Hp->Prop:=λi σ H'=>∃(ys:List V) (x4 x5:Option V),σ=[some (.ref p),some (.ref q),some (.ref lu),some (.ref lsn),x4,x5,none,none,none,none,none,none,none]/\aD H1 H'/\H' lsn=some (.lst ys)/\cV (Jv K H') ys (xp (ws.map (bn ls)) i)
 refine⟨_,Z,p,_,Z,.inr (aK.same (K:=K) s12 _ _ hS),_,Z,by omega,by omega,cZ (lo:=0) (n:=(xs.length:Int).toNat) Iv1 ⟨[],none,none,Z,s2,hsn2,.nil⟩ ?_ ?_⟩
 ·rintro i σ H2 hi ⟨ys,x4,x5,rfl,sm,hl2,al2⟩;rw[PP];have sH2:=s1.trans sm;have tH2:=aK.same (K:=K) sH2;obtain⟨x,hx⟩:∃x,xs[i]?=some x:=⟨_,M8 (by omega)⟩;obtain⟨w,hwi,pw,xa,rfl,hSw,ra⟩:=al.at hx;refine⟨_,Z,q,_,Z,.inl (sH2.seq hq),_,Z,by omega,by omega,λD hD=>bY kM (λj=>fw w (ls.getD j 0)) (λj=>V.int j) hD (by omega) (λj y H' hj s' hy R E kR kE=>?_) λH4 s4 h4=>?_⟩
  ·subst hy;rw[PP];have tH:=aK.same (K:=K) (sH2.trans s');obtain⟨z',hz'⟩:∃z',ls[j]?=some z':=⟨_,M8 (by omega)⟩;rw[ap 0 hz'] at kR kE;refine⟨fu.set Z,_,Z,_,Z,p,_,_,_,Z,Z,tH _ _ hS,aY hx,pw,_,_,_,Z,Z,tH _ _ hSw,Z,_,Z,_,Z,q,_,_,_,Z,Z,(sH2.trans s').seq hq,aY (v:=V.int (z':Nat)) (by unfold aL;rw[Nh,hz'];rfl),_,_,Z,Z,_,Z,?_⟩;by_cases c:w.1≤z'
   ·refine cC (by omega) ?_;refine⟨_,Z,_,Z,p,_,_,_,Z,Z,tH _ _ hS,aY hx,pw,_,_,_,Z,Z,tH _ _ hSw,Z,_,_,Z,Z,_,Z,?_⟩;by_cases c':z'≤w.2.1
    ·exact cC (by omega) ⟨_,Z,kR (by unfold fw;rw[decide_eq_true c,decide_eq_true c'];rfl) _ (aD.refl _)⟩
    ·exact cr (by omega) (kE (by unfold fw;rw[decide_eq_false c',Pm]) _ (aD.refl _))
   ·refine cr (by omega) ?_;exact⟨_,Z,d0 (kE (by unfold fw;rw[decide_eq_false c,QD]) _ (aD.refl _))⟩
  rw[nl,show((ls.length:Int)).toNat=ls.length by omega] at h4
  replace h4:H4 D=some (.lst ((gg ls w).map λi:Nat=>V.int i)):=h4
  have hl4:=s4 _ _ hl2;have ewi:(ws.map (bn ls)).getD i none=bn ls w:=ap none (by rw[Nh,hwi];rfl);have hle:=al2.len;have hle':=uH (ws.map (bn ls)) i;refine⟨_,Z,D,_,Z,.inl (aV.of h4),_,_,Z,Z,_,Z,?_⟩
  cases c:gg ls w with
  |nil=>
   rw[c] at h4;refine d0 ?_;refine⟨ys,_,_,Z,sm.trans s4,hl4,?_⟩;have e:bn ls w=none:=by unfold bn;rw[c]
   rw[e] at ewi;rw[yn ewi];exact al2.mono λ_ _ m=>m.mono (aK.same s4)
  |cons a r=>
   rw[c] at h4;refine cC (by show(0:Int)<((Xv (λi:Nat=>V.int i) (a::r)).length:Int);rw[Na,NU];omega) ?_;have hlast:mN ((a::r).map λi:Nat=>V.int i) (-1)=some (.int ((a::r).getLast (by simp):Nat)):=by
    have e:=Q1 (show(a::r)≠[] by simp);have e2:(a::r).map (λi:Nat=>V.int i)=(a::r).dropLast.map (λi:Nat=>V.int i)++[V.int ((a::r).getLast (by simp):Nat)]:=by
     conv=>lhs;rw[←e]
     rw[N5];rfl
    rw[e2];exact mM _ _
   have hfst:mN ((a::r).map λi:Nat=>V.int i) 0=some (.int (a:Nat)):=aY (j:=0) Z;have e:bn ls w=some (a,(a::r).getLast (by simp)):=by unfold bn;rw[c]
   rw[e] at ewi;refine⟨_,Z,.inl ⟨Z,_,aV.of hl4⟩,_,Z,D,_,_,_,Z,Z,aV.of h4,hfst,_,Z,_,Z,D,_,_,_,Z,Z,aV.of h4,hlast,_,Z,IY,λpt hpt=>?_⟩;have s5:=ai hpt (.tup [.int a,.int ((a::r).getLast (by simp):Nat),.int i]);have hl5:=s5 _ _ hl4;refine⟨lsn,_,_,Z,Z,hl5,bh (by omega),?_⟩;refine⟨_,_,_,Z,?_,ag,?_⟩
   ·intro b o e;rw[aJ (aU e hsn)];exact s5 _ _ (s4 _ _ (sm _ _ e))
   ·rw[ym ewi];refine(al2.mono λv d m=>m.mono (((aK.same s4).trans (aK.same s5)).trans (aK.up hl5 _))).snoc ?_;exact⟨pt,Z,aK.up (K:=K) hl5 _ _ _ (bC.of ag)⟩
 ·rintro σ H2 ⟨ys,x4,x5,rfl,sm,hl2,al2⟩;have hos:(ws.map (bn ls)).length=ws.length:=Na _;rw[show((xs.length:Int)).toNat=(ws.map (bn ls)).length by rw[hos];omega] at al2;have hyl:=al2.len;have hyl':=uH (ws.map (bn ls)) (ws.map (bn ls)).length;have LB:=λr=>u7 (os:=ws.map (bn ls)) (qo ok) (by omega) r
  have held:=sK (ws.map (bn ls));have hul:(bG ws).length=ws.length:=Na _;generalize hO:ws.map (bn ls)=os at *;generalize hL:dy os (gJ (bG ws))=L at *;have sH2:=s1.trans sm;have hu2:H2 lu=some (.lst ((bG ws).map V.int)):=sm _ _ hu1;refine⟨(by show 0≤sizeLine;exact NB _),λl0 h0=>?_⟩;have s3:=ai h0 (.lst []);refine⟨GZ,λpb0 hpb0=>?_⟩;have s4:=ai hpb0 (.tup [.int 0,.int 1,.int 0,.ref l0]);have hb0:bC K _ pb0 [.int 0,.int 1,.int 0,.ref l0]:=bC.of (ag (H:=aE H2 l0 (.lst [])) (a:=pb0) (o:=.tup [.int 0,.int 1,.int 0,.ref l0]));have s34:=s3.trans s4;generalize aE (aE H2 l0 (.lst [])) pb0 (.tup [.int 0,.int 1,.int 0,.ref l0])=H3 at s34 hb0 ⊢;let Iv2:Nat->L2.St->Hp->Prop:=λi σ H'=>∃(pb:Addr) (x7 x8 x9 x10 x11 x12:Option V),σ=[some (.ref p),some (.ref q),some (.ref lu),some (.ref lsn),x4,x5,some (.ref pb),x7,x8,x9,x10,x11,x12]/\aD H2 H'/\oo K H' os (fV ls.length i i) L pb
  refine⟨_,Z,q,_,Z,.inl ((sH2.trans s34).seq hq),_,Z,by omega,by omega,cZ (lo:=0) (n:=((aL ls).length:Int).toNat) Iv2 ⟨pb0,none,none,none,none,none,none,Z,s34,0,1,0,l0,hb0,.inl ⟨Z,Z,Z,λr hr=>?_⟩⟩ ?_ ?_⟩
  ·unfold fV gl at hr;omega
  ·rintro i σ HA hi ⟨pb,x7,x8,x9,x10,x11,x12,rfl,sA,best⟩;rw[PP];have sHA:=sH2.trans sA;refine⟨_,Z,_,Z,q,_,Z,.inl (sHA.seq hq),_,_,Z,⟨by omega,by omega,by omega,by omega⟩,cZ (lo:=i) (n:=(((aL ls).length:Int)-i).toNat) (λj σ H'=>∃(pb:Addr) (x8 x9 x10 x11 x12:Option V),σ=[some (.ref p),some (.ref q),some (.ref lu),some (.ref lsn),x4,x5,some (.ref pb),some (.int i),x8,x9,x10,x11,x12]/\aD H2 H'/\oo K H' os (fV ls.length i (i+j)) L pb) ⟨pb,x8,x9,x10,x11,x12,Z,sA,best⟩ ?_ ?_⟩
   ·rintro j σ HB hj ⟨pb,x8,x9,x10,x11,x12,rfl,sB,best⟩;rw[show(i:Int)+(j:Int)=((i+j:Nat):Int) by omega,show i+(j+1)=i+j+1 from Z];obtain⟨e,he⟩:∃e,e=i+j:=⟨_,Z⟩;rw[←he] at best ⊢;have hen:e<ls.length:=by omega
    have hie:i≤e:=by omega
    have hlB:=sB _ _ hl2;have tB:=aK.same (K:=K) sB;refine⟨_,Z,lsn,Z,⟨_,aV.of hlB⟩,λD hD=>bY (eO (aV.of hlB)) (λm=>rG (i,e) ((xp os os.length).getD m (0,0,0))) (λm=>V.int (((xp os os.length).getD m (0,0,0)).2.2:Nat)) hD (by omega) (λm x H' hm s' hx R E kR kE=>?_) λHC sC hC=>?_⟩
    ·obtain⟨sp,hsp,ps,rfl,hps⟩:=al2.at hx;rw[ap (0,0,0) hsp] at kR kE;have hps':=aK.same (K:=K) (sB.trans s') _ _ hps;refine⟨fu.set Z,_,Z,_,Z,ps,_,_,_,Z,Z,hps',Z,_,_,Z,Z,_,Z,?_⟩;by_cases c:i≤sp.1
     ·refine cC (by omega) ?_;refine⟨_,Z,ps,_,_,_,Z,Z,hps',Z,_,Z,_,_,Z,Z,_,Z,?_⟩;by_cases c':sp.2.1≤e
      ·exact cC (by omega) ⟨_,Z,ps,_,_,_,Z,Z,hps',Z,kR (by show(decide (i≤sp.1)&&decide (sp.2.1≤e))=true;rw[decide_eq_true c,decide_eq_true c'];rfl) _ (aD.refl _)⟩
      ·exact cr (by omega) (kE (by show(decide (i≤sp.1)&&decide (sp.2.1≤e))=false;rw[decide_eq_false c',Pm]) _ (aD.refl _))
     ·exact cr (by omega) (d0 (kE (by show(decide (i≤sp.1)&&decide (sp.2.1≤e))=false;rw[decide_eq_false c,QD]) _ (aD.refl _)))
    have eC:HC D=some (.lst (aL (bS os (i,e)))):=by
     rw[hC,hyl,dJ (0,0,0) (rG (i,e)) (λs:Nat×Nat×Nat=>V.int (s.2.2:Nat)),←held (i,e)];unfold aL;rw[OE];rfl
    refine⟨_,Z,D,Z,⟨_,aV.of eC⟩,λE hE=>bY (eO (aV.of eC)) (λ_=>true) (λm=>V.int (gJ (bG ws) ((bS os (i,e)).getD m 0))) hE ?_ (λm x H' hm s' hx R E kR kE=>?_) λHE sE hE4=>?_⟩
    ·unfold aL bS;rw[Na];have:=On (λi_1=>eZ i e (os.getD i_1 none)) (M7 os.length);rw[NP] at this;exact NH this (by omega)
    ·unfold aL at hx;rw[Nh] at hx;obtain⟨z,hz,rfl⟩:=N6.mp hx;have qq:=kR Z _ (aD.refl _);rw[ap 0 hz] at qq;have hzl:z<os.length:=by
      have:=Nd hz;unfold bS at this;exact Nk.mp (NA.mp this).1
     obtain⟨y,hy⟩:∃y,(bG ws)[z]?=some y:=⟨_,M8 (by omega)⟩;rw[show gJ (bG ws) z=y from ap 0 hy] at qq;exact⟨fu.set Z,_,Z,_,Z,lu,_,_,_,Z,Z,((sB.trans sC).trans s').seq (aV.of hu2),aY (by rw[Nh,hy];rfl),qq⟩
    have e4:HE E=some (.lst (((bS os (i,e)).map (gJ (bG ws))).map V.int)):=by
     rw[hE4,show(aL (bS os (i,e))).length=(bS os (i,e)).length from Na _,di 0 (λk=>V.int (gJ (bG ws) k)),OE];rfl
    have sBE:=sC.trans sE;have sHE:=sB.trans sBE;have eDE:=sE _ _ eC;refine⟨E,_,Z,aV.of e4,?_⟩;have eL:((bS os (i,e)).map (gJ (bG ws))).sum=L (i,e):=by rw[←hL];rfl
    rw[eL];have lb:=LB (i,e);have lp:1≤bL (i,e)/\bL (i,e)≤24:=by show 1≤(e:Int)-i+1/\(e:Int)-i+1≤24;omega
    refine⟨_,Z,_,Z,_,_,Z,Z,_,_,Z,Z,?_⟩;obtain⟨mn,ln,bg,lbb,hpb,bst⟩:=best;have hpbE:=aK.same (K:=K) sBE _ _ hpb;have bl:0≤mn/\mn≤64512/\0<ln:=by
     rcases bst with⟨r1,r2,_⟩ | ⟨z,r0,r1,r2,_,_,b⟩
     ·omega
     ·have:=LB z;have:=(show gl ls.length z from b.inn.1).pos;omega
    refine⟨_,Z,_,Z,pb,_,_,_,Z,Z,hpbE,Z,_,_,Z,Z,.inl ⟨by omega,by omega⟩,_,Z,pb,_,_,_,Z,Z,hpbE,Z,_,Z,_,_,Z,Z,.inl ⟨by omega,by omega⟩,_,_,Z,Z,?_⟩;have st:=λr=>sN (n:=ls.length) (b:=i) (e:=e) hie hen r
    have secs:∀r,fV ls.length i (e+1) r->gl ls.length r:=λr hr=>hr.1
    refine⟨_,Z,_,_,Z,Z,_,Z,?_⟩;by_cases c:0<L (i,e)*ln-mn*bL (i,e)
    ·refine cC c (hJ ?_);refine⟨_,Z,_,Z,_,Z,_,Z,GZ,λpn hpn=>?_⟩;have s5:=ai hpn (.tup [.int (L (i,e)),.int (bL (i,e)),.int (i:Nat),.ref D]);refine⟨pn,_,_,_,_,_,Z,sHE.trans s5,L (i,e),bL (i,e),(i:Nat),D,bC.of ag,.inr ⟨(i,e),?_,Z,Z,Z,s5.seq (aV.of eDE),?_⟩⟩
     ·rcases bst with⟨r1,r2,_⟩ | ⟨z,r0,r1,r2,_,_,b⟩
      ·subst r1 r2;omega
      ·exact A7 (ln:=ln) lb.1 (show 0<mn by omega) (show 0<bL (i,e) by omega) (by omega)
     ·rcases bst with⟨r1,r2,_,z⟩ | ⟨z,r0,r1,r2,_,_,b⟩
      ·subst r1 r2;exact C3 st secs z (by omega)
      ·subst r1 r2;exact b.more secs st (by omega)
    refine cr c ?_;have stay:oo K HE os (fV ls.length i (e+1)) L pb∨(L (i,e)*ln-mn*bL (i,e)=0/\0<L (i,e)/\(i:Int)=bg):=by
     rcases bst with⟨r1,r2,r3,z⟩ | ⟨z,r0,r1,r2,r3,r4,b⟩
     ·refine .inl ⟨mn,ln,bg,lbb,hpbE,.inl ⟨r1,r2,r3,λr hr=>?_⟩⟩;rcases(st r).mp hr with h|h
      ·exact z r h
      ·subst r1 r2;rw[h];omega
     ·by_cases cc:L (i,e)*ln-mn*bL (i,e)=0/\0<L (i,e)/\(i:Int)=bg
      ·exact .inr cc
      ·refine .inl ⟨mn,ln,bg,lbb,hpbE,.inr ⟨z,r0,r1,r2,r3,sBE.seq r4,?_⟩⟩;have inn:=b.inn;unfold fV at inn;subst r1 r2 r3;refine b.stay st (by omega) ?_;by_cases c0:L (i,e)*bL z=L z*bL (i,e)
       ·left;have lpos:=A7 (ln:=bL z) lb.1 r0 (show 0<bL (i,e) by omega) (by omega);have ne:¬(i:Int)=(z.1:Int):=λh=>cc ⟨by omega,lpos,h⟩
        unfold ki;show z.1<i∨_;omega
       ·exact .inr c0
    refine⟨_,Z,Z,_,Z,?_⟩;by_cases c0:L (i,e)*ln-mn*bL (i,e)=0
    ·refine cC (congrArg V.int c0) ?_;refine⟨_,Z,_,_,Z,Z,_,Z,?_⟩;by_cases cm:0<L (i,e)
     ·refine cC cm ?_;refine⟨_,Z,_,Z,pb,_,_,_,Z,Z,hpbE,Z,Z,_,Z,?_⟩;by_cases cb:(i:Int)=bg
      ·refine cC (congrArg V.int cb) ?_;refine⟨_,Z,_,Z,_,Z,_,Z,GZ,λpn hpn=>?_⟩;have s5:=ai hpn (.tup [.int (L (i,e)),.int (bL (i,e)),.int (i:Nat),.ref D]);refine⟨pn,_,_,_,_,_,Z,sHE.trans s5,L (i,e),bL (i,e),(i:Nat),D,bC.of ag,.inr ⟨(i,e),cm,Z,Z,Z,s5.seq (aV.of eDE),?_⟩⟩;rcases bst with⟨r1,r2,_,z⟩ | ⟨z,r0,r1,r2,r3,_,b⟩
       ·subst r1 r2;omega
       ·have inn:=b.inn;unfold fV at inn;subst r1 r2 r3;exact b.longer secs st (by omega) (show i=z.1 by omega) (show z.2≤e by omega)
      ·refine cr (λz=>cb (by injection z)) ?_;rcases stay with h|h
       ·exact⟨pb,_,_,_,_,_,Z,sHE,h⟩
       ·exact absurd h.2.2 cb
     ·refine cr cm (d0 ?_);rcases stay with h|h
      ·exact⟨pb,_,_,_,_,_,Z,sHE,h⟩
      ·exact absurd h.2.1 cm
    ·refine cr (λz=>c0 (by injection z)) (d0 ?_);rcases stay with h|h
     ·exact⟨pb,_,_,_,_,_,Z,sHE,h⟩
     ·exact absurd h.1 c0
   ·rintro σ HB ⟨pb,x8,x9,x10,x11,x12,rfl,sB,best⟩;refine⟨pb,_,_,_,_,_,_,Z,sB,best.mono (aD.refl _) λr=>?_⟩;rw[show i+(((aL ls).length:Int)-(i:Int)).toNat=ls.length by omega];exact sO r
  ·rintro σ HA ⟨pb,x7,x8,x9,x10,x11,x12,rfl,sA,mn,ln,bg,lb,hpb,best⟩;rw[show((aL ls).length:Int).toNat=ls.length by omega] at best;have sHA:=sH2.trans sA;refine⟨_,Z,pb,_,_,_,Z,Z,hpb,Z,Z,_,Z,?_⟩;rcases best with⟨r1,r2,r3,z⟩ | ⟨z,r0,r1,r2,r3,r4,b⟩
   ·subst r1;exact cC Z (kN HA sHA (u6 ok λr hr=>by rw[hO,hL];exact z r ((nE r).mp hr)))
   ·subst r1 r2 r3;refine cr (λh=>by injection h;omega) ?_;have sec:gl ls.length z:=b.inn.1;have c1:z.1≤z.2:=sec.1;have c2:z.2<ls.length:=sec.2;refine⟨_,Z,_,Z,pb,_,_,_,Z,Z,hpb,Z,_,Z,_,Z,pb,_,_,_,Z,Z,hpb,Z,_,Z,pb,_,_,_,Z,Z,hpb,Z,_,_,Z,Z,_,Z,q,_,Z,sHA.seq hq,λpc0 hpc0=>?_⟩;rw[show(z.1:Int)+bL z=((z.2+1:Nat):Int) by unfold bL;omega,vo (by omega) (by omega)];have s5:=ai hpc0 (.lst (aL ((ls.drop z.1).take (z.2+1-z.1))));refine⟨pc0,_,Z,.inl ⟨aV.of ag,λpc hpc=>?_⟩⟩;have s6:=ai hpc (.tup (aL ((ls.drop z.1).take (z.2+1-z.1))));have s56:=s5.trans s6;refine⟨_,Z,pb,_,_,_,Z,Z,aK.same (K:=K) s56 _ _ hpb,Z,lb,_,Z,.inl ⟨s56.seq r4,λpe hpe=>?_⟩⟩;have s7:=ai hpe (.tup (aL (bS os z)));refine⟨g9,λpr hpr=>?_⟩;have s8:=ai hpr (.tup [.ref pc,.ref pe]);have it:pZ ws ls z:=⟨by rw[hO,hL];exact b.congr nE,by rw[hO,hL];exact r0⟩;refine k (.ref pr) z _ (by intro h;cases h) (((sHA.trans s56).trans s7).trans s8) it ?_;have e:fJ ws ls z=(c5 ls z,bS os z):=by unfold fJ;rw[hO]
    rw[e];exact⟨pr,pc,pe,Z,bC.of ag,aK.same (K:=K) (s7.trans s8) _ _ (bC.of ag),aK.same (K:=K) s8 _ _ (bC.of ag)⟩
theorem FI(T:fc K mg t):bX P w K mg base ee 3 t.a_Q15 t.d_Q15 ["_law_works_here"] (mV K):=by
 refine T.F_Q15.ok jR (λvs H Q E h=>?_) (λcdv A outer s H vs Q E hr h=>?_)
 ·obtain⟨_,_,rfl,_⟩:=h;rfl
 obtain⟨v,ws,rfl,⟨p,xs,rfl,hS,al⟩,hw,ok,k⟩:=h;refine dS.ok (ae (cw 1 jR.nd (bM (mH Z) (by rfl) T.z_list Xj (ac (oY Z T.z_range (ac ah af aB)) af aF))) (ae (cw 2 jR.nd (cL af)) (ae (cw 3 jR.nd (cI (Dv T) hr T.m_Q9 T.F_Q9.kp T.b_Q9 (ac (qv 0) (ac (qv 1) af ad) ad))) (ae (ij NI (aQ uS (qv 3) o4 (aT _)) (ae (dD (gY Od Og Oh cE (qv 2) (ac (qv 3) af ad))) (ae (dM (i:=1) (N':=["_law_turn","_law_layer"]) (src:=[none,some 3]) jR.nd Z (by first|exact NG Z|exact NC Z) Z (by exact(cX (qv 1))) (λ_ _ _ _ _=>(by exact(by exact ao (i:=0) (by show NQ (["_law_turn","_law_layer"]:List NV);decide +kernel) (by exact Z) (by first|exact NG Z|exact NC Z)))) (λ_ _ _ _ _=>(dC (aQ (eP (K:=K) (by exact Z)) (by exact(qv 0)) (by exact(bB (bj (K:=K) (by exact Z)) (by exact(qv 1)) ah (by exact λ_ _=>Z))) (by with_unfolding_all rfl)))) (λ_ _ _ _ _=>(by exact(by exact(qv 0)))) (by exact⟨Z,Z,Z,Z,trivial⟩) Z (by decide +kernel) Z (by decide +kernel) (by exact aS Z ⟨Z,trivial⟩)) (aj (cw 3 jR.nd (cI (Dv T) hr T.m_Q9 T.F_Q9.kp T.b_Q9 (ac (qv 0) (ac (qv 1) af ad) ad))))))) (aj (aO (qv 2))))))) ?_
 nofun
 have hlen:=al.len;refine⟨_,Z,λpr hpr=>?_⟩;have s1:=ai hpr (.rng 0 24);refine⟨pr,24,Z,ag,by decide,λq0 hq0=>?_⟩;have s2:=ai hq0 (.lst ((B.upTo 24).map V.int));have hq2:aE (aE H pr (.rng 0 24)) q0 (.lst ((B.upTo 24).map V.int)) q0=some (.lst (aL (M7 24))):=by
  have e:aL (M7 24)=(B.upTo 24).map V.int:=by unfold aL B.upTo;rw[OE];rfl
  rw[e];exact ag
 have s12:=s1.trans s2;generalize aE (aE H pr (.rng 0 24)) q0 (.lst ((B.upTo 24).map V.int))=HA at hq2 s12 ⊢;refine⟨(by show 0≤sizeLine;exact NB _),λl h0=>?_⟩;have nql:q0≠l:=λz=>by subst z;rw[hq2] at h0;cases h0
 have h00:H l=none:=by
  cases e:H l with
  |none=>rfl
  |some o=>rw[s12 _ _ e] at h0;cases h0
 have s3:=ai h0 (.lst []);have hl3:aE HA l (.lst []) l=some (.lst []):=ag;have hq3:=s3 _ _ hq2;have s03:=s12.trans s3;generalize aE HA l (.lst [])=HB at hl3 hq3 s03 ⊢;have nf:=uW ok;refine⟨_,Z,_,Z,.ref p,q0,ws,M7 24,Z,⟨p,xs,Z,aK.same (K:=K) s03 _ _ hS,al.mono λ_ _ m=>m.mono (aK.same s03)⟩,hw,ok,aV.of hq3,by decide,(λHC s4 z0=>?_),λx0 pl0 HC ne0 s4 it0 lv0=>?_⟩;let Iv1:Nat->L2.St->Hp->Prop:=λm σ H'=>∃(acc:List (List Nat×List Nat)) (ys:List V) (q:Addr) (ls:List Nat) (x:V),σ=[some (.ref p),some (.ref q),some (.ref l),some x]/\aD H H'/\H' l=some (.lst ys)/\cV (pV K H') ys acc/\H' q=some (.lst (aL ls))/\q≠l/\ls.Nodup/\(∀t∈ls,t<24)/\ls.length≤24/\acc.length+jG ws ls≤ws.length/\(∀y∈acc,hV ws.length y)/\(∀r,fM ws ls r->fM ws (M7 24) (acc++r))/\m=jG ws ls/\((x=.non/\jG ws ls=0)∨∃pl,x≠.non/\pZ ws ls pl/\pV K H' x (fJ ws ls pl))
 refine⟨Iv1,⟨_,[],[],q0,M7 24,_,Z,s03.trans s4,s4 _ _ hl3,.nil,s4 _ _ hq3,nql,Rs,(λt ht=>Nk.mp ht),by decide,(by rw[nf];exact QU (R3 _)),(λy hy=>by cases hy),(λr h=>h),Z,.inl ⟨Z,z0⟩⟩,?_⟩
 rotate_left
 let Iv2:Nat->L2.St->Hp->Prop:=λm σ H'=>∃(acc:List (List Nat×List Nat)) (ys:List V) (q:Addr) (ls:List Nat) (x:V),σ=[some (.ref p),some (.ref q),some (.ref l),some x]/\aD H H'/\H' l=some (.lst ys)/\cV (pV K H') ys acc/\H' q=some (.lst (aL ls))/\q≠l/\ls.Nodup/\(∀t∈ls,t<24)/\ls.length≤24/\acc.length+jG ws ls≤ws.length/\(∀y∈acc,hV ws.length y)/\(∀r,fM ws ls r->fM ws (M7 24) (acc++r))/\m=jG ws ls/\((x=.non/\jG ws ls=0)∨∃pl,x≠.non/\pZ ws ls pl/\pV K H' x (fJ ws ls pl))
 refine⟨Iv2,⟨_,[],[],q0,M7 24,_,Z,s03.trans s4,s4 _ _ hl3,.nil,s4 _ _ hq3,nql,Rs,(λt ht=>Nk.mp ht),by decide,(by rw[nf];exact QU (R3 _)),(λy hy=>by cases hy),(λr h=>h),Z,.inr ⟨pl0,ne0,it0,lv0⟩⟩,?_⟩
 all_goals
  rintro m σ H1 ⟨acc,ys,q,ls,x,rfl,sm,hl1,al1,hq,nq,nd,lt,l24,few,lok,con,rfl,cs⟩;refine⟨_,Z,Z,_,Z,?_⟩;rcases cs with⟨rfl,c⟩ | ⟨pl,ne,it,lv⟩
  ·refine io Z ?_;have ly:=con [] (.nil c);rw[O1] at ly;exact⟨_,Z,k l ys acc H1 sm h00 hl1 al1 ly lok (by omega)⟩
  ·refine AJ ne ?_;refine⟨_,λ_ _ z=>z,?_⟩;have sec:=k4 it;have hy:=al1.len;have lyo:hV ws.length (fJ ws ls pl):=tP sec l24 lt;have rst:=uU (ws:=ws) nd sec;have hp:=it.held;refine⟨_,Z,.inl ⟨Z,_,aV.of hl1⟩,_,Z,l,_,_,Z,Z,hl1,bh (by omega),?_⟩;have t3:aK K H1 (aE H1 l (.lst (ys++[x]))):=aK.up hl1 _;have sm3:aD H (aE H1 l (.lst (ys++[x]))):=λb o e=>by rw[aJ (aU e h00)];exact sm _ _ e
   have hl3:aE H1 l (.lst (ys++[x])) l=some (.lst (ys++[x])):=ag;have al3:cV (pV K (aE H1 l (.lst (ys++[x])))) (ys++[x]) (acc++[fJ ws ls pl]):=(al1.mono λ_ _ m=>m.mono t3).snoc (lv.mono t3);have lv3:=lv.mono t3;have hq3:aE H1 l (.lst (ys++[x])) q=some (.lst (aL ls)):=by rw[aJ nq];exact hq
   generalize aE H1 l (.lst (ys++[x]))=H3 at sm3 hl3 al3 lv3 hq3 ⊢;obtain⟨pL,a,b,rfl,hpL,ha,hb⟩:=lv3;have nl:(aL ls).length=ls.length:=Na _;refine⟨_,Z,q,Z,⟨_,aV.of hq3⟩,λD hD=>bY (eO (aV.of hq3)) (λi=>!(c5 ls pl).contains (ls.getD i 0)) (λi=>V.int (ls.getD i 0:Nat)) hD (by omega) (λi x H' hi s' hx R E kR kE=>?_) λH4 s4 h4=>?_⟩
   ·unfold aL at hx;rw[Nh] at hx;obtain⟨z,hz,rfl⟩:=N6.mp hx;rw[ap 0 hz] at kR kE;have t':=aK.same (K:=K) s';refine⟨fu.set Z,_,Z,_,Z,pL,_,_,_,Z,Z,t' _ _ hpL,Z,a,_,Z,.inr (t' _ _ ha),Z,rL _,_,Z,?_⟩;have e:vd (.int (z:Nat)) (aL (fJ ws ls pl).1)=(c5 ls pl).contains z:=k7 z (c5 ls pl)
    cases cz:(c5 ls pl).contains z with
    |true=>exact g7 (by show(!vd (.int (z:Nat)) (aL (fJ ws ls pl).1))=false;rw[e,cz];rfl) (kE (by rw[cz];rfl) _ (aD.refl _))
    |false=>exact nM (by show(!vd (.int (z:Nat)) (aL (fJ ws ls pl).1))=true;rw[e,cz];rfl) ⟨_,Z,kR (by rw[cz];rfl) _ (aD.refl _)⟩
   rw[nl,dJ 0 (λt=>!(c5 ls pl).contains t) (λt:Nat=>V.int t)] at h4
   replace h4:H4 D=some (.lst (aL (cT ls pl))):=h4
   have nD:D≠l:=λz=>by subst z;rw[hl3] at hD;cases hD
   have sm4:=sm3.trans s4;have rl:(cT ls pl).length≤ls.length:=On _ _;have fin:∀(x':V) (H5:Hp),aD H4 H5->((x'=.non/\jG ws (cT ls pl)=0)∨∃pl',x'≠.non/\pZ ws (cT ls pl) pl'/\pV K H5 x' (fJ ws (cT ls pl) pl'))->∃m',m'<jG ws ls/\∃(acc:List (List Nat×List Nat)) (ys:List V) (q:Addr) (ls:List Nat) (x:V),[some (.ref p),some (.ref D),some (.ref l),some x']=[some (.ref p),some (.ref q),some (.ref l),some x]/\aD H H5/\H5 l=some (.lst ys)/\cV (pV K H5) ys acc/\H5 q=some (.lst (aL ls))/\q≠l/\ls.Nodup/\(∀t∈ls,t<24)/\ls.length≤24/\acc.length+jG ws ls≤ws.length/\(∀y∈acc,hV ws.length y)/\(∀r,fM ws ls r->fM ws (M7 24) (acc++r))/\m'=jG ws ls/\((x=.non/\jG ws ls=0)∨∃pl,x≠.non/\pZ ws ls pl/\pV K H5 x (fJ ws ls pl)):=λx' H5 s5 cs'=>by
    refine⟨jG ws (cT ls pl),by omega,acc++[fJ ws ls pl],ys++[.ref pL],D,cT ls pl,x',Z,sm4.trans s5,s5 _ _ (s4 _ _ hl3),al3.mono (λ_ _ m=>m.mono (aK.same (s4.trans s5))),s5 _ _ h4,nD,uO nd pl,(λt ht=>lt t (NA.mp ht).1),by omega,(by rw[NL];show acc.length+1+_≤_;omega),(λy hy=>?_),(λr hr=>?_),Z,cs'⟩
    ·rcases NF.mp hy with h|h
     ·exact lok y h
     ·rw[Nm.mp h];exact lyo
    ·have:=con _ (fM.cons it hr);rw[Q9];exact this
   refine⟨_,Z,_,Z,.ref p,D,ws,cT ls pl,Z,⟨p,xs,Z,aK.same (K:=K) sm4 _ _ hS,al.mono λ_ _ m=>m.mono (aK.same sm4)⟩,hw,ok,aV.of h4,by omega,(λH5 s5 z=>fin .non H5 s5 (.inl ⟨Z,z⟩)),λx' pl' H5 ne' s5 it' lv'=>fin x' H5 s5 (.inr ⟨pl',ne',it',lv'⟩)⟩
theorem Fu(T:fc K mg t):bX P w K mg base ee 3 t.a_Q35 t.d_Q35 ["_law_tape_here","_law_works_here"] (qE K):=by
 refine T.F_Q35.ok eG (λvs H Q E h=>?_) (λcdv A outer s H vs Q E hr h=>?_)
 ·obtain⟨_,_,_,_,rfl,_⟩:=h;rfl
 obtain⟨t₁,s₁,v,ws,rfl,tp,⟨p,xs,rfl,hp,al⟩,l8,okw,k⟩:=h;refine dS.ok (ae (dM (i:=2) (N':=["_law_turn"]) (src:=[none]) eG.nd Z (by first|exact NG Z|exact NC Z) Z (by exact(b8 Z T.z_range (ac ah af aB))) (λ_ _ _ _ _=>(by exact(by exact ao (i:=0) (by show NQ (["_law_turn"]:List NV);decide +kernel) (by exact Z) (by first|exact NG Z|exact NC Z)))) (λ_ _ _ _ _=>bQ) (λ_ _ _ _ _=>(by exact(by exact(cL af)))) (by exact trivial) Z (by decide +kernel) Z (by decide +kernel) (by exact aS Z trivial)) (ae (cj NI Z (b8 Z T.z_range (ac (aG aH (by rfl) T.z_len OD (ac (qv 1) af ad)) af aF)) (ao (i:=3) eG.nd Z (by first|exact NG Z|exact NC Z)) (ae (gf (bZ au (qv 1) (qv 3)) (ik Z (bi (ao (i:=4) eG.nd Z (by first|exact NG Z|exact NC Z)) (bi (ao (i:=5) eG.nd Z (by first|exact NG Z|exact NC Z)) (bi (ao (i:=6) eG.nd Z (by first|exact NG Z|exact NC Z)) dE))))) (ae (cw 7 eG.nd (aP cM (aP gS (qv 5) (qv 4)) ah)) (ae (cw 8 eG.nd (aP cM ah (cI (d9 T) hr T.m_Q31 T.F_Q31.kp T.b_Q31 (ac (qv 0) (ac (aG (wU Z) (by rfl) T.z_min boot_min (ac ah (ac (qv 7) af ad) aB)) af aF) ad)))) (ae (jU (ca (aQ gA (cI (d9 T) hr T.m_Q31 T.F_Q31.kp T.b_Q31 (ac (qv 0) (ac ah af aB) ad)) ah (aT _)) (aj (cw 8 eG.nd (qv 7))) be)) (ae (cw 9 eG.nd (cI (d9 T) hr T.m_Q31 T.F_Q31.kp T.b_Q31 (ac (qv 0) (ac (qv 7) af ad) ad))) (ae (dM (i:=10) (N':=["_law_k","_law_many","_law_tape_here"]) (src:=[none,some 8,some 0]) eG.nd Z (by first|exact NG Z|exact NC Z) Z (by exact(b8 Z T.z_range (ac (qv 8) af ad))) (λ_ _ _ _ _=>(by exact(by exact ao (i:=0) (by show NQ (["_law_k","_law_many","_law_tape_here"]:List NV);decide +kernel) (by exact Z) (by first|exact NG Z|exact NC Z)))) (λ_ _ _ _ _=>bQ) (λ_ _ _ _ _=>(by exact(by exact(bB (cR (K:=K) (by exact Z)) (by exact(cL (ac (by exact(aP cM ah (by exact(fz (d9 T) (by exact hr.mono (by decide)) (by exact Z) T.m_Q31 T.F_Q31.kp T.b_Q31 (by exact .nil) (by exact ju) (ac (by exact(qv 2)) (ac ah af aB) ad))))) (ac ah af aB) bu))) (by exact(bM wX (by exact Z) T.z_int boot_int (ac (by exact(f6 eV (by exact(qv 1)) ah (aT _))) af yb))) (by exact λ_ _=>Z))))) (by exact⟨Z,Z,Z,Z,⟨Z,Z,Z,Z,trivial⟩⟩) Z (by decide +kernel) Z (by decide +kernel) (by exact aS Z ⟨Z,⟨Z,trivial⟩⟩)) (aj (cj NI Z (b8 Z T.z_range (ac (qv 8) af ad)) (ao (i:=11) eG.nd Z (by first|exact NG Z|exact NC Z)) (ae (cw 12 eG.nd (cI (i5 T) hr T.m_Q38 T.F_Q38.kp T.b_Q38 (ac (qv 6) (ac (cI (lU T) hr T.m_Q32 T.F_Q32.kp T.b_Q32 (ac (bZ bI (qv 10) (qv 11)) (ac (aG (j9 Z) (by rfl) T.z_sum boot_sum (ac (qv 10) af ad)) af aF) aI)) af aF) ad))) (aj (dD (gY Od Og Oh cE (bZ bI (qv 2) (aP cM (qv 4) (aP gh (aP cM (qv 9) (qv 11)) (qv 7)))) (ac (bz (ac (qv 3) (ac (qv 12) af ad) ad)) af bO)))))))))))))) (aj (aO (bM bJ (by rfl) T.z_tuple Pf (ac (bD (N':=["_law_turn"]) (src:=[none]) Z (by exact(cX (qv 2))) (λ_ _ _ _ _=>(by exact(by exact ao (i:=0) (by show NQ (["_law_turn"]:List NV);decide +kernel) (by exact Z) (by first|exact NG Z|exact NC Z)))) (λ_ _ _ _ _=>bQ) (λ_ _ _ _ _=>(by exact(by exact(bM (mG (K:=K) (by exact Z)) (by exact Z) T.z_tuple Pf (ac (by exact(qv 0)) af ad))))) (by exact trivial) Z (by decide +kernel) Z (by decide +kernel) (by exact aS Z trivial)) af cW)))))) ?_
 nofun
 refine⟨24,Z,by decide,by decide,λD hD=>iy (J:=xy 0 24) (n:=24) (λi ys H'=>∃rows:List Addr,ys=rows.map V.ref/\rows.length=i/\rows.Nodup/\D∉rows/\(∀r∈rows,H r=none)/\aD H H'/\H' D=some (.lst ys)/\∀r∈rows,H' r=some (.lst [])) ⟨[],Z,Z,PV,(λz=>by cases z),(λr hr=>by cases hr),ai hD _,ag,λr hr=>by cases hr⟩ (λi ys H' hi _=>hi) (λys H1 ⟨rows,e1,e2,e3,e4,e5,e6,e7,e8⟩=>⟨Nb _,?_⟩) ?_⟩
 rotate_left
 ·rintro i ys H1 x H2 hi ⟨rows,rfl,e2,e3,e4,e5,e6,e7,e8⟩ ⟨rfl,rfl⟩ R E kR kE;refine⟨fu.set Z,?_⟩;refine⟨(by show 0≤sizeLine;exact NB _),λr hr=>?_⟩;have s2:=ai hr (.lst []);have nr:r∉rows:=λm=>by rw[e8 r m] at hr;cases hr
  have nD:r≠D:=λz=>by subst z;rw[e7] at hr;cases hr
  have hD4:=s2 _ _ e7;refine kR (.ref r) _ hD4 (bh (by rw[Na];omega)) ⟨rows++[r],by rw[N5];rfl,by rw[NL,e2];rfl,?_,?_,λz hz=>?_,λb o q=>?_,ag,λz hz=>?_⟩
  ·rw[OC];exact⟨e3,Ot.mpr ⟨(λz=>by cases z),PV⟩,λa ha b hb=>by rw[Nm.mp hb];exact λz=>nr (by rw[←z];exact ha)⟩
  ·intro m;rcases NF.mp m with z|z
   ·exact e4 z
   ·exact nD (Nm.mp z).symm
  ·rcases NF.mp hz with y|y
   ·exact e5 z y
   ·rw[Nm.mp y]
    cases c:H r with
    |none=>rfl
    |some o=>rw[e6 _ _ c] at hr;cases hr
  ·rw[aJ (aU q hD)];exact s2 _ _ (e6 _ _ q)
  ·rcases NF.mp hz with y|y
   ·rw[aJ (show z≠D from λw=>e4 (by rw[←w];exact y))];exact s2 _ _ (e8 z y)
   ·rw[Nm.mp y,aJ nD,ag]
 have nD1:D≠t₁:=λz=>by subst z;obtain⟨_,e⟩:=tp.lst;rw[hD] at e;cases e
 have nrt:t₁∉rows:=λm=>by obtain⟨_,e⟩:=tp.lst;rw[e5 _ m] at e;cases e
 have g1:vH K H1 D rows (ND 24 []):=by
  refine⟨by rw[e7,e1],e2,by rw[Qm],e3,e4,λi r c hr hc=>?_⟩;rw[Po] at hc
  split at hc
  ·cases hc;exact⟨[],e8 r (Nd hr),.nil⟩
  ·cases hc
 have T1:=tp.same e6;have kp1:∀b o,b≠t₁->H b=some o->H1 b=some o:=λb o _ q=>e6 _ _ q
 have nul:=Dd.nul ws;generalize ND 24 ([]:List Pc)=pl0 at g1 nul;have rnH:∀r∈rows,H r=none:=e5;have rnS:∀r∈rows,r≠s₁∨Gz K s₁:=λr m=>tp.off (rnH r m)
 clear e1 e6 e7 e8;have hp1:∀{H':Hp},(∀b o,b≠t₁->H b=some o->H' b=some o)->bC K H' p xs:=λ{H'} kp=>by
  rcases hp with(h | ⟨ob,h⟩)|h
  ·exact .inl (.inl (kp _ _ (λz=>by subst z;obtain⟨_,e⟩:=tp.lst;rw[h] at e;cases e) h))
  ·exact .inl (.inr ⟨ob,kp _ _ (λz=>by subst z;obtain⟨_,e⟩:=tp.lst;rw[h] at e;cases e) h⟩)
  ·exact .inr h
 have hlx:=al.len;let Iv1:Nat->L2.St->Hp->Prop:=λi σ H'=>∃(pl:List (List Pc)) (x3 x4 x5 x6 x7 x8 x9 xA xB xC:Option V),σ=[some (.ref t₁),some (.ref p),some (.ref D),x3,x4,x5,x6,x7,x8,x9,xA,xB,xC]/\(∀b o,b≠t₁->H b=some o->H' b=some o)/\cD K H' t₁ s₁/\vH K H' D rows pl/\Dd ws i pl
 refine⟨_,Z,p,_,Z,.inr (hp1 kp1),_,Z,by omega,by omega,cZ (lo:=0) (n:=(xs.length:Int).toNat) Iv1 ⟨pl0,none,none,none,none,none,none,none,none,none,none,Z,kp1,T1,g1,nul⟩ ?_ ?_⟩
 ·rintro i σ H2 hi ⟨pl,x3,x4,x5,x6,x7,x8,x9,xA,xB,xC,rfl,kp,T2,g2,okp⟩;rw[PP];obtain⟨xw,hx⟩:∃x,xs[i]?=some x:=⟨_,M8 (by omega)⟩;obtain⟨w,hw,pw,xa,rfl,hSw,ra⟩:=al.at hx;have wb:=okw w (Nd hw);have S02:bP t₁ H H2:=⟨kp,tp.lst,T2.lst⟩;have t2:=aK.step (K:=K) S02;have wl:=wb.le;have w24:=wb.lt;obtain⟨n,hn⟩:∃n:Nat,n=w.2.1-w.1+1:=⟨_,Z⟩;refine⟨_,Z,_,Z,p,_,_,_,Z,Z,hp1 kp,aY hx,pw,_,Z,t2 _ _ hSw,Z,_,_,Z,_,_,Z,_,_,Z,Z,?_⟩;refine⟨_,Z,_,Z,_,_,Z,Z,_,_,Z,Z,?_⟩;dsimp only;rw[show((w.2.1:Nat):Int)-((w.1:Nat):Int)+1=((n:Nat):Int) by omega];obtain⟨mn,hmn,mn1,mn4,mnn⟩:∃mn:Int,(if((n:Nat):Int)<4 then((n:Nat):Int) else 4)=mn/\1≤mn/\mn≤4/\mn≤n:=⟨_,Z,by split<;>omega,by split<;>omega,by split<;>omega⟩;obtain⟨y2,e2'⟩:=T2.lst;refine⟨_,Z,_,Z,_,_,Z,?_⟩;rw[hmn];refine⟨t₁,s₁,mn,Z,T2,by omega,by omega,λr3 x3_ a3 b3 T3=>?_⟩;have S23:bP t₁ H2 _:=bP.up (ys:=x3_) e2';generalize aE H2 t₁ (.lst x3_)=H3 at T3 S23 ⊢;obtain⟨rr,rfl⟩:=OF a3;refine⟨_,_,Z,Z,?_⟩;dsimp only;rw[show(1:Int)+((rr:Nat):Int)=((1+rr:Nat):Int) by omega];refine⟨λσ H'=>∃(mm:Nat),σ=[some (.ref t₁),some (.ref p),some (.ref D),some (.int (i:Nat)),some (.int (w.1:Nat)),some (.int (w.2.1:Nat)),some xa,some (.int (n:Nat)),some (.int (mm:Nat)),x9,xA,xB,xC]/\bP t₁ H2 H'/\cD K H' t₁ s₁/\1≤mm/\mm≤n,?_,?_⟩
  ·obtain⟨y3,e3'⟩:=T3.lst;refine⟨_,Z,t₁,s₁,3,Z,T3,by omega,by omega,λr4 x4_ a4 b4 T4=>⟨Z,_,Z,?_⟩⟩;have S24:=S23.trans (bP.up (ys:=x4_) e3');by_cases c:r4=0
   ·exact cC (by rw[c]) ⟨_,Z,n,Z,S24,T4,by omega,Nb _⟩
   ·exact cr (λz=>c (by injection z)) ⟨1+rr,Z,S24,T4,by omega,by omega⟩
  ·rintro _ H4 ⟨mm,rfl,S24,T4,mm1,mmn⟩;obtain⟨y4,e4'⟩:=T4.lst;refine⟨_,Z,_,Z,t₁,s₁,n,Z,T4,by omega,by omega,λr5 x5_ a5 b5 T5=>?_⟩;have S25:=S24.trans (bP.up (ys:=x5_) e4');generalize aE H4 t₁ (.lst x5_)=H5 at T5 S25 ⊢;obtain⟨aa,rfl⟩:=OF a5;clear S23 S24 T3 T4 e4' e2';refine⟨_,Z,mm,Z,by omega,by omega,λD3 hD3=>?_⟩;rw[OK];have n3t:D3≠t₁:=λz=>by subst z;obtain⟨_,e⟩:=T5.lst;rw[hD3] at e;cases e
   have n3s:=T5.off hD3;refine iy (J:=xy 0 mm) (n:=mm) (λj ys H'=>∃ns:List Int,ys=ns.map V.int/\ns.length=j/\(∀z∈ns,1≤z/\z≤4/\(4<mm->z=1))/\(∀b o,b≠t₁->b≠D3->H5 b=some o->H' b=some o)/\cD K H' t₁ s₁/\H' D3=some (.lst ys)) ⟨[],Z,Z,(λz hz=>by cases hz),(λb o _ nb q=>by rw[aJ nb];exact q),T5.same (ai hD3 _),ag⟩ (λj ys H' hj _=>hj) (λys H6 ⟨ns,f1,f2,f3,f5,T6,f7⟩=>⟨Nb _,?_⟩) ?_
   rotate_left
   ·rintro j ys H' x H'' hj ⟨ns,rfl,ln,rng,kp',T',hD'⟩ ⟨rfl,rfl⟩ Rk E kR kE;obtain⟨y8,e8⟩:=T'.lst;refine⟨fu.set Z,_,Z,t₁,s₁,4,Z,T',by decide,by decide,λr zs a b T8=>⟨_,_,Z,Z,g9,λl8 h8=>?_⟩⟩;have S8:bP t₁ H'' _:=bP.up (ys:=zs) e8;generalize aE H'' t₁ (.lst zs)=HA at T8 S8 h8 ⊢;have s9:=ai h8 (.lst [.int (1+r),.int 1]);have h9:aE HA l8 (.lst [.int (1+r),.int 1]) l8=some (.lst [.int (1+r),.int 1]):=ag;generalize aE HA l8 (.lst [.int (1+r),.int 1])=HB at s9 h9 ⊢;refine⟨_,Z,_,_,Z,Z,.inr ⟨_,Z,?_⟩⟩;obtain⟨z,hz,z1,z4,z5⟩:∃z:Int,mN [V.int (1+r),.int 1] (if decide (((mm:Nat):Int)>4)=true then 1 else 0)=some (.int z)/\1≤z/\z≤4/\(4<mm->z=1):=by
     by_cases c:4<mm
     ·exact⟨1,by rw[if_pos (decide_eq_true (show((mm:Nat):Int)>4 by omega))];rfl,by decide,by decide,λ_=>Z⟩
     ·exact⟨1+r,by rw[if_neg (by rw[decide_eq_false (show ¬((mm:Nat):Int)>4 by omega)];exact Ny)];rfl,by omega,by omega,λq=>absurd q c⟩
    refine⟨l8,_,_,_,Z,Z,aV.of h9,hz,?_⟩;exact kR _ _ (s9 _ _ (S8.keep _ _ n3t hD')) (bh (by rw[Na];omega)) ⟨ns++[z],by rw[N5];rfl,by rw[NL,ln];rfl,(λy hy=>by
     rcases NF.mp hy with h|h
     ·exact rng y h
     ·rw[Nm.mp h];exact⟨z1,z4,z5⟩),(λb o nb nb2 q=>by rw[aJ nb2];exact s9 _ _ (S8.keep _ _ nb (kp' b o nb nb2 q))),(T8.same s9).upl n3t n3s _,ag⟩
   have kp6:∀b o,b≠t₁->H5 b=some o->H6 b=some o:=λb o nb q=>f5 b o nb (aU q hD3) q
   have S56:bP t₁ H5 H6:=⟨kp6,T5.lst,T6.lst⟩;have g5:=g2.step nD1 nrt S25;have g6:=g5.step nD1 nrt S56;have S06:=(S02.trans S25).trans S56;rw[f1] at f7;have n3r:D3∉rows:=λm=>by obtain⟨_,_,h,_⟩:=g5.at m;rw[hD3] at h;cases h
   have ewi:ws.getD i bV=w:=ap bV hw;have zJ:Dc ws i (jH w*(((ns.take 0).sum:Int):Rat)/((ns.sum:Int):Rat)) pl:=by
    have z:=okp.start;rw[show jH w*(((ns.take 0).sum:Int):Rat)/((ns.sum:Int):Rat)=0 by exact DR _ _];exact z
   let Iv2:Nat->L2.St->Hp->Prop:=λj σ H'=>∃(pl':List (List Pc)) (xB xC:Option V),σ=[some (.ref t₁),some (.ref p),some (.ref D),some (.int (i:Nat)),some (.int (w.1:Nat)),some (.int (w.2.1:Nat)),some xa,some (.int (n:Nat)),some (.int (mm:Nat)),some (.int (aa:Nat)),some (.ref D3),xB,xC]/\(∀b o,b∉rows->H6 b=some o->H' b=some o)/\cD K H' t₁ s₁/\vH K H' D rows pl'/\Dc ws i (jH w*(((ns.take j).sum:Int):Rat)/((ns.sum:Int):Rat)) pl'/\∀(u:Nat) (c:List Pc),pl'[u]?=some c->c.length≤i+(if u∈GK w.1 aa n j then 1 else 0)
   refine⟨_,Z,mm,Z,by omega,by omega,cZ (lo:=0) (n:=(mm:Int).toNat) Iv2 ⟨pl,xB,xC,Z,(λb o _ q=>q),T6,g6,zJ,λu c hc=>by have:=okp.few c (Nd hc);omega⟩ ?_ ?_⟩
   rotate_left
   ·rintro σ H8 ⟨pl',xB,xC,rfl,kp',T8,g8,pj8,ok8⟩;refine⟨pl',_,_,_,_,_,_,_,_,_,_,Z,λb o nb q=>kp' b o (λm=>by rw[rnH b m] at q;cases q) (S06.keep b o nb q),T8,g8,Dc.fin ?_ λc hc=>?_⟩
    ·rw[OK,R0 (by omega)] at pj8;have s0:(0:Rat)<((ns.sum:Int):Rat):=Rat.intCast_pos.mpr (by have:=(kU (m:=4) λz hz=>⟨(f3 z hz).1,(f3 z hz).2.1⟩).1;omega);rw[DT _ s0] at pj8;rw[ewi];exact pj8
    ·obtain⟨u,hu⟩:=Pa hc;have:=ok8 u c hu;refine NH this ?_
     split<;>omega
   rintro j σ H8 hj ⟨pl',xB,xC,rfl,kp',T8,g8,pj8,ok8⟩;rw[PP];have kH8:∀b o,b≠t₁->H b=some o->H8 b=some o:=λb o nb q=>kp' b o (λm=>by rw[rnH b m] at q;cases q) (S06.keep b o nb q)
   have S08:bP t₁ H H8:=⟨kH8,tp.lst,T8.lst⟩;have t8:=aK.step (K:=K) S08;have ra8:=ra.mono t8;have h38:=kp' _ _ n3r f7;rw[OK] at hj;obtain⟨a,ha⟩:∃a,ns[j]?=some a:=⟨_,M8 (by omega)⟩;have hats:(ns.map V.int)[j]?=some (.int a):=by rw[Nh,ha];rfl
   have ma:=Nd ha;have a1:=(f3 a ma).1;have sm:a≤ns.sum/\ns.sum≤24:=Ef (by rw[f2];exact f3) (by omega) ma;obtain⟨bsh,psh,qsh⟩:=Ee a1 sm.1 sm.2;refine⟨_,Z,_,Z,_,Z,D3,_,_,_,Z,Z,aV.of h38,aY hats,_,Z,D3,ns,Z,aV.of h38,a,ns.sum,Z,by omega,bU (n:=8) (by omega) (by decide),λq1 g1'=>?_⟩;have vsh:=jK (a:=a) (b:=ns.sum) (by omega);generalize dZ a ns.sum=sh at bsh psh qsh vsh ⊢;have s10:=ai g1' (.tup [.int sh.1,.int sh.2]);have r10:RV K (aE H8 q1 (.tup [.int sh.1,.int sh.2])) (.ref q1) sh:=RV.of ag;generalize aE H8 q1 (.tup [.int sh.1,.int sh.2])=H10 at s10 r10 ⊢;refine⟨xa,.ref q1,w.2.2,sh,4,40,Z,ra8.mono (aK.same s10),r10,wb.am.wf,bsh.wf (by decide) (by decide) (by decide),by decide,λq2 g2'=>?_⟩;have apr:=Cr wb.am bsh psh;have vpr:=fH (kw wb.am).pos bsh.pos;rw[vsh] at vpr;generalize aC w.2.2 sh=pr at apr vpr ⊢;have s11:=ai g2' (.tup [.int pr.1,.int pr.2]);have r11:RV K (aE H10 q2 (.tup [.int pr.1,.int pr.2])) (.ref q2) pr:=RV.of ag;have s8b:=s10.trans s11;generalize aE H10 q2 (.tup [.int pr.1,.int pr.2])=H11 at r11 s8b ⊢;have g11:=g8.same s8b;have n0:0<n:=by omega
   have mlt:=W2 (aa+j) n0;have u24:w.1+(aa+j)%n<24:=by omega
   have unot:=Bx (f:=w.1) (a:=aa) (n:=n) (j:=j) (by omega);have usuc:=xF (f:=w.1) (a:=aa) (n:=n) (j:=j);refine⟨_,Z,_,Z,_,Z,_,Z,_,_,Z,Z,_,Z,_,_,Z,Z,(by omega),_,_,Z,Z,?_⟩;dsimp only;rw[show((w.1:Nat):Int)+(((aa:Nat):Int)+((j:Nat):Int))%((n:Nat):Int)=((w.1+(aa+j)%n:Nat):Int) by rw[Uv,Wg,Uv]];have iwu:fw (ws.getD i bV) (w.1+(aa+j)%n)=true:=by
    rw[ewi];unfold fw;rw[decide_eq_true (show w.1≤w.1+(aa+j)%n by omega),decide_eq_true (show w.1+(aa+j)%n≤w.2.1 by omega)];rfl
   generalize w.1+(aa+j)%n=u at u24 unot usuc iwu ⊢;obtain⟨r,hr'⟩:∃r,rows[u]?=some r:=⟨_,M8 (by rw[g11.len];exact u24)⟩;obtain⟨c,hc⟩:∃c,pl'[u]?=some c:=⟨_,M8 (by rw[g11.pln];exact u24)⟩;obtain⟨zs,hz,az⟩:=g11.row u r c hr' hc;have hat:(rows.map V.ref)[u]?=some (.ref r):=by rw[Nh,hr'];rfl
   have mr:=Nd hr';have nrt1:r≠t₁:=λz=>nrt (by rw[←z];exact mr)
   have okc:=ok8 u c hc;rw[if_neg unot] at okc;have i9:i<9:=by have:=(Ni.mp hw).1;omega
   have lz:zs.length=c.length:=az.len;refine⟨D,_,_,_,Z,Z,aV.of g11.top,aY hat,.inl ⟨Z,_,aV.of hz⟩,_,Z,_,Z,g9,λq3 g3'=>?_⟩;have s12:=ai g3' (.tup [.int (i:Nat),.ref q2]);have hpc:vG K (aE H11 q3 (.tup [.int (i:Nat),.ref q2])) (.ref q3) (i,pr):=⟨q3,.ref q2,Z,bC.of ag,r11.mono (aK.same s12)⟩;generalize aE H11 q3 (.tup [.int (i:Nat),.ref q2])=H12 at s12 hpc ⊢;have s8c:=s8b.trans s12;refine⟨r,zs,_,Z,Z,s12 _ _ hz,bh (by omega),?_⟩;refine⟨pl'.set u (c++[(i,pr)]),_,_,Z,λb o nb q=>?_,(T8.same s8c).upl nrt1 (rnS r mr) _,(g11.same s12).app hr' hc (s12 _ _ hz) (az.mono λ_ _ z=>z.mono (aK.same s12)) hpc,?_,λu' c' hc'=>?_⟩
   ·rw[aJ (λz=>nb (by rw[z];exact mr))];exact s8c _ _ (kp' b o nb q)
   ·have st:=pj8.step hc u24 apr iwu;rw[vpr] at st;have tk:ns.take (j+1)=ns.take j++[a]:=by rw[Oi,ha];rfl
    rw[tk,List.sum_append,List.sum_singleton,Sr];rw[DS];exact st
   ·rw[usuc];by_cases e:u'=u
    ·subst e;rw[Pd (Ni.mp hc).1] at hc'
     cases hc'
     rw[if_pos (Nz _ Ng)];rw[NL];show c.length+1≤i+1;omega
    ·rw[OJ (Qs e)] at hc';have o':=ok8 u' c' hc';refine NH o' (U2 ?_ _);by_cases m:u'∈GK w.1 aa n j
     ·rw[if_pos m,if_pos (OX _ m)];exact Nb _
     ·rw[if_neg m];exact NB _
 ·rintro σ H2 ⟨pl,x3,x4,x5,x6,x7,x8,x9,xA,xB,xC,rfl,kp,T2,g2,okp⟩;refine⟨_,Z,D,Z,⟨_,aV.of g2.top⟩,λD2 hD2=>wR (K:=K) (a:=D) (xs:=rows.map V.ref) (ds:=pl) (P:=xq K) (f:=λc=>c) (λ_ _ _ _ t z=>z.mono t) hD2 (aV.of g2.top) (by rw[Na,g2.len,g2.pln]) (by rw[g2.pln];decide) (λi x d H' hx hd sm Rk E kR=>?_) λHA ms sA hmA amA=>?_⟩
  ·rw[Nh] at hx;obtain⟨r,hr',rfl⟩:∃r,rows[i]?=some r/\x=.ref r:=by
    cases hrr:rows[i]? with
    |none=>rw[hrr] at hx;cases hx
    |some r=>rw[hrr] at hx;cases hx;exact⟨r,Z,Z⟩
   obtain⟨zs,hz,az⟩:=g2.row i r d hr' hd;refine⟨fu.set Z,_,Z,r,zs,Z,.inl ⟨aV.of (sm _ _ hz),λl hl=>?_⟩⟩;have e:=ai hl (.tup zs);exact kR _ _ e ⟨l,zs,Z,bC.of ag,az.mono λ_ _ z=>z.mono (aK.same (sm.trans e))⟩
  rw[show pl.map (λc=>c)=pl from List.map_id' pl] at amA;refine⟨D2,ms,Z,.inl ⟨aV.of hmA,λl hl=>?_⟩⟩;have e:=ai hl (.tup ms);have sAe:=sA.trans e;have il:((xs.length:Int)).toNat=ws.length:=by omega
  rw[il] at okp;exact k _ pl _ ⟨λb o nb q=>sAe _ _ (kp b o nb q),tp.lst,(T2.same sAe).lst⟩ (T2.same sAe) (.tup (bC.of ag) ((amA.mono λ_ _ z=>z.mono (aK.same e)).deep λ_ _ z=>z.deep)) (okp.plw l8 g2.pln)
theorem FO(T:fc K mg t):bX P w K mg base ee 3 t.a_Q10 t.d_Q10 ["_law_sheet","_law_plan_here"] (kB K):=by
 refine T.F_Q10.ok gP (λvs H Q E h=>?_) (λcdv A outer s H vs Q E hr h=>?_)
 ·obtain⟨_,_,_,_,_,rfl,_⟩:=h;rfl
 obtain⟨v,u,ws,es,pl,rfl,sa,dp,pr,k⟩:=h;refine dS.ok (ae (gf (qv 0) (ik Z (bi (ao (i:=2) gP.nd Z (by first|exact NG Z|exact NC Z)) (bi (ao (i:=3) gP.nd Z (by first|exact NG Z|exact NC Z)) dE)))) (ae (cw 4 gP.nd (bD (N':=["_law_work"]) (src:=[none]) Z (by exact(dg (qv 2))) (λ_ _ _ _ _=>(by exact(by exact ao (i:=0) (by show NQ (["_law_work"]:List NV);decide +kernel) (by exact Z) (by first|exact NG Z|exact NC Z)))) (λ_ _ _ _ _=>bQ) (λ_ _ _ _ _=>(by exact(by exact(cL af)))) (by exact trivial) Z (by decide +kernel) Z (by decide +kernel) (by exact aS Z trivial))) (ae (dM (i:=5) (N':=["_law_work"]) (src:=[none]) gP.nd Z (by first|exact NG Z|exact NC Z) Z (by exact(dg (qv 2))) (λ_ _ _ _ _=>(by exact(by exact ao (i:=0) (by show NQ (["_law_work"]:List NV);decide +kernel) (by exact Z) (by first|exact NG Z|exact NC Z)))) (λ_ _ _ _ _=>bQ) (λ_ _ _ _ _=>(by exact(by exact(bz (ac ah (ac ah af aB) aB))))) (by exact trivial) Z (by decide +kernel) Z (by decide +kernel) (by exact aS Z trivial)) (ae (ca (fS (iQ (dQ (df (aG fL (by rfl) T.z_isinstance Q2 (ac (qv 1) (ac (iH (v:=V.ty "tuple") Z T.z_tuple Pf Z) af ad) ad)))) (gQ (aQ nI (aG aH (by rfl) T.z_len OD (ac (qv 1) af ad)) ah (aT _))))) (aj (aO eU)) be) (ae (cj NI Z (b8 Z T.z_range (ac ah af aB)) (ao (i:=6) gP.nd Z (by first|exact NG Z|exact NC Z)) (aj (cj NI Z (b8 Z T.z_range (ac (aG aH (by rfl) T.z_len OD (ac (bZ au (qv 1) (qv 6)) af aI)) af aF)) (ao (i:=7) gP.nd Z (by first|exact NG Z|exact NC Z)) (ae (gf (bZ au (bZ au (qv 1) (qv 6)) (qv 7)) (ik Z (bi (ao (i:=8) gP.nd Z (by first|exact NG Z|exact NC Z)) (bi (ao (i:=9) gP.nd Z (by first|exact NG Z|exact NC Z)) dE)))) (ae (ca (fS (iQ (dQ (lN gZ gZ (bZ au (bZ au (qv 2) (qv 8)) ah) (qv 6) (bZ au (bZ au (qv 2) (qv 8)) ah))) (gQ (dQ (df (cI (pC T) hr T.m_Q33 T.F_Q33.kp T.b_Q33 (ac (bz (ac ah (ac ah af aB) aB)) (ac (qv 9) af ad) bO))))))) (aj (aO eU)) be) (ae (jU (ca (fS (ii (aQ eV (aG aH (by rfl) T.z_len OD (ac (bZ bI (qv 4) (qv 8)) af aI)) ah (aT _)) (iF (aQ gA (bZ au (bZ bI (bZ bI (qv 4) (qv 8)) (jr gO ah)) ah) (qv 6) (aT _))))) (aj (aO eU)) be)) (ae (dD (gY Od Og Oh cE (bZ bI (qv 4) (qv 8)) (ac (bz (ac (qv 6) (ac (qv 7) af ad) ad)) af bO))) (aj (gf (cI (lT T) hr T.m_Q37 T.F_Q37.kp T.b_Q37 (ac (bZ bI (qv 5) (qv 8)) (ac (qv 9) af ad) aI)) (jV (qv 5) (qv 8) gu)))))))))) (ae (ca (aQ (o9 hr) (qv 5) (bD (N':=["_law_work"]) (src:=[none]) Z (by exact(dg (qv 2))) (λ_ _ _ _ _=>(by exact(by exact ao (i:=0) (by show NQ (["_law_work"]:List NV);decide +kernel) (by exact Z) (by first|exact NG Z|exact NC Z)))) (λ_ _ _ _ _=>bQ) (λ_ _ _ _ _=>(by exact(by exact(bB (bj (K:=K) (by exact Z)) (by exact(qv 0)) ah (by exact λ_ _=>Z))))) (by exact trivial) Z (by decide +kernel) Z (by decide +kernel) (by exact aS Z trivial)) (aT _)) (aj (aO eU)) be) (aj (aO (aG (ka Z) (by rfl) T.z_all boot_all (ac (bD (N':=["_law_one","_law_other","_law_spots"]) (src:=[none,none,some 4]) Z (by exact(dg (qv 3))) (λ_ _ _ _ _=>(by exact(by exact jq (K:=K) (n:=2) (by exact Z) (by exact Z) (by exact bi (by exact ao (i:=0) (by show NQ (["_law_one","_law_other","_law_spots"]:List NV);decide +kernel) (by exact Z) (by first|exact NG Z|exact NC Z)) (by exact bi (by exact ao (i:=1) (by show NQ (["_law_one","_law_other","_law_spots"]:List NV);decide +kernel) (by exact Z) (by first|exact NG Z|exact NC Z)) dE))))) (λ_ _ _ _ _=>bQ) (λ_ _ _ _ _=>(by exact(by exact(f6 (Cw (K:=K) (by exact Z) (by exact hr)) (by exact(bB (cR (K:=K) (by exact Z)) (by exact(bB (cR (K:=K) (by exact Z)) (by exact(qv 2)) (by exact(qv 0)) (by exact λ_ _=>Z))) (by exact(jr gO ah)) (by exact λ_ _=>Z))) (by exact(bB (cR (K:=K) (by exact Z)) (by exact(bB (cR (K:=K) (by exact Z)) (by exact(qv 2)) (by exact(qv 1)) (by exact λ_ _=>Z))) ah (by exact λ_ _=>Z))) (aT _))))) (by exact⟨Z,Z,Z,Z,trivial⟩) Z (by decide +kernel) Z (by decide +kernel) (by exact aS Z ⟨Z,trivial⟩)) af cW)))))))))) ?_
 nofun
 obtain⟨ps,wa,lb,rfl,hS,wv,lv⟩:=id sa.sv;obtain⟨p,xs,rfl,hp,al⟩:=id wv;obtain⟨pb,xb,rfl,hb,alb⟩:=id lv;obtain⟨pp,ts,rfl,hpp,ats⟩:=pM dp;have lx:=al.len;have lb_:=alb.len;have w8:=sa.w8;have lts:ts.length=24:=by rw[ats.len,pr.len]
 have at_:∀{H':Hp},aK K H H'->∀i,i<ws.length->∃pw x,xs[i]?=some (.ref pw)/\bC K H' pw [.int ((ws.getD i bV).1:Nat),.int ((ws.getD i bV).2.1:Nat),x]/\RV K H' x (ws.getD i bV).2.2:=λ{H'} s i hi=>by
  have e:xs[i]?=some (xs[i]'(by omega)):=M8 _;obtain⟨w,hw,pw,x,ex,hSw,rx⟩:=al.at e;refine⟨pw,x,by rw[e,ex],?_⟩;rw[show ws.getD i bV=w from ap bV hw];exact⟨s _ _ hSw,rx.mono s⟩
 refine⟨_,Z,ps,_,Z,hS,Z,_,_,Z,_,_,Z,Z,?_⟩;refine⟨_,Z,p,Z,⟨_,hp⟩,λD hD=>iy (J:=Bh K p) (n:=ws.length) (λi ys H'=>∃rows:List Addr,ys=rows.map V.ref/\rows.length=i/\rows.Nodup/\D∉rows/\(∀r∈rows,H r=none)/\aD H H'/\H' D=some (.lst ys)/\∀r∈rows,H' r=some (.lst [])) ⟨[],Z,Z,PV,(λz=>by cases z),(λr hr=>by cases hr),ai hD _,ag,λr hr=>by cases hr⟩ (λi ys H' hi ⟨_,_,_,_,_,_,sm,_⟩=>⟨_,_,aK.same sm _ _ hp,M8 (by omega)⟩) (λys HC ⟨rows,e1,e2,e3,e4,e5,e6,e7,e8⟩=>⟨⟨_,aK.same e6 _ _ hp,by omega⟩,?_⟩) ?_⟩
 ·subst e1;have t1:=aK.same (K:=K) e6;have sp0:sf K HC D rows ws.length (λi=>kT pl 0 i):=⟨e7,e2,e3,e4,λi r er=>⟨[],e8 r (Nd er),.nil⟩⟩;refine⟨_,Z,p,Z,⟨_,t1 _ _ hp⟩,λdn hdn=>dX (K:=K) (P:=RV K) (ds:=ws) (f:=λ_=>(0,1)) (λ_ _ _ _ t z=>z.mono t) hdn (t1 _ _ hp) lx (by omega) (λi x d H' hx hd sm Rk E kR=>?_) λH2 ds s2 hd2 ad2=>?_⟩
  ·exact⟨fu.set Z,g9,λq hq=>kR _ _ (ai hq _) (RV.of ag)⟩
  have s02:=e6.trans s2;have sp2:=sp0.same s2;have ndD:dn≠D:=λz=>by subst z;rw[e7] at hdn;cases hdn
  have ndr:dn∉rows:=λz=>by rw[e8 dn z] at hdn;cases hdn
  have dnN:H dn=none:=by
   cases e:H dn with
   |none=>rfl
   |some o=>rw[e6 _ _ e] at hdn;cases hdn
  have hls:∀r∈dn::rows,∃xs,H2 r=some (.lst xs):=λr m=>by
   rcases Nq.mp m with z|z
   ·exact⟨_,by rw[z];exact hd2⟩
   ·exact⟨_,s2 _ _ (e8 r z)⟩
  have sk:∀H',Kp (dn::rows) H2 H'->aD H H':=λH' kp b o e=>kp.keep b o (λm=>by
   rcases Nq.mp m with z|z
   ·rw[z,dnN] at e;cases e
   ·rw[e5 b z] at e;cases e) (s02 _ _ e)
  have t02:=aK.same (K:=K) s02;refine⟨_,Z,.ref pp,_,"tuple",true,Z,dp.same s02,Z,_,Z,g7 (b:=!true) Z ?_⟩;refine⟨_,Z,pp,_,Z,.inr (t02 _ _ hpp),Z,_,Z,io (by rw[lts];rfl) ?_⟩;have ad0:cV (RV K H2) ds ((M7 ws.length).map λi=>iN pl i 0):=by
   have e:ws.map (λ_=>((0,1):R))=(M7 ws.length).map λi=>iN pl i 0:=by
    refine PB λi=>?_
    rw[Nh,Nh];by_cases c:i<ws.length
    ·rw[M8 c,O5 c];rfl
    ·rw[NX (by omega),NX (by rw[NP];omega)];rfl
   rw[←e];exact ad2
  let Iv1:Nat->L2.St->Hp->Prop:=λt σ H'=>∃(ds:List V) (x7 x8 x9 xA:Option V),σ=[some (.ref ps),some (.ref pp),some (.ref p),some (.ref pb),some (.ref D),some (.ref dn),x7,x8,x9,xA]/\Kp (dn::rows) H2 H'/\sf K H' D rows ws.length (λi=>kT pl t i)/\H' dn=some (.lst ds)/\cV (RV K H') ds ((M7 ws.length).map λi=>iN pl i t)
  refine⟨24,Z,by decide,by decide,cZ (lo:=0) (n:=24) Iv1 ⟨ds,none,none,none,none,Z,Kp.same (aD.refl _) hls,sp2,hd2,ad0⟩ ?_ ?_⟩
  ·rintro t σ H3 ht ⟨ds3,x7,x8,x9,xA,rfl,kp3,sp3,hd3,ad3⟩;rw[PP];have t03:=t02.trans (aK.kp kp3);obtain⟨tv,htv⟩:∃tv,ts[t]?=some tv:=⟨_,M8 (by omega)⟩;obtain⟨q,hq,pq,qs,rfl,hpq,aq⟩:=ats.at htv;have eq_:pl.getD t []=q:=ap [] hq;have lq:=aq.len;have fq:=pr.few t;rw[eq_] at fq;let Iv2:Nat->L2.St->Hp->Prop:=λj σ H'=>∃(ds:List V) (x8 x9 xA:Option V),σ=[some (.ref ps),some (.ref pp),some (.ref p),some (.ref pb),some (.ref D),some (.ref dn),some (.int (t:Nat)),x8,x9,xA]/\Kp (dn::rows) H2 H'/\sf K H' D rows ws.length (λi=>kT pl t i++kH pl t j i)/\H' dn=some (.lst ds)/\cV (RV K H') ds ((M7 ws.length).map λi=>iO pl t i (iN pl i t) j)
   refine⟨_,Z,_,Z,pp,_,_,_,Z,Z,t03 _ _ hpp,aY htv,pq,_,Z,.inr (t03 _ _ hpq),_,Z,by omega,by omega,cZ (lo:=0) (n:=(qs.length:Int).toNat) Iv2 ⟨ds3,x8,x9,xA,Z,kp3,sp3.congr (λi=>by show kT pl t i++[]=kT pl t i;rw[O1]),hd3,ad3⟩ ?_ ?_⟩
   ·rintro j σ H4 hj ⟨ds4,x8,x9,xA,rfl,kp4,sp4,hd4,ad4⟩;rw[PP];have jl:j<(pl.getD t []).length:=by rw[eq_];omega
    have t04:=t02.trans (aK.kp kp4);obtain⟨cv,hcv⟩:∃cv,qs[j]?=some cv:=⟨_,M8 (by omega)⟩;obtain⟨c,hc,pc_,pv,rfl,hpc,rpv⟩:=aq.at hcv;have ec:cf pl t j=c:=by unfold cf;rw[eq_];exact ap _ hc
    obtain⟨c1,c2,c3,c4⟩:=pr.pc t j ht jl;rw[ec] at c1 c2 c3 c4;have rpv4:=rpv.mono t04;have tests:∀Hh,aD H4 Hh->True:=λ_ _=>trivial
    refine⟨_,Z,_,Z,pp,_,_,_,Z,Z,t04 _ _ hpp,aY htv,_,Z,pq,_,_,_,Z,Z,t04 _ _ hpq,aY hcv,pc_,_,Z,t04 _ _ hpc,Z,_,_,Z,_,_,Z,Z,?_⟩;obtain⟨pw,am,ex,hSw,ram⟩:=at_ t04 c.1 c1;have iw:=c4;unfold fw at iw;rw[NM,decide_eq_true_iff,decide_eq_true_iff] at iw;refine⟨_,Z,_,Z,p,_,_,_,Z,Z,t04 _ _ hp,aY ex,pw,_,_,_,Z,Z,hSw,Z,_,Z,_,_,Z,Z,_,Z,?_⟩;refine cC (by omega) ?_;refine⟨_,Z,_,Z,p,_,_,_,Z,Z,t04 _ _ hp,aY ex,pw,_,_,_,Z,Z,hSw,Z,_,_,Z,Z,_,Z,io (by omega) ?_⟩;refine⟨g9,λpz hz=>?_⟩;have sz:=ai hz (.tup [.int 0,.int 1]);have rz:RV K (aE H4 pz (.tup [.int 0,.int 1])) (.ref pz) (0,1):=RV.of ag;have kp5:=kp4.trans (Kp.same sz kp4.ls');have sp5:=sp4.same sz;have hd5:=sz _ _ hd4;have ad5:=ad4.mono λ_ _ z=>z.mono (aK.same sz)
    have rpv5:=rpv4.mono (aK.same sz);generalize aE H4 pz (.tup [.int 0,.int 1])=H5 at rz kp5 sp5 hd5 ad5 rpv5 ⊢;refine⟨_,Z,.ref pz,pv,(0,1),c.2,1,50,Z,rz,rpv5,gL,c2.wf,by decide,_,Z,?_⟩;have ls:bK (0,1) c.2=true:=(fO (by decide) c2.bq.pos).mpr (by rw[km];exact c3);refine g7 (b:=!bK (0,1) c.2) (by rw[ls];rfl) ?_;obtain⟨rr,hrr⟩:∃rr,rows[c.1]?=some rr:=⟨_,M8 (by rw[sp5.len];exact c1)⟩;obtain⟨ys,hys,ay⟩:=sp5.row c.1 rr hrr;have erow:(rows.map V.ref)[c.1]?=some (V.ref rr):=by rw[Nh,hrr];rfl
    have none_:kH pl t j c.1=[]:=yr λm hm=>by
     have:=pr.nd t m j ht hm jl;rw[ec] at this;exact this
    have ay':cV (DL K H5) ys (kT pl t c.1):=by
     have e:kT pl t c.1++kH pl t j c.1=kT pl t c.1:=by rw[none_,O1]
     rw[←e];exact ay
    refine⟨λσ' H'=>H5=H'/\σ'=[some (.ref ps),some (.ref pp),some (.ref p),some (.ref pb),some (.ref D),some (.ref dn),some (.int (t:Nat)),some (.int (j:Nat)),some (.int (c.1:Nat)),some pv],?_,?_⟩
    ·refine⟨_,Z,_,Z,D,_,_,_,Z,Z,aV.of sp5.top,aY erow,rr,_,Z,.inl (aV.of hys),_,_,Z,Z,_,Z,?_⟩;by_cases cl:0<ys.length
     ·refine cC (by omega) ?_;have l1:=ay'.len;obtain⟨yv,yd,e1,e2,⟨py,rfl,hpy⟩,_⟩:=ay'.last (n:=ys.length-1) (by omega);have lt:=(kQ (Nd e2)).1;refine⟨_,Z,_,Z,D,_,_,_,Z,Z,aV.of sp5.top,aY erow,_,Z,rr,_,_,_,Z,Z,aV.of hys,e1,py,_,_,_,Z,Z,hpy,Z,_,Z,Z,_,Z,cr (λz=>by injection z with z;omega) ⟨rfl,rfl⟩⟩
     ·refine cr (by omega) (d0 ⟨Z,Z⟩)
    rintro σ' H' ⟨rfl,rfl⟩;refine⟨_,Z,_,Z,D,_,_,_,Z,Z,aV.of sp5.top,aY erow,.inl ⟨Z,_,aV.of hys⟩,_,Z,_,Z,g9,λpn hpn=>?_⟩;have s6:=ai hpn (.tup [.int (t:Nat),.int (j:Nat)]);have q6:DL K (aE H5 pn (.tup [.int (t:Nat),.int (j:Nat)])) (.ref pn) (t,j):=⟨pn,Z,bC.of ag⟩;have kp6:=kp5.trans (Kp.same s6 kp5.ls');have sp6:=sp5.same s6;have hys6:=s6 _ _ hys;have ay6:=ay.mono λ_ _ z=>z.mono' (aK.same (K:=K) s6)
    have hd6:=s6 _ _ hd5;have ad6:=ad5.mono λ_ _ z=>z.mono (aK.same s6)
    have rpv6:=rpv5.mono (aK.same s6);generalize aE H5 pn (.tup [.int (t:Nat),.int (j:Nat)])=H6 at q6 kp6 sp6 hys6 ay6 hd6 ad6 rpv6 ⊢;have ly:ys.length≤200:=by
     rw[ay'.len];exact BK pr c.1 t (by omega)
    refine⟨rr,ys,_,Z,Z,hys6,bh (by omega),?_⟩;have mr:rr∈dn::rows:=No _ (Nd hrr);have kp7:=Kp.up mr kp6.ls' (ys++[.ref pn]);have sp7:sf K (aE H6 rr (.lst (ys++[.ref pn]))) D rows ws.length (λi=>kT pl t i++kH pl t (j+1) i):=sp6.push hrr hys6 ay6 q6 (by show kT pl t c.1++kH pl t (j+1) c.1=kT pl t c.1++kH pl t j c.1++[(t,j)];rw[Ea (by rw[ec]),Q9]) (λi hi=>by show kT pl t i++kH pl t (j+1) i=kT pl t i++kH pl t j i;rw[BL (by rw[ec];exact λz=>hi z.symm)]);have nrd:rr≠dn:=λz=>ndr (by rw[←z];exact Nd hrr)
    have hd7:aE H6 rr (.lst (ys++[.ref pn])) dn=some (.lst ds4):=by rw[aJ nrd.symm];exact hd6
    have t67:=aK.kp (K:=K) kp7;have ad7:=ad6.mono λ_ _ z=>z.mono t67
    have rpv7:=rpv6.mono t67;have kq7:=kp6.trans kp7;generalize aE H6 rr (.lst (ys++[.ref pn]))=H7 at sp7 hd7 ad7 rpv7 kq7 ⊢;obtain⟨dv,hdv⟩:∃dv,ds4[c.1]?=some dv:=⟨_,M8 (by rw[ad7.len,Na,NP];exact c1)⟩;obtain⟨dr,hdr,rdv⟩:=ad7.at hdv;have edr:dr=iO pl t c.1 (iN pl c.1 t) j:=by
     rw[Nh,O5 c1] at hdr;exact(OB hdr).symm
    subst edr;have bq:Bq 449755225920 (1024*t+128*j) (iO pl t c.1 (iN pl c.1 t) j):=tY (tX (ws:=ws) pr.few (λt k ht hk=>(pr.pc t k ht hk).2.1) c.1 t (by omega)) j (by omega) λm hm=>(pr.pc t m ht hm).2.1
    have wf:Wf 60 (iO pl t c.1 (iN pl c.1 t) j):=(bq.mono (O7 _) (show 1024*t+128*j≤30000 by omega)).wf (by decide) (by decide) (by decide);refine⟨_,Z,_,Z,dn,_,_,_,Z,Z,aV.of hd7,aY hdv,_,Z,dv,pv,iO pl t c.1 (iN pl c.1 t) j,c.2,60,50,Z,rdv,rpv7,wf,c2.wf,by decide,λpm hpm=>?_⟩;have s8:=ai hpm (.tup [.int (bF (iO pl t c.1 (iN pl c.1 t) j) c.2).1,.int (bF (iO pl t c.1 (iN pl c.1 t) j) c.2).2]);have r8:RV K (aE H7 pm (.tup [.int (bF (iO pl t c.1 (iN pl c.1 t) j) c.2).1,.int (bF (iO pl t c.1 (iN pl c.1 t) j) c.2).2])) (.ref pm) (bF (iO pl t c.1 (iN pl c.1 t) j) c.2):=RV.of ag;have kp8:=kq7.trans (Kp.same s8 kq7.ls');have sp8:=sp7.same s8;have hd8:=s8 _ _ hd7;have ad8:=ad7.mono λ_ _ z=>z.mono (aK.same s8)
    generalize aE H7 pm (.tup [.int (bF (iO pl t c.1 (iN pl c.1 t) j) c.2).1,.int (bF (iO pl t c.1 (iN pl c.1 t) j) c.2).2])=H8 at r8 kp8 sp8 hd8 ad8 ⊢;refine⟨_,Z,_,Z,dn,ds4,_,c.1,Z,Z,hd8,pH (by rw[ad8.len,Na,NP];exact c1),?_⟩;have kp9:=Kp.up (r:=dn) Ng kp8.ls' (ds4.set c.1 (.ref pm));have t89:=aK.kp (K:=K) kp9;refine⟨_,_,_,_,Z,kp8.trans kp9,sp8.beside hd8 ndD ndr,ag,?_⟩;have e9:=CH (n:=ws.length) (j:=c.1) (F:=λi=>iO pl t i (iN pl i t) j) (F':=λi=>iO pl t i (iN pl i t) (j+1)) (λi hi=>by
     show(if(cf pl t j).1=i then _ else iO pl t i (iN pl i t) j)=_;rw[if_neg (by rw[ec];exact λz=>hi z.symm)])
    have e10:iO pl t c.1 (iN pl c.1 t) (j+1)=bF (iO pl t c.1 (iN pl c.1 t) j) c.2:=by
     show(if(cf pl t j).1=c.1 then bF _ (cf pl t j).2 else _)=_;rw[ec,if_pos Z]
    rw[←e9];show cV _ _ (((M7 ws.length).map λi=>iO pl t i (iN pl i t) j).set c.1 (iO pl t c.1 (iN pl c.1 t) (j+1)));rw[e10];exact cV.setI (r8.mono t89) c.1 (ad8.mono λ_ _ z=>z.mono t89)
   ·rintro σ H4 ⟨ds4,x8,x9,xA,rfl,kp4,sp4,hd4,ad4⟩;have el:((qs.length:Int)).toNat=(pl.getD t []).length:=by rw[eq_];omega
    rw[el] at sp4 ad4;exact⟨ds4,_,_,_,_,Z,kp4,sp4,hd4,ad4⟩
  ·rintro σ H3 ⟨ds3,x7,x8,x9,xA,rfl,kp3,sp3,hd3,ad3⟩;have s03:=sk H3 kp3;have t03:=aK.same (K:=K) s03;have ef:((M7 ws.length).map λi=>iN pl i 24)=ws.map λw=>w.2.2:=by
    refine PB λi=>?_
    rw[Nh,Nh];by_cases c:i<ws.length
    ·rw[O5 c,M8 c];show some (iN pl i 24)=some ws[i].2.2;rw[pr.fin i c,ap bV (M8 c)]
    ·rw[NX (by rw[NP];omega),NX (by omega)];rfl
   rw[ef] at ad3;refine⟨_,Z,_,Z,p,Z,⟨_,t03 _ _ hp⟩,λD2 hD2=>dX (K:=K) (P:=RV K) (ds:=ws) (f:=λw=>w.2.2) (λ_ _ _ _ t z=>z.mono t) hD2 (t03 _ _ hp) lx (by omega) (λi x d H' hx hd sm Rk E kR=>?_) λH4 ms s4 hm4 am4=>?_⟩
   ·obtain⟨d',hd',pw,xa,rfl,hSw,rx⟩:=al.at hx;rw[hd] at hd'
    cases hd'
    have t':=t03.trans (aK.same (K:=K) sm);exact⟨fu.set Z,_,Z,pw,_,_,_,Z,Z,t' _ _ hSw,Z,kR _ _ (aD.refl _) (rx.mono t')⟩
   have hd4:=s4 _ _ hd3;have ad4:=ad3.mono λ_ _ z=>z.mono (aK.same s4)
   have sp4:=sp3.same s4;have s04:=s03.trans s4;have dA:bH K H4 (.ref dn) (.list ((ws.map λw=>w.2.2).map dR)):=.lst (aV.of hd4) (ad4.deep λ_ _ z=>z.deep);have dB:bH K H4 (.ref D2) (.list ((ws.map λw=>w.2.2).map dR)):=.lst (aV.of hm4) (am4.deep λ_ _ z=>z.deep);refine⟨_,_,dA,dB,Iw _,Iw _,Ka _,_,Z,g7 (by rw[show OW (.list ((ws.map λw=>w.2.2).map dR)) (.list ((ws.map λw=>w.2.2).map dR))=true from J8 _];rfl) ?_⟩;have hb4:=aK.same (K:=K) s04 _ _ hb;refine⟨_,Z,pb,Z,⟨_,hb4⟩,λD3 hD3=>bY (iA hb4) (λ_=>true) (λ_=>V.bl true) hD3 (by have:=sa.e8;omega) (λi x H' hi sm hx Rk E kR _=>?_) λH5 s5 h5=>?_⟩
   ·obtain⟨⟨a,b⟩,hd,pe,rfl,hpe⟩:=alb.at hx;rw[show es=[] from sa.eok] at hd
    cases hd
   refine⟨D3,ND xb.length true,Z,aV.of (by rw[h5,Gw]),?_⟩;rw[C9];exact k H5 (s04.trans s5)
 ·rintro i ys H' x H'' hi ⟨rows,e1,e2,e3,e4,e5,e6,e7,e8⟩ ⟨eH,_⟩ Rk E kR kE;subst eH;refine⟨fu.set Z,(by show 0≤sizeLine;exact NB _),λn gn=>?_⟩;have sn:=ai gn (.lst []);have nN:H n=none:=by
   cases e:H n with
   |none=>rfl
   |some o=>rw[e6 _ _ e] at gn;cases gn
  have nD:n≠D:=λz=>by subst z;rw[e7] at gn;cases gn
  have nr:n∉rows:=λz=>by rw[e8 n z] at gn;cases gn
  refine kR _ _ (sn _ _ e7) (bh (by rw[e1,Na];omega)) ⟨rows++[n],by rw[e1,N5];rfl,by rw[NL,e2];rfl,?_,λm=>?_,λr hr=>?_,λb o e=>?_,ag,λr hr=>?_⟩
  ·rw[OC];exact⟨e3,Ot.mpr ⟨by simp,PV⟩,λa ha b hb z=>nr (by rw[←Nm.mp hb,←z];exact ha)⟩
  ·rcases NF.mp m with z|z
   ·exact e4 z
   ·exact nD (Nm.mp z).symm
  ·rcases NF.mp hr with z|z
   ·exact e5 r z
   ·rw[Nm.mp z];exact nN
  ·rw[aJ (aU e hD)];exact sn _ _ (e6 _ _ e)
  ·have rD:r≠D:=λz=>by
    rcases NF.mp hr with q|q
    ·exact e4 (by rw[←z];exact q)
    ·exact nD (by rw[←z];exact(Nm.mp q).symm)
   rw[aJ rD];rcases NF.mp hr with q|q
   ·exact sn _ _ (e8 r q)
   ·rw[Nm.mp q,ag]
theorem FK(T:fc K mg t):bX P w K mg base ee 3 t.a_Q13 t.d_Q13 ["_law_works_here","_law_top","_law_turns"] (lG K):=by
 refine T.F_Q13.ok ic (λvs H Q E h=>?_) (λcdv A outer s H vs Q E hr h=>?_)
 ·obtain⟨_,_,_,_,_,_,rfl,_⟩:=h;rfl
 obtain⟨v,u,pc,ws,tp,ls,rfl,a,lq,k⟩:=h;refine dS.ok (ae (cw 3 ic.nd (bz (ac ah (ac ah af aB) aB))) (ae (cj NI Z (dg (qv 0)) (ik Z (bi (ao (i:=4) ic.nd Z (by first|exact NG Z|exact NC Z)) (bi (ao (i:=5) ic.nd Z (by first|exact NG Z|exact NC Z)) (bi (ao (i:=6) ic.nd Z (by first|exact NG Z|exact NC Z)) dE)))) (ae (cw 7 ic.nd (aG aH (by rfl) T.z_len OD (ac (bD (N':=["_law_turn","_law_turns"]) (src:=[none,some 2]) Z (by exact(iG Z T.z_range (ac (qv 4) (ac (aP cM (qv 5) ah) af bu) ad))) (λ_ _ _ _ _=>(by exact(by exact ao (i:=0) (by show NQ (["_law_turn","_law_turns"]:List NV);decide +kernel) (by exact Z) (by first|exact NG Z|exact NC Z)))) (λ_ _ _ _ _=>(dC (aQ (eP (K:=K) (by exact Z)) (by exact(qv 0)) (by exact(qv 1)) (by with_unfolding_all rfl)))) (λ_ _ _ _ _=>(by exact(by exact(qv 0)))) (by exact⟨Z,Z,Z,Z,trivial⟩) Z (by decide +kernel) Z (by decide +kernel) (by exact aS Z ⟨Z,trivial⟩)) af cW))) (ae (cw 8 ic.nd (cI (lT T) hr T.m_Q37 T.F_Q37.kp T.b_Q37 (ac (qv 6) (ac (cI (i5 T) hr T.m_Q38 T.F_Q38.kp T.b_Q38 (ac (bz (ac (jr gO (qv 7)) (ac ah af aB) oE)) (ac (qv 1) af ad) bO)) af aF) ad))) (aj (ca (aQ eV (bZ au (qv 8) ah) ah (aT _)) (aj (cw 3 ic.nd (cI (lT T) hr T.m_Q37 T.F_Q37.kp T.b_Q37 (ac (qv 3) (ac (qv 8) af ad) ad)))) be))))) (aj (aO (cI (pC T) hr T.m_Q33 T.F_Q33.kp T.b_Q33 (ac (cI (i5 T) hr T.m_Q38 T.F_Q38.kp T.b_Q38 (ac (bz (ac (aG aH (by rfl) T.z_len OD (ac (qv 2) af ad)) (ac ah af aB) aF)) (ac (qv 1) af ad) bO)) (ac (qv 3) af ad) aF)))))) ?_
 nofun
 have hC:=a.hC;have l24:=a.l24;have nl:(aL ls).length=ls.length:=Na _;refine⟨g9,λp5 h5=>?_⟩;have s5:=ai h5 (.tup [.int 0,.int 1]);have r5:RV K (aE H p5 (.tup [.int 0,.int 1])) (.ref p5) (eR (ws.take 0) tp ls):=RV.of ag;generalize aE H p5 (.tup [.int 0,.int 1])=H5 at s5 r5 ⊢;have a5:=a.same s5;have hC5:=aK.same (K:=K) s5 _ _ hC;obtain⟨pw,xw,rfl,hW,alW⟩:=a5.wv;have lxw:=alW.len;have w9:=a.w9;let Iv1:Nat->L2.St->Hp->Prop:=λi σ H'=>∃(dv:V) (x5 x6 x7 x8 x9:Option V),σ=[some (.ref pw),some u,some (.ref pc),some dv,x5,x6,x7,x8,x9]/\aD H5 H'/\RV K H' dv (eR (ws.take i) tp ls)
 refine⟨_,Z,pw,Z,⟨_,hW⟩,iI (K:=K) (a:=pw) (xs:=xw) Iv1 ⟨.ref p5,none,none,none,none,none,Z,aD.refl _,r5⟩ (λi σ H' _ ⟨_,_,_,_,_,_,_,s',_⟩=>aK.same (K:=K) s' _ _ hW) ?_ ?_⟩
 ·rintro i x σ H6 hx ⟨dv,x5,x6,x7,x8,x9,rfl,s6,rd⟩;obtain⟨w,hwd,pW,xa,rfl,hSw,rx⟩:=alW.at hx;have t6:=aK.same (K:=K) s6;have o:=a.ok w (Nd hwd);have ole:=o.le;have olt:=o.lt;refine⟨pW,_,Z,t6 _ _ hSw,Z,_,_,Z,_,_,Z,_,_,Z,Z,?_⟩;have e1:(((w.2.1:Nat):Int)+1-((w.1:Nat):Int)).toNat=w.2.1+1-w.1:=by omega
  refine⟨_,Z,_,Z,_,_,Z,Z,_,_,Z,?_,λD7 hD7=>?_⟩
  ·refine⟨by omega,by omega,by omega,by omega⟩
  rw[e1];refine bY (kM (lo:=((w.1:Nat):Int))) (λi=>!ls.contains (w.1+i)) (λi=>V.int ((w.1:Nat)+(i:Nat):Int)) hD7 (by omega) (λi x H' hi s' hx R E kR kE=>?_) λH7 s7 h7=>?_
  ·subst hx;refine⟨fu.set Z,_,Z,_,Z,pc,_,Z,.inr (aK.same (K:=K) s' _ _ (t6 _ _ hC5)),Z,?_,?_⟩
   ·unfold aL;rw[Rp];exact N4.mpr λ_ _=>Z
   ·refine⟨_,Z,?_⟩;rw[show vd (V.int ((w.1:Nat)+(i:Nat):Int)) (aL ls)=ls.contains (w.1+i) from k7 _ _]
    cases c:ls.contains (w.1+i) with
    |true=>exact d0 (kE (by show(!ls.contains (w.1+i))=false;rw[c];rfl) _ (aD.refl _))
    |false=>exact hJ ⟨_,Z,kR (by show(!ls.contains (w.1+i))=true;rw[c];rfl) _ (aD.refl _)⟩
  have ln:(((M7 (w.2.1+1-w.1)).filter λi=>!ls.contains (w.1+i)).map λi=>V.int ((w.1:Nat)+(i:Nat):Int)).length=cy ls w:=by rw[Na];rfl
  have t7:=aK.same (K:=K) s7;refine⟨D7,_,Z,.inl (aV.of h7),?_⟩;rw[ln];refine⟨_,Z,_,Z,_,Z,g9,λp8 h8=>?_⟩;have s8:=ai h8 (.tup [.int (-(cy ls w:Int)),.int 1]);have r8:RV K (aE H7 p8 (.tup [.int (-(cy ls w:Int)),.int 1])) (.ref p8) (-(cy ls w:Int),1):=RV.of ag;generalize aE H7 p8 (.tup [.int (-(cy ls w:Int)),.int 1])=H8 at s8 r8 ⊢;have o24:=tF (ls:=ls) olt;have wi:Wf 70 ((-(cy ls w:Int),1):R):=(gj (i:=-(cy ls w:Int)) (n:=24) (by omega)).wf (by decide) (by decide) (by decide);have wt:Wf 70 (aC (-(cy ls w:Int),1) tp):=eE ((Bq.times (gj (i:=-(cy ls w:Int)) (n:=24) (by omega)) a.tp).mono ⟨1,by decide⟩ (Nb _)) (by decide);have t68:=t7.trans (aK.same (K:=K) s8);have t58:=t6.trans t68;refine⟨_,Z,.ref p8,u,(-(cy ls w:Int),1),tp,70,70,Z,r8,a5.rv.mono t58,wi,eE a.tp (by decide),by decide,λp9 h9=>?_⟩;have s9:=ai h9 (.tup [.int (aC (-(cy ls w:Int),1) tp).1,.int (aC (-(cy ls w:Int),1) tp).2]);have r9:RV K (aE H8 p9 (.tup [.int (aC (-(cy ls w:Int),1) tp).1,.int (aC (-(cy ls w:Int),1) tp).2])) (.ref p9) (aC (-(cy ls w:Int),1) tp):=RV.of ag;generalize aE H8 p9 (.tup [.int (aC (-(cy ls w:Int),1) tp).1,.int (aC (-(cy ls w:Int),1) tp).2])=H9 at s9 r9 ⊢;refine⟨xa,.ref p9,w.2.2,_,4,70,Z,(rx.mono t58).mono (aK.same s9),r9,o.am.wf,wt,by decide,λpA hA=>?_⟩;rw[BW a.tp.pos o.am.wf.pos];have sA:=ai hA (.tup [.int (cH tp ls w).1,.int (cH tp ls w).2]);have rA:RV K (aE H9 pA (.tup [.int (cH tp ls w).1,.int (cH tp ls w).2])) (.ref pA) (cH tp ls w):=RV.of ag;have hpA:bC K (aE H9 pA (.tup [.int (cH tp ls w).1,.int (cH tp ls w).2])) pA [.int (cH tp ls w).1,.int (cH tp ls w).2]:=bC.of ag;generalize aE H9 pA (.tup [.int (cH tp ls w).1,.int (cH tp ls w).2])=HA at sA rA hpA ⊢;have s6A:=((s7.trans s8).trans s9).trans sA;refine⟨_,Z,pA,_,_,_,Z,Z,hpA,Z,_,_,Z,Z,_,Z,?_⟩;by_cases c:0<(cH tp ls w).1
  ·refine cC c ?_;have bw:Wf 70 (eR (ws.take i) tp ls):=eE (jc a.tp (λw h=>a.ok w (Qv h)) (by rw[OH];omega)) (by decide);refine⟨_,Z,_,Z,dv,.ref pA,eR (ws.take i) tp ls,cH tp ls w,70,70,Z,rd.mono (aK.same s6A),rA,bw,eE (kX a.tp o) (by decide),by decide,λpB hB=>?_⟩;refine⟨.ref pB,_,_,_,_,_,Z,(s6.trans s6A).trans (ai hB _),?_⟩;rw[nh hwd,show gX tp ls w=cH tp ls w from if_pos c];exact RV.of ag
  ·refine cr c ?_;refine⟨dv,_,_,_,_,_,Z,s6.trans s6A,?_⟩;rw[nh hwd,show gX tp ls w=(0,1) from if_neg c,v9 (jc a.tp (λw h=>a.ok w (Qv h)) (by rw[OH];omega)).red];exact rd.mono (aK.same s6A)
 ·rintro σ H6 ⟨dv,x5,x6,x7,x8,x9,rfl,s6,rd⟩;rw[lxw,Op] at rd;have t6:=aK.same (K:=K) s6;refine⟨_,Z,pc,_,Z,.inr (t6 _ _ hC5),g9,λp7 h7=>?_⟩;have en:((aL ls).length:Int)=((1*ls.length:Nat):Int):=by rw[nl,UK]
  dsimp only;rw[en];have s7:=ai h7 (.tup [.int ((1*ls.length:Nat):Int),.int 1]);have r7:RV K (aE H6 p7 (.tup [.int ((1*ls.length:Nat):Int),.int 1])) (.ref p7) (((1*ls.length:Nat):Int),1):=RV.of ag;generalize aE H6 p7 (.tup [.int ((1*ls.length:Nat):Int),.int 1])=H7 at s7 r7 ⊢;have wi:Wf 70 (((1*ls.length:Nat):Int),1):=(gj (i:=((1*ls.length:Nat):Int)) (n:=216) (by omega)).wf (by decide) (by decide) (by decide);refine⟨_,Z,.ref p7,u,(((1*ls.length:Nat):Int),1),tp,70,70,Z,r7,(a5.rv.mono t6).mono (aK.same s7),wi,eE a.tp (by decide),by decide,λp8 h8=>?_⟩;rw[sw];have s8:=ai h8 (.tup [.int (dU 1 tp ls).1,.int (dU 1 tp ls).2]);have r8:RV K (aE H7 p8 (.tup [.int (dU 1 tp ls).1,.int (dU 1 tp ls).2])) (.ref p8) (dU 1 tp ls):=RV.of ag;refine⟨_,Z,.ref p8,dv,dU 1 tp ls,eR ws tp ls,70,70,Z,r8,rd.mono (aK.same (s7.trans s8)),eE (oW a.tp (by decide) l24) (by decide),eE (jc a.tp a.ok w9) (by decide),by decide,?_⟩;have sE:=(s5.trans s6).trans (s7.trans s8);rw[lq];exact k _ sE
theorem qZ(T:fc K mg t):bX P w K mg base ee 3 t.a_Q39 t.d_Q39 ["_law_some"] (qD K):=by
 refine T.F_Q39.ok ib (λvs H Q E h=>?_) (λcdv A outer s H vs Q E hr h=>?_)
 ·obtain⟨_,_,_,rfl,_⟩:=h;rfl
 obtain⟨a,xs,rs,rfl,hS,al,wf,hl,k⟩:=h;refine dS.ok (ae (cw 1 ib.nd (bz (ac ah (ac ah af aB) aB))) (ae (cj NI Z (cX (qv 0)) (ao (i:=2) ib.nd Z (by first|exact NG Z|exact NC Z)) (aj (cw 1 ib.nd (cI (lT T) hr T.m_Q37 T.F_Q37.kp T.b_Q37 (ac (qv 1) (ac (qv 2) af ad) ad))))) (aj (aO (qv 1))))) ?_
 nofun
 have hlen:=al.len;refine⟨g9,λp0 hp0=>?_⟩;have s0:=ai hp0 (.tup [.int 0,.int 1]);let Iv1:Nat->L2.St->Hp->Prop:=λi σ H'=>∃(u:V) (x3:Option V),σ=[some (.ref a),some u,x3]/\aD H H'/\RV K H' u (cO (rs.take i))/\Wf (1+51*i) (cO (rs.take i))
 refine⟨_,Z,a,Z,⟨_,s0.seq hS⟩,gE (K:=K) (a:=a) (xs:=xs) Iv1 ⟨_,none,Z,s0,RV.of ag,gL⟩ (λi σ H1 _ ⟨_,_,_,s1,_⟩=>s1.seq hS) ?_ ?_⟩
 ·rintro i y σ H1 hi ⟨u,x3,rfl,s1,ru,wu⟩;obtain⟨r,hr,rv⟩:=al.at hi;have wr:=wf r (Nd hr);have hil:=(Ni.mp hr).1;have e:cO (rs.take (i+1))=bF (cO (rs.take i)) r:=by
   unfold cO;rw[Oi,hr,P1];rfl
  refine⟨_,Z,_,Z,u,y,cO (rs.take i),r,1+51*i,50,Z,ru,rv.mono (aK.same s1),wu,wr,by omega,λp hp=>?_⟩;have s2:=ai hp (.tup [.int (bF (cO (rs.take i)) r).1,.int (bF (cO (rs.take i)) r).2]);refine⟨_,_,Z,s1.trans s2,?_,?_⟩
  ·rw[e];exact RV.of ag
  ·rw[e];exact(js wu wr).mono (by omega)
 ·rintro σ H1 ⟨u,x3,rfl,s1,ru,wu⟩;rw[hlen,Op] at ru;exact⟨_,Z,k u H1 s1 ru⟩
theorem Ft(T:fc K mg t):bX P w K mg base ee 3 t.a_Q39 t.d_Q39 ["_law_some"] (sG K):=by
 refine T.F_Q39.ok ib (λvs H Q E h=>?_) (λcdv A outer s H vs Q E hr h=>?_)
 ·obtain⟨_,_,_,rfl,_⟩:=h;rfl
 obtain⟨a,xs,rs,rfl,hS,al,wf,hl,k⟩:=h;refine dS.ok (ae (cw 1 ib.nd (bz (ac ah (ac ah af aB) aB))) (ae (cj NI Z (cX (qv 0)) (ao (i:=2) ib.nd Z (by first|exact NG Z|exact NC Z)) (aj (cw 1 ib.nd (cI (lT T) hr T.m_Q37 T.F_Q37.kp T.b_Q37 (ac (qv 1) (ac (qv 2) af ad) ad))))) (aj (aO (qv 1))))) ?_
 nofun
 have hlen:=al.len;refine⟨g9,λp0 hp0=>?_⟩;have s0:=ai hp0 (.tup [.int 0,.int 1]);let Iv1:Nat->L2.St->Hp->Prop:=λi σ H'=>∃(u:V) (x3:Option V),σ=[some (.ref a),some u,x3]/\aD H H'/\RV K H' u (cO (rs.take i))/\Wf (1+5*i) (cO (rs.take i))
 refine⟨_,Z,a,Z,⟨_,s0.seq hS⟩,gE (K:=K) (a:=a) (xs:=xs) Iv1 ⟨_,none,Z,s0,RV.of ag,gL⟩ (λi σ H1 _ ⟨_,_,_,s1,_⟩=>s1.seq hS) ?_ ?_⟩
 ·rintro i y σ H1 hi ⟨u,x3,rfl,s1,ru,wu⟩;obtain⟨r,hr,rv⟩:=al.at hi;have wr:=wf r (Nd hr);have hil:=(Ni.mp hr).1;have e:cO (rs.take (i+1))=bF (cO (rs.take i)) r:=by
   unfold cO;rw[Oi,hr,P1];rfl
  refine⟨_,Z,_,Z,u,y,cO (rs.take i),r,1+5*i,4,Z,ru,rv.mono (aK.same s1),wu,wr,by omega,λp hp=>?_⟩;have s2:=ai hp (.tup [.int (bF (cO (rs.take i)) r).1,.int (bF (cO (rs.take i)) r).2]);refine⟨_,_,Z,s1.trans s2,?_,?_⟩
  ·rw[e];exact RV.of ag
  ·rw[e];exact(js wu wr).mono (by omega)
 ·rintro σ H1 ⟨u,x3,rfl,s1,ru,wu⟩;rw[hlen,Op] at ru;exact⟨_,Z,k u H1 s1 ru⟩
theorem Fv(T:fc K mg t):bX P w K mg base ee 4 t.a_Q34 t.d_Q34 ["_law_works_here","_law_layer"] (qF K):=by
 refine T.F_Q34.ok Ep (λvs H Q E h=>?_) (λcdv A outer s H vs Q E hr h=>?_)
 ·obtain⟨_,_,_,_,rfl,_⟩:=h;rfl
 obtain⟨v,x,ws,y,rfl,⟨p,xs,rfl,hS,al⟩,hw,ok,lv,lok,k⟩:=h;refine dS.ok (aj (aO (cI (i5 T) hr T.m_Q38 T.F_Q38.kp T.b_Q38 (ac (cI (Ft T) hr T.m_Q39 T.F_Q39.kp T.b_Q39 (ac (bD (N':=["_law_number","_law_works_here"]) (src:=[none,some 0]) Z (by exact(dg (bB au (qv 1) ah (λ_ _=>Z)))) (λ_ _ _ _ _=>(by exact(by exact ao (i:=0) (by show NQ (["_law_number","_law_works_here"]:List NV);decide +kernel) (by exact Z) (by first|exact NG Z|exact NC Z)))) (λ_ _ _ _ _=>bQ) (λ_ _ _ _ _=>(by exact(by exact(bB (bj (K:=K) (by exact Z)) (by exact(bB (bj (K:=K) (by exact Z)) (by exact(qv 1)) (by exact(qv 0)) (by exact λ_ _=>Z))) ah (by exact λ_ _=>Z))))) (by exact⟨Z,Z,Z,Z,trivial⟩) Z (by decide +kernel) Z (by decide +kernel) (by exact aS Z ⟨Z,trivial⟩)) af cW)) (ac (bz (ac ah (ac (aG aH (by rfl) T.z_len OD (ac (bB au (qv 1) ah (λ_ _=>Z)) af aI)) af aF) aB)) af bO) aF)))) ?_;nofun
 have hSl:=al.len;obtain⟨pL,a,b,rfl,hpL,ha,hb⟩:=lv;have nb:(aL y.2).length=y.2.length:=Na _;have na:(aL y.1).length=y.1.length:=Na _;have len:=lok.len;refine⟨_,Z,pL,_,_,_,Z,Z,hpL,Z,b,Z,⟨_,hb⟩,λD hD=>dX (K:=K) (P:=RV K) (ds:=y.2) (f:=λi=>(ws.getD i bV).2.2) (λ_ _ _ _ t p=>p.mono t) hD hb nb (by omega) (λi x d H' hx hd s' R E kR=>?_) λH2 ys2 s2 hD2 al2=>?_⟩
 ·have hx':(aL y.2)[i]?=some (V.int (d:Nat)):=by unfold aL;rw[Nh,hd];rfl
  rw[hx] at hx'
  cases hx'
  have hdl:=lok.num d (Nd hd);obtain⟨xw,hxw⟩:∃xw,xs[d]?=some xw:=⟨_,M8 (by omega)⟩;obtain⟨w,hwd,pw,xa,rfl,hSw,rx⟩:=al.at hxw;rw[ap bV hwd] at kR;have t':=aK.same (K:=K) s';exact⟨fu.set Z,_,Z,_,Z,p,_,_,_,Z,Z,t' _ _ hS,aY hxw,pw,_,_,_,Z,Z,t' _ _ hSw,Z,kR _ _ (aD.refl _) (rx.mono t')⟩
 have wf:=Bb (n:=ws.length) ok lok;have la:(gG ws y).length=y.2.length:=Na _;refine⟨D,ys2,gG ws y,Z,aV.of hD2,al2,wf,by omega,λv' H3 s3 rv3=>?_⟩;have t23:=aK.same (K:=K) (s2.trans s3);refine⟨_,Z,pL,_,_,_,Z,Z,t23 _ _ hpL,Z,a,_,Z,.inr (t23 _ _ ha),g9,λpt hpt=>?_⟩;rw[na];have s4:=ai hpt (.tup [.int 1,.int (y.1.length:Int)]);have pos:=lok.pos;have few:=lok.few;refine⟨v',.ref pt,cO (gG ws y),(1,(y.1.length:Int)),1+(4+1)*(gG ws y).length,5,Z,rv3.mono (aK.same s4),RV.of ag,uC wf,An pos few,by omega,λu h5=>?_⟩;exact k _ _ (((s2.trans s3).trans s4).trans (ai h5 _)) (RV.of ag)
theorem Au(T:fc K mg t):bX P w K mg base ee 4 t.a_Q22 t.d_Q22 ["_law_plan_here","_law_top"] (oJ K):=by
 refine T.F_Q22.ok Ev (λvs H Q E h=>?_) (λcdv A outer s H vs Q E hr h=>?_)
 ·obtain⟨_,_,_,_,rfl,_⟩:=h;rfl
 obtain⟨v,u,pl,r,rfl,dv,ps,ru,tp,k⟩:=h;refine dS.ok (aj (aO (f6 gT eU (bD (N':=["_law_turn","_law_top"]) (src:=[none,some 1]) Z (by exact(dg (qv 0))) (λ_ _ _ _ _=>(by exact(by exact ao (i:=0) (by show NQ (["_law_turn","_law_top"]:List NV);decide +kernel) (by exact Z) (by first|exact NG Z|exact NC Z)))) (λ_ _ _ _ _=>bQ) (λ_ _ _ _ _=>(by exact(by exact(fz (pC T) (by exact hr.mono (by decide)) (by exact Z) T.m_Q33 T.F_Q33.kp T.b_Q33 (by exact .nil) (by exact ju) (ac (by exact(qv 1)) (ac (by exact(fz (qZ T) (by exact hr.mono (by decide)) (by exact Z) T.m_Q39 T.F_Q39.kp T.b_Q39 (by exact .nil) (by exact ju) (ac (by exact(bD (N':=["_law_piece"]) (src:=[none]) (by exact Z) (by exact(B2 (K:=K) (by exact Z) (by exact(qv 0)))) (by exact λ_ _ _ _ _=>(by exact(by exact ao (i:=0) (by show NQ (["_law_piece"]:List NV);decide +kernel) (by exact Z) (by first|exact NG Z|exact NC Z)))) (by exact λ_ _ _ _ _=>bQ) (by exact λ_ _ _ _ _=>(by exact(by exact(bB (bj (K:=K) (by exact Z)) (by exact(qv 0)) ah (by exact λ_ _=>Z))))) (by exact trivial) (by exact Z) (by decide +kernel) (by exact Z) (by decide +kernel) (by exact aS Z trivial))) af cW))) af aF) ad))))) (by exact⟨Z,Z,Z,Z,trivial⟩) Z (by decide +kernel) Z (by decide +kernel) (by exact aS Z ⟨Z,trivial⟩)) (by with_unfolding_all rfl)))) ?_;nofun
 obtain⟨p,xs,rfl,hS,al⟩:=pM dv;have hx:=al.len;have l24:=ps.len;refine⟨_,Z,p,Z,⟨_,hS⟩,λD hD=>bY (iA hS) (λ_=>true) (λi=>V.bl (bK r (cO ((pl.getD i []).map λc:Pc=>c.2)))) hD (by omega) (λi x H' hi s' hx' R E kR kE=>?_) λH1 s1 h1=>?_⟩
 ·obtain⟨q,hq,pq,yq,rfl,hpq,aq⟩:=al.at hx';have gq:pl.getD i []=q:=ap [] hq;rw[gq] at kR;have t':=aK.same (K:=K) s';have mq:=Nd hq;have l8:=ps.few q mq;refine⟨fu.set Z,_,Z,_,Z,pq,Z,⟨_,t' _ _ hpq⟩,λD3 hD3=>dX (K:=K) (P:=RV K) (ds:=q) (f:=λc:Pc=>c.2) (λ_ _ _ _ t z=>z.mono t) hD3 (t' _ _ hpq) aq.len (by omega) (λj y c H3 hy hc sm2 Rk2 E2 kR2=>?_) λHB qs sB hqB aqB=>?_⟩
  ·obtain⟨c',hc',pc_,rv_,rfl,hpc,rrv⟩:=aq.at hy;rw[hc] at hc'
   cases hc'
   have t'':=t'.trans (aK.same (K:=K) sm2);exact⟨fu.set Z,_,Z,pc_,_,_,_,Z,Z,t'' _ _ hpc,Z,kR2 _ _ (aD.refl _) (rrv.mono t'')⟩
  have amq:∀z∈q.map (λc:Pc=>c.2),fe z:=λz hz=>by
   obtain⟨c,hc,rfl⟩:=Nu.mp hz;exact ps.am q mq c hc
  have sb:Bq 449755225920 1024 (cO (q.map λc:Pc=>c.2)):=(oD (by decide) λz hz=>(amq z hz).bq).mono (O7 _) (by rw[Na];omega);refine⟨D3,qs,q.map (λc:Pc=>c.2),Z,aV.of hqB,aqB,(λz hz=>(amq z hz).wf),(by rw[Na];exact l8),λw HE sE rE=>?_⟩;have sBE:=sB.trans sE;refine⟨u,w,r,cO (q.map λc:Pc=>c.2),70,70,Z,(ru.mono t').mono (aK.same sBE),rE,eE tp (by decide),sb.wf (by decide) (by decide) (by decide),by decide,?_⟩;exact kR Z _ sBE
 have e1:(((M7 xs.length).filter λ_=>true).map λi=>V.bl (bK r (cO ((pl.getD i []).map λc:Pc=>c.2))))=(pl.map λq=>bK r (cO (q.map λc:Pc=>c.2))).map V.bl:=by
  rw[Ov.mpr (λ_ _=>Z),hx];refine PB λi=>?_
  rw[Nh,Nh,Nh];by_cases c:i<pl.length
  ·rw[O5 c,M8 c];show some (V.bl (bK r (cO ((pl.getD i []).map λc:Pc=>c.2))))=_;rw[ap [] (M8 c)];rfl
  ·rw[NX (by rw[NP];omega),NX (by omega)];rfl
 rw[e1] at h1;refine⟨D,_,Z,.inl (aV.of h1),Z,?_,?_⟩
 ·rw[Rp];exact N4.mpr λ_ _=>Z
 ·have:=k _ s1;rw[DA,F3,Bool.not_not];exact this
theorem FC(T:fc K mg t):bX P w K mg base ee 8 t.a_Q23 t.d_Q23 ["_law_works_here","_law_top","_law_plans","_law_high"] (oI K):=by
 refine T.F_Q23.ok yC (λvs H Q E h=>?_) (λcdv A outer s H vs Q E hr h=>?_)
 ·obtain⟨_,_,_,_,_,_,_,_,rfl,_⟩:=h;rfl
 obtain⟨v,u,pp,hi,ws,r,xs,pls,rfl,wv,w8,ok,ru,tr,nn,hP,alp,l2,plw,hh,k⟩:=h;refine dS.ok (ae (cw 4 yC.nd (cI (Fp T) hr T.m_Q53 T.F_Q53.kp T.b_Q53 (ac (qv 0) (ac (qv 1) af ad) ad))) (ae (ca (fS (iQ (dQ (df (aG fL (by rfl) T.z_isinstance Q2 (ac (qv 4) (ac (iH (v:=V.ty "tuple") Z T.z_tuple Pf Z) af ad) ad)))) (gQ (aQ nI (aG aH (by rfl) T.z_len OD (ac (qv 4) af ad)) ah (aT _))))) (aj (aO eU)) be) (ae (ca (aQ gA (bZ au (qv 4) ah) zO (aT _)) (aj (aO (lP (zP (qv 3)) (lP (cI (FO T) hr T.m_Q10 T.F_Q10.kp T.b_Q10 (ac (bz (ac (qv 0) (ac (bz af) af bO) ad)) (ac (bZ au (qv 4) ah) af aI) bO)) (oZ (cI (Au T) hr T.m_Q22 T.F_Q22.kp T.b_Q22 (ac (bZ au (qv 4) ah) (ac (qv 1) af ad) aI))))))) be) (ae (ca (fS (iQ (aQ nI (bZ au (qv 4) ah) zO (aT _)) (iQ (dQ (df (qv 3))) (gQ (dQ (df (aG fL (by rfl) T.z_isinstance Q2 (ac (bZ au (qv 4) ah) (ac (iH (v:=V.ty "tuple") Z T.z_tuple Pf Z) af ad) aI)))))))) (aj (aO eU)) be) (ae (ca (fS (iQ (aQ (o9 hr) (bM pP (by rfl) T.z_list Xj (ac (bZ au (qv 4) ah) af aI)) (aG (m7 (w:=w) Z Z) (by rfl) T.z_sorted boot_sorted (ac (bM (wT Z) (by rfl) T.z_set w4 (ac (bZ au (qv 4) ah) af aI)) af aF)) (aT _)) (gQ (aQ eV (aG aH (by rfl) T.z_len OD (ac (bD (N':=["_law_turn"]) (src:=[none]) Z (by exact(dg (bZ au (qv 4) ah))) (λ_ _ _ _ _=>(by exact(by exact ao (i:=0) (by show NQ (["_law_turn"]:List NV);decide +kernel) (by exact Z) (by first|exact NG Z|exact NC Z)))) (λ_ _ _ _ _=>(dC (dQ (lN gZ lS ah (by exact(qv 0)) ah)))) (λ_ _ _ _ _=>(by exact(by exact(qv 0)))) (by exact trivial) Z (by decide +kernel) Z (by decide +kernel) (by exact aS Z trivial)) af cW)) ah (aT _))))) (aj (aO eU)) be) (ae (ca (fS (iQ (dQ (df (cI (FK T) hr T.m_Q13 T.F_Q13.kp T.b_Q13 (ac (qv 0) (ac (qv 1) (ac (bZ au (qv 4) ah) af aI) ad) ad)))) (gQ (aQ Cv (cI (FF T) hr T.m_Q19 T.F_Q19.kp T.b_Q19 (ac (qv 0) (ac ah (ac (qv 1) (ac (bZ au (qv 4) ah) af aI) ad) aB) ad)) eU (aT _))))) (aj (aO eU)) be) (aj (aO (f6 gT eU (bD (N':=["_law_plan_here","_law_top"]) (src:=[none,some 1]) Z (by exact(cX (qv 2))) (λ_ _ _ _ _=>(by exact(by exact ao (i:=0) (by show NQ (["_law_plan_here","_law_top"]:List NV);decide +kernel) (by exact Z) (by first|exact NG Z|exact NC Z)))) (λ_ _ _ _ _=>bQ) (λ_ _ _ _ _=>(by exact(by exact(fz (Au T) (by exact hr.mono (by decide)) (by exact Z) T.m_Q22 T.F_Q22.kp T.b_Q22 (by exact .nil) (by exact ju) (ac (by exact(qv 0)) (ac (by exact(qv 1)) af ad) ad))))) (by exact⟨Z,Z,Z,Z,trivial⟩) Z (by decide +kernel) Z (by decide +kernel) (by exact aS Z ⟨Z,trivial⟩)) (by with_unfolding_all rfl)))))))))) ?_
 nofun
 refine⟨_,Z,_,Z,v,u,ws,r,Z,wv,w8,ok,ru,eE tr (by decide),λlys ly=>⟨λy z f H1 e lo c s1 mu=>?_,λkf f H1 s1 fi=>?_⟩⟩
 ·have eh:hi=true:=by rw[hh lys ly,e];exact c
  subst eh;subst e;obtain⟨p,q,rfl,hp,hq⟩:=mu;have dF:bH K H1 (.ref p) (.tuple [.str (OL "much"),rg y.1]):=.tup hp (.cons (.str _) (.cons (mE hq) .nil));refine⟨_,Z,.ref p,_,"tuple",true,Z,dF,Z,_,Z,g7 (b:=!true) Z ?_⟩;refine⟨_,Z,p,_,Z,.inr hp,Z,_,Z,io Z ?_⟩;refine⟨_,Z,p,_,_,_,Z,Z,hp,Z,Z,_,Z,cr (by decide) ?_⟩;refine⟨_,Z,p,_,_,_,Z,Z,hp,Z,Z,_,Z,io Z ?_⟩;refine⟨_,Z,_,Z,d0 ?_⟩;refine⟨_,Z,p,_,_,_,Z,Z,hp,Z,.ref q,_,"tuple",true,Z,mE hq,Z,_,Z,g7 (b:=!true) Z ?_⟩;obtain⟨_,srt,lt,l24⟩:=mz ok ly;have mw:=ww ok tr ly (by omega) lo.pos ((fO tr.pos (jN ok (by omega) lo).bq.pos).mp c);have ov:∀pl∈pls,CI r pl=false:=λpl hpl=>wc ok tr ly lo w8 c (plw pl hpl)
  generalize y.1=ls at hq dF srt lt l24 mw;refine⟨_,Z,p,_,_,_,Z,Z,hp,Z,q,_,Z,.inr hq,λp2 h2=>?_⟩;have s2:=ai h2 (.lst (aL ls));have q2:aE H1 p2 (.lst (aL ls)) p2=some (.lst (aL ls)):=ag;generalize aE H1 p2 (.lst (aL ls))=H2 at s2 q2 ⊢;have en:aL ls=(ls.map λn:Nat=>(n:Int)).map V.int:=by unfold aL;rw[OE];rfl
  have le1:=tI (ls.map λn:Nat=>(n:Int));rw[Na] at le1;have t2:=aK.same (K:=K) s2;refine⟨_,Z,p,_,_,_,Z,Z,t2 _ _ hp,Z,q,_,Z,.inr (by rw[←en];exact t2 _ _ hq),by rw[Na];omega,λp3 h3=>?_⟩;refine⟨p3,_,Z,ag,by omega,λp4 ms hpm hpw h4=>?_⟩;obtain⟨zs,ez,zsrt,zmem⟩:=Cz lt hpm hpw;have s34:=(ai h3 _).trans (ai h4 (.lst (ms.map V.int)));have q4:aE (aE H2 p3 (sM w p3 (cQ (ls.map λn:Nat=>(n:Int))))) p4 (.lst (ms.map V.int)) p4=some (.lst (aL zs)):=by rw[←ez];exact ag
  have s14:=s2.trans s34;refine⟨re ls,re zs,nS (aV.of (s34 _ _ q2)),nS (aV.of q4),(lW _).1,(lW _).1,(lW _).2,_,Z,?_⟩;rw[rP,decide_eq_true (jT srt zsrt λn=>(zmem n).symm)];refine d0 ?_;generalize aE (aE H2 p3 (sM w p3 (cQ (ls.map λn:Nat=>(n:Int))))) p4 (.lst (ms.map V.int))=H4 at s14 ⊢;have s4:=s1.trans s14;have t4:=aK.same (K:=K) s14;have hq4:=t4 _ _ hq;have nl:(aL ls).length=ls.length:=Na _;refine⟨_,Z,p,_,_,_,Z,Z,t4 _ _ hp,Z,q,Z,⟨_,hq4⟩,λD hD=>bY (iA hq4) (λ_=>false) (λ_=>V.non) hD (by omega) (λi x H' hi' s' hx' R E kR kE=>?_) λH5 s5 h5=>?_⟩
  ·obtain⟨n,hn,rfl⟩:=uZ hx';have n24:=lt n (Nd hn);refine⟨fu.set Z,?_⟩;refine⟨_,Z,_,_,Z,Z,_,Z,cC (by omega) ?_⟩;refine⟨_,_,Z,Z,_,Z,io (by omega) (kE Z _ (aD.refl _))⟩
  rw[Up.mpr (λ_ _=>Ny)] at h5;refine⟨D,_,Z,.inl (aV.of h5),_,_,Z,Z,_,Z,cr (by decide) ?_⟩;have s05:=s4.trans s5;have mua:GY K H5 v u q ws 1 r ls:=⟨wv.mono (aK.same s05),ok,by omega,by decide,ru.mono (aK.same s05),tr,aK.same (K:=K) s5 _ _ hq4,srt,lt,l24⟩;have hp5:=aK.same (K:=K) s5 _ _ (t4 _ _ hp);refine⟨_,Z,_,Z,_,Z,p,_,_,_,Z,Z,hp5,Z,v,u,q,ws,r,ls,Z,mua,mw,λH6 s6=>⟨_,Z,d0 ?_⟩⟩;have hp6:=aK.same (K:=K) s6 _ _ hp5;refine⟨_,Z,_,Z,_,Z,p,_,_,_,Z,Z,hp6,Z,v,u,q,ws,1,r,ls,Z,mua.same s6,mw,λH7 s7=>⟨_,_,Z,Z,_,Z,io Z ?_⟩⟩;have s07:=(s05.trans s6).trans s7;have hP7:=s07.seq hP;have lxp:=alp.len;refine⟨_,Z,pp,Z,⟨_,hP7⟩,λD8 hD8=>bY (eO hP7) (λ_=>true) (λ_=>V.bl false) hD8 (by omega) (λi x H' hi' s' hx' R E kR kE=>?_) λH9 s9 h9=>?_⟩
  ·obtain⟨pl,hpl,dpl⟩:=alp.at hx';have mp:=Nd hpl;have s0':=s07.trans s';refine⟨fu.set Z,_,Z,_,Z,x,u,pl,r,Z,dpl.same s0',(plw pl mp).pls,ru.mono (aK.same s0'),tr,λH8 s8=>?_⟩;rw[ov pl mp];exact kR Z _ s8
  rw[Ov.mpr (λ_ _=>Z),show(M7 xs.length).map (λ_=>V.bl false)=(ND xs.length false).map V.bl by rw[Vv];exact PB λi=>by rw[Nh,Po];by_cases z:i<xs.length<;>simp[z]] at h9;refine⟨D8,_,Z,.inl (aV.of h9),Z,?_,?_⟩
  ·rw[Rp];exact N4.mpr λ_ _=>Z
  ·rw[DA,show(ND xs.length false).any id=false by simp];exact k _ (s07.trans s9)
 ·have eh:hi=false:=by
   rw[hh lys ly]
   cases lys with
   |nil=>rfl
   |cons y z=>exact kf y z Z
  subst eh;have hf:IB ws r lys=false:=(hh lys ly).symm;obtain⟨p,x,rfl,hp,dx⟩:=fi;have t1:=aK.same (K:=K) s1;have dF:bH K H1 (.ref p) (.tuple [.str (OL "fits"),A3 (dI ws [] (aX ws lys)).2]):=.tup hp (.cons (.str _) (.cons dx .nil));refine⟨_,Z,.ref p,_,"tuple",true,Z,dF,Z,_,Z,g7 (b:=!true) Z ?_⟩;refine⟨_,Z,p,_,Z,.inr hp,Z,_,Z,io Z ?_⟩;refine⟨_,Z,p,_,_,_,Z,Z,hp,Z,Z,_,Z,cC Z ?_⟩;refine⟨_,Z,_,Z,_,Z,hJ ?_⟩;refine⟨_,Z,(by show 0≤sizeLine;exact NB _),λpe he=>⟨g9,λps hs=>?_⟩⟩;have e6:=ai he (.tup []);have e7:=ai hs (.tup [v,.ref pe]);have h6:aE (aE H1 pe (.tup [])) ps (.tup [v,.ref pe]) pe=some (.tup []):=e7 _ _ ag;have h7:aE (aE H1 pe (.tup [])) ps (.tup [v,.ref pe]) ps=some (.tup [v,.ref pe]):=ag;have e67:=e6.trans e7;generalize aE (aE H1 pe (.tup [])) ps (.tup [v,.ref pe])=H7 at h6 h7 e67 ⊢;have sX7:=s1.trans e67;have sa:DM K H7 (.ref ps) ws []:=⟨⟨ps,v,.ref pe,Z,bC.of h7,wv.mono (aK.same sX7),⟨pe,[],Z,bC.of h6,.nil⟩⟩,w8,ok,Z,jo _,by decide⟩;have pr:=t0 ok w8 ly;have hp7:=aK.same (K:=K) e67 _ _ hp;refine⟨_,Z,p,_,_,_,Z,Z,hp7,Z,.ref ps,x,ws,[],_,Z,sa,dx.same e67,pr,λH8 s8=>⟨_,Z,hJ ?_⟩⟩;have hp8:=aK.same (K:=K) s8 _ _ hp7;have s78:=e67.trans s8;refine⟨_,Z,p,_,_,_,Z,Z,hp8,Z,_,Z,x,u,_,r,Z,dx.same s78,pr.pls,ru.mono (aK.same (s1.trans s78)),tr,λH9 s9=>?_⟩;rw[ua ok w8 tr nn ly hf];exact k _ ((s1.trans s78).trans s9)
theorem Fo(T:fc K mg t):bX P w K mg base ee 9 t.a_Q54 t.d_Q54 ["_law_script"] (oK K):=by
 refine T.F_Q54.ok fQ (λvs H Q E h=>?_) (λcdv A outer s H vs Q E hr h=>?_)
 ·obtain⟨_,_,rfl,_⟩:=h;rfl
 obtain⟨a,ns,rfl,hS,hl,k⟩:=h;refine dS.ok (ae (cw 1 fQ.nd (cI (Fw T) hr T.m_Q30 T.F_Q30.kp T.b_Q30 (ac (qv 0) af ad))) (ae (cj NI Z (b8 Z T.z_range (ac ah af aB)) (ao (i:=2) fQ.nd Z (by first|exact NG Z|exact NC Z)) (ae (cw 3 fQ.nd (cI (FE T) hr T.m_Q20 T.F_Q20.kp T.b_Q20 (ac (qv 1) (ac (cI (d9 T) hr T.m_Q31 T.F_Q31.kp T.b_Q31 (ac (qv 1) (ac ah af aB) ad)) af aF) ad))) (ae (cw 4 fQ.nd (cI (FI T) hr T.m_Q15 T.F_Q15.kp T.b_Q15 (ac (qv 3) af ad))) (ae (jU (cw 5 fQ.nd (qV (aQ eV (aG aH (by rfl) T.z_len OD (ac (qv 4) af ad)) ah (aT _)) (cI (Fv T) hr T.m_Q34 T.F_Q34.kp T.b_Q34 (ac (qv 3) (ac (bZ bI (qv 4) ah) af aI) ad)) (bz (ac ah (ac ah af aB) aB))))) (ae (dM (i:=6) (N':=["_law_j","_law_tape_here","_law_works_here"]) (src:=[none,some 1,some 3]) fQ.nd Z (by first|exact NG Z|exact NC Z) Z (by exact(b8 Z T.z_range (ac ah af aB))) (λ_ _ _ _ _=>(by exact(by exact ao (i:=0) (by show NQ (["_law_j","_law_tape_here","_law_works_here"]:List NV);decide +kernel) (by exact Z) (by first|exact NG Z|exact NC Z)))) (λ_ _ _ _ _=>bQ) (λ_ _ _ _ _=>(by exact(by exact(fz (Fu T) (by exact hr.mono (by decide)) (by exact Z) T.m_Q35 T.F_Q35.kp T.b_Q35 (by exact .nil) (by exact ju) (ac (by exact(qv 1)) (ac (by exact(qv 2)) af ad) ad))))) (by exact⟨Z,Z,Z,Z,⟨Z,Z,Z,Z,trivial⟩⟩) Z (by decide +kernel) Z (by decide +kernel) (by exact aS Z ⟨Z,⟨Z,trivial⟩⟩)) (ae (cw 7 fQ.nd (cL (ac (qv 5) (ac (cI (i5 T) hr T.m_Q38 T.F_Q38.kp T.b_Q38 (ac (qv 5) (ac (bz (ac ah (ac ah af aB) aB)) af bO) ad)) (ac (cI (i5 T) hr T.m_Q38 T.F_Q38.kp T.b_Q38 (ac (qv 5) (ac (bz (ac ah (ac ah af aB) aB)) af bO) ad)) (ac (cI (i5 T) hr T.m_Q38 T.F_Q38.kp T.b_Q38 (ac (qv 5) (ac (bz (ac ah (ac ah af aB) aB)) af bO) ad)) af aF) aF) aF) ad))) (ae (cw 8 fQ.nd (aG (nU hr) (by rfl) T.z_repr boot_repr (ac (qv 3) af ad))) (ae (cj NI Z (cX (aP tG (qv 7) (cL (ac (cI (lU T) hr T.m_Q32 T.F_Q32.kp T.b_Q32 (ac (aP cM ah (cI (d9 T) hr T.m_Q31 T.F_Q31.kp T.b_Q31 (ac (qv 1) (ac ah af aB) ad))) (ac (aP cM ah (cI (d9 T) hr T.m_Q31 T.F_Q31.kp T.b_Q31 (ac (qv 1) (ac ah af aB) ad))) af bu) bu)) af aF)))) (ao (i:=9) fQ.nd Z (by first|exact NG Z|exact NC Z)) (ae (cw 10 fQ.nd (lP (f6 eV (aG aH (by rfl) T.z_len OD (ac (qv 4) af ad)) ah (aT _)) (oZ (cI (pC T) hr T.m_Q33 T.F_Q33.kp T.b_Q33 (ac (qv 9) (ac (qv 5) af ad) ad))))) (aj (ca (dQ (df (cI (FC T) hr T.m_Q23 T.F_Q23.kp T.b_Q23 (ac (qv 3) (ac (qv 9) (ac (qv 6) (ac (qv 10) af ad) ad) ad) ad)))) (aj (aO eU)) be)))) (aj (ca (aQ nI (aG (nU hr) (by rfl) T.z_repr boot_repr (ac (qv 3) af ad)) (qv 8) (aT _)) (aj (aO eU)) be)))))))))) (aj (aO eU)))) ?_
 nofun
 refine⟨_,Z,a,ns,Z,hS,hl,λt₁ H1 s1 ht T1=>?_⟩;let Iv1:Nat->L2.St->Hp->Prop:=λi σ H'=>∃(x2 x3 x4 x5 x6 x7 x8 x9 xA:Option V),σ=[some (.ref a),some (.ref t₁),x2,x3,x4,x5,x6,x7,x8,x9,xA]/\cD K H' t₁ a
 refine⟨5,Z,by decide,by decide,cZ (lo:=0) (n:=5) Iv1 ⟨none,none,none,none,none,none,none,none,none,Z,T1⟩ ?_ ?_⟩
 rotate_left
 ·rintro σ H2 ⟨_,_,_,_,_,_,_,_,_,rfl,_⟩;exact k _
 rintro i₀ σ H2 _ ⟨x2,x3,x4,x5,x6,x7,x8,x9,xA,rfl,tp⟩;obtain⟨y2,e2⟩:=tp.lst;refine⟨_,Z,_,Z,t₁,a,9,Z,tp,by omega,by omega,λr3 x3_ a3 b3 T3=>?_⟩;generalize aE H2 t₁ (.lst x3_)=H3 at T3 ⊢;obtain⟨m,rfl⟩:=OF a3;refine⟨t₁,a,m,Z,T3,by omega,λvw ws H4 S4 T4 wv lw okw=>?_⟩;have w8:ws.length≤8:=by omega
 refine⟨_,Z,vw,ws,Z,wv,by omega,okw,λlf xf lys H5 s5 hnf hlf alf ly lok _=>?_⟩;have T5:=T4.same s5;have wv5:=wv.mono (aK.same s5);have nlf:lf≠t₁:=λz=>by
  subst z;obtain⟨_,e⟩:=T4.lst;rw[hnf] at e
  cases e
 have lxf:=alf.len;refine⟨λσ' H'=>∃(vr:V) (rr:R),σ'=[some (.ref a),some (.ref t₁),some (.int ((0:Int)+i₀)),some vw,some (.ref lf),some vr,x6,x7,x8,x9,xA]/\RV K H' vr rr/\Bs 108 rr/\((xf.length=0/\∀r,IB ws r lys=false)∨(0<xf.length/\∀r,IB ws r lys=bK r rr))/\aD H5 H',?_,?_⟩
 ·refine⟨_,Z,lf,_,Z,.inl (aV.of hlf),_,_,Z,Z,_,Z,?_⟩;rcases(show lys=[]∨∃y z,lys=y::z by cases lys with|nil=>exact .inl rfl|cons y z=>exact .inr ⟨y,z,rfl⟩) with el | ⟨y,z,el⟩
  ·have x0:xf.length=0:=by rw[lxf,el];rfl
   refine cr (by omega) ?_;refine⟨g9,λp6 h6=>?_⟩;exact⟨_,(1,1),Z,RV.of ag,⟨(gj (i:=1) (n:=1) (by decide)).mono (by decide) (by decide),by decide⟩,.inl ⟨x0,λr=>by rw[el];rfl⟩,ai h6 _⟩
  ·have x1:0<xf.length:=by rw[lxf,el];exact Nat.succ_pos _
   have yo:=lok y (by rw[el];exact Ng);refine cC (by omega) ?_;obtain⟨x₀,xz,ex⟩:∃x₀ xz,xf=x₀::xz:=by cases xf with|nil=>exact absurd x1 (by decide)|cons p q=>exact⟨p,q,rfl⟩
   have lv:pV K H5 x₀ y:=by
    subst ex;subst el
    cases alf with|cons h _=>exact h
   refine⟨_,Z,_,Z,lf,_,_,_,Z,Z,aV.of hlf,(by rw[ex];exact aY (j:=0) Z),vw,x₀,ws,y,Z,wv5,by omega,okw,lv,yo,λvr H6 s6 rv=>?_⟩;exact⟨vr,de ws y,Z,rv,jN okw (by omega) yo,.inr ⟨x1,λr=>by rw[el];rfl⟩,s6⟩
 rintro σ' H6 ⟨vr,rr,rfl,rv,ab,cs,s56⟩;have T6:=T5.same s56;have wv6:=wv5.mono (aK.same s56);have hlf6:=s56 _ _ hlf;refine⟨2,Z,by decide,by decide,λD hD=>?_⟩;have nDt:D≠t₁:=λz=>by
  subst z;obtain⟨_,e⟩:=T6.lst;rw[hD] at e
  cases e
 have nDs:=T6.off hD;refine iy (J:=xy 0 2) (n:=2) (λj ys H'=>∃pls:List (List (List Pc)),cV (GB K H') ys pls/\pls.length=j/\(∀pl∈pls,Bo ws pl)/\(∀b o,b≠t₁->b≠D->H6 b=some o->H' b=some o)/\cD K H' t₁ a/\H' D=some (.lst ys)) ⟨[],.nil,Z,(λz hz=>by cases hz),(λb o _ nb q=>by rw[aJ nb];exact q),T6.same (ai hD _),ag⟩ (λj ys H' hj _=>hj) (λys H7 ⟨pls,f1,f2,f3,f5,T7,f7⟩=>⟨Nb _,?_⟩) ?_
 rotate_left
 ·rintro j ys H' x H'' hj ⟨pls,al',ln,pw',kp',T',hD'⟩ ⟨rfl,rfl⟩ Rk E kR kE;have S':bP t₁ H6 H'':=⟨λb o nb q=>kp' b o nb (aU q hD) q,T6.lst,T'.lst⟩;refine⟨fu.set Z,_,Z,_,Z,t₁,a,vw,ws,Z,T',wv6.mono (aK.step S'),w8,okw,λvp pl H8 S8 T8 dp pw=>?_⟩;have hD8:=S8.keep _ _ nDt hD';have tu:=aK.up (K:=K) hD8 (ys++[vp]);have pt:GB K H8 vp pl:=pM dp;refine kR _ _ hD8 (bh (by rw[al'.len];omega)) ⟨pls++[pl],(al'.mono λ_ _ z=>(z.mono (aK.step S8)).mono tu).snoc (pt.mono tu),by rw[NL,ln];rfl,λz hz=>?_,λb o nb nb2 q=>by rw[aJ nb2];exact S8.keep _ _ nb (kp' b o nb nb2 q),T8.upl nDt nDs _,ag⟩;rcases NF.mp hz with h|h
  ·exact pw' z h
  ·rw[Nm.mp h];exact pw
 have S67:bP t₁ H6 H7:=⟨λb o nb q=>f5 b o nb (aU q hD) q,T6.lst,T7.lst⟩;have t67:=aK.step (K:=K) S67;have wv7:=wv6.mono t67;have rv7:=rv.mono t67;have hlf7:=S67.keep _ _ nlf hlf6;have s0:aD H7 H7:=aD.refl _;have tr:=xL ab;have wr:=eE tr.tp (by decide);refine⟨_,Z,?_⟩;refine⟨_,Z,g9,λp0 h0=>⟨vr,.ref p0,rr,(100,99),70,7,Z,rv7.mono (aK.same (s0.trans (ai h0 _))),RV.of ag,wr,⟨by decide,by decide,by decide,by decide⟩,by decide,λq0 g0=>?_⟩⟩;have s1:=s0.trans ((ai h0 (.tup [.int 100,.int 99])).trans (ai g0 (.tup [.int (aC rr (100,99)).1,.int (aC rr (100,99)).2])));have u0:RV K (aE (aE H7 p0 (.tup [.int 100,.int 99])) q0 (.tup [.int (aC rr (100,99)).1,.int (aC rr (100,99)).2])) (.ref q0) (aC rr (100,99)):=RV.of ag;generalize aE (aE H7 p0 (.tup [.int 100,.int 99])) q0 (.tup [.int (aC rr (100,99)).1,.int (aC rr (100,99)).2])=G1 at s1 u0 ⊢;refine⟨_,Z,g9,λp1 h1=>⟨vr,.ref p1,rr,(99,100),70,7,Z,rv7.mono (aK.same (s1.trans (ai h1 _))),RV.of ag,wr,⟨by decide,by decide,by decide,by decide⟩,by decide,λq1 g1=>?_⟩⟩;have s2:=s1.trans ((ai h1 (.tup [.int 99,.int 100])).trans (ai g1 (.tup [.int (aC rr (99,100)).1,.int (aC rr (99,100)).2])));have u1:RV K (aE (aE G1 p1 (.tup [.int 99,.int 100])) q1 (.tup [.int (aC rr (99,100)).1,.int (aC rr (99,100)).2])) (.ref q1) (aC rr (99,100)):=RV.of ag
 replace u0:=u0.mono (aK.same ((ai h1 (.tup [.int 99,.int 100])).trans (ai g1 (.tup [.int (aC rr (99,100)).1,.int (aC rr (99,100)).2]))))
 generalize aE (aE G1 p1 (.tup [.int 99,.int 100])) q1 (.tup [.int (aC rr (99,100)).1,.int (aC rr (99,100)).2])=G2 at s2 u1 u0 ⊢;refine⟨_,Z,g9,λp2 h2=>⟨vr,.ref p2,rr,(1,2),70,7,Z,rv7.mono (aK.same (s2.trans (ai h2 _))),RV.of ag,wr,⟨by decide,by decide,by decide,by decide⟩,by decide,λq2 g2=>?_⟩⟩;have s3:=s2.trans ((ai h2 (.tup [.int 1,.int 2])).trans (ai g2 (.tup [.int (aC rr (1,2)).1,.int (aC rr (1,2)).2])));have u2:RV K (aE (aE G2 p2 (.tup [.int 1,.int 2])) q2 (.tup [.int (aC rr (1,2)).1,.int (aC rr (1,2)).2])) (.ref q2) (aC rr (1,2)):=RV.of ag
 replace u0:=u0.mono (aK.same ((ai h2 (.tup [.int 1,.int 2])).trans (ai g2 (.tup [.int (aC rr (1,2)).1,.int (aC rr (1,2)).2]))))
 replace u1:=u1.mono (aK.same ((ai h2 (.tup [.int 1,.int 2])).trans (ai g2 (.tup [.int (aC rr (1,2)).1,.int (aC rr (1,2)).2]))))
 generalize aE (aE G2 p2 (.tup [.int 1,.int 2])) q2 (.tup [.int (aC rr (1,2)).1,.int (aC rr (1,2)).2])=G3 at s3 u2 u0 u1 ⊢;refine⟨GZ,λlt hlt=>?_⟩;have tk0:m8 (aC rr (100,99)):=oA ab (n:=99) (M:=2) ⟨by decide,by decide,by decide,by decide⟩ (by decide) (by decide) (by decide);have tk1:m8 (aC rr (99,100)):=oA ab (n:=100) (M:=1) ⟨by decide,by decide,by decide,by decide⟩ (by decide) (by decide) (by decide);have tk2:m8 (aC rr (1,2)):=oA ab (n:=2) (M:=1) ⟨by decide,by decide,by decide,by decide⟩ (by decide) (by decide) (by decide);have al4:cV (λv r=>RV K G3 v r/\m8 r) [vr,.ref q0,.ref q1,.ref q2] [rr,aC rr (100,99),aC rr (99,100),aC rr (1,2)]:=.cons ⟨rv7.mono (aK.same s3),tr⟩ (.cons ⟨u0,tk0⟩ (.cons ⟨u1,tk1⟩ (.cons ⟨u2,tk2⟩ .nil)));generalize [rr,aC rr (100,99),aC rr (99,100),aC rr (1,2)]=rs at al4;have T8:=(T7.same s3).new hlt (.lst [vr,.ref q0,.ref q1,.ref q2]);have nlt:lt≠t₁:=λz=>by
  subst z;obtain⟨_,e⟩:=(T7.same s3).lst;rw[hlt] at e
  cases e
 have s8:=s3.trans (ai hlt (.lst [vr,.ref q0,.ref q1,.ref q2]));have al8:=al4.mono λ_ _ q=>(⟨q.1.mono (aK.new hlt (.lst [vr,.ref q0,.ref q1,.ref q2])),q.2⟩:RV K (aE G3 lt (.lst [vr,.ref q0,.ref q1,.ref q2])) _ _/\m8 _)
 have hl8:aE G3 lt (.lst [vr,.ref q0,.ref q1,.ref q2]) lt=some (.lst [vr,.ref q0,.ref q1,.ref q2]):=ag;generalize aE G3 lt (.lst [vr,.ref q0,.ref q1,.ref q2])=H8 at T8 s8 al8 hl8 ⊢;have lz:[vr,.ref q0,.ref q1,.ref q2].length=4:=Z;generalize [vr,.ref q0,.ref q1,.ref q2]=zs at al8 hl8 lz ⊢;have shw:=yw okw (by omega);refine⟨_,Z,vw,_,Z,(wv7.mono (aK.same s8)).deep,shw,?_⟩;obtain⟨yA,eA⟩:=T8.lst;refine⟨_,Z,_,Z,t₁,a,30,Z,T8,by omega,by omega,λr9 x9_ a9 b9 T9=>?_⟩;have S9:bP t₁ H8 (aE H8 t₁ (.lst x9_)):=bP.up eA;generalize aE H8 t₁ (.lst x9_)=H9 at T9 S9 ⊢;obtain⟨yB,eB⟩:=T9.lst;refine⟨_,_,Z,Z,_,Z,t₁,a,4,Z,T9,by omega,by omega,λrA xA_ aA bA TA=>?_⟩;have SA:=S9.trans (bP.up (ys:=xA_) eB);generalize aE H9 t₁ (.lst xA_)=HA at TA SA ⊢;refine⟨_,_,Z,Z,_,_,Z,by omega,by exact OP (show(1+rA).natAbs≤4 by omega) (by decide),λpb hpb=>?_⟩;have tk:m8 (dZ (1+r9) (1+rA)):=⟨(vx (D:=12) (N:=30) (by omega) (by rcases(show rA=0∨rA=1∨rA=2∨rA=3 by omega) with rfl|rfl|rfl|rfl<;>decide) (by omega)).mono (by decide) (by decide),tM (by omega)⟩;generalize dZ (1+r9) (1+rA)=rq at tk ⊢;refine⟨G0,λlb hlb=>?_⟩;have sB:=(ai hpb (.tup [.int rq.1,.int rq.2])).trans (ai hlb (.lst [.ref pb]));have rB:RV K (aE (aE HA pb (.tup [.int rq.1,.int rq.2])) lb (.lst [.ref pb])) (.ref pb) rq:=(RV.of (K:=K) (H:=aE HA pb (.tup [.int rq.1,.int rq.2])) ag).mono (aK.new hlb _);have hB:aE (aE HA pb (.tup [.int rq.1,.int rq.2])) lb (.lst [.ref pb]) lb=some (.lst [.ref pb]):=ag;generalize aE (aE HA pb (.tup [.int rq.1,.int rq.2])) lb (.lst [.ref pb])=HB at sB rB hB ⊢;have hlB:=sB _ _ (SA.keep _ _ nlt hl8);refine⟨lt,lb,_,_,Z,Z,hlB,hB,(by rw[lz];show 5≤sizeLine;decide),λlc hlc=>?_⟩;have t8B:=(aK.step (K:=K) SA).trans (aK.same sB);have sC:=ai hlc (.lst (zs++[.ref pb]));have tBC:=aK.same (K:=K) sC;have alC:=((al8.mono λ_ _ q=>(⟨q.1.mono t8B,q.2⟩:RV K HB _ _/\m8 _)).snoc ⟨rB,tk⟩).mono λ_ _ q=>(⟨q.1.mono tBC,q.2⟩:RV K (aE HB lc (.lst (zs++[.ref pb]))) _ _/\m8 _)
 have hC:aV K (aE HB lc (.lst (zs++[.ref pb]))) lc (zs++[.ref pb]):=aV.of ag;have t7C:=((aK.same (K:=K) s8).trans t8B).trans tBC;have lfC:=sC _ _ (sB _ _ (SA.keep _ _ nlf (s8 _ _ hlf7)));have DC:=sC _ _ (sB _ _ (SA.keep _ _ nDt (s8 _ _ f7)));have TC:=(TA.same sB).same sC;have wvC:=wv7.mono t7C;have rvC:=rv7.mono t7C;have plC:=f1.mono λ_ _ q=>(q.mono t7C).deep
 generalize aE HB lc (.lst (zs++[.ref pb]))=HC at alC hC lfC DC TC wvC rvC plC ⊢;let Iv2:Nat->L2.St->Hp->Prop:=λi σ H'=>∃(y9 yA:Option V),σ=[some (.ref a),some (.ref t₁),some (.int ((0:Int)+i₀)),some vw,some (.ref lf),some vr,some (.ref D),some (.ref lt),some (.str (Gn ws).shown),y9,yA]/\aD HC H'
 refine⟨lc,Z,⟨_,hC⟩,gE (K:=K) (a:=lc) (xs:=zs++[.ref pb]) Iv2 ⟨_,_,Z,aD.refl _⟩ (λi σ H' _ ⟨_,_,_,s'⟩=>s'.seq hC) ?_ ?_⟩
 ·rintro i x σ HD hx ⟨y9,yA,rfl,sD⟩;obtain⟨r,hr',rx,tkr⟩:=alC.at hx;have tD:=aK.same (K:=K) sD;have hlfD:=sD _ _ lfC;rcases cs with⟨c0,c1⟩ | ⟨c0,c1⟩
  ·refine⟨_,Z,lf,_,Z,.inl (aV.of hlfD),_,_,Z,Z,_,Z,?_⟩;rw[decide_eq_false (show ¬(xf.length:Int)>0 by omega)];refine⟨_,Z,_,Z,_,Z,_,Z,vw,x,D,false,ws,r,ys,pls,Z,wvC.mono tD,w8,okw,rx.mono tD,tkr.tp,tkr.nn,aV.of (sD _ _ DC),plC.mono λ_ _ q=>q.same sD,by omega,f3,λlz' lyz=>by rw[ly.uniq lyz] at c1;exact(c1 r).symm,λHE sE=>⟨_,Z,d0 ⟨_,_,Z,sD.trans sE⟩⟩⟩
  ·refine⟨_,Z,lf,_,Z,.inl (aV.of hlfD),_,_,Z,Z,_,Z,?_⟩;rw[decide_eq_true (show(xf.length:Int)>0 by omega)];refine⟨_,Z,_,Z,x,vr,r,rr,70,70,Z,rx.mono tD,rvC.mono tD,eE tkr.tp (by decide),wr,by decide,?_⟩;refine⟨_,Z,_,Z,_,Z,_,Z,vw,x,D,bK r rr,ws,r,ys,pls,Z,wvC.mono tD,w8,okw,rx.mono tD,tkr.tp,tkr.nn,aV.of (sD _ _ DC),plC.mono λ_ _ q=>q.same sD,by omega,f3,λlz' lyz=>by rw[ly.uniq lyz] at c1;exact(c1 r).symm,λHE sE=>⟨_,Z,d0 ⟨_,_,Z,sD.trans sE⟩⟩⟩
 ·rintro σ HD ⟨y9,yA,rfl,sD⟩;refine⟨_,Z,vw,_,Z,(wvC.mono (aK.same sD)).deep,shw,_,Z,Z,_,Z,io Z ?_⟩;exact⟨_,_,_,_,_,_,_,_,_,Z,TC.same sD⟩
end
set_option autoImplicit true in
set_option relaxedAutoImplicit true in
open PySem.W in
theorem all_mk{l:OpenLaw}{w:Ol}{K:Frag}{h:Np}{mg:NV->Option Value}{fa:Addr}(X:K.In h)(G:h.Ns NS mg)(hfa:mg "law"=some (.ref fa))
  {f_Q25:Addr} {d_Q25:Nl} (h_is_whole:dY K "is_whole" zf f_Q25 d_Q25)
  {f_Q4:Addr} {d_Q4:Nl} (h_is_number_of:dY K "is_number_of" EF f_Q4 d_Q4)
  {f_Q16:Addr} {d_Q16:Nl} (h_is_rising:dY K "is_rising" zo f_Q16 d_Q16)
  {f_Q0:Addr} {d_Q0:Nl} (h_greatest_divisor:dY K "greatest_divisor" EJ f_Q0 d_Q0)
  {f_Q45:Addr} {d_Q45:Nl} (h_ratio:dY K "ratio" yO f_Q45 d_Q45)
  {f_Q50:Addr} {d_Q50:Nl} (h_plus:dY K "plus" yJ f_Q50 d_Q50)
  {f_Q46:Addr} {d_Q46:Nl} (h_minus:dY K "minus" yN f_Q46 d_Q46)
  {f_Q47:Addr} {d_Q47:Nl} (h_times:dY K "times" yM f_Q47 d_Q47)
  {f_Q51:Addr} {d_Q51:Nl} (h_over:dY K "over" yI f_Q51 d_Q51)
  {f_Q36:Addr} {d_Q36:Nl} (h_is_less:dY K "is_less" yU f_Q36 d_Q36)
  {f_Q41:Addr} {d_Q41:Nl} (h_lesser:dY K "lesser" yQ f_Q41 d_Q41)
  {f_Q48:Addr} {d_Q48:Nl} (h_total:dY K "total" yL f_Q48 d_Q48)
  {f_Q11:Addr} {d_Q11:Nl} (h_whole_parts:dY K "whole_parts" zu f_Q11 d_Q11)
  {f_Q17:Addr} {d_Q17:Nl} (h_in_window:dY K "in_window" zn f_Q17 d_Q17)
  {f_Q12:Addr} {d_Q12:Nl} (h_no_leanings:dY K "no_leanings" zt f_Q12 d_Q12)
  {f_Q26:Addr} {d_Q26:Nl} (h_add_lean:dY K "add_lean" ze f_Q26 d_Q26)
  {f_Q5:Addr} {d_Q5:Nl} (h_all_leanings:dY K "all_leanings" EE f_Q5 d_Q5)
  {f_Q27:Addr} {d_Q27:Nl} (h_drawn_in:dY K "drawn_in" zd f_Q27 d_Q27)
  {f_Q6:Addr} {d_Q6:Nl} (h_kept_windows:dY K "kept_windows" ED f_Q6 d_Q6)
  {f_Q52:Addr} {d_Q52:Nl} (h_held:dY K "held" yH f_Q52 d_Q52)
  {f_Q1:Addr} {d_Q1:Nl} (h_tightest_places:dY K "tightest_places" EI f_Q1 d_Q1)
  {f_Q28:Addr} {d_Q28:Nl} (h_tightest:dY K "tightest" zc f_Q28 d_Q28)
  {f_Q42:Addr} {d_Q42:Nl} (h_layers:dY K "layers" yP f_Q42 d_Q42)
  {f_Q2:Addr} {d_Q2:Nl} (h_layer_density:dY K "layer_density" EH f_Q2 d_Q2)
  {f_Q7:Addr} {d_Q7:Nl} (h_layer_speeds:dY K "layer_speeds" EC f_Q7 d_Q7)
  {f_Q3:Addr} {d_Q3:Nl} (h_first_to_come:dY K "first_to_come" EG f_Q3 d_Q3)
  {f_Q29:Addr} {d_Q29:Nl} (h_order_of:dY K "order_of" zb f_Q29 d_Q29)
  {f_Q18:Addr} {d_Q18:Nl} (h_deal_turn:dY K "deal_turn" zm f_Q18 d_Q18)
  {f_Q49:Addr} {d_Q49:Nl} (h_dealt:dY K "dealt" yK f_Q49 d_Q49)
  {f_Q14:Addr} {d_Q14:Nl} (h_least_plan:dY K "least_plan" zq f_Q14 d_Q14)
  {f_Q8:Addr} {d_Q8:Nl} (h_bound_amount:dY K "bound_amount" EB f_Q8 d_Q8)
  {f_Q19:Addr} {d_Q19:Nl} (h_lets_much:dY K "lets_much" zk f_Q19 d_Q19)
  {f_Q53:Addr} {d_Q53:Nl} (h_fits:dY K "fits" yG f_Q53 d_Q53)
  {f_Q30:Addr} {d_Q30:Nl} (h_law_tape:dY K "_law_tape" za f_Q30 d_Q30)
  {f_Q31:Addr} {d_Q31:Nl} (h_law_draw:dY K "_law_draw" yZ f_Q31 d_Q31)
  {f_Q32:Addr} {d_Q32:Nl} (h_law_frac:dY K "_law_frac" yY f_Q32 d_Q32)
  {f_Q37:Addr} {d_Q37:Nl} (h_law_add:dY K "_law_add" yT f_Q37 d_Q37)
  {f_Q38:Addr} {d_Q38:Nl} (h_law_mul:dY K "_law_mul" yS f_Q38 d_Q38)
  {f_Q33:Addr} {d_Q33:Nl} (h_law_less:dY K "_law_less" yX f_Q33 d_Q33)
  {f_Q39:Addr} {d_Q39:Nl} (h_law_sum:dY K "_law_sum" yR f_Q39 d_Q39)
  {f_Q20:Addr} {d_Q20:Nl} (h_law_works:dY K "_law_works" zj f_Q20 d_Q20)
  {f_Q21:Addr} {d_Q21:Nl} (h_law_units:dY K "_law_units" zi f_Q21 d_Q21)
  {f_Q9:Addr} {d_Q9:Nl} (h_law_tightest:dY K "_law_tightest" EA f_Q9 d_Q9)
  {f_Q15:Addr} {d_Q15:Nl} (h_law_layers:dY K "_law_layers" zp f_Q15 d_Q15)
  {f_Q34:Addr} {d_Q34:Nl} (h_law_pace:dY K "_law_pace" yW f_Q34 d_Q34)
  {f_Q35:Addr} {d_Q35:Nl} (h_law_plan:dY K "_law_plan" yV f_Q35 d_Q35)
  {f_Q10:Addr} {d_Q10:Nl} (h_law_is_right:dY K "_law_is_right" zw f_Q10 d_Q10)
  {f_Q13:Addr} {d_Q13:Nl} (h_law_are_few:dY K "_law_are_few" zr f_Q13 d_Q13)
  {f_Q22:Addr} {d_Q22:Nl} (h_law_keeps:dY K "_law_keeps" zh f_Q22 d_Q22)
  {f_Q23:Addr} {d_Q23:Nl} (h_law_right:dY K "_law_right" zg f_Q23 d_Q23)
  {f_Q54:Addr} {d_Q54:Nl} (h_law:dY K "law" yF f_Q54 d_Q54)
  {f_NOUGHT:Addr} {od_NOUGHT:Option Addr} {sl_NOUGHT:Array (Option Value)} {tkNOUGHT0 tkNOUGHT1:W5} {n_NOUGHT:Nat} (p_NOUGHT:nsIn K NS "NOUGHT"=some (some (.ref f_NOUGHT))) (l_NOUGHT:K.lookup f_NOUGHT=some ⟨.type "tuple",od_NOUGHT,.seq #[.int (0) tkNOUGHT0,.int (1) tkNOUGHT1] n_NOUGHT,sl_NOUGHT⟩)
  {tkTURNS:W5} (p_TURNS:nsIn K NS "TURNS"=some (some (.int (24) tkTURNS)))
  {tkFITS:W5} (p_FITS:nsIn K NS "FITS"=some (some (.str "fits" tkFITS)))
  {tkMUCH:W5} (p_MUCH:nsIn K NS "MUCH"=some (some (.str "much" tkMUCH)))
  {c_Q24:Addr} (p_Q24:nsIn K NS "PaceError"=some (some (.ref c_Q24)))
  {c_Q43:Addr} (p_Q43:nsIn K NS "NoMuch"=some (some (.ref c_Q43)))
  {c_Q44:Addr} (p_Q44:nsIn K NS "NoRoom"=some (some (.ref c_Q44)))
  {c_Q40:Addr} (p_Q40:nsIn K NS "NoRatio"=some (some (.ref c_Q40)))
  (z_abs:nsIn K NS "abs"=some none)
  (z_all:nsIn K NS "all"=some none)
  (z_any:nsIn K NS "any"=some none)
  (z_bool:nsIn K NS "bool"=some none)
  (z_enumerate:nsIn K NS "enumerate"=some none)
  (z_int:nsIn K NS "int"=some none)
  (z_isinstance:nsIn K NS "isinstance"=some none)
  (z_len:nsIn K NS "len"=some none)
  (z_list:nsIn K NS "list"=some none)
  (z_max:nsIn K NS "max"=some none)
  (z_min:nsIn K NS "min"=some none)
  (z_range:nsIn K NS "range"=some none)
  (z_repr:nsIn K NS "repr"=some none)
  (z_set:nsIn K NS "set"=some none)
  (z_sorted:nsIn K NS "sorted"=some none)
  (z_sum:nsIn K NS "sum"=some none)
  (z_tuple:nsIn K NS "tuple"=some none)
  : ∃fd:Nl,(∀(s:Nf) (v:Value),Uf s fd ⟨[v],[]⟩ [("_law_script",v)])/\∀base:Np,K.In base->base.Ns NS mg->bX l.prog w K mg base ee 9 fa fd ["_law_script"] (oK K):=by
 have e:=hfa.symm.trans (mg_of X G h_law.p)
 cases e
 obtain⟨_,_,_,_,_,_,_,_,_,rfl,_,_⟩:=h_law.F.ex;have T:fc K mg ⟨f_Q25,_,f_Q4,_,f_Q16,_,f_Q0,_,f_Q45,_,f_Q50,_,f_Q46,_,f_Q47,_,f_Q51,_,f_Q36,_,f_Q41,_,f_Q48,_,f_Q11,_,f_Q17,_,f_Q12,_,f_Q26,_,f_Q5,_,f_Q27,_,f_Q6,_,f_Q52,_,f_Q1,_,f_Q28,_,f_Q42,_,f_Q2,_,f_Q7,_,f_Q3,_,f_Q29,_,f_Q18,_,f_Q49,_,f_Q14,_,f_Q8,_,f_Q19,_,f_Q53,_,f_Q30,_,f_Q31,_,f_Q32,_,f_Q37,_,f_Q38,_,f_Q33,_,f_Q39,_,f_Q20,_,f_Q21,_,f_Q9,_,f_Q15,_,f_Q34,_,f_Q35,_,f_Q10,_,f_Q13,_,f_Q22,_,f_Q23,_,fa,_,f_NOUGHT,tkTURNS,tkFITS,tkMUCH,c_Q24,c_Q43,c_Q44,c_Q40⟩:={
  F_Q25:=h_is_whole.F,b_Q25:=h_is_whole.b1,m_Q25:=mg_of X G h_is_whole.p,
  F_Q4:=h_is_number_of.F,b_Q4:=h_is_number_of.b2,m_Q4:=mg_of X G h_is_number_of.p,
  F_Q16:=h_is_rising.F,b_Q16:=h_is_rising.b2,m_Q16:=mg_of X G h_is_rising.p,
  F_Q0:=h_greatest_divisor.F,b_Q0:=h_greatest_divisor.b2,m_Q0:=mg_of X G h_greatest_divisor.p,
  F_Q45:=h_ratio.F,b_Q45:=h_ratio.b2,m_Q45:=mg_of X G h_ratio.p,
  F_Q50:=h_plus.F,b_Q50:=h_plus.b2,m_Q50:=mg_of X G h_plus.p,
  F_Q46:=h_minus.F,b_Q46:=h_minus.b2,m_Q46:=mg_of X G h_minus.p,
  F_Q47:=h_times.F,b_Q47:=h_times.b2,m_Q47:=mg_of X G h_times.p,
  F_Q51:=h_over.F,b_Q51:=h_over.b2,m_Q51:=mg_of X G h_over.p,
  F_Q36:=h_is_less.F,b_Q36:=h_is_less.b2,m_Q36:=mg_of X G h_is_less.p,
  F_Q41:=h_lesser.F,b_Q41:=h_lesser.b2,m_Q41:=mg_of X G h_lesser.p,
  F_Q48:=h_total.F,b_Q48:=h_total.b1,m_Q48:=mg_of X G h_total.p,
  F_Q11:=h_whole_parts.F,b_Q11:=h_whole_parts.b1,m_Q11:=mg_of X G h_whole_parts.p,
  F_Q17:=h_in_window.F,b_Q17:=h_in_window.b2,m_Q17:=mg_of X G h_in_window.p,
  F_Q12:=h_no_leanings.F,b_Q12:=h_no_leanings.b1,m_Q12:=mg_of X G h_no_leanings.p,
  F_Q26:=h_add_lean.F,b_Q26:=h_add_lean.b2,m_Q26:=mg_of X G h_add_lean.p,
  F_Q5:=h_all_leanings.F,b_Q5:=h_all_leanings.b2,m_Q5:=mg_of X G h_all_leanings.p,
  F_Q27:=h_drawn_in.F,b_Q27:=h_drawn_in.b1,m_Q27:=mg_of X G h_drawn_in.p,
  F_Q6:=h_kept_windows.F,b_Q6:=h_kept_windows.b2,m_Q6:=mg_of X G h_kept_windows.p,
  F_Q52:=h_held.F,b_Q52:=h_held.b3,m_Q52:=mg_of X G h_held.p,
  F_Q1:=h_tightest_places.F,b_Q1:=h_tightest_places.b3,m_Q1:=mg_of X G h_tightest_places.p,
  F_Q28:=h_tightest.F,b_Q28:=h_tightest.b2,m_Q28:=mg_of X G h_tightest.p,
  F_Q42:=h_layers.F,b_Q42:=h_layers.b1,m_Q42:=mg_of X G h_layers.p,
  F_Q2:=h_layer_density.F,b_Q2:=h_layer_density.b2,m_Q2:=mg_of X G h_layer_density.p,
  F_Q7:=h_layer_speeds.F,b_Q7:=h_layer_speeds.b1,m_Q7:=mg_of X G h_layer_speeds.p,
  F_Q3:=h_first_to_come.F,b_Q3:=h_first_to_come.b3,m_Q3:=mg_of X G h_first_to_come.p,
  F_Q29:=h_order_of.F,b_Q29:=h_order_of.b2,m_Q29:=mg_of X G h_order_of.p,
  F_Q18:=h_deal_turn.F,b_Q18:=h_deal_turn.b5,m_Q18:=mg_of X G h_deal_turn.p,
  F_Q49:=h_dealt.F,b_Q49:=h_dealt.b3,m_Q49:=mg_of X G h_dealt.p,
  F_Q14:=h_least_plan.F,b_Q14:=h_least_plan.b1,m_Q14:=mg_of X G h_least_plan.p,
  F_Q8:=h_bound_amount.F,b_Q8:=h_bound_amount.b3,m_Q8:=mg_of X G h_bound_amount.p,
  F_Q19:=h_lets_much.F,b_Q19:=h_lets_much.b4,m_Q19:=mg_of X G h_lets_much.p,
  F_Q53:=h_fits.F,b_Q53:=h_fits.b2,m_Q53:=mg_of X G h_fits.p,
  F_Q30:=h_law_tape.F,b_Q30:=h_law_tape.b1,m_Q30:=mg_of X G h_law_tape.p,
  F_Q31:=h_law_draw.F,b_Q31:=h_law_draw.b2,m_Q31:=mg_of X G h_law_draw.p,
  F_Q32:=h_law_frac.F,b_Q32:=h_law_frac.b2,m_Q32:=mg_of X G h_law_frac.p,
  F_Q37:=h_law_add.F,b_Q37:=h_law_add.b2,m_Q37:=mg_of X G h_law_add.p,
  F_Q38:=h_law_mul.F,b_Q38:=h_law_mul.b2,m_Q38:=mg_of X G h_law_mul.p,
  F_Q33:=h_law_less.F,b_Q33:=h_law_less.b2,m_Q33:=mg_of X G h_law_less.p,
  F_Q39:=h_law_sum.F,b_Q39:=h_law_sum.b1,m_Q39:=mg_of X G h_law_sum.p,
  F_Q20:=h_law_works.F,b_Q20:=h_law_works.b2,m_Q20:=mg_of X G h_law_works.p,
  F_Q21:=h_law_units.F,b_Q21:=h_law_units.b1,m_Q21:=mg_of X G h_law_units.p,
  F_Q9:=h_law_tightest.F,b_Q9:=h_law_tightest.b2,m_Q9:=mg_of X G h_law_tightest.p,
  F_Q15:=h_law_layers.F,b_Q15:=h_law_layers.b1,m_Q15:=mg_of X G h_law_layers.p,
  F_Q34:=h_law_pace.F,b_Q34:=h_law_pace.b2,m_Q34:=mg_of X G h_law_pace.p,
  F_Q35:=h_law_plan.F,b_Q35:=h_law_plan.b2,m_Q35:=mg_of X G h_law_plan.p,
  F_Q10:=h_law_is_right.F,b_Q10:=h_law_is_right.b2,m_Q10:=mg_of X G h_law_is_right.p,
  F_Q13:=h_law_are_few.F,b_Q13:=h_law_are_few.b3,m_Q13:=mg_of X G h_law_are_few.p,
  F_Q22:=h_law_keeps.F,b_Q22:=h_law_keeps.b2,m_Q22:=mg_of X G h_law_keeps.p,
  F_Q23:=h_law_right.F,b_Q23:=h_law_right.b4,m_Q23:=mg_of X G h_law_right.p,
  F_Q54:=h_law.F,b_Q54:=h_law.b1,m_Q54:=mg_of X G h_law.p,
  m_NOUGHT:=mg_of X G p_NOUGHT,q_NOUGHT:=λH=>.inr ⟨_,_,_,l_NOUGHT,Z,Z,g9,(.cons ⟨_,Z⟩ (.cons ⟨_,Z⟩ .nil))⟩,
  m_TURNS:=mg_of X G p_TURNS,
  m_FITS:=mg_of X G p_FITS,
  m_MUCH:=mg_of X G p_MUCH,
  m_Q24:=mg_of X G p_Q24,
  m_Q43:=mg_of X G p_Q43,
  m_Q44:=mg_of X G p_Q44,
  m_Q40:=mg_of X G p_Q40,
  z_abs:=mg_none_of X G z_abs,z_all:=mg_none_of X G z_all,z_any:=mg_none_of X G z_any,z_bool:=mg_none_of X G z_bool,z_enumerate:=mg_none_of X G z_enumerate,z_int:=mg_none_of X G z_int,z_isinstance:=mg_none_of X G z_isinstance,z_len:=mg_none_of X G z_len,z_list:=mg_none_of X G z_list,z_max:=mg_none_of X G z_max,z_min:=mg_none_of X G z_min,z_range:=mg_none_of X G z_range,z_repr:=mg_none_of X G z_repr,z_set:=mg_none_of X G z_set,z_sorted:=mg_none_of X G z_sorted,z_sum:=mg_none_of X G z_sum,z_tuple:=mg_none_of X G z_tuple}
 exact⟨_,λs v=>.of_eq Z,λbase _ _=>Fo T⟩
theorem walk{l:Wz}{loose:List NV}{XP:(NV->Option Value)->Np->Prop}{YP:Ol->Np->Prop}{d:DefRec}{K:Params->M6}(hn:l.most=some 63)(hdf:d.params.defaults=[])
  (hY:∀(w:Ol) (h:Np),YP w h->(K w.params).In h)
  (F:∀(w:Ol) (mg:NV->Option Value) (fa:Addr) (h:Np),(K w.params).In h->h.Ns NS mg->mg d.name=some (.ref fa)→
   ∃fd:Nl,(∀(s:Nf) (u:Value),Uf s fd ⟨[u],[]⟩ [("_law_script",u)])/\∀base:Np,(K w.params).In base->base.Ns NS mg->bX l.prog w (K w.params) mg base ee 9 fa fd ["_law_script"] (oK (K w.params))):
  W7 q loose XP YP l.row.toRowW d [] (λf vs=>WP f vs):=
 L2.walk_of (n:=63) (k:=9) (x := "_law_script") (CX:=λ_=>ee) (sp:=λw=>oK (K w.params)) hn (by decide) hdf ⟨Z,by decide,by decide,Z⟩ hY F (λ_ _ a ns hl _ hS=>⟨a,ns,Z,hS,hl,λ_=>Z⟩) λ_ _ _ _ _ z=>z
end My
open PySem PySem.W PyProof.Rows
set_option maxRecDepth 100000 in
set_option maxHeartbeats 0 in
theorem PySem.Challenge.cw_paceplan_k46_whole_fits_or_too_much_holds : PySem.Challenge.rw_paceplan_k46_whole_fits_or_too_much.Holds := by
 w_on;refine HWtop ?_
 k_fill
 refine My.walk (l:=PySem.Challenge.rw_paceplan_k46_whole_fits_or_too_much) rfl rfl (fun w h Y=>PySem.W.kIn_of Y) ?F
 case F=>
  intro w mg fa h KX G hmg
  refine' My.all_mk KX G hmg ?q0 ?q1 ?q2 ?q3 ?q4 ?q5 ?q6 ?q7 ?q8 ?q9 ?q10 ?q11 ?q12 ?q13 ?q14 ?q15 ?q16 ?q17 ?q18 ?q19 ?q20 ?q21 ?q22 ?q23 ?q24 ?q25 ?q26 ?q27 ?q28 ?q29 ?q30 ?q31 ?q32 ?q33 ?q34 ?q35 ?q36 ?q37 ?q38 ?q39 ?q40 ?q41 ?q42 ?q43 ?q44 ?q45 ?q46 ?q47 ?q48 ?q49 ?q50 ?q51 ?q52 ?q53 ?q54 ?q55 ?q56 ?q57 ?q58 ?q59 ?q60 ?q61 ?q62 ?q63 ?q64 ?q65 ?q66 ?q67 ?q68 ?q69 ?q70 ?q71 ?q72 ?q73 ?q74 ?q75 ?q76
  (case q0|q1|q2|q3|q4|q5|q6|q7|q8|q9|q10|q11|q12|q13|q14|q15|q16|q17|q18|q19|q20|q21|q22|q23|q24|q25|q26|q27|q28|q29|q30|q31|q32|q33|q34|q35|q36|q37|q38|q39|q40|q41|q42|q43|q44|q45|q46|q47|q48|q49|q50=>refine' B.isF ?a ?b ?c ?d;(case a=>k_is);(case b=>k_is);(case c=>k_is);(case d=>k_is))
  (case q51|q52|q53|q54|q55|q56|q57|q58|q59|q60|q61|q62|q63|q64|q65|q66|q67|q68|q69|q70|q71|q72|q73|q74|q75|q76=>k_is)
