import PyProof.Rows.All
import KE.RegKIsAll
import KE.RegKTryMore
import KE.KItem
import PySem.Challenge.RW_paceplan_k92_whole_leaning_and_a_work_mo
set_option Elab.async false
set_option linter.all false
set_option maxRecDepth 100000
set_option autoImplicit true
set_option relaxedAutoImplicit true
namespace HP
open PySem
abbrev S:=Stmt
noncomputable def b:=PySem.Challenge.pw_paceplan_k92_whole_leaning_and_a_work_mo.main.body
local macro_rules
 | `(tactic| o_head $n:term)=>`(tactic| (refine (?f:∀ s,b[$n]?=some s->_) _ rfl;exact fun s _=>s))
noncomputable def c0:S:=by o_head 0
noncomputable def c1:S:=by o_head 1
noncomputable def c2:S:=by o_head 2
noncomputable def c3:S:=by o_head 3
noncomputable def c4:S:=by o_head 4
noncomputable def c5:S:=by o_head 5
noncomputable def c6:S:=by o_head 6
noncomputable def c7:S:=by o_head 7
noncomputable def c8:S:=by o_head 8
noncomputable def c9:S:=by o_head 9
noncomputable def c10:S:=by o_head 10
noncomputable def c11:S:=by o_head 11
noncomputable def c12:S:=by o_head 12
noncomputable def c13:S:=by o_head 13
noncomputable def c14:S:=by o_head 14
noncomputable def c15:S:=by o_head 15
noncomputable def c16:S:=by o_head 16
noncomputable def c17:S:=by o_head 17
noncomputable def c18:S:=by o_head 18
noncomputable def c19:S:=by o_head 19
noncomputable def c20:S:=by o_head 20
noncomputable def c21:S:=by o_head 21
noncomputable def c22:S:=by o_head 22
noncomputable def c23:S:=by o_head 23
noncomputable def c24:S:=by o_head 24
noncomputable def c25:S:=by o_head 25
noncomputable def c26:S:=by o_head 26
noncomputable def c27:S:=by o_head 27
noncomputable def c28:S:=by o_head 28
noncomputable def c29:S:=by o_head 29
noncomputable def c30:S:=by o_head 30
noncomputable def c31:S:=by o_head 31
noncomputable def c32:S:=by o_head 32
noncomputable def c33:S:=by o_head 33
noncomputable def c34:S:=by o_head 34
noncomputable def c35:S:=by o_head 35
noncomputable def c36:S:=by o_head 36
noncomputable def c37:S:=by o_head 37
noncomputable def c38:S:=by o_head 38
noncomputable def c39:S:=by o_head 39
noncomputable def c40:S:=by o_head 40
noncomputable def c41:S:=by o_head 41
noncomputable def c42:S:=by o_head 42
noncomputable def c43:S:=by o_head 43
noncomputable def c44:S:=by o_head 44
noncomputable def c45:S:=by o_head 45
noncomputable def c46:S:=by o_head 46
noncomputable def c47:S:=by o_head 47
noncomputable def c48:S:=by o_head 48
noncomputable def c49:S:=by o_head 49
noncomputable def c50:S:=by o_head 50
noncomputable def c51:S:=by o_head 51
noncomputable def c52:S:=by o_head 52
noncomputable def c53:S:=by o_head 53
noncomputable def c54:S:=by o_head 54
noncomputable def c55:S:=by o_head 55
noncomputable def c56:S:=by o_head 56
noncomputable def c57:S:=by o_head 57
noncomputable def c58:S:=by o_head 58
noncomputable def c59:S:=by o_head 59
noncomputable def c60:S:=by o_head 60
noncomputable def c61:S:=by o_head 61
noncomputable def c62:S:=by o_head 62
noncomputable def c63:S:=by o_head 63
noncomputable def c64:S:=by o_head 64
noncomputable def c65:S:=by o_head 65
noncomputable def c66:S:=by o_head 66
noncomputable def c67:S:=by o_head 67
noncomputable def c68:S:=by o_head 68
noncomputable def c69:S:=by o_head 69
noncomputable def c70:S:=by o_head 70
noncomputable def c71:S:=by o_head 71
noncomputable def c72:S:=by o_head 72
noncomputable def c73:S:=by o_head 73
noncomputable def c74:S:=by o_head 74
noncomputable def c75:S:=by o_head 75
noncomputable def c76:S:=by o_head 76
noncomputable def c77:S:=by o_head 77
noncomputable def c78:S:=by o_head 78
noncomputable def c79:S:=by o_head 79
noncomputable def c80:S:=by o_head 80
noncomputable def c81:S:=by o_head 81
noncomputable def c82:S:=by o_head 82
noncomputable def c83:S:=by o_head 83
noncomputable def c84:S:=by o_head 84
noncomputable def c85:S:=by o_head 85
noncomputable def c86:S:=by o_head 86
noncomputable def c87:S:=by o_head 87
noncomputable def c88:S:=by o_head 88
noncomputable def c89:S:=by o_head 89
noncomputable def c90:S:=by o_head 90
noncomputable def c91:S:=by o_head 91
noncomputable def c92:S:=by o_head 92
noncomputable def c93:S:=by o_head 93
noncomputable def c94:S:=by o_head 94
noncomputable def c95:S:=by o_head 95
noncomputable def c96:S:=by o_head 96
noncomputable def c97:S:=by o_head 97
noncomputable def c98:S:=by o_head 98
noncomputable def t90:List S:=c90::c91::c92::c93::c94::c95::c96::c97::c98::[]
noncomputable def t81:List S:=c81::c82::c83::c84::c85::c86::c87::c88::c89::t90
noncomputable def t72:List S:=c72::c73::c74::c75::c76::c77::c78::c79::c80::t81
noncomputable def t63:List S:=c63::c64::c65::c66::c67::c68::c69::c70::c71::t72
noncomputable def t54:List S:=c54::c55::c56::c57::c58::c59::c60::c61::c62::t63
noncomputable def t45:List S:=c45::c46::c47::c48::c49::c50::c51::c52::c53::t54
noncomputable def t36:List S:=c36::c37::c38::c39::c40::c41::c42::c43::c44::t45
noncomputable def t27:List S:=c27::c28::c29::c30::c31::c32::c33::c34::c35::t36
noncomputable def t18:List S:=c18::c19::c20::c21::c22::c23::c24::c25::c26::t27
noncomputable def t9:List S:=c9::c10::c11::c12::c13::c14::c15::c16::c17::t18
noncomputable def t0:List S:=c0::c1::c2::c3::c4::c5::c6::c7::c8::t9
noncomputable def s:Scope:=by refine (?f:∀ s,PySem.Challenge.pw_paceplan_k92_whole_leaning_and_a_work_mo.main=⟨_,s,_,_,_⟩->_) _ rfl;exact fun s _=>s
noncomputable def p:Program:=by
 refine (?f:∀ l s a f m ms ps ab h g,PySem.Challenge.pw_paceplan_k92_whole_leaning_and_a_work_mo=Program.mk ⟨l,s,a,f,m⟩ ms ps ab h g->_) _ _ _ _ _ _ _ _ _ _ rfl
 exact fun _ _ a f m ms ps ab h g _=>⟨⟨t0,s,a,f,m⟩,ms,ps,ab,h,g⟩
theorem e:PySem.Challenge.pw_paceplan_k92_whole_leaning_and_a_work_mo=p:=by kernel_rfl
end HP
name_quick tw3040784105559275091 for HP.p by HP.e
theorem PySem.W.Fast.te3040784105559275091:PySem.Challenge.pw_paceplan_k92_whole_leaning_and_a_work_mo=PySem.W.Fast.tw3040784105559275091:=PySem.W.Fast.tw3040784105559275091_eq
theorem ES {α β γ:Type} {o:Option α} {f:α->β} {g:α->γ} {a:β} {b:γ} (h1:o.map f=some a) (h2:o.map g=some b):o.map (fun s=>(f s,g s))=some (a,b):=by
 cases o with
 | none=>cases h1
 | some x=>cases h1;cases h2;rfl
namespace HW
open PySem
def keep:List Nat:=[1,2,3,4,6,7,8,9,10,11,13,14,15,16,17,18,19,20,21,22,23,24,25,26,28,29,30,31,32,33,34,35,36,37,38,39,40,42,43,44,45,46,47,48,50,51,52,53,54,56,57,58,59,60,61,63,64,65,66,67,68,69,70,71,73,75,76,77,78,79,80,81,82,83,84,85,86,87,88,89,90,91,92,93,94,95,96,97,98]
def V:Program:=PySem.W.view PySem.Challenge.pw_paceplan_k92_whole_leaning_and_a_work_mo keep
end HW
section HWs
open PySem PySem.W PyProof.Rows
set_option maxHeartbeats 0
abbrev HWe(w:World):=openEnds treeTable PySem.Challenge.rw_paceplan_k92_whole_leaning_and_a_work_mo.row.prog w 7922
abbrev HWo:=fun s:Shared=>openSeen HW.V [] (importedModules PySem.Challenge.rw_paceplan_k92_whole_leaning_and_a_work_mo.row.prog.main.body) (fun s=>xlAt HW.V [] s && recOk PySem.Challenge.rw_paceplan_k92_whole_leaning_and_a_work_mo.row.records s) true s
local macro_rules
 | `(tactic| nofun)=>`(tactic| (intro w;delta HWe HWo openEnds fencedOpening topFrom;rw [PySem.W.Fast.te14364793385576792824,PySem.W.Fast.te14082659384304107361,PySem.W.Fast.te10274390034422433532,PySem.W.Fast.te1435165496053646825,PySem.W.Fast.te14289696077712309145,PySem.W.Fast.te4187177175401517315];kernel_rfl))
theorem HW9 {β γ δ ε ζ η θ:Type}{z x:β×γ×δ×ε×ζ×η×θ}(h1:(match z with|(a,_)=>a)=x.1)(h2:(match z with|(_,a,_)=>a)=x.2.1)(h3:(match z with|(_,_,a,_)=>a)=x.2.2.1)(h4:(match z with|(_,_,_,a,_)=>a)=x.2.2.2.1)(h5:(match z with|(_,_,_,_,a,b,_)=>(a,b))=(x.2.2.2.2.1,x.2.2.2.2.2.1))(h6:(match z with|(_,_,_,_,_,_,a)=>a)=x.2.2.2.2.2.2):z=x:=by
 obtain ⟨a,b,c,d,e,g,h⟩:=z
 obtain ⟨a',b',c',d',e',g',h'⟩:=x
 cases h1;cases h2;cases h3;cases h4;cases h5;cases h6;rfl
theorem HW0 {α β γ δ ε ζ η θ:Type}{o:Option α}{f:α->β×γ×δ×ε×ζ×η×θ}{x:β×γ×δ×ε×ζ×η×θ}(h1:o.map (fun s=>match f s with|(a,_)=>a)=some x.1)(h2:o.map (fun s=>match f s with|(_,a,_)=>a)=some x.2.1)(h3:o.map (fun s=>match f s with|(_,_,a,_)=>a)=some x.2.2.1)(h4:o.map (fun s=>match f s with|(_,_,_,a,_)=>a)=some x.2.2.2.1)(h5:o.map (fun s=>match f s with|(_,_,_,_,a,b,_)=>(a,b))=some (x.2.2.2.2.1,x.2.2.2.2.2.1))(h6:o.map (fun s=>match f s with|(_,_,_,_,_,_,a)=>a)=some x.2.2.2.2.2.2):o.map f=some x:=by
 cases o with
 | none=>cases h1
 | some y=>exact congrArg some (HW9 (Option.some.inj h1) (Option.some.inj h2) (Option.some.inj h3) (Option.some.inj h4) (Option.some.inj h5) (Option.some.inj h6))
theorem HW5:∀ w,(HWe w).map (fun s=>match HWo s with|(_,_,_,_,a,b,_)=>(a,b))=some ((openGood HW.V []).2.2.2.2.1,(openGood HW.V []).2.2.2.2.2.1):=by nofun
theorem HW1:∀ w,(HWe w).map (fun s=>match HWo s with|(a,_)=>a)=some (openGood HW.V []).1:=by nofun
theorem HW4:∀ w,(HWe w).map (fun s=>match HWo s with|(_,_,_,a,_)=>a)=some (openGood HW.V []).2.2.2.1:=by nofun
theorem HW3:∀ w,(HWe w).map (fun s=>match HWo s with|(_,_,a,_)=>a)=some (openGood HW.V []).2.2.1:=by nofun
theorem HW2:∀ w,(HWe w).map (fun s=>match HWo s with|(_,a,_)=>a)=some (openGood HW.V []).2.1:=by nofun
theorem HW6:∀ w,(HWe w).map (fun s=>match HWo s with|(_,_,_,_,_,_,a)=>a)=some (openGood HW.V []).2.2.2.2.2.2:=by nofun
theorem HWa:∀ w,(HWe w).map HWo=some (openGood HW.V []):=fun w=>HW0 (HW1 w) (HW2 w) (HW3 w) (HW4 w) (HW5 w) (HW6 w)
local macro_rules
 | `(tactic| o_head $H:term) => `(tactic| (
   refine holds_open (q:=HW.V) (loose:=[]) (N:=7922)
    (Xt:=fun s=>xlAt HW.V [] s && recOk (RowW.records (OpenRow.toRowW (OpenLaw.row PySem.Challenge.rw_paceplan_k92_whole_leaning_and_a_work_mo))) s)
    (XP:=XL HW.V []) (Yf:=Hook.obs $H) (Ya:=Hook.val $H) (YP:=Hook.says $H)
    ?hl (Hook.of $H) (Hook.keeps $H)
    (fun s e=>xl_of s (Bool.and_eq_true_iff.mp e).1) XL.keeps
    (by rfl) (by rfl) (by rfl)
    (fun s e=>recFacts_of (Bool.and_eq_true_iff.mp e).2) (by rfl) (by assumption) (by decide +kernel)
    ⟨rfl,rfl,rfl,rfl,rfl,by decide +kernel⟩ ?hw ?hc
   (case hl=>
    intro w;refine ES (HWa w) ?_;delta openEnds fencedOpening topFrom;rw [PySem.W.Fast.te14364793385576792824,PySem.W.Fast.te14082659384304107361,PySem.W.Fast.te10274390034422433532,PySem.W.Fast.te1435165496053646825,PySem.W.Fast.te14289696077712309145]
    kernel_rfl)))
open_top HWtop for PySem.Challenge.rw_paceplan_k92_whole_leaning_and_a_work_mo
end HWs
open Array renaming getElem?_eq_some_iff→Tl,length_toList→Tq,getElem?_eq_none_iff→WE,mem_toList_iff→X4
open Bool renaming false_ne_true→Q4,and_eq_true→Ra,and_false→R1,eq_iff_iff→Su,or_true→SZ,false_eq_true→Tz,not_true→UP,not_eq_true'→UW,false_and→U0,not_false→Vb,false_or→Vq,or_eq_true→Vu,and_true→W2,or_false→W8,true_and→YB,noConfusion→ZB,decide_or→aak,or_assoc→aax
open Classical renaming choose_spec→UU,byContradiction→WH,choose→Xq
open False renaming elim→SJ
open ForInStep renaming yield→V6
open Int renaming gcd→Q1,mul_ediv_cancel_left→Rj,eq_ofNat_of_zero_le→RK,emod_lt_of_pos→Sb,emod_nonneg→Sg,mul_pos→Sx,le_of_lt→SY,ediv_nonneg→Ts,mul_right_comm→TD,natAbs_mul→TR,gcd_dvd_right→TW,natCast_dvd_natCast→TX,gcd_comm→Uf,mul_comm→Us,le_of_dvd→Ux,mul_le_mul_of_nonneg_left→UF,natAbs_natCast→UJ,natAbs_dvd_natAbs→US,fdiv_eq_ediv_of_nonneg→U1,ediv_pos_of_pos_of_dvd→U4,eq_of_mul_eq_mul_right→U5,gcd_ediv_gcd_ediv_gcd→Vh,mul_left_comm→VJ,zero_add→VN,mul_le_mul_of_nonneg_right→VZ,le_refl→V2,natCast_mul→V7,gcd_add_mul_right_right→Wl,mul_lt_mul_of_pos_right→Wo,lt_of_mul_lt_mul_right→WF,toNat_natCast→WQ,dvd_trans→W3,ediv_le_self→Xo,ediv_one→XE,pow_zero→XN,pow_succ→XO,ediv_lt_of_lt_mul→X0,natAbs_of_nonneg→X6,add_mul→X9,mul_nonneg→Yb,gcd_eq_zero_iff→Ym,mul_assoc→Yy,gcd_eq_one_iff→YK,gcd_mul_right→Za,gcd_dvd_left→Zv,neg_mul→ZM,natAbs_neg→aag
open LawfulBEq renaming eq_of_beq→VA
open List renaming range→Qv,getElem?_eq_getElem→Qw,length_map→Qz,mem_of_getElem?→QC,mem_range→QH,getElem?_map→QJ,mem_singleton→QK,mem_cons_self→QL,getElem?_eq_some_iff→QM,mem_cons_of_mem→QP,getD_eq_getElem?_getD→QQ,mem_cons→QR,mem_map→QU,size_toArray→QX,length_append→Q2,mem_filter→Q3,mem_append→Q6,replicate→Rf,length_cons→Rh,take_add_one→Rn,mem_append_right→Ro,length_take→Rs,mem_append_left→Rt,Nodup→Ru,getElem_mem→RA,take_length→RB,map_cons→RC,not_mem_nil→RG,length_range→RL,nodup_cons→RO,filter_eq_self→RP,length_filter_le→RU,map_append→RW,mem_of_mem_take→RZ,getElem?_eq_none→R5,append_nil→R6,foldl_cons→R7,mem_iff_getElem→Sa,range_succ→Sf,length_drop→Sj,all_eq_true→Sk,filter_cons_of_pos→Sm,nodup_append→So,pairwise_iff_getElem→Sq,filter_cons_of_neg→SE,getElem?_set_ne→SG,countP_eq_zero→SK,length_pos_iff→SL,contains_iff_mem→SO,map_map→S0,getElem?_replicate→Te,getElem?_range→Tr,filter_append→Tx,length_set→TY,countP_eq_length_filter→TZ,getElem?_set_self→Uc,any_cons→Uh,contains_cons→Uk,take_zero→Uo,contains_eq_mem→Uu,map_congr_left→UA,nodup_nil→UD,take_of_length_le→UM,find?_cons→UO,length_replicate→UQ,length_singleton→UR,ext_getElem?→UV,getElem?_append_right→U3,getElem?_of_mem→Va,mem_of_mem_drop→Vc,lookup_cons→Ve,getElem?_append_left→Vf,flatten_append→Vj,Pairwise→Vo,sum_cons→Vs,eq_of_mem_replicate→Vt,find?_eq_none→Vx,append_of_mem→Vy,getElem?_cons_zero→VC,getElem?_cons_succ→VD,any_eq_false→VF,range_succ_eq_map→VM,append_assoc→VO,foldl_append→VP,take_append_drop→VS,pairwise_append→V3,eq_nil_of_length_eq_zero→V4,nil_append→V8,forIn_cons→V9,filter_nil→Wb,dropLast_concat_getLast→Wc,filterMap_cons→We,drop_zero→WA,mem_or_eq_of_mem_set→WG,drop_eq_getElem_cons→WI,filter_congr→WT,flatten_cons→WU,all_cons→WZ,find?_range_eq_some→W9,getElem_map→Xm,eraseIdx_cons_succ→Xn,countP_cons→Xp,nodup_range→Xr,mem_flatten→Xs,pairwise_lt_range→XS,of_mem_zip→XW,replicate_succ→Yr,map_take→Yw,mem_filterMap→YG,filter_filter→YS,map_replicate→YT,map_nil→Y5,any_map→Zh,getElem_take→Zk,getElem_drop→Zl,Sublist→Zo,cons_append→Zz,zipIdx_cons→ZC,filter_cons→ZF,any_eq_true→ZG,append_inj'→ZI,length→ZK,zipIdx_nil→ZZ,length_nil→Z0,countP_map→Z1,sum_append→Z2,forIn_nil→aaf,foldl→aai,map_drop→aas,take_nil→aau,drop_nil→aav
open List.Pairwise renaming filter→Ut
open List.Sublist renaming refl→Zp
open Min renaming min→ZW
open Nat renaming le_refl→QB,lt_of_lt_of_le→Rc,zero_le→Re,le_trans→Rm,lt_of_le_of_lt→RN,ne_of_lt→RQ,lt_irrefl→RY,le_of_lt→Ss,dvd_refl→Sz,not_lt_zero→Ta,pow_le_pow_right→TN,mul_le_mul_right→TU,ne_of_gt→Ud,le_succ→Ui,le_of_eq→VI,succ_le_succ→VY,min_eq_left→Wa,mul_le_mul_left→Wh,zero_add→Wp,lt_trichotomy→WS,le_of_dvd→W4,sub_zero→XJ,lt_trans→XM,succ_pos→XT,pow_add→X5,lt_succ_of_lt→Y9,add_zero→Zm,mul_succ→Zn,succ_ne_self→ZE,log2_lt→ZN,one_mul→ZO
open Ne renaming symm→Tt
open Option renaming map_eq_some_iff→RI,isSome_iff_exists→SR,isSome_some→Vw,getD_none→Zu
open Option.some renaming inj→R0
open Or renaming inr→Q7,inl→Q9
open Prod renaming ext→aaM
open Pure renaming pure→TL
open PyProof renaming noPylong_of_log2→W1,noPylong_small→Xx
open PyProof.Rows renaming callWith_type1→Sc,slot_tuple_getitem→Sd,boot_tuple→Sy,boot_isinstance→Tb,step_dedup→U9,AllBare→V0,assignInOrder_cons→Wu,envOfC→XB,IntsAre→XH,subscriptTail_builtinR→XI,boot_abs→Yd,entry_tuple_getitem→Yl,IsTup→Ys,args_tuple_getitem→YJ,assignInOrder_nil→YW,floordiv_int→YY,boot_range→Z7
open PyProof.Rows.IsTup renaming new→Ye
open PySem renaming wpAny_bind→Qx,Shared→QD,FuncData→QF,Heap→QN,starEach→QV,wpAny→Q0,model→Q5,Builtin→Rb,mainGlobals→Rg,PyData→Ri,Program→Rp,Str→Rr,Around→Rw,Expr→Ry,PassesOwn→RD,World→RF,boot_len→R4,wpAny_field→R9,wpAny_newObj_type→Sn,Obj→Sv,compareOp→Sw,wpAny_callSpecial?_slot→SD,wpAny_mono→SI,bootBuiltins→SX,wpAny_call_entry→Tf,assignEach→Tj,foldedSetIterable→Tk,wpAny_pyIter_tuple→Tw,wpAny_truthy_bool→TV,binaryOp→Ua,attributeBase→Ug,excClassObj→Uj,wpAny_seqItems→Ul,wpAny_setField_rec→Um,wpAny_passesOwn→Ur,backTo→Uv,mem_of_lookup→Uy,swapsWith→UC,Pos→UE,sysModules→UG,wpAny_Call_Name_kw→UI,wpAny_execs_nil→UN,sizeLine→UX,Scope→UZ,IsPair→U8,codeAny→Vd,wpAny_standAt→Vk,behindInMarks→Vl,NameKind→Vm,compEnvC→Vp,sliceBounds→VB,wpAny_pyIter_list→VE,codeAny_mono→VG,wpAny_setField→VL,wpAny_rule→VT,typeIs_int→VW,call_meets→VX,wpAny_updateSeq_pair→V1,letOwnedTupleGo→V5,getItem→Wi,Keyword→Wj,noteFrame→Ws,newFunctionEnv→WB,closureFor→WC,sizeLine_eq→WL,keywordEach→WP,wpAny_pyIter_enum→WR,assign→WW,swapsWithSole→WX,swappedStores→WY,wpAny_comprehension_free→W0,wpAny_attempt→W5,wpAny_onRaise→W6,wpAny_eqBool_int→Xd,tupleKind→Xe,cellsFrom→Xf,noFill_tuple_add→Xg,IsZip→Xh,wpAny_isInstance→Xi,wpAny_pyNext_range_end→Xv,wpAny_pyIter_rangeiter→Xw,BindsTo→Xz,wpAny_call→XA,IsPart→XF,wpAny_typeOf→XG,codeAny_handlers_test→XZ,wpAny_loadName_local→X1,IsRangeIter→X2,subscripted→X3,codeAny_call_builtin→X7,IsRange→Yg,DictEntry→Yh,callerA→Yi,setFlight→Yj,wpAny_loadName_cell→Yk,wpAny_handleBy_cons→Yp,assignInOrder→Yt,seq_tuple_add→Yv,nums_intItems→YA,Data→YE,wpAny_pyIter_range→YF,Result→YI,isInstance→YM,tupleKind_room_in1→YO,wpAny_tupleItemsOf→YR,Within→YU,wpAny_assign_Name→YV,bindName→YX,Code→Y0,backToKw→Y2,concat_meets→Y3,wpAny_sequenceKey→Y4,seqIndex_neg→Y6,slot_list_getitem→Y7,relabel→Y8,OwnTail→Zb,callType_new→Ze,valueAt→Zf,wpAny_Call_method→Zg,richCompare_gives→Zj,wpAny_execs_cons→Zr,wpAny_lookBehind→Zx,pastItsLine_dict→Zy,wpAny_Try_except→ZA,wpAny_pyIter_zip→ZD,seqIndex_of→ZL,field→ZP,wpAny_letGo→ZQ,Env→ZU,builtinsNs→Z3,wpAny_Name→Z4,Operator→Z5,pyNext→Z6,bindArgs→Z8,bindL→Z9,call→aab,numAt_eq→aaj
open PySem.Around renaming under→Xy,under_plainId→Yc
open PySem.AutoSeq1 renaming wpAny_loadPart'→Uw
open PySem.Builtin.Int renaming intBits→Yn
open PySem.Builtin.List renaming listTooLong→SU,listFitsIndex→Tn
open PySem.Builtin.Range renaming rangeSize→Si,small→Uz
open PySem.Builtin.Slice renaming slicePlaces→Up,sliceAdjust→Vg,sliceApplied→Wy
open PySem.Builtin.SmallTypes renaming nextOf→Rq,ownedTupleIsFree→SW,ownedTupleHandOut→Vi
open PySem.Builtin.Tuple renaming tupleExact→SS,tupleItemsOf→Wz
open PySem.Code renaming quiet_builtin→YL,isFrame→Y1
open PySem.Data renaming cell→Wr,fields→WK,seq→aaN
open PySem.F renaming plainAttrs_list→Rv,slot_list_append→RS,type_list_append→RT,args_tuple_add_2→Vn,slot_dict_itemiterator_iter→Vr,entry_tuple_add→Vz,slot_tuple_add→VH,slot_dict_get→VR,attrBase_ValueError→Wm,slot_list_insert→W7,slot_list_extend→Xa,type_list_extend→Xb,args_dict_get_3→Xj,plainAttrs_dict→Xk,slot_dict_items→Xl,entry_dict_get→XR
open PySem.Flow renaming next→aaC
open PySem.Heap renaming get?_push_of_some→Qy,lt_size→QY,get?_push_size→QZ,get?_update_other→RH,size_push→SV,get?_none_of_le→Td,get?_update_self→Tu,SameBut→Ub,IsTuple→XQ,ExtBut→X8,MadeExcOf→aac
open PySem.Heap.SameBut renaming update→Yq
open PySem.MeetsSeq renaming EqGives→ZH
open PySem.NameKind renaming cell→Yx,free→aan
open PySem.Obj renaming data_mapFields→UL,isFreed_of_fields→UT,mapSeq→VU,mapFields→Yz,cls_mapFields→Zc
open PySem.PassesOwn renaming never→Q8,leaving→WV
open PySem.PyData renaming eqv→R3,depthAll→Wd,tuple→Wq,canLayAll0→Zi,eqvAll→aaw
open PySem.SeqAt renaming EqAt→Sr
open PySem.SeqAt.EqAt renaming int_str→YC,str_int→YD
open PySem.Shared renaming heap→ZR
open PySem.Str renaming ofString→TH
open PySem.Value renaming ref→Rz,none→Tc,int→Tv,bool→UY,type→Vv,str→Xc,float→ZJ,isStrOf→aal,builtin→aap
open PySem.W renaming Frag→Qu,findIn→R8,kia_one→Se,keepIn→SH,Looks→TJ,InstAt→TM,fnOf→Ue,kitOne→U2,looks_findIn→U6,exmOne→U7,looks_clsIn→Wg,lookIn→Wv,callWith_K→Ww,codeIn→Wx,typeIn→WD,methodObj→WJ,hasDictIn→WM,specialIn→WN,kitx_list→WO,cellsFrom_some→XD,instObj→XV,looks_mroIn→Yo,mroIn→Yu,kitx_tuple→YH,check_slot→YN,kitx_dict→YZ,set_plain→Zd,handedIn→Zs,plainGet→Zt,any_some→Zw,takesIn→ZV,OpenLaw→ZX,exm_one→ZY,notCls→aad,kitAny→aae,WalkO→aam,clsIn→aao
open PySem.W.Looks renaming here→UK
open Rat renaming intCast_mul→RJ,le_refl→RM,mul_le_mul_of_nonneg_right→Sl,mul_lt_mul_of_pos_right→Tg,intCast_lt_intCast→To,mul_nonneg→Tp,le_of_lt→TK,intCast_natCast→UB,pow_succ→VQ,not_le→XU,intCast_inj→XX,intCast_add→XY,not_lt→YQ,pow_zero→Zq,div_def→ZS,mul_add→ZT
open Sum renaming inl→Ti,inr→Xu
open True renaming intro→UH
local macro_rules
 | `(Z)=>`(rfl)
local macro_rules
 |`(ω)=>`(by omega)
local macro_rules
 |`(δ)=>`(by decide)
local macro_rules
 |`(θ)=>`((by first|exact Q9 Z|exact Q7 Z))
local macro_rules
 |`(ν)=>`((by exact Z))
set_option hygiene false in
local macro_rules
 |`(χ)=>`((fun vs H Q E h => ?_))
set_option hygiene false in
local macro_rules
 |`(ψ)=>`((fun cdv A outer s H vs Q E hr h => ?_))
theorem DK:1≤UX:=δ
theorem ma:2≤UX:=δ
theorem FU:3≤UX:=δ
theorem ON:4≤UX:=δ
theorem OM:7≤UX:=δ
theorem OL:8≤UX:=δ
namespace L2
open PySem PySem.Spec PyProof.Rows
abbrev dB:=Sum Int Rr
def oG:dB->Value->Bool
 | .inl k,v=>Value.isInt k v
 | .inr x,v=>aal x v
def Ni(w:RF):dB->Int
 | .inl k=>hashInt k
 | .inr x=>hashStr w x
theorem cj:∀{k:dB} {v:Value},oG k v=true->(∃i t,k=Ti i/\v=Tv i t)∨(∃x t,k=Xu x/\v=Xc x t)
 | .inl i,v,h=>by
  obtain⟨t,e⟩:=Value.isInt_shape (k:=i) (v:=v) h;exact .inl ⟨i,t,Z,e⟩
 | .inr x,v,h=>by
  obtain⟨t,e⟩:=Value.isStrOf_shape (x:=x) (v:=v) h;exact .inr ⟨x,t,Z,e⟩
theorem yG(i:Int)(t:Tok):oG (.inl i) (.int i t)=true:=by simp[oG,Value.isInt]
theorem yE(x:Rr)(t:Tok):oG (.inr x) (.str x t)=true:=by simp[oG,aal]
theorem JE(a b:Int):decide ((Ti a:dB)=Ti b)=(a==b):=by
 by_cases e:a=b
 ·subst e;simp
 ·have h:¬(Ti a:dB)=Ti b:=λq=>e (Ti.inj q)
  rw[decide_eq_false h];exact(beq_eq_false_iff_ne.mpr e).symm
theorem JB(a b:Rr):decide ((Xu a:dB)=Xu b)=decide (a=b):=by
 by_cases e:a=b
 ·subst e;simp
 ·have h:¬(Xu a:dB)=Xu b:=λq=>e (Xu.inj q)
  rw[decide_eq_false h,decide_eq_false e]
theorem JD(a:Int)(b:Rr):decide ((Ti a:dB)=Xu b)=false:=decide_eq_false (λq=>nomatch q)
theorem JC(a:Rr)(b:Int):decide ((Xu a:dB)=Ti b)=false:=decide_eq_false (λq=>nomatch q)
def ci(prog:Rp)(w:RF):PySem.KeyKind prog w dB where
 is:=oG
 hash:=Ni w
 inj:=λv a b ha hb=>by
  rcases cj ha with⟨i,t,rfl,rfl⟩ | ⟨x,t,rfl,rfl⟩
  ·rcases cj hb with⟨j,u,rfl,e⟩ | ⟨y,u,rfl,e⟩
   ·injection e with e1 _;rw[e1]
   ·exact nomatch e
  ·rcases cj hb with⟨j,u,rfl,e⟩ | ⟨y,u,rfl,e⟩
   ·exact nomatch e
   ·injection e with e1 _;rw[e1]
 byValue:=λk v h=>by
  rcases cj h with⟨i,t,rfl,rfl⟩ | ⟨x,t,rfl,rfl⟩<;>rfl
 pyHash:=λhv h=>by
  rcases cj hv with⟨i,t,rfl,rfl⟩ | ⟨x,t,rfl,rfl⟩
  ·exact wpAny_pyHash_int h
  ·exact wpAny_pyHash_str h
 eqBool:=λhu hv h=>by
  rcases cj hu with⟨i,t,rfl,rfl⟩ | ⟨x,t,rfl,rfl⟩
  ·rcases cj hv with⟨j,u,rfl,rfl⟩ | ⟨y,u,rfl,rfl⟩
   ·rw[JE] at h;exact Xd h
   ·rw[JD] at h;exact YC i t y u _ _ _ _ h
  ·rcases cj hv with⟨j,u,rfl,rfl⟩ | ⟨y,u,rfl,rfl⟩
   ·rw[JC] at h;exact YD x t j u _ _ _ _ h
   ·rw[JB] at h;exact wpAny_eqBool_str h
 «strs»:=λk x t v h=>by
  rcases cj h with⟨i,u,rfl,e⟩ | ⟨y,u,rfl,e⟩
  ·exact nomatch e
  ·injection e with e1 _;subst e1
   cases v<;>rfl
theorem uh(prog:Rp)(w:RF)(i:Int)(t:Tok):(ci prog w).is (.inl i) (.int i t)=true:=yG i t
theorem ug(prog:Rp)(w:RF)(x:Rr)(t:Tok):(ci prog w).is (.inr x) (.str x t)=true:=yE x t
end L2
namespace L2
open PySem PySem.Spec PyProof.Rows
inductive V where
 |non|bl (b:Bool)|int (i:Int)|str (x:Rr)|byt (b:Array UInt8)|flt (b:UInt64)|ref (a:Addr)|ty (n:String)
 deriving DecidableEq
def br:V->Value->Prop
 | .non,u=>u=Tc
 | .bl b,u=>u=UY b
 | .int i,u=>∃t,u=Tv i t
 | .str x,u=>∃t,u=Xc x t
 | .byt b,u=>∃t,u=Value.bytes b t
 | .flt b,u=>∃t,u=ZJ b t
 | .ref a,u=>u=Rz a
 | .ty n,u=>u=Vv n
abbrev bu:List V->List Value->Prop:=Paired br
theorem bu.length(r:bu xs us):xs.length=us.length:=Paired.length r
theorem bu.get:∀{xs:List V} {us:List Value} {i:Nat} {x:V},bu xs us->xs[i]?=some x->∃u,us[i]?=some u/\br x u
 |_,_,_,_,.nil,e=>by simp at e
 |_,_,0,_,.cons r _,e=>by simp at e;subst e;exact⟨_,Z,r⟩
 |_,_,i+1,x,.cons _ t,e=>by
  obtain⟨u,h1,h2⟩:=bu.get (i:=i) (x:=x) t (by simpa using e);exact⟨u,by simpa using h1,h2⟩
theorem bu.set{x:V}{u:Value}(r:br x u):∀{xs:List V} {us:List Value} (i:Nat),bu xs us->bu (xs.set i x) (us.set i u)
 |_,_,_,.nil=>.nil
 |_,_,0,.cons _ t=>.cons r t
 |_,_,i+1,.cons q t=>.cons q (bu.set r i t)
theorem bu.append:∀{xs ys:List V} {us ws:List Value},bu xs us->bu ys ws->bu (xs++ys) (us++ws)
 |_,_,_,_,.nil,s=>s
 |_,_,_,_,.cons r t,s=>.cons r (bu.append t s)
theorem bu.take:∀{xs:List V} {us:List Value} (n:Nat),bu xs us->bu (xs.take n) (us.take n)
 |_,_,0,_=>.nil
 |_,_,_+1,.nil=>.nil
 |_,_,n+1,.cons r t=>.cons r (bu.take n t)
theorem bu.drop:∀{xs:List V} {us:List Value} (n:Nat),bu xs us->bu (xs.drop n) (us.drop n)
 |_,_,0,r=>r
 |_,_,_+1,.nil=>.nil
 |_,_,n+1,.cons _ t=>bu.drop n t
def io:Option V->Option Value->Prop
 |some v,some u=>br v u
 |none,none=>True
 |_,_=>False
def KV{κ:Type}:List (κ×V)->List (κ×Value)->Prop:=Paired λ(p:κ×V) (q:κ×Value)=>p.1=q.1/\br p.2 q.2
def kV:dB->V
 | .inl i=>.int i
 | .inr x=>.str x
inductive HO where
 |lst (xs:List V)
 |tup (xs:List V)
 |dK (kvs:List (dB×V))|dT (kvs:List (List dB×V))
 |set (S:Int->Bool) (n:Nat)
 |ins (C dx:Addr) (fs:List (Rr×V))
 |own (x:Addr)
 |xd (fs:List (Rr×V))
 |met (f x:Addr)
 |rng (lo hi:Int)
 |frz (o:Sv) (u:HO)
 |tbl (ps:Array Value)
 |ext (φ:QN->Prop)
abbrev Hp:=Addr->Option HO
def upd(H:Hp)(a:Addr)(o:HO):Hp:=λb=>if b=a then some o else H b
theorem ao:upd H a o a=some o:=by unfold upd;rw[if_pos Z]
theorem aJ(h:b≠a):upd H a o b=H b:=by unfold upd;rw[if_neg h]
theorem kq:upd (upd H a o) a u=upd H a u:=by
 funext b;unfold upd;split<;>rfl
theorem LD{H:Hp}{a b:Addr}{o u:HO}(h:H a=some o)(h':H b=some u)(d:o≠u):a≠b:=by
 intro e;subst e;rw[h] at h';exact d (R0 h')
theorem aX{H:Hp}{a b:Addr}{o:HO}(h:H a=some o)(h':H b=none):a≠b:=by
 intro e;subst e;rw[h] at h';cases h'
section
variable (P:Rp) (w:RF)
def ObjOk(H:Hp)(h:QN)(a:Addr):HO->Prop
 | .lst xs=>xs.length≤sizeLine/\∃(its:List Value) (n:Nat),bu xs its/\h.get? a=some { cls:=.type "list",data:=.seq its.toArray n}
 | .tup xs=>xs.length≤sizeLine/\∃its:List Value,bu xs its/\Ys h a its.toArray
 | .dK kvs=>kvs.length≤sizeLine/\(a==UG)=false/\∃vs,KV kvs vs/\h.DictOf (ci P w) a vs
 | .dT kvs=>kvs.length≤sizeLine/\(a==UG)=false/\∃xs:List (List dB×Addr×Value),
   Paired (λ(p:List dB×V) (q:List dB×Addr×Value)=>p.1=q.1/\H q.2.1=some (.tup (p.1.map kV))/\br p.2 q.2.2) kvs xs∧
   ∃o es ep,h.get? a=some o/\o.ExactDict/\o.data=.dict es ep/\es.toList=xs.map (entryOfKey (Xe (ci P w)))/\(xs.map (·.1)).Nodup
 | .set S n=>h.SetOf (intKind P w) a S n
 | .ins C dx fs=>H dx=some (.own a)/\fs.length≤1000/\dx≠a/\h.get? a=some (XV C dx)∧
   ∃mA,h.Ns1 dx mA/\(∀f,io (fs.lookup f) (mA f))/\YU mA (fs.map (·.1))
 | .own _=>∃o,h.get? a=some o
 | .xd fs=>∃mA,h.Ns1 a mA/\∀f,io (fs.lookup f) (mA f)
 | .rng lo hi=>∃t u v,h.get? a=some { cls:=.type "range",data:=.fields #[.int lo t,.int hi u,.int 1 v]}
 | .frz o u=>h.get? a=some o/\ObjOk H h a u
 | .tbl ps=>h.get? a=some { cls:=.none,data:=.fields ps}
 | .met f x=>h.get? a=some (WJ (.ref f) (.ref x))
 | .ext φ=>φ h/\(∃o,h.get? a=some o)/\∀h1 h2:QN,φ h1->(∀o,h1.get? a=some o->h2.get? a=some o)->φ h2
def jM(H:Hp)(h:QN):Prop:=∀a o,H a=some o->ObjOk P w H h a o
end
section
variable {P:Rp}{w:RF}{H H':Hp}{h h':QN}{a:Addr}{o:HO}
theorem ObjOk.lt(x:ObjOk P w H h a o):a<h.objs.size:=by
 cases o with
 |lst xs=>obtain⟨_,_,_,_,e⟩:=x;exact QY e
 |tup xs=>obtain⟨_,_,_,p⟩:=x;exact p.lt
 |dK kvs=>obtain⟨_,_,_,_,o,_,_,e,_⟩:=x;exact QY e
 |dT kvs=>obtain⟨_,_,_,_,o,_,_,e,_⟩:=x;exact QY e
 |set S n=>obtain⟨o,_,_,_,e,_⟩:=x;exact QY e
 |ins C dx fs=>obtain⟨_,_,_,e,_⟩:=x;exact QY e
 |own y=>obtain⟨_,e⟩:=x;exact QY e
 |xd fs=>obtain⟨_,⟨_,_,_,e,_⟩,_⟩:=x;exact QY e
 |rng lo hi=>obtain⟨_,_,_,e⟩:=x;exact QY e
 |frz ob u=>obtain⟨e,_⟩:=x;exact QY e
 |tbl ps=>exact QY (show h.get? a=some _ from x)
 |met f y=>exact QY (show h.get? a=some _ from x)
 |ext φ=>obtain⟨_,⟨_,e⟩,_⟩:=x;exact QY e
theorem Paired.mapP{α β:Type}{F G:α->β->Prop}:∀{l₁:List α} {l₂:List β},Paired F l₁ l₂->(∀a b,F a b->G a b)->Paired G l₁ l₂
 |_,_,.nil,_=>.nil
 |_,_,.cons r t,f=>.cons (f _ _ r) (Paired.mapP t f)
theorem ObjOk.stay(x:ObjOk P w H h a o)(k:∀b u,(b=a∨H b=some (.own a))->h.get? b=some u->h'.get? b=some u)
  (ho:∀b,H b=some (.own a)->H' b=some (.own a)) (ht:∀b xs,H b=some (.tup xs)->H' b=some (.tup xs)):ObjOk P w H' h' a o:=by
 induction o with
 |lst xs=>obtain⟨z,its,n,r,e⟩:=x;exact⟨z,its,n,r,k _ _ (.inl Z) e⟩
 |tup xs=>obtain⟨z,its,r,ob,e,c⟩:=x;exact⟨z,its,r,ob,k _ _ (.inl Z) e,c⟩
 |dK kvs=>obtain⟨z,y,vs,r,ob,es,ep,e,c⟩:=x;exact⟨z,y,vs,r,ob,es,ep,k _ _ (.inl Z) e,c⟩
 |dT kvs=>
  obtain⟨z,y,xs,r,ob,es,ep,e,c⟩:=x;exact⟨z,y,xs,Paired.mapP r λp q z=>⟨z.1,ht _ _ z.2.1,z.2.2⟩,ob,es,ep,k _ _ (.inl Z) e,c⟩
 |set S n=>obtain⟨ob,es,ep,t,e,c⟩:=x;exact⟨ob,es,ep,t,k _ _ (.inl Z) e,c⟩
 |ins C dx fs=>
  obtain⟨d,z,ne,e,mA,⟨od,es,ep,e2,c⟩,r⟩:=x;exact⟨ho _ d,z,ne,k _ _ (.inl Z) e,mA,⟨od,es,ep,k _ _ (.inr d) e2,c⟩,r⟩
 |own y=>obtain⟨ob,e⟩:=x;exact⟨ob,k _ _ (.inl Z) e⟩
 |xd fs=>obtain⟨mA,⟨od,es,ep,e,c⟩,r⟩:=x;exact⟨mA,⟨od,es,ep,k _ _ (.inl Z) e,c⟩,r⟩
 |rng lo hi=>obtain⟨t,u,v,e⟩:=x;exact⟨t,u,v,k _ _ (.inl Z) e⟩
 |frz ob u ih=>obtain⟨e,q⟩:=x;exact⟨k _ _ (.inl Z) e,ih q⟩
 |tbl ps=>
  have e:h.get? a=some { cls:=.none,data:=.fields ps}:=x;show h'.get? a=some { cls:=.none,data:=.fields ps};exact k a _ (.inl Z) e
 |met f y=>
  have e:h.get? a=some (WJ (.ref f) (.ref y)):=x;show h'.get? a=some (WJ (.ref f) (.ref y));exact k a _ (.inl Z) e
 |ext φ=>obtain⟨p,⟨o,e⟩,st⟩:=x;exact⟨st _ _ p λo q=>k _ _ (.inl Z) q,⟨o,k _ _ (.inl Z) e⟩,st⟩
theorem jM.lt(x:jM P w H h)(e:H a=some o):a<h.objs.size:=(x a o e).lt
theorem jM.fresh(x:jM P w H h)(e:h.objs.size≤a):H a=none:=by
 cases q:H a with
 |none=>rfl
 |some u=>exact absurd (Rc (x.lt q) e) (RY _)
theorem jM.kept(x:jM P w H h)(k:∀b u,h.get? b=some u->h'.get? b=some u):jM P w H h':=λa o e=>
 (x a o e).stay (λb u _ q=>k b u q) (λ_ q=>q) λ_ _ q=>q
theorem jM.laid(x:jM P w H h)(k:∀b u,h.get? b=some u->h'.get? b=some u)(hp:h.objs.size≤a)(new:ObjOk P w (upd H a o) h' a o):jM P w (upd H a o) h':=λb u e=>by
 have hn:=x.fresh hp;by_cases hb:b=a
 ·subst hb;rw[ao] at e;cases e;exact new
 ·rw[aJ hb] at e;exact(x b u e).stay (λc v _ q=>k c v q) (λc q=>by rw[aJ (aX q hn)];exact q) λc xs q=>by rw[aJ (aX q hn)];exact q
end
def Rd(H:Hp)(a:Addr)(u:HO):Prop:=H a=some u∨∃o,H a=some (.frz o u)
theorem Rd.ok(r:Rd H a u)(x:jM P w H h):ObjOk P w H h a u:=by
 rcases r with r | ⟨o,r⟩
 ·exact x a u r
 ·obtain⟨_,q⟩:=x a _ r;exact q
def L7:Option HO->Prop
 |some (.lst _)=>True
 |some (.dK _)=>True
 |some (.dT _)=>True
 |some (.set _ _)=>True
 |some (.ins _ _ _)=>True
 |some (.ext _)=>True
 |_=>False
section
variable {P:Rp}{w:RF}{H:Hp}{h h':QN}{x e:Addr}{o':HO}
theorem jM.write(ok:jM P w H h)(mu:L7 (H x))(he:e=x∨H e=some (.own x))(k:∀b u,b≠e->h.get? b=some u->h'.get? b=some u)(heo:∃u,h'.get? e=some u)
  (new:ObjOk P w (upd H x o') h' x o'):jM P w (upd H x o') h':=λb u q=>by
 have nown:∀c y,H c=some (.own y)->c≠x:=λc y r z=>by subst z;rw[r] at mu;exact mu
 have ntup:∀c xs,H c=some (.tup xs)->c≠x:=λc xs r z=>by subst z;rw[r] at mu;exact mu
 by_cases hb:b=x
 ·subst hb;rw[ao] at q;cases q;exact new
 ·rw[aJ hb] at q;by_cases hbe:b=e
  ·have q':H b=some (.own x):=by
    rcases he with z|z
    ·exact absurd (hbe.trans z) hb
    ·rw[hbe];exact z
   rw[q] at q';cases q';obtain⟨v,hv⟩:=heo;exact⟨v,by rw[hbe];exact hv⟩
  ·refine(ok b u q).stay (λc v hc r=>k c v ?_ r) (λc r=>by rw[aJ (nown c b r)];exact r) λc xs r=>by rw[aJ (ntup c xs r)];exact r
   rcases hc with rfl|hc
   ·exact hbe
   ·rintro rfl;rcases he with z|z
    ·exact nown c b hc z
    ·rw[hc] at z;cases z;exact hb Z
end
structure Un(fs ex:List Addr)(H H':Hp)(h h':QN):Prop where
 keep:∀b o,h.get? b=some o->H b=none->b∉fs->b∉ex->h'.get? b=some o
 slot:∀b o,h.get? b=some o->H b=none->b∈fs->b∉ex->∃sl,h'.get? b=some { o with slots:=sl}
 free:∀b o,h.get? b=some o->H b=none->b∉ex->H' b=none
 there:∀b o,h.get? b=some o->b∉ex->∃o',h'.get? b=some o'
 tups:∀b xs,H b=some (.tup xs)->H' b=some (.tup xs)
 frzs:∀b o u,H b=some (.frz o u)->H' b=some (.frz o u)
 tbls:∀b ps,H b=some (.tbl ps)->∃more,H' b=some (.tbl (ps++more))
section
variable {fs fs' ex ex':List Addr}{H H1 H2:Hp}{h h1 h2 h':QN}{a x e:Addr}{o:HO}
theorem Un.any(u:Un fs ex H H1 h h1)(q:h.get? b=some ob)(n:H b=none)(hx:b∉ex):∃sl,h1.get? b=some { ob with slots:=sl}:=by
 by_cases hb:b∈fs
 ·exact u.slot b ob q n hb hx
 ·exact⟨ob.slots,u.keep b ob q n hb hx⟩
theorem Un.kept(k:∀b u,h.get? b=some u->h'.get? b=some u):Un fs ex H H h h':=
 ⟨λb ob q _ _ _=>k b ob q,λb ob q _ _ _=>⟨ob.slots,k b ob q⟩,λ_ _ _ n _=>n,λb ob q _=>⟨ob,k b ob q⟩,λ_ _ q=>q,λ_ _ _ q=>q,λ_ ps q=>⟨#[],by rw[q];simp⟩⟩
theorem Un.refl:Un fs ex H H h h:=Un.kept λ_ _ q=>q
theorem Un.laid(k:∀b u,h.get? b=some u->h'.get? b=some u)(hp:h.objs.size≤a)(hn:H a=none):Un fs ex H (upd H a o) h h' where
 keep:=λb u q _ _ _=>k b u q
 slot:=λb u q _ _ _=>⟨u.slots,k b u q⟩
 free:=λb u q n _=>by rw[aJ (RQ (Rc (QY q) hp))];exact n
 there:=λb u q _=>⟨u,k b u q⟩
 tups:=λb xs q=>by rw[aJ (aX q hn)];exact q
 frzs:=λb u xs q=>by rw[aJ (aX q hn)];exact q
 tbls:=λb ps q=>⟨#[],by rw[aJ (aX q hn),q];simp⟩
theorem Un.write(mu:L7 (H x))(he:e=x∨H e=some (.own x))(k:∀b u,b≠e->h.get? b=some u->h'.get? b=some u)(heo:∃u,h'.get? e=some u):Un fs ex H (upd H x o) h h':=by
 have hx:∀b,H b=none->b≠x:=λb n z=>by subst z;rw[n] at mu;exact mu
 have hb:∀b,H b=none->b≠e:=λb n z=>by
  subst z;rcases he with r|r
  ·exact hx b n r
  ·rw[n] at r;cases r
 have hm:∀b u,H b=some u->¬L7 (some u)->b≠x:=λb u q nm z=>by subst z;rw[q] at mu;exact nm mu
 refine⟨λb u q n _ _=>k b u (hb b n) q,λb u q n _ _=>⟨u.slots,k b u (hb b n) q⟩,λb u q n _=>by rw[aJ (hx b n)];exact n,λb u q _=>?_,
  λb xs q=>by rw[aJ (hm b _ q λz=>z)];exact q,λb u xs q=>by rw[aJ (hm b _ q λz=>z)];exact q,λb ps q=>⟨#[],by rw[aJ (hm b _ q λz=>z),q];simp⟩⟩
 by_cases hbe:b=e
 ·subst hbe;exact heo
 ·exact⟨u,k b u hbe q⟩
end
def GC(h:QN)(H:Hp):List Addr:=(Qv h.objs.size).filter λa=>(H a).isSome
def rV(h:QN)(H:Hp):QN:=PySem.W.hideAll h (GC h H)
theorem yN(h:QN)(H:Hp):(rV h H).objs.size=h.objs.size:=PySem.W.hideAll_size _ _
theorem CZ(e:h.get? b=some o)(n:H b=none):(rV h H).get? b=some o:=
 PySem.W.hideAll_get _ e λhm=>by
  have q:(H b).isSome=true:=(Q3.mp hm).2;rw[n] at q;simp at q
theorem EV(e:(rV h H).get? b=some o):h.get? b=some o/\H b=none:=by
 have e':h.get? b=some o:=PySem.W.of_hideAll (GC h H) e;refine⟨e',?_⟩
 cases q:H b with
 |none=>rfl
 |some x=>
  have hm:b∈GC h H:=Q3.mpr ⟨QH.mpr (QY e'),by simp[q]⟩;have z:(rV h H).get? b=none:=PySem.W.hideAll_none (GC h H) hm;rw[z] at e;cases e
def FG(g h:QN)(L:Addr):List (Addr×Sv):=(Qv h.objs.size).filterMap λa=>if a=L∨(g.get? a).isSome=true then none else(h.get? a).map λo=>(a,o)
def cF(g h:QN)(L d:Addr):List (Addr×Sv):=(FG g h L).filter λp=>decide (p.1≠d)
end L2
namespace L2
open PySem PySem.Spec PyProof.Rows
structure Mod(K:Qu)(mg:Rr->Option Value)(base:QN):Prop where
 kin:K.In base
 glob:base.Ns Rg mg
 blt:∃mb,base.Ns Z3 mb/\∀x:Rr,x ≠ "__name__"->mb x=SX x
 nolimit:base.NoLimit
structure Cx where
 prog:Rp
 w:RF
 K:Qu
 mg:Rr->Option Value
 base:QN
 A:Rw
 N:List Rr
 s₀:QD
 H₀:Hp
 env:ZU
 outer:List ZU
 stack:List ZU
 ex:List Addr
 fn:Rr->Bool
 calm:Bool
 pn:List (Addr×Sv)
 xe:Value->QD->Prop
def ph(l:List ZU):List Addr:=l.filterMap (·.frame)
abbrev Cx.fs(X:Cx):List Addr:=ph X.outer
def LX(sc:UZ)(x:Rr):Prop:=sc.names.lookup x=some .local∨sc.names.lookup x=some .cell∨sc.names.lookup x=some .free
def zy(sc:UZ)(x:Rr):Prop:=sc.names.lookup x=some .local∨sc.names.lookup x=some .cell
def ND(env:ZU)(h:QN)(m:Rr->Option Value)(x:Rr)(u:Value):Prop:=
 (env.kindOf x=some .local/\m x=some u)∨((env.kindOf x=some .cell∨env.kindOf x=some .free)/\∃c,env.cells.lookup x=some c/\h.IsCell c (some u))
structure Cx.Ok(X:Cx):Prop where
 mod:Mod X.K X.mg X.base
 kind:X.env.scope.kind=.function
 glob:X.env.globals=Rg
 blt:X.env.builtins=Z3
 above:X.s₀.heap.objs.size≤X.env.locals
 inj:∀x y c,X.env.cells.lookup x=some c->X.env.cells.lookup y=some c->x=y
 has:∀x,(X.env.kindOf x=some .cell∨X.env.kindOf x=some .free)->∃c,X.env.cells.lookup x=some c
 cab:∀x c,X.fn x=true->X.env.cells.lookup x=some c->X.s₀.heap.objs.size≤c
 hd:X.calm=true->X.A.handled=none
 frames:X.A.frames=some X.stack
 stk:X.stack=X.outer∨(X.stack=X.env::X.outer/\X.env.frame=some X.env.locals)
 exf:∀b∈X.ex,b≠X.env.locals/\∀x c,X.env.cells.lookup x=some c->c≠b
 bs:∀b o,X.base.get? b=some o->X.s₀.heap.get? b=some o/\X.H₀ b=none
 bsz:X.base.objs.size≤X.s₀.heap.objs.size
 noex:∀b o,X.base.get? b=some o->b∉X.ex
 exfs:∀b∈X.ex,b∉X.fs
 funs:X.s₀.heap.FunFrames X.base X.outer
 frf:∀b∈X.fs,X.H₀ b=none
structure Inv(X:Cx)(pins:List (Addr×Sv))(σ:List (Option V))(H:Hp)(s:QD):Prop where
 ok:X.Ok
 os:s.os=X.s₀.os
 bare:V0 s.gens
 base:Un X.fs X.ex X.H₀ H X.s₀.heap s.heap
 loc:∃m,s.heap.Ns X.env.locals m/\∀(i:Nat) (x:Rr) (v:V),X.N[i]?=some x->σ[i]?=some (some v)->LX X.env.scope x->∃u,br v u/\ND X.env s.heap m x u
 cell:∀x c,X.env.cells.lookup x=some c->∃v,s.heap.IsCell c v
 free:H X.env.locals=none
 freeC:∀x c,X.env.cells.lookup x=some c->H c=none
 pin:∀p∈X.pn++pins,s.heap.get? p.1=some p.2/\H p.1=none/\p.1≠X.env.locals/\p.1∉X.fs/\∀v,p.2.data≠.cell v
 hok:jM X.prog X.w H s.heap
 len:σ.length=X.N.length
section
variable {X:Cx}{pins:List (Addr×Sv)}{σ:List (Option V)}{H H':Hp}{s:QD}{h':QN}
theorem Cx.Ok.nofr(ok:X.Ok)(e:X.base.get? b=some o):b∉X.fs:=λhb=>by
 have:=(ok.funs.mem hb).1;rw[e] at this;cases this
theorem Inv.bs(I:Inv X pins σ H s):∀b o,X.base.get? b=some o->s.heap.get? b=some o/\H b=none:=λb o e=>
 ⟨I.base.keep b o (I.ok.bs b o e).1 (I.ok.bs b o e).2 (I.ok.nofr e) (I.ok.noex b o e),I.base.free b o (I.ok.bs b o e).1 (I.ok.bs b o e).2 (I.ok.noex b o e)⟩
theorem Inv.bk(I:Inv X pins σ H s):∀b o,X.base.get? b=some o->s.heap.get? b=some o:=λb o e=>(I.bs b o e).1
theorem Inv.mod(I:Inv X pins σ H s):Mod X.K X.mg X.base:=I.ok.mod
theorem Inv.kIn(I:Inv X pins σ H s):X.K.In s.heap:=I.ok.mod.kin.keeps I.bk
theorem Inv.lt(I:Inv X pins σ H s):X.env.locals<s.heap.objs.size:=let ⟨_,hn,_⟩:=I.loc;hn.lt
theorem Inv.sz(I:Inv X pins σ H s):X.s₀.heap.objs.size≤s.heap.objs.size:=Rm I.ok.above (Ss I.lt)
theorem Inv.nofs(I:Inv X pins σ H s){a:Addr}(h:s.heap.objs.size≤a):a∉X.fs:=λhb=>by
 obtain⟨_,o,ho,_⟩:=I.ok.funs.mem hb;exact absurd (Rc (QY ho) (Rm I.sz h)) (RY _)
theorem Inv.cne(I:Inv X pins σ H s):∀x c,X.env.cells.lookup x=some c->c≠X.env.locals:=λx c e z=>by
 obtain⟨v,o,ho,hd⟩:=I.cell x c e;obtain⟨m,⟨o',es,ep,ho',hd',_⟩,_⟩:=I.loc;rw[z,ho'] at ho;cases ho;rw[hd'] at hd;cases hd
theorem Inv.funs(I:Inv X pins σ H s):s.heap.FunFrames X.base X.outer:=by
 have all:∀(l:List ZU),(∀b∈ph l,b∈X.fs)->X.s₀.heap.FunFrames X.base l->s.heap.FunFrames X.base l:=by
  intro l
  induction l with
  |nil=>intro _ _;trivial
  |cons env r ih=>
   intro hs hl;obtain⟨hk,⟨L,o,hf,hn,ho,hd⟩,hr⟩:=hl;have hL:L∈X.fs:=hs L (by unfold ph;rw[We,hf];exact QL);obtain⟨sl,e⟩:=I.base.slot L o ho (I.ok.frf L hL) hL λz=>I.ok.exfs L z hL
   exact⟨hk,⟨L,_,hf,hn,e,hd⟩,ih (λb hb=>hs b (by unfold ph;rw[We,hf];exact QP _ hb)) hr⟩
 exact all X.outer (λ_ hb=>hb) I.ok.funs
theorem Inv.stack(I:Inv X pins σ H s):s.heap.FunFrames X.base X.stack:=by
 rcases I.ok.stk with e | ⟨e,hf⟩
 ·rw[e];exact I.funs
 ·rw[e];obtain⟨m,hn,_⟩:=I.loc;refine .cons (by rw[I.ok.kind];decide) hf hn ?_ I.funs;exact Td (Rm I.ok.bsz I.ok.above)
theorem Inv.stkSub(I:Inv X pins σ H s):∀b∈ph X.stack,b∈X.env.locals::X.fs:=λb hb=>by
 rcases I.ok.stk with e | ⟨e,hf⟩
 ·rw[e] at hb;exact QP _ hb
 ·rw[e] at hb;unfold ph at hb;rw[We,hf] at hb;exact hb
theorem Inv.stkFree(I:Inv X pins σ H s):∀b∈ph X.stack,H b=none:=λb hb=>by
 rcases QR.mp (I.stkSub b hb) with e|hb
 ·rw[e];exact I.free
 ·obtain⟨_,o,ho,_⟩:=I.ok.funs.mem hb;exact I.base.free b o ho (I.ok.frf b hb) λz=>I.ok.exfs b z hb
theorem Inv.step{ch:List Addr}(I:Inv X pins σ H s)
  (hch:∀b∈ch,(b∈X.ex∨X.s₀.heap.get? b=none)/\b≠X.env.locals/\(∀x c,X.env.cells.lookup x=some c->c≠b)/\∀p∈X.pn++pins,p.1≠b)
  (keep:∀b o,b≠X.env.locals->b∉X.fs->b∉ch->s.heap.get? b=some o->H b=none->h'.get? b=some o)
  (slot:∀b o,b≠X.env.locals->b∈X.fs->b∉ch->s.heap.get? b=some o->H b=none->∃sl,h'.get? b=some { o with slots:=sl}) (free:∀b o,b∉ch->s.heap.get? b=some o->H b=none->H' b=none)
  (there:∀b o,b∉ch->s.heap.get? b=some o->∃o',h'.get? b=some o')
  (tups:∀b xs,H b=some (.tup xs)->H' b=some (.tup xs)) (frzs:∀b o u,H b=some (.frz o u)->H' b=some (.frz o u)) (tbls:∀b ps,H b=some (.tbl ps)->∃more,H' b=some (.tbl (ps++more)))
  (ns:∀m,s.heap.Ns X.env.locals m->h'.Ns X.env.locals m) (hok:jM X.prog X.w H' h') (hg:V0 g'):
  Inv X pins σ H' { s with heap:=h',gens:=g',drawn:=d',toks:=t'}:=by
 have neL:∀b o,X.s₀.heap.get? b=some o->b≠X.env.locals:=λb o e=>RQ (Rc (QY e) I.ok.above)
 have neC:∀b o,X.s₀.heap.get? b=some o->b∉X.ex->b∉ch:=λb o e hx hb=>by
  rcases(hch b hb).1 with z|z
  ·exact hx z
  ·rw[e] at z;cases z
 have cellK:∀x c,X.env.cells.lookup x=some c->∀v,s.heap.IsCell c v->h'.IsCell c v:=λx c e v ⟨o,ho,hd⟩=>by
  have nch:c∉ch:=λz=>(hch c z).2.2.1 x c e Z
  by_cases hc:c∈X.fs
  ·obtain⟨sl,q⟩:=slot c o (I.cne x c e) hc nch ho (I.freeC x c e);exact⟨_,q,hd⟩
  ·exact⟨o,keep c o (I.cne x c e) hc nch ho (I.freeC x c e),hd⟩
 refine⟨I.ok,I.os,hg,⟨λb o e n hb hx=>?_,λb o e n hb hx=>?_,λb o e n hx=>?_,λb o e hx=>?_,λb xs e=>tups b xs (I.base.tups b xs e),λb o xs e=>frzs b o xs (I.base.frzs b o xs e),λb ps e=>?_⟩,?_,λx c e=>?_,?_,λx c e=>?_,λp hp=>?_,hok,I.len⟩
 ·exact keep b o (neL b o e) hb (neC b o e hx) (I.base.keep b o e n hb hx) (I.base.free b o e n hx)
 ·obtain⟨sl,e1⟩:=I.base.slot b o e n hb hx;obtain⟨sl',e2⟩:=slot b _ (neL b o e) hb (neC b o e hx) e1 (I.base.free b o e n hx);exact⟨sl',e2⟩
 ·obtain⟨o',e1⟩:=I.base.there b o e hx;exact free b o' (neC b o e hx) e1 (I.base.free b o e n hx)
 ·obtain⟨o',e1⟩:=I.base.there b o e hx;exact there b o' (neC b o e hx) e1
 ·obtain⟨m1,e1⟩:=I.base.tbls b ps e;obtain⟨m2,e2⟩:=tbls b _ e1;exact⟨m1++m2,by rw[e2,Array.append_assoc]⟩
 ·obtain⟨m,hn,hl⟩:=I.loc;refine⟨m,ns m hn,λi x v e1 e2 e3=>?_⟩;obtain⟨u,r,l⟩:=hl i x v e1 e2 e3;refine⟨u,r,?_⟩;rcases l with l | ⟨k,c,e,z⟩
  ·exact .inl l
  ·exact .inr ⟨k,c,e,cellK x c e _ z⟩
 ·obtain⟨v,z⟩:=I.cell x c e;exact⟨v,cellK x c e v z⟩
 ·obtain⟨m,⟨o,_,_,ho,_⟩,_⟩:=I.loc;exact free _ o (λz=>(hch _ z).2.1 Z) ho I.free
 ·obtain⟨v,o,ho,hd⟩:=I.cell x c e;exact free c o (λz=>(hch c z).2.2.1 x c e Z) ho (I.freeC x c e)
 ·obtain⟨e,n,ne,nf,d⟩:=I.pin p hp;have nch:p.1∉ch:=λz=>(hch p.1 z).2.2.2 p hp Z
  exact⟨keep p.1 p.2 ne nf nch e n,free p.1 p.2 nch e n,ne,nf,d⟩
theorem Inv.un(I:Inv X pins σ H s)(u:Un X.fs [] H H' s.heap h')(hok:jM X.prog X.w H' h'):Inv X pins σ H' { s with heap:=h',toks:=t'}:=by
 obtain⟨m,⟨o,es,ep,ho,r⟩,_⟩:=id I.loc;obtain⟨sl,hL⟩:=u.any ho I.free (by simp);exact I.step (g':=s.gens) (d':=s.drawn) (ch:=[]) (λ_ z=>nomatch z) (λb o _ hb _ e n=>u.keep b o e n hb (by simp)) (λb o _ hb _ e n=>u.slot b o e n hb (by simp)) (λb o _ e n=>u.free b o e n (by simp)) (λb o _ e=>u.there b o e (by simp)) u.tups u.frzs u.tbls (λm' hm=>by
  obtain⟨o',es',ep',ho',r'⟩:=hm;rw[ho] at ho';cases ho';exact⟨_,es',ep',hL,r'⟩) hok I.bare
theorem Inv.call(I:Inv X pins σ H s)(u:Un (ph X.stack) ch H H' s.heap h')(hok:jM X.prog X.w H' h')(hg:V0 g')
  (hch:∀b∈ch,(b∈X.ex∨X.s₀.heap.get? b=none)/\b≠X.env.locals/\(∀x c,X.env.cells.lookup x=some c->c≠b)/\∀p∈X.pn++pins,p.1≠b):
  Inv X pins σ H' { s with heap:=h',gens:=g',drawn:=d',toks:=t'}:=by
 obtain⟨m,⟨o,es,ep,ho,r⟩,_⟩:=id I.loc;obtain⟨sl,hL⟩:=u.any ho I.free λz=>(hch _ z).2.1 Z
 exact I.step (ch:=ch) hch (λb o hL hb hc e n=>u.keep b o e n (λz=>(QR.mp (I.stkSub b z)).elim hL hb) hc) (λb o _ _ hc e n=>u.any e n hc) (λb o hc e n=>u.free b o e n hc) (λb o hc e=>u.there b o e hc) u.tups u.frzs u.tbls (λm' hm=>by
  obtain⟨o',es',ep',ho',r'⟩:=hm;rw[ho] at ho';cases ho';exact⟨_,es',ep',hL,r'⟩) hok hg
theorem Inv.turned(I:Inv X pins σ H s)(k:∀b o,b≠it->s.heap.get? b=some o->h'.get? b=some o)(hn:H it=none)(hL:it≠X.env.locals)
  (h1:it∈X.ex∨X.s₀.heap.get? it=none) (h2:∀x c,X.env.cells.lookup x=some c->c≠it) (h3:∀p∈X.pn++pins,p.1≠it):Inv X pins σ H { s with heap:=h',toks:=t'}:=by
 have nit:∀b u,H b=some u->b≠it:=λb u e z=>by rw[z,hn] at e;cases e
 refine I.step (g':=s.gens) (d':=s.drawn) (ch:=[it]) (λb hb=>?_) (λb o _ _ hc e _=>k b o (λz=>hc (by simp[z])) e) (λb o _ _ hc e _=>⟨o.slots,k b o (λz=>hc (by simp[z])) e⟩) (λ_ _ _ _ n=>n)
  (λb o hc e=>⟨o,k b o (λz=>hc (by simp[z])) e⟩) (λ_ _ e=>e) (λ_ _ _ e=>e) (λb ps e=>⟨#[],by rw[e];simp⟩) (λm hm=>?_) (λb u e=>?_) I.bare
 ·have e:b=it:=by simpa using hb
  subst e;exact⟨h1,hL,h2,h3⟩
 ·obtain⟨o,es,ep,ho,r⟩:=hm;exact⟨o,es,ep,k _ o (Tt hL) ho,r⟩
 ·refine(I.hok b u e).stay (λc v hc q=>k c v ?_ q) (λ_ q=>q) λ_ _ q=>q
  rcases hc with z|z
  ·rw[z];exact nit b u e
  ·exact nit c _ z
theorem Inv.tok(I:Inv X pins σ H s)(t:Nat):Inv X pins σ H { s with toks:=t}:=I.un (h':=s.heap) (t':=t) Un.refl I.hok
theorem Inv.kept(I:Inv X pins σ H s)(k:∀b u,s.heap.get? b=some u->h'.get? b=some u):Inv X pins σ H { s with heap:=h',toks:=t'}:=I.un (Un.kept k) (I.hok.kept k)
theorem Inv.laid{a:Addr}{o:HO}{t':Nat}(I:Inv X pins σ H s)(k:∀b u,s.heap.get? b=some u->h'.get? b=some u)(hp:s.heap.objs.size≤a)(new:ObjOk X.prog X.w (upd H a o) h' a o) :
  Inv X pins σ (upd H a o) { s with heap:=h',toks:=t'}:=I.un (Un.laid k hp (I.hok.fresh hp)) (I.hok.laid k hp new)
theorem Inv.write(I:Inv X pins σ H s)(mu:L7 (H x))(he:e=x∨H e=some (.own x))(k:∀b u,b≠e->s.heap.get? b=some u->h'.get? b=some u)(heo:∃u,h'.get? e=some u)
  (new:ObjOk X.prog X.w (upd H x o) h' x o):Inv X pins σ (upd H x o) { s with heap:=h',toks:=t'}:=I.un (Un.write mu he k heo) (I.hok.write mu he k heo new)
theorem Inv.weak(I:Inv X pins σ H s)(hl:σ'.length=σ.length)(w:∀(i:Nat) v,σ'[i]?=some (some v)->σ[i]?=some (some v)):Inv X pins σ' H s:=
 ⟨I.ok,I.os,I.bare,I.base,let ⟨m,hn,hl'⟩:=I.loc;⟨m,hn,λi x v e1 e2 e3=>hl' i x v e1 (w i v e2) e3⟩,I.cell,I.free,I.freeC,I.pin,I.hok,hl.trans I.len⟩
theorem Inv.pins_of(I:Inv X pins σ H s)(h:∀p∈pins',s.heap.get? p.1=some p.2/\H p.1=none/\p.1≠X.env.locals/\p.1∉X.fs/\∀v,p.2.data≠.cell v):Inv X pins' σ H s:=
 ⟨I.ok,I.os,I.bare,I.base,I.loc,I.cell,I.free,I.freeC,λp hp=>(Q6.mp hp).elim (λz=>I.pin p (Rt _ z)) (h p),I.hok,I.len⟩
theorem oA{N:List Rr}(hN:N.Nodup){i j:Nat}(a:N[i]?=some x)(b:N[j]?=some x):i=j:=by
 obtain⟨h1,e1⟩:=QM.mp a;obtain⟨h2,e2⟩:=QM.mp b;exact(List.getElem_inj hN).mp (e1.trans e2.symm)
theorem xX{M:Model}{A:Rw}{E:Value->QD->Prop}{i:Nat}{x:Rr}{v:V}{u:Value}{Q:Unit->QD->Prop}(I:Inv X pins σ H s)(hN:X.N.Nodup)(hi:X.N[i]?=some x)(hx:zy X.env.scope x)(r:br v u)
  (h:∀s',Inv X pins (σ.set i (some v)) H s'->(∃a,Ub a s.heap s'.heap/\(a=X.env.locals∨X.env.cells.lookup x=some a))->Q () s') (hf:X.fn x=true∨X.env.scope.names.lookup x=some .local:=by first|exact .inl Z|exact .inr Z|assumption):Q0 M A (storeName X.env x u) Q E s:=by
 obtain⟨m,hn,hl⟩:=id I.loc;have hcls:(X.env.scope.kind==.class||(X.env.scope.kind==.module&&X.env.locals != X.env.globals))=false:=by rw[I.ok.kind];rfl
 have hiσ:i<σ.length:=by rw[I.len];exact(QM.mp hi).1
 have cne:=I.cne;have tracked:∀{a:Addr} {h':QN},(∃o,s.heap.get? a=some o/\H a=none)->Ub a s.heap h'->jM X.prog X.w H h':=λ{a h'} ha hs b ob e=>by
  obtain⟨_,_,hfree⟩:=ha;refine(I.hok b ob e).stay (λc w' hc q=>(hs.2 c ?_).trans q) (λ_ q=>q) λ_ _ q=>q
  rintro rfl;rcases hc with rfl|hc
  ·rw[hfree] at e;cases e
  ·rw[hfree] at hc;cases hc
 rcases hx with hk|hk
 ·refine wpAny_storeName_local hk hn (λh' hn' hs=>?_) hcls;obtain⟨oL,_,_,hoL,_⟩:=id hn;refine h _ ⟨I.ok,I.os,I.bare,⟨λb o e n hb hx=>?_,λb o e n hb hx=>?_,I.base.free,λb o e hx=>?_,I.base.tups,I.base.frzs,I.base.tbls⟩,⟨_,hn',λj y v' e1 e2 e3=>?_⟩,λy c e=>?_,I.free,I.freeC,λp hp=>?_,tracked ⟨oL,hoL,I.free⟩ hs,by simpa using I.len⟩ ⟨_,hs,.inl Z⟩
  ·exact(hs.2 b (RQ (Rc (QY e) I.ok.above))).trans (I.base.keep b o e n hb hx)
  ·obtain⟨sl,e1⟩:=I.base.slot b o e n hb hx;exact⟨sl,(hs.2 b (RQ (Rc (QY e) I.ok.above))).trans e1⟩
  ·obtain⟨o',e1⟩:=I.base.there b o e hx;exact⟨o',(hs.2 b (RQ (Rc (QY e) I.ok.above))).trans e1⟩
  ·by_cases hj:j=i
   ·subst hj;rw[hi] at e1;cases e1;rw[Uc hiσ] at e2
    cases e2
    exact⟨u,r,.inl ⟨hk,by simp⟩⟩
   ·rw[SG (Tt hj)] at e2;obtain⟨u',r',q⟩:=hl j y v' e1 e2 e3;refine⟨u',r',?_⟩;rcases q with⟨k,e⟩ | ⟨k,c,e,z⟩
    ·refine .inl ⟨k,?_⟩;have:y≠x:=λe=>hj (oA hN e1 (e▸hi))
     simp[this,e]
    ·exact .inr ⟨k,c,e,z.sameBut hs (cne y c e)⟩
  ·obtain⟨w',z⟩:=I.cell y c e;exact⟨w',z.sameBut hs (cne y c e)⟩
  ·obtain⟨e,n,ne,nf,d⟩:=I.pin p hp;exact⟨(hs.2 p.1 ne).trans e,n,ne,nf,d⟩
 ·have hfn:X.fn x=true:=by
   rcases hf with z|z
   ·exact z
   ·rw[z] at hk;cases hk
  obtain⟨c,hc⟩:=I.ok.has x (.inl hk);obtain⟨w',z⟩:=I.cell x c hc;refine wpAny_storeName_cell I.ok.kind hk hc z (λh' hc' hs=>?_);obtain⟨oc,hoc,hocd⟩:=id z;refine h { s with heap:=h'} ⟨I.ok,I.os,I.bare,⟨λb o e n hb hx=>?_,λb o e n hb hx=>?_,I.base.free,λb o e hx=>?_,I.base.tups,I.base.frzs,I.base.tbls⟩,⟨m,hn.sameBut hs (Tt (cne x c hc)),λj y v' e1 e2 e3=>?_⟩,λy c' e=>?_,I.free,I.freeC,λp hp=>?_,tracked ⟨oc,hoc,I.freeC x c hc⟩ hs,by simpa using I.len⟩ ⟨c,hs,.inr hc⟩
  ·exact(hs.2 b (RQ (Rc (QY e) (I.ok.cab x c hfn hc)))).trans (I.base.keep b o e n hb hx)
  ·obtain⟨sl,e1⟩:=I.base.slot b o e n hb hx;exact⟨sl,(hs.2 b (RQ (Rc (QY e) (I.ok.cab x c hfn hc)))).trans e1⟩
  ·obtain⟨o',e1⟩:=I.base.there b o e hx;exact⟨o',(hs.2 b (RQ (Rc (QY e) (I.ok.cab x c hfn hc)))).trans e1⟩
  ·by_cases hj:j=i
   ·subst hj;rw[hi] at e1;cases e1;rw[Uc hiσ] at e2
    cases e2
    exact⟨u,r,.inr ⟨.inl hk,c,hc,hc'⟩⟩
   ·rw[SG (Tt hj)] at e2;obtain⟨u',r',q⟩:=hl j y v' e1 e2 e3;refine⟨u',r',?_⟩;rcases q with q | ⟨k,c',e,z'⟩
    ·exact .inl q
    ·refine .inr ⟨k,c',e,z'.sameBut hs ?_⟩;rintro rfl;exact hj (oA hN e1 (I.ok.inj _ _ _ e hc▸hi))
  ·by_cases hcc:c'=c
   ·subst hcc;exact⟨_,hc'⟩
   ·obtain⟨w2,z2⟩:=I.cell y c' e;exact⟨w2,z2.sameBut hs hcc⟩
  ·obtain⟨e,n,ne,nf,d⟩:=I.pin p hp;refine⟨(hs.2 p.1 ?_).trans e,n,ne,nf,d⟩;intro q;rw[q,hoc] at e;have q':oc=p.2:=R0 e;exact d w' (by rw[←q'];exact hocd)
theorem fR{M:Model}{A:Rw}{E:Value->QD->Prop}{i:Nat}{x:Rr}{v:V}{u:Value}{Q:Unit->QD->Prop}(I:Inv X pins σ H s)(hN:X.N.Nodup)(hi:X.N[i]?=some x)(hx:zy X.env.scope x)(r:br v u)
  (h:∀s',Inv X pins (σ.set i (some v)) H s'->Q () s') (hf:X.fn x=true∨X.env.scope.names.lookup x=some .local:=by first|exact .inl Z|exact .inr Z|assumption):Q0 M A (storeName X.env x u) Q E s:=
 xX I hN hi hx r (λs' I' _=>h s' I') hf
theorem Inv.call'(I:Inv X pins σ H s)(ho:s'.os=s.os)(u:Un (ph X.stack) ch H H' s.heap s'.heap)(hok:jM X.prog X.w H' s'.heap)(hg:V0 s'.gens)
  (hch:∀b∈ch,(b∈X.ex∨X.s₀.heap.get? b=none)/\b≠X.env.locals/\(∀x c,X.env.cells.lookup x=some c->c≠b)/\∀p∈X.pn++pins,p.1≠b):Inv X pins σ H' s':=by
 obtain⟨h',g',d',t',o'⟩:=s';have e:o'=s.os:=ho;subst e;exact I.call (g':=g') (t':=t') (d':=d') u hok hg hch
end
abbrev XK:=Value->Option Addr->Hp->Prop
abbrev St:=List (Option V)
abbrev VK:=V->Hp->Prop
abbrev TE:=St->Hp->VK->Prop
abbrev TT:=St->Hp->(Bool->Hp->Prop)->Prop
abbrev TA:=St->Hp->(List V->Hp->Prop)->Prop
structure iE where
 nx:St->Hp->Prop
 rt:VK
 bk:St->Hp->Prop:=λ_ _=>False
 ct:St->Hp->Prop:=λ_ _=>False
abbrev TS:=iE->St->Hp->Prop
def EP(X:Cx)(pins:List (Addr×Sv))(σ:St)(Q:VK)(u:Value)(s':QD):Prop:=∃v H',Inv X pins σ H' s'/\br v u/\Q v H'
def TP(X:Cx)(pins:List (Addr×Sv))(σ:St)(Q:Bool->Hp->Prop)(b:Bool)(s':QD):Prop:=∃H',Inv X pins σ H' s'/\Q b H'
def AP(X:Cx)(pins:List (Addr×Sv))(σ:St)(Q:List V->Hp->Prop)(us:List Value)(s':QD):Prop:=∃vs H',Inv X pins σ H' s'/\bu vs us/\Q vs H'
def SP(X:Cx)(pins:List (Addr×Sv))(D:iE)(f:Flow)(s':QD):Prop:=
 match f with
 | .next=>∃σ' H',Inv X pins σ' H' s'/\D.nx σ' H'
 | .brk=>∃σ' H',Inv X pins σ' H' s'/\D.bk σ' H'
 | .cont=>∃σ' H',Inv X pins σ' H' s'/\D.ct σ' H'
 | .ret u=>∃v σ' H',Inv X pins σ' H' s'/\br v u/\D.rt v H'
def PE(X:Cx)(e:Ry)(t:TE):Prop:=
 ∀(pins:List (Addr×Sv)) (s:QD) (σ:St) (H:Hp) (Q:VK),Inv X pins σ H s->t σ H Q->Q0 (Q5 X.prog X.w) X.A (eval e X.env) (EP X pins σ Q) X.xe s
def PT(X:Cx)(e:Ry)(t:TT):Prop:=
 ∀(pins:List (Addr×Sv)) (s:QD) (σ:St) (H:Hp) (Q:Bool->Hp->Prop),Inv X pins σ H s->t σ H Q->Q0 (Q5 X.prog X.w) X.A (isTrue e X.env (eval e X.env)) (TP X pins σ Q) X.xe s
def PW(X:Cx)(e:Ry)(t:TT):Prop:=
 ∀(whole:Sem Value) (pins:List (Addr×Sv)) (s:QD) (σ:St) (H:Hp) (Q:Bool->Hp->Prop),Inv X pins σ H s->t σ H Q->Q0 (Q5 X.prog X.w) X.A (isTrue e X.env whole) (TP X pins σ Q) X.xe s
theorem PW.pt(h:PW X e t):PT X e t:=h _
def PA(X:Cx)(es:List Ry)(t:TA):Prop:=
 ∀(pos:UE) (pins:List (Addr×Sv)) (s:QD) (σ:St) (H:Hp) (Q:List V->Hp->Prop),Inv X pins σ H s->t σ H Q->Q0 (Q5 X.prog X.w) X.A (spliced (Uv pos (QV es X.env))) (AP X pins σ Q) X.xe s
def PS(X:Cx)(st:Stmt)(t:TS):Prop:=
 ∀(pins:List (Addr×Sv)) (s:QD) (σ:St) (H:Hp) (D:iE),Inv X pins σ H s->t D σ H->Q0 (Q5 X.prog X.w) X.A (exec st X.env) (SP X pins D) X.xe s
def qp(X:Cx)(st:List Stmt)(t:TS):Prop:=
 ∀(pins:List (Addr×Sv)) (s:QD) (σ:St) (H:Hp) (D:iE),Inv X pins σ H s->t D σ H->Q0 (Q5 X.prog X.w) X.A (execs st X.env) (SP X pins D) X.xe s
theorem cL{Q Q':α->QD->Prop}{E:Value->QD->Prop}(h:Q0 M A t Q E s)(hQ:∀a s,Q a s->Q' a s):Q0 M A t Q' E s:=SI h hQ λ_ _ x=>x
end L2
namespace L2
open PySem PySem.Spec PyProof.Rows
section
variable {X:Cx}
inductive Me(σ:St)(i:Nat)(Q:V->Prop):Prop where
 |mk (v:V) (e:σ[i]?=some (some v)) (k:Q v):Me σ i Q
inductive Kq(x:V)(Q:Bool->Prop):Prop where
 |mk (c:Bool) (e:x=.bl c) (k:Q c):Kq x Q
inductive NJ(x:V)(Q:Int->Prop):Prop where
 |mk (i:Int) (e:x=.int i) (k:Q i):NJ x Q
inductive Mg(x y:V)(Q:Int->Int->Prop):Prop where
 |mk (i j:Int) (e:x=.int i) (f:y=.int j) (k:Q i j):Mg x y Q
inductive OH(x y:V)(C Q:Int->Int->Prop):Prop where
 |mk (i j:Int) (e:x=.int i) (f:y=.int j) (c:C i j) (k:Q i j):OH x y C Q
def GG(i:Nat):TE:=λσ H Q=>Me σ i λv=>Q v H
def tC(v:V):TE:=λ_ H Q=>Q v H
theorem Im{i:Nat}{x:Rr}{pos:UE}(hN:X.N[i]?=some x)(hv:LX X.env.scope x)(hd:(x==("__debug__" : Rr))=false:=by decide)(hcd:(x==("__classdict__" : Rr))=false:=by decide):PE X (.Name x pos) (GG i):=by
 intro pins s σ H Q I h;obtain⟨v,e,h⟩:=h;obtain⟨m,hn,hl⟩:=I.loc;obtain⟨u,r,l⟩:=hl i x v hN e hv;have fin:EP X pins σ Q u s:=⟨v,H,I,r,h⟩;rcases l with⟨hk,hm⟩ | ⟨hk,c,hc,hcell⟩
 ·exact Z4 (X1 I.ok.kind hk hn hm fin) hd
 ·rcases hk with hk|hk
  ·exact Z4 (Yk I.ok.kind hk hc hcell fin) hd
  ·exact Z4 (wpAny_loadName_free I.ok.kind hk hc hcell fin hcd) hd
theorem Iw{i j pos}:PE X (.Constant (.int i) j pos) (tC (.int i)):=λ_ _ _ H _ I h=>wpAny_Constant_int ⟨.int i,H,I.tok _,⟨_,Z⟩,h⟩
theorem Ll{b j pos}:PE X (.Constant (.bool b) j pos) (tC (.bl b)):=λ_ _ _ H _ I h=>Constant_bool ⟨.bl b,H,I,Z,h⟩
theorem Iu{j pos}:PE X (.Constant .none j pos) (tC .non):=λ_ _ _ H _ I h=>Constant_none ⟨.non,H,I,Z,h⟩
theorem Ip{x j pos}:PE X (.Constant (.str x) j pos) (tC (.str x)):=λ_ _ _ H _ I h=>Calls.Constant_str ⟨.str x,H,I.tok _,⟨_,Z⟩,h⟩
def Gl(X:Cx)(x:Rr):Prop:=X.env.kindOf x=some .globalImplicit
theorem jo{E:Value->QD->Prop}{pins:List (Addr×Sv)}{s:QD}{σ:St}{H:Hp}{x:Rr}{u:Value}{pos:UE}{Q:Value->QD->Prop}(I:Inv X pins σ H s)(hg:Gl X x)(hm:X.mg x=some u)(h:Q u s)
  (hd:(x==("__debug__" : Rr))=false:=by decide):Q0 (Q5 X.prog X.w) X.A (eval (.Name x pos) X.env) Q E s:=
 Calls.Name_function_global I.ok.kind hg (Calls.loadGlobal_global (by rw[I.ok.glob];exact I.mod.glob.keeps I.bk) hm h) hd
theorem ik{E:Value->QD->Prop}{pins:List (Addr×Sv)}{s:QD}{σ:St}{H:Hp}{x:Rr}{u:Value}{pos:UE}{Q:Value->QD->Prop}(I:Inv X pins σ H s)(hg:Gl X x)(hm:X.mg x=none)(hv:SX x=some u)(h:Q u s)
  (hn:x ≠ "__name__" := by decide) (hd:(x==("__debug__" : Rr))=false:=by decide):Q0 (Q5 X.prog X.w) X.A (eval (.Name x pos) X.env) Q E s:=by
 obtain⟨mb,h1,h2⟩:=I.mod.blt;exact Calls.Name_function_global I.ok.kind hg (Calls.loadGlobal_builtin (by rw[I.ok.glob];exact I.mod.glob.keeps I.bk) hm (by rw[I.ok.blt];exact h1.keeps I.bk) ((h2 x hn).trans hv) h) hd
theorem EH{x:Rr}{v:V}{u:Value}{pos:UE}(hg:Gl X x)(hm:X.mg x=some u)(r:br v u)(hd:(x==("__debug__" : Rr))=false:=by decide):PE X (.Name x pos) (tC v):=
 λ_ _ _ H _ I h=>jo I hg hm ⟨v,H,I,r,h⟩ hd
theorem EL{x:Rr}{v:V}{u:Value}{pos:UE}(hg:Gl X x)(hm:X.mg x=none)(hv:SX x=some u)(r:br v u)(hn:x ≠ "__name__" := by decide)(hd:(x==("__debug__" : Rr))=false:=by decide):PE X (.Name x pos) (tC v):=
 λ_ _ _ H _ I h=>ik I hg hm hv ⟨v,H,I,r,h⟩ hn hd
def Mt(ta tb:TE)(k:Int->Int->Hp->Prop):St->Hp->Prop:=λσ H=>ta σ H λx H1=>tb σ H1 λy H2=>∃i j,x=.int i/\y=.int j/\k i j H2
def Pa(ta tb:TE):TE:=λσ H Q=>Mt ta tb (λi j H2=>Q (.int (i+j)) H2) σ H
def OV(ta tb:TE):TE:=λσ H Q=>Mt ta tb (λi j H2=>Q (.int (i-j)) H2) σ H
def OZ(ta tb:TE):TE:=λσ H Q=>Mt ta tb (λi j H2=>(-(2^64)<i/\i<2^64)/\Q (.int (i*j)) H2) σ H
variable {a b:Ry}{ta tb:TE}{pos:UE}
def PC(X:Cx)(op:CmpOp)(a b:Ry)(t:TE):Prop:=
 ∀(pins:List (Addr×Sv)) (s:QD) (σ:St) (H:Hp) (Q:VK),Inv X pins σ H s->t σ H Q→
  Q0 (Q5 X.prog X.w) X.A (eval a X.env) (λv s₁=>Q0 (Q5 X.prog X.w) X.A (eval b X.env) (λu s₂=>Q0 (Q5 X.prog X.w) X.A (Sw op v u) (EP X pins σ Q) X.xe s₂) X.xe s₁) X.xe s
def xV(p:Int->Int->Bool)(ta tb:TE):TE:=λσ H Q=>Mt ta tb (λi j H2=>Q (.bl (p i j)) H2) σ H
abbrev Qd:TE->TE->TE:=xV λi j=>decide (i<j)
abbrev Qe:TE->TE->TE:=xV λi j=>decide (i≤j)
abbrev Qf:TE->TE->TE:=xV λi j=>decide (j<i)
abbrev Qg:TE->TE->TE:=xV λi j=>decide (j≤i)
abbrev O6:TE->TE->TE:=xV λi j=>decide (i=j)
abbrev OY:TE->TE->TE:=xV λi j=>!decide (i=j)
def O0(ta:TE):TE:=λσ H Q=>ta σ H λx H1=>Q (.bl (decide (x=.non))) H1
def N4(ta:TE):TE:=λσ H Q=>ta σ H λx H1=>Q (.bl (!decide (x=.non))) H1
def tB(t:TE):TT:=λσ H Q=>t σ H λx H1=>Kq x λc=>Q c H1
theorem HU{e:Ry}{t:TE}(h:PE X e t)(he:∀whole,isTrue e X.env whole=(do let v ←whole;standAt e.pos;holding [v] (truthy v)):=by intro _;rfl):PT X e (tB t):=by
 intro pins s σ H Q I hw;refine isTrue_plain (cL (h pins s σ H _ I hw) λv s1 ⟨x,H1,I1,r1,q1⟩=>?_) (he _);obtain⟨d,rfl,q⟩:=q1
 cases r1
 exact TV ⟨H1,I1,q⟩
variable {tA tB':TT}{cF:List Ry}
def KM(t u:TT):TT:=λσ H Q=>t σ H λc H1=>if c=true then u σ H1 Q else Q false H1
def N3(t u:TT):TT:=λσ H Q=>t σ H λc H1=>if c=true then Q true H1 else u σ H1 Q
def KF(t:TT):TT:=λσ H Q=>t σ H λc H1=>Q (!c) H1
theorem Ej(ha:PT X a tA):PW X (.BoolOp .And [a] pos) tA:=by
 intro wh pins s σ H Q I h;refine isTrue_and (cL (ha pins s σ H Q I h) λc s1 e=>?_)
 cases c with
 |true=>exact isTrue_and_nil e
 |false=>exact e
theorem HN(ha:PT X a tA):PW X (.BoolOp .Or [a] pos) tA:=by
 intro wh pins s σ H Q I h;refine isTrue_or (cL (ha pins s σ H Q I h) λc s1 e=>?_)
 cases c with
 |false=>exact isTrue_or_nil e
 |true=>exact e
theorem HR(ha:PT X a tA)(hb:PW X (.BoolOp .And (b::cF) pos) tB'):PW X (.BoolOp .And (a::b::cF) pos) (KM tA tB'):=by
 intro wh pins s σ H Q I h;refine isTrue_and (cL (ha pins s σ H _ I h) λc s1 ⟨H1,I1,q1⟩=>?_)
 cases c with
 |true=>exact hb wh pins s1 σ H1 Q I1 q1
 |false=>exact⟨H1,I1,q1⟩
theorem Le(ha:PT X a tA)(hb:PW X (.BoolOp .Or (b::cF) pos) tB'):PW X (.BoolOp .Or (a::b::cF) pos) (N3 tA tB'):=by
 intro wh pins s σ H Q I h;refine isTrue_or (cL (ha pins s σ H _ I h) λc s1 ⟨H1,I1,q1⟩=>?_)
 cases c with
 |true=>exact⟨H1,I1,q1⟩
 |false=>exact hb wh pins s1 σ H1 Q I1 q1
theorem HV(ha:PT X a tA):PT X (.UnaryOp .Not a pos) (KF tA):=by
 intro pins s σ H Q I h;exact isTrue_not (ha pins s σ H (λc H1=>Q (!c) H1) I h)
def F6(ta tb:TE):TE:=λσ H Q=>ta σ H λx H1=>Kq x λc=>if c=true then tb σ H1 Q else Q (.bl false) H1
def OX(ta tb:TE):TE:=λσ H Q=>ta σ H λx H1=>Kq x λc=>if c=true then Q (.bl true) H1 else tb σ H1 Q
def F0(ta:TE):TE:=λσ H Q=>ta σ H λx H1=>Kq x λc=>Q (.bl (!c)) H1
theorem Ir{op}(h:PE X a t):PE X (.BoolOp op [a] pos) t:=λpins s σ H Q I hw=>BoolOp_one (h pins s σ H Q I hw)
theorem Ix(ha:PE X a ta)(hb:PE X (.BoolOp .And (b::cF) pos) tb):PE X (.BoolOp .And (a::b::cF) pos) (F6 ta tb):=by
 intro pins s σ H Q I h;refine BoolOp_and (cL (ha pins s σ H _ I h) λv s1 ⟨x,H1,I1,r1,q1⟩=>?_);obtain⟨c,rfl,q1⟩:=q1
 cases r1
 refine TV ?_
 cases c with
 |true=>exact hb pins s1 σ H1 Q I1 q1
 |false=>exact⟨.bl false,H1,I1,Z,q1⟩
theorem Is(ha:PE X a ta):PE X (.UnaryOp .Not a pos) (F0 ta):=by
 intro pins s σ H Q I h;refine UnaryOp_ (cL (ha pins s σ H _ I h) λv s1 ⟨x,H1,I1,r1,q1⟩=>?_);obtain⟨c,rfl,q1⟩:=q1
 cases r1
 exact not_of (TV ⟨.bl (!c),H1,I1,Z,q1⟩)
def N7(t:TT)(ta tb:TE):TE:=λσ H Q=>t σ H λc H1=>if c=true then ta σ H1 Q else tb σ H1 Q
theorem B7(hc:PT X c tA)(ha:PE X a ta)(hb:PE X b tb):PE X (.IfExp c a b pos) (N7 tA ta tb):=by
 intro pins s σ H Q I h;refine wpAny_IfExp (cL (hc pins s σ H _ I h) λd s1 ⟨H1,I1,q1⟩=>?_)
 cases d with
 |true=>exact ha pins s1 σ H1 Q I1 q1
 |false=>exact hb pins s1 σ H1 Q I1 q1
end
end L2
namespace L2
open PySem PySem.Spec PyProof.Rows
def aZ(K:Qu)(H:Hp)(a:Addr)(xs:List V):Prop:=
 Rd H a (.lst xs)∨
  ∃(o:Sv) (its:Array Value) (n:Nat),K.lookup a=some o/\o.cls=.type "list"/\o.dict=none/\o.data=.seq its n/\its.size≤sizeLine/\bu xs its.toList
def bz(K:Qu)(H:Hp)(a:Addr)(xs:List V):Prop:=
 Rd H a (.tup xs)∨
  ∃(o:Sv) (its:Array Value) (n:Nat),K.lookup a=some o/\o.cls=.type "tuple"/\o.data=.seq its n/\its.size≤sizeLine/\bu xs its.toList
def Nw:Value->Option V
 | .none=>some .non
 | .bool b=>some (.bl b)
 | .int i _=>some (.int i)
 | .str x _=>some (.str x)
 | .bytes b _=>some (.byt b)
 | .float b _=>some (.flt b)
 | .ref a=>some (.ref a)
 | .type n=>some (.ty n)
 |_=>none
theorem br.abs(r:br x u):Nw u=some x:=by
 cases x with
 |non=>cases r;rfl
 |bl _=>cases r;rfl
 |int _=>obtain⟨t,rfl⟩:=r;rfl
 |str _=>obtain⟨t,rfl⟩:=r;rfl
 |byt _=>obtain⟨t,rfl⟩:=r;rfl
 |flt _=>obtain⟨t,rfl⟩:=r;rfl
 |ref _=>cases r;rfl
 |ty _=>cases r;rfl
theorem br.inj(r:br x u)(q:br y u):x=y:=R0 (r.abs.symm.trans q.abs)
theorem bu.inj:∀{xs ys:List V} {us:List Value},bu xs us->bu ys us->xs=ys
 |_,_,_,.nil,.nil=>rfl
 |_,_,_,.cons r t,.cons r' t'=>by rw[r.inj r',bu.inj t t']
section
variable {X:Cx}{pins:List (Addr×Sv)}{σ:St}{H:Hp}{s:QD}{a:Addr}{xs ys:List V}
theorem aZ.of{K:Qu}(h:H a=some (.lst xs)):aZ K H a xs:=.inl (.inl h)
theorem bz.of{K:Qu}(h:H a=some (.tup xs)):bz K H a xs:=.inl (.inl h)
theorem Inv.list(I:Inv X pins σ H s)(h:aZ X.K H a xs):∃its:List Value,bu xs its/\PlainL s.heap a its.toArray/\xs.length≤sizeLine:=by
 rcases h with h | ⟨o,its,n,hk,hc,hd,hs,hz,r⟩
 ·obtain⟨z,its,n,r,e⟩:=h.ok I.hok;exact⟨its,r,⟨_,n,e,Z,Z,Z⟩,z⟩
 ·refine⟨its.toList,r,⟨o,n,I.kIn a o hk,hc,hd,by simpa using hs⟩,?_⟩;have e:=r.length;simp only[Tq] at e;omega
theorem Inv.tuple(I:Inv X pins σ H s)(h:bz X.K H a xs):∃its:List Value,bu xs its/\Ys s.heap a its.toArray/\xs.length≤sizeLine:=by
 rcases h with h | ⟨o,its,n,hk,hc,hs,hz,r⟩
 ·obtain⟨z,its,r,p⟩:=h.ok I.hok;exact⟨its,r,p,z⟩
 ·refine⟨its.toList,r,⟨o,I.kIn a o hk,hc,n,by simpa using hs⟩,?_⟩;have e:=r.length;simp only[Tq] at e;omega
theorem Inv.list_inj(I:Inv X pins σ H s)(h:aZ X.K H a xs)(h':aZ X.K H a ys):xs=ys:=by
 obtain⟨its,r,⟨o,n,e,_,_,d⟩,_⟩:=I.list h;obtain⟨its',r',⟨o',n',e',_,_,d'⟩,_⟩:=I.list h';rw[e] at e';cases e';rw[d] at d';injection d' with d1 _;have:its=its':=by simpa using congrArg Array.toList d1
 subst this;exact r.inj r'
theorem Inv.tuple_inj(I:Inv X pins σ H s)(h:bz X.K H a xs)(h':bz X.K H a ys):xs=ys:=by
 obtain⟨its,r,⟨o,e,_,n,d⟩,_⟩:=I.tuple h;obtain⟨its',r',⟨o',e',_,n',d'⟩,_⟩:=I.tuple h';rw[e] at e';cases e';rw[d] at d';injection d' with d1 _;have:its=its':=by simpa using congrArg Array.toList d1
 subst this;exact r.inj r'
end
abbrev Cx.wish(X:Cx)(E:Value->QD->Prop):Cx:={ X with xe:=E}
abbrev Cx.nox(X:Cx):Cx:=X.wish λ_ _=>False
theorem Cx.Ok.wish{X:Cx}(ok:X.Ok)(E:Value->QD->Prop):(X.wish E).Ok:=
 ⟨ok.mod,ok.kind,ok.glob,ok.blt,ok.above,ok.inj,ok.has,ok.cab,ok.hd,ok.frames,ok.stk,ok.exf,ok.bs,ok.bsz,ok.noex,ok.exfs,ok.funs,ok.frf⟩
theorem Cx.Ok.unwish{X:Cx}(ok:(X.wish E).Ok):X.Ok:=
 ⟨ok.mod,ok.kind,ok.glob,ok.blt,ok.above,ok.inj,ok.has,ok.cab,ok.hd,ok.frames,ok.stk,ok.exf,ok.bs,ok.bsz,ok.noex,ok.exfs,ok.funs,ok.frf⟩
section
variable {X:Cx}{pins:List (Addr×Sv)}{σ:St}{H:Hp}{s:QD}{E:Value->QD->Prop}
theorem Inv.wish(I:Inv X pins σ H s)(E:Value->QD->Prop):Inv (X.wish E) pins σ H s:=⟨I.ok.wish E,I.os,I.bare,I.base,I.loc,I.cell,I.free,I.freeC,I.pin,I.hok,I.len⟩
theorem Inv.unwish(I:Inv (X.wish E) pins σ H s):Inv X pins σ H s:=⟨I.ok.unwish,I.os,I.bare,I.base,I.loc,I.cell,I.free,I.freeC,I.pin,I.hok,I.len⟩
theorem SP.unwish(h:SP (X.wish E) pins D f s'):SP X pins D f s':=by
 cases f with
 |next=>obtain⟨σ',H',I,q⟩:=h;exact⟨σ',H',I.unwish,q⟩
 |brk=>obtain⟨σ',H',I,q⟩:=h;exact⟨σ',H',I.unwish,q⟩
 |cont=>obtain⟨σ',H',I,q⟩:=h;exact⟨σ',H',I.unwish,q⟩
 |ret u=>obtain⟨v,σ',H',I,r,q⟩:=h;exact⟨v,σ',H',I.unwish,r,q⟩
theorem qp.nox{st:List Stmt}(h:qp X.nox st t):qp X st t:=λpins s σ H D I hw=>
 SI (h pins s σ H D (I.wish _) hw) (λ_ _ q=>q.unwish) λ_ _ z=>SJ z
end
section
variable {X:Cx}{st:Stmt}{cF:List Stmt}{t u:TS}{e:Ry}{te:TE}{pos:UE}
def F1:TS:=λD σ H=>D.nx σ H
def GH(t u:TS):TS:=λD σ H=>t { D with nx:=u D} σ H
theorem Ep:qp X [] F1:=λ_ _ σ H _ I h=>UN ⟨σ,H,I,h⟩
theorem BR(h1:PS X st t)(h2:qp X cF u):qp X (st::cF) (GH t u):=by
 intro pins s σ H D I h;refine Zr (cL (h1 pins s σ H { D with nx:=u D} I h) λf s1 q=>?_)
 cases f with
 |next=>
  obtain⟨σ',H',I',q⟩:=q;exact h2 pins s1 σ' H' D I' q
 |ret v=>exact q
 |brk=>exact q
 |cont=>exact q
theorem Eo(h1:PS X st t):qp X [st] t:=by
 intro pins s σ H D I h;refine Zr (cL (h1 pins s σ H D I h) λf s1 q=>?_)
 cases f with
 |next=>exact UN q
 |ret v=>exact q
 |brk=>exact q
 |cont=>exact q
def MY:TS:=λD σ H=>D.bk σ H
def F4:TS:=λD σ H=>D.ct σ H
theorem tY:PS X (.Continue pos) F4:=λ_ _ σ H _ I h=>wpAny_Continue ⟨σ,H,I,h⟩
theorem Inv.quiet{pins:List (Addr×Sv)}{σ:St}{H:Hp}{s:QD}(I:Inv X pins σ H s):interactive X.env=false:=by simp[interactive,I.ok.kind]
def F3(te:TE):TS:=λD σ H=>te σ H λ_ H1=>D.nx σ H1
theorem Et(he:PE X e te)(hs:UC e none pos.line X.env=TL false:=by rfl):PS X (.Expr e pos) (F3 te):=by
 intro pins s σ H D I h;exact wpAny_Expr_any (cL (he pins s σ H _ I h) λv s1 ⟨x,H1,I1,r1,q1⟩=>⟨σ,H1,I1,q1⟩) I.quiet hs
def KB(te:TE):TS:=λD σ H=>te σ H D.rt
theorem HY(he:PE X e te):PS X (.Return (some e) pos) (KB te):=by
 intro pins s σ H D I h;exact wpAny_Return_some (cL (he pins s σ H _ I h) λv s1 ⟨x,H1,I1,r1,q1⟩=>⟨x,σ,H1,I1,r1,q1⟩)
def NZ:TS:=λD _ H=>D.rt .non H
def KI(c:TT)(t u:TS):TS:=λD σ H=>c σ H λb H1=>if b=true then t D σ H1 else u D σ H1
theorem Lf(hc:PT X c tc)(ha:qp X a t)(hb:qp X b u):PS X (.If c a b pos) (KI tc t u):=by
 intro pins s σ H D I h;refine wpAny_If (cL (hc pins s σ H _ I h) λd s1 ⟨H1,I1,q1⟩=>?_)
 cases d with
 |true=>exact ha pins s1 σ H1 D I1 q1
 |false=>exact hb pins s1 σ H1 D I1 q1
def zS:TS:=λ_ _ _=>False
theorem BV:PS X st zS:=λ_ _ _ _ _ _ h=>h.elim
end
abbrev TG:=V->St->Hp->(St->Hp->Prop)->Prop
abbrev zp:=List V->St->Hp->(St->Hp->Prop)->Prop
def PG(X:Cx)(target:Ry)(t:TG):Prop:=
 ∀(pins:List (Addr×Sv)) (s:QD) (σ:St) (H:Hp) (v:V) (u:Value) (Q:St->Hp->Prop),Inv X pins σ H s->br v u->t v σ H Q→
  Q0 (Q5 X.prog X.w) X.A (WW target X.env u) (λ_ s'=>∃σ' H',Inv X pins σ' H' s'/\Q σ' H') X.xe s
def Ko(X:Cx)(ts:List Ry)(t:zp):Prop:=
 ∀(pins:List (Addr×Sv)) (s:QD) (σ:St) (H:Hp) (vs:List V) (us:List Value) (Q:St->Hp->Prop),Inv X pins σ H s->bu vs us->t vs σ H Q→
  Q0 (Q5 X.prog X.w) X.A (Yt ((Tj ts X.env).map (·.2)) us) (λ_ s'=>∃σ' H',Inv X pins σ' H' s'/\Q σ' H') X.xe s
abbrev Dz:=V->V->V->Hp->(Hp->Prop)->Prop
def J3(X:Cx)(t:Dz):Prop:=
 ∀(pins:List (Addr×Sv)) (s:QD) (σ:St) (H:Hp) (o i v:V) (ov iv u:Value) (Q:Hp->Prop),Inv X pins σ H s->br o ov->br i iv->br v u->t o i v H Q→
  Q0 (Q5 X.prog X.w) X.A (setItem ov iv u) (λ_ s'=>∃H',Inv X pins σ H' s'/\Q H') X.xe s
abbrev Kk:=V->V->Hp->VK->Prop
def NC(X:Cx)(op:Z5)(t:Kk):Prop:=
 ∀(pins:List (Addr×Sv)) (s:QD) (σ:St) (H:Hp) (x y:V) (v u:Value) (Q:VK),Inv X pins σ H s->br x v->br y u->t x y H Q→
  Q0 (Q5 X.prog X.w) X.A (inplaceOp op v u) (EP X pins σ Q) X.xe s
section
variable {X:Cx}{pos:UE}
def mj(i:Nat):TG:=λv σ H Q=>Q (σ.set i (some v)) H
theorem EE{i:Nat}{x:Rr}(hN:X.N.Nodup)(hi:X.N[i]?=some x)(hx:zy X.env.scope x)(hf:X.fn x=true∨X.env.scope.names.lookup x=some .local:=by first|exact .inl Z|exact .inr Z|assumption):PG X (.Name x pos) (mj i):=by
 intro pins s σ H v u Q I r h;exact YV (fR I hN hi hx r (λs' I'=>⟨_,H,I',h⟩) hf)
def LP:zp:=λvs σ H Q=>vs=[]/\Q σ H
def Go(t:TG)(u:zp):zp:=λvs σ H Q=>∃v r,vs=v::r/\t v σ H λσ' H'=>u r σ' H' Q
theorem EC:Ko X [] LP:=by
 intro pins s σ H vs us Q I r h;obtain⟨e,h⟩:=h;subst e
 cases r
 exact YW ⟨σ,H,I,h⟩
theorem B4{e:Ry}{es:List Ry}{t:TG}{u:zp}(h1:PG X e t)(h2:Ko X es u)
  (hs:(Tj (e::es) X.env).map (·.2)=WW e X.env::(Tj es X.env).map (·.2):=by rfl):Ko X (e::es) (Go t u):=by
 intro pins s σ H vs us Q I r h;obtain⟨v,vr,e1,h⟩:=h;subst e1
 cases r with
 |cons r rr=>
  rw[hs];refine Wu (cL (h1 pins s σ H _ _ _ I r h) λ_ s1 ⟨σ1,H1,I1,q1⟩=>?_);exact h2 pins s1 σ1 H1 _ _ Q I1 rr q1
def Fi(K:Qu)(n:Nat)(t:zp):TG:=λv σ H Q=>∃a xs,v=.ref a/\bz K H a xs/\xs.length=n/\t xs σ H Q
theorem B5{es:List Ry}{k:Nat}{t:zp}{n:Nat}(hc:X.calm=true)(h:Ko X es t)
  (hn:(Tj es X.env).length=n:=by rfl) (hst:(Tj es X.env).findIdx? (·.1)=none:=by rfl):PG X (.Tuple es k pos) (Fi X.K n t):=by
 intro pins s σ H v u Q I r hw;obtain⟨a,xs,e1,hq,hl,hw⟩:=hw;subst e1
 cases r
 obtain⟨its,rv,ht,hz⟩:=I.tuple hq;refine assign_Tuple_tuple (I.ok.hd hc) ht (by simp[hn,←hl,rv.length]) hst λh' hx=>?_
 have I1:Inv X pins σ H { s with heap:=h'}:=I.kept (t':=s.toks) λb o e=>hx b o (RQ (QY e)) e
 exact h pins _ σ H xs _ Q I1 (by simpa using rv) hw
def LO(to ti:TE)(t:Dz):TG:=λv σ H Q=>to σ H λo H1=>ti σ H1 λi H2=>t o i v H2 λH3=>Q σ H3
theorem Il{o i:Ry}{to ti:TE}{t:Dz}(ho:PE X o to)(hi:PE X i ti)(hs:J3 X t)
  (ha:∀v,WW (.Subscript o i pos) X.env v=(do
   let ov ←holding [v] (eval o X.env);let iv ←holding [v,ov] (eval i X.env)
   standAt pos
   holding [v,ov,iv] (setItem ov iv v)
   release [v,ov,iv] []):=by intro _;rfl):PG X (.Subscript o i pos) (LO to ti t):=by
 intro pins s σ H v u Q I r h;rw[ha];refine Qx (wpAny_holding (cL (ho pins s σ H _ I h) λov s1 ⟨x,H1,I1,r1,q1⟩=>?_));refine Qx (wpAny_holding (cL (hi pins s1 σ H1 _ I1 q1) λiv s2 ⟨y,H2,I2,r2,q2⟩=>?_));refine Qx (Vk (Qx (wpAny_holding (cL (hs pins s2 σ H2 x y v ov iv u _ I2 r1 r2 r q2) λ_ s3 ⟨H3,I3,q3⟩=>?_))));exact wpAny_release ⟨σ,H3,I3,q3⟩
def sZ(te:TE)(g:TG):TS:=λD σ H=>te σ H λx H1=>g x σ H1 D.nx
theorem Ig{tg e:Ry}{te:TE}{g:TG}(he:PE X e te)(hg:PG X tg g)(hs:WX [tg] e pos.line X.env=TL false:=by rfl)(hw:WY [tg] e X.env=TL none:=by rfl)
  (h1:(Tj [tg] X.env).map (·.2)=[WW tg X.env]:=by rfl):PS X (.Assign [tg] e pos) (sZ te g):=by
 intro pins s σ H D I h;refine wpAny_Assign_stores (cL (he pins s σ H _ I h) λv s1 ⟨x,H1,I1,r1,q1⟩=>?_) hs hw;rw[h1];exact cL (hg pins s1 σ H1 x v _ I1 r1 q1) λ_ s2 q=>q
theorem HX{i:Nat}{x:Rr}{e:Ry}{te:TE}{pos':UE}(hN:X.N.Nodup)(hi:X.N[i]?=some x)(hx:zy X.env.scope x)(he:PE X e te)(hs:UC e (some (.Name x pos')) pos.line X.env=TL false:=by rfl)(hf:X.fn x=true∨X.env.scope.names.lookup x=some .local:=by first|exact .inl Z|exact .inr Z|assumption) :
  PS X (.Assign [.Name x pos'] e pos) (sZ te (mj i)):=by
 intro pins s σ H D I h;refine wpAny_Assign_Name (cL (he pins s σ H _ I h) λv s1 ⟨y,H1,I1,r1,q1⟩=>?_) hs;exact fR I1 hN hi hx r1 (λs2 I2=>⟨_,H1,I2,q1⟩) hf
def KC(i j:Nat)(ta:TA):TS:=λD σ H=>ta σ H λvs H1=>∃v w,vs=[v,w]/\D.nx ((σ.set i (some v)).set j (some w)) H1
theorem HZ{i j:Nat}{x y:Rr}{a b:Ry}{ta:TA}{px py pt:UE}{kt k2 pt2}(hc:X.calm=true)(hN:X.N.Nodup)(hi:X.N[i]?=some x)(hj:X.N[j]?=some y)(hij:i≠j)
  (hx:X.env.scope.names.lookup x=some .local) (hy:X.env.scope.names.lookup y=some .local) (ha:PA X [a,b] ta)
  (hw:WY [.Tuple [.Name x px,.Name y py] kt pt] (.Tuple [a,b] k2 pt2) X.env=TL (some [x,y]))
  (hs:WX [.Tuple [.Name x px,.Name y py] kt pt] (.Tuple [a,b] k2 pt2) pos.line X.env=TL false:=by rfl) :
  PS X (.Assign [.Tuple [.Name x px,.Name y py] kt pt] (.Tuple [a,b] k2 pt2) pos) (KC i j ta):=by
 intro pins s σ H D I h;rw[exec_Assign_arm];refine Qx (Vk ?_);rw[hs];refine Qx (wpAny_pure ?_);rw[if_neg δ];refine Qx (Tuple_ (cL (ha _ pins s σ H _ I h) λus s1 ⟨vs,H1,I1,r1,q1⟩=>?_));obtain⟨v,w,e1,q1⟩:=q1;subst e1;obtain⟨u1,u2,rfl,rv,rw'⟩:∃u1 u2,us=[u1,u2]/\br v u1/\br w u2:=by
  cases r1 with
  |cons p q=>
   cases q with
   |cons p' q'=>
    cases q'
    exact⟨_,_,Z,p,p'⟩
 refine Sn ?_ ma;have I2:Inv X pins σ H1 { s1 with heap:=s1.heap.push { cls:=.type "tuple",data:=.seq [u1,u2].toArray} }:=I1.kept (t':=s1.toks) λb o e=>Qy _ e
 rw[hw];refine Qx (wpAny_pure ?_);show Q0 (Q5 X.prog X.w) X.A (do rule "assign.swapped-stores";let items ←unpackItems (.ref s1.heap.objs.size) 2 none;Yt [λv=>YX X.env y v,λv=>YX X.env x v] items.reverse;TL aaC) _ _ _;refine Qx (VT (Qx (unpackItems_tuple (items:=#[u1,u2]) (I.ok.hd hc) (Ye s1.heap _) λh' hx'=>?_)));have I3:=I2.kept (h':=h') (t':=s1.toks) λb o e=>hx' b o (RQ (QY e)) e
 show Q0 _ _ (Yt [λv=>YX X.env y v,λv=>YX X.env x v] [u2,u1] >>= λ_=>TL aaC) _ _ _;refine Qx (Wu (wpAny_bindName (fR I3 hN hj (.inl hy) rw' (λs2 I4=>?_) (.inr hy))));refine Wu (wpAny_bindName (fR I4 hN hi (.inl hx) rv (λs3 I5=>YW (wpAny_pure ?_)) (.inr hx)));rw[List.set_comm _ _ (Tt hij)] at I5;exact⟨_,H1,I5,q1⟩
def KL(i:Nat)(te:TE)(ti:Kk):TS:=λD σ H=>∃x,σ[i]?=some (some x)/\te σ H λy H1=>ti x y H1 λz H2=>D.nx (σ.set i (some z)) H2
theorem Ie{i:Nat}{x:Rr}{e:Ry}{te:TE}{op:Z5}{ti:Kk}{pos':UE}(hN:X.N.Nodup)(hi:X.N[i]?=some x)(hx:zy X.env.scope x)(he:PE X e te)(ho:NC X op ti)(hf:X.fn x=true∨X.env.scope.names.lookup x=some .local:=by first|exact .inl Z|exact .inr Z|assumption) :
  PS X (.AugAssign (.Name x pos') op e pos) (KL i te ti):=by
 intro pins s σ H D I h;obtain⟨v,e1,h⟩:=h;obtain⟨m,hn,hl⟩:=I.loc;have vis:LX X.env.scope x:=by rcases hx with k|k;exact .inl k;exact .inr (.inl k)
 obtain⟨u,r,l⟩:=hl i x v hi e1 vis;refine wpAny_AugAssign_Name ?_;have go:Q0 (Q5 X.prog X.w) X.A (eval e X.env) (λw s₂=>Q0 (Q5 X.prog X.w) X.A (inplaceOp op u w) (λr s₃=>Q0 (Q5 X.prog X.w) X.A (storeName X.env x r) (λ_=>SP X pins D .next) X.xe s₃) X.xe s₂) X.xe s:=by
  refine cL (he pins s σ H _ I h) λw s1 ⟨y,H1,I1,r1,q1⟩=>?_
  refine cL (ho pins s1 σ H1 v y u w _ I1 r r1 q1) λz s2 ⟨zv,H2,I2,r2,q2⟩=>?_
  exact fR I2 hN hi hx r2 (λs3 I3=>⟨_,H2,I3,q2⟩) hf
 rcases l with⟨hk,hm⟩ | ⟨hk,c,hc,hcell⟩
 ·exact X1 I.ok.kind hk hn hm go
 ·rcases hk with hk|hk
  ·exact Yk I.ok.kind hk hc hcell go
  ·rcases hx with k|k
   ·have:X.env.scope.names.lookup x=some .free:=hk;rw[k] at this;cases this
   ·have:X.env.scope.names.lookup x=some .free:=hk;rw[k] at this;cases this
def Ob(to ti te:TE)(tget:V->V->Hp->VK->Prop)(tip:Kk)(tset:Dz):TS:=λD σ H=>to σ H λo H1=>ti σ H1 λi H2=>tget o i H2 λx H3=>te σ H3 λy H4=>tip x y H4 λz H5=>tset o i z H5 λH6=>D.nx σ H6
def P1(X:Cx)(t:V->V->Hp->VK->Prop):Prop:=
 ∀(pins:List (Addr×Sv)) (s:QD) (σ:St) (H:Hp) (o i:V) (ov iv:Value) (Q:VK),Inv X pins σ H s->br o ov->br i iv->t o i H Q→
  Q0 (Q5 X.prog X.w) X.A (Wi ov iv) (EP X pins σ Q) X.xe s
def Pz(f:Int->Int->Int):Kk:=λx y H Q=>Mg x y λi j=>Q (.int (f i j)) H
theorem CT:NC X .Sub (Pz λi j=>i-j):=by
 intro pins s σ H x y v u Q I r1 r2 h;obtain⟨i,j,e1,e2,q⟩:=h;subst e1;subst e2;obtain⟨t,rfl⟩:=r1;obtain⟨t',rfl⟩:=r2;exact isub_int ⟨.int _,H,I.tok _,⟨_,Z⟩,q⟩
end
section
variable {X:Cx}{pos:UE}
def zQ(c:TT)(tb:TS):TS:=λD σ H=>∃W:Nat->St->Hp->Prop,(∃m,W m σ H)/\∀m σ H,W m σ H→
 c σ H λb H1=>if b=true then ∃N:St->Hp->Prop,(∀σ' H',N σ' H'->∃m',m'<m/\W m' σ' H')/\tb { D with nx:=N,ct:=N,bk:=D.nx} σ H1 else D.nx σ H1
theorem BS(hp:RD (Q5 X.prog X.w) X.A X.env X.xe)(hc:PT X c tc)(hb:qp X body tb):PS X (.While c body [] pos) (zQ tc tb):=by
 intro pins s σ H D I h;obtain⟨W,⟨m0,w0⟩,turn⟩:=h;refine wpAny_While (codeAny_whileLoop (λn s'=>∃σ' H',Inv X pins σ' H' s'/\W n σ' H') ?_ m0 ⟨σ,H,I,w0⟩);rintro n s1 ⟨σ1,H1,I1,w1⟩;refine Ur hp (cL (hc pins s1 σ1 H1 _ I1 (turn n σ1 H1 w1)) λb s2 ⟨H2,I2,q2⟩=>?_)
 cases b with
 |true=>
  obtain⟨N,hN,q2⟩:=q2;rw[if_pos Z];refine Ur hp (cL (hb pins s2 σ1 H2 _ I2 q2) λf s3 q3=>?_)
  cases f with
  |next=>
   obtain⟨σ3,H3,I3,n3⟩:=q3;obtain⟨m',hm,w3⟩:=hN σ3 H3 n3;exact⟨m',hm,σ3,H3,I3,w3⟩
  |cont=>
   obtain⟨σ3,H3,I3,n3⟩:=q3;obtain⟨m',hm,w3⟩:=hN σ3 H3 n3;exact⟨m',hm,σ3,H3,I3,w3⟩
  |brk=>exact q3
  |ret v=>exact q3
 |false=>
  rw[if_neg Q4];exact UN ⟨σ1,H2,I2,q2⟩
end
structure It where
 go:Nat->Hp->Prop
 yld:Nat->Hp->V->Hp->Prop
 stop:Nat->Hp->Prop
def ki(X:Cx)(pins:List (Addr×Sv))(H:Hp)(b:Addr):Prop:=
 H b=none/\b≠X.env.locals/\b∉X.fs/\(b∈X.ex∨X.s₀.heap.get? b=none)/\(∀x c,X.env.cells.lookup x=some c->c≠b)/\∀p∈X.pn++pins,p.1≠b
theorem Inv.fpOk{X:Cx}{pins:List (Addr×Sv)}{σ:St}{H H':Hp}{s:QD}{b:Addr}(I:Inv X pins σ H s)(hb:s.heap.objs.size≤b)(hn:H' b=none):ki X pins H' b:=by
 refine⟨hn,Ud (Rc I.lt hb),I.nofs hb,.inr (Td (Rm I.sz hb)),λx c e z=>?_,λp hp z=>?_⟩
 ·obtain⟨v,q⟩:=I.cell x c e;exact absurd (Rc q.lt (by rw[z];exact hb)) (RY _)
 ·exact absurd (Rc (QY (I.pin p hp).1) (by rw[z];exact hb)) (RY _)
structure uI(P:Rp)(w:RF)(K:Qu)(tg:Ry)(J:It)(fp:List Addr)(it:Addr)(tn:Nat->QN->Prop):Prop where
 mem:it∈fp
 obj:∀i h,tn i h->∀b∈fp,∃o,h.get? b=some o/\∀v,o.data≠.cell v
 keep:∀i h h',tn i h->(∀b∈fp,∀o,h.get? b=some o->h'.get? b=some o)->tn i h'
 item:∀(X:Cx),X.prog=P->X.w=w->X.K=K->X.calm=true->∀(i:Nat) (pins:List (Addr×Sv)) (s:QD) (σ:St) (H:Hp) (E:Value->QD->Prop),Inv X pins σ H s->(∀b∈fp,ki X pins H b)->tn i s.heap->J.go i H→
  Q0 (Q5 P w) X.A (Z6 (.ref it)) (λr s1=>∃u,r=some u∧
   Q0 (Q5 P w) X.A (V5 tg (.ref it) u) (λ_ s2=>∃x H',Inv X pins σ H' s2/\br x u/\J.yld i H x H'/\tn (i+1) s2.heap/\∀b∈fp,H' b=none) E s1) E s
 done:∀(X:Cx),X.prog=P->X.w=w->X.K=K->X.calm=true->∀(i:Nat) (pins:List (Addr×Sv)) (s:QD) (σ:St) (H:Hp) (E:Value->QD->Prop),Inv X pins σ H s->(∀b∈fp,ki X pins H b)->tn i s.heap->J.stop i H→
  Q0 (Q5 P w) X.A (Z6 (.ref it)) (λr s1=>r=none/\Inv X pins σ H s1) E s
 self:∀(A:Rw) (i:Nat) (s:QD) (Q:Value->QD->Prop) (E:Value->QD->Prop),tn i s.heap->Q (.ref it) s->Q0 (Q5 P w) A (pyIter (.ref it)) Q E s
abbrev TI:=St->Hp->(It->Hp->Prop)->Prop
def OF(X:Cx)(pins:List (Addr×Sv))(σ:St)(tg:Ry)(R:It->Hp->Prop)(itv:Value)(s2:QD):Prop:=
 ∃(it:Addr) (fp:List Addr) (tn:Nat->QN->Prop) (J:It) (H':Hp),itv=.ref it/\Inv X pins σ H' s2/\uI X.prog X.w X.K tg J fp it tn/\tn 0 s2.heap/\(∀b∈fp,ki X pins H' b)/\R J H'
def PI(X:Cx)(tg iter:Ry)(wi:TI):Prop:=
 ∀(pins:List (Addr×Sv)) (s:QD) (σ:St) (H:Hp) (R:It->Hp->Prop),Inv X pins σ H s->wi σ H R→
  Q0 (Q5 X.prog X.w) X.A (eval iter X.env) (λv s1=>Q0 (Q5 X.prog X.w) X.A (pyIter v) (OF X pins σ tg R) X.xe s1) X.xe s
theorem xf(ho:s.heap.get? it=some o)(hc:o.cls=.type n)(hd:o.data=.fields vs)
  (hn:["enumerate","zip","dict_itemiterator","dict_reverseitemiterator","odict_iterator","itertools.zip_longest","itertools.pairwise"].contains n=false) (hQ:Q () s):Q0 M A (V5 tg (.ref it) u) Q E s:=by
 unfold V5
 cases tg<;>first
  |exact wpAny_pure hQ
  | (cases u<;>first
    |exact wpAny_pure hQ
    | (refine Qx (wpAny_load ho ?_)
       rw[hc,hd];show Q0 M A (if(["enumerate","zip","dict_itemiterator","dict_reverseitemiterator","odict_iterator","itertools.zip_longest","itertools.pairwise"].contains n&&vs[0]?==some (rawInt _))=true then _ else _) Q E s;rw[if_neg (by intro h;rw[hn,U0] at h;cases h)];exact wpAny_pure hQ))
def DJ(K:Qu)(a:Addr):It:=
 ⟨λi H=>∃xs x,aZ K H a xs/\xs[i]?=some x,λi H x H'=>H'=H/\∀xs,aZ K H a xs->xs[i]?=some x,λi H=>∃xs,aZ K H a xs/\xs.length≤i⟩
def DI(K:Qu)(a:Addr):It:=
 ⟨λi H=>∃xs x,bz K H a xs/\xs[i]?=some x,λi H x H'=>H'=H/\∀xs,bz K H a xs->xs[i]?=some x,λi H=>∃xs,bz K H a xs/\xs.length≤i⟩
def DA(lo:Int)(n:Nat):It:=⟨λi _=>i<n,λi H x H'=>H'=H/\x=.int (lo+i),λi _=>n≤i⟩
theorem pM{P:Rp}{w:RF}{K:Qu}{tg:Ry}(a it:Addr):uI P w K tg (DJ K a) [it] it (λi h=>h.IsListIter it a i) where
 mem:=by simp
 obj:=λi h st b hb=>by
  have e:b=it:=by simpa using hb
  subst e;obtain⟨o,e,c,d⟩:=st;exact⟨o,e,λv z=>by rw[d] at z;cases z⟩
 keep:=λi h h' st k=>st.at λo e=>k it (by simp) o e
 item:=by
  intro X hP hw hK hc i pins s σ H E I hf st hg;subst hP hw hK;obtain⟨xs,x,hq,hx⟩:=hg;obtain⟨its,rv,p,hz⟩:=I.list hq;obtain⟨u,hu,ru⟩:=rv.get hx;obtain⟨f0,f1,f2,f3,f4,f5⟩:=hf it (by simp);refine wpAny_pyNext_list_item st p.isList (x:=u) (by simpa using hu) λh' st' sb=>?_
  have I1:Inv X pins σ H { s with heap:=h'}:=I.turned (t':=s.toks) (λb o hb e=>(sb.2 b hb).trans e) f0 f1 f3 f4 f5;obtain⟨o,e,c,d⟩:=id st';exact⟨u,Z,xf (s:={ s with heap:=h'}) e c d δ ⟨x,H,I1,ru,⟨rfl,λys hy=>by rw[I.list_inj hy hq];exact hx⟩,st',λb hb=>(hf b hb).1⟩⟩
 done:=by
  intro X hP hw hK hc i pins s σ H E I hf st hg;subst hP hw hK;obtain⟨xs,hq,hx⟩:=hg;obtain⟨its,rv,p,hz⟩:=I.list hq;obtain⟨f0,f1,f2,f3,f4,f5⟩:=hf it (by simp);have hl:=rv.length;exact wpAny_pyNext_list_end (I.ok.hd hc) st p.isList (by simp;omega) λh' eb=>⟨Z,I.turned (t':=s.toks) (λb o hb e=>eb b o hb e) f0 f1 f3 f4 f5⟩
 self:=λ_ _ _ _ _ st h=>wpAny_pyIter_listiter st h
theorem nE{P:Rp}{w:RF}{K:Qu}{tg:Ry}(a it:Addr):uI P w K tg (DI K a) [it] it (λi h=>h.IsTupleIter it a i) where
 mem:=by simp
 obj:=λi h st b hb=>by
  have e:b=it:=by simpa using hb
  subst e;obtain⟨o,e,c,d⟩:=st;exact⟨o,e,λv z=>by rw[d] at z;cases z⟩
 keep:=λi h h' st k=>st.at λo e=>k it (by simp) o e
 item:=by
  intro X hP hw hK hc i pins s σ H E I hf st hg;subst hP hw hK;obtain⟨xs,x,hq,hx⟩:=hg;obtain⟨its,rv,p,hz⟩:=I.tuple hq;obtain⟨u,hu,ru⟩:=rv.get hx;obtain⟨f0,f1,f2,f3,f4,f5⟩:=hf it (by simp);refine wpAny_pyNext_tuple_item st (show s.heap.IsTuple a its.toArray from p) (x:=u) (by simpa using hu) λh' st' sb=>?_
  have I1:Inv X pins σ H { s with heap:=h'}:=I.turned (t':=s.toks) (λb o hb e=>(sb.2 b hb).trans e) f0 f1 f3 f4 f5;obtain⟨o,e,c,d⟩:=id st';exact⟨u,Z,xf (s:={ s with heap:=h'}) e c d δ ⟨x,H,I1,ru,⟨rfl,λys hy=>by rw[I.tuple_inj hy hq];exact hx⟩,st',λb hb=>(hf b hb).1⟩⟩
 done:=by
  intro X hP hw hK hc i pins s σ H E I hf st hg;subst hP hw hK;obtain⟨xs,hq,hx⟩:=hg;obtain⟨its,rv,p,hz⟩:=I.tuple hq;obtain⟨f0,f1,f2,f3,f4,f5⟩:=hf it (by simp);have hl:=rv.length;exact wpAny_pyNext_tuple_end (I.ok.hd hc) st (show s.heap.IsTuple a its.toArray from p) (by simp;omega) λh' eb=>⟨Z,I.turned (t':=s.toks) (λb o hb e=>eb b o hb e) f0 f1 f3 f4 f5⟩
 self:=λ_ _ _ _ _ st h=>wpAny_pyIter_tupleiter st h
theorem uQ{P:Rp}{w:RF}{K:Qu}{tg:Ry}(it:Addr)(lo:Int)(n:Nat):uI P w K tg (DA lo n) [it] it (λi h=>X2 h it (lo+(i:Nat)*1) ((n:Int)-(i:Nat)) 1) where
 mem:=by simp
 obj:=λi h st b hb=>by
  have e:b=it:=by simpa using hb
  subst e;exact⟨_,st,λv z=>by
   have z':WK _=Wr v:=z
   cases z'⟩
 keep:=λi h h' st k=>k it (by simp) _ st
 item:=by
  intro X hP hw hK hc i pins s σ H E I hf st hg;subst hP hw hK;obtain⟨f0,f1,f2,f3,f4,f5⟩:=hf it (by simp);have W:=Walks.range (prog:=X.prog) (w:=X.w) (I.ok.hd hc) it lo 1 n;refine W.item i s _ _ hg st λv h' tk hv st' kk=>?_
  obtain⟨t,rfl⟩:=hv;have I1:Inv X pins σ H { s with heap:=h',toks:=tk}:=I.turned (λb o hb e=>kk b o (by simpa using hb) e) f0 f1 f3 f4 f5;refine⟨_,rfl,xf (s:={ s with heap:=h',toks:=tk}) (n := "range_iterator") st' rfl rfl δ ⟨.int (lo+i),H,I1,⟨t,?_⟩,⟨rfl,rfl⟩,st',λb hb=>(hf b hb).1⟩⟩;rw[Int.mul_one]
 done:=by
  intro X hP hw hK hc i pins s σ H E I hf st hg;subst hP hw hK;obtain⟨f0,f1,f2,f3,f4,f5⟩:=hf it (by simp);exact Xv (I.ok.hd hc) st (by have:n≤i:=hg;omega) λh' eb=>⟨Z,I.turned (t':=s.toks) (λb o hb e=>eb b o hb e) f0 f1 f3 f4 f5⟩
 self:=λ_ _ _ _ _ st h=>Xw st h
end L2
namespace L2
open PySem PySem.Spec PyProof.Rows
section
variable {X:Cx}{tg:Ry}
inductive NI(x:V)(P Q:Addr->Prop):Prop where
 |mk (a:Addr) (e:x=.ref a) (h:P a) (k:Q a):NI x P Q
def CU(K:Qu)(tl:TE):TI:=λσ H R=>tl σ H λx H1=>NI x (λa=>∃xs,aZ K H1 a xs) λa=>R (DJ K a) H1
def Fg(K:Qu)(tl:TE):TI:=λσ H R=>tl σ H λx H1=>NI x (λa=>∃xs,bz K H1 a xs) λa=>R (DI K a) H1
theorem EA(hl:PE X l tl):PI X tg l (CU X.K tl):=by
 intro pins s σ H R I h;refine cL (hl pins s σ H _ I h) λv s1 ⟨x,H1,I1,r1,q1⟩=>?_
 obtain⟨a,e,⟨xs,hq⟩,q⟩:=q1;subst e
 cases r1
 obtain⟨its,rv,p,hz⟩:=I1.list hq;refine VE p.isList ?_;refine⟨s1.heap.objs.size,[s1.heap.objs.size],_,_,H1,Z,I1.kept (t':=s1.toks) λb o e=>Qy _ e,pM a _,⟨_,QZ _ Z,Z,Z⟩,λb hb=>?_,q⟩;have e:b=s1.heap.objs.size:=by simpa using hb
 subst e;exact I1.fpOk (QB _) (I1.hok.fresh (QB _))
theorem B1(hl:PE X l tl):PI X tg l (Fg X.K tl):=by
 intro pins s σ H R I h;refine cL (hl pins s σ H _ I h) λv s1 ⟨x,H1,I1,r1,q1⟩=>?_
 obtain⟨a,e,⟨xs,hq⟩,q⟩:=q1;subst e
 cases r1
 obtain⟨its,rv,p,hz⟩:=I1.tuple hq;refine Tw (show s1.heap.IsTuple a its.toArray from p) ?_;refine⟨s1.heap.objs.size,[s1.heap.objs.size],_,_,H1,Z,I1.kept (t':=s1.toks) λb o e=>Qy _ e,nE a _,⟨_,QZ _ Z,Z,Z⟩,λb hb=>?_,q⟩;have e:b=s1.heap.objs.size:=by simpa using hb
 subst e;exact I1.fpOk (QB _) (I1.hok.fresh (QB _))
theorem BF{pins:List (Addr×Sv)}{σ:St}{H:Hp}{s:QD}{R:It->Hp->Prop}{E:Value->QD->Prop}{lo hi:Int}{t u v:Tok}{tk:Nat}(I:Inv X pins σ H s)(h1:-(2^62)≤lo)(h2:lo<2^62)(h3:-(2^62)≤hi)(h4:hi<2^62)
  (q:R (DA lo (hi-lo).toNat) H):Q0 (Q5 X.prog X.w) X.A (pyIter (.ref s.heap.objs.size)) (OF X pins σ tg R) E { s with heap:=s.heap.push { cls:=.type "range",data:=.fields #[.int lo t,.int hi u,.int 1 v]},toks:=tk}:=by
 refine YF (Yg.new ..) (small_one h1 h2 h3 h4) ?_;have I1:Inv X pins σ H { s with heap:=s.heap.push { cls:=.type "range",data:=.fields #[.int lo t,.int hi u,.int 1 v]},toks:=tk}:=I.kept λb o e=>Qy _ e
 refine⟨(s.heap.push { cls:=.type "range",data:=.fields #[.int lo t,.int hi u,.int 1 v]}).objs.size,[(s.heap.push { cls:=.type "range",data:=.fields #[.int lo t,.int hi u,.int 1 v]}).objs.size],_,_,H,Z,
  I1.kept (t':=tk) λb o e=>Qy _ e,uQ _ lo (hi-lo).toNat,?_,λb hb=>?_,q⟩
 ·have e1:lo+((0:Nat):Int)*1=lo:=by simp
  have e2:(((hi-lo).toNat:Nat):Int)-((0:Nat):Int)=Si lo hi 1:=by rw[rangeSize_one];split<;>omega
  show X2 _ _ (lo+((0:Nat):Int)*1) ((((hi-lo).toNat:Nat):Int)-((0:Nat):Int)) 1;rw[e1,e2];exact QZ _ Z
 ·have e:b=(s.heap.push { cls:=.type "range",data:=.fields #[.int lo t,.int hi u,.int 1 v]}).objs.size:=by simpa using hb
  subst e;exact I1.fpOk (QB _) (I1.hok.fresh (QB _))
def Gk(ta:TA):TI:=λσ H R=>ta σ H λvs H1=>∃j:Int,vs=[.int j]/\-(2^62)≤j/\j<2^62/\R (DA 0 j.toNat) H1
def Ot(ta:TA):TI:=λσ H R=>ta σ H λvs H1=>∃i j:Int,vs=[.int i,.int j]/\(-(2^62)≤i/\i<2^62/\-(2^62)≤j/\j<2^62)/\R (DA i (j-i).toNat) H1
theorem yr{a:Ry}{ta:TA}{p pos:UE}(hg:Gl X "range")(hm:X.mg "range"=none)(ha:PA X [a] ta)(hs:QV [a] X.env=[(false,eval a X.env)]:=by rfl):PI X tg (.Call (.Name "range" p) [a] [] pos) (Gk ta):=by
 intro pins s σ H R I h;refine Call_ (ik I hg hm Z7 (Sc (cL (ha pos pins s σ H _ I h) λus s1 ⟨vs,H1,I1,r1,q1⟩=>?_) hs Z));obtain⟨j,e,q1,q2,q⟩:=q1;subst e
 cases r1 with
 |cons r rr=>
  cases rr
  obtain⟨t,rfl⟩:=r;exact call_range_1 (BF I1 ω ω q1 q2 (by simpa using q))
def KJ(wi:TI)(g:TG)(tb:TS):TS:=λD σ H=>wi σ H λJ H1=>∃W:Nat->Nat->St->Hp->Prop,(∃m,W 0 m σ H1)/\∀i m σ H,W i m σ H→
 (J.stop i H/\D.nx σ H)∨(J.go i H/\∃N:St->Hp->Prop,(∀σ' H',N σ' H'->∃m',m'<m/\W (i+1) m' σ' H')/\∀x H',J.yld i H x H'->g x σ H' λσ2 H2=>tb { D with nx:=N,ct:=N,bk:=D.nx} σ2 H2)
def oq(fp:List Addr)(h:QN):List (Addr×Sv):=fp.filterMap λb=>(h.get? b).map λo=>(b,o)
theorem ij(hb:b∈fp)(e:h.get? b=some o):(b,o)∈oq fp h:=YG.mpr ⟨b,hb,by rw[e];rfl⟩
theorem yw(hp:p∈oq fp h):p.1∈fp/\h.get? p.1=some p.2:=by
 obtain⟨b,hb,e⟩:=YG.mp hp
 cases q:h.get? b with
 |none=>rw[q] at e;cases e
 |some o=>
  rw[q] at e;have e':(b,o)=p:=R0 e;subst e';exact⟨hb,q⟩
theorem Inv.pinned{pins:List (Addr×Sv)}{σ:St}{H:Hp}{s:QD}{fp:List Addr}(I:Inv X pins σ H s)(hf:∀b∈fp,ki X pins H b)(ho:∀b∈fp,∃o,s.heap.get? b=some o/\∀v,o.data≠.cell v):Inv X (pins++oq fp s.heap) σ H s:=
 I.pins_of λp hp=>(Q6.mp hp).elim (λz=>I.pin p (Ro _ z)) λz=>by
  obtain⟨hb,e⟩:=yw z;obtain⟨f0,f1,f2,_⟩:=hf p.1 hb;obtain⟨o,e',d⟩:=ho p.1 hb;rw[e] at e';cases e';exact⟨e,f0,f1,f2,d⟩
theorem Inv.unpinned{pins pl:List (Addr×Sv)}{σ:St}{H:Hp}{s:QD}(I:Inv X (pins++pl) σ H s):Inv X pins σ H s:=I.pins_of λp hp=>I.pin p (Ro _ (Rt _ hp))
theorem Ic{iter:Ry}{body:List Stmt}{wi:TI}{g:TG}{tb:TS}{pos:UE}(hp:RD (Q5 X.prog X.w) X.A X.env X.xe)(hc:X.calm=true)(hi:PI X tg iter wi)(hg:PG X tg g)(hb:qp X body tb)
  (hs:∀x,Tk iter X.env x=TL x:=by intro _;rfl):PS X (.For tg iter body [] pos) (KJ wi g tb):=by
 intro pins s σ H D I h;refine wpAny_For (cL (hi pins s σ H _ I h) λv s1 h1=>cL h1 λitv s2 h2=>?_) hs;obtain⟨it,fp,tn,J,H2,e,I2,T,st2,f2,W,⟨m0,w0⟩,turn⟩:=h2;subst e;have stat:∀{H':Hp},(∀b∈fp,H' b=none)->∀b∈fp,ki X pins H' b:=λhn b hb=>⟨hn b hb,(f2 b hb).2⟩
 refine codeAny_forLoop_any (λn s'=>∃i σ' H',Inv X pins σ' H' s'/\tn i s'.heap/\(∀b∈fp,H' b=none)/\W i n σ' H') ?_ m0 ⟨0,σ,H2,I2,st2,λb hb=>(f2 b hb).1,w0⟩;rintro n s3 ⟨i,σ3,H3,I3,st3,fr3,w3⟩;rcases turn i n σ3 H3 w3 with⟨stop,qn⟩ | ⟨go,N,hN,step⟩
 ·refine Ur hp (cL (T.done X Z Z Z hc i pins s3 σ3 H3 X.xe I3 (stat fr3) st3 stop) λr s4 ⟨hr,I4⟩=>?_);subst hr;exact UN ⟨σ3,H3,I4,qn⟩
 ·refine Ur hp (cL (T.item X Z Z Z hc i pins s3 σ3 H3 X.xe I3 (stat fr3) st3 go) λr s4 ⟨u,hr,h4⟩=>?_);subst hr;refine Ur hp (cL h4 λ_ s5 ⟨x,H5,I5,r5,y5,st5,fr5⟩=>?_);have I5':=I5.pinned (stat fr5) (T.obj _ _ st5);refine Ur hp (cL (hg _ s5 σ3 H5 x u _ I5' r5 (step x H5 y5)) λ_ s6 ⟨σ6,H6,I6,q6⟩=>?_);refine Ur hp (cL (hb _ s6 σ6 H6 _ I6 q6) λf s7 q7=>?_);have again:∀{σ7:St} {H7:Hp},Inv X (pins++oq fp s5.heap) σ7 H7 s7->N σ7 H7->∃m,m<n/\∃i σ' H',Inv X pins σ' H' s7/\tn i s7.heap/\(∀b∈fp,H' b=none)/\W i m σ' H':=λ{σ7 H7} I7 n7=>by
   obtain⟨m',hm,w7⟩:=hN σ7 H7 n7;refine⟨m',hm,i+1,σ7,H7,I7.unpinned,T.keep _ _ _ st5 λb hb o e=>(I7.pin (b,o) (Ro _ (Ro _ (ij hb e)))).1,λb hb=>?_,w7⟩;obtain⟨o,e,d⟩:=T.obj _ _ st5 b hb;exact(I7.pin (b,o) (Ro _ (Ro _ (ij hb e)))).2.1
  cases f with
  |next=>obtain⟨σ7,H7,I7,n7⟩:=q7;exact again I7 n7
  |cont=>obtain⟨σ7,H7,I7,n7⟩:=q7;exact again I7 n7
  |brk=>obtain⟨σ7,H7,I7,q7⟩:=q7;exact⟨σ7,H7,I7.unpinned,q7⟩
  |ret v=>obtain⟨x7,σ7,H7,I7,r7,q7⟩:=q7;exact⟨x7,σ7,H7,I7.unpinned,r7,q7⟩
end
theorem iX{K:Qu}{a:Addr}{xs:List V}{g:TG}{tb:TS}{D:iE}{σ:St}{H:Hp}(Pv:Nat->St->Hp->Prop)(h0:Pv 0 σ H)(hl:∀i σ H,i≤xs.length->Pv i σ H->aZ K H a xs)
  (hs:∀i x σ H,xs[i]?=some x->Pv i σ H->g x σ H λσ2 H2=>tb { D with nx:=Pv (i+1),ct:=Pv (i+1),bk:=D.nx} σ2 H2) (hd:∀σ H,Pv xs.length σ H->D.nx σ H) :
  ∃W:Nat->Nat->St->Hp->Prop,(∃m,W 0 m σ H)/\∀i m σ H,W i m σ H→
   ((DJ K a).stop i H/\D.nx σ H)∨((DJ K a).go i H/\∃N:St->Hp->Prop,(∀σ' H',N σ' H'->∃m',m'<m/\W (i+1) m' σ' H')/\∀x H',(DJ K a).yld i H x H'->g x σ H' λσ2 H2=>tb { D with nx:=N,ct:=N,bk:=D.nx} σ2 H2):=by
 refine⟨λi m σ H=>m=xs.length-i/\i≤xs.length/\Pv i σ H,⟨xs.length,by simp,Re _,h0⟩,?_⟩;rintro i m σ H ⟨rfl,hi,p⟩;have q:=hl i σ H hi p;by_cases hlt:i<xs.length
 ·refine .inr ⟨⟨xs,xs[i],q,by simp[hlt]⟩,Pv (i+1),λσ' H' p'=>⟨xs.length-(i+1),ω,Z,hlt,p'⟩,λx H' y=>?_⟩;obtain⟨e,y⟩:=y;subst e;exact hs i x σ _ (y xs q) p
 ·have e:i=xs.length:=ω
  subst e;exact .inl ⟨⟨xs,q,QB _⟩,hd σ H p⟩
theorem gr{K:Qu}{a:Addr}{xs:List V}{g:TG}{tb:TS}{D:iE}{σ:St}{H:Hp}(Pv:Nat->St->Hp->Prop)(h0:Pv 0 σ H)(hl:∀i σ H,i≤xs.length->Pv i σ H->bz K H a xs)
  (hs:∀i x σ H,xs[i]?=some x->Pv i σ H->g x σ H λσ2 H2=>tb { D with nx:=Pv (i+1),ct:=Pv (i+1),bk:=D.nx} σ2 H2) (hd:∀σ H,Pv xs.length σ H->D.nx σ H) :
  ∃W:Nat->Nat->St->Hp->Prop,(∃m,W 0 m σ H)/\∀i m σ H,W i m σ H→
   ((DI K a).stop i H/\D.nx σ H)∨((DI K a).go i H/\∃N:St->Hp->Prop,(∀σ' H',N σ' H'->∃m',m'<m/\W (i+1) m' σ' H')/\∀x H',(DI K a).yld i H x H'->g x σ H' λσ2 H2=>tb { D with nx:=N,ct:=N,bk:=D.nx} σ2 H2):=by
 refine⟨λi m σ H=>m=xs.length-i/\i≤xs.length/\Pv i σ H,⟨xs.length,by simp,Re _,h0⟩,?_⟩;rintro i m σ H ⟨rfl,hi,p⟩;have q:=hl i σ H hi p;by_cases hlt:i<xs.length
 ·refine .inr ⟨⟨xs,xs[i],q,by simp[hlt]⟩,Pv (i+1),λσ' H' p'=>⟨xs.length-(i+1),ω,Z,hlt,p'⟩,λx H' y=>?_⟩;obtain⟨e,y⟩:=y;subst e;exact hs i x σ _ (y xs q) p
 ·have e:i=xs.length:=ω
  subst e;exact .inl ⟨⟨xs,q,QB _⟩,hd σ H p⟩
theorem d7{lo:Int}{n:Nat}{g:TG}{tb:TS}{D:iE}{σ:St}{H:Hp}(Pv:Nat->St->Hp->Prop)(h0:Pv 0 σ H)
  (hs:∀i σ H,i<n->Pv i σ H->g (.int (lo+i)) σ H λσ2 H2=>tb { D with nx:=Pv (i+1),ct:=Pv (i+1),bk:=D.nx} σ2 H2) (hd:∀σ H,Pv n σ H->D.nx σ H) :
  ∃W:Nat->Nat->St->Hp->Prop,(∃m,W 0 m σ H)/\∀i m σ H,W i m σ H→
   ((DA lo n).stop i H/\D.nx σ H)∨((DA lo n).go i H/\∃N:St->Hp->Prop,(∀σ' H',N σ' H'->∃m',m'<m/\W (i+1) m' σ' H')/\∀x H',(DA lo n).yld i H x H'->g x σ H' λσ2 H2=>tb { D with nx:=N,ct:=N,bk:=D.nx} σ2 H2):=by
 refine⟨λi m σ H=>m=n-i/\i≤n/\Pv i σ H,⟨n,by simp,Re _,h0⟩,?_⟩;rintro i m σ H ⟨rfl,hi,p⟩;by_cases hlt:i<n
 ·refine .inr ⟨hlt,Pv (i+1),λσ' H' p'=>⟨n-(i+1),ω,Z,hlt,p'⟩,λx H' y=>?_⟩;obtain⟨e,y⟩:=y;subst e y;exact hs i σ _ hlt p
 ·have e:i=n:=ω
  subst e;exact .inl ⟨QB _,hd σ H p⟩
end L2
namespace L2
open PySem PySem.Spec PyProof.Rows
abbrev R2:=V->V->Hp->VK->Prop
def ir(X:Cx)(f:Value->Value->Sem Value)(r:R2):Prop:=
 ∀(pins:List (Addr×Sv)) (s:QD) (σ:St) (H:Hp) (x y:V) (v u:Value) (Q:VK),Inv X pins σ H s->br x v->br y u->r x y H Q→
  Q0 (Q5 X.prog X.w) X.A (f v u) (EP X pins σ Q) X.xe s
def MI(X:Cx)(f:Value->Sem Value)(r:V->Hp->VK->Prop):Prop:=
 ∀(pins:List (Addr×Sv)) (s:QD) (σ:St) (H:Hp) (x:V) (v:Value) (Q:VK),Inv X pins σ H s->br x v->r x H Q→
  Q0 (Q5 X.prog X.w) X.A (f v) (EP X pins σ Q) X.xe s
def dF(X:Cx)(f:Value)(r:List V->Hp->VK->Prop):Prop:=
 ∀(pins:List (Addr×Sv)) (s:QD) (σ:St) (H:Hp) (xs:List V) (us:List Value) (Q:VK),Inv X pins σ H s->bu xs us->r xs H Q→
  Q0 (Q5 X.prog X.w) X.A (call f us) (EP X pins σ Q) X.xe s
def PU(X:Cx)(r:V->Hp->(Bool->Hp->Prop)->Prop):Prop:=
 ∀(pins:List (Addr×Sv)) (s:QD) (σ:St) (H:Hp) (x:V) (v:Value) (Q:Bool->Hp->Prop),Inv X pins σ H s->br x v->r x H Q→
  Q0 (Q5 X.prog X.w) X.A (truthy v) (TP X pins σ Q) X.xe s
def DP(r:R2)(ta tb:TE):TE:=λσ H Q=>ta σ H λx H1=>tb σ H1 λy H2=>r x y H2 Q
def NV(r:V->Hp->VK->Prop)(ta:TE):TE:=λσ H Q=>ta σ H λx H1=>r x H1 Q
def rI(C:Int->Int->Prop)(g:Int->Int->V):R2:=λx y H Q=>OH x y C λi j=>Q (g i j) H
def Gb(g:Int->Int->V):R2:=λx y H Q=>Mg x y λi j=>Q (g i j) H
def rU(g:Int->V):V->Hp->VK->Prop:=λx H Q=>NJ x λi=>Q (g i) H
section
variable {X:Cx}{a b c:Ry}{ta tb tc:TE}{pos:UE}
theorem JV(ha:PE X a ta)(hb:PE X b tb){pins:List (Addr×Sv)}{s:QD}{σ:St}{H:Hp}{R:V->V->Hp->Prop}(I:Inv X pins σ H s)
  (h:ta σ H λx H1=>tb σ H1 λy H2=>R x y H2) {Q:Value->QD->Prop} {f:Value->Value->Sem Value}
  (hf:∀v u s2 x y H2,Inv X pins σ H2 s2->br x v->br y u->R x y H2->Q0 (Q5 X.prog X.w) X.A (f v u) Q X.xe s2) :
  Q0 (Q5 X.prog X.w) X.A (eval a X.env) (λv s₁=>Q0 (Q5 X.prog X.w) X.A (eval b X.env) (λu s₂=>Q0 (Q5 X.prog X.w) X.A (f v u) Q X.xe s₂) X.xe s₁) X.xe s:=by
 refine cL (ha pins s σ H _ I h) λv s1 ⟨x,H1,I1,r1,q1⟩=>?_
 refine cL (hb pins s1 σ H1 _ I1 q1) λu s2 ⟨y,H2,I2,r2,q2⟩=>?_
 exact hf v u s2 x y H2 I2 r1 r2 q2
theorem Li(ho:ir X (Ua op) r)(ha:PE X a ta)(hb:PE X b tb):PE X (.BinOp a op b pos) (DP r ta tb):=by
 intro pins s σ H Q I h;exact wpAny_BinOp (JV ha hb I h λv u s2 x y H2 I2 rx ry q=>ho pins s2 σ H2 x y v u Q I2 rx ry q)
theorem Lh(ho:MI X (unaryOp op) r)(ha:PE X a ta):PE X (.UnaryOp op a pos) (NV r ta):=by
 intro pins s σ H Q I h;exact UnaryOp_ (cL (ha pins s σ H _ I h) λv s1 ⟨x,H1,I1,r1,q1⟩=>ho pins s1 σ H1 x v Q I1 r1 q1)
theorem IB{f:Value->Value->Sem Value}{C:Int->Int->Prop}{g:Int->Int->Int}
  (rule:∀(i j:Int) (t u:Tok) (s:QD) (Q:Value->QD->Prop) (E:Value->QD->Prop),C i j->Q (.int (g i j) s.toks) { s with toks:=s.toks+1}->Q0 (Q5 X.prog X.w) X.A (f (.int i t) (.int j u)) Q E s) :
  ir X f (rI C λi j=>.int (g i j)):=by
 intro pins s σ H x y v u Q I rx ry h;obtain⟨i,j,rfl,rfl,hc,q⟩:=h;obtain⟨t,rfl⟩:=rx;obtain⟨t',rfl⟩:=ry;exact rule i j t t' s _ _ hc ⟨.int (g i j),H,I.tok _,⟨_,Z⟩,q⟩
theorem Lq{f:Value->Value->Sem Value}{g:Int->Int->Int}
  (rule:∀(i j:Int) (t u:Tok) (s:QD) (Q:Value->QD->Prop) (E:Value->QD->Prop),Q (.int (g i j) s.toks) { s with toks:=s.toks+1}->Q0 (Q5 X.prog X.w) X.A (f (.int i t) (.int j u)) Q E s) :
  ir X f (Gb λi j=>.int (g i j)):=by
 intro pins s σ H x y v u Q I rx ry h;obtain⟨i,j,rfl,rfl,q⟩:=h;obtain⟨t,rfl⟩:=rx;obtain⟨t',rfl⟩:=ry;exact rule i j t t' s _ _ ⟨.int (g i j),H,I.tok _,⟨_,Z⟩,q⟩
theorem EU{f:Value->Value->Sem Value}{g:Int->Int->Bool}
  (rule:∀(i j:Int) (t u:Tok) (s:QD) (Q:Value->QD->Prop) (E:Value->QD->Prop),Q (.bool (g i j)) s->Q0 (Q5 X.prog X.w) X.A (f (.int i t) (.int j u)) Q E s) :
  ir X f (Gb λi j=>.bl (g i j)):=by
 intro pins s σ H x y v u Q I rx ry h;obtain⟨i,j,rfl,rfl,q⟩:=h;obtain⟨t,rfl⟩:=rx;obtain⟨t',rfl⟩:=ry;exact rule i j t t' s _ _ ⟨.bl (g i j),H,I,Z,q⟩
def NS(i j:Int):Prop:=0<j/\j<1073741824
def OJ(i j:Int):Prop:=j≠0/\j.natAbs<1073741824
def NQ(i j:Int):Prop:=0≤j/\j≤1000000/\i.natAbs<2^64
def Ke(i j:Int):Prop:=(-(2^64)<i/\i<2^64)∨(-(2^64)<j/\j<2^64)
theorem Ke.ok(h:Ke i j):IntMulOk i j:=by
 rcases h with⟨h1,h2⟩ | ⟨h1,h2⟩
 ·exact .of_left (intBits_le_64 h1 h2)
 ·exact .of_right (intBits_le_64 h1 h2)
theorem bJ:ir X (Ua .Add) (Gb λi j=>.int (i+j)):=Lq λ_ _ _ _ _ _ _ q=>add_int q
theorem fU:ir X (Ua .Sub) (Gb λi j=>.int (i-j)):=Lq λ_ _ _ _ _ _ _ q=>sub_int q
theorem ii:ir X (Ua .Mult) (rI Ke λi j=>.int (i*j)):=IB λ_ _ _ _ _ _ _ hc q=>mul_int q hc.ok
theorem wQ:ir X (Ua .FloorDiv) (rI NS λi j=>.int (i/j)):=IB λi j _ _ _ _ _ hc q=>by
 have h1:(0:Int)<j:=hc.1;have h2:j<1073741824:=hc.2;exact YY ω (by rw[U1 i ω];exact q) (.inl (Xx ω))
theorem fV:ir X (Ua .Mod) (rI (λ_ j=>0<j) λi j=>.int (i%j)):=IB λi j _ _ _ _ _ hc q=>by
 have h1:(0:Int)<j:=hc;exact mod_int' ω (by rw[Int.fmod_eq_emod_of_nonneg i ω];exact q)
theorem vB:ir X (Ua .Pow) (rI NQ λi j=>.int (i^j.toNat)):=IB λ_ _ _ _ _ _ _ hc q=>pow_int_small hc.1 hc.2.1 hc.2.2 q
theorem OQ{f:Value->Sem Value}{g:Int->Int}
  (rule:∀(i:Int) (t:Tok) (s:QD) (Q:Value->QD->Prop) (E:Value->QD->Prop),Q (.int (g i) s.toks) { s with toks:=s.toks+1}->Q0 (Q5 X.prog X.w) X.A (f (.int i t)) Q E s) :
  MI X f (rU λi=>.int (g i)):=by
 intro pins s σ H x v Q I rx h;obtain⟨i,rfl,q⟩:=h;obtain⟨t,rfl⟩:=rx;exact rule i t s _ _ ⟨.int (g i),H,I.tok _,⟨_,Z⟩,q⟩
theorem hX:MI X (unaryOp .USub) (rU λi=>.int (-i)):=OQ λ_ _ _ _ _ q=>neg_int q
end
def KS:V->V->Bool
 | .non,.non=>true | .non,.int _=>true | .int _,.non=>true | .non,.bl _=>true | .bl _,.non=>true | .non,.str _=>true | .str _,.non=>true
 | .int _,.int _=>true | .bl _,.bl _=>true | .str _,.str _=>true | .byt _,.byt _=>true
 | .int _,.str _=>true | .str _,.int _=>true | .bl _,.str _=>true | .str _,.bl _=>true
 |_,_=>false
def Ps:R2:=λx y H Q=>KS x y=true/\Q (.bl (decide (x=y))) H
def Pk:R2:=λx y H Q=>KS x y=true/\Q (.bl (!decide (x=y))) H
theorem xt:decide (V.int i=V.int j)=(i==j):=by
 rw[Su];simp
theorem Dj:decide (V.bl i=V.bl j)=(i==j):=by
 rw[Su];simp
theorem xr:decide (V.str i=V.str j)=(i==j):=by
 rw[Su];simp
theorem xy:decide (V.byt i=V.byt j)=(i.toList==j.toList):=by
 rw[Su]
 cases i
 cases j
 simp
section
variable {X:Cx}{a b c:Ry}{ta tb tc:TE}{pos:UE}
theorem bO{pins:List (Addr×Sv)}{σ:St}{H:Hp}{s:QD}{Q:VK}{k k':Bool}(I:Inv X pins σ H s)(q:Q (.bl k) H)(e:k=k'):EP X pins σ Q (.bool k') s:=by
 subst e;exact⟨.bl k,H,I,Z,q⟩
theorem eZ:ir X (Sw .Eq) Ps:=by
 intro pins s σ H x y v u Q I rx ry h;obtain⟨hs,q⟩:=h
 cases x with
 |non=>
  cases rx
  cases y with
  |non=>cases ry;exact PySem.EqNone.eq_none_none (bO I q (by simp))
  |bl j=>cases ry;exact PySem.EqNone.eq_none_bool (bO I q (by simp))
  |int j=>obtain⟨t',rfl⟩:=ry;exact PySem.EqNone.eq_none_int (bO I q (by simp))
  |str j=>obtain⟨t',rfl⟩:=ry;exact PySem.EqNone.eq_none_str (bO I q (by simp))
  |_=>exact absurd (show false=true from hs) Q4
 |bl i=>
  cases rx
  cases y with
  |non=>cases ry;exact PySem.EqNone.eq_bool_none (bO I q (by simp))
  |bl j=>cases ry;exact eq_bool (bO I q Dj)
  |str j=>obtain⟨t',rfl⟩:=ry;exact PySem.EqMixed.eq_bool_str (bO I q (by simp))
  |_=>exact absurd (show false=true from hs) Q4
 |int i=>
  obtain⟨t,rfl⟩:=rx
  cases y with
  |non=>cases ry;exact PySem.EqNone.eq_int_none (bO I q (by simp))
  |int j=>obtain⟨t',rfl⟩:=ry;exact eq_int (bO I q xt)
  |str j=>obtain⟨t',rfl⟩:=ry;exact PySem.EqMixed.eq_int_str (bO I q (by simp))
  |_=>exact absurd (show false=true from hs) Q4
 |str i=>
  obtain⟨t,rfl⟩:=rx
  cases y with
  |non=>cases ry;exact PySem.EqNone.eq_str_none (bO I q (by simp))
  |bl j=>cases ry;exact PySem.EqMixed.eq_str_bool (bO I q (by simp))
  |int j=>obtain⟨t',rfl⟩:=ry;exact PySem.EqMixed.eq_str_int (bO I q (by simp))
  |str j=>obtain⟨t',rfl⟩:=ry;exact eq_str (bO I q xr)
  |_=>exact absurd (show false=true from hs) Q4
 |byt i=>
  obtain⟨t,rfl⟩:=rx
  cases y with
  |byt j=>obtain⟨t',rfl⟩:=ry;exact PySem.W.eq_bytes (bO I q xy)
  |_=>exact absurd (show false=true from hs) Q4
 |_=>cases y<;>exact absurd (show false=true from hs) Q4
theorem Ci:ir X (Sw .NotEq) Pk:=by
 intro pins s σ H x y v u Q I rx ry h;obtain⟨hs,q⟩:=h
 cases x with
 |non=>
  cases rx
  cases y with
  |non=>cases ry;exact PySem.EqNone.ne_none_none (bO I q (by simp))
  |bl j=>cases ry;exact PySem.EqNone.ne_none_bool (bO I q (by simp))
  |int j=>obtain⟨t',rfl⟩:=ry;exact PySem.EqNone.ne_none_int (bO I q (by simp))
  |str j=>obtain⟨t',rfl⟩:=ry;exact PySem.EqNone.ne_none_str (bO I q (by simp))
  |_=>exact absurd (show false=true from hs) Q4
 |bl i=>
  cases rx
  cases y with
  |non=>cases ry;exact PySem.EqNone.ne_bool_none (bO I q (by simp))
  |bl j=>cases ry;exact ne_bool (bO I q (congrArg not Dj))
  |str j=>obtain⟨t',rfl⟩:=ry;exact PySem.EqMixed.ne_bool_str (bO I q (by simp))
  |_=>exact absurd (show false=true from hs) Q4
 |int i=>
  obtain⟨t,rfl⟩:=rx
  cases y with
  |non=>cases ry;exact PySem.EqNone.ne_int_none (bO I q (by simp))
  |int j=>obtain⟨t',rfl⟩:=ry;exact ne_int (bO I q (congrArg not xt))
  |str j=>obtain⟨t',rfl⟩:=ry;exact PySem.EqMixed.ne_int_str (bO I q (by simp))
  |_=>exact absurd (show false=true from hs) Q4
 |str i=>
  obtain⟨t,rfl⟩:=rx
  cases y with
  |non=>cases ry;exact PySem.EqNone.ne_str_none (bO I q (by simp))
  |bl j=>cases ry;exact PySem.EqMixed.ne_str_bool (bO I q (by simp))
  |int j=>obtain⟨t',rfl⟩:=ry;exact PySem.EqMixed.ne_str_int (bO I q (by simp))
  |str j=>obtain⟨t',rfl⟩:=ry;exact ne_str (bO I q (congrArg not xr))
  |_=>exact absurd (show false=true from hs) Q4
 |byt i=>
  obtain⟨t,rfl⟩:=rx
  cases y with
  |byt j=>obtain⟨t',rfl⟩:=ry;exact PySem.W.ne_bytes (bO I q (congrArg not xy))
  |_=>exact absurd (show false=true from hs) Q4
 |_=>cases y<;>exact absurd (show false=true from hs) Q4
theorem kK:ir X (Sw .Lt) (Gb λi j=>.bl (decide (i<j))):=EU λ_ _ _ _ _ _ _ q=>lt_int q
theorem mf:ir X (Sw .LtE) (Gb λi j=>.bl (decide (i≤j))):=EU λ_ _ _ _ _ _ _ q=>le_int q
theorem jz:ir X (Sw .Gt) (Gb λi j=>.bl (decide (j<i))):=EU λ_ _ _ _ _ _ _ q=>gt_int q
theorem Lp:ir X (Sw .GtE) (Gb λi j=>.bl (decide (j≤i))):=EU λ_ _ _ _ _ _ _ q=>ge_int q
theorem wO:ir X (Sw .IsNot) (λx y H Q=>y=.non/\Q (.bl (!decide (x=.non))) H):=by
 intro pins s σ H x y v u Q I rx ry h;obtain⟨rfl,q⟩:=h
 cases ry
 refine isnot_none_gen (bO I q ?_)
 cases x<;>first
  | (cases rx;rfl)
  | (obtain⟨t,rfl⟩:=rx;rfl)
def Op:HO->Bool
 | .lst _=>true
 | .ins _ _ _=>true
 |_=>false
theorem aV(b:Ry){op:CmpOp}(h:op≠.In:=by decide)(h2:op≠.NotIn:=by decide):Vl op b=false:=by
 have e1:(op==CmpOp.In)=false:=by cases op<;>first|rfl|exact absurd Z h
 have e2:(op==CmpOp.NotIn)=false:=by cases op<;>first|rfl|exact absurd Z h2
 cases b<;>simp[Vl,e1,e2]
theorem EJ(ho:ir X (Sw op) r)(ha:PE X a ta)(hb:PE X b tb)(hm:Vl op b=false):PE X (.Compare a [op] [b] pos) (DP r ta tb):=by
 intro pins s σ H Q I h;exact wpAny_Compare1 (JV ha hb I h λv u s2 x y H2 I2 rx ry q=>ho pins s2 σ H2 x y v u Q I2 rx ry q) hm
def FX(t:TE):TT:=λσ H Q=>t σ H λx H'=>Kq x λk=>Q k H'
theorem En(ho:ir X (Sw op) r)(ha:PE X a ta)(hb:PE X b tb)(hm:Vl op b=false):PT X (.Compare a [op] [b] pos) (FX (DP r ta tb)):=by
 intro pins s σ H Q I h;refine wpAny_isTrue_Compare1 (cL (ha pins s σ H _ I h) λv s1 ⟨x,H1,I1,r1,q1⟩=>cL (hb pins s1 σ H1 _ I1 q1) λu s2 ⟨y,H2,I2,r2,q2⟩=>
  cL (ho pins s2 σ H2 x y v u _ I2 r1 r2 q2) λc s3 ⟨z,H3,I3,r3,k,e,q3⟩=>?_) hm
 subst e
 cases r3
 exact TV ⟨H3,I3,q3⟩
def zV(r r':R2)(ta tb tc:TE):TE:=λσ H Q=>ta σ H λx H1=>tb σ H1 λy H2=>r x y H2 λz H3=>∃k,z=.bl k∧
 (if k=true then tc σ H3 λw' H4=>r' y w' H4 Q else Q (.bl false) H3)
theorem Ca{op op':CmpOp}{r r':R2}(ho:ir X (Sw op) r)(ho':ir X (Sw op') r')(ha:PE X a ta)(hb:PE X b tb)(hc:PE X c tc)
  (hm:lastMarks [op,op'] [b,c]=false:=by with_unfolding_all rfl):PE X (.Compare a [op,op'] [b,c] pos) (zV r r' ta tb tc):=by
 intro pins s σ H Q I h;refine Compare_chain (cL (ha pins s σ H _ I h) λv s1 ⟨x,H1,I1,r1,q1⟩=>chain_link (cL (hb pins s1 σ H1 _ I1 q1) λu s2 ⟨y,H2,I2,r2,q2⟩=>
  cL (ho pins s2 σ H2 x y v u _ I2 r1 r2 q2) λd s3 ⟨z,H3,I3,r3,k,e,q3⟩=>?_)) hm
 subst e
 cases r3
 refine TV ?_
 cases k with
 |false=>exact ite_ff ⟨.bl false,H3,I3,Z,q3⟩
 |true=>exact ite_tt (chain_last (cL (hc pins s3 σ H3 _ I3 q3) λw' s4 ⟨z',H4,I4,r4,q4⟩=>ho' pins s4 σ H4 y z' u w' Q I4 r2 r4 q4))
def PR(K:Qu)(x:V)(H:Hp)(k:Bool):Prop:=
 match x with
 | .non=>k=false
 | .bl b=>k=b
 | .int i=>k=(i != 0)
 | .str y=>y.length≤sizeLine/\k=((y.length:Int) != 0)
 | .byt y=>y.size≤sizeLine/\k=((y.size:Int) != 0)
 | .ref p=>(∃xs,aZ K H p xs/\k=!xs.isEmpty)∨(∃xs,bz K H p xs/\k=!xs.isEmpty)∨∃kvs,H p=some (.dK kvs)/\k=!kvs.isEmpty
 |_=>False
theorem rQ:(sizeLine:Nat)<2^63:=by rw[WL];decide
def L6(b:Ry):Prop:=∀o i,X3 b false o i=operate [o,i] (Wi o i)
theorem fP(r:bu [x] us):∃u,us=[u]/\br x u:=by
 cases r with
 |cons r1 r2=>cases r2;exact⟨_,Z,r1⟩
theorem pK(r:bu [x,y] us):∃u w',us=[u,w']/\br x u/\br y w':=by
 cases r with
 |cons r1 r2=>
  cases r2 with
  |cons r3 r4=>cases r4;exact⟨_,_,Z,r1,r3⟩
theorem gS:dF X (.builtin "abs") (λxs H Q=>∃i,xs=[.int i]/\Q (.int (if i<0 then -i else i)) H):=by
 intro pins s σ H xs us Q I r h;obtain⟨i,rfl,q⟩:=h;obtain⟨u,rfl,t,rfl⟩:=fP r;exact call_abs_int λu tk=>⟨.int (if i<0 then -i else i),H,I.tok _,⟨_,Z⟩,q⟩
theorem y9(hc:X.calm=true):dF X (.builtin "min") (λxs H Q=>∃i j,xs=[.int i,.int j]/\Q (.int (if j<i then j else i)) H):=by
 intro pins s σ H xs us Q I r h;obtain⟨i,j,rfl,q⟩:=h;obtain⟨u,w',rfl,⟨t,rfl⟩,⟨t',rfl⟩⟩:=pK r;refine min_two_ints (I.ok.hd hc) λh' tk k=>⟨_,H,I.kept k,?_,q⟩
 by_cases hj:j<i
 ·rw[if_pos hj,if_pos hj];exact⟨_,Z⟩
 ·rw[if_neg hj,if_neg hj];exact⟨_,Z⟩
theorem ze:dF X (.type "int") (λxs H Q=>(∃i,xs=[.int i]/\Q (.int i) H)∨∃k,xs=[.bl k]/\Q (.int (if k then 1 else 0)) H):=by
 intro pins s σ H xs us Q I r h;rcases h with⟨i,rfl,q⟩ | ⟨k,rfl,q⟩
 ·obtain⟨u,rfl,t,rfl⟩:=fP r;exact call_int_int ⟨.int i,H,I,⟨_,Z⟩,q⟩
 ·obtain⟨u,rfl,r1⟩:=fP r
  cases r1
  exact call_int_bool ⟨.int (if k then 1 else 0),H,I.tok _,⟨_,Z⟩,q⟩
def P4(K:Qu)(x:V)(H:Hp)(n:Nat):Prop:=
 match x with
 | .str y=>y.length≤sizeLine/\n=y.length
 | .byt y=>y.size≤sizeLine/\n=y.size
 | .ref p=>(∃xs,aZ K H p xs/\n=xs.length)∨∃xs,bz K H p xs/\n=xs.length
 |_=>False
end
end L2
namespace L2
open PySem PySem.Spec PyProof.Rows
structure J5(h:QN)(x dx C:Addr)(mA:Rr->Option Value):Prop where
 obj:h.get? x=some (XV C dx)
 ns:h.Ns1 dx mA
 ne:dx≠x
theorem p6{h:QN}(n:h.Ns1 dx mA):∃od,h.get? dx=some od/\∀name,Wv name od=some (mA name):=by
 obtain⟨o,es,ep,ho,hd,hk,_,hm⟩:=n;refine⟨o,ho,λname=>?_⟩;have e:=hm name;unfold nsFind findBy at e;rw[←Array.find?_toList] at e;unfold Wv;rw[hd];dsimp only
 split
 ·rename_i y q;rw[q] at e;exact congrArg some e
 ·rename_i q;rw[q] at e;have a:es.toList.any (·.refKey)=false:=by
   rw[VF];intro y hy;obtain⟨z,t,hkey⟩:=hk y (X4.mp hy);simp[Yh.refKey,hkey]
  have a':¬es.toList.any (·.refKey)=true:=by rw[a];exact Q4
  rw[if_neg a'];exact congrArg some e
theorem J5.look(I:J5 h x dx C mA):∃od,TM h x (XV C dx) C (some od)/\∀name,Wv name od=some (mA name):=
 let ⟨od,ho,hl⟩:=p6 I.ns
 ⟨od,⟨I.obj,Z,Z,ho⟩,hl⟩
section
variable {prog:Rp}{w:RF}{A:Rw}{E:Value->QD->Prop}{s:QD}{K:Qu}{x dx C f:Addr}{mA:Rr->Option Value}{name:Rr}{v:Value}
end
def HS(f:Rr)(v:V):List (Rr×V)->List (Rr×V)
 | []=>[(f,v)]
 | (g,x)::r=>if g=f then(g,v)::r else(g,x)::HS f v r
theorem io.some_of(r:io (some v) o):∃u,o=some u/\br v u:=by
 cases o with
 |none=>exact(show False from r).elim
 |some u=>exact⟨u,Z,r⟩
theorem yO(r:br v u):Zs u=true:=by
 cases v with
 |non=>cases(show u=Tc from r);rfl
 |bl b=>cases(show u=UY b from r);rfl
 |int i=>obtain⟨t,e⟩:=(show ∃t,u=Tv i t from r);cases e;rfl
 |str x=>obtain⟨t,e⟩:=(show ∃t,u=Xc x t from r);cases e;rfl
 |byt b=>obtain⟨t,e⟩:=(show ∃t,u=Value.bytes b t from r);cases e;rfl
 |flt b=>obtain⟨t,e⟩:=(show ∃t,u=ZJ b t from r);cases e;rfl
 |ref a=>cases(show u=Rz a from r);rfl
 |ty n=>cases(show u=Vv n from r);rfl
section
variable {P:Rp}{w:RF}{H H':Hp}{h h':QN}{a C dx:Addr}{fs fs':List (Rr×V)}
theorem Fd(hok:jM P w H h)(e:H a=some (.ins C dx fs)):∃mA,J5 h a dx C mA/\(∀f,io (fs.lookup f) (mA f))/\YU mA (fs.map (·.1))/\fs.length≤1000/\H dx=some (.own a):=by
 obtain⟨d,z,ne,ob,mA,n,r,q⟩:=(show ObjOk P w H h a (.ins C dx fs) from hok a _ e);exact⟨mA,⟨ob,n,ne⟩,r,q,z,d⟩
end
structure Kd(K:Qu)(C:Addr):Prop where
 pg:Zt K C Rr.empty=true
 hd:WM K C=true
 po:PySem.W.plainOver K C=true
 sa:R8 K (.ref C) "__setattr__"=some (some (.builtin "object.__setattr__"))
theorem Kd.get{K:Qu}{C:Addr}(c:Kd K C)(f:Rr):Zt K C f=true:=c.pg
def ft(K:Qu)(C:Addr)(f:Rr):Prop:=R8 K (.ref C) f=some none
structure P9(K:Qu)(C:Addr)(f:Rr)(v:V)(u:Value):Prop where
 at_:R8 K (.ref C) f=some (some u)
 rel:br v u
 get:WN K u "__get__"=some none
 cp:PySem.W.copiedNames.contains f=false
structure P3(K:Qu)(C:Addr)(m:Rr)(f:Addr):Prop where
 at_:R8 K (.ref C) m=some (some (.ref f))
 fn:PySem.W.isFn K (.ref f)=true
 kp:SH K (.ref f)=true
section
variable {X:Cx}{pins:List (Addr×Sv)}{σ:St}{H:Hp}{s:QD}{a C dx:Addr}{fs:List (Rr×V)}{f:Rr}{v:V}{A:Rw}{E:Value->QD->Prop}
theorem FD(hb:Ug e f env (eval e env)=eval e env)
  (h:Q0 (Q5 prog w) A (eval e env) (λo s₁=>Q0 (Q5 prog w) A (getAttr o f true) Q E s₁) E s):Q0 (Q5 prog w) A (eval (.Attribute e f pos) env) Q E s:=
 Attribute_any_ h (by rw[arm_eval_Attribute,hb])
end
inductive Mh(K:Qu)(H:Hp)(x:V)(f:Rr)(Q:V->Prop):Prop where
 |mk (a C dx:Addr) (fs:List (Rr×V)) (v:V) (e:x=.ref a) (h:H a=some (.ins C dx fs)) (c:Kd K C) (n:ft K C f) (l:fs.lookup f=some v) (k:Q v):Mh K H x f Q
def O1(K:Qu)(ta:TE)(f:Rr):TE:=λσ H Q=>ta σ H λx H1=>Mh K H1 x f λv=>Q v H1
def O8(K:Qu)(ta:TE)(f:Rr):TE:=λσ H Q=>ta σ H λx H1=>∃a C dx fs v u,x=.ref a/\H1 a=some (.ins C dx fs)/\Kd K C/\P9 K C f v u/\fs.lookup f=none/\Q v H1
def Pd(K:Qu)(ta tv:TE)(f:Rr):TS:=λD σ H=>tv σ H λy H1=>ta σ H1 λx H2=>∃a C dx fs,x=.ref a/\H2 a=some (.ins C dx fs)/\Kd K C/\ft K C f/\fs.length<1000∧
 D.nx σ (upd H2 a (.ins C dx (HS f y fs)))
def P6(X:Cx)(op:Z5)(rd:V->V->Hp->VK->Prop):Prop:=
 ∀(pins:List (Addr×Sv)) (s:QD) (σ:St) (H:Hp) (x y:V) (u v:Value) (Q:VK),Inv X pins σ H s->br x u->br y v->rd x y H Q->Q0 (Q5 X.prog X.w) X.A (inplaceOp op u v) (EP X pins σ Q) X.xe s
def Mx(K:Qu)(ta tv:TE)(rd:V->V->Hp->VK->Prop)(f:Rr):TS:=λD σ H=>ta σ H λx H1=>∃a C dx fs v,x=.ref a/\H1 a=some (.ins C dx fs)/\Kd K C/\ft K C f/\fs.lookup f=some v∧
 tv σ H1 λy H2=>rd v y H2 λz H3=>∃dx' fs',H3 a=some (.ins C dx' fs')/\fs'.length<1000/\D.nx σ (upd H3 a (.ins C dx' (HS f z fs')))
section
variable {X:Cx}{o e value:Ry}{f:Rr}{pos pos' tpos:UE}{ta tv:TE}
def Pu:V->V->Hp->VK->Prop:=λx y H Q=>Mg x y λi j=>Q (.int (i+j)) H
def Pg:V->V->Hp->VK->Prop:=λx y H Q=>Mg x y λi j=>Q (.int (i-j)) H
end
section
variable {X:Cx}{pins:List (Addr×Sv)}{σ:St}{H:Hp}{s:QD}{A:Rw}{E:Value->QD->Prop}{Q:Value->QD->Prop}{c:Value}{b:Bool}
inductive l6(K:Qu)(H:Hp):V->Value->Prop where
 |non:l6 K H .non (.type "NoneType")
 |bl (x:Bool):l6 K H (.bl x) (.type "bool")
 |int (i:Int):l6 K H (.int i) (.type "int")
 |str (x:Rr):l6 K H (.str x) (.type "str")
 |flt (x:UInt64):l6 K H (.flt x) (.type "float")
 |lst {a:Addr} {xs:List V} (e:H a=some (.lst xs)):l6 K H (.ref a) (.type "list")
 |frz {a:Addr} {o:Sv} {xs:List V} (e:H a=some (.frz o (.lst xs))):l6 K H (.ref a) (.type "list")
 |tup {a:Addr} {xs:List V} (e:H a=some (.tup xs)):l6 K H (.ref a) (.type "tuple")
 |dK {a:Addr} {kvs:List (dB×V)} (e:H a=some (.dK kvs)):l6 K H (.ref a) (.type "dict")
 |dT {a:Addr} {kvs:List (List dB×V)} (e:H a=some (.dT kvs)):l6 K H (.ref a) (.type "dict")
 |ins {a C dx:Addr} {fs:List (Rr×V)} (e:H a=some (.ins C dx fs)) (cl:Kd K C) (ha:R8 K (.ref C) "__class__"=some (some (.builtin "object.__class__")))
   (hn:WN K (.builtin "object.__class__") "__get__"=some (some (.builtin "getset_descriptor.__get__"))) (htk:ZV K (.builtin "object.__class__")=some true)
   (hm:Yu K C (.type "object")=some true):l6 K H (.ref a) (.ref C)
theorem yJ(I:Inv X pins σ H s)(rx:br x u)(ty:l6 X.K H x t)(e:U2 X.K t c=some b)(h:∀tk,Q (.bool b) { s with toks:=tk}):
  Q0 (Q5 X.prog X.w) A (call (.builtin "isinstance") [u,c]) Q E s:=by
 cases ty with
 |non=>cases(show u=Tc from rx);exact Se PySem.W.kitx_none I.kIn UH e (λz=>nomatch z) h
 |bl y=>cases(show u=UY y from rx);exact Se PySem.W.kitx_bool I.kIn UH e (λz=>nomatch z) h
 |int i=>obtain⟨t,q⟩:=(show ∃t,u=Tv i t from rx);cases q;exact Se PySem.W.kitx_int I.kIn UH e (λz=>nomatch z) h
 |str y=>obtain⟨t,q⟩:=(show ∃t,u=Xc y t from rx);cases q;exact Se PySem.W.kitx_str I.kIn UH e (λz=>nomatch z) h
 |flt y=>obtain⟨t,q⟩:=(show ∃t,u=ZJ y t from rx);cases q;exact Se PySem.W.kitx_float I.kIn UH e (λz=>nomatch z) h
 | @lst a xs ea=>
  cases(show u=Rz a from rx)
  obtain⟨_,_,n,_,h1⟩:=(show ObjOk X.prog X.w H s.heap a (.lst xs) from I.hok a _ ea);exact Se WO I.kIn ⟨_,h1,Z⟩ e (λz=>nomatch z) h
 | @frz a ob xs ea=>
  cases(show u=Rz a from rx)
  obtain⟨_,_,_,n,_,h1⟩:=(show ObjOk X.prog X.w H s.heap a (.frz ob (.lst xs)) from I.hok a _ ea);exact Se WO I.kIn ⟨_,h1,Z⟩ e (λz=>nomatch z) h
 | @tup a xs ea=>
  cases(show u=Rz a from rx)
  obtain⟨_,_,_,p⟩:=(show ObjOk X.prog X.w H s.heap a (.tup xs) from I.hok a _ ea);obtain⟨o,h1,h2,_⟩:=p;exact Se YH I.kIn ⟨o,h1,h2⟩ e (λz=>nomatch z) h
 | @dK a kvs ea=>
  cases(show u=Rz a from rx)
  obtain⟨_,_,vs,_,p⟩:=(show ObjOk X.prog X.w H s.heap a (.dK kvs) from I.hok a _ ea);obtain⟨o,es,ep,h1,h2,_⟩:=p;exact Se YZ I.kIn ⟨o,h1,h2.1⟩ e (λz=>nomatch z) h
 | @dT a kvs ea=>
  cases(show u=Rz a from rx)
  obtain⟨_,_,xs,_,o,es,ep,h1,h2,_⟩:=(show ObjOk X.prog X.w H s.heap a (.dT kvs) from I.hok a _ ea);exact Se YZ I.kIn ⟨o,h1,h2.1⟩ e (λz=>nomatch z) h
 | @ins a C dx fs ea cl ha hn htk hm=>
  cases(show u=Rz a from rx)
  obtain⟨mA,O,_⟩:=Fd I.hok ea;obtain⟨od,J,_⟩:=O.look;exact Se (PySem.W.kitx_own (cl.get _) cl.hd ha hn htk hm) I.kIn J e (λz=>nomatch z) h
end
end L2
namespace L2
open PySem PySem.Spec PyProof.Rows
structure dN(k:Nat)(A:Rw):Prop where
 hd:A.handled=none
 dp:A.depth+3*k+5<recursionLimit
 un:A.units+16*k+200<cLine
 gd:A.guards=some []
theorem dN.mono(r:dN k A)(h:j≤k):dN j A:=⟨r.hd,by have:=r.dp;omega,by have:=r.un;omega,r.gd⟩
theorem dN.deeper(r:dN (k+1) A)(env:ZU):dN k (A.deeper env):=
 ⟨r.hd,by have:=r.dp;show A.depth+1+3*k+5<_;omega,by have:=r.un;show A.units+3+16*k+200<_;omega,r.gd⟩
theorem vQ{A:Rw}:(A.under (.builtin "type.__call__" ⟨.ref C:: us,kw⟩)).depth=A.depth+1:=by
 first|rfl|simp[Xy,Y0.weight,Y0.isCreation,Y0.isGuard,Y0.isCaller,Y0.frames,Y1,guardIds]
theorem vP{A:Rw}:(A.under (.builtin "type.__call__" ⟨.ref C:: us,kw⟩)).units=A.units+1:=by
 first|rfl|simp[Xy,Y0.cUnits,Y0.frames,Y1]
theorem uj{A:Rw}:(A.under (.builtin "type.__call__" ⟨.ref C:: us,kw⟩)).guards=A.guards:=by
 first|rfl|simp[Xy,Y0.guards,Y0.isGuard,guardIds,pushGuards]
theorem dN.make(r:dN (k+1) A)(C:Addr)(us:List Value)(kw:List (Rr×Value)):dN k (A.under (.builtin "type.__call__" ⟨.ref C:: us,kw⟩)):=
 ⟨r.hd,by have:=r.dp;rw[vQ];omega,by have:=r.un;rw[vP];omega,by rw[uj];exact r.gd⟩
theorem dN.depth(r:dN k A):A.depth<recursionLimit:=by have:=r.dp;omega
theorem dN.units(r:dN k A):A.units+64<cLine:=by have:=r.un;omega
def KG:TA:=λ_ H Q=>Q [] H
def F5(ta:TE)(tr:TA):TA:=λσ H Q=>ta σ H λx H1=>tr σ H1 λxs H2=>Q (x::xs) H2
section
variable {X:Cx}{e:Ry}{es:List Ry}{te:TE}{t:TA}{pos:UE}
theorem Iz:PA X [] KG:=λ_ _ _ _ H Q I h=>Calls.spliced_nil ⟨[],H,I,.nil,h⟩
theorem ER(ha:PE X e te)(hr:PA X es t)(hs:QV (e::es) X.env=(false,eval e X.env)::QV es X.env:=by rfl):PA X (e::es) (F5 te t):=by
 intro pos pins s σ H Q I h;rw[hs];show Q0 _ _ (spliced ((false,eval e X.env)::Uv pos (QV es X.env))) _ _ s;refine Calls.spliced_cons (cL (ha pins s σ H _ I h) λu s1 ⟨x,H1,I1,r1,q1⟩=>?_);exact cL (hr pos pins s1 σ H1 _ I1 q1) λus s2 ⟨xs,H2,I2,r2,q2⟩=>⟨x::xs,H2,I2,.cons r1 r2,q2⟩
def KA(t:TA):TE:=λσ H Q=>t σ H λxs H1=>xs.length≤sizeLine/\∀p,H1 p=none->Q (.ref p) (upd H1 p (.tup xs))
def KH(t:TA):TE:=λσ H Q=>t σ H λxs H1=>xs.length≤sizeLine/\∀p,H1 p=none->Q (.ref p) (upd H1 p (.lst xs))
theorem Io{x1}(h:PA X es t):PE X (.Tuple es x1 pos) (KA t):=by
 intro pins s σ H Q I hq;refine wpAny_Tuple_spliced (cL (h pos pins s σ H _ I hq) λus s1 ⟨xs,H1,I1,r,z,q⟩=>⟨by rw[←r.length];exact z,?_⟩);have hf:H1 s1.heap.objs.size=none:=I1.hok.fresh (QB _);refine⟨.ref s1.heap.objs.size,upd H1 s1.heap.objs.size (.tup xs),I1.laid (t':=s1.toks) (λb u e=>Qy _ e) (QB _) ?_,Z,q _ hf⟩;exact⟨z,us,r,⟨_,QZ _ Z,Z,_,Z⟩⟩
theorem Iv(h:PA X es t):PE X (.List es pos) (KH t):=by
 intro pins s σ H Q I hq;refine wpAny_List_spliced (cL (h pos pins s σ H _ I hq) λus s1 ⟨xs,H1,I1,r,z,q⟩=>⟨by rw[←r.length];exact z,?_⟩);have hf:H1 s1.heap.objs.size=none:=I1.hok.fresh (QB _);refine⟨.ref s1.heap.objs.size,upd H1 s1.heap.objs.size (.lst xs),I1.laid (t':=s1.toks) (λb u e=>Qy _ e) (QB _) ?_,Z,q _ hf⟩;exact⟨z,us,0,r,QZ _ Z⟩
end
abbrev Sp:=List V->Hp->VK->XK->Prop
abbrev uP:=List ZU->Hp->QD->XK->Value->QD->Prop
structure uN(P:Rp)(w:RF)(K:Qu)(mg:Rr->Option Value)(base:QN)(A:Rw)(outer:List ZU)(s:QD)(H:Hp):Prop where
 frames:A.frames=some outer
 mod:Mod K mg base
 bs:∀b o,base.get? b=some o->s.heap.get? b=some o/\H b=none
 bsz:base.objs.size≤s.heap.objs.size
 funs:s.heap.FunFrames base outer
 frf:∀b∈ph outer,H b=none
 hok:jM P w H s.heap
 bare:V0 s.gens
def CE(outer:List ZU)(P:Rp)(w:RF)(H:Hp)(s:QD)(Q:VK)(u:Value)(s':QD):Prop:=
 ∃v H',s'.os=s.os/\V0 s'.gens/\Un (ph outer) [] H H' s.heap s'.heap/\jM P w H' s'.heap/\br v u/\Q v H'
def CR(CX:uP)(outer:List ZU)(P:Rp)(w:RF)(H:Hp)(s:QD)(Q:VK)(E:XK)(r:YI)(s':QD):Prop:=
 match r with
 | .ok (.ret u)=>CE outer P w H s Q u s'
 | .ok _=>False
 | .error e=>CX outer H s E e s'
structure bi(P:Rp)(w:RF)(K:Qu)(mg:Rr->Option Value)(base:QN)(CX:uP)(k:Nat)(f:Addr)(fd:QF)(ps:List Rr)(sp:Sp):Prop where
 len:∀vs H Q E,sp vs H Q E->vs.length=ps.length
 run:∀(A:Rw) (outer:List ZU) (s:QD) (H:Hp) (args:Args) (us:List Value) (vs:List V) (Q:VK) (E:XK),dN k A->uN P w K mg base A outer s H->Xz s fd args (ps.zip us)->bu vs us->sp vs H Q E→
  Vd (Q5 P w) A (.call (.ref f) args) (CR CX outer P w H s Q E) s
theorem uN.make{P:Rp}{w:RF}{K:Qu}{mg:Rr->Option Value}{base:QN}{A:Rw}{outer:List ZU}{s:QD}{H:Hp}(e:uN P w K mg base A outer s H)(C:Addr)(us:List Value)(kw:List (Rr×Value)) :
  uN P w K mg base (A.under (.builtin "type.__call__" ⟨.ref C::us,kw⟩)) outer s H:=⟨by first|exact e.frames | (simpa [Xy,Y0.envs,Y1,pushEnvs] using e.frames),e.mod,e.bs,e.bsz,e.funs,e.frf,e.hok,e.bare⟩
section
variable {X:Cx}{pins:List (Addr×Sv)}{σ:St}{H:Hp}{s s':QD}
theorem Inv.env0(I:Inv X pins σ H s):uN X.prog X.w X.K X.mg X.base X.A X.stack s H:=
 ⟨I.ok.frames,I.ok.mod,I.bs,Rm I.ok.bsz I.sz,I.stack,I.stkFree,I.hok,I.bare⟩
theorem Inv.after(I:Inv X pins σ H s)(h:CE X.stack X.prog X.w H s Q u s'):EP X pins σ Q u s':=by
 obtain⟨v,H',os,bare,un,hok,r,q⟩:=h;obtain⟨hh,g,d,t,os'⟩:=s';obtain rfl:os'=s.os:=os;exact⟨v,H',I.call (h':=hh) (g':=g) (d':=d) (t':=t) (ch:=[]) un hok bare (λb z=>absurd z (by simp)),r,q⟩
end
def sY(sp:Sp)(dvs:List V)(E:XK)(t:TA):TE:=λσ H Q=>t σ H λvs H1=>sp (vs++dvs) H1 Q E
def N5(C:Addr)(m:Rr)(sp:Sp)(dvs:List V)(E:XK)(ta:TE)(t:TA):TE:=λσ H Q=>ta σ H λx H1=>∃a dx fs,x=.ref a/\H1 a=some (.ins C dx fs)/\fs.lookup m=none∧
 t σ H1 λvs H2=>sp (x::(vs++dvs)) H2 Q E
def N6(C:Addr)(sp:Sp)(dvs:List V)(E:XK)(t:TA):TE:=λσ H Q=>t σ H λvs H1=>∀x dx,H1 x=none->H1 dx=none->dx≠x→
 sp (.ref x::(vs++dvs)) (upd (upd H1 dx (.own x)) x (.ins C dx [])) (λv H2=>v=.non/\Q (.ref x) H2) E
def aP(K:Qu)(fd:QF)(ps:List Rr)(ds:List Value):Prop:=
 ∀(s:QD) (us:List Value),K.In s.heap->(us++ds).length=ps.length->Xz s fd ⟨us,[]⟩ (ps.zip (us++ds))
theorem aP.all{K:Qu}{fd:QF}{ps:List Rr}(h:∀us:List Value,us.length=ps.length->Z8 fd ⟨us,[]⟩=TL (ps.zip us)):aP K fd ps []:=λs us _ hl=>by
 rw[R6] at hl ⊢;exact .of_eq (h us hl)
def l7(CX:uP)(X:Cx)(E:XK):Prop:=∀(pins:List (Addr×Sv)) (σ:St) (H:Hp) (s:QD) (e:Value) (s':QD),Inv X pins σ H s->CX X.stack H s E e s'->X.xe e s'
section
variable {X:Cx}{CX:uP}{k:Nat}{f C:Addr}{fd:QF}{ps:List Rr}{sp:Sp}{dvs:List V}{ds:List Value}{E:XK}{x m:Rr}{p pos apos:UE}{e o:Ry}{es:List Ry}{ta:TE}{t:TA}
theorem Hs{pins:List (Addr×Sv)}{σ:St}{H:Hp}{s:QD}{Q:VK}{us:List Value}{vs:List V}(F:bi X.prog X.w X.K X.mg X.base CX k f fd ps sp)(hr:dN k X.A)(hb:aP X.K fd ps ds)(hd:bu dvs ds)(hx:l7 CX X E)
  (I:Inv X pins σ H s) (r:bu vs us) (h:sp (vs++dvs) H Q E):Q0 (Q5 X.prog X.w) X.A (call (.ref f) us) (EP X pins σ Q) X.xe s:=by
 have r2:bu (vs++dvs) (us++ds):=r.append hd;have hl:(us++ds).length=ps.length:=by rw[←r2.length];exact F.len _ _ _ _ h
 refine XA (VG (F.run X.A X.stack s H ⟨us,[]⟩ (us++ds) (vs++dvs) Q E hr I.env0 (hb s us I.kIn hl) r2 h) λr s' hq=>?_)
 cases r with
 |error e=>exact hx pins σ H s e s' I hq
 |ok fl=>
  cases fl with
  |ret u=>exact I.after hq
  |next=>exact SJ hq
  |brk=>exact SJ hq
  |cont=>exact SJ hq
theorem EK(F:bi X.prog X.w X.K X.mg X.base CX k f fd ps sp)(hr:dN k X.A)(hg:Gl X x)(hm:X.mg x=some (.ref f))(hk:SH X.K (.ref f)=true)(hb:aP X.K fd ps ds)(hd:bu dvs ds)(hx:l7 CX X E)
  (ha:PA X (e::es) t) (hdb:(x==("__debug__" : Rr))=false:=by decide) (he:QV (e::es) X.env=(false,eval e X.env)::QV es X.env:=by rfl) (hpl:(Uv pos (QV es X.env)).any (·.1)=false:=by rfl) :
  PE X (.Call (.Name x p) (e::es) [] pos) (sY sp dvs E t):=by
 intro pins s σ H Q I h;refine UI (jo I hg hm ?_ hdb);refine Ww (h₀:=X.base) I.ok.mod.kin hk (cL (ha pos pins s σ H _ I h) λus s1 ⟨vs,H1,I1,r,q⟩=>⟨I1.kIn,?_⟩) he hpl;exact Hs F hr hb hd hx I1 r q
structure Mk(K:Qu)(C f:Addr):Prop where
 makes:PySem.W.makesIn K C=true
 init:R8 K (.ref C) "__init__"=some (some (.ref f))
 fn:PySem.W.isFn K (.ref f)=true
 kp:SH K (.ref C)=true
end
def PK(X:Cx)(kws:List Wj)(t:TA):Prop:=
 ∀(pos:UE) (pins:List (Addr×Sv)) (s:QD) (σ:St) (H:Hp) (Q:List V->Hp->Prop),Inv X pins σ H s->t σ H Q->Q0 (Q5 X.prog X.w) X.A (evalAll ((Y2 pos (WP kws X.env)).map (·.2))) (AP X pins σ Q) X.xe s
section
variable {X:Cx}{CX:uP}{k:Nat}{f C:Addr}{fd:QF}{ps ks:List Rr}{sp:Sp}{E:XK}{x m:Rr}{p pos apos kpos:UE}{e o:Ry}{es:List Ry}{kws:List Wj}{te ta:TE}{t tk:TA}{nm:Option Rr}
structure NE(K:Qu)(fd:QF)(ps ks:List Rr)(g:List Value->List Value->List Value)(gV:List V->List V->List V):Prop where
 to:∀(s:QD) (us ws:List Value),K.In s.heap->(g us ws).length=ps.length->Xz s fd ⟨us,ks.zip ws⟩ (ps.zip (g us ws))
 rel:∀{vs:List V} {us:List Value} {zs:List V} {ws:List Value},bu vs us->bu zs ws->bu (gV vs zs) (g us ws)
def MW(sp:Sp)(gV:List V->List V->List V)(E:XK)(t tk:TA):TE:=λσ H Q=>t σ H λvs H1=>tk σ H1 λzs H2=>sp (gV vs zs) H2 Q E
variable {g:List Value->List Value->List Value}{gV:List V->List V->List V}
end
structure aA(N P:List Rr)(sc:UZ):Prop where
 kind:sc.kind=.function
 co:sc.isCoroutine=false
 gen:sc.isGenerator=false
 nd:N.Nodup
 pre:N.take P.length=P
 par:∀x∈P,sc.names.lookup x=some .local∨sc.names.lookup x=some .cell
 nofree:∀y∈sc.names,y.2≠.free
theorem qi{kindOf:Rr->Option Vm}{x:Rr}:∀{binds:List (Rr×Value)} {m:Rr->Option Value},(∀v,(x,v)∉binds)->Z9 kindOf binds m x=m x
 | [],_,_=>rfl
 | (n,v)::r,m,h=>by
  unfold Z9;rw[qi λw hw=>h w (QP _ hw)]
  split
  ·have:x≠n:=by rintro rfl;exact h v QL
   simp[this]
  ·rfl
theorem qk{kindOf:Rr->Option Vm}{x:Rr}:∀{binds:List (Rr×Value)} {m:Rr->Option Value},(∀v,(x,v)∉binds)->bindC kindOf binds m x=m x
 | [],_,_=>rfl
 | (n,v)::r,m,h=>by
  unfold bindC;rw[qk λw hw=>h w (QP _ hw)]
  split
  ·rfl
  ·have:x≠n:=by rintro rfl;exact h v QL
   simp[this]
theorem qj{kindOf:Rr->Option Vm}{x:Rr}{v:Value}:∀{P:List Rr} {vs:List Value} {i:Nat} {m:Rr->Option Value},P.Nodup->P[i]?=some x->vs[i]?=some v->kindOf x=some .local→
  Z9 kindOf (P.zip vs) m x=some v
 | [],_,_,_,_,h,_,_=>by simp at h
 |_::_,[],_,_,_,_,h,_=>by simp at h
 |p::P,w::vs,0,m,nd,h1,h2,hk=>by
  simp at h1 h2;subst h1;subst h2;show Z9 kindOf ((p,w)::P.zip vs) m p=_;unfold Z9;rw[qi λv hv=>(RO.mp nd).1 (XW hv).1,if_pos hk];simp
 |p::P,w::vs,i+1,m,nd,h1,h2,hk=>by
  show Z9 kindOf ((p,w)::P.zip vs) m x=_;unfold Z9;exact qj (i:=i) (RO.mp nd).2 (by simpa using h1) (by simpa using h2) hk
theorem ql{kindOf:Rr->Option Vm}{x:Rr}{v:Value}:∀{P:List Rr} {vs:List Value} {i:Nat} {m:Rr->Option Value},P.Nodup->P[i]?=some x->vs[i]?=some v->kindOf x≠some .local→
  bindC kindOf (P.zip vs) m x=some v
 | [],_,_,_,_,h,_,_=>by simp at h
 |_::_,[],_,_,_,_,h,_=>by simp at h
 |p::P,w::vs,0,m,nd,h1,h2,hk=>by
  simp at h1 h2;subst h1;subst h2;show bindC kindOf ((p,w)::P.zip vs) m p=_;unfold bindC;rw[qk λv hv=>(RO.mp nd).1 (XW hv).1,if_neg hk];simp
 |p::P,w::vs,i+1,m,nd,h1,h2,hk=>by
  show bindC kindOf ((p,w)::P.zip vs) m x=_;unfold bindC;exact ql (i:=i) (RO.mp nd).2 (by simpa using h1) (by simpa using h2) hk
def kr(N:List Rr)(vs:List V):St:=vs.map some++Rf (N.length-vs.length) none
def bw(CX:uP)(P:Rp)(w:RF)(K:Qu)(mg:Rr->Option Value)(base:QN)(N:List Rr)(qual:Rr)(scope:UZ)(f:Addr)(cd:Value)(A:Rw)(outer:List ZU)(s:QD)(H:Hp)(E:XK):Cx where
 prog:=P
 w:=w
 K:=K
 mg:=mg
 base:=base
 A:=A.deeper (XB qual scope s.heap.objs.size f cd)
 N:=N
 s₀:=s
 H₀:=H
 env:=XB qual scope s.heap.objs.size f cd
 outer:=outer
 stack:=XB qual scope s.heap.objs.size f cd::outer
 ex:=[]
 calm:=true
 fn:=λ_=>true
 pn:=[]
 xe:=λe s'=>Q0 (Q5 P w) (A.deeper (XB qual scope s.heap.objs.size f cd)) (leaving (XB qual scope s.heap.objs.size f cd) e) (λ_ s''=>CX outer H s E e s'') (λe' s''=>CX outer H s E e' s'') s'
theorem uE{sc:UZ}(h:sc.names.lookup x=some .cell):∃c,(Xf n sc.names []).lookup x=some c:=by
 have q:=XD sc.names n [] (.inl h);exact SR.mp q
theorem yK{CX:uP}{P:Rp}{w:RF}{K:Qu}{mg:Rr->Option Value}{base:QN}{N ps:List Rr}{qual:Rr}{scope:UZ}{f:Addr}{cd:Value}{A:Rw}{outer:List ZU}{s s1:QD}{H:Hp}{E:XK}{us:List Value}{vs:List V}
  (S:aA N ps scope) (hd:A.handled=none) (e0:uN P w K mg base A outer s H) (hl:vs.length=ps.length) (r:bu vs us)
  (x:InCallC s s.heap.objs.size (Z9 (XB qual scope s.heap.objs.size f cd).kindOf (ps.zip us) λ_=>none) (Xf (s.heap.objs.size+1) scope.names []) (bindC (XB qual scope s.heap.objs.size f cd).kindOf (ps.zip us) λ_=>none) s1) :
  Inv (bw CX P w K mg base N qual scope f cd A outer s H E) [] (kr N vs) H s1:=by
 have hpl:ps.length≤N.length:=by have:=congrArg ZK S.pre;rw[Rs] at this;omega
 obtain⟨h1,tk,rfl,hk⟩:=x.done;have noA:∀b:Addr,b∉(bw CX P w K mg base N qual scope f cd A outer s H E).ex:=λb z=>absurd (show b∈([]:List Addr) from z) (by simp)
 refine⟨⟨e0.mod,S.kind,Z,Z,QB _,λy z c h1 h2=>?_,λy hy=>?_,λy c _ h=>?_,λ_=>hd,Rw.frames_deeper e0.frames,.inr ⟨Z,Z⟩,λb z=>absurd z (noA b),e0.bs,e0.bsz,λb _ _=>noA b,λb z=>absurd z (noA b),e0.funs,e0.frf⟩,
  rfl,e0.bare,Un.kept hk,⟨_,x.toInCall.ns,λi y v h1 h2 h3=>?_⟩,λy c h=>⟨_,x.cell y c h⟩,e0.hok.fresh (QB _),λy c h=>?_,λp hp=>absurd (show p∈([]:List (Addr×Sv)) from hp) (by simp),e0.hok.kept hk,?_⟩
 ·exact name_of_addr x.apart (Uy h1) (Uy h2)
 ·have hy:scope.names.lookup y=some .cell∨scope.names.lookup y=some .free:=hy;rcases hy with hy|hy
  ·exact uE hy
  ·exact absurd Z (S.nofree _ (Uy hy))
 ·exact Ss (x.above y c (Uy h))
 ·have hi:i<vs.length:=by
   unfold kr at h2;by_cases hi:i<vs.length
   ·exact hi
   ·rw[U3 (by simpa using hi)] at h2;rw[Te] at h2
    split at h2<;>cases h2
  have ha:vs[i]?=some v:=by
   unfold kr at h2;rw[Vf (by simpa using hi),QJ] at h2
   cases e:vs[i]? with
   |none=>rw[e] at h2;cases h2
   |some a=>rw[e] at h2;cases h2;rfl
  obtain⟨u,hu,rv⟩:=r.get ha;have hp:ps[i]?=some y:=by
   rw[←S.pre,List.getElem?_take_of_lt ω];exact h1
  have ndP:ps.Nodup:=by rw[←S.pre];exact S.nd.sublist (List.take_sublist _ _)
  refine⟨u,rv,?_⟩;rcases S.par y (QC hp) with k|k
  ·exact .inl ⟨k,qj ndP hp hu k⟩
  ·obtain⟨c,e⟩:=uE (n:=s.heap.objs.size+1) k;refine .inr ⟨.inl k,c,e,?_⟩;have q:=x.cell y c e;rw[ql ndP hp hu (by show scope.names.lookup y≠_;rw[k];decide)] at q;exact q
 ·exact e0.hok.fresh (Ss (x.above y c (Uy h)))
 ·unfold kr;show _=N.length;rw[Q2,Qz,UQ];omega
theorem Gp{CX:uP}{P:Rp}{w:RF}{K:Qu}{mg:Rr->Option Value}{base:QN}{k:Nat}{f:Addr}{name qual:Rr}{params:Arguments}{body:List Stmt}{scope:UZ}{dV kV doc pm cdv ct oc:Value}{an od:Option Addr}
  {osl:Array (Option Value)} {N ps:List Rr} {sp:Sp} (lk:K.lookup f=some ⟨oc,od,.func (Ue name qual params body scope dV kV doc pm an cdv ct),osl⟩) (hcd:Wx K cdv qual=true) (S:aA N ps scope)
  (len:∀vs H Q E,sp vs H Q E->vs.length=ps.length)
  (hbody:∀(A:Rw) (outer:List ZU) (s:QD) (H:Hp) (vs:List V) (Q:VK) (E:XK),dN k (A.deeper (XB qual scope s.heap.objs.size f cdv))->sp vs H Q E→
   ∃t,qp (bw CX P w K mg base N qual scope f cdv A outer s H E) body t/\t { nx:=λ_ H'=>Q .non H',rt:=Q} (kr N vs) H) :
  bi P w K mg base CX (k+1) f (Ue name qual params body scope dV kV doc pm an cdv ct) ps sp:=by
 refine⟨len,λA outer s H args us vs Q E hr e0 hb r hsp=>?_⟩;have hl:=len _ _ _ _ hsp;have KX:K.In s.heap:=e0.mod.kin.keeps λb o e=>(e0.bs b o e).1
 have lim:s.heap.NoLimit:=e0.mod.nolimit.keeps λb o e=>(e0.bs b o e).1
 have hkind:∀y∈ps.zip us,scope.names.lookup y.1=some .local∨(scope.names.lookup y.1=some .cell/\((Xf (s.heap.objs.size+1) scope.names []).lookup y.1).isSome=true):=λ⟨n,v⟩ hy=>by
  rcases S.par n (XW hy).1 with q|q
  ·exact .inl q
  ·exact .inr ⟨q,XD _ _ _ (.inl q)⟩
 refine codeAny_call_function hr.depth (KX _ _ lk) Z S.co S.gen Z (PySem.W.codeRec_of KX hcd) (hb _ _ _ _ ?_);refine wpAny_newFunctionEnv_cells S.kind hkind λenv he s1 x=>?_
 subst he;refine⟨lim.keeps x.toInCall.keep,codeAny_func ?_⟩;obtain⟨t,ht,hq⟩:=hbody A outer s H vs Q E (hr.deeper _) hsp;have I:Inv (bw CX P w K mg base N qual scope f cdv A outer s H E) [] (kr N vs) H s1:=yK S hr.hd e0 hl r x;refine SI (ht [] s1 (kr N vs) H _ I hq) (λfl s' hs=>?_) λe s' hs=>hs
 have fin:∀{σ':St} {H':Hp} {v:V} {u:Value},Inv (bw CX P w K mg base N qual scope f cdv A outer s H E) [] σ' H' s'->br v u->Q v H'->CE outer P w H s Q u s':=
  λ{σ' H' v u} J rv q=>⟨v,H',J.os,J.bare,J.base,J.hok,rv,q⟩
 cases fl with
 |ret u=>
  obtain⟨v,σ',H',J,rv,q⟩:=hs;exact fin J rv q
 |next=>
  obtain⟨σ',H',J,q⟩:=hs;exact fin (v:=V.non) (u:=Tc) J Z q
 |brk=>
  obtain⟨_,_,_,q⟩:=hs;exact SJ q
 |cont=>
  obtain⟨_,_,_,q⟩:=hs;exact SJ q
end L2
namespace L2
open PySem PySem.Spec PyProof.Rows
section
variable {X:Cx}{x:Rr}{p pos:UE}{e:Ry}{es:List Ry}{t:TA}{id T:String}{r:List V->Hp->VK->Prop}
def Mr(r:List V->Hp->VK->Prop)(t:TA):TE:=λσ H Q=>t σ H λvs H1=>r vs H1 Q
theorem Cc(hc:dF X (.builtin id) r)(hg:Gl X x)(hm:X.mg x=none)(hv:SX x=some (.builtin id))(ha:PA X (e::es) t)(hn:x ≠ "__name__" := by decide)(hdb:(x==("__debug__" : Rr))=false:=by decide)
  (he:QV (e::es) X.env=(false,eval e X.env)::QV es X.env:=by rfl) (hpl:(Uv pos (QV es X.env)).any (·.1)=false:=by rfl):PE X (.Call (.Name x p) (e::es) [] pos) (Mr r t):=by
 intro pins s σ H Q I h;refine UI (ik I hg hm hv ?_ hn hdb);exact PyProof.Rows.callWith_builtin1 (cL (ha pos pins s σ H _ I h) λus s1 ⟨vs,H1,I1,r1,q1⟩=>hc pins s1 σ H1 vs us Q I1 r1 q1) he hpl
theorem yu(hc:dF X (.type T) r)(hg:Gl X x)(hm:X.mg x=none)(hv:SX x=some (.type T))(ha:PA X (e::es) t)(hn:x ≠ "__name__" := by decide)(hdb:(x==("__debug__" : Rr))=false:=by decide)
  (he:QV (e::es) X.env=(false,eval e X.env)::QV es X.env:=by rfl) (hpl:(Uv pos (QV es X.env)).any (·.1)=false:=by rfl):PE X (.Call (.Name x p) (e::es) [] pos) (Mr r t):=by
 intro pins s σ H Q I h;refine UI (ik I hg hm hv ?_ hn hdb);exact Sc (cL (ha pos pins s σ H _ I h) λus s1 ⟨vs,H1,I1,r1,q1⟩=>hc pins s1 σ H1 vs us Q I1 r1 q1) he hpl
end
end L2
namespace HT
open PySem PyProof.Rows
def lexLt:List Int->List Int->Bool
 | [],[]=>false
 | [],_::_=>true
 |_::_,[]=>false
 |x::xs,y::ys=>if x=y then lexLt xs ys else decide (x<y)
section
open PySem.SeqAt
open PySem.AutoSeq1 (wpAny_loadPart')
open PySem.MeetsSeq PySem.MeetsSeq2 PySem.MeetsSeq3
end
section
variable {prog:Rp}{w:RF}{A:Rw}{E:Value->QD->Prop}{s:QD}
theorem cat_tup(ht:Ys s.heap t vs.toArray)(hb:Ys s.heap b ws.toArray)(hv:vs≠[])
  (h1:ws=[]->Q (.ref t) s) (h2:ws≠[]->Q (.ref s.heap.objs.size) { s with heap:=s.heap.push { cls:=.type "tuple",data:=.seq (vs++ws).toArray} })
  (hsz:vs.length+ws.length≤sizeLine):Q0 (Q5 prog w) A (Ua .Add (.ref t) (.ref b)) Q E s:=by
 obtain⟨⟨cls,dd,data,sl⟩,ho,hc,n,hd⟩:=id ht;obtain⟨⟨cls2,dd2,data2,sl2⟩,ho2,hc2,n2,hd2⟩:=id hb;simp only at hc hd hc2 hd2;subst hc hd hc2 hd2;have e:vs.toArray++ws.toArray=(vs++ws).toArray:=by simp
 by_cases hw:ws=[]
 ·exact Y3 ⟨_,ho,Z⟩ ⟨_,ho2,Z⟩ Xg Yv VH Vz (Vn _ _)
   (tuple_addW1 t b vs.toArray ws.toArray n n2 dd dd2 sl sl2 (by simpa using hv) (by simp[hw])) ⟨ho,ho2,h1 hw⟩
 ·refine Y3 ⟨_,ho,Z⟩ ⟨_,ho2,Z⟩ Xg Yv VH Vz (Vn _ _)
   (tuple_addW2 t b vs.toArray ws.toArray n n2 dd dd2 sl sl2 (by simpa using hv) (by simpa using hw) (by rw[QX,QX];exact hsz)) ⟨ho,ho2,?_⟩
  rw[e];exact h2 hw
def sIx(n d:Nat):Option Int->Nat
 |none=>d
 |some v=>if v<0 then(v+(n:Int)).toNat else ZW v.toNat n
theorem sIx_none(n d:Nat):sIx n d none=d:=Z
theorem sIx_nat(n d k:Nat):sIx n d (some (k:Int))=ZW k n:=by
 show(if(k:Int)<0 then((k:Int)+(n:Int)).toNat else ZW (k:Int).toNat n)=ZW k n;rw[if_neg ω,WQ]
theorem Hr(n d:Nat)(hd:d≤n)(o:Option Int):sIx n d o≤n:=by
 cases o with
 |none=>exact hd
 |some v=>
  show(if v<0 then(v+(n:Int)).toNat else ZW v.toNat n)≤n;by_cases hv:v<0
  ·rw[if_pos hv];omega
  ·rw[if_neg hv];exact Nat.min_le_right _ _
theorem xD(v:Int)(n d:Nat):(if v<0 then max (v+(n:Int)) 0 else ZW v (n:Int))=((sIx n d (some v):Nat):Int):=by
 show(if v<0 then max (v+(n:Int)) 0 else ZW v (n:Int))=(((if v<0 then(v+(n:Int)).toNat else ZW v.toNat n):Nat):Int);by_cases hv:v<0
 ·simp only[if_pos hv];omega
 ·simp only[if_neg hv];omega
theorem v7(lo hi:Option Int)(n:Nat):Vg lo hi 1 (n:Int)=(((sIx n 0 lo:Nat):Int),((sIx n n hi:Nat):Int)):=by
 have h1:¬((1:Int)<0):=ω
 unfold Vg;simp only[h1,if_false];refine aaM ?_ ?_
 ·cases lo with
  |none=>rfl
  |some v=>exact xD v n 0
 ·cases hi with
  |none=>rfl
  |some v=>exact xD v n n
theorem vA(i j:Nat):Up (i:Int) (j:Int) 1=j-i:=by
 unfold Up;have h1:(1:Int)>0:=ω
 simp only[h1,if_true,XE]
 split<;>omega
theorem nU(p:XF v o)(h:Q o s):Q0 (Q5 prog w) A (Rb.Slice.slicePartIndex v) Q E s:=by
 cases p with
 |none=>exact slicePart_none h
 |int i t=>exact slicePart_int h
theorem gJ{sl:Addr}{vl vu:Value}{lo hi:Option Int}{n:Nat}{Q:Int×Int×Nat->QD->Prop}(hs:s.heap.IsSliceOf sl vl vu .none)(pl:XF vl lo)(pu:XF vu hi)
  (h:Q (((sIx n 0 lo:Nat):Int),1,sIx n n hi-sIx n 0 lo) s):Q0 (Q5 prog w) A (Wy (.ref sl) (TL (n:Int))) Q E s:=by
 obtain⟨os,hos,hcs,hds⟩:=id hs;unfold Wy Rb.Slice.sliceFields;refine Qx (Qx (R9 hos hds (x:=vl) Z (Qx (R9 hos hds (x:=vu) Z (Qx (R9 hos hds (x:=.none) Z (wpAny_pure ?_)))))));refine Qx (slicePart_none ?_);show Q0 _ _ (if((1:Int)==0)=true then _ else _) _ _ s;rw[if_neg δ];refine Qx (nU pl (Qx (nU pu (Qx (wpAny_pure ?_)))));show Q0 _ _ (match Vg lo hi 1 (n:Int) with | (lo,hi)=>TL (lo,(1:Int),Up lo hi 1)) _ _ s;rw[v7 lo hi n];show Q0 _ _ (TL (((sIx n 0 lo:Nat):Int),(1:Int),Up ((sIx n 0 lo:Nat):Int) ((sIx n n hi:Nat):Int) 1)) _ _ s;rw[vA];exact wpAny_pure h
theorem BY(xs:Array Value)(i k:Nat):((Qv k).filterMap λ(m:Nat)=>xs[((i:Int)+(m:Int)*1).toNat]?).toArray=((xs.toList.drop i).take k).toArray:=by
 have e:(λ(m:Nat)=>xs[((i:Int)+(m:Int)*1).toNat]?)=λm=>xs[i+m]?:=by
  funext m
  have:((i:Int)+(m:Int)*1).toNat=i+m:=ω
  rw[this]
 rw[e];have:=pick_run xs i k;rw[List.filterMap_map] at this;have e2:((λx=>xs[x]?)∘λx=>i+x)=λm=>xs[i+m]?:=Z
 rw[e2] at this;rw[this]
theorem getItem_tuple_cut{t sl:Addr}{items:Array Value}{vl vu:Value}{lo hi:Option Int}{Q:Value->QD->Prop}(ht:Ys s.heap t items)(hs:s.heap.IsSliceOf sl vl vu .none)(pl:XF vl lo)(pu:XF vu hi)
  (hw:¬(sIx items.size 0 lo=0/\sIx items.size items.size hi=items.size))
  (h:Q (.ref s.heap.objs.size) { s with heap:=s.heap.push { cls:=.type "tuple",data:=.seq ((items.toList.drop (sIx items.size 0 lo)).take (sIx items.size items.size hi-sIx items.size 0 lo)).toArray} })
  (hsz:items.size≤sizeLine):Q0 (Q5 prog w) A (Wi (.ref t) (.ref sl)) Q E s:=by
 have htake:sizeOk (.seq ((items.toList.drop (sIx items.size 0 lo)).take (sIx items.size items.size hi-sIx items.size 0 lo)).toArray):=by
  show((items.toList.drop (sIx items.size 0 lo)).take (sIx items.size items.size hi-sIx items.size 0 lo)).toArray.size≤sizeLine;rw[QX,Rs,Sj,Tq];omega
 have hj:sIx items.size items.size hi≤items.size:=Hr _ _ (QB _) hi;obtain⟨os,hos,hcs,hds⟩:=id hs;have hTs:s.TypeIs (.ref sl) "slice" := ⟨os,hos,hcs⟩;unfold Wi
 try with_reducible refine wpAny_holding ?_
 first|refine Qx (wpAny_pure ?_)|skip
 refine Qx (Y4 ht.typeIs δ ?_);refine Qx (SD (name:=TH "__getitem__") ht.typeIs Sd (Tf Sd ht.typeIs Yl ?_ (YJ _ _)))
 show Q0 _ _ (Wz (.ref t) >>= _) _ _ s;refine Qx (tupleItemsOf_ ht ?_);refine Qx (XG hTs ?_);rw[if_pos δ];refine Qx (gJ hs pl pu ?_);have hno:¬((((sIx items.size 0 lo:Nat):Int)==0&&(1:Int)==1&&(sIx items.size items.size hi-sIx items.size 0 lo)==items.size)=true):=by
  intro q;rw[Ra,Ra] at q;have q1:((sIx items.size 0 lo:Nat):Int)=0:=VA q.1.1;have q2:sIx items.size items.size hi-sIx items.size 0 lo=items.size:=VA q.2;exact hw ⟨ω,ω⟩
 show Q0 _ _ (if(((sIx items.size 0 lo:Nat):Int)==0&&(1:Int)==1&&(sIx items.size items.size hi-sIx items.size 0 lo)==items.size)=true then _ else _) _ _ s;rw[if_neg hno,BY]
 first
  |exact Qx (m:=SS _) (Sn (wpAny_pure ⟨_,rfl,wpAny_pure h⟩) htake)
  |exact Qx (m:=SS _) (Sn (Qx (wpAny_pure (wpAny_pure ⟨_,rfl,wpAny_pure h⟩))) htake)
  |exact Qx (Qx (m:=SS _) (Sn (wpAny_pure (wpAny_pure ⟨_,rfl,wpAny_pure h⟩)) htake))
  |exact Qx (Qx (m:=SS _) (Sn (wpAny_pure ⟨_,rfl,wpAny_pure h⟩) htake))
end
end HT
namespace L2
open PySem PySem.Spec PyProof.Rows
abbrev TO:=St->Hp->(Option Int->Hp->Prop)->Prop
def PO(X:Cx)(e:Option Ry)(t:TO):Prop:=
 ∀(pins:List (Addr×Sv)) (s:QD) (σ:St) (H:Hp) (Q:Option Int->Hp->Prop),Inv X pins σ H s->t σ H Q→
  Q0 (Q5 X.prog X.w) X.A (evalPart e X.env) (λu s'=>∃o H',Inv X pins σ H' s'/\XF u o/\Q o H') X.xe s
def wA:TO:=λ_ H Q=>Q none H
def FZ(t:TE):TO:=λσ H Q=>t σ H λx H1=>NJ x λi=>Q (some i) H1
theorem vU:∀{us:List Value},bu (ns.map V.int) us->XH us ns:=by
 induction ns with
 |nil=>intro us r;rw[Y5] at r;cases r;exact .nil
 |cons n ns ih=>
  intro us r;rw[RC] at r
  cases r with
  |cons r1 r2=>
   obtain⟨t,e⟩:=r1;subst e;exact .cons n t (ih r2)
section
variable {X:Cx}{e:Ry}{te:TE}{lo hi:Option Ry}{tl th:TO}{pos p2:UE}
theorem Ew:PO X none wA:=by
 intro pins s σ H Q I h;rw[evalPart_none];exact wpAny_pure ⟨none,H,I,.none,h⟩
theorem Ev(h:PE X e te):PO X (some e) (FZ te):=by
 intro pins s σ H Q I hw;rw[evalPart_some];refine cL (h pins s σ H _ I hw) λu s1 ⟨x,H1,I1,r1,q1⟩=>?_
 obtain⟨i,rfl,q⟩:=q1;obtain⟨t,rfl⟩:=r1;exact⟨some i,H1,I1,.int i t,q⟩
def zw(X:Cx)(r:V->Option Int->Option Int->Hp->VK->Prop):Prop:=
 ∀(pins:List (Addr×Sv)) (s:QD) (σ:St) (H:Hp) (x:V) (v vl vu:Value) (lo hi:Option Int) (sl:Addr) (Q:VK),Inv X pins σ H s->br x v->s.heap.IsSliceOf sl vl vu .none->XF vl lo->XF vu hi->r x lo hi H Q→
  ∃T id,typeLookup (.type T) "__getitem__"=TL (some (.builtin id))/\s.TypeIs v T/\Q0 (Q5 X.prog X.w) X.A (Wi v (.ref sl)) (EP X pins σ Q) X.xe s
theorem zw.or(h:zw X r)(h':zw X r'):zw X (λx lo hi H Q=>r x lo hi H Q∨r' x lo hi H Q):=by
 intro pins s σ H x v vl vu lo hi sl Q I rx hs pl pu q;rcases q with q|q
 ·exact h pins s σ H x v vl vu lo hi sl Q I rx hs pl pu q
 ·exact h' pins s σ H x v vl vu lo hi sl Q I rx hs pl pu q
def NX(r:V->Option Int->Option Int->Hp->VK->Prop)(te:TE)(tl th:TO):TE:=λσ H Q=>te σ H λx H1=>tl σ H1 λl H2=>th σ H2 λu H3=>r x l u H3 Q
theorem B6(hr:zw X r)(he:PE X e te)(hl:PO X lo tl)(hu:PO X hi th):PE X (.Subscript e (.Slice lo hi none p2) pos) (NX r te tl th):=by
 intro pins s σ H Q I h;refine Subscript_ (cL (he pins s σ H _ I h) λv s1 ⟨x,H1,I1,r1,q1⟩=>?_);refine wpAny_Slice (cL (hl pins s1 σ H1 _ I1 q1) λvl s2 ⟨l,H2,I2,pl,q2⟩=>cL (hu pins s2 σ H2 _ I2 q2) λvu s3 ⟨u,H3,I3,pu,q3⟩=>?_);rw[evalPart_none];refine wpAny_pure ?_;have I4:Inv X pins σ H3 { s3 with heap:=s3.heap.push { cls:=.type "slice",data:=.fields #[vl,vu,.none]} }:=I3.kept (t':=s3.toks) λb ob q=>Qy _ q
 obtain⟨T,id,hT,ht,hg⟩:=hr pins { s3 with heap:=s3.heap.push { cls:=.type "slice",data:=.fields #[vl,vu,.none]} } σ H3 x v vl vu l u s3.heap.objs.size Q I4 r1 (QN.IsSliceOf.new ..) pl pu q3;show Q0 (Q5 X.prog X.w) X.A (subscriptTail e (.Slice lo hi none p2) v (.ref s3.heap.objs.size)) (EP X pins σ Q) X.xe { s3 with heap:=s3.heap.push { cls:=.type "slice",data:=.fields #[vl,vu,.none]} };exact tail_any (ops:=[.ref s3.heap.objs.size,v]) ht hT hg (by with_unfolding_all rfl)
def gQ(xs:List V)(lo hi:Option Int):List V:=(xs.drop (HT.sIx xs.length 0 lo)).take (HT.sIx xs.length xs.length hi-HT.sIx xs.length 0 lo)
theorem mz(xs:List V)(lo hi:Option Int):(gQ xs lo hi).length≤xs.length:=by
 unfold gQ;rw[Rs,Sj];omega
def K1(K:Qu):V->Option Int->Option Int->Hp->VK->Prop:=λx lo hi H Q=>∃a xs,x=.ref a/\bz K H a xs∧
 ¬(HT.sIx xs.length 0 lo=0/\HT.sIx xs.length xs.length hi=xs.length)/\∀p,H p=none->Q (.ref p) (upd H p (.tup (gQ xs lo hi)))
theorem GK:zw X (K1 X.K):=by
 intro pins s σ H x v vl vu lo hi sl Q I rx hs pl pu h;obtain⟨a,xs,rfl,hx,hw,q⟩:=h
 cases rx
 obtain⟨its,r,ht,hz⟩:=I.tuple hx;have hlen:its.toArray.size=xs.length:=by rw[QX];exact r.length.symm
 refine⟨"tuple",_,Sd.lookup,ht.typeIs,?_⟩;refine HT.getItem_tuple_cut ht hs pl pu (by rw[hlen];exact hw) ?_ (by rw[hlen];exact hz);rw[hlen];refine⟨.ref s.heap.objs.size,_,I.laid (t':=s.toks) (o:=.tup (gQ xs lo hi)) (λb ob q=>Qy _ q) (QB _) ?_,Z,q _ (I.hok.fresh (QB _))⟩;exact⟨Rm (mz xs lo hi) hz,_,(r.drop (HT.sIx xs.length 0 lo)).take (HT.sIx xs.length xs.length hi-HT.sIx xs.length 0 lo),Ye _ _⟩
def Pm(K:Qu):R2:=λx y H Q=>∃a b ns ms,x=.ref a/\y=.ref b/\bz K H a (ns.map V.int)/\bz K H b (ms.map V.int)/\Q (.bl (HT.lexLt ns ms)) H
def Lb(K:Qu):R2:=λx y H Q=>∃a b xs ys,x=.ref a/\y=.ref b/\bz K H a xs/\bz K H b ys/\xs≠[]/\xs.length+ys.length≤sizeLine∧
 (ys=[]->Q (.ref a) H)/\(ys≠[]->∀p,H p=none->Q (.ref p) (upd H p (.tup (xs++ys))))
theorem bu.nil_iff(r:bu xs us):us=[]↔xs=[]:=by
 cases r with
 |nil=>simp
 |cons _ _=>simp
theorem ET:ir X (Ua .Add) (Lb X.K):=by
 intro pins s σ H x y v u Q I rx ry h;obtain⟨a,b,xs,ys,rfl,rfl,ha,hb,hx,hz,q1,q2⟩:=h
 cases rx
 cases ry
 obtain⟨its,r1,p1,_⟩:=I.tuple ha;obtain⟨its2,r2,p2,_⟩:=I.tuple hb;refine HT.cat_tup p1 p2 (λz=>hx (r1.nil_iff.mp z)) (λz=>⟨.ref a,H,I,Z,q1 (r2.nil_iff.mp z)⟩) (λz=>?_) (by rw[←r1.length,←r2.length];exact hz);refine⟨.ref s.heap.objs.size,_,I.laid (t':=s.toks) (o:=.tup (xs++ys)) (λb ob q=>Qy _ q) (QB _) ?_,Z,q2 (λw=>z (r2.nil_iff.mpr w)) _ (I.hok.fresh (QB _))⟩;exact⟨by rw[Q2];exact hz,_,r1.append r2,Ye _ _⟩
end
end L2
namespace L2
open PySem PySem.Spec PyProof.Rows
def yH(n:Nat)(i:Int):Option Nat:=if 0≤i then(if i<n then some i.toNat else none) else if -(n:Int)≤i then some (i+n).toNat else none
def sj{α:Type}(xs:List α)(i:Int):Option α:=(yH xs.length i).bind λj=>xs[j]?
theorem wZ(h:yH n i=some j):seqIndex? i n=some j/\j<n/\-(n:Int)≤i/\i<n:=by
 unfold yH at h;by_cases h0:0≤i
 ·rw[if_pos h0] at h;by_cases h1:i<n
  ·rw[if_pos h1] at h;have e:i.toNat=j:=R0 h;exact⟨by rw[ZL h0 h1,e],ω,ω,h1⟩
  ·rw[if_neg h1] at h;cases h
 ·rw[if_neg h0] at h;by_cases h1:-(n:Int)≤i
  ·rw[if_pos h1] at h;have e:(i+n).toNat=j:=R0 h;exact⟨by rw[Y6 ω h1,e],ω,h1,ω⟩
  ·rw[if_neg h1] at h;cases h
theorem xH{xs:List α}(h:sj xs i=some v):∃j,seqIndex? i xs.length=some j/\xs[j]?=some v/\j<xs.length/\-(xs.length:Int)≤i/\i<xs.length:=by
 unfold sj at h
 cases e:yH xs.length i with
 |none=>rw[e] at h;cases h
 |some j=>
  rw[e] at h;obtain⟨h1,h2,h3,h4⟩:=wZ e;exact⟨j,h1,h,h2,h3,h4⟩
theorem bh{α:Type}{xs:List α}{j:Nat}{v:α}(h:xs[j]?=some v):sj xs (j:Int)=some v:=by
 have hj:j<xs.length:=(QM.mp h).1;have e:yH xs.length (j:Int)=some j:=by
  unfold yH;rw[if_pos ω,if_pos ω];simp
 unfold sj;rw[e];exact h
theorem Dt(xs:List α)(v:α):sj (xs++[v]) (-1)=some v:=by
 have hl:(xs++[v]).length=xs.length+1:=by simp
 have e:yH (xs++[v]).length (-1)=some xs.length:=by
  unfold yH;rw[hl,if_neg δ,if_pos ω]
  congr 1
  omega
 unfold sj;rw[e];show(xs++[v])[xs.length]?=some v;simp
def sw(b:Ry):Prop:=∀o i,X3 b false o i=operate [o,i] (Wi o i)
def J6(X:Cx)(r:R2):Prop:=
 ∀(value slice:Ry) (pins:List (Addr×Sv)) (s:QD) (σ:St) (H:Hp) (x y:V) (v u:Value) (Q:VK),Inv X pins σ H s->br x v->br y u->r x y H Q→
  X3 slice false v u=operate [v,u] (Wi v u)->Q0 (Q5 X.prog X.w) X.A (subscriptTail value slice v u) (EP X pins σ Q) X.xe s
def OG(X:Cx)(id:String)(r:V->List V->Hp->VK->Prop):Prop:=
 ∀(pins:List (Addr×Sv)) (s:QD) (σ:St) (H:Hp) (x:V) (xs:List V) (v:Value) (us:List Value) (Q:VK),Inv X pins σ H s->br x v->bu xs us->r x xs H Q→
  Q0 (Q5 X.prog X.w) X.A (call (.builtin id) (v::us)) (EP X pins σ Q) X.xe s
section
variable {X:Cx}{a b:Ry}{ta tb:TE}{pos:UE}
theorem Lj(hr:J6 X r)(ha:PE X a ta)(hb:PE X b tb)(hs:sw b):PE X (.Subscript a b pos) (DP r ta tb):=by
 intro pins s σ H Q I h;exact Subscript_ (JV ha hb I h λv u s2 x y H2 I2 rx ry q=>hr a b pins s2 σ H2 x y v u Q I2 rx ry q (hs _ _))
inductive NH(S:Addr->List V->Prop)(x y:V)(Q:V->Prop):Prop where
 |mk (p:Addr) (xs:List V) (i:Int) (v:V) (e:x=.ref p) (f:y=.int i) (s:S p xs) (a:sj xs i=some v) (k:Q v):NH S x y Q
def Hx(K:Qu):R2:=λx y H Q=>NH (aZ K H) x y λv=>Q v H
def Hw(K:Qu):R2:=λx y H Q=>NH (bz K H) x y λv=>Q v H
def M6:R2:=λx y H Q=>∃z i c,x=.str z/\y=.int i/\z.length≤sizeLine/\sj z.cps.toList i=some c/\Q (.str ⟨#[c]⟩) H
theorem bv:J6 X (Hx X.K):=by
 intro value slice pins s σ H x y v u Q I rx ry h hs;obtain⟨p,xs,i,z,rfl,rfl,hq,he,q⟩:=h
 cases rx
 obtain⟨t,rfl⟩:=ry;obtain⟨its,r,pl,hz⟩:=I.list hq;obtain⟨j,h1,h2,h3,h4,h5⟩:=xH he;obtain⟨w,ew,rw'⟩:=r.get h2;have hl:=r.length;have hn:=rQ;have fin:EP X pins σ Q w s:=⟨z,H,I,rw',q⟩;by_cases h0:0≤i
 ·have hj:i.toNat=j:=by
   rw[ZL h0 h5] at h1;exact R0 h1
  exact item_listR pl.isList h0 ω (by rw[hj];simpa using ew) fin hs
 ·have hj:(i+(its.toArray.size:Int)).toNat=j:=by
   rw[Y6 ω h4] at h1;rw[QX,←hl];exact R0 h1
  exact XI (x:=w) pl.isList.typeIs Y7.lookup
   (wpAny_getItem_list_neg (Q:=λr s'=>r=w/\EP X pins σ Q r s') pl.isList ω (by rw[QX]<;>omega) ω (by rw[hj];simpa using ew) ⟨Z,fin⟩) hs
theorem az:J6 X (Hw X.K):=by
 intro value slice pins s σ H x y v u Q I rx ry h hs;obtain⟨p,xs,i,z,rfl,rfl,hq,he,q⟩:=h
 cases rx
 obtain⟨t,rfl⟩:=ry;obtain⟨its,r,pl,hz⟩:=I.tuple hq;obtain⟨j,h1,h2,h3,h4,h5⟩:=xH he;obtain⟨w,ew,rw'⟩:=r.get h2;have hl:=r.length;have hn:=rQ;have fin:EP X pins σ Q w s:=⟨z,H,I,rw',q⟩;exact XI (x:=w) pl.typeIs slot_tuple_getitem.lookup
  (getItem_tuple (j:=j) (Q:=λr s'=>r=w/\EP X pins σ Q r s') pl ω ω (by rw[QX,←hl];exact h1) (by simpa using ew) ⟨Z,fin⟩) hs
def Qi(K:Qu):R2:=λx y H Q=>Hx K x y H Q∨Hw K x y H Q∨M6 x y H Q
theorem vO(its:List Value)(n j:Nat)(u:Value):VU (·.setIfInBounds j u) { cls:=.type "list",data:=.seq its.toArray n}={ cls:=.type "list",data:=.seq (its.set j u).toArray n}:=by
 simp[VU]
theorem Inv.lst{pins:List (Addr×Sv)}{σ:St}{H:Hp}{s:QD}{p:Addr}{xs:List V}(I:Inv X pins σ H s)(h:H p=some (.lst xs)) :
  ∃(its:List Value) (n:Nat),bu xs its/\s.heap.get? p=some { cls:=.type "list",data:=.seq its.toArray n}/\xs.length≤sizeLine:=by
 obtain⟨z,its,n,r,e⟩:=I.hok p _ h;exact⟨its,n,r,e,z⟩
theorem Inv.lstUpd{pins:List (Addr×Sv)}{σ:St}{H:Hp}{s:QD}{p:Addr}{xs ys:List V}{its its':List Value}{n n':Nat}{f:Sv->Sv}(I:Inv X pins σ H s)(h:H p=some (.lst xs))
  (ho:s.heap.get? p=some { cls:=.type "list",data:=.seq its.toArray n}) (hf:f { cls:=.type "list",data:=.seq its.toArray n}={ cls:=.type "list",data:=.seq its'.toArray n'}) (r:bu ys its') (hz:ys.length≤sizeLine) (t:Nat) :
  Inv X pins σ (upd H p (.lst ys)) { s with heap:=s.heap.update p f,toks:=t}:=by
 have e:(s.heap.update p f).get? p=some { cls:=.type "list",data:=.seq its'.toArray n'}:=by
  rw[Tu f ho (by rw[hf]<;>rfl),hf]
 refine I.write (x:=p) (e:=p) (by rw[h];trivial) (.inl Z) (λb u hb q=>(RH _ _ (Tt hb)).trans q) ⟨_,e⟩ ?_;exact⟨hz,its',n',r,e⟩
inductive Mf(o i v:V)(H:Hp)(Q:Hp->Prop):Prop where
 |mk (p:Addr) (xs:List V) (k:Int) (j:Nat) (e:o=.ref p) (f:i=.int k) (h:H p=some (.lst xs)) (n:yH xs.length k=some j) (q:Q (upd H p (.lst (xs.set j v)))):Mf o i v H Q
def K2:V->V->V->Hp->(Hp->Prop)->Prop:=λo i v H Q=>Mf o i v H Q
theorem fS:J3 X K2:=by
 intro pins s σ H o i v ov iv u Q I ro ri rv h;obtain⟨p,xs,k,j,rfl,rfl,hp,hj,q⟩:=h
 cases ro
 obtain⟨t,rfl⟩:=ri;obtain⟨its,n,r,ho,hz⟩:=I.lst hp;obtain⟨h1,h2,h3,h4⟩:=wZ hj;have hl:=r.length;have hn:=rQ;have I':Inv X pins σ (upd H p (.lst (xs.set j v))) { s with heap:=s.heap.update p (VU (·.setIfInBounds j u))}:=
  I.lstUpd hp ho (vO its n j u) (r.set rv j) (by rw[TY];exact hz) s.toks
 by_cases h0:0≤k
 ·have hk:k.toNat=j:=by
   rw[ZL h0 h4] at h1;exact R0 h1
  exact PySem.W.ki_setAt ho h0 ω (by rw[QX,←hl];exact h4) (by rw[hk];exact⟨_,I',q⟩)
 ·have hk:(k+(its.toArray.size:Int)).toNat=j:=by
   rw[Y6 ω h3] at h1;rw[QX,←hl];exact R0 h1
  exact PySem.W.ki_setBack ho ω (by rw[QX,←hl];exact h3) ω (by rw[hk];exact⟨_,I',q⟩)
theorem qX(lo hi:Option Int)(n:Nat):(VB lo hi none n).1=((HT.sIx n 0 lo:Nat):Int)/\(VB lo hi none n).2.1=((HT.sIx n n hi:Nat):Int)/\(VB lo hi none n).2.2=1:=by
 refine⟨?_,?_,Z⟩
 ·cases lo with
  |none=>simp[VB,HT.sIx]
  |some i=>
   simp only[VB,HT.sIx,Zu,show(1:Int)>0 by decide,if_true];by_cases h:i<0
   ·simp only[h,if_true]<;>omega
   ·simp only[h,if_false]<;>omega
 ·cases hi with
  |none=>simp[VB,HT.sIx]
  |some i=>
   simp only[VB,HT.sIx,Zu,show(1:Int)>0 by decide,if_true];by_cases h:i<0
   ·simp only[h,if_true]<;>omega
   ·simp only[h,if_false]<;>omega
theorem o9(its:List Value)(lo hi:Option Int):slicePick its.toArray lo hi none=((its.drop (HT.sIx its.length 0 lo)).take (HT.sIx its.length its.length hi-HT.sIx its.length 0 lo)).toArray:=by
 obtain⟨h1,h2,h3⟩:=qX lo hi its.toArray.size;unfold slicePick;rw[h1,h2,h3];simp only[sliceRange_one,pick_run,QX]<;>rfl
def M3(K:Qu):V->Option Int->Option Int->Hp->VK->Prop:=λx lo hi H Q=>∃a xs,x=.ref a/\aZ K H a xs/\∀p,H p=none->Q (.ref p) (upd H p (.lst (gQ xs lo hi)))
theorem wE:zw X (M3 X.K):=by
 intro pins s σ H x v vl vu lo hi sl Q I rx hs pl pu h;obtain⟨a,xs,rfl,hx,q⟩:=h
 cases rx
 obtain⟨its,r,ht,hz⟩:=I.list hx;have hlen:=r.length;refine⟨"list",_,Y7.lookup,ht.isList.typeIs,?_⟩;refine wpAny_getItem_list_slice ht.isList hs pl pu .none (by simp) ?_ (by rw[QX]<;>omega);rw[o9,←hlen];refine⟨.ref s.heap.objs.size,_,I.laid (t':=s.toks) (o:=.lst (gQ xs lo hi)) (λb ob q=>Qy _ q) (QB _) ?_,Z,q _ (I.hok.fresh (QB _))⟩;exact⟨Rm (mz xs lo hi) hz,_,0,(r.drop (HT.sIx xs.length 0 lo)).take (HT.sIx xs.length xs.length hi-HT.sIx xs.length 0 lo),QZ _ Z⟩
def jB:V->Bool
 | .non=>true
 | .bl _=>true
 | .int _=>true
 | .str _=>true
 |_=>false
def Gq:V->V->Bool
 | .non,.non=>true
 | .bl a,.bl b=>a==b
 | .bl a,.int b=>(if a then 1 else 0)==b
 | .int a,.bl b=>a==(if b then 1 else 0)
 | .int a,.int b=>a==b
 | .str a,.str b=>a==b
 |_,_=>false
theorem JL(ry:br y u)(rx:br x v)(fy:jB y=true)(fx:jB x=true):Sr A s u v (Gq y x):=by
 cases y with
 |non=>
  cases ry
  cases x with
  |non=>cases rx;exact Sr.same _
  |bl b=>cases rx;exact Sr.none_bool b
  |int b=>obtain⟨t,rfl⟩:=rx;exact Sr.none_int b t
  |str b=>obtain⟨t,rfl⟩:=rx;exact Sr.none_str b t
  |_=>exact absurd (show false=true from fx) Q4
 |bl a=>
  cases ry
  cases x with
  |non=>cases rx;exact Sr.bool_none a
  |bl b=>cases rx;exact Sr.bool_bool a b
  |int b=>obtain⟨t,rfl⟩:=rx;exact Sr.bool_int a b t
  |str b=>obtain⟨t,rfl⟩:=rx;exact Sr.bool_str a b t
  |_=>exact absurd (show false=true from fx) Q4
 |int a=>
  obtain⟨t',rfl⟩:=ry
  cases x with
  |non=>cases rx;exact Sr.int_none a t'
  |bl b=>cases rx;exact Sr.int_bool a t' b
  |int b=>obtain⟨t,rfl⟩:=rx;exact Sr.int_int a t' b t
  |str b=>obtain⟨t,rfl⟩:=rx;exact YC a t' b t
  |_=>exact absurd (show false=true from fx) Q4
 |str a=>
  obtain⟨t',rfl⟩:=ry
  cases x with
  |non=>cases rx;exact Sr.str_none a t'
  |bl b=>cases rx;exact Sr.str_bool a t' b
  |int b=>obtain⟨t,rfl⟩:=rx;exact YD a t' b t
  |str b=>obtain⟨t,rfl⟩:=rx;exact Sr.str_str a t' b t
  |_=>exact absurd (show false=true from fx) Q4
 |_=>exact absurd (show false=true from fy) Q4
def Fp(x:V)(u:Value):Bool:=match u with
 | .none=>Gq .non x
 | .bool b=>Gq (.bl b) x
 | .int i _=>Gq (.int i) x
 | .str z _=>Gq (.str z) x
 |_=>false
theorem Db(r:br y u)(f:jB y=true):Fp x u=Gq y x:=by
 cases y with
 |non=>cases r;rfl
 |bl b=>cases r;rfl
 |int i=>obtain⟨t,rfl⟩:=r;rfl
 |str z=>obtain⟨t,rfl⟩:=r;rfl
 |_=>exact absurd (show false=true from f) Q4
theorem so{x:V}:∀{xs:List V} {us:List Value},bu xs us->xs.all jB=true->us.any (Fp x)=xs.any λy=>Gq y x
 |_,_,.nil,_=>rfl
 |y::xs,u::us,.cons r t,f=>by
  rw[WZ,Ra] at f;rw[Uh,Uh,Db r f.1,so t f.2]
theorem oC{A:Rw}{s:QD}{x:V}{v:Value}(rx:br x v)(fx:jB x=true):∀{xs:List V} {us:List Value},bu xs us->xs.all jB=true->∀u∈us,Sr A s u v (Fp x u)
 |_,_,.nil,_=>λu hu=>by cases hu
 |y::xs,u::us,.cons r t,f=>λu' hu=>by
  rw[WZ,Ra] at f;rcases QR.mp hu with rfl|hu
  ·rw[Db r f.1];exact JL r rx f.1 fx
  ·exact oC rx fx t f.2 u' hu
def Ff(x:V)(xs:List V):Bool:=xs.any λy=>Gq y x
def Om(K:Qu)(neg:Bool):R2:=λx y H Q=>∃p xs,y=.ref p/\(aZ K H p xs∨bz K H p xs)/\jB x=true/\xs.all jB=true/\Q (.bl (if neg then !Ff x xs else Ff x xs)) H
theorem kJ:ir X (Sw .NotIn) (Om X.K true):=by
 intro pins s σ H x y v u Q I rx ry h;obtain⟨p,xs,rfl,hq,fx,fs,q⟩:=h
 cases ry
 rcases hq with hq|hq
 ·obtain⟨its,r,pl,hz⟩:=I.list hq;refine SeqAt.notIn_listAt (Fp x) pl.isList (λw hw=>oC rx fx r fs w (by simpa using hw)) ⟨.bl _,H,I,Z,?_⟩;rw[show its.toArray.any (Fp x)=its.any (Fp x) by simp,so r fs];exact q
 ·obtain⟨its,r,pl,hz⟩:=I.tuple hq;refine SeqAt.notIn_tupleAt (Fp x) pl (λw hw=>oC rx fx r fs w (by simpa using hw)) ⟨.bl _,H,I,Z,?_⟩;rw[show its.toArray.any (Fp x)=its.any (Fp x) by simp,so r fs];exact q
inductive J9(K:Qu)(H:Hp)(xs:List V)(Q:Int->Prop):Prop where
 |mk (p:Addr) (ys:List V) (e:xs=[.ref p]) (h:aZ K H p ys∨bz K H p ys) (k:Q ys.length):J9 K H xs Q
theorem aN:dF X (.builtin "len") (λxs H Q=>J9 X.K H xs λn=>Q (.int n) H):=by
 intro pins s σ H xs us Q I r h;obtain⟨p,ys,rfl,hq,q⟩:=h;obtain⟨u,rfl,rx⟩:=fP r
 cases rx
 have hn:=rQ;rcases hq with hq|hq
 ·obtain⟨its,r',pl,hz⟩:=I.list hq;have hlen:=r'.length;exact Calls.call_len_list pl.isList (by simp only[QX]<;>omega) ⟨.int ys.length,H,I.tok _,⟨s.toks+1,by rw[QX,hlen]⟩,q⟩
 ·obtain⟨its,r',pl,hz⟩:=I.tuple hq;have hlen:=r'.length;exact len_tuple pl (by simp only[QX]<;>omega) ⟨.int ys.length,H,I.tok _,⟨s.toks+1,by rw[QX,hlen]⟩,q⟩
theorem bK:dF X (.type "tuple") (λxs H Q=>∃p ys,xs=[.ref p]/\((aZ X.K H p ys/\∀l,H l=none->Q (.ref l) (upd H l (.tup ys)))∨(bz X.K H p ys/\Q (.ref p) H))):=by
 intro pins s σ H xs us Q I r h;obtain⟨p,ys,rfl,h⟩:=h;obtain⟨u,rfl,rx⟩:=fP r
 cases rx
 rcases h with⟨hq,q⟩ | ⟨hq,q⟩
 ·obtain⟨its,r',pl,hz⟩:=I.list hq;have hlen:=r'.length;refine call_tuple_list pl.isList (λh' kp=>?_) (by simp only[QX]<;>omega);have I1:Inv X pins σ H { s with heap:=h'}:=I.kept (t':=s.toks) kp;have I2:Inv X pins σ (upd H h'.objs.size (.tup ys)) { s with heap:=h'.push { cls:=.type "tuple",data:=.seq its.toArray} }:=
   I1.laid (t':=s.toks) (λb o e=>Qy _ e) (QB _) (show ObjOk X.prog X.w _ _ _ (.tup ys) from⟨hz,its,r',Ye _ _⟩)
  exact⟨.ref h'.objs.size,_,I2,Z,q _ (I1.hok.fresh (QB _))⟩
 ·obtain⟨its,r',pl,hz⟩:=I.tuple hq;exact call_tuple_same pl ⟨.ref p,H,I,Z,q⟩
def MQ(K:Qu)(T:String)(x:V)(H:Hp):Prop:=match x with
 | .str _=>T = "str"
 | .int _=>T = "int"
 | .ref p=>(T = "list"/\∃xs,aZ K H p xs)∨(T = "tuple"/\∃o,K.lookup p=some o/\o.cls=.type "tuple"/\o.dict=none)∨
   (T = "dict"/\((∃kvs,H p=some (.dK kvs))∨∃kvs,H p=some (.dT kvs)))∨(T = "set"/\∃S n,H p=some (.set S n))
 |_=>False
theorem GB{pins:List (Addr×Sv)}{σ:St}{H:Hp}{s:QD}{T:String}{x:V}{v:Value}(I:Inv X pins σ H s)(r:br x v)(ty:MQ X.K T x H) :
  s.TypeIs v T/\∀a,v=.ref a->∃ob,s.heap.get? a=some ob/\ob.dict=none:=by
 cases x with
 |str z=>
  obtain⟨t,rfl⟩:=r
  cases(show T = "str" from ty)
  exact⟨typeIs_str s z t,λ_ e=>nomatch e⟩
 |int i=>
  obtain⟨t,rfl⟩:=r
  cases(show T = "int" from ty)
  exact⟨VW s i t,λ_ e=>nomatch e⟩
 |ref p=>
  cases r
  rcases ty with⟨rfl,xs,hq⟩ | ⟨rfl,o,hk,hc,hd⟩ | ⟨rfl,hk⟩ | ⟨rfl,S,n,hk⟩
  ·obtain⟨its,_,pl,_⟩:=I.list hq;refine⟨pl.isList.typeIs,λa e=>?_⟩
   cases e
   obtain⟨o,n,e,c,hd,_⟩:=pl;exact⟨o,e,hd⟩
  ·refine⟨⟨o,I.kIn p o hk,hc⟩,λa e=>?_⟩
   cases e
   exact⟨o,I.kIn _ o hk,hd⟩
  ·have z:∃o,s.heap.get? p=some o/\o.ExactDict:=by
    rcases hk with⟨kvs,hk⟩ | ⟨kvs,hk⟩
    ·obtain⟨_,_,_,_,o,_,_,e,ex,_⟩:=I.hok p _ hk;exact⟨o,e,ex⟩
    ·obtain⟨_,_,_,_,o,_,_,e,ex,_⟩:=I.hok p _ hk;exact⟨o,e,ex⟩
   obtain⟨o,e,ex⟩:=z;refine⟨⟨o,e,ex.1⟩,λa e2=>?_⟩
   cases e2
   exact⟨o,e,ex.2.1⟩
  ·obtain⟨o,_,_,_,e,ex,_⟩:=I.hok p _ hk;refine⟨⟨o,e,ex.1⟩,λa e2=>?_⟩
   cases e2
   exact⟨o,e,ex.2.1⟩
 |_=>exact SJ ty
def O9(K:Qu)(T:String)(r:V->List V->Hp->VK->Prop)(to:TE):TE:=λσ H Q=>to σ H λx H1=>MQ K T x H1/\r x [] H1 Q
def Oa(K:Qu)(T:String)(r:V->List V->Hp->VK->Prop)(to:TE)(t:TA):TE:=λσ H Q=>to σ H λx H1=>MQ K T x H1/\t σ H1 λxs H2=>r x xs H2 Q
variable {o e:Ry}{es:List Ry}{to:TE}{t:TA}{name:Rr}{apos cpos:UE}{T id:String}{r:V->List V->Hp->VK->Prop}
theorem Lk(pa:PlainAttrs T)(slot:Slot T name id)(hty:typeOf (.builtin id)=TL (.type "method_descriptor"))(hm:OG X id r)(ho:PE X o to)(ha:PA X (e::es) t)
  (hbase:Ug o name X.env (eval o X.env)=eval o X.env:=by rfl)
  (hfew:((Uv cpos (QV (e::es) X.env)).all (λx=>!x.1)&&(Y2 cpos (WP [] X.env)).all (λx=>x.1.isSome)
  &&decide ((e::es).length+([]:List Wj).length+(if([]:List Wj).isEmpty then 0 else 1)<30))=true:=by rfl)
  (hline:(apos.endLine==cpos.line)=true:=by rfl) (hs:QV (e::es) X.env=(false,eval e X.env)::QV es X.env:=by rfl) (hplain:(Uv cpos (QV es X.env)).any (·.1)=false:=by rfl) :
  PE X (.Call (.Attribute o name apos) (e::es) [] cpos) (Oa X.K T r to t):=by
 intro pins s σ H Q I h;refine wpAny_Call_method_late hbase hfew hline Z (cL (ho pins s σ H _ I h) λv s1 ⟨x,H1,I1,r1,ty,q1⟩=>?_);obtain⟨h1,h2⟩:=GB I1 r1 ty;refine⟨T,id,pa,slot,hty,h1,h2,?_⟩;have hA:=ha cpos pins s1 σ H1 _ I1 q1;rw[hs] at hA ⊢;refine Calls.callWith_builtin (by show(false||(Uv cpos (QV es X.env)).any (·.1))=false;rw[hplain]<;>rfl) (Calls.evalArgs_plain ?_);exact cL hA λus s2 ⟨vs,H2,I2,r2,q2⟩=>hm pins s2 σ H2 x vs v us Q I2 r1 r2 q2
end
end L2
namespace L2
open PySem PySem.Spec PyProof.Rows
def L8(X:Cx)(id:String)(r:V->List V->Hp->VK->Prop):Prop:=
 ∀(pins:List (Addr×Sv)) (s:QD) (σ:St) (H:Hp) (x:V) (xs:List V) (v:Value) (us:List Value) (Q:VK),Inv X pins σ H s->br x v->bu xs us->r x xs H Q→
  Q0 (Q5 X.prog X.w) X.A (call (.builtin id) (v::us)) (EP X pins σ Q) X.xe s
theorem bu.one:∀{x:V} {us:List Value},bu [x] us->∃u,us=[u]/\br x u
 |_,_,.cons r .nil=>⟨_,Z,r⟩
theorem bu.eraseIdx:∀{xs:List V} {us:List Value} (i:Nat),bu xs us->bu (xs.eraseIdx i) (us.eraseIdx i)
 |_,_,_,.nil=>.nil
 |_,_,0,.cons _ t=>t
 |_,_,i+1,.cons r t=>.cons r (bu.eraseIdx i t)
section
variable {X:Cx}{pins:List (Addr×Sv)}{σ:St}{H:Hp}{s:QD}{l b:Addr}{xs ys zs:List V}
theorem Inv.lset{its its':List Value}(I:Inv X pins σ H s)(hH:H l=some (.lst xs))
  (e:s.heap.get? l=some { cls:=.type "list",data:=.seq its.toArray n}) (hf:f its.toArray=its'.toArray) (hv:bu ys its') (hz:ys.length≤sizeLine):
  Inv X pins σ (upd H l (.lst ys)) { s with heap:=s.heap.update l (VU f),toks:=t'}:=by
 have q:=PySem.IsL.update e f;rw[hf] at q;refine I.write (x:=l) (e:=l) (by rw[hH];exact trivial) (.inl Z) (λb' u hb hu=>(RH s.heap (VU f) (Tt hb)).trans hu) ⟨_,q⟩ ?_;exact⟨hz,its',_,hv,q⟩
theorem Inv.lnew(I:Inv X pins σ H s)(hv:bu ys its)(hz:ys.length≤sizeLine):
  Inv X pins σ (upd H s.heap.objs.size (.lst ys)) { s with heap:=s.heap.push { cls:=.type "list",data:=.seq its.toArray},toks:=t'}:=
 I.laid (λ_ _ q=>Qy _ q) (QB _) ⟨hz,its,0,hv,QZ _ Z⟩
theorem Inv.fresh(I:Inv X pins σ H s):H s.heap.objs.size=none:=I.hok.fresh (QB _)
theorem Inv.lstM(I:Inv X pins σ H s)(hH:H l=some (.lst xs)):xs.length≤sizeLine/\∃(its:List Value) (n:Nat),bu xs its/\xs.length=its.length/\s.heap.get? l=some { cls:=.type "list",data:=.seq its.toArray n}:=by
 obtain⟨z,its,n,r,e⟩:=I.hok l _ hH;exact⟨z,its,n,r,r.length,e⟩
theorem uf(h:n≤sizeLine):SU n=false:=by
 unfold SU;exact decide_eq_false ω
end
section
variable {X:Cx}
inductive Mi(x:V)(vs:List V)(H:Hp)(Q:Hp->Prop):Prop where
 |mk (l:Addr) (xs:List V) (y:V) (e:x=.ref l) (f:vs=[y]) (h:H l=some (.lst xs)) (n:xs.length<sizeLine) (q:Q (upd H l (.lst (xs++[y])))):Mi x vs H Q
def Ee:V->List V->Hp->VK->Prop:=λx vs H Q=>Mi x vs H λH'=>Q .non H'
theorem cQ:L8 X "list.append" Ee:=by
 intro pins s σ H x vs v us Q I rx rv h;obtain⟨l,xs,y,rfl,rfl,hH,hz,q⟩:=h
 cases rx
 obtain⟨u,rfl,ru⟩:=rv.one;obtain⟨z,its,n,r,hl,e⟩:=I.lstM hH;refine VX F.slot_list_append ⟨_,e,Z⟩ F.entry_list_append (F.args_list_append_2 _ _) (PySem.list_append l its.toArray n u (by rw[QX];omega)) ⟨e,?_⟩;refine⟨.non,_,I.lset (its':=its++[u]) hH e (by simp) (r.append (.cons ru .nil)) ?_,Z,q⟩;rw[Q2,UR];omega
def Ed:V->List V->Hp->VK->Prop:=λx vs H Q=>∃l b xs zs,x=.ref l/\vs=[.ref b]/\H l=some (.lst xs)/\H b=some (.lst zs)/\xs.length+zs.length≤sizeLine/\Q .non (upd H l (.lst (xs++zs)))
theorem yz:L8 X "list.extend" Ed:=by
 intro pins s σ H x vs v us Q I rx rv h;obtain⟨l,b,xs,zs,rfl,rfl,hH,hB,hz,q⟩:=h
 cases rx
 obtain⟨u,rfl,ru⟩:=rv.one
 cases ru
 obtain⟨z,its,n,r,hl,e⟩:=I.lstM hH;obtain⟨z2,its2,n2,r2,hl2,e2⟩:=I.lstM hB;have hsz:its.toArray.size+its2.toArray.size≤sizeLine:=by rw[QX,QX];omega
 have hlong:¬(!its.toArray.isEmpty&&SU (its.toArray.size+its2.toArray.size))=true:=by
  rw[uf hsz,R1];exact Q4
 refine VX F.slot_list_extend ⟨_,e,Z⟩ F.entry_list_extend (F.args_list_extend_2 _ _)
  (AutoSeq1.list_extend_list_list_0 l its.toArray n b its2.toArray n2 hlong (by rw[QX];omega) ω) ⟨e,e2,?_⟩
 refine⟨.non,_,I.lset (its':=its++its2) hH e (by simp) (r.append r2) ?_,Z,q⟩;rw[Q2];omega
def Pj:V->List V->Hp->VK->Prop:=λx vs H Q=>∃l xs y,x=.ref l/\vs=[]/\H l=some (.lst xs)/\xs[xs.length-1]?=some y/\Q y (upd H l (.lst xs.dropLast))
def M4:V->List V->Hp->VK->Prop:=λx vs H Q=>∃l xs i k y,x=.ref l/\vs=[.int i]/\H l=some (.lst xs)/\-(2^63)≤i/\i<2^63/\seqIndex? i xs.length=some k/\xs[k]?=some y/\Q y (upd H l (.lst (xs.eraseIdx k)))
def K4:V->List V->Hp->VK->Prop:=λx vs H Q=>∃l xs,x=.ref l/\vs=[]/\H l=some (.lst xs)/\Q .non (upd H l (.lst xs.reverse))
def Na:V->List V->Hp->VK->Prop:=λx vs H Q=>∃l xs,x=.ref l/\vs=[]/\H l=some (.lst xs)/\Q .non (upd H l (.lst []))
def Nb:R2:=λx y H Q=>∃l b xs zs,x=.ref l/\y=.ref b/\H l=some (.lst xs)/\H b=some (.lst zs)/\xs.length+zs.length≤sizeLine/\∀p,H p=none->Q (.ref p) (upd H p (.lst (xs++zs)))
theorem Cj:ir X (Ua .Add) Nb:=by
 intro pins s σ H x y v u Q I rx ry h;obtain⟨l,b,xs,zs,rfl,rfl,hH,hB,hz,q⟩:=h
 cases rx
 cases ry
 obtain⟨z,its,n,r,hl,e⟩:=I.lstM hH;obtain⟨z2,its2,n2,r2,hl2,e2⟩:=I.lstM hB;refine PySem.P.add_list e e2 ?_ (by rw[QX,QX];omega);have ea:its.toArray++its2.toArray=(its++its2).toArray:=by simp
 rw[ea];exact⟨.ref _,_,I.lnew (t':=s.toks) (r.append r2) (by rw[Q2];omega),Z,q _ I.fresh⟩
def Ph:R2:=λx y H Q=>∃l k xs,x=.ref l/\y=.int k/\H l=some (.lst xs)/\-(2^63)≤k/\k<2^63/\xs.length*k.toNat≤sizeLine∧
 ∀p,H p=none->Q (.ref p) (upd H p (.lst (Rf k.toNat xs).flatten))
end
section
variable {prog:Rp}{w:RF}{A:Rw}{E:Value->QD->Prop}{s:QD}
end
section
variable {X:Cx}
end
end L2
namespace Att
open PySem PySem.W PySem.Calls PyProof.Rows
theorem mS:∀(ns:List Int) (vs:List Value),WellAll P h vs (ns.map WData.int)->XH vs ns:=by
 intro ns
 induction ns with
 |nil=>
  intro vs w;rw[Y5] at w
  cases w
  exact .nil
 |cons n ns ih=>
  intro vs w;rw[RC] at w
  cases w with
  |cons a b=>
   cases a
   exact .cons _ _ (ih _ b)
theorem yg{l:OpenLaw}(hn:l.most=some n){h:QN} 
  (hpre:l.row.toRowW.claim.pre args=true) (hwl:WellAll P h vals args):
  ∃a vs ns,vals=[Rz a]/\args=[WData.list (ns.map WData.int)]/\h.get? a=some { cls:=.type "list",data:=.seq vs.toArray}/\XH vs ns/\ns.length≤n:=by
 have hsh:WShape.hasAll [] args [.list .int]=true:=(pre_splitW hpre).1;have hc:l.pre.holds [] { args:=args}=true:=(pre_splitW hpre).2;obtain⟨d,r,rfl,h1,h2⟩:=hasAllW_cons hsh;obtain rfl:=hasAllW_nil h2;obtain⟨xs,rfl,h3⟩:=hasW_list h1;obtain⟨ns,rfl⟩:=items_int h3;have hlen:ns.length≤n:=by
  unfold OpenLaw.pre at hc;have h4:(WTm.not (.lt (.lit (.int (n:Int))) (.len (.arg 0)))).holds [] { args:=[.list (ns.map .int)]}=true:=by
   have h4:=(holds_andW hc).1;rw[hn] at h4;exact h4
  have h5:=condW_of h4 (w_not (w_lt w_lit (w_len_list (w_arg Z))));rw[Qz] at h5;refine Nat.le_of_not_lt λq=>?_
  have q':(n:Int)<((ns.length:Nat):Int):=ω
  first
   | (rw[decide_eq_true q'] at h5;exact absurd h5 δ)
   | (simp at h5;omega)
 cases hwl with
 |cons w1 w2=>
  cases w2
  cases w1 with
  |list ho hall=>exact⟨_,_,ns,Z,Z,ho,mS ns _ hall,hlen⟩
theorem yn(l:OpenLaw)(args:List WData):l.row.toRowW.claim.post args (.bool true) args=true:=
 postW_of (r:=l.row.toRowW) (X:=(true==true))
  (show WShape.has [] (.bool true) .bool=true by first|rfl|decide|simp[WShape.has,WShape.arms,WShape.armsAll])
  (show(WTm.eq .res (.lit (.bool true))).value [] { args:=args,res:=some (.bool true),after:=args}=some (.bool (true==true)) from w_eq_bool (w_res Z) w_lit) Z
theorem attach_call{l:OpenLaw}{d:DefRec}
  (hn:l.most=some n) (hdf:d.params.defaults=[])
  (call:∀(w:RF) (s₀ s₁:QD) (mg mb:Rr->Option Value) (fa:Addr) (o:Sv) (pm cd doc:Value) (a:Addr) (vs:List Value) (ns:List Int),
   Ground q loose [] XP w s₀ mg mb s₁.heap->YP w s₁.heap→
   s₁.heap.get? fa=some o->o.data=.func (docDef d.name d.params d.body d.scope pm cd doc)->s₁.heap.CodeRec cd d.name->mg d.name=some (.ref fa)→
   s₁.heap.get? a=some { cls:=.type "list",data:=.seq vs.toArray}->XH vs ns->ns.length≤n->s₁.gens=#[]→
   Vd (Q5 l.prog w) Yi (.call (.ref fa) ⟨[.ref a],[]⟩) (λr s'=>r=.ok (.ret (.bool true))/\OldK s₁.heap s'.heap/\s'.os=s₁.os/\V0 s'.gens) s₁):
  WalkO q loose XP YP l.row.toRowW d [] (λf vs=>aab f vs):=by
 intro w s₀ s₁ mg mb G Y fa o pm cd doc dV kV ho hd hcd hD hmg hg args vals as hpre hlay hrd hwl hlo;obtain rfl:dV=.none:=Dflts.none hD hdf;obtain rfl:kV=.none:=Dflts.noKw hD;obtain⟨a,vs,ns,rfl,rfl,hobj,hints,hlen⟩:=yg hn hpre hwl;refine enter_call (VG (call w s₀ s₁ mg mb fa o pm cd doc a vs ns G Y ho (fd_plain hd) hcd hmg hobj hints hlen hg) λr s' hq=>?_);obtain⟨rfl,h2,h3,h4⟩:=hq;exact⟨.inl ⟨.bool true,.bool true,[],Z,λ_=>Z,.bool true,yn l _,λ_=>⟨Vo.nil,λ_ hm=>(nomatch hm)⟩⟩,h2,h3,h4⟩
section
variable {prog:Rp}{w:RF}{A:Rw}{E:Value->QD->Prop}{s:QD}{K:Frag}
def Nd(h:QN):QN:={ h with objs:=#[]}
def Nh(h:QN)(L d:Addr):List (Addr×Sv):=(Qv h.objs.size).filterMap λa=>if a=L∨a=d then none else(h.get? a).map λo=>(a,o)
end
end Att
namespace L2
open PySem PySem.Spec PyProof.Rows
theorem pJ:∀{vs:List Value} {ns:List Int},XH vs ns->bu (ns.map V.int) vs
 |_,_,.nil=>.nil
 |_,_,.cons n t h=>.cons ⟨t,Z⟩ (pJ h)
def J4(H:Hp):Prop:=∀b,H b=none∨∃o xs,H b=some (.frz o (.lst xs))
theorem CO{K:Qu}{s₁:QD}{vs:List Value}{ns:List Int}
  (KX:K.In s₁.heap) (hns:s₁.heap.Ns Rg mg) (hb:s₁.heap.Ns Z3 mb) (hbb:∀x:Rr,x ≠ "__name__"->mb x=SX x) (hlim:s₁.heap.NoLimit) (hg:s₁.gens=#[])
  (ha:s₁.heap.get? a=some { cls:=.type "list",data:=.seq vs.toArray}) (hi:XH vs ns) (hl:ns.length≤sizeLine) (hr:dN k Yi)
  (F:∀base:QN,K.In base->base.Ns Rg mg->bi P w K mg base CX k fa fd [x] sp) (hbind:∀(s:QD) (u:Value),Xz s fd ⟨[u],[]⟩ [(x,u)])
  (hsp:∀H:Hp,J4 H->aZ K H a (ns.map V.int)->sp [.ref a] H (λv _=>v=.bl true) λ_ _ _=>False)
  (hCX:∀H e s',CX [] H s₁ (λ_ _ _=>False) e s'->False):
  Vd (Q5 P w) Yi (.call (.ref fa) ⟨[.ref a],[]⟩) (λr s'=>r=.ok (.ret (.bool true))/\OldK s₁.heap s'.heap/\s'.os=s₁.os/\V0 s'.gens) s₁:=by
 have rv:=pJ hi;have lenV:=hi.length;have core:∀H:Hp,J4 H->aZ K H a (ns.map V.int)->jM P w H s₁.heap->(∀b,H b≠none->b=a)->(H a≠none->K.lookup a=none)→
   Vd (Q5 P w) Yi (.call (.ref fa) ⟨[.ref a],[]⟩) (λr s'=>r=.ok (.ret (.bool true))/\OldK s₁.heap s'.heap/\s'.os=s₁.os/\V0 s'.gens) s₁:=by
  intro H hO hS hok hA hK;have base_of:∀{b:Addr} {o:Sv},s₁.heap.get? b=some o->H b=none->(rV s₁.heap H).get? b=some o:=λe n=>CZ e n
  have noA:∀{b:Addr} {o:Sv} {es:Array Yh} {ep:Nat},s₁.heap.get? b=some o->o.data=.dict es ep->H b=none:=λ{b o es ep} e d=>by
   cases q:H b with
   |none=>rfl
   |some u=>
    have e':b=a:=hA b (by rw[q];simp);subst e';rw[ha] at e;cases e;have d':aaN vs.toArray _=YE.dict es ep:=d
    cases d'
  have nsK:∀{b:Addr} {m:Rr->Option Value},s₁.heap.Ns b m->(rV s₁.heap H).Ns b m:=λ{b m} ⟨o,es,ep,e,d,r⟩=>⟨o,es,ep,base_of e (noA e d),d,r⟩
  have hKb:K.In (rV s₁.heap H):=λb o e=>base_of (KX b o e) (by
   cases q:H b with
   |none=>rfl
   |some u=>
    have e':b=a:=hA b (by rw[q];simp);subst e';rw[hK (by rw[q];simp)] at e;cases e)
  have hM:Mod K mg (rV s₁.heap H):=⟨hKb,nsK hns,⟨mb,nsK hb,hbb⟩,let ⟨mc,h1,h2⟩:=hlim;⟨mc,nsK h1,h2⟩⟩;have e0:uN P w K mg (rV s₁.heap H) Yi [] s₁ H:=⟨Z,hM,λb o e=>EV e,VI (yN _ _),trivial,λb hb=>absurd (show b∈([]:List Addr) from hb) (by simp),hok,.of_eq hg⟩;refine VG ((F _ hKb (nsK hns)).run Yi [] s₁ H ⟨[.ref a],[]⟩ [.ref a] [.ref a] _ _ hr e0 (hbind s₁ (.ref a)) (.cons Z .nil) (hsp H hO hS)) λr s' h=>?_
  cases r with
  |error e=>exact(hCX H e s' h).elim
  |ok fl=>
   cases fl with
   |next=>exact SJ h
   |brk=>exact SJ h
   |cont=>exact SJ h
   |ret u=>
    obtain⟨v,H',os,bare,un,hok',r',q⟩:=h;have q':v=.bl true:=q;subst q';obtain rfl:u=UY true:=r';refine⟨Z,OldK.of_keep λb o e=>?_,os,bare⟩
    cases q:H b with
    |none=>exact un.keep b o e q (by intro z;exact absurd (show b∈([]:List Addr) from z) (by simp)) (by simp)
    |some u=>
     rcases hO b with z | ⟨ob,xs,z⟩
     ·rw[q] at z;cases z
     ·have z2:=un.frzs b ob _ z;obtain⟨e1,_⟩:=hok b _ z;obtain⟨e2,_⟩:=hok' b _ z2;rw[e] at e1;cases e1;exact e2
 cases hk:K.lookup a with
 |some o=>
  have e:=KX a o hk;rw[ha] at e
  cases e
  refine core (λ_=>none) (λ_=>.inl Z) (.inr ⟨_,vs.toArray,_,hk,Z,Z,Z,by rw[QX,lenV];exact hl,by simpa using rv⟩) (λb u z=>by have z':(none:Option HO)=some u:=z;cases z') (λb z=>absurd Z z) λz=>absurd Z z
 |none=>
  refine core (λb=>if b=a then some (.frz { cls:=.type "list",data:=.seq vs.toArray} (.lst (ns.map V.int))) else none) (λb=>?_) (.inl (.inr ⟨{ cls:=.type "list",data:=.seq vs.toArray},if_pos Z⟩)) (λb u z=>?_) (λb z=>?_) λ_=>hk
  ·by_cases hb:b=a
   ·exact .inr ⟨_,_,if_pos hb⟩
   ·exact .inl (if_neg hb)
  ·by_cases hb:b=a
   ·have z':=(if_pos hb).symm.trans z
    cases z'
    subst hb;exact⟨ha,by rw[Qz];exact hl,vs,_,rv,ha⟩
   ·have z':=(if_neg hb).symm.trans z
    cases z'
  ·by_cases hb:b=a
   ·exact hb
   ·exact absurd (if_neg hb) z
end L2
namespace L2
open PySem PySem.Spec PyProof.Rows
abbrev Qs{K:Qu}{h:QN}(_:K.In h):Qu:=K
theorem walk_of{l:ZX}{loose:List Rr}{XP:(Rr->Option Value)->QN->Prop}{YP:RF->QN->Prop}{d:DefRec}{K:Params->Qu}{CX:RF->uP}{sp:RF->Sp} 
  (hn:l.most=some n) (hn2:n≤sizeLine) (hdf:d.params.defaults=[]) (hr:dN k Yi)
  (hY:∀(w:RF) (h:QN),YP w h->(K w.params).In h)
  (F:∀(w:RF) (mg:Rr->Option Value) (fa:Addr) (h:QN),(K w.params).In h->h.Ns Rg mg->mg d.name=some (.ref fa)→
   ∃fd:QF,(∀(s:QD) (u:Value),Xz s fd ⟨[u],[]⟩ [(x,u)])∧
    ∀base:QN,(K w.params).In base->base.Ns Rg mg->bi l.prog w (K w.params) mg base (CX w) k fa fd [x] (sp w))
  (hsp:∀(w:RF) (H:Hp) (a:Addr) (ns:List Int),ns.length≤n->J4 H->aZ (K w.params) H a (ns.map V.int)->sp w [.ref a] H (λv _=>v=.bl true) λ_ _ _=>False)
  (hCX:∀(w:RF) (H:Hp) (s:QD) (e:Value) (s':QD),CX w [] H s (λ_ _ _=>False) e s'->False):
  aam q loose XP YP l.row.toRowW d [] (λf vs=>aab f vs):=by
 refine Att.attach_call hn hdf λw s₀ s₁ mg mb fa o pm cd doc a vs ns G Y ho hd hcd hmg hobj hints hlen hg=>?_
 have KX:=hY w _ Y;obtain⟨fd,hb,hF⟩:=F w mg fa _ KX G.T.g hmg;exact CO KX G.T.g G.T.b G.T.builtins G.T.nolimit hg hobj hints (Rm hlen hn2) hr hF hb (λH hO hS=>hsp w H a ns hlen hO hS) λH e s'=>hCX w H s₁ e s'
end L2
namespace L2
open PySem PySem.Spec PyProof.Rows
def w6(s:Stmt)(j:Nat):Stmt:=match s with
 | .ClassDef _ _ _ body _ _ _ _ _ _ _=>body.getD j (.Pass ⟨0,0,0,0⟩)
 |_=>.Pass ⟨0,0,0,0⟩
def eX(s:Stmt):Arguments:=match s with
 | .FunctionDef _ a _ _ _ _ _ _ _ _=>a
 |_=>{ posonlyargs:=[],args:=[],vararg:=none,kwonlyargs:=[],kw_defaults:=[],kwarg:=none,defaults:=[]}
def dU(s:Stmt):List Stmt:=match s with
 | .FunctionDef _ _ b _ _ _ _ _ _ _=>b
 |_=>[]
def ax(s:Stmt):UZ:=match s with
 | .FunctionDef _ _ _ _ _ _ sc _ _ _=>sc
 |_=>{ kind:=.function,names:=[],isGenerator:=false,isCoroutine:=false}
abbrev cT:uP:=λ_ _ _ _ _ _=>False
abbrev E0:XK:=λ_ _ _=>False
theorem me:l7 cT X E0:=λ_ _ _ _ _ _ _ h=>h.elim
structure Fun(K:Qu)(x qual:Rr)(st:Stmt)(f:Addr)(fd:QF):Prop where
 ex:∃(oc:Value) (od:Option Addr) (kV doc pm:Value) (an:Option Addr) (cdv ct:Value) (osl:Array (Option Value)),
  fd=Ue x qual (eX st) (dU st) (ax st) .none kV doc pm an cdv ct/\K.lookup f=some ⟨oc,od,.func fd,osl⟩/\Wx K cdv qual=true
 kp:SH K (.ref f)=true
section
variable {P:Rp}{w:RF}{K:Qu}{mg:Rr->Option Value}{base:QN}
theorem Fun.ok{x qual:Rr}{st:Stmt}{f:Addr}{fd:QF}{N ps:List Rr}{k:Nat}{sp:Sp}(F:Fun K x qual st f fd)(S:aA N ps (ax st))(len:∀vs H Q E,sp vs H Q E->vs.length=ps.length)
  (hbody:∀(cdv:Value) (A:Rw) (outer:List ZU) (s:QD) (H:Hp) (vs:List V) (Q:VK) (E:XK),dN k (A.deeper (XB qual (ax st) s.heap.objs.size f cdv))->sp vs H Q E→
   ∃t,qp (bw cT P w K mg base N qual (ax st) f cdv A outer s H E).nox (dU st) t/\t { nx:=λ_ H'=>Q .non H',rt:=Q} (kr N vs) H):bi P w K mg base cT (k+1) f fd ps sp:=by
 obtain⟨oc,od,kV,doc,pm,an,cdv,ct,osl,rfl,lk,hcd⟩:=F.ex;refine Gp lk hcd S len λA outer s H vs Q E hr hsp=>?_
 obtain⟨t,h,q⟩:=hbody cdv A outer s H vs Q E hr hsp;exact⟨t,h.nox,q⟩
theorem Fun.binds{x qual:Rr}{st:Stmt}{f:Addr}{fd:QF}{ps:List Rr}(F:Fun K x qual st f fd)
  (h:∀(kV doc pm:Value) (an:Option Addr) (cdv ct:Value) (us:List Value),us.length=ps.length->Z8 (Ue x qual (eX st) (dU st) (ax st) .none kV doc pm an cdv ct) ⟨us,[]⟩=TL (ps.zip us)):aP K fd ps []:=by
 obtain⟨oc,od,kV,doc,pm,an,cdv,ct,osl,rfl,lk,hcd⟩:=F.ex;exact .all (h kV doc pm an cdv ct)
theorem vW{x qual:Rr}{st:Stmt}{f:Addr}{oc:Value}{od an:Option Addr}{osl:Array (Option Value)}{kV doc pm cdv ct:Value}(l:K.lookup f=some ⟨oc,od,.func (Ue x qual (eX st) (dU st) (ax st) .none kV doc pm an cdv ct),osl⟩)
  (c:Wx K cdv qual=true) (k:SH K (.ref f)=true):Fun K x qual st f (Ue x qual (eX st) (dU st) (ax st) .none kV doc pm an cdv ct):=⟨⟨oc,od,kV,doc,pm,an,cdv,ct,osl,Z,l,c⟩,k⟩
end
theorem Gm(hr:dN k A):A.units+1<cLine:=RN (Nat.add_le_add_left (by decide:1≤64) _) hr.units
theorem be(h:n≤1000):n<sizeLine:=RN h δ
section
variable {X:Cx}
theorem pv(i:Nat){x:Rr}{pos:UE}(hN:X.N[i]?=some x:=by rfl)(hv:LX X.env.scope x:=by first|exact Q9 Z|exact Q7 (Q9 Z)|exact Q7 (Q7 Z))(hd:(x==("__debug__" : Rr))=false:=by decide)
  (hcd:(x==("__classdict__" : Rr))=false:=by decide):PE X (.Name x pos) (GG i):=Im hN hv hd hcd
end
theorem bW{A B:Prop}(h:B):if false=true then A else B:=by
 rw[if_neg Q4];exact h
theorem iD{A B:Prop}(h:A):if true=true then A else B:=by
 rw[if_pos Z];exact h
theorem rT{c A B:Prop}[Decidable c](h1:c->A)(h2:¬c->B):if c then A else B:=by
 by_cases h:c
 ·rw[if_pos h];exact h1 h
 ·rw[if_neg h];exact h2 h
theorem Gi{c A B:Prop}[Decidable c](hc:c)(h:B):if(!decide c)=true then A else B:=by
 rw[decide_eq_true hc];exact bW h
def aL(H H':Hp):Prop:=∀b o,H b=some o->H' b=some o
theorem aL.refl(H:Hp):aL H H:=λ_ _ h=>h
theorem aL.trans(a:aL H H1)(b:aL H1 H2):aL H H2:=λc o h=>b c o (a c o h)
theorem aL.seq{K:Qu}{H H':Hp}{a:Addr}{xs:List V}(e:aL H H')(h:aZ K H a xs):aZ K H' a xs:=by
 rcases h with(h | ⟨o,h⟩)|h
 ·exact .inl (.inl (e _ _ h))
 ·exact .inl (.inr ⟨o,e _ _ h⟩)
 ·exact .inr h
end L2
set_option maxHeartbeats 4000000
namespace B
open PySem L2 PyProof.Rows
theorem CQ{c A B:Prop}[Decidable c](hc:¬c)(h:A):if(!decide c)=true then A else B:=by
 have e:(!decide c)=true:=by rw[decide_eq_false hc];rfl
 rw[if_pos e];exact h
theorem dz{c A B:Prop}[Decidable c](hc:c)(h:A):if decide c=true then A else B:=by
 rw[if_pos (decide_eq_true hc)];exact h
theorem dA{c A B:Prop}[Decidable c](hc:¬c)(h:B):if decide c=true then A else B:=by
 have e:¬decide c=true:=by rw[decide_eq_false hc];intro z;cases z
 rw[if_neg e];exact h
theorem uo{b:Bool}{A B:Prop}(hb:b=true)(h:A):if b=true then A else B:=by rw[if_pos hb];exact h
theorem ur{b:Bool}{A B:Prop}(hb:b=false)(h:B):if b=true then A else B:=by
 rw[if_neg (by rw[hb];intro z;cases z)];exact h
def wY(A B:String):Option Bool:=if(Vv A==Vv B)=true then some true else if PySem.W.kitMeta B=true then(fastBuiltinMro A).map (·.contains (.type B)) else none
theorem vS{K:Qu}{A B:String}{b:Bool}(h:wY A B=some b):U2 K (.type A) (.type B)=some b:=h
inductive Ty(H:Hp):V->String->Prop where
 |non:Ty H .non "NoneType"
 |bl (b:Bool):Ty H (.bl b) "bool"
 |int (i:Int):Ty H (.int i) "int"
 |str (x:Rr):Ty H (.str x) "str"
 |lst {a:Addr} {xs:List V} (e:H a=some (.lst xs)):Ty H (.ref a) "list"
 |tup {a:Addr} {xs:List V} (e:H a=some (.tup xs)):Ty H (.ref a) "tuple"
theorem Ty.of(K:Qu)(h:Ty H v n):l6 K H v (.type n):=by
 cases h with
 |non=>exact .non
 |bl b=>exact .bl b
 |int i=>exact .int i
 |str x=>exact .str x
 |lst e=>exact .lst e
 |tup e=>exact .tup e
def M7:List V->Hp->VK->Prop:=λxs H Q=>∃x n m b,xs=[x,.ty n]/\Ty H x m/\wY m n=some b/\Q (.bl b) H
theorem gR:dF X (.builtin "isinstance") M7:=by
 intro pins s σ H xs us Q I r h;obtain⟨x,n,m,b,rfl,ty,e,q⟩:=h;obtain⟨u,u2,rfl,rx,ry⟩:=pK r;obtain rfl:u2=Vv n:=ry;exact yJ I rx (ty.of X.K) (vS e) λtk=>⟨.bl b,H,I.tok tk,Z,q⟩
def MN:V->Bool
 | .int _=>true
 |_=>false
def OS(n:String):Bool:=n == "tuple"
structure aY(t:Addr)(H H':Hp):Prop where
 keep:∀b o,b≠t->H b=some o->H' b=some o
 tp:∃xs,H t=some (.lst xs)
 tp':∃xs,H' t=some (.lst xs)
theorem aY.trans(a:aY t H H1)(b:aY t H1 H2):aY t H H2:=⟨λc o n e=>b.keep c o n (a.keep c o n e),a.tp,b.tp'⟩
theorem aY.up(h:H t=some (.lst xs)):aY t H (upd H t (.lst ys)):=⟨λc o n e=>by rw[aJ n];exact e,⟨_,h⟩,⟨_,ao⟩⟩
theorem au(h:H p=none)(o:HO):aL H (upd H p o):=λb u q=>by rw[aJ (aX q h)];exact q
theorem aY.same(s:aL H H')(h:∃xs,H t=some (.lst xs)):aY t H H':=⟨λc o _ e=>s c o e,h,let ⟨xs,e⟩:=h;⟨xs,s _ _ e⟩⟩
theorem aY.new(h:∃xs,H t=some (.lst xs))(n:H p=none)(o:HO):aY t H (upd H p o):=aY.same (au n o) h
theorem aY.refl(h:∃xs,H t=some (.lst xs)):aY t H H:=⟨λ_ _ _ e=>e,h,h⟩
def Th(H:Hp)(v:V):Prop:=∃n,Ty H v n/\∀a xs,v=.ref a->H a=some (.tup xs)->∀x∈xs,∃m,Ty H x m
theorem Ii{xs:List V}(h0:0≤r)(h1:r<(xs.length:Int)):∃v,sj xs r=some v/\v∈xs:=by
 have hk:r.toNat<xs.length:=ω
 have ek:r=((r.toNat:Nat):Int):=ω
 have q:sj xs ((r.toNat:Nat):Int)=some xs[r.toNat]:=bh (Qw hk);rw[←ek] at q;exact⟨_,q,RA hk⟩
theorem BZ{ns:List Int}(h0:0≤r)(h1:r<(ns.length:Int)):∃z:Int,sj (ns.map V.int) r=some (.int z):=by
 obtain⟨v,h,hv⟩:=Ii (xs:=ns.map V.int) h0 (by rw[Qz];exact h1);obtain⟨z,_,rfl⟩:=QU.mp hv;exact⟨z,h⟩
structure cR(H:Hp)(t s:Addr):Prop where
 ex:∃(ns:List Int) (p q r:Int),H t=some (.lst [.ref s,.int p,.int q,.int r])/\H s=some (.lst (ns.map V.int))/\s≠t/\ns.length≤63/\0≤p/\0≤q/\0≤r
theorem cR.lst(h:cR H t s):∃xs,H t=some (.lst xs):=let ⟨_,_,_,_,e,_⟩:=h.ex;⟨_,e⟩
theorem cR.scr(h:cR H t s):∃xs,H s=some (.lst xs):=let ⟨_,_,_,_,_,e,_⟩:=h.ex;⟨_,e⟩
theorem cR.same(h:cR H t s)(z:aL H H'):cR H' t s:=by
 obtain⟨ns,p,q,r,h1,h2,h3⟩:=h.ex;exact⟨ns,p,q,r,z _ _ h1,z _ _ h2,h3⟩
theorem cR.new(h:cR H t s)(n:H p=none)(o:HO):cR (upd H p o) t s:=h.same (au n o)
theorem cR.upl(h:cR H t s)(a:l≠t)(b:l≠s)(o:HO):cR (upd H l o) t s:=by
 obtain⟨ns,p,q,r,h1,h2,h3⟩:=h.ex;exact⟨ns,p,q,r,by rw[aJ a.symm];exact h1,by rw[aJ b.symm];exact h2,h3⟩
theorem LW(ns:List Int):gQ (ns.map V.int) none (some 63)=(ns.take (ZW 63 ns.length)).map V.int:=by
 unfold gQ;rw[show(some (63:Int))=some (((63:Nat):Int)) from Z,HT.sIx_nat,HT.sIx_none,Qz,XJ,WA,Yw]
def DU(K:Qu):Sp:=λvs H Q _=>∃(a:Addr) (ns:List Int),vs=[.ref a]/\aZ K H a (ns.map V.int)/\∀(t s:Addr) (H':Hp),aL H H'->H t=none->H s=none->cR H' t s->Q (.ref t) H'
def DX:Sp:=λvs H Q _=>∃(t s:Addr) (m:Int),vs=[.ref t,.int m]/\cR H t s/\0<m/\m<1073741824/\∀(r:Int) (xs:List V),0≤r->r<m->cR (upd H t (.lst xs)) t s->Q (.int r) (upd H t (.lst xs))
def Mu(K:Qu):Sp:=λvs H Q _=>∃(a:Addr) (ns:List Int),vs=[.ref a]/\aZ K H a (ns.map V.int)/\ns.length≤63/\∀H',Q (.bl true) H'
theorem ut(ha:0≤a)(hb:0<b):Q1 b (a%b)=Q1 a b:=by
 obtain⟨n,rfl⟩:=RK ha;obtain⟨m,rfl⟩:=RK (SY hb);rw[←Int.natCast_emod];show Nat.gcd m (n%m)=Nat.gcd n m;rw[Nat.gcd_comm m,←Nat.gcd_rec,Nat.gcd_comm]
theorem sr(i:Int):(if i<0 then -i else i)=(i.natAbs:Int):=by split<;>omega
end B
namespace B
open PySem PySem.Spec L2 PyProof.Rows
mutual
inductive bX(K:Qu)(H:Hp):V->Ri->Prop where
 |non:bX K H .non .none
 |bl (b:Bool):bX K H (.bl b) (.bool b)
 |int (i:Int):bX K H (.int i) (.int i)
 |str (x:Rr):bX K H (.str x) (.str x)
 |lst {a:Addr} {xs:List V} {ds:List Ri} (e:aZ K H a xs) (h:bx K H xs ds):bX K H (.ref a) (.list ds)
 |tup {a:Addr} {xs:List V} {ds:List Ri} (e:bz K H a xs) (h:bx K H xs ds):bX K H (.ref a) (.tuple ds)
inductive bx(K:Qu)(H:Hp):List V->List Ri->Prop where
 |nil:bx K H [] []
 |cons {x:V} {d:Ri} {xs:List V} {ds:List Ri} (h:bX K H x d) (t:bx K H xs ds):bx K H (x::xs) (d::ds)
end
mutual
theorem bX.reads{X:Cx}{pins:List (Addr×Sv)}{σ:L2.St}{H:Hp}{s:QD}(I:Inv X pins σ H s):∀{v:V} {d:Ri} {u:Value},bX X.K H v d->br v u->∃as,Reads s.heap u d as
 |_,_,u,.non,r=>by cases(show u=Tc from r);exact⟨_,.none⟩
 |_,_,u,.bl b,r=>by cases(show u=UY b from r);exact⟨_,.bool b⟩
 |_,_,u,.int i,r=>by obtain⟨t,q⟩:=(show ∃t,u=Tv i t from r);cases q;exact⟨_,.int i t⟩
 |_,_,u,.str x,r=>by obtain⟨t,q⟩:=(show ∃t,u=Xc x t from r);cases q;exact⟨_,.str x t⟩
 |_,_,u,.lst (a:=a) e h,r=>by
  cases(show u=Rz a from r)
  obtain⟨its,rv,⟨o,n,ho,hc,_,hd⟩,_⟩:=I.list e;obtain⟨as,q⟩:=bx.reads I h rv;exact⟨_,.list ho hc hd (by simpa using q)⟩
 |_,_,u,.tup (a:=a) e h,r=>by
  cases(show u=Rz a from r)
  obtain⟨its,rv,⟨o,ho,hc,n,hd⟩,_⟩:=I.tuple e;obtain⟨as,q⟩:=bx.reads I h rv;exact⟨_,.tuple ho hc hd (by simpa using q)⟩
theorem bx.reads{X:Cx}{pins:List (Addr×Sv)}{σ:L2.St}{H:Hp}{s:QD}(I:Inv X pins σ H s):∀{vs:List V} {ds:List Ri} {us:List Value},bx X.K H vs ds->bu vs us->∃as,ReadsAll s.heap us ds as
 |_,_,_,.nil,.nil=>⟨_,.nil⟩
 |_,_,_,.cons h t,.cons r q=>
  let ⟨_,a⟩:=bX.reads I h r;let ⟨_,b⟩:=bx.reads I t q
  ⟨_,.cons a b⟩
end
structure LY(d:Ri):Prop where
 sh:d.showable=true
 nd:d.hasDict=false
 sz:d.shown.length≤sizeLine
 dp:d.depth≤16
def Oj(K:Qu):List V->Hp->VK->Prop:=λxs H Q=>∃v d,xs=[v]/\bX K H v d/\LY d/\Q (.str d.shown) H
end B
namespace B
open PySem PySem.Spec L2 PyProof.Rows
def qd(X:Cx)(N':List Rr)(scope:UZ)(fn:Rr->Bool)(cs:List (Rr×Addr))(C:Addr)(fp:List Addr)(pins:List (Addr×Sv))(s:QD)(H:Hp):Cx:=
 { X with N:=N',s₀:=s,H₀:=H,env:=Vp scope cs C X.env,outer:=X.stack,stack:=X.stack,ex:=fp,fn:=fn,pn:=X.pn++pins,xe:=λ_ _=>False}
abbrev Fy(X:Cx)(N':List Rr)(scope:UZ)(cl:List (Rr×Addr))(C:Addr)(fp:List Addr)(pins:List (Addr×Sv))(s:QD)(H:Hp):Cx:=qd X N' scope (λ_=>false) cl C fp pins s H
def dh(X:Cx)(scope:UZ)(cl:List (Rr×Addr)):List Rr->List (Option Nat)->Prop
 | [],[]=>True
 |_::N,none::r=>dh X scope cl N r
 |x::N,some j::r=>X.N[j]?=some x/\X.env.kindOf x=some .cell/\(Vp scope cl 0 X.env).kindOf x=some .cell/\cl.lookup x=X.env.cells.lookup x/\dh X scope cl N r
 |_,_=>False
def da(src:List (Option Nat))(σ:L2.St):L2.St:=src.map λo=>o.bind λj=>(σ[j]?).getD none
theorem dh.len{X:Cx}{scope:UZ}{cl:List (Rr×Addr)}:∀{N:List Rr} {src:List (Option Nat)},dh X scope cl N src->N.length=src.length
 | [],[],_=>rfl
 |_::_,none::_,h=>congrArg (·+1) (dh.len (X:=X) (scope:=scope) (cl:=cl) h)
 |_::_,some _::_,h=>congrArg (·+1) (dh.len (X:=X) (scope:=scope) (cl:=cl) h.2.2.2.2)
theorem dh.at{X:Cx}{scope:UZ}{cl:List (Rr×Addr)}{σ:L2.St}:∀{N:List Rr} {src:List (Option Nat)} {i:Nat} {x:Rr} {v:V},dh X scope cl N src->N[i]?=some x->(da src σ)[i]?=some (some v)→
  ∃j:Nat,X.N[j]?=some x/\σ[j]?=some (some v)/\X.env.kindOf x=some .cell/\(Vp scope cl 0 X.env).kindOf x=some .cell/\cl.lookup x=X.env.cells.lookup x
 |y::N,none::r,0,x,v,h,e,q=>by cases q
 |y::N,none::r,i+1,x,v,h,e,q=>dh.at (N:=N) (src:=r) (i:=i) h e q
 |y::N,some j::r,0,x,v,h,e,q=>by
  cases e
  refine⟨j,h.1,?_,h.2.1,h.2.2.1,h.2.2.2.1⟩;have q':some ((σ[j]?).getD none)=some (some v):=q;injection q' with q'
  cases z:σ[j]? with
  |none=>rw[z] at q';cases q'
  |some o=>rw[z] at q';exact congrArg some q'
 |y::N,some j::r,i+1,x,v,h,e,q=>dh.at (N:=N) (src:=r) (i:=i) h.2.2.2.2 e q
def lj(X:Cx)(scope:UZ)(cl:List (Rr×Addr)):Prop:=
 (∀x,((Vp scope cl 0 X.env).kindOf x=some .cell∨(Vp scope cl 0 X.env).kindOf x=some .free)->∃c,cl.lookup x=some c)/\∀x c,cl.lookup x=some c->X.env.cells.lookup x=some c
def jv(X:Cx):List (Rr×Addr)->Prop
 | []=>True
 |y::r=>X.env.cells.lookup y.1=some y.2/\jv X r
theorem jv.mem{X:Cx}:∀{cl:List (Rr×Addr)},jv X cl->∀y∈cl,X.env.cells.lookup y.1=some y.2
 | [],_,y,h=>by cases h
 |z::r,k,y,h=>by
  rcases QR.mp h with e|h
  ·rw[e];exact k.1
  ·exact jv.mem k.2 y h
theorem mem_of_lookup{α:Type}{x:Rr}{v:α}:∀{l:List (Rr×α)},l.lookup x=some v->(x,v)∈l
 | [],h=>by cases h
 | (y,w)::r,h=>by
  rw[Ve] at h
  cases e:x==y with
  |true=>
   rw[e] at h;have e':x=y:=VA e
   cases h
   rw[e'];exact QL
  |false=>
   rw[e] at h;exact QP _ (mem_of_lookup h)
theorem bj(h1:((Y8 scope X.env).names.all λy=>!(y.2==.cell||y.2==.free)||(cl.lookup y.1).isSome)=true)(h2:jv X cl):lj X scope cl:=by
 refine⟨λx h=>?_,λx c e=>h2.mem _ (mem_of_lookup e)⟩;have h3:=Sk.mp h1;have key:∀k:Vm,(k=.cell∨k=.free)->(Y8 scope X.env).names.lookup x=some k->∃c,cl.lookup x=some c:=λk hk e=>by
  have q:=h3 _ (mem_of_lookup e);have z:(k==Yx||k==aan)=true:=by rcases hk with rfl|rfl<;>rfl
  simp only[z,UP,Vq] at q;exact SR.mp q
 rcases h with h|h
 ·exact key _ (.inl Z) h
 ·exact key _ (.inr Z) h
def gf(σ σ':L2.St):Prop:=σ'.length=σ.length/\∀(i:Nat) (v:V),σ[i]?=some (some v)->σ'[i]?=some (some v)
theorem gf.set(h:σ[i]?=some none):gf σ (σ.set i (some v)):=by
 refine⟨TY,λj u e=>?_⟩;have ne:i≠j:=λz=>by subst z;rw[h] at e;cases e
 rw[SG ne];exact e
theorem gf.set'(e:gf σ τ)(h:σ[i]?=some none):gf σ (τ.set i (some v)):=by
 refine⟨by rw[TY];exact e.1,λj u q=>?_⟩;have ne:i≠j:=λz=>by subst z;rw[h] at q;cases q
 rw[SG ne];exact e.2 j u q
structure wk(X:Cx)(scope:UZ)(fn:Rr->Bool)(cl cs:List (Rr×Addr))(C:Addr):Prop where
 has:∀x,((Vp scope cl 0 X.env).kindOf x=some .cell∨(Vp scope cl 0 X.env).kindOf x=some .free)->∃c,cs.lookup x=some c
 up:∀x c,cs.lookup x=some c->(fn x=true/\c=C+1)∨X.env.cells.lookup x=some c
 one:∀x y,fn x=true->fn y=true->x=y
 low:∀x c,cl.lookup x=some c->cs.lookup x=some c
 cab:∀x c,fn x=true->cs.lookup x=some c->C≤c
section
variable {X:Cx}{N':List Rr}{scope:UZ}{fn:Rr->Bool}{cl cs:List (Rr×Addr)}{src:List (Option Nat)}{pins:List (Addr×Sv)}{σ:L2.St}{H:Hp}{s:QD}{fp:List Addr}
theorem Cx.compG_ok{C:Addr}(I:Inv X pins σ H s)(hC:s.heap.objs.size≤C)(hk:scope.kind=.function)(hf:∀b∈fp,ki X pins H b/\b<s.heap.objs.size)(hc:wk X scope fn cl cs C) :
  (qd X N' scope fn cs C fp pins s H).Ok where
 mod:=I.ok.mod
 kind:=hk
 glob:=I.ok.glob
 blt:=I.ok.blt
 above:=hC
 inj:=λa b c e1 e2=>by
  have old:∀z,X.env.cells.lookup z=some (C+1)->False:=λz e=>by
   obtain⟨v,o,ho,_⟩:=I.cell z _ e;exact RY _ (Rc (RN (Ui C) (QY ho)) hC)
  rcases hc.up a c e1 with⟨h1,h2⟩|h2
  ·rcases hc.up b c e2 with⟨h3,_⟩|h4
   ·exact hc.one a b h1 h3
   ·rw[h2] at h4;exact(old b h4).elim
  ·rcases hc.up b c e2 with⟨_,h4⟩|h4
   ·rw[h4] at h2;exact(old a h2).elim
   ·exact I.ok.inj a b c h2 h4
 has:=λx h=>hc.has x h
 cab:=λx c z e=>Rm hC (hc.cab x c z e)
 hd:=I.ok.hd
 frames:=I.ok.frames
 stk:=.inl Z
 exf:=λb hb=>⟨λz=>by have:=(hf b hb).2;rw[show b=C from z] at this;exact absurd (Rc this hC) (RY _),λx c e=>by
  rcases hc.up x c e with⟨_,h2⟩|h2
  ·intro z;have q:=(hf b hb).2;rw[show b=C+1 from z.symm.trans h2] at q;exact RY _ (Rc (RN (Ui C) q) hC)
  ·exact(hf b hb).1.2.2.2.2.1 x c h2⟩
 bs:=I.bs
 bsz:=Rm I.ok.bsz I.sz
 noex:=λb o e hb=>by
  rcases(hf b hb).1.2.2.2.1 with z|z
  ·exact I.ok.noex b o e z
  ·rw[(I.ok.bs b o e).1] at z;cases z
 exfs:=λb hb z=>by
  rcases QR.mp (I.stkSub b z) with q|q
  ·exact(hf b hb).1.2.1 q
  ·exact(hf b hb).1.2.2.1 q
 funs:=I.stack
 frf:=I.stkFree
theorem Inv.compG{C:Addr}{h₁:QN}{m:Rr->Option Value}{tk:Nat}(I:Inv X pins σ H s)(hC:C=s.heap.objs.size)(hns:h₁.Ns C m)(hce:∀x,fn x=true->h₁.IsCell (C+1) none)(keep:∀b o,s.heap.get? b=some o->h₁.get? b=some o)
  (hk:scope.kind=.function) (hf:∀b∈fp,ki X pins H b/\b<s.heap.objs.size) (hc:wk X scope fn cl cs C) (hfree:dh X scope cl N' src) :
  Inv (qd X N' scope fn cs C fp pins s H) [] (da src σ) H { s with heap:=h₁,toks:=tk} where
 ok:=Cx.compG_ok I (VI hC.symm) hk hf hc
 os:=Z
 bare:=I.bare
 base:=Un.kept keep
 loc:=⟨m,hns,λi x v e1 e2 _=>by
  obtain⟨j,hj,hσ,kc,kc',hl⟩:=hfree.at e1 e2;obtain⟨m0,hn0,hl0⟩:=I.loc;obtain⟨u,r,l⟩:=hl0 j x v hj hσ (Q7 (Q9 kc));rcases l with⟨k,_⟩ | ⟨k,c,e,o,ho,hd⟩
  ·rw[kc] at k;cases k
  ·exact⟨u,r,.inr ⟨.inl kc',c,hc.low _ _ (hl.trans e),o,keep c o ho,hd⟩⟩⟩
 cell:=λx c e=>by
  rcases hc.up x c e with⟨h1,h2⟩|h2
  ·rw[h2];exact⟨none,hce x h1⟩
  ·obtain⟨v,o,ho,hd⟩:=I.cell x c h2;exact⟨v,o,keep _ _ ho,hd⟩
 free:=I.hok.fresh (VI hC.symm)
 freeC:=λx c e=>by
  rcases hc.up x c e with⟨_,h2⟩|h2
  ·rw[h2];exact I.hok.fresh (by rw[hC];exact Ui _)
  ·exact I.freeC x c h2
 pin:=λp hp=>by
  have hp':p∈X.pn++pins:=by
   have z:p∈(X.pn++pins)++[]:=hp;rw[R6] at z;exact z
  obtain⟨e,n,ne,nf,d⟩:=I.pin p hp';refine⟨keep _ _ e,n,λz=>?_,λz=>?_,d⟩
  ·have:=QY e;rw[show p.1=C from z,hC] at this;exact RY _ this
  ·rcases QR.mp (I.stkSub _ z) with q|q
   ·exact ne q
   ·exact nf q
 hok:=I.hok.kept keep
 len:=by show(da src σ).length=N'.length;unfold da;rw[Qz,hfree.len]
end
structure oV(X:Cx)(scope:UZ)(fn:Rr->Bool)(cl:List (Rr×Addr))(f:Addr->List (Rr×Addr)):Prop where
 fun_:scope.kind=.function
 cells:∀C,wk X scope fn cl (f C) C
 make:∀{s:QD} {Q:ZU->QD->Prop},(∀(h:QN) (m:Rr->Option Value) (tk:Nat) (e:ZU),h.Ns s.heap.objs.size m->(∀x,fn x=true->h.IsCell (s.heap.objs.size+1) none)->(∀b o,s.heap.get? b=some o->h.get? b=some o)→
  { e with scope:=Y8 scope X.env}=Vp scope (f s.heap.objs.size) s.heap.objs.size X.env->e.locals=s.heap.objs.size->Q e { s with heap:=h,toks:=tk})→
  Q0 (Q5 X.prog X.w) X.A (WB scope X.env.globals cl [] X.env.qual none .none (some X.env)) Q X.xe s
theorem Gr(hcell:∀x∈scope.names,x.2≠.cell)(hkind:scope.kind=.function)(hcl:lj X scope cl):oV X scope (λ_=>false) cl (λ_=>cl):=
 ⟨hkind,λ_=>⟨hcl.1,λx c e=>.inr (hcl.2 x c e),λ_ _ z=>(nomatch z),λ_ _ e=>e,λ_ _ z=>(nomatch z)⟩,
  λ{s Q} k=>wpAny_newFunctionEnv hcell (by intro y hy;simp at hy) (λh₄ hns₄ hsb₄=>k _ _ _ _ hns₄ (λ_ z=>(nomatch z)) (λb o e=>hsb₄.extBut b o (RQ (QY e)) (Qy _ e)) Z Z) hkind⟩
def Kn(X:Cx)(ifs:List Ry)(t:TT):Prop:=
 ∀(pins:List (Addr×Sv)) (s:QD) (σ:L2.St) (H:Hp) (Q:Bool->Hp->Prop),Inv X pins σ H s->t σ H Q→
  Q0 (Q5 X.prog X.w) X.A (forIn ifs true λc r=>if r=true then do let ok ←isTrue c X.env (eval c X.env);TL (V6 ok) else TL (V6 r)) (TP X pins σ Q) X.xe s
def Kz:TT:=λ_ H Q=>Q true H
theorem Em:Kn X [] Kz:=λ_ _ _ H _ I h=>wpAny_tests_nil ⟨H,I,h⟩
theorem El(h:PT X c t):Kn X [c] t:=λpins s σ H Q I q=>wpAny_tests_one (h pins s σ H Q I q)
section
variable {prog:Rp}{w:RF}{A:Rw}{R:YI->QD->Prop}{s:QD}
theorem yW(I:Nat->QD->Prop)
  (turn:∀n s,I n s->Q0 (Q5 prog w) A (Z6 it) (λr s₁=>match r with
   |none=>R (.ok .next) s₁
   |some v=>Q0 (Q5 prog w) A (V5 target it v) (λ_ s₁'=>Q0 (Q5 prog w) A (WW target env v) (λ_ s₂=>
     Q0 (Q5 prog w) A (forIn ifs true λc r=>if r=true then do let ok ←isTrue c env (eval c env);TL (V6 ok) else TL (V6 r)) (λok s₃=>
      if ok=true then Q0 (Q5 prog w) A (eval elt env) (λx s₄=>
       Q0 (Q5 prog w) A (call (.builtin "list.append") [acc,x]) (λ_ s₅=>∃m,m<n/\I m s₅) (λ_ _=>False) s₄) (λ_ _=>False) s₃
      else ∃m,m<n/\I m s₃) (λ_ _=>False) s₂) (λ_ _=>False) s₁') (λ_ _=>False) s₁) (λ_ _=>False) s)
  (n:Nat) (h:I n s):Vd (Q5 prog w) A (.compLoop (.ListComp elt [⟨target,iter,ifs,0⟩] scope pos) 0 it acc env) R s:=by
 refine codeAny_loop Z I (λn s hI=>?_) n h;show Q0 _ A ((compTurn (.ListComp elt [⟨target,iter,ifs,0⟩] scope pos) 0 it acc env).onRaise (λx=>do Ws x env;theTreesLotGoes x)) _ _ s;refine wpAny_noted ?_;rw[compTurn_list];refine Qx (Vk (Qx (SI (turn n s hI) (λr s₁ h₁=>?_) λ_ _ h'=>h'.elim)))
 cases r with
 |none=>exact wpAny_pure h₁
 |some v=>
  refine Qx (SI h₁ (λ_ s₁' h₁'=>?_) λ_ _ h'=>h'.elim);refine Qx (SI h₁' (λ_ s₂ h₂=>Qx (SI h₂ (λok s₃ h₃=>?_) λ_ _ h'=>h'.elim)) λ_ _ h'=>h'.elim)
  cases ok with
  |false=>exact wpAny_pure ⟨Z,h₃⟩
  |true=>
   exact Qx (Qx (SI h₃ (λx s₄ h₄=>Qx (SI h₄ (λ_ s₅ h₅=>wpAny_pure (wpAny_pure ⟨Z,h₅⟩)) λ_ _ h'=>h'.elim)) λ_ _ h'=>h'.elim))
end
structure FL(X:Cx)(pins:List (Addr×Sv))(H:Hp)(C:Addr):Prop where
 no:H C=none
 lo:C≠X.env.locals
 fs:C∉X.fs
 old:X.s₀.heap.get? C=none
 ce:∀x c,X.env.cells.lookup x=some c->c≠C
 pn:∀p∈X.pn++pins,p.1≠C
theorem FL.turned{X:Cx}{pins:List (Addr×Sv)}{σ:L2.St}{H:Hp}{C:Addr}{s:QD}(o:FL X pins H C)(I:Inv X pins σ H s){h':QN}(sb:Ub C s.heap h'):Inv X pins σ H { s with heap:=h'}:=
 I.turned (it:=C) (t':=s.toks) (λb u hb e=>sb.extBut b u hb e) o.no o.lo (.inr o.old) o.ce o.pn
abbrev NO(J:It)(D:Addr)(H1:Hp)(src:List (Option Nat))(σ:L2.St)(g:TG)(tt:TT)(te:TE)(Q:Hp->Prop):Prop:=∃W:Nat->Nat->List V->Hp->Prop,
 (∃m,W 0 m [] (upd H1 D (.lst [])))/\∀i m ys H,W i m ys H->(J.stop i H/\Q H)∨(J.go i H/\∀x H',J.yld i H x H'->g x (da src σ) H' λσ2 H2=>gf (da src σ) σ2/\tt σ2 H2 λok H3=>
  if ok=true then te σ2 H3 λy H4=>H4 D=some (.lst ys)/\ys.length<sizeLine/\∃m',m'<m/\W (i+1) m' (ys++[y]) (upd H4 D (.lst (ys++[y]))) else ∃m',m'<m/\W (i+1) m' ys H3)
def nI(wi:TI)(src:List (Option Nat))(g:TG)(tt:TT)(te:TE):TE:=λσ H Q=>wi σ H λJ H1=>∀D,H1 D=none->NO J D H1 src σ g tt te (Q (.ref D))
section
variable {X:Cx}{N':List Rr}{scope:UZ}{fn:Rr->Bool}{cl:List (Rr×Addr)}{f:Addr->List (Rr×Addr)}{src:List (Option Nat)}{tg iter elt:Ry}{ifs:List Ry}{wi:TI}{g:TG}{tt:TT}{te:TE}{pos:UE}
theorem qf(hc:X.calm=true)(hi:PI X tg iter wi)(hg:∀C fp pins s H,PG (qd X N' scope fn (f C) C fp pins s H) tg g)(ht:∀C fp pins s H,Kn (qd X N' scope fn (f C) C fp pins s H) ifs tt)
  (he:∀C fp pins s H,PE (qd X N' scope fn (f C) C fp pins s H) elt te) (hfree:dh X scope cl N' src) (hE:oV X scope fn cl f)
  {RR:Value->Addr->YI->QD->Prop} {pins:List (Addr×Sv)} {s:QD} {σ:L2.St} {H:Hp} {Q:VK} (I:Inv X pins σ H s) (h:nI wi src g tt te σ H Q)
  (hRR:∀D C H' s',Q (.ref D) H'->(∃m,s'.heap.Ns C m)->Inv X pins σ H' s'->FL X pins H' C->RR (.ref D) C (.ok .next) s') :
  Q0 (Q5 X.prog X.w) X.A (eval iter X.env) (λx s₁=>Q0 (Q5 X.prog X.w) X.A (pyIter x) (λitv s₂=>Q0 (Q5 X.prog X.w) X.A (newList []) (λacc s₃=>
   Q0 (Q5 X.prog X.w) X.A (WB scope X.env.globals cl [] X.env.qual none .none (some X.env)) (λcenv s₄=>
    Vd (Q5 X.prog X.w) X.A (.compStart (.ListComp elt [⟨tg,iter,ifs,0⟩] scope pos) 0 itv acc { cenv with scope:=Y8 scope X.env}) (RR acc cenv.locals) s₄) X.xe s₃) X.xe s₂) X.xe s₁) X.xe s:=by
 refine cL (hi pins s σ H _ I h) λv s1 h1=>cL h1 λitv s2 h2=>?_
 obtain⟨it,fp,tn,J,H2,e,I2,T,st2,f2,h2⟩:=h2;subst e;refine Sn ?_ (by show 0≤sizeLine;exact Re _);have hD:H2 s2.heap.objs.size=none:=I2.fresh;have I3:Inv X pins σ (upd H2 s2.heap.objs.size (.lst [])) { s2 with heap:=s2.heap.push { cls:=.type "list",data:=.seq ([]:List Value).toArray} }:=I2.lnew (t':=s2.toks) (its:=[]) .nil (Re _);obtain⟨W,⟨m0,w0⟩,turn⟩:=h2 s2.heap.objs.size hD;generalize hDe:s2.heap.objs.size=D at I3 turn w0 hD ⊢;have st3:tn 0 (s2.heap.push { cls:=.type "list",data:=.seq ([]:List Value).toArray}):=T.keep _ _ _ st2 λb _ o e=>Qy _ e
 have f3:∀b∈fp,ki X pins (upd H2 D (.lst [])) b/\b<(s2.heap.push { cls:=.type "list",data:=.seq ([]:List Value).toArray}).objs.size:=λb hb=>by
  obtain⟨o,e,_⟩:=T.obj _ _ st2 b hb;have l:=QY e;rw[hDe] at l;refine⟨⟨?_,(f2 b hb).2⟩,by rw[SV,hDe];exact Y9 l⟩;rw[aJ (RQ l)];exact(f2 b hb).1
 generalize (s2.heap.push { cls:=.type "list",data:=.seq ([]:List Value).toArray})=h3 at I3 st3 f3 ⊢;refine hE.make λh₄ m₄ tk₄ cenv hns₄ hce₄ keep eE eL=>?_
 rw[eE,eL];have I4:=Inv.compG (C:=h3.objs.size) (fp:=fp) (tk:=tk₄) I3 Z hns₄ hce₄ keep hE.fun_ f3 (hE.cells _) hfree;have st4:tn 0 h₄:=T.keep _ _ _ st3 λb _ o e=>keep b o e
 have fpn:∀b∈fp,(upd H2 D (.lst [])) b=none:=λb hb=>(f3 b hb).1.1
 have hn3:∀b∈fp,b≠h3.objs.size:=λb hb=>RQ (f3 b hb).2
 have stat:∀{H':Hp},(∀b∈fp,H' b=none)->∀b∈fp,ki (qd X N' scope fn (f h3.objs.size) h3.objs.size fp pins { s2 with heap:=h3} (upd H2 D (.lst []))) [] H' b:=λhn b hb=>
  ⟨hn b hb,hn3 b hb,I4.ok.exfs b hb,.inl hb,λx c e=>I4.ok.exf b hb |>.2 x c e,λp hp=>(f3 b hb).1.2.2.2.2.2 p (by
   have z:p∈(X.pn++pins)++[]:=hp;rw[R6] at z;exact z)⟩
 have back:∀{H':Hp} {s':QD},Inv (qd X N' scope fn (f h3.objs.size) h3.objs.size fp pins { s2 with heap:=h3} (upd H2 D (.lst []))) [] (da src σ) H' s'->(∃m,s'.heap.Ns h3.objs.size m)/\Inv X pins σ H' s'/\FL X pins H' h3.objs.size:=λ{H' s'} I'=>by
  have Ib:Inv X pins σ H' s':=I3.call' I'.os I'.base I'.hok I'.bare λb hb=>⟨(f3 b hb).1.2.2.2.1,(f3 b hb).1.2.1,(f3 b hb).1.2.2.2.2.1,(f3 b hb).1.2.2.2.2.2⟩
  refine⟨let ⟨m,hm,_⟩:=I'.loc;⟨m,hm⟩,Ib,⟨I'.free,λz=>?_,I3.nofs (QB _),Td I3.sz,λx c e z=>?_,λp hp z=>?_⟩⟩
  ·have:=I3.lt;rw[←z] at this;exact RY _ this
  ·obtain⟨v,o,ho,_⟩:=I3.cell x c e;have:=QY ho;rw[z] at this;exact RY _ this
  ·obtain⟨e,_⟩:=I3.pin p hp;have:=QY e;rw[z] at this;exact RY _ this
 have loop:Vd (Q5 X.prog X.w) X.A (.compLoop (.ListComp elt [⟨tg,iter,ifs,0⟩] scope pos) 0 (.ref it) (.ref D) (Vp scope (f h3.objs.size) h3.objs.size X.env)) (RR (.ref D) h3.objs.size) { s2 with heap:=h₄,toks:=tk₄}:=by
  refine yW (λn s'=>∃i ys H',Inv (qd X N' scope fn (f h3.objs.size) h3.objs.size fp pins { s2 with heap:=h3} (upd H2 D (.lst []))) [] (da src σ) H' s'/\tn i s'.heap/\(∀b∈fp,H' b=none)/\W i n ys H') ?_ m0 ⟨0,[],_,I4,st4,fpn,w0⟩;rintro n s5 ⟨i,ys,H5,I5,st5,fr5,w5⟩;rcases turn i n ys H5 w5 with⟨stop,qn⟩ | ⟨go,step⟩
  ·refine cL (T.done (qd X N' scope fn (f h3.objs.size) h3.objs.size fp pins { s2 with heap:=h3} (upd H2 D (.lst []))) rfl rfl rfl hc i [] s5 _ H5 _ I5 (stat fr5) st5 stop) λr s6 ⟨hr,I6⟩=>?_
   subst hr;obtain⟨b1,b2,b3⟩:=back I6;exact hRR D _ H5 s6 qn b1 b2 b3
  ·refine cL (T.item (qd X N' scope fn (f h3.objs.size) h3.objs.size fp pins { s2 with heap:=h3} (upd H2 D (.lst []))) rfl rfl rfl hc i [] s5 _ H5 _ I5 (stat fr5) st5 go) λr s6 ⟨u,hr,h6⟩=>?_
   subst hr;refine cL h6 λ_ s7 ⟨x,H7,I7,r7,y7,st7,fr7⟩=>?_
   have I7':=I7.pinned (stat fr7) (T.obj _ _ st7);refine cL (hg _ _ _ _ _ _ s7 _ H7 x u _ I7' r7 (step x H7 y7)) λ_ s8 ⟨σ8,H8,I8,ex8,q8⟩=>?_
   refine cL (ht _ _ _ _ _ _ s8 σ8 H8 _ I8 q8) λok s9 ⟨H9,I9,q9⟩=>?_
   have again:∀{ys':List V} {Ha:Hp} {sa:QD},Inv (qd X N' scope fn (f h3.objs.size) h3.objs.size fp pins { s2 with heap:=h3} (upd H2 D (.lst []))) ([]++oq fp s7.heap) σ8 Ha sa->(∃m',m'<n/\W (i+1) m' ys' Ha)→
     ∃m,m<n/\∃i ys H',Inv (qd X N' scope fn (f h3.objs.size) h3.objs.size fp pins { s2 with heap:=h3} (upd H2 D (.lst []))) [] (da src σ) H' sa/\tn i sa.heap/\(∀b∈fp,H' b=none)/\W i m ys H':=λ{ys' Ha sa} Ia ⟨m',hm,wa⟩=>by
    refine⟨m',hm,i+1,ys',Ha,(Ia.unpinned).weak ex8.1.symm ex8.2,T.keep _ _ _ st7 λb hb o e=>(Ia.pin (b,o) (Ro _ (Ro _ (ij hb e)))).1,λb hb=>?_,wa⟩;obtain⟨o,e,_⟩:=T.obj _ _ st7 b hb;exact(Ia.pin (b,o) (Ro _ (Ro _ (ij hb e)))).2.1
   cases ok with
   |false=>exact again I9 q9
   |true=>
    refine cL (he _ _ _ _ _ _ s9 σ8 H9 _ I9 q9) λy s10 ⟨yv,H10,I10,r10,q10,hz,wn⟩=>?_
    refine cL (cQ _ s10 σ8 H10 (.ref D) [yv] (.ref D) [y] (λ_ Hz=>∃m',m'<n/\W (i+1) m' (ys++[yv]) Hz) I10 Z (.cons r10 .nil) ⟨D,ys,yv,Z,Z,q10,hz,wn⟩) λ_ s11 ⟨_,H11,I11,_,q11⟩=>?_
    exact again I11 q11
 exact codeAny_compStart_list loop (T.self _ 0 _ _ _ st4 loop)
theorem yt(hc:X.calm=true)(hi:PI X tg iter wi)(hg:∀C fp pins s H,PG (qd X N' scope fn (f C) C fp pins s H) tg g)(ht:∀C fp pins s H,Kn (qd X N' scope fn (f C) C fp pins s H) ifs tt)
  (he:∀C fp pins s H,PE (qd X N' scope fn (f C) C fp pins s H) elt te) (hfree:dh X scope cl N' src) (hclos:WC scope X.env=TL cl) (hE:oV X scope fn cl f)
  (hnames:∀x∈scope.names,x.2=.local->scope.names.lookup x.1=some .local) (hs:∀x,Tk iter X.env x=TL x:=by intro _;rfl) :
  PE X (.ListComp elt [⟨tg,iter,ifs,0⟩] scope pos) (nI wi src g tt te):=by
 intro pins s σ H Q I h;rw[eval_ListComp];refine W0 (use:=none) Z hs hclos hE.fun_ hnames (qf hc hi hg ht he hfree hE (RR:=λacc C=>compPost (Q5 X.prog X.w) X.A X.xe none (EP X pins σ Q) acc C) I h λD C H' s' q hm hI hb=>?_);obtain⟨m,hm⟩:=hm;exact⟨m,hm,λh' sb=>⟨.ref D,H',hb.turned hI sb,Z,q⟩⟩
theorem wJ{i:Nat}{x:Rr}{pos' pos2:UE}(hN:X.N.Nodup)(hi':X.N[i]?=some x)(hx:zy X.env.scope x)(hc:X.calm=true)(hi:PI X tg iter wi)(hg:∀C fp pins s H,PG (qd X N' scope fn (f C) C fp pins s H) tg g)(ht:∀C fp pins s H,Kn (qd X N' scope fn (f C) C fp pins s H) ifs tt)
  (he:∀C fp pins s H,PE (qd X N' scope fn (f C) C fp pins s H) elt te) (hfree:dh X scope cl N' src) (hclos:WC scope X.env=TL cl) (hE:oV X scope fn cl f)
  (hnames:∀x∈scope.names,x.2=.local->scope.names.lookup x.1=some .local) (hs:∀x,Tk iter X.env x=TL x:=by intro _;rfl)
  (hsw:UC (.ListComp elt [⟨tg,iter,ifs,0⟩] scope pos) (some (.Name x pos')) pos2.line X.env=TL true:=by rfl) (hf:X.fn x=true∨X.env.scope.names.lookup x=some .local:=by first|exact .inl Z|exact .inr Z|assumption) :
  PS X (.Assign [.Name x pos'] (.ListComp elt [⟨tg,iter,ifs,0⟩] scope pos) pos2) (sZ (nI wi src g tt te) (mj i)):=by
 intro pins s σ H D I h;rw[exec_Assign_Name_used _ _ _ _ hsw];refine Qx (Vk ?_);show Q0 _ _ ((comprehension (.ListComp elt [⟨tg,iter,ifs,0⟩] scope pos) scope X.env _ (newList []) false (eval iter X.env) (some (WW (.Name x pos') X.env)) >>= λ_=>TL ()) >>= λ_=>TL aaC) _ _ s;refine Qx (Qx (SI (W0 (use:=some (WW (.Name x pos') X.env)) (Q:=λ_ s''=>SP X pins D .next s'') Z hs hclos hE.fun_ hnames (qf hc hi hg ht he hfree hE (RR:=λacc C=>compPost (Q5 X.prog X.w) X.A X.xe (some (WW (.Name x pos') X.env)) (λ_ s''=>SP X pins D .next s'') acc C) I h λE C H' s' q hm hI hb=>?_)) (λ_ s'' h''=>wpAny_pure (wpAny_pure h'')) λ_ _ e=>e));obtain⟨m,o,es,ep,ho,hd,r1,r2⟩:=hm;have I':Inv X (pins++[(C,o)]) σ H' s':=hI.pins_of λp hp=>by
  rcases Q6.mp hp with h|h
  ·exact hI.pin p (Ro _ h)
  ·rw[QK] at h;rw[h];exact⟨ho,hb.no,hb.lo,hb.fs,λv z=>by rw[hd] at z;cases z⟩
 refine YV (fR I' hN hi' hx (show br (.ref E) (.ref E) from Z) (λs'' I''=>?_) hf);have hC:=(I''.pin (C,o) (Ro _ (Ro _ QL))).1;have I3:Inv X pins (σ.set i (some (.ref E))) H' s'':=I''.pins_of λp hp=>I''.pin p (Ro _ (Rt _ hp))
 exact⟨m,⟨o,es,ep,hC,hd,r1,r2⟩,λh' sb=>⟨_,H',hb.turned I3 sb,q⟩⟩
end
def M5(K:Qu):R2:=λx y H Q=>∃d d',bX K H x d/\bX K H y d'/\d.canLay0=true/\d'.canLay0=true/\d.depth≤32/\Q (.bl (!PyData.eqv d d')) H
theorem kf(hr:dN k X.A):ir X (Sw .NotEq) (M5 X.K):=by
 intro pins s σ H x y v u Q I rx ry h;obtain⟨d,d',hd,hd',c,c',dp,q⟩:=h;obtain⟨as,ra⟩:=bX.reads I hd rx;obtain⟨bs,rb⟩:=bX.reads I hd' ry;exact SeqAt.compareNe_reads ra rb c c' (by have:=hr.units;omega) ⟨.bl _,H,I,Z,q⟩
noncomputable def Ou (h:QN) (x:Value) (d:Ri) (y:Value):Bool:=
 open Classical in if y=x then true else if z:∃d',d'.canLay0=true/\d'.depth≤32/\∃as,Reads h y d' as then R3 z.choose d else false
def Gx(K:Qu)(H:Hp)(xs:List V):Prop:=∀x∈xs,∃d,bX K H x d/\d.canLay0=true/\d.depth≤32
def Mz(K:Qu):R2:=λx y H Q=>∃a p xs,x=.ref a/\y=.ref p/\aZ K H p xs/\V.ref a∈xs/\Gx K H xs/\Q (.bl false) H
def MC(K:Qu):V->List V->Hp->VK->Prop:=λx vs H Q=>∃p xs a d,x=.ref p/\vs=[.ref a]/\aZ K H p xs/\V.ref a∈xs/\Gx K H xs/\bX K H (.ref a) d/\d.canLay0=true/\d.depth≤32∧
 ∀(j:Nat) (v':V),xs[j]?=some v'->(v'=.ref a∨∀d',bX K H v' d'->d'.canLay0=true->R3 d' d=true)->Q (.int j) H
end B
namespace B
abbrev R:=Int×Int
def fj(a b:Int):R:=(a/(Q1 a b:Int),b/(Q1 a b:Int))
structure Wf(n:Nat)(r:R):Prop where
 pos:0<r.2
 top:r.1.natAbs<2^n
 bot:r.2.natAbs<2^n
 cop:Q1 r.1 r.2=1
theorem Wf.mono(h:Wf n r)(l:n≤m):Wf m r:=⟨h.pos,Rc h.top (TN δ l),Rc h.bot (TN δ l),h.cop⟩
theorem b6(hb:0<b):0<(Q1 a b:Int):=by
 have h:Q1 a b≠0:=λz=>by
  have:=(Ym.mp z).2;omega
 omega
theorem gD(a:Int)(hg:0<g):(a/g).natAbs≤a.natAbs:=by
 have h1:=Int.ediv_mul_le a (show g≠0 by omega);have h2:=Int.lt_ediv_add_one_mul_self a hg;rcases Int.le_total 0 a with h|h
 ·have h3:=Ts h (show 0≤g by omega);have h4:a/g≤a/g*g:=by
   have:a/g*1≤a/g*g:=UF ω h3;omega
  omega
 ·have h3:a/g≤0:=by
   have:=Int.ediv_le_ediv hg h;rw[Int.zero_ediv] at this;exact this
  have h5:a≤a/g:=by
   have:a/1≤a/g:=by
    have q:(a/g+1)*g≤(a/g+1)*1∨0<a/g+1:=by
     rcases Int.le_total (a/g+1) 0 with z|z
     ·left;have:=UF (a:=1) (b:=g) (c:=-(a/g+1)) ω ω;have e1:-(a/g+1)*1=-((a/g+1)*1):=ZM _ _;have e2:-(a/g+1)*g=-((a/g+1)*g):=ZM _ _;omega
     ·rcases Int.lt_or_eq_of_le z with z|z
      ·right;exact z
      ·left;rw[←z];simp
    rw[XE];rcases q with q|q
    ·omega
    ·omega
   rw[XE] at this;exact this
  omega
theorem Jx(hb:0<b)(h1:a.natAbs<2^n)(h2:b.natAbs<2^n):Wf n (fj a b):=
 ⟨U4 hb (SY (b6 hb)) (TW a b),RN (gD _ (b6 hb)) h1,RN (gD _ (b6 hb)) h2,Vh (by have:=b6 (a:=a) hb;omega)⟩
def bQ(r q:R):R:=fj (r.1*q.2+q.1*r.2) (r.2*q.2)
def cA(r q:R):R:=fj (r.1*q.1) (r.2*q.2)
def dI(r q:R):Bool:=decide (r.1*q.2<q.1*r.2)
theorem Js{x y:Int}(h1:x.natAbs<2^n)(h2:y.natAbs<2^m):(x*y).natAbs<2^(n+m):=by
 rw[TR,X5];exact Nat.mul_lt_mul'' h1 h2
end B
namespace B
open PySem L2 PyProof.Rows
def NT(i j:Int):Prop:=i.natAbs<2^8990/\j.natAbs<2^8990
def NP(_ j:Int):Prop:=0<j/\j.natAbs<2^8990
theorem xG(h:i.natAbs<2^8990):Yn i≤2^20:=by
 unfold Yn
 split
 ·exact Re _
 ·rename_i z;have hz:i.natAbs≠0:=λq=>z (by
   have:i=0:=ω
   rw[this];rfl)
  have:=(ZN hz).mpr h;have e:(2:Nat)^20=1048576:=δ
  omega
section
variable {X:Cx}
theorem cO:ir X (Ua .Mult) (rI NT λi j=>.int (i*j)):=IB λ_ _ _ _ _ _ _ hc q=>mul_int q (IntMulOk.of_bits (xG hc.1) (xG hc.2))
theorem eR:ir X (Ua .FloorDiv) (rI NP λi j=>.int (i/j)):=IB λi j _ _ _ _ _ hc q=>by
 have h1:(0:Int)<j:=hc.1;have h2:j.natAbs<2^8990:=hc.2;refine YY ω (by rw[U1 i ω];exact q) (.inl (W1 ?_));exact XM ((ZN (show j.natAbs≠0 by omega)).mpr h2) δ
end
def aI(K:Qu)(H H':Hp):Prop:=∀p xs,bz K H p xs->bz K H' p xs
theorem aI.trans{K:Qu}{H H1 H2:Hp}(a:aI K H H1)(b:aI K H1 H2):aI K H H2:=λp xs h=>b p xs (a p xs h)
theorem aI.same{K:Qu}{H H':Hp}(s:aL H H'):aI K H H':=λp xs h=>by
 rcases h with(h | ⟨o,h⟩)|h
 ·exact .inl (.inl (s _ _ h))
 ·exact .inl (.inr ⟨o,s _ _ h⟩)
 ·exact .inr h
theorem aI.step{K:Qu}{t:Addr}{H H':Hp}(S:aY t H H'):aI K H H':=λp xs h=>by
 obtain⟨ys,ht⟩:=S.tp;rcases h with(h | ⟨o,h⟩)|h
 ·exact .inl (.inl (S.keep _ _ (λz=>by subst z;rw[h] at ht;cases ht) h))
 ·exact .inl (.inr ⟨o,S.keep _ _ (λz=>by subst z;rw[h] at ht;cases ht) h⟩)
 ·exact .inr h
theorem aI.up{K:Qu}{H:Hp}{l:Addr}{xs:List V}(h:H l=some (.lst xs))(ys:List V):aI K H (upd H l (.lst ys)):=aI.step (aY.up h)
def RV(K:Qu)(H:Hp)(v:V)(r:R):Prop:=∃p,v=.ref p/\bz K H p [.int r.1,.int r.2]
theorem RV.mono{K:Qu}{H H':Hp}{v:V}{r:R}(h:RV K H v r)(t:aI K H H'):RV K H' v r:=let ⟨p,e,q⟩:=h;⟨p,e,t _ _ q⟩
theorem RV.of{K:Qu}{H:Hp}{p:Addr}{a b:Int}(h:H p=some (.tup [.int a,.int b])):RV K H (.ref p) (a,b):=⟨p,Z,bz.of h⟩
def MJ(K:Qu)(H:Hp)(xs:List V)(rs:List R):Prop:=xs.length=rs.length/\∀(i:Nat) (x:V) (r:R),xs[i]?=some x->rs[i]?=some r->RV K H x r
theorem MJ.at{K:Qu}{H:Hp}{xs:List V}{rs:List R}{i:Nat}{x:V}(h:MJ K H xs rs)(e:xs[i]?=some x):∃r,rs[i]?=some r/\RV K H x r:=by
 have hi:=(QM.mp e).1;have hj:i<rs.length:=by rw[←h.1];exact hi
 exact⟨rs[i],Qw hj,h.2 i x _ e (Qw hj)⟩
def dX(r:R):Nat->R
 |0=>(1,1)
 |k+1=>cA (dX r k) r
def fQ(rs:List R):R:=rs.foldl bQ (0,1)
def dR(r:R):Ri:=.tuple [.int r.1,.int r.2]
theorem RV.deep{K:Qu}{H:Hp}{v:V}{r:R}(h:RV K H v r):bX K H v (dR r):=by
 obtain⟨p,rfl,q⟩:=h;exact .tup q (.cons (.int _) (.cons (.int _) .nil))
theorem si(r:R):(dR r).canLay0=true:=Z
theorem kO(r:R):(dR r).depth≤32:=by show max 0 (max 0 0)+1≤32;decide
theorem JK(h:R3 (dR r) (dR q)=true):r=q:=by
 have z:(r.1==q.1&&(r.2==q.2&&true))=true:=h;simp only[W2,Ra,beq_iff_eq] at z;exact aaM z.1 z.2
theorem iY(r:R):R3 (dR r) (dR r)=true:=by
 show(r.1==r.1&&(r.2==r.2&&true))=true;simp
end B
namespace B
open PySem L2 PyProof.Rows
def dL(rs:List R):Ri:=.list (rs.map dR)
def LK(K:Qu)(tl:TE):TI:=λσ H R=>tl σ H λx H1=>(∃a,x=.ref a/\(∃xs,aZ K H1 a xs)/\R (DJ K a) H1)∨(∃a,x=.ref a/\(∃xs,bz K H1 a xs)/\R (DI K a) H1)
theorem Ik(hl:PE X l tl):PI X tg l (LK X.K tl):=by
 intro pins s σ H R I h;refine cL (hl pins s σ H _ I h) λv s1 ⟨x,H1,I1,r1,q1⟩=>?_
 rcases q1 with⟨a,e,⟨xs,hq⟩,q⟩ | ⟨a,e,⟨xs,hq⟩,q⟩
 ·subst e;cases r1;obtain⟨its,rv,p,hz⟩:=I1.list hq;refine VE p.isList ?_;refine⟨s1.heap.objs.size,[s1.heap.objs.size],_,_,H1,Z,I1.kept (t':=s1.toks) λb o e=>Qy _ e,pM a _,⟨_,QZ _ Z,Z,Z⟩,λb hb=>?_,q⟩;have e:b=s1.heap.objs.size:=by simpa using hb
  subst e;exact I1.fpOk (QB _) (I1.hok.fresh (QB _))
 ·subst e;cases r1;obtain⟨its,rv,p,hz⟩:=I1.tuple hq;refine Tw (show s1.heap.IsTuple a its.toArray from p) ?_;refine⟨s1.heap.objs.size,[s1.heap.objs.size],_,_,H1,Z,I1.kept (t':=s1.toks) λb o e=>Qy _ e,nE a _,⟨_,QZ _ Z,Z,Z⟩,λb hb=>?_,q⟩;have e:b=s1.heap.objs.size:=by simpa using hb
  subst e;exact I1.fpOk (QB _) (I1.hok.fresh (QB _))
end B
namespace B
structure gG(r:R):Prop where
 pos:0<r.2
 cop:Q1 r.1 r.2=1
theorem jj(hb:0<b):gG (fj a b):=
 ⟨U4 hb (SY (b6 hb)) (TW a b),Vh (by have:=b6 (a:=a) hb;omega)⟩
theorem e9(hb:0<b)(hy:0<y)(g:Q1 x y=1)(e:x*b=a*y):fj a b=(x,y):=by
 have h1:Q1 (a*y) (b*y)=Q1 a b*y.natAbs:=Za a y b;have h2:Q1 (x*b) (y*b)=Q1 x y*b.natAbs:=Za x b y;rw[e,Us y b,h1,g,ZO] at h2;have h3:(Q1 a b:Int)*y=b:=by
  have z:((Q1 a b*y.natAbs:Nat):Int)=(b.natAbs:Int):=congrArg _ h2;rw[V7,X6 ω,X6 ω] at z;exact z
 have gp:=b6 (a:=a) hb;have h4:a=x*(Q1 a b:Int):=by
  have z:x*(Q1 a b:Int)*y=a*y:=by rw[Yy,h3];exact e
  exact(U5 ω z).symm
 unfold fj;generalize (Q1 a b:Int)=G at h3 h4 gp;subst h4;subst h3;rw[Int.mul_ediv_cancel _ ω,Rj _ ω]
theorem i4(h:Q1 a b=1)(d:c∣a):Q1 c b=1:=
 YK.mpr λz h1 h2=>YK.mp h z (W3 h1 d) h2
theorem jq(h:Q1 a b=1)(d:c∣b):Q1 a c=1:=by
 rw[Uf];exact i4 (by rw[Uf];exact h) d
theorem ng(h:Q1 a b=1)(k:Q1 a c=1):Q1 a (b*c)=1:=by
 rw[Int.gcd_mul_right_right_of_gcd_eq_one h];exact k
theorem kP(h:Q1 a c=1)(k:Q1 b c=1):Q1 (a*b) c=1:=by
 rw[Uf];exact ng (by rw[Uf];exact h) (by rw[Uf];exact k)
theorem fO(hb:0<b):∃g x y:Int,(Q1 a b:Int)=g/\0<g/\a=g*x/\b=g*y/\Q1 x y=1:=by
 have gp:=b6 (a:=a) hb;obtain⟨x,hx⟩:=Zv a b;obtain⟨y,hy⟩:=TW a b;refine⟨_,x,y,Z,gp,hx,hy,?_⟩;have z:=Vh (i:=a) (j:=b) ω;have e1:a/(Q1 a b:Int)=x:=by
  conv=>lhs;lhs;rw[hx]
  exact Rj _ ω
 have e2:b/(Q1 a b:Int)=y:=by
  conv=>lhs;lhs;rw[hy]
  exact Rj _ ω
 rw[e1,e2] at z;exact z
theorem kd{g y b:Int}(hb:0<b)(hg:0<g)(e:b=g*y):0<y:=by
 rcases Int.lt_or_le 0 y with h|h
 ·exact h
 ·have:=UF h (SY hg);rw[Int.mul_zero] at this;omega
def ub(r q:R):R:=
 let d:Int:=(Q1 r.2 q.2:Nat);let t:=r.1*(q.2/d)+q.1*(r.2/d);let e:Int:=(Q1 t d:Nat)
 (t/e,r.2/d*(q.2/e))
theorem BX(hr:gG r)(hq:gG q):ub r q=bQ r q:=by
 obtain⟨d,u,v,e0,dp,e1,e2,cuv⟩:=fO (a:=r.2) hq.pos;have up:=kd hr.pos dp e1;have vp:=kd hq.pos dp e2;obtain⟨e,x,w,f0,ep,f1,f2,cxw⟩:=fO (a:=r.1*v+q.1*u) dp;have wp:=kd dp ep f2;have du:r.2/d=u:=by rw[e1];exact Rj _ ω
 have dv:q.2/d=v:=by rw[e2];exact Rj _ ω
 have te:(r.1*v+q.1*u)/e=x:=by rw[f1];exact Rj _ ω
 have qe:q.2/e=w*v:=by rw[e2,f2,Yy];exact Rj _ ω
 have c1:Q1 r.1 u=1:=jq hr.cop ⟨d,by rw[e1,Us]⟩;have c2:Q1 q.1 v=1:=jq hq.cop ⟨d,by rw[e2,Us]⟩;have xd:x∣(r.1*v+q.1*u):=⟨e,by rw[f1,Us]⟩;have t1:Q1 (r.1*v+q.1*u) u=1:=by
  rw[Uf,Wl,Uf];exact kP c1 (by rw[Uf];exact cuv)
 have t2:Q1 (r.1*v+q.1*u) v=1:=by
  rw[Int.add_comm,Uf,Wl,Uf];exact kP c2 cuv
 have cx:Q1 x (u*(w*v))=1:=ng (i4 t1 xd) (ng cxw (i4 t2 xd));have z:ub r q=(x,u*(w*v)):=by
  unfold ub;simp only[e0,du,dv,f0,te,qe]
 rw[z];unfold bQ;refine(e9 (Sx hr.pos hq.pos) (Sx up (Sx wp vp)) cx ?_).symm;have k:r.1*q.2+q.1*r.2=d*(e*x):=by
  rw[e1,e2,←f1,Int.mul_add];rw[VJ r.1 d v,VJ q.1 d u]
 rw[k,e1,e2];have k2:d*u*(d*v)=d*u*(e*w*v):=by rw[←f2]
 rw[k2]
 ac_rfl
def nG(r q:R):R:=
 let l:Int:=(Q1 r.1 q.2:Nat);let m:Int:=(Q1 q.1 r.2:Nat)
 (r.1/l*(q.1/m),r.2/m*(q.2/l))
theorem xU(hr:gG r)(hq:gG q):nG r q=cA r q:=by
 obtain⟨l,a,b,e0,lp,e1,e2,cab⟩:=fO (a:=r.1) hq.pos;obtain⟨m,c,d,f0,mp,f1,f2,ccd⟩:=fO (a:=q.1) hr.pos;have bp:=kd hq.pos lp e2;have dp:=kd hr.pos mp f2;have z:nG r q=(a*c,d*b):=by
  unfold nG;simp only[e0,f0];rw[show r.1/l=a by rw[e1];exact Rj _ ω,show q.2/l=b by rw[e2];exact Rj _ ω,
   show q.1/m=c by rw[f1];exact Rj _ ω,show r.2/m=d by rw[f2];exact Rj _ ω]
 have cad:Q1 a d=1:=i4 (jq hr.cop ⟨m,by rw[f2,Us]⟩) ⟨l,by rw[e1,Us]⟩;have ccb:Q1 c b=1:=i4 (jq hq.cop ⟨l,by rw[e2,Us]⟩) ⟨m,by rw[f1,Us]⟩;rw[z];unfold cA;refine(e9 (Sx hr.pos hq.pos) (Sx dp bp) (ng (kP cad ccd) (kP cab ccb)) ?_).symm;rw[e1,e2,f1,f2]
 ac_rfl
theorem BW(hr:gG r)(hq:gG q):gG (bQ r q):=jj (Sx hr.pos hq.pos)
theorem lF(hr:gG r)(hq:gG q):gG (cA r q):=jj (Sx hr.pos hq.pos)
theorem ol{r:R}(hr:gG r):∀k:Nat,dX r k=(r.1^k,r.2^k)
 |0=>by rw[XN,XN];rfl
 |k+1=>by
  show cA (dX r k) r=_;rw[ol hr k];unfold cA;refine e9 (Sx (Int.pow_pos hr.pos) hr.pos) (Int.pow_pos hr.pos) (Int.pow_gcd_pow_of_gcd_eq_one hr.cop) ?_;rw[XO,XO]
end B
namespace B
open PySem L2 PyProof.Rows
def Mo(_ j:Int):Prop:=j≠0/\j.natAbs<2^8990
theorem wN:ir X (Ua .FloorDiv) (rI Mo λi j=>.int (i.fdiv j)):=IB λi j _ _ _ _ _ hc q=>by
 have h1:j≠0:=hc.1;have h2:j.natAbs<2^8990:=hc.2;refine YY h1 q (.inl (W1 ?_));exact XM ((ZN (show j.natAbs≠0 by omega)).mpr h2) δ
def ME(a b:Int):R:=if b<0 then fj (-a) (-b) else fj a b
theorem wU(h:0<b):ME a b=fj a b:=by unfold ME;rw[if_neg ω]
theorem uy{a g:Int}(h:0<g):a.fdiv g=a/g:=U1 a ω
theorem C1(hb:b≠0):0<(Q1 a b:Int):=by
 have h:Q1 a b≠0:=λz=>hb (Ym.mp z).2
 omega
theorem Fh(hb:b≠0)(hz:b.natAbs<2^8990):((Q1 a b:Nat):Int).natAbs<2^8990:=by
 have z:Q1 a b≤b.natAbs:=W4 ω (by have:=TW a b;exact US.mpr this);have e:((Q1 a b:Nat):Int).natAbs=Q1 a b:=UJ _;omega
theorem CG(hb:0<b):(a.fdiv (Q1 a b:Int),b.fdiv (Q1 a b:Int))=ME a b:=by
 rw[wU hb,uy (b6 hb),uy (b6 hb)];rfl
def cY(r q:R):R:=fj (r.1*q.2-q.1*r.2) (r.2*q.2)
def Lo(r q:R):R:=ME (r.1*q.2) (r.2*q.1)
structure OC(d:Ri):Prop where
 sh:d.showable=true
 nd:d.hasDict=false
 sz:d.shown.length≤5000
 dp:d.depth≤8
end B
namespace B
theorem pZ(hb:0<b):(fj a b).1*b=a*(fj a b).2:=by
 obtain⟨g,x,y,_,gp,e1,e2,c⟩:=fO (a:=a) hb;have yp:=kd hb gp e2;have e:x*b=a*y:=by rw[e1,e2];ac_rfl
 rw[e9 hb yp c e];exact e
theorem ui(r q:R):bQ r (-q.1,q.2)=cY r q:=by
 unfold bQ cY;rw[ZM,←Int.sub_eq_add_neg]
end B
namespace B
open PySem PySem.Spec L2 PyProof.Rows
section
variable {prog:Rp}{w:RF}{A:Rw}{E:Value->QD->Prop}{h:QN}{g:Array GenState}{d:Drawn}{t:Nat}{os:OsState}{K:Qu}
variable {nm q:Rr}{C N:Addr}{bs bm bmB:List Value}{hdct:Bool}{sn:List Rr}{sub:List Value}{ab:Bool}{col:Option Bool}{dd:Option Addr}{k0 k1 k2 k3 k5:Option Value}{bN newId initId:String}
theorem rZ(F:ExcBaseFacts bN newId initId bmB)(T:Zb h bmB bm){cF:List Value}(X:K.In h)
  (hC:h.get? C=some (Uj nm q C N bs bm hdct sn sub ab col dd k0 k1 k2 k3 k5 newId)) (hi:R8 K (.ref C) "__init__"=some (some (.ref fI))) (hf:WD K (.ref fI)=some (.type "function"))
  (hq:∀h' e,aac h h' e (.ref C) cF->Q0 (Q5 prog w) A (call (.ref fI) (.ref e:: cF)) (λr s'=>r=.none/\Q (.done (.ret (.ref e))) s') E ⟨h',g,d,t,os⟩) (hz:cF.length≤sizeLine):
  Q0 (Q5 prog w) A (Rb.«type.__call__» ⟨.ref C:: cF,[]⟩) Q E ⟨h,g,d,t,os⟩:=by
 repeat(first
  |with_reducible refine wpAny_loadPart_at hC ?_
  |with_reducible refine wpAny_madeBy_exc hC ?_
  |wp_step)
 refine codeAny_call_builtin_code (YL _ F.quiet)
  (wpAny_check_new_subT F T hC ?_)
 refine codeAny_exc_new_subT F T hC ?_ hz;show Q0 _ _ _ _ _ _;have up:∀b o,h.get? b=some o->((h.push { cls:=.type "tuple",data:=.seq cF.toArray}).push
   { cls:=.ref C,data:=.fields #[.ref h.objs.size,.none,.none,.none,.bool false,.none]}).get? b=some o:=λb o e=>
  Qy _ (Qy _ e)
 have hC₁:=up _ _ hC;have X₁:=X.keeps up;have hx:((h.push { cls:=.type "tuple",data:=.seq cF.toArray}).push
   { cls:=.ref C,data:=.fields #[.ref h.objs.size,.none,.none,.none,.bool false,.none]}).get? (h.objs.size+1)=
   some { cls:=.ref C,data:=.fields #[.ref h.objs.size,.none,.none,.none,.bool false,.none]}:=by heap_get
 have hcC:(Rz C::bm).contains (.ref C)=true:=by simp
 unfold YM
 repeat(first
  |with_reducible refine wpAny_loadPart_at hx ?_
  | (with_reducible refine wpAny_isSubtype_exc hC₁ ?_
     rw[hcC])
  |wp_step)
 show Q0 _ _ (typeLookup (.ref C) _) _ _ _;refine(U6 X₁ hi) _ _ _ _ (λ_ _ e=>e) ?_;refine wpAny_holding (Qx ?_);refine(PySem.W.bind_fn X₁ _ hf) _ _ _ _ (λ_ _ e=>e) ?_;refine Qx (SI (hq _ (h.objs.size+1)
  ⟨up,Td (Ui _),h.objs.size,hx,Td (QB _),?_⟩) (λr s' hr=>?_) λ_ _ y=>y)
 ·exact Qy _ (QN.get?_push_at Z Z)
 ·obtain⟨rfl,hQ⟩:=hr
  wp_walk
  exact hQ
theorem C7(F:ExcBaseFacts bN newId initId bmB)(T:Zb h bmB bm){cF:List Value}(X:K.In h)
  (hC:h.get? C=some (Uj nm q C N bs bm hdct sn sub ab col dd k0 k1 k2 k3 k5 newId)) (hi:R8 K (.ref C) "__init__"=some (some (.ref fI))) (hf:WD K (.ref fI)=some (.type "function"))
  (hq:∀h' e,aac h h' e (.ref C) cF->Q0 (Q5 prog w) (A.under (.builtin "type.__call__" ⟨.ref C:: cF,[]⟩)) (call (.ref fI) (.ref e:: cF)) (λr s'=>r=.none/\Q (.ref e) s') E ⟨h',g,d,t,os⟩) (hz:cF.length≤sizeLine):
  Q0 (Q5 prog w) A (call (.ref C) cF) Q E ⟨h,g,d,t,os⟩:=by
 have f1:=tc_lookup;have f2:=tc_bind (.ref C);have hT:(⟨h,g,d,t,os⟩:QD).TypeIs (.ref C) "type" := ⟨_,hC,Z⟩;refine XA (codeAny_of_tree ?_);show Q0 _ _ (callAny (.ref C) _) _ _ _
 repeat(any_goals(first
  |assumption
  |with_reducible refine wpAny_loadPart_at hC ?_
  |wp_step))
 refine⟨Z,?_⟩;refine codeAny_call_builtin_at (YL _ (by decide +kernel)) entry_typeCall
  (wpAny_check_type_call_sub hC (rZ F T X hC hi hf (λh' e hm=>?_) hz))
 exact hq h' e hm
end
def mK:List Value:=[.type "ValueError",.type "Exception",.type "BaseException",.type "object"]
structure l9(K:Qu)(C:Addr)(bm:List Value):Prop where
 ob:∃nm q N bs hdct sn sub ab col dd k0 k1 k2 k3 k5,K.lookup C=some (Uj nm q C N bs bm hdct sn sub ab col dd k0 k1 k2 k3 k5 "ValueError.__new__")
 tl:∀h:QN,K.In h->Zb h mK bm
 hd:WM K C=true
 sa:R8 K (.ref C) "__setattr__"=some (some (.builtin "object.__setattr__"))
theorem E9(T:Zb h mK tl)(self:Value):refuseLoop self "__setattr__" tl=TL ():=by
 induction T with
 |base=>exact PySem.F.store_ValueError.passes self
 |own _ _ _ _ ih=>rw[refuseLoop_ref];exact ih
theorem uD{K:Qu}{C:Addr}{bm:List Value}(c:l9 K C bm):∃cd,aao K C=some cd/\cd.mro=.ref C::bm:=by
 obtain⟨nm,q,N,bs,hdct,sn,sub,ab,col,dd,k0,k1,k2,k3,k5,lk⟩:=c.ob;unfold aao;rw[lk];exact⟨_,Z,Z⟩
section
variable {prog:Rp}{w:RF}{A:Rw}{s:QD}{K:Qu}{x C:Addr}{R:YI->QD->Prop}
theorem pP(X:K.In s.heap)(I:TM s.heap x ox C od)(c:l9 K C bm)(n:ft K C name)
  (h:∀b,Q0 (Q5 prog w) A.in1 (Rb.ObjectAttr.storeInOwnDict (.ref x) (.ref C) (.str name tk) name v b) (λfin s'=>match fin with
   | .done f=>R (.ok f) s'
   | .again c'=>c'.quiet=true/\Vd (Q5 prog w) A c' R s') (λe s'=>R (.error e) s') s):
  Vd (Q5 prog w) A (.call (.builtin "object.__setattr__") ⟨[.ref x,.str name tk,v],[]⟩) R s:=by
 have sf:=PySem.F.store_object;obtain⟨cd,hc,hm⟩:=uD c;have T:=c.tl _ X;have hob:(Rz C::bm).contains (.type "object")=true:=by
  rw[Uk,T.hasType (X := "object") (b:=true) (by decide +kernel),SZ]
 have isO:TJ (Q5 prog w) s.heap (YM (.ref x) (.type "object")) true:=by
  refine I.type.andThen (Yo X ?_);unfold Yu;rw[hc];show(if cd.mro.isEmpty=true then none else some (cd.mro.contains (.type "object")))=some true;rw[hm,hob];rfl
 have ms:TJ (Q5 prog w) s.heap (mroOf (.ref C)) (.ref C::bm):=by
  rw[←hm];exact(Wg X hc).andThen .now
 refine X7 sf.slot.plain sf.entry (YN (i := "object.__setattr__") (owner := "object") (n := "__setattr__") sf.kind sf.split isO (sf.args _ _ _) ?_);rw[PySem.W.osa_eq,refuse_eq];refine Qx (Qx (I.type.here (Qx (ms.here ?_))));rw[refuseLoop_ref,E9 T];refine wpAny_pure (Qx (I.type.here (Qx ((U6 X n).here (Qx ?_)))));exact UK (r:=none) .now (h _)
end
def Mm(a C:Addr)(dx:Option Addr):QN->Prop:=λh=>∃t:Addr,h.get? a=some { cls:=.ref C,dict:=dx,data:=.fields #[.ref t,.none,.none,.none,.bool false,.none]}
def jC(a C:Addr)(dx:Option Addr):HO:=.ext (Mm a C dx)
theorem C8(e:Mm a C dx h):ObjOk P w H h a (jC a C dx):=
 ⟨e,let ⟨_,q⟩:=e;⟨_,q⟩,λ_ _ ⟨t,q⟩ k=>⟨t,k _ q⟩⟩
def xq(H:Hp)(a:Addr):Hp:=λb=>if b=a then none else H b
theorem gP:xq H a a=none:=by unfold xq;rw[if_pos Z]
theorem kh(h:b≠a):xq H a b=H b:=by unfold xq;rw[if_neg h]
section
variable {X:Cx}{pins:List (Addr×Sv)}{σ:L2.St}{H:Hp}{s:QD}{a C:Addr}{dx:Option Addr}
theorem Inv.forget(I:L2.Inv X pins σ H s)(e:H a=some (.ext φ))(new:X.s₀.heap.get? a=none):L2.Inv X pins σ (xq H a) s:=by
 have none_of:∀b,H b=none->xq H a b=none:=λb h=>by
  by_cases z:b=a
  ·rw[z];exact gP
  ·rw[kh z];exact h
 refine⟨I.ok,I.os,I.bare,⟨I.base.keep,I.base.slot,λb o q n hx=>none_of b (I.base.free b o q n hx),I.base.there,λb xs q=>?_,λb o u q=>?_,λb ps q=>?_⟩,I.loc,I.cell,none_of _ I.free,λx c q=>none_of _ (I.freeC x c q),λp hp=>?_,λb o q=>?_,I.len⟩
 ·have z:=I.base.tups b xs q;rw[kh (λk=>by rw[k,e] at z;cases z)];exact z
 ·have z:=I.base.frzs b o u q;rw[kh (λk=>by rw[k,e] at z;cases z)];exact z
 ·obtain⟨m,z⟩:=I.base.tbls b ps q;exact⟨m,by rw[kh (λk=>by rw[k,e] at z;cases z)];exact z⟩
 ·obtain⟨p1,p2,p3⟩:=I.pin p hp;exact⟨p1,none_of _ p2,p3⟩
 ·have nb:b≠a:=λz=>by rw[z,gP] at q;cases q
  rw[kh nb] at q;refine(I.hok b o q).stay (λc u _ z=>z) (λc z=>?_) (λc xs z=>?_)
  ·rw[kh (λk=>by rw[k,e] at z;cases z)];exact z
  ·rw[kh (λk=>by rw[k,e] at z;cases z)];exact z
end
theorem ObjOk.get(x:L2.ObjOk P w H h a o):∃u,h.get? a=some u:=by
 cases o with
 |lst xs=>obtain⟨_,_,_,_,e⟩:=x;exact⟨_,e⟩
 |tup xs=>obtain⟨_,_,_,o,e,_⟩:=x;exact⟨_,e⟩
 |dK kvs=>obtain⟨_,_,_,_,o,_,_,e,_⟩:=x;exact⟨_,e⟩
 |dT kvs=>obtain⟨_,_,_,_,o,_,_,e,_⟩:=x;exact⟨_,e⟩
 |set S n=>obtain⟨o,_,_,_,e,_⟩:=x;exact⟨_,e⟩
 |ins C dx fs=>obtain⟨_,_,_,e,_⟩:=x;exact⟨_,e⟩
 |own y=>exact x
 |xd fs=>obtain⟨_,⟨_,_,_,e,_⟩,_⟩:=x;exact⟨_,e⟩
 |rng lo hi=>obtain⟨_,_,_,e⟩:=x;exact⟨_,e⟩
 |frz ob u=>obtain⟨e,_⟩:=x;exact⟨_,e⟩
 |tbl ps=>exact⟨_,show h.get? a=some _ from x⟩
 |met f y=>exact⟨_,show h.get? a=some _ from x⟩
 |ext φ=>exact x.2.1
def OA(h:QN)(H:Hp)(x C T:Addr)(a0:Value):Prop:=
 ∃oe vs oT ts,h.get? x=some oe/\oe.cls=.ref C/\vs[0]?=some a0/\oe.data=.fields vs/\vs[1]?=some (.ref T)/\H T=none/\T≠x/\h.get? T=some oT/\oT.data=.fields ts/\ts[3]?=some .none
def Qt(P:Rp)(w:RF):uP:=λouter H s E e s'=>∃(x C T:Addr) (a0:Value) (H':Hp),e=.ref x/\s'.os=s.os/\V0 s'.gens/\Un (ph outer) [] H H' s.heap s'.heap/\jM P w H' s'.heap/\s.heap.get? x=none/\s.heap.get? T=none/\H' x=none∧
 OA s'.heap H' x C T a0/\E (.ref C) none H'
structure eG(X:Cx)(pins:List (Addr×Sv))(a:Addr):Prop where
 st:X.s₀.heap.get? a=none
 lo:a≠X.env.locals
 ce:∀x c,X.env.cells.lookup x=some c->c≠a
 pi:∀p∈X.pn++pins,p.1≠a
 fr:a∉ph X.stack
section
variable {X:Cx}{pins:List (Addr×Sv)}{σ:L2.St}{H H':Hp}{s:QD}{a:Addr}
theorem Inv.newAt(I:L2.Inv X pins σ H s)(hex:X.ex=[])(h:s.heap.get? a=none):eG X pins a where
 st:=by
  cases e:X.s₀.heap.get? a with
  |none=>rfl
  |some o=>
   obtain⟨o',q⟩:=I.base.there a o e (by rw[hex];simp);rw[h] at q;cases q
 lo:=λz=>by
  obtain⟨m,⟨o,_,_,q,_⟩,_⟩:=I.loc;rw[←z,h] at q;cases q
 ce:=λx c e z=>by
  obtain⟨v,o,q,_⟩:=I.cell x c e;rw[z,h] at q;cases q
 pi:=λp hp z=>by
  obtain⟨q,_⟩:=I.pin p hp;rw[z,h] at q;cases q
 fr:=λz=>by
  obtain⟨_,o,q,_⟩:=I.stack.mem z;rw[h] at q;cases q
end
section
variable {X:Cx}{pins:List (Addr×Sv)}{σ:L2.St}{H:Hp}{s:QD}{a:Addr}{o:HO}
theorem Inv.adopt(I:L2.Inv X pins σ H s)(na:eG X pins a)(ha:H a=none)(hex:X.ex=[])(new:L2.ObjOk X.prog X.w (upd H a o) s.heap a o):L2.Inv X pins σ (upd H a o) s:=by
 have keep:∀b u,H b=some u->upd H a o b=some u:=λb u q=>by rw[aJ (aX q ha)];exact q
 have nn:∀b,b≠a->H b=none->upd H a o b=none:=λb nb q=>by rw[aJ nb];exact q
 refine⟨I.ok,I.os,I.bare,⟨I.base.keep,I.base.slot,λb u q n hx=>nn b (λz=>by rw[z,na.st] at q;cases q) (I.base.free b u q n hx),I.base.there,λb xs q=>keep _ _ (I.base.tups b xs q),λb u v q=>keep _ _ (I.base.frzs b u v q),λb ps q=>?_⟩,I.loc,I.cell,nn _ na.lo.symm I.free,λx c q=>nn _ (na.ce x c q) (I.freeC x c q),λp hp=>?_,λb u q=>?_,I.len⟩
 ·obtain⟨m,z⟩:=I.base.tbls b ps q;exact⟨m,keep _ _ z⟩
 ·obtain⟨p1,p2,p3⟩:=I.pin p hp;exact⟨p1,nn _ (na.pi p hp) p2,p3⟩
 ·by_cases z:b=a
  ·subst z;rw[ao] at q;cases q;exact new
  ·rw[aJ z] at q;exact(I.hok b u q).stay (λc v _ w=>w) (λc w=>keep _ _ w) (λc xs w=>keep _ _ w)
theorem Inv.none_of(I:L2.Inv X pins σ H s)(h:s.heap.get? a=none):H a=none:=by
 cases q:H a with
 |none=>rfl
 |some o=>obtain⟨u,z⟩:=ObjOk.get (I.hok a o q);rw[h] at z;cases z
end
structure XC(K:Qu)(C f:Addr)(bm:List Value):Prop where
 ob:∃nm q N bs hdct sn sub ab col dd k0 k1 k2 k3 k5,K.lookup C=some (Uj nm q C N bs bm hdct sn sub ab col dd k0 k1 k2 k3 k5 "ValueError.__new__")
 tl:∀h:QN,K.In h->Zb h mK bm
 init:R8 K (.ref C) "__init__"=some (some (.ref f))
 fn:WD K (.ref f)=some (.type "function")
 kp:SH K (.ref C)=true
 cl:l9 K C bm
section
variable {X:Cx}{k:Nat}{f C:Addr}{fd:QF}{ps:List Rr}{sp:Sp}{bm:List Value}
theorem D8{pins:List (Addr×Sv)}{σ:L2.St}{H:Hp}{s:QD}{Q:Addr->Hp->Prop}{us:List Value}{vs:List V}{E':Value->QD->Prop}(M:XC X.K C f bm)(hex:X.ex=[])(F:bi X.prog X.w X.K X.mg X.base cT k f fd ps sp)(hr:dN (k+1) X.A)(hb:aP X.K fd ps [])
  (I:L2.Inv X pins σ H s) (r:bu vs us) (hz:us.length≤sizeLine) (h:∀a,H a=none->sp (.ref a::vs) (upd H a (jC a C none)) (λv H2=>v=.non/\Q a H2) E0) :
  Q0 (Q5 X.prog X.w) X.A (call (.ref C) us) (λv s'=>∃a H',v=.ref a/\eG X pins a/\L2.Inv X pins σ H' s'/\Q a H') E' s:=by
 obtain⟨nm,q,N,bs,hdct,sn,sub,ab,col,dd,k0,k1,k2,k3,k5,lk⟩:=M.ob;obtain⟨hp,g,d,t,os⟩:=s;refine C7 PySem.F.excBase_ValueError (M.tl hp I.kIn) I.kIn (I.kIn _ _ lk) M.init M.fn (λh' e hm=>?_) hz;have na:=B.Inv.newAt I hex hm.new;have he:=B.Inv.none_of I hm.new;obtain⟨tt,ho,_⟩:=hm.there;have I1:L2.Inv X pins σ H ⟨h',g,d,t,os⟩:=I.kept (t':=t) hm.keeps;have I2:L2.Inv X pins σ (upd H e (jC e C none)) ⟨h',g,d,t,os⟩:=B.Inv.adopt I1 na he hex (C8 ⟨tt,ho⟩);have hq:=h e he;have r2:bu (V.ref e::vs) (Rz e::us):=.cons Z r;have hl:(Rz e::us).length=ps.length:=by
  have z:=r2.length;rw[F.len _ _ _ _ hq] at z;exact z.symm
 have hbd:=hb ⟨h',g,d,t,os⟩ (Rz e::us) I2.kIn (by rw[R6];exact hl);rw[R6] at hbd;refine XA (VG (F.run _ X.stack _ _ ⟨Rz e::us,[]⟩ (Rz e::us) _ _ E0 (hr.make C us []) (I2.env0.make C us []) hbd r2 hq) λr s' hq'=>?_)
 cases r with
 |error e=>exact SJ hq'
 |ok fl=>
  cases fl with
  |ret u=>
   obtain⟨v,H',I3,rv,ev,q3⟩:=I2.after hq';subst ev;exact⟨rv,e,H',Z,na,I3,q3⟩
  |next=>exact SJ hq'
  |brk=>exact SJ hq'
  |cont=>exact SJ hq'
def OB(X:Cx)(E:XK):Prop:=∀(pins:List (Addr×Sv)) (σ:L2.St) (H:Hp) (s:QD) (a C:Addr) (oe:Sv) (vs:Array Value) (a0:Value),L2.Inv X pins σ H s->H a=none->eG X pins a->s.heap.get? a=some oe->oe.data=.fields vs→
 vs[0]?=some a0->vs[1]?=some .none->oe.cls=.ref C->E (.ref C) none H->X.xe (.ref a) s
theorem yi 
  (hbase:bm.contains (.type "BaseException")=true) (hh:A.handled=none)
  (h:Q0 M A x (λv s₁=>∃e t dx,v=.ref e/\s₁.heap.get? C=some (Uj nm q C N bs bm hdct sn sub ab col dd k0 k1 k2 k3 k5 newId)∧
   s₁.heap.get? e=some { cls:=.ref C,dict:=dx,data:=.fields #[.ref t,.none,.none,.none,.bool false,.none]}/\E (.ref e) s₁) E s):
  Q0 M A (raiseStmt env (some x) none) Q E s:=by
 have hcB:(Rz C::bm).contains (.type "BaseException")=true:=by rw[Uk,hbase,SZ]
 unfold raiseStmt;refine Qx (SI h (λv s₁ h₁=>?_) λ_ _ y=>y);obtain⟨e,t,dx,rfl,hC,he,hE⟩:=h₁;obtain⟨hp,g,d,tk,os⟩:=s₁
 repeat(first
  |with_reducible refine wpAny_loadPart_at he ?_
  |with_reducible refine wpAny_loadPart_at hC ?_
  | (with_reducible refine wpAny_isSubtype_exc hC ?_
     rw[hcB])
  |wp_step)
 exact wpAny_raiseNew_none hh hE
def MS(C:Addr)(sp:Sp)(E:XK)(t:TA):TS:=λ_ σ H=>t σ H λvs H1=>vs.length≤sizeLine/\∀a,H1 a=none->sp (.ref a::vs) (upd H1 a (jC a C none)) (λv H2=>v=.non/\(∃dx,H2 a=some (jC a C dx))/\E (.ref C) none (xq H2 a)) E0
end
section
variable {X:Cx}{pins:List (Addr×Sv)}{σ:L2.St}{H:Hp}{s:QD}{a C T:Addr}{a0:Value}
end
def Gn(N:List Rr):L2.St:=Rf N.length none
theorem CY{X:Cx}{pins:List (Addr×Sv)}{σ:L2.St}{H:Hp}{s:QD}(I:L2.Inv X pins σ H s):L2.Inv X pins (Gn X.N) H s:=
 I.weak (by rw[I.len];exact UQ) λi v q=>by
  unfold Gn at q;rw[Te] at q
  split at q<;>cases q
def P7(X:Cx)(pins:List (Addr×Sv))(R:Addr->Hp->Prop):Value->QD->Prop:=λe s=>∃(x C T:Addr) (a0:Value) (H:Hp),e=.ref x/\L2.Inv X pins (Gn X.N) H s/\H x=none/\eG X pins x/\eG X pins T/\OA s.heap H x C T a0/\R C H
def Oq(X:Cx)(pins:List (Addr×Sv))(R:Addr->Hp->Prop):Cx:={ X with pn:=X.pn++pins,xe:=P7 X pins R}
def jA(X:Cx)(e:Addr):Cx:={ X with A:=X.A.mark (some (.ref e)),calm:=false,xe:=λ_ _=>False}
section
variable {X:Cx}{pins pins':List (Addr×Sv)}{σ:L2.St}{H:Hp}{s:QD}{R:Addr->Hp->Prop}{e:Addr}
theorem ww(I:L2.Inv X pins σ H s):L2.Inv (jA X e) pins σ H s:=
 ⟨⟨I.ok.mod,I.ok.kind,I.ok.glob,I.ok.blt,I.ok.above,I.ok.inj,I.ok.has,I.ok.cab,(λz=>nomatch z),I.ok.frames,I.ok.stk,I.ok.exf,I.ok.bs,I.ok.bsz,I.ok.noex,I.ok.exfs,I.ok.funs,I.ok.frf⟩,I.os,I.bare,I.base,I.loc,I.cell,I.free,I.freeC,I.pin,I.hok,I.len⟩
theorem ofExc(ok:X.Ok)(I:L2.Inv (jA X e) pins σ H s):L2.Inv X pins σ H s:=
 ⟨ok,I.os,I.bare,I.base,I.loc,I.cell,I.free,I.freeC,I.pin,I.hok,I.len⟩
theorem SP.ofExc(ok:X.Ok)(h:SP (jA X e) pins D f s):SP X pins D f s:=by
 cases f with
 |next=>obtain⟨σ',H',I,q⟩:=h;exact⟨σ',H',B.ofExc ok I,q⟩
 |brk=>obtain⟨σ',H',I,q⟩:=h;exact⟨σ',H',B.ofExc ok I,q⟩
 |cont=>obtain⟨σ',H',I,q⟩:=h;exact⟨σ',H',B.ofExc ok I,q⟩
 |ret u=>obtain⟨v,σ',H',I,r,q⟩:=h;exact⟨v,σ',H',B.ofExc ok I,r,q⟩
end
def OU(N:List Rr)(R:Addr->Hp->Prop)(Ok:Addr->Prop)(tb:TS)(th:TS):TS:=λD σ H=>tb D σ H/\∀C H',R C H'->Ok C/\th D (Gn N) H'
section
variable {X:Cx}{R:Addr->Hp->Prop}{body:List Stmt}{b₀:Stmt}{suite:List Stmt}{x:Rr}{p hpos pos:UE}{u:Value}{tb th:TS}
end
section
variable {X:Cx}{o value:Ry}{f:Rr}{ta tv:TE}{pos' pos:UE}
def Oe(K:Qu)(ta tv:TE)(f:Rr):TS:=λD σ H=>tv σ H λ_ H1=>ta σ H1 λx H2=>∃a C bm,x=.ref a/\H2 a=some (jC a C none)/\l9 K C bm/\ft K C f/\∀d,D.nx σ (upd H2 a (jC a C (some d)))
end
def P8(R:Addr->Hp->Prop):XK:=λv _ H=>∃C,v=.ref C/\R C H
theorem nh(a:Addr):(Rz a::mK).contains (.type "BaseException")=true:=by rw[Uk,(by decide +kernel:mK.contains (.type "BaseException")=true),SZ]
def nK(es:Array Yh):Bool:=es.toList.all λe=>match e.key with
 | .str _ _=>true
 |_=>false
theorem uV(h:nK es=true):StrKeys es:=λe he=>by
 have z:=Sk.mp h e (X4.mpr he)
 revert z
 cases e.key<;>intro z<;>first|exact⟨_,_,Z⟩ | (cases z)
theorem FV{K:Qu}{bs bsB:List Value}{sn snB:List Rr}{sub subB:List Value} 
  
  (lc:K.lookup C=some (Uj nm q C N bs (.ref B0:: [.type "ValueError",.type "Exception",.type "BaseException",.type "object"]) hdct sn sub ab col dd k0 k1 k2 k3 k5 "ValueError.__new__"))
  (lb:K.lookup B0=some (Uj nmB qB B0 NB bsB [.type "ValueError",.type "Exception",.type "BaseException",.type "object"] hdctB snB subB abB colB ddB j0 j1 j2 j3 j5 "ValueError.__new__"))
  (ln:K.lookup NB=some ⟨oc,od,.dict es n,sl⟩) (hs:nK es=true) (hn:(nsFind es "__init__").isNone=true)
  (fi:R8 K (.ref C) "__init__"=some (some (.ref f))) (ti:WD K (.ref f)=some (.type "function")) (kc:SH K (.ref C)=true) (hh:WM K C=true) (sa:R8 K (.ref C) "__setattr__"=some (some (.builtin "object.__setattr__"))):XC K C f (.ref B0:: mK):=
 have ob:∃nm q N bs hdct sn sub ab col dd k0 k1 k2 k3 k5,K.lookup C=some (Uj nm q C N bs (.ref B0::mK) hdct sn sub ab col dd k0 k1 k2 k3 k5 "ValueError.__new__"):=⟨_,_,_,_,_,_,_,_,_,_,_,_,_,_,_,lc⟩;have tl:∀h:QN,K.In h->Zb h mK (.ref B0::mK):=λh X=>.own (X _ _ lb) ⟨_,es,n,X _ _ ln,Z,uV hs,λ_=>Z⟩ (Option.isNone_iff_eq_none.mp hn) .base
 ⟨ob,tl,fi,ti,kc,ob,tl,hh,sa⟩
structure zr(K:Qu)(C:Addr):Prop where
 ga:R8 K (.ref C) "__getattribute__"=some (some (.builtin "BaseException.__getattribute__"))
 gn:R8 K (.ref C) "__getattr__"=some none
 cl:R8 K (.ref C) "__class__"=some (some (.builtin "object.__class__"))
 cg:WN K (.builtin "object.__class__") "__get__"=some (some (.builtin "getset_descriptor.__get__"))
 ct:ZV K (.builtin "object.__class__")=some true
section
variable {prog:Rp}{w:RF}{A:Rw}{E:Value->QD->Prop}{s:QD}{K:Qu}{x C:Addr}{ox:Sv}{odo:Option Sv}{bm:List Value}{name:Rr}{tk:Tok}{R:YI->QD->Prop}
theorem C9{fill ex:Bool}(X:K.In s.heap)(I:TM s.heap x ox C odo)(g:zr K C)
  (h:Vd (Q5 prog w) A (.call (.builtin "BaseException.__getattribute__") ⟨[.ref x,.str name tk],[]⟩) (λr s'=>∃v,r=.ok (.ret v)/\Zs v=true/\Q v s') s):
  Q0 (Q5 prog w) A (getAttrBy (.ref x) (.str name tk) fill ex) Q E s:=by
 have FB:=Wm;unfold getAttrBy;refine wpAny_holding (Qx (I.type.here (Qx ((U6 X g.ga).here ?_))));have e2:(aap "BaseException.__getattribute__"==aap "object.__getattribute__")=false:=by decide +kernel
 dsimp only;rw[e2,R1,if_neg Q4];unfold getAttrByItsOwn hookBefore;rw[if_pos (show onTheHeap (Rz C)=true from Z)];refine Qx ((U6 X g.gn).here (Qx (W5 (wpAny_holding ?_))));unfold callGetattribute;rw[if_neg (by cases ex<;>decide)];unfold boundAndCalled;rw[FB.ga.bind (.ref x)];refine Qx (wpAny_pure (XA (VG h λr s' hq=>?_)));obtain⟨v,rfl,hh,q⟩:=hq;exact PySem.W.handed_on hh q
theorem Py{X:K.In s.heap}(I:TM s.heap x ox C odo)(c:l9 K C bm)(T:String)(hT:mK.contains (.type T)=true):TJ (Q5 prog w) s.heap (YM (.ref x) (.type T)) true:=by
 obtain⟨cd,hc,hm⟩:=uD c;have hob:(Rz C::bm).contains (.type T)=true:=by
  rw[Uk,(c.tl _ X).hasType (X:=T) (b:=true) hT,SZ]
 refine I.type.andThen (Yo X ?_);unfold Yu;rw[hc];show(if cd.mro.isEmpty=true then none else some (cd.mro.contains (.type T)))=some true;rw[hm,hob];rfl
theorem Da(X:K.In s.heap)(I:TM s.heap x ox C odo)(c:l9 K C bm)
  (h:Q0 (Q5 prog w) A.in1 (Rb.«object.__getattribute__» ⟨[.ref x,.str name tk],[]⟩) (λfin s'=>match fin with
   | .done f=>R (.ok f) s'
   | .again c'=>c'.quiet=true/\Vd (Q5 prog w) A c' R s') (λe s'=>R (.error e) s') s) :
  Vd (Q5 prog w) A (.call (.builtin "BaseException.__getattribute__") ⟨[.ref x,.str name tk],[]⟩) R s:=by
 have FB:=Wm;exact X7 FB.ga.plain PySem.F.entry_bexc_ga (YN (i := "BaseException.__getattribute__") (owner := "BaseException") (n := "__getattribute__") (by decide +kernel) (by decide +kernel) (Py (X:=X) I c "BaseException" (by decide +kernel)) (PySem.F.args_bexc_ga _ _) h)
theorem Fn(X:K.In s.heap)(I:TM s.heap x ox C odo)(c:l9 K C bm)(hf:PySem.W.findObj K C odo name=some (.value v))(h:R (.ok (.ret v)) s):
  Vd (Q5 prog w) A (.call (.builtin "BaseException.__getattribute__") ⟨[.ref x,.str name tk],[]⟩) R s:=by
 refine Da X I c ?_;unfold Rb.«object.__getattribute__»;have L:=PySem.W.looks_find (M:=Q5 prog w) X I hf;refine Qx (wpAny_pure (Qx (wpAny_pure (Qx (I.type.here (Qx (L.here ?_)))))));exact wpAny_pure h
end
section
variable {K:Qu}{x C:Addr}{ox od:Sv}{bm:List Value}
end
structure i9(S ch:List Addr)(h h':QN):Prop where
 same:∀b o,b∉S->b∉ch->h.get? b=some o->h'.get? b=some o
 slot:∀b o,b∉ch->h.get? b=some o->∃sl,h'.get? b=some { o with slots:=sl}
theorem i9.trans(a:i9 S c1 h h1)(b:i9 S c2 h1 h2):i9 S (c1++c2) h h2 where
 same:=λx o n1 n2 q=>b.same x o n1 (λz=>n2 (Ro _ z)) (a.same x o n1 (λz=>n2 (Rt _ z)) q)
 slot:=λx o n2 q=>by
  obtain⟨sl,z⟩:=a.slot x o (λz=>n2 (Rt _ z)) q;obtain⟨sl',z'⟩:=b.slot x _ (λz=>n2 (Ro _ z)) z;exact⟨sl',z'⟩
theorem i9.upd:i9 S [T] h (h.update T f) where
 same:=λb o _ n q=>by rw[RH _ _ (λz=>n (by rw[z];exact QK.mpr Z))];exact q
 slot:=λb o n q=>⟨o.slots,by rw[RH _ _ (λz=>n (by rw[z];exact QK.mpr Z))];exact q⟩
def i6(h:QN)(x C T:Addr)(dx:Option Addr)(fl:Value):Prop:=
 ∃oe vs oT ts,h.get? x=some oe/\oe.cls=.ref C/\oe.dict=dx/\oe.data=.fields vs/\vs[1]?=some (.ref T)/\T≠x/\h.get? T=some oT/\oT.data=.fields ts/\ts[3]?=some fl
section
variable {M:Model}{A:Rw}{E:Value->QD->Prop}{s:QD}{base:QN}{env:ZU}{outer:List ZU}{L e C T:Addr}{oe:Sv}{vs:Array Value}{dx:Option Addr}{fl:Value}
theorem yU(f:Array Value->Array Value)(o:Sv):(Yz f o).dict=o.dict:=by
 unfold Yz;split<;>rfl
theorem Dc(hfr:A.frames=some (env:: outer))(hl:s.heap.FunFrames base (env:: outer))(hf:env.frame=some L)
  (he:s.heap.get? e=some oe) (hd:oe.data=.fields vs) (hsz:1<vs.size) (hc:oe.cls=.ref C) (hx:oe.dict=dx)
  (h:∀h' T,i9 (ph (env:: outer)) [e] s.heap h'->s.heap.get? T=none->i6 h' e C T dx (rawInt L)->Q () { s with heap:=h'}):
  Q0 M A (do let a ←frameOf env;let pl ←entryPlaceOf L hadNext;let b ←EntryCells.newEntry head a .none (rawInt L) .none pl;setField (.ref e) 1 b) Q E s:=by
 have hene:e∉ph (env::outer):=λhm=>by
  obtain⟨_,o,ho,hnf⟩:=hl.mem hm;rw[he] at ho;cases ho;exact hnf vs hd
 refine Qx (wpAny_frameOf_fun hfr hl hf λh1 s1=>Qx (wpAny_entryPlaceOf λpl hpl=>?_));unfold EntryCells.newEntry newFields;refine Qx (Sn ?_ (hpl.sizeOk5 _ _ _ _ _));have he1:h1.get? e=some oe:=(s1.2.1 e hene).trans he;generalize hob:({ cls:=.type "traceback",dict:=none,data:=.fields ([head,.ref L,.none,rawInt L,.none]++(if pl.isEmpty then Rf 6 Tc else pl)).toArray}:Sv)=ob;have he2:=Qy (h:=h1) ob he1;refine VL he2 hd hsz (h _ h1.objs.size ⟨λb o n1 n2 q=>?_,λb o n2 q=>?_⟩ ?_ ?_)
 ·rw[RH _ _ (λz=>n2 (by rw[z];exact QK.mpr Z))];exact Qy _ ((s1.2.1 b n1).trans q)
 ·obtain⟨sl,z⟩:=s1.2.2 b o q;refine⟨sl,?_⟩;rw[RH _ _ (λz=>n2 (by rw[z];exact QK.mpr Z))];exact Qy _ z
 ·exact Td (VI s1.1.symm)
 ·have nT:h1.objs.size≠e:=Ud (QY he1);have d3:=UL hd (·.setIfInBounds 1 (Rz h1.objs.size));refine⟨_,_,ob,_,Tu _ he2 (UT d3),(Zc _ _).trans hc,(yU _ _).trans hx,d3,by simp[hsz],nT,?_,by rw[←hob],?_⟩
  ·rw[RH _ _ (Tt nT)];exact QZ h1 (by rw[←hob];rfl)
  ·first | (simp;done) | (rcases hpl with rfl | ⟨_,_,_,_,_,_,_,rfl⟩<;>simp)
theorem rY(t:i6 s.heap e C T dx fl)(h:∀h',i9 [] [T] s.heap h'->i6 h' e C T dx .none->Q () { s with heap:=h'}):Q0 M A (Yj (.ref e) none) Q E s:=by
 obtain⟨oe,vs,oT,ts,q1,q2,q3,q4,q5,q6,q7,q8,q9⟩:=t;have z3:3<ts.size:=(Tl.mp q9).1;unfold Yj;refine Qx (R9 q1 q4 q5 ?_);rw[if_pos (by simp)];refine VL q7 q8 z3 (h _ i9.upd ?_);have d3:=UL q8 (·.setIfInBounds 3 ((none:Option Addr).elim Tc λf=>rawInt f));exact⟨oe,vs,_,_,(RH _ _ q6).trans q1,q2,q3,q4,q5,q6,Tu _ q7 (UT d3),d3,by simp[z3]⟩
theorem LC(hfr:A.frames=some (env:: outer))(hl:s.heap.FunFrames base (env:: outer))(hf:env.frame=some L)(he:s.heap.get? e=some oe)(hd:oe.data=.fields vs)(h1:vs[1]?=some .none)(hc:oe.cls=.ref C)(hx:oe.dict=dx)
  (h:∀h' T,i9 (ph (env:: outer)) [e] s.heap h'->s.heap.get? T=none->i6 h' e C T dx (rawInt L)->Q () { s with heap:=h'}):Q0 M A (Ws (.ref e) env) Q E s:=by
 unfold Ws;simp only[hf];refine Qx (R9 he hd h1 ?_);rw[if_neg δ];exact Dc hfr hl hf he hd (Tl.mp h1).1 hc hx h
theorem LA(hfr:A.frames=some (env:: outer))(hl:s.heap.FunFrames base (env:: outer))(hf:env.frame=some L)(t:i6 s.heap e C T dx .none)
  (h:∀h' T',i9 (ph (env:: outer)) [T,e] s.heap h'->s.heap.get? T'=none->i6 h' e C T' dx (rawInt L)->Q () { s with heap:=h'}):Q0 M A (Ws (.ref e) env) Q E s:=by
 obtain⟨oe,vs,oT,ts,q1,q2,q3,q4,q5,q6,q7,q8,q9⟩:=t;unfold Ws;simp only[hf];refine Qx (R9 q1 q4 q5 ?_);rw[if_pos (by simp)];refine Qx (R9 q7 q8 q9 ?_);rw[if_neg (by simp[rawInt])];refine Qx (VL q7 q8 (Tl.mp q9).1 ?_);have k1:i9 (ph (env::outer)) [T] s.heap (s.heap.update T (Yz (·.setIfInBounds 3 Tc))):=i9.upd;have nf:∀b o,s.heap.get? b=some o->(∀us,o.data≠.fields us)->b∉[T]:=λb o hb hn z=>by
  rw[QK.mp z,q7] at hb;cases hb;exact hn ts q8
 refine Dc (base:=base) hfr (hl.of_keeps λb o hb hn=>?_) hf ((RH _ _ q6).trans q1) q4 (Tl.mp q5).1 q2 q3 λh' T' k nT t'=>h h' T' (k1.trans k) ?_ t'
 ·obtain⟨sl,z⟩:=k1.slot b o (nf b o hb hn) hb;exact⟨_,z,Z⟩
 ·cases q:s.heap.get? T' with
  |none=>rfl
  |some o=>
   exfalso;by_cases z:T'=T
   ·have d3:=UL q8 (·.setIfInBounds 3 Tc);rw[z,Tu _ q7 (UT d3)] at nT;cases nT
   ·rw[RH _ _ (Tt z)] at nT;rw[q] at nT;cases nT
end
def Mn(d:Addr)(fs:List (Rr×V)):QN->Prop:=λh=>∃mA,h.Ns1 d mA/\∀f,io (fs.lookup f) (mA f)
def dO(d:Addr)(fs:List (Rr×V)):HO:=.ext (Mn d fs)
theorem Gu(e:Mn d fs h):ObjOk P w H h d (dO d fs):=
 ⟨e,let ⟨_,⟨_,_,_,q,_⟩,_⟩:=e;⟨_,q⟩,λ_ _ ⟨mA,n,r⟩ k=>⟨mA,n.at k,r⟩⟩
theorem yh(r:io a b)(h:b≠none):a≠none:=λz=>by
 subst z
 cases b with
 |none=>exact h Z
 |some _=>exact r.elim
theorem pY{fs:List (Rr×V)}{mA:Rr->Option Value}(r:∀g,io (fs.lookup g) (mA g))(q:br y u):∀g,io (((f,y):: fs).lookup g) (if g=f then some u else mA g):=λg=>by
 by_cases z:g=f
 ·subst z;rw[if_pos Z,List.lookup_cons_self];exact q
 ·rw[if_neg z,Ve,beq_eq_false_iff_ne.mpr z];exact r g
theorem pH{fs:List (Rr×V)}(r:∀g,io (fs.lookup g) (mA g)):YU mA (fs.map (·.1)):=λg hg=>by
 have z:=yh (r g) hg
 cases q:fs.lookup g with
 |none=>exact absurd q z
 |some v=>
  obtain⟨l1,l2,e,_⟩:=List.lookup_eq_some_iff.mp q;rw[e];simp
section
variable {X:Cx}{pins:List (Addr×Sv)}{σ:L2.St}{H:Hp}{s:QD}{a C:Addr}
theorem setX1(hex:X.ex=[])(I:L2.Inv X pins σ H s)(e:H a=some (jC a C none))(c:l9 X.K C bm)(n:ft X.K C f)(ry:br y u)
  (h:∀d s',H d=none->d≠a->L2.Inv X pins σ (upd (upd H a (jC a C (some d))) d (dO d [(f,y)])) s'->Q () s'):Q0 (Q5 X.prog X.w) A (setAttr (.ref a) f u) Q E s:=by
 obtain⟨t,hx⟩:=(show ObjOk X.prog X.w H s.heap a (jC a C none) from I.hok a _ e).1;have J:TM s.heap a _ C none:=⟨hx,Z,Z,trivial⟩;refine Zd I.kIn J c.sa (pP (s:={ s with toks:=s.toks+1}) I.kIn J c n λb=>?_);obtain⟨cd,hc,hd'⟩:=Zw c.hd;refine Qx (wpAny_pure (Qx (Qx (wpAny_loadPart hx (Qx (UK (s:={ s with toks:=s.toks+1}) (Wg I.kIn hc) ?_))))));rw[hd'];show Q0 _ _ (alloc { cls:=.type "dict",data:=.dict #[]} >>= λd=>update a (λo=>{ o with dict:=some d}) >>= λ_=>dictMade (.ref C) a d) _ _ _;have la:a<s.heap.objs.size:=QY hx;have nad:s.heap.objs.size≠a:=Ud la;have g1:=Qy (h:=s.heap) { cls:=.type "dict",data:=.dict #[]} hx;refine Qx (wpAny_alloc (Qx (wpAny_update g1 ?_)));have g2:=Tu (λo=>{ o with dict:=some s.heap.objs.size}) g1 rfl;have e1:((s.heap.push { cls:=.type "dict",data:=.dict #[]}).update a λo=>{ o with dict:=some s.heap.objs.size}).get? s.heap.objs.size=some { cls:=.type "dict",data:=.dict #[]}:=by
  rw[RH _ _ nad.symm];exact QZ s.heap Z
 have e3:((s.heap.push { cls:=.type "dict",data:=.dict #[]}).update a λo=>{ o with dict:=some s.heap.objs.size}).Ns s.heap.objs.size (λ_=>none):=
  ⟨_,#[],_,e1,Z,(λe he=>absurd he (by simp)),λ_=>Z⟩
 have keep:∀b o,b≠a->s.heap.get? b=some o->((s.heap.push { cls:=.type "dict",data:=.dict #[]}).update a λo=>{ o with dict:=some s.heap.objs.size}).get? b=some o:=λb o nb q=>by
  rw[RH _ _ (Tt nb)];exact Qy _ q
 refine wpAny_pure (a:=some s.heap.objs.size) (Qx (wpAny_pure (Qx ?_)));refine wpAny_nsSet1 (QN.Ns1.of_empty e3) λh' hn2 hs2=>?_
 have rel:∀g,io ([(f,y)].lookup g) (if g=f then some u else none):=pY (fs:=[]) (mA:=λ_=>none) (λ_=>trivial) ry;obtain⟨oD,esD,epD,hoD,hdD,hcD⟩:=hn2.count (pH rel);refine Qx (Zx hoD (by rw[hdD];exact Zy (Rm hcD (Nat.le_add_left _ _))) ?_);have hno:s.heap.get? s.heap.objs.size=none:=Td (QB _);have hH:H s.heap.objs.size=none:=B.Inv.none_of I hno;refine wpAny_pure (h s.heap.objs.size _ hH nad ?_);have ga:h'.get? a=some { cls:=.ref C,dict:=some s.heap.objs.size,data:=.fields #[.ref t,.none,.none,.none,.bool false,.none]}:=(hs2.2 a nad.symm).trans g2;have I2:L2.Inv X pins σ (upd H a (jC a C (some s.heap.objs.size))) { s with heap:=h',toks:=s.toks+1+1}:=I.write (x:=a) (e:=a) (o:=jC a C (some s.heap.objs.size)) (h':=h') (by rw[e];trivial) (.inl rfl) (λb o nb q=>by
  have nb2:b≠s.heap.objs.size:=RQ (QY q);exact(hs2.2 b nb2).trans (keep b o nb q)) ⟨_,ga⟩ (C8 ⟨t,ga⟩)
 exact B.Inv.adopt I2 (B.Inv.newAt I hex hno) (by rw[aJ nad];exact hH) hex (Gu ⟨_,hn2,rel⟩)
theorem setX2(I:L2.Inv X pins σ H s)(e:H a=some (jC a C (some d)))(ed:H d=some (dO d fs))(hl:fs.length≤100)(c:l9 X.K C bm)(n:ft X.K C f)(ry:br y u)
  (h:∀s',L2.Inv X pins σ (upd H d (dO d ((f,y):: fs))) s'->Q () s'):Q0 (Q5 X.prog X.w) A (setAttr (.ref a) f u) Q E s:=by
 obtain⟨t,hx⟩:=(show ObjOk X.prog X.w H s.heap a (jC a C (some d)) from I.hok a _ e).1;obtain⟨mA,hn,rel0⟩:=(show ObjOk X.prog X.w H s.heap d (dO d fs) from I.hok d _ ed).1;obtain⟨od,_,_,hod,_⟩:=id hn;have J:TM s.heap a _ C (some od):=⟨hx,Z,Z,hod⟩;refine Zd I.kIn J c.sa (pP (s:={ s with toks:=s.toks+1}) I.kIn J c n λb=>?_);obtain⟨cd,hc,hd'⟩:=Zw c.hd;refine Qx (wpAny_pure (Qx (Qx (wpAny_loadPart hx (Qx (UK (s:={ s with toks:=s.toks+1}) (Wg I.kIn hc) ?_))))));rw[hd'];refine wpAny_pure (a:=some d) (Qx (wpAny_pure (Qx ?_)));refine wpAny_nsSet1 (s:={ s with toks:=s.toks+1}) hn λh' hn2 hs2=>?_
 have rel:=pY (f:=f) rel0 ry;obtain⟨oD,esD,epD,hoD,hdD,hcD⟩:=hn2.count (pH rel);have hz:esD.size≤101:=by rw[Qz,Rh] at hcD;omega
 refine Qx (Zx hoD (by rw[hdD];exact Zy (Rm hz δ)) ?_);refine wpAny_pure (h _ ?_);exact I.write (x:=d) (e:=d) (o:=dO d ((f,y)::fs)) (h':=h') (by rw[ed];trivial) (.inl Z) (λb o nb q=>(hs2.2 b nb).trans q) ⟨_,hoD⟩ (Gu ⟨_,hn2,rel⟩)
end
section
variable {X:Cx}{o value:Ry}{f:Rr}{ta tv:TE}{pos' pos:UE}
def F8(K:Qu)(ta tv:TE)(f:Rr):TS:=λD σ H=>tv σ H λy H1=>ta σ H1 λx H2=>∃a C bm,x=.ref a/\l9 K C bm/\ft K C f∧
 ((H2 a=some (jC a C none)/\∀d,H2 d=none->d≠a->D.nx σ (upd (upd H2 a (jC a C (some d))) d (dO d [(f,y)])))∨
  ∃d fs,H2 a=some (jC a C (some d))/\H2 d=some (dO d fs)/\fs.length≤100/\D.nx σ (upd H2 d (dO d ((f,y)::fs))))
theorem Es(hex:X.ex=[])(ha:PE X o ta)(hv:PE X value tv)(hs:UC value (some (.Attribute o f pos')) pos.line X.env=TL false):PS X (.Assign [.Attribute o f pos'] value pos) (F8 X.K ta tv f):=by
 intro pins s σ H D I h;refine plainObj_wpAny_Assign_Attribute (cL (hv pins s σ H _ I h) λu s1 ⟨y,H1,I1,ry,q⟩=>cL (ha pins s1 σ H1 _ I1 q) λov s2 ⟨x,H2,I2,rx,a,C,bm,ex,c,n,q2⟩=>?_) hs;subst ex;obtain rfl:ov=Rz a:=rx;rcases q2 with⟨ea,k⟩ | ⟨d,fs,ea,ed,hl,k⟩
 ·exact B.setX1 hex I2 ea c n ry λd s' hd nd I'=>⟨σ,_,I',k d hd nd⟩
 ·exact B.setX2 I2 ea ed hl c n ry λs' I'=>⟨σ,_,I',k⟩
end
theorem i9.any(k:i9 [] ch h h'):i9 S ch h h':=⟨λb o _ n q=>k.same b o (λz=>by cases z) n q,k.slot⟩
section
variable {X:Cx}{pins:List (Addr×Sv)}{σ:L2.St}{H:Hp}{s:QD}{a C T:Addr}{dx:Option Addr}{fl:Value}
theorem Inv.leftK(I:L2.Inv X pins σ H s)(hch:∀b∈ch,H b=none/\eG X pins b)(k:i9 (ph X.stack) ch s.heap h'):L2.Inv X pins σ H { s with heap:=h',toks:=tk}:=by
 have GC:∀b o,H b=some o->b∉ph X.stack/\b∉ch:=λb o q=>
  ⟨(λz=>by rw[I.stkFree b z] at q;cases q),(λz=>by rw[(hch b z).1] at q;cases q)⟩
 refine I.call' (s':={ s with heap:=h',toks:=tk}) (ch:=ch) rfl ⟨λb o q _ n1 n2=>k.same b o n1 n2 q,λb o q _ n1 n2=>k.slot b o n2 q,λb o _ n _=>n,λb o q n2=>?_,λb xs q=>q,λb o u q=>q,λb ps q=>⟨#[],by rw[Array.append_empty];exact q⟩⟩ (λb o q=>?_) I.bare
  (λb hb=>⟨.inr (hch b hb).2.st,(hch b hb).2.lo,(hch b hb).2.ce,(hch b hb).2.pi⟩)
 ·obtain⟨sl,z⟩:=k.slot b o n2 q;exact⟨_,z⟩
 ·refine(I.hok b o q).stay (λc u hc z=>?_) (λc z=>z) (λc xs z=>z);rcases hc with rfl|hc
  ·obtain⟨n1,n2⟩:=GC _ _ q;exact k.same _ _ n1 n2 z
  ·obtain⟨n1,n2⟩:=GC _ _ hc;exact k.same _ _ n1 n2 z
theorem Jq{A:Rw}{E':Value->QD->Prop}{Q:QD->Prop}{oe:Sv}(hA:A.frames=X.A.frames)(I:L2.Inv X pins σ H s)(hex:X.ex=[])(hst:X.stack=X.env:: X.outer)(hfr:X.env.frame=some X.env.locals)
  (ha:H a=none) (na:eG X pins a) (hx:s.heap.get? a=some oe) (hd:oe.data=.fields vs) (h1:vs[1]?=some .none) (hc:oe.cls=.ref C) (hdx:oe.dict=dx)
  (h:∀(s':QD) (T:Addr),L2.Inv X pins σ H s'->eG X pins T->H T=none->i6 s'.heap a C T dx .none->Q s'):
  Q0 (Q5 X.prog X.w) A (Ws (.ref a) X.env) (λ_ s2=>Q0 (Q5 X.prog X.w) A (Yj (.ref a) none) (λ_ s3=>Q s3) E' s2) E' s:=by
 have hfrm:A.frames=some (X.env::X.outer):=by rw[hA,I.ok.frames,hst]
 refine LC (base:=X.base) hfrm (by rw[←hst];exact I.stack) hfr hx hd h1 hc hdx λh1 T k1 nT t1=>?_
 refine rY (s:={ s with heap:=h1}) t1 λh2 k2 t2=>?_
 have nt:=B.Inv.newAt I hex nT;have hT:=B.Inv.none_of I nT;rw[←hst] at k1;refine h { s with heap:=h2} T (B.Inv.leftK (tk:=s.toks) I (λb hb=>?_) (k1.trans k2.any)) nt hT t2;simp only[Zz,V8,QR,RG,or_false] at hb;rcases hb with rfl|rfl
 ·exact⟨ha,na⟩
 ·exact⟨hT,nt⟩
theorem CC{A:Rw}{E':Value->QD->Prop}{Q:QD->Prop}(hA:A.frames=X.A.frames)(I:L2.Inv X pins σ H s)(hex:X.ex=[])(hst:X.stack=X.env::X.outer)(hfr:X.env.frame=some X.env.locals)
  (ha:H a=none) (na:eG X pins a) (hT:H T=none) (nT:eG X pins T) (t:i6 s.heap a C T dx .none)
  (h:∀(s':QD) (T':Addr),L2.Inv X pins σ H s'->eG X pins T'->H T'=none->i6 s'.heap a C T' dx .none->Q s') :
  Q0 (Q5 X.prog X.w) A (Ws (.ref a) X.env) (λ_ s2=>Q0 (Q5 X.prog X.w) A (Yj (.ref a) none) (λ_ s3=>Q s3) E' s2) E' s:=by
 have hfrm:A.frames=some (X.env::X.outer):=by rw[hA,I.ok.frames,hst]
 refine LA (base:=X.base) hfrm (by rw[←hst];exact I.stack) hfr t λh1 T' k1 nT' t1=>?_
 refine rY (s:={ s with heap:=h1}) t1 λh2 k2 t2=>?_
 have nt:=B.Inv.newAt I hex nT';have hT':=B.Inv.none_of I nT';rw[←hst] at k1;refine h { s with heap:=h2} T' (B.Inv.leftK (tk:=s.toks) I (λb hb=>?_) (k1.trans k2.any)) nt hT' t2;simp only[Zz,V8,QR,RG,or_false] at hb;rcases hb with rfl|rfl|rfl
 ·exact⟨hT,nT⟩
 ·exact⟨ha,na⟩
 ·exact⟨hT',nt⟩
theorem C3{E':Value->QD->Prop}{Q:QD->Prop}(I:L2.Inv X pins σ H s)(hT:H T=none)(nT:eG X pins T)(t:i6 s.heap a C T dx .none)
  (h:∀(s':QD),L2.Inv X pins σ H s'->i6 s'.heap a C T dx .none->Q s'):Q0 (Q5 X.prog X.w) A (Yj (.ref a) none) (λ_ s3=>Q s3) E' s:=by
 refine rY t λh2 k2 t2=>h _ (B.Inv.leftK (tk:=s.toks) I (λb hb=>?_) k2.any) t2
 rw[QK.mp hb];exact⟨hT,nT⟩
end
def FT(P:Rp)(w:RF):uP:=λouter H s E e s'=>∃(x C T:Addr) (dx:Option Addr) (H':Hp),e=.ref x/\s'.os=s.os/\V0 s'.gens/\Un (ph outer) [] H H' s.heap s'.heap/\jM P w H' s'.heap/\s.heap.get? x=none/\s.heap.get? T=none/\H' x=none/\H' T=none∧
 i6 s'.heap x C T dx .none/\E (.ref C) dx H'
section
variable {P:Rp}{w:RF}{K:Qu}{mg:Rr->Option Value}{base:QN}{N:List Rr}{qual:Rr}{scope:UZ}{f:Addr}{cd:Value}{A:Rw}{outer:List ZU}{s:QD}{H:Hp}{E:XK}
def v9(X:Cx)(E:XK):Prop:=∀(pins:List (Addr×Sv)) (σ:L2.St) (H:Hp) (s:QD) (a C:Addr) (dx:Option Addr) (oe:Sv) (vs:Array Value),L2.Inv X pins σ H s->H a=none->eG X pins a->s.heap.get? a=some oe->oe.data=.fields vs→
 vs[1]?=some .none->oe.cls=.ref C->oe.dict=dx->E (.ref C) dx H->X.xe (.ref a) s
theorem nH:v9 (bw (FT P w) P w K mg base N qual scope f cd A outer s H E) E:=by
 intro pins σ H1 s1 a C dx oe vs I ha na hx hd h1 hc hdx hE;show Q0 (Q5 P w) _ (leaving _ _) _ _ s1;unfold leaving;refine Qx (Jq Z I Z Z Z ha na hx hd h1 hc hdx λs3 T' I3 nT' hT' tr'=>?_);exact⟨a,C,T',dx,H1,Z,I3.os,I3.bare,I3.base,I3.hok,na.st,nT'.st,ha,hT',tr',hE⟩
theorem Fun.okD{x:Rr}{st:Stmt}{fd:QF}{ps:List Rr}{k:Nat}{sp:Sp}(F:Fun K x qual st f fd)(S:aA N ps (ax st))(len:∀vs H Q E,sp vs H Q E->vs.length=ps.length)
  (hbody:∀(cdv:Value) (A:Rw) (outer:List ZU) (s:QD) (H:Hp) (vs:List V) (Q:VK) (E:XK),dN k (A.deeper (XB qual (ax st) s.heap.objs.size f cdv))->sp vs H Q E→
   ∃t,qp (bw (FT P w) P w K mg base N qual (ax st) f cdv A outer s H E) (dU st) t/\t { nx:=λ_ H'=>Q .non H',rt:=Q} (kr N vs) H):bi P w K mg base (FT P w) (k+1) f fd ps sp:=by
 obtain⟨oc,od,kV,doc,pm,an,cdv,ct,osl,rfl,lk,hcd⟩:=F.ex;exact Gp lk hcd S len λA outer s H vs Q E hr hsp=>hbody cdv A outer s H vs Q E hr hsp
end
section
variable {X:Cx}{k:Nat}{f C:Addr}{fd:QF}{ps:List Rr}{sp:Sp}{bm:List Value}
def wz(C:Addr)(sp:Sp)(E:XK)(t:TA):TS:=λ_ σ H=>t σ H λvs H1=>vs.length≤sizeLine/\∀a,H1 a=none->sp (.ref a::vs) (upd H1 a (jC a C none)) (λv H2=>v=.non/\∃dx,H2 a=some (jC a C dx)/\E (.ref C) dx (xq H2 a)) E0
theorem ym{x:Rr}{p cpos pos:UE}{e:Ry}{es:List Ry}{t:TA}{E:XK}(M:XC X.K C f bm)(hbase:bm.contains (.type "BaseException")=true)(hex:X.ex=[])(tk:v9 X E)(F:bi X.prog X.w X.K X.mg X.base cT k f fd ps sp)(hr:dN (k+1) X.A)(hb:aP X.K fd ps [])
  (hg:Gl X x) (hm:X.mg x=some (.ref C)) (ha:PA X (e::es) t) (hdb:(x==("__debug__" : Rr))=false:=by decide) (he:QV (e::es) X.env=(false,eval e X.env)::QV es X.env:=by rfl) (hpl:(Uv cpos (QV es X.env)).any (·.1)=false:=by rfl) :
  PS X (.Raise (some (.Call (.Name x p) (e::es) [] cpos)) none pos) (wz C sp E t):=by
 intro pins s σ H D I h;obtain⟨nm,q,N,bs,hdct,sn,sub,ab,col,dd,k0,k1,k2,k3,k5,lk⟩:=M.ob;rw[arm_exec_Raise];refine Qx (Vk (yi (C:=C) (bm:=bm) (nm:=nm) (q:=q) (N:=N) (bs:=bs) (hdct:=hdct) (sn:=sn) (sub:=sub) (ab:=ab) (col:=col) (dd:=dd) (k0:=k0) (k1:=k1) (k2:=k2) (k3:=k3) (k5:=k5) (newId := "ValueError.__new__") hbase hr.hd ?_));refine Qx (SI (Q:=λv s'=>∃a H',v=.ref a/\eG X pins a/\L2.Inv X pins σ H' s'/\∃dx,H' a=some (jC a C dx)/\E (.ref C) dx (xq H' a)) ?_ (λv s1 h1=>Qx (Vk (wpAny_pure ?_))) λ_ _ y=>y)
 ·refine UI (jo I hg hm ?_ hdb);refine Ww (h₀:=X.base) I.ok.mod.kin M.kp (cL (ha cpos pins s σ H _ I h) λus s1 ⟨vs,H1,I1,r,hz,q⟩=>⟨I1.kIn,?_⟩) he hpl;exact D8 M hex F hr hb I1 (us:=[]++us) r (by rw[V8,←r.length];exact hz) q
 ·obtain⟨a,H',rfl,na,I1,dx,hx,hE⟩:=h1;obtain⟨tt,ho⟩:=(show L2.ObjOk X.prog X.w H' s1.heap a (jC a C dx) from I1.hok a _ hx).1;exact⟨a,tt,dx,Z,I1.kIn _ _ lk,ho,tk pins σ (xq H' a) s1 a C dx _ _ (B.Inv.forget I1 hx na.st) gP na ho Z Z Z Z hE⟩
end
abbrev RX:=Addr->Option Addr->Hp->Prop
def NL(X:Cx)(pins:List (Addr×Sv))(R:RX):Value->QD->Prop:=λe s=>∃(x C T:Addr) (dx:Option Addr) (H:Hp),e=.ref x/\L2.Inv X pins (Gn X.N) H s/\H x=none/\eG X pins x/\H T=none/\eG X pins T/\i6 s.heap x C T dx .none/\R C dx H
def kg(X:Cx)(pins:List (Addr×Sv))(R:RX):Cx:={ X with pn:=X.pn++pins,xe:=NL X pins R}
section
variable {X:Cx}{pins pins':List (Addr×Sv)}{σ:L2.St}{H:Hp}{s:QD}{R:RX}{e:Addr}
theorem GE(I:L2.Inv X pins σ H s):L2.Inv (kg X pins R) [] σ H s:=
 ⟨⟨I.ok.mod,I.ok.kind,I.ok.glob,I.ok.blt,I.ok.above,I.ok.inj,I.ok.has,I.ok.cab,I.ok.hd,I.ok.frames,I.ok.stk,I.ok.exf,I.ok.bs,I.ok.bsz,I.ok.noex,I.ok.exfs,I.ok.funs,I.ok.frf⟩,I.os,I.bare,I.base,I.loc,I.cell,I.free,I.freeC,
  λp hp=>I.pin p (by rw[R6] at hp;exact hp),I.hok,I.len⟩
theorem ofTryD(I:L2.Inv (kg X pins R) pins' σ H s):L2.Inv X pins σ H s:=
 ⟨⟨I.ok.mod,I.ok.kind,I.ok.glob,I.ok.blt,I.ok.above,I.ok.inj,I.ok.has,I.ok.cab,I.ok.hd,I.ok.frames,I.ok.stk,I.ok.exf,I.ok.bs,I.ok.bsz,I.ok.noex,I.ok.exfs,I.ok.funs,I.ok.frf⟩,I.os,I.bare,I.base,I.loc,I.cell,I.free,I.freeC,
  λp hp=>I.pin p (Rt _ hp),I.hok,I.len⟩
def Ka(R:RX):XK:=λv dx H=>∃C,v=.ref C/\R C dx H
theorem Iy(hex:X.ex=[]):l7 (FT X.prog X.w) (kg X pins R) (Ka R):=by
 intro pins' σ H1 s1 e s2 I hx;obtain⟨x,C,T,dx,H2,rfl,ho,hb,un,hok,nx,nT,hx2,hT2,tr,C',e',hr⟩:=hx
 cases e'
 have na:=B.Inv.newAt I hex nx;have nt:=B.Inv.newAt I hex nT;have I2:L2.Inv (kg X pins R) pins' σ H2 s2:=I.call' ho un hok hb (λb hb=>by cases hb);exact⟨x,C,T,dx,H2,Z,CY (ofTryD I2),hx2,⟨na.st,na.lo,na.ce,λp hp=>na.pi p (Rt _ hp),na.fr⟩,hT2,⟨nt.st,nt.lo,nt.ce,λp hp=>nt.pi p (Rt _ hp),nt.fr⟩,tr,hr⟩
theorem SP.ofTryD(h:SP (kg X pins R) [] D f s):SP X pins D f s:=by
 cases f with
 |next=>obtain⟨σ',H',I,q⟩:=h;exact⟨σ',H',B.ofTryD I,q⟩
 |brk=>obtain⟨σ',H',I,q⟩:=h;exact⟨σ',H',B.ofTryD I,q⟩
 |cont=>obtain⟨σ',H',I,q⟩:=h;exact⟨σ',H',B.ofTryD I,q⟩
 |ret u=>obtain⟨v,σ',H',I,r,q⟩:=h;exact⟨v,σ',H',B.ofTryD I,r,q⟩
end
theorem ji{X:Cx}{σ:L2.St}(I:L2.Inv X pins σ H s)(hN:X.N.Nodup)(hi:X.N[i]?=some x)(hk:X.env.scope.names.lookup x=some .local)
  (h:∀s',L2.Inv X pins (σ.set i none) H s'->Q () s'):Q0 M A (do YX X.env x .none;unbindBehindTheSuite X.env x pos) Q E s:=by
 obtain⟨m,hn,hl⟩:=id I.loc;have hiσ:i<σ.length:=by rw[I.len];exact(QM.mp hi).1
 have lt:∀b o,X.s₀.heap.get? b=some o->b≠X.env.locals:=λb o e=>RQ (Rc (QY e) I.ok.above)
 refine wpAny_nameGoes_keeps hk hn (by rw[I.ok.kind];rfl) λh' v hn' hs=>h _ ?_
 refine⟨I.ok,I.os,I.bare,⟨λb o e n hb hx=>(hs.2 b (lt b o e)).trans (I.base.keep b o e n hb hx),λb o e n hb hx=>?_,I.base.free,λb o e hx=>?_,I.base.tups,I.base.frzs,I.base.tbls⟩,⟨_,hn',λj y v' e1 e2 e3=>?_⟩,λy c e=>?_,I.free,I.freeC,λp hp=>?_,λb ob e=>?_,by simpa using I.len⟩
 ·obtain⟨sl,e1⟩:=I.base.slot b o e n hb hx;exact⟨sl,(hs.2 b (lt b o e)).trans e1⟩
 ·obtain⟨o',e1⟩:=I.base.there b o e hx;exact⟨o',(hs.2 b (lt b o e)).trans e1⟩
 ·have hj:j≠i:=λz=>by subst z;rw[Uc hiσ] at e2;cases e2
  rw[SG (Tt hj)] at e2;obtain⟨u',r',q⟩:=hl j y v' e1 e2 e3;refine⟨u',r',?_⟩;rcases q with⟨k,e⟩ | ⟨k,c,e,z⟩
  ·refine .inl ⟨k,?_⟩;have ny:y≠x:=λe=>hj (oA hN e1 (e▸hi))
   show(if y=x then v else m y)=some u';rw[if_neg ny];exact e
  ·exact .inr ⟨k,c,e,z.sameBut hs (I.cne y c e)⟩
 ·obtain⟨w',z⟩:=I.cell y c e;exact⟨w',z.sameBut hs (I.cne y c e)⟩
 ·obtain⟨e,n,ne,nf,d⟩:=I.pin p hp;exact⟨(hs.2 p.1 ne).trans e,n,ne,nf,d⟩
 ·refine(I.hok b ob e).stay (λc w' hc q=>(hs.2 c ?_).trans q) (λ_ q=>q) λ_ _ q=>q
  rintro rfl;rcases hc with rfl|hc
  ·rw[I.free] at e;cases e
  ·rw[I.free] at hc;cases hc
def NM(a C d:Addr):QN->Prop:=λh=>∃oe,h.get? a=some oe/\oe.cls=.ref C/\oe.dict=some d/\aad oe=true
def JJ(a C d:Addr):HO:=.ext (NM a C d)
theorem JI(e:NM a C d h):ObjOk P w H h a (JJ a C d):=
 ⟨e,let ⟨_,q,_⟩:=e;⟨_,q⟩,λ_ _ ⟨o,q,r⟩ k=>⟨o,k _ q,r⟩⟩
theorem i6.er(t:i6 h x C T (some d) fl):NM x C d h:=by
 obtain⟨oe,vs,oT,ts,q1,q2,q3,q4,_⟩:=t;exact⟨oe,q1,q2,q3,by unfold aad;rw[q4]⟩
def LN(i:Nat)(D:iE):iE:={ nx:=λσ H=>D.nx (σ.set i none) H,rt:=D.rt,bk:=λσ H=>D.bk (σ.set i none) H,ct:=λσ H=>D.ct (σ.set i none) H}
def NW(N:List Rr)(R:RX)(Ok:Addr->Prop)(tb th:TS):TS:=λD σ H=>tb D σ H/\∀C dx H',R C dx H'->Ok C/\th D (Gn N) H'
def zR(N:List Rr)(i:Nat)(R:RX)(Ok:Addr->Prop)(tb th:TS):TS:=λD σ H=>tb D σ H/\∀C dx H',R C dx H'->Ok C/\∃d,dx=some d/\∀a,H' a=none->th (LN i D) ((Gn N).set i (some (.ref a))) (upd H' a (JJ a C d))
section
variable {X:Cx}{R:RX}{body:List Stmt}{b₀:Stmt}{suite:List Stmt}{x:Rr}{p hpos pos:UE}{u:Value}{tb th:TS}
theorem zL(t:i6 h a C T dx fl):TJ M h (typeOf (.ref a)) (.ref C):=by
 obtain⟨oe,_,_,_,q1,q2,_⟩:=t;rw[←q2];exact(TJ.ld q1).andThen .now
theorem BU{i:Nat}{n:Rr}(hex:X.ex=[])(hst:X.stack=X.env::X.outer)(hfr:X.env.frame=some X.env.locals)(hg:Gl X x)(hm:X.mg x=some u)(hN:X.N.Nodup)(hi:X.N[i]?=some n)(hn:X.env.scope.names.lookup n=some .local)
  (hb:∀pins,qp (kg X pins R) body tb) (hs:∀e,qp (jA X e) (b₀::suite) th) (hd:(x==("__debug__" : Rr))=false:=by decide) :
  PS X (.Try body [.ExceptHandler (some (.Name x p)) (some n) (b₀::suite) hpos] [] [] pos) (zR X.N i R (λC=>U7 X.K (.ref C) u=some true) tb th):=by
 intro pins s σ H D I ⟨h1,h2⟩;refine ZA (SI (hb pins [] s σ H D (GE I) h1) (λf s1 q=>?_) λe s1 q=>?_)
 ·have q':=SP.ofTryD q
  cases f with
  |next=>exact UN q'
  |brk=>exact q'
  |cont=>exact q'
  |ret u=>exact q'
 ·obtain⟨a,C,T,dx,H1,rfl,I1,ha,na,hT,nT,tr,hR⟩:=q;obtain⟨hk,d,rfl,hth⟩:=h2 C dx H1 hR;refine CC Z I1 hex hst hfr ha na hT nT tr λs2 T2 I2 nT2 hT2 tr2=>?_
  refine Yp (XZ ?_) (by intro z;cases z);refine jo (X:=jA X a) (ww I2) hg hm ?_ hd;refine UK (s:=s2) (ZY (M:=Q5 X.prog X.w) I2.kIn (zL tr2) hk) ?_;refine codeAny_handlers_suite_as ?_;refine C3 I2 hT2 nT2 tr2 λs3 I3 tr3=>?_
  have I4:L2.Inv X pins (Gn X.N) (upd H1 a (JJ a C d)) s3:=B.Inv.adopt I3 na ha hex (JI tr3.er);refine fR (X:=jA X a) (ww I4) hN hi (.inl hn) (v:=.ref a) (u:=.ref a) Z (λs5 I5=>?_) (.inr hn);refine SI (hs a pins s5 _ _ (LN i D) I5 (hth a ha)) (λf s6 q6=>?_) λ_ _ z=>z.elim
  cases f with
  |next=>obtain⟨σ',H',J,q⟩:=q6;exact ji (ofExc I.ok J) hN hi hn λs' J'=>⟨_,_,J',q⟩
  |brk=>obtain⟨σ',H',J,q⟩:=q6;exact ji (ofExc I.ok J) hN hi hn λs' J'=>⟨_,_,J',q⟩
  |cont=>obtain⟨σ',H',J,q⟩:=q6;exact ji (ofExc I.ok J) hN hi hn λs' J'=>⟨_,_,J',q⟩
  |ret u=>obtain⟨v,σ',H',J,r,q⟩:=q6;exact ji (ofExc I.ok J) hN hi hn λs' J'=>⟨v,_,_,J',r,q⟩
end
def Pq(K:Qu):List V->Hp->VK->Prop:=λxs H Q=>∃(a C d:Addr) (fs:List (Rr×V)) (bm:List Value) (c:V) (b:Bool),xs=[.ref a,c]/\H a=some (JJ a C d)/\H d=some (dO d fs)/\l9 K C bm/\zr K C∧
 ((∃n,c=.ty n/\U2 K (.ref C) (.type n)=some b)∨(∃D,c=.ref D/\U2 K (.ref C) (.ref D)=some b)∨
  ∃(p:Addr) (cs:List Addr),c=.ref p/\H p=some (.tup (cs.map V.ref))/\aae K (.ref C) (cs.map Rz)=some b)/\Q (.bl b) H
def uM(H:Hp)(a C d:Addr):Prop:=H a=some (JJ a C d)∨H a=some (jC a C (some d))
section
variable {X:Cx}{pins:List (Addr×Sv)}{σ:L2.St}{H:Hp}{s:QD}{a C d:Addr}{fs:List (Rr×V)}
theorem uM.inst(I:L2.Inv X pins σ H s)(h:uM H a C d)(ed:H d=some (dO d fs)):∃(oe od:Sv) (mA:Rr->Option Value),TM s.heap a oe C (some od)/\(∀name,Wv name od=some (mA name))/\∀f,io (fs.lookup f) (mA f):=by
 obtain⟨mA,hn,r⟩:=(show ObjOk X.prog X.w H s.heap d (dO d fs) from I.hok d _ ed).1;obtain⟨od,ho,hl⟩:=p6 hn;rcases h with h|h
 ·obtain⟨oe,h1,h2,h3,h4⟩:=(show ObjOk X.prog X.w H s.heap a (JJ a C d) from I.hok a _ h).1;exact⟨oe,od,mA,⟨h1,h2,h4,by rw[h3];exact ho⟩,hl,r⟩
 ·obtain⟨t,h1⟩:=(show ObjOk X.prog X.w H s.heap a (jC a C (some d)) from I.hok a _ h).1;exact⟨_,od,mA,⟨h1,Z,Z,ho⟩,hl,r⟩
end
def F2(K:Qu)(ta:TE)(f:Rr):TE:=λσ H Q=>ta σ H λx H1=>∃a C d fs bm v,x=.ref a/\uM H1 a C d/\H1 d=some (dO d fs)/\l9 K C bm/\zr K C/\ft K C f/\fs.lookup f=some v/\Q v H1
theorem EI{X:Cx}{e:Ry}{f:Rr}{pos:UE}{ta:TE}{K:Qu}(hK:X.K=K)(he:PE X e ta)(hb:Ug e f X.env (eval e X.env)=eval e X.env):PE X (.Attribute e f pos) (F2 K ta f):=by
 subst hK;intro pins s σ H Q I h;refine FD hb (cL (he pins s σ H _ I h) λu s1 ⟨x,H1,I1,rx,a,C,d,fs,bm,v,ex,ea,ed,c,g,n,l,q⟩=>?_);subst ex;obtain rfl:u=Rz a:=rx;obtain⟨oe,od,mA,J,hl,r⟩:=uM.inst I1 ea ed;obtain⟨u',hu,ru⟩:=io.some_of (v:=v) (o:=mA f) (by rw[←l];exact r f);unfold getAttr;refine Qx (wpAny_mkText ?_);refine C9 (s:={ s1 with toks:=s1.toks+1}) I1.kIn J g ?_;refine Fn (s:={ s1 with toks:=s1.toks+1}) I1.kIn J c (PySem.W.findObj_own c.hd n rfl (by rw[hl,hu])) ?_;exact⟨u',rfl,yO ru,v,H1,I1.tok _,ru,q⟩
def Pp(K:Qu):List V->Hp->VK->Prop:=λxs H Q=>∃(a C d:Addr) (fs:List (Rr×V)) (bm:List Value) (c:V) (b:Bool),xs=[.ref a,c]/\uM H a C d/\H d=some (dO d fs)/\l9 K C bm/\zr K C∧
 ((∃n,c=.ty n/\U2 K (.ref C) (.type n)=some b)∨(∃D,c=.ref D/\U2 K (.ref C) (.ref D)=some b)∨
  ∃(p:Addr) (cs:List Addr),c=.ref p/\H p=some (.tup (cs.map V.ref))/\aae K (.ref C) (cs.map Rz)=some b)/\Q (.bl b) H
def MT(C:Addr)(sp:Sp)(t:TA):TE:=λσ H Q=>t σ H λvs H1=>vs.length≤sizeLine/\∀a,H1 a=none->sp (.ref a::vs) (upd H1 a (jC a C none)) (λv H2=>v=.non/\Q (.ref a) H2) E0
theorem qF{X:Cx}{pins:List (Addr×Sv)}{σ:L2.St}{H:Hp}{s:QD}{h':QN}{t':Nat}{fp:List Addr}(I:Inv X pins σ H s)
  (k:∀b o,b∉fp->s.heap.get? b=some o->h'.get? b=some o) (hf:∀b∈fp,ki X pins H b):Inv X pins σ H { s with heap:=h',toks:=t'}:=by
 have off:∀b u,H b=some u->b∉fp:=λb u e z=>by rw[(hf b z).1] at e;cases e
 refine I.step (g':=s.gens) (d':=s.drawn) (ch:=fp) (λb hb=>?_) (λb o _ _ hc e _=>k b o hc e) (λb o _ _ hc e _=>⟨o.slots,k b o hc e⟩) (λ_ _ _ _ n=>n)
  (λb o hc e=>⟨o,k b o hc e⟩) (λ_ _ e=>e) (λ_ _ _ e=>e) (λb ps e=>⟨#[],by rw[e];simp⟩) (λm hm=>?_) (λb u e=>?_) I.bare
 ·obtain⟨_,f1,_,f3,f4,f5⟩:=hf b hb;exact⟨f3,f1,f4,f5⟩
 ·obtain⟨o,es,ep,ho,r⟩:=hm;exact⟨o,es,ep,k _ o (λz=>(hf _ z).2.1 Z) ho,r⟩
 ·refine(I.hok b u e).stay (λc v hc q=>k c v ?_ q) (λ_ q=>q) λ_ _ q=>q
  rcases hc with z|z
  ·rw[z];exact off b u e
  ·exact off c _ z
section
variable {prog:Rp}{w:RF}{A:Rw}{E:Value->QD->Prop}{s:QD}
theorem m7(a:s.heap.IsTupleIter j t k)(b:s.heap.IsTuple t ys)(c:ys[k]?=some v)
  (g:∀h',h'.IsTupleIter j t (k+1)->Ub j s.heap h'->G v { s with heap:=h'}):Q0 (Q5 prog w) A (Rq (.ref j)) G E s:=by
 obtain⟨o,e1,e2,e3⟩:=id a;obtain⟨q,f1,_,n,f2⟩:=b;unfold Rq;refine Qx (SD (name:=TH "__next__") a.typeIs F.slot_tuple_iterator_next (Tf F.slot_tuple_iterator_next a.typeIs F.entry_tuple_iterator_next ?_ (F.args_tuple_iterator_next_1 _)))
 show Q0 (Q5 prog w) _ (ZP (.ref j) 0 >>= _) _ _ s;refine Qx (R9 e1 e3 (x:=.ref t) Z ?_);show Q0 (Q5 prog w) _ (if(Rz t==Tc)=true then _ else _) _ _ s;rw[if_neg (λz=>ZB z:¬((Rz t==Tc)=true))];show Q0 (Q5 prog w) _ (ZP (.ref j) 1 >>= _) _ _ s;refine Qx (R9 e1 e3 (x:=.int k 0) Z ?_);show Q0 (Q5 prog w) _ (seqItems? (.ref t) >>= _) _ _ s;refine Qx (Ul f1 f2 ?_);simp only[c,WQ];refine Qx (VL e1 e3 (by simp) (wpAny_pure ⟨v,Z,wpAny_pure (g _ ?_ (Yq ..))⟩));refine⟨_,Tu _ e1 (UT (UL e3 _)),(Zc ..).trans e2,?_⟩;rw[UL e3];simp[rawInt]
theorem rN(hh:A.handled=none)(a:s.heap.IsTupleIter j t k)(b:s.heap.IsTuple t ys)(c:ys[k]?=none)
  (g:∀h' e,X8 j s.heap h'->(∃o,h'.get? e=some o/\o.cls=.type "StopIteration")->E (.ref e) { s with heap:=h'}):Q0 (Q5 prog w) A (Rq (.ref j)) G E s:=by
 obtain⟨o,e1,e2,e3⟩:=id a;obtain⟨q,f1,_,n,f2⟩:=b;unfold Rq;refine Qx (SD (name:=TH "__next__") a.typeIs F.slot_tuple_iterator_next (Tf F.slot_tuple_iterator_next a.typeIs F.entry_tuple_iterator_next ?_ (F.args_tuple_iterator_next_1 _)))
 show Q0 (Q5 prog w) _ (ZP (.ref j) 0 >>= _) _ _ s;refine Qx (R9 e1 e3 (x:=.ref t) Z ?_);show Q0 (Q5 prog w) _ (if(Rz t==Tc)=true then _ else _) _ _ s;rw[if_neg (λz=>ZB z:¬((Rz t==Tc)=true))];show Q0 (Q5 prog w) _ (ZP (.ref j) 1 >>= _) _ _ s;refine Qx (R9 e1 e3 (x:=.int k 0) Z ?_);show Q0 (Q5 prog w) _ (seqItems? (.ref t) >>= _) _ _ s;refine Qx (Ul f1 f2 ?_);simp only[c,WQ];refine Qx (VT (Qx (VL e1 e3 (by simp) ?_)));show Q0 (Q5 prog w) _ (newExc (.type "StopIteration") [] >>= _) _ _ _;refine Qx ?_;simp only[newTuple,newExc];refine Qx (Sn ?_ (by size_fits));refine Qx (m:=firstArgMember _ _) (wpAny_of_eq (a:=Tc) (by first|rfl | (simp only[firstArgMember]<;>rfl)) ?_);refine Sn ?_ (by size_fits);simp only[raiseNew];refine Qx (wpAny_handled ?_)
 first|rw[hh]|rw[show A.in1.handled=none from hh]
 refine Qx (wpAny_pure (wpAny_throw (g _ _ (((Yq ..).extBut.push _).push _) ⟨_,QZ _ Z,Z⟩)))
structure FO(z TI TO i1 i2:Addr):Prop where
 a1:TI≠z
 a2:TO≠z
 a3:i1≠z
 a4:i2≠z
 a5:TI≠TO
 a6:TI≠i1
 a7:TI≠i2
 a8:TO≠i1
 a9:TO≠i2
 b1:i1≠i2
theorem zI{z TI TO i1 i2:Addr}{x y a b:Value}{A1 A2:QN->Prop}{G:Value->QD->Prop}(D:FO z TI TO i1 i2)
  (hz:Xh s.heap z TI TO .none) (hI:U8 s.heap TI (.ref i1) (.ref i2)) (hO:U8 s.heap TO a b)
  (N1:∀(s':QD) (G:Value->QD->Prop) (E:Value->QD->Prop),(∀c o,c≠z->s.heap.get? c=some o->s'.heap.get? c=some o)->(∀h',A1 h'->Ub i1 s'.heap h'->G x { s' with heap:=h'})->Q0 (Q5 prog w) A (Rq (.ref i1)) G E s')
  (N2:∀(s':QD) (G:Value->QD->Prop) (E:Value->QD->Prop),(∀c o,c≠z->c≠TO->c≠i1->s.heap.get? c=some o->s'.heap.get? c=some o)->(∀h',A2 h'->Ub i2 s'.heap h'->G y { s' with heap:=h'})->Q0 (Q5 prog w) A (Rq (.ref i2)) G E s')
  (l1:i1<s.heap.objs.size) (l2:i2<s.heap.objs.size)
  (g:∀h₁ h₂ h',A1 h₁->A2 h₂->(∀c o,c≠z->c≠TO->c≠i2->h₁.get? c=some o->h'.get? c=some o)->(∀c o,c≠z->c≠TO->h₂.get? c=some o->h'.get? c=some o)→
   Xh h' z TI TO (rawInt s.heap.objs.size)->U8 h' TO x y->U8 h' s.heap.objs.size x y->h'.objs.size=s.heap.objs.size+1→
   (∀c o,c∉[z,TO,i1,i2]->s.heap.get? c=some o->h'.get? c=some o)->G (.ref s.heap.objs.size) { s with heap:=h'}) :
  Q0 (Q5 prog w) A (Rb.«zip.__next__» ⟨[.ref z],[]⟩) (λfin s'=>∃v,fin=.done (.ret v)/\G v s') E s:=by
 show Q0 (Q5 prog w) _ (ZP (.ref z) 2 >>= _) _ _ _;refine Qx (R9 hz Z (x:=.bool false) Z ?_);show Q0 (Q5 prog w) _ (ZP (.ref z) 3 >>= _) _ _ _;refine Qx (R9 hz Z (x:=.ref TI) Z ?_);refine Qx (Ul hI Z ?_);show Q0 (Q5 prog w) _ (SW (.ref z) >>= _) _ _ _;refine Qx ?_;unfold SW;refine Qx (R9 hz Z (x:=.none) Z (wpAny_pure ?_));simp only[if_true];refine Qx (VT ?_);refine Qx (R9 hz Z (x:=.ref TO) Z ?_);refine Qx (Um hz (by simp) λg1 z1 s1=>?_)
 replace z1:Xh g1 z TI TO .ellipsis:=z1
 refine Qx ?_;simp only[ZZ,ZC,aaf,V9];refine Qx (Qx (W6 ?_));show Q0 (Q5 prog w) _ (Rq (.ref i1) >>= _) _ _ _;refine Qx (N1 _ _ _ (λc o n e=>s1.extBut c o n e) λg2 q1 s2=>wpAny_pure ?_);have O2:U8 g2 TO a b:=s2.extBut _ _ D.a8 (s1.extBut _ _ D.a2 hO);refine Qx (Ul O2 Z ?_);refine Qx (V1 O2 λg3 O3 s3=>?_)
 replace O3:U8 g3 TO x b:=O3
 refine Qx (ZQ (wpAny_pure ?_));refine Qx (Qx (W6 ?_));show Q0 (Q5 prog w) _ (Rq (.ref i2) >>= _) _ _ _;refine Qx (N2 _ _ _ (λc o n m k e=>s3.extBut _ _ m (s2.extBut _ _ k (s1.extBut c o n e))) λg4 q2 s4=>wpAny_pure ?_);have O4:U8 g4 TO x b:=s4.extBut _ _ D.a9 O3;refine Qx (Ul O4 Z ?_);refine Qx (V1 O4 λg5 O5 s5=>?_)
 replace O5:U8 g5 TO x y:=O5
 refine Qx (ZQ (wpAny_pure (wpAny_pure ?_)));refine Qx (Ul O5 Z ?_);refine Qx (wpAny_newTuple ?_);have sz:g5.objs.size=s.heap.objs.size:=by rw[s5.1,s4.1,s3.1,s2.1,s1.1]
 have z5:Xh g5 z TI TO .ellipsis:=s5.extBut _ _ D.a2.symm (s4.extBut _ _ D.a4.symm (s3.extBut _ _ D.a2.symm (s2.extBut _ _ D.a3.symm z1)));have zl:z<g5.objs.size:=QY z5;show Q0 (Q5 prog w) _ (Vi (.ref z) (.ref g5.objs.size) >>= _) _ _ _;refine Qx ?_;unfold Vi;have z6:Xh (g5.push { cls:=.type "tuple",data:=.seq #[x,y]}) z TI TO .ellipsis:=Qy _ z5;refine Qx (Um z6 (by simp) λg7 z7 s7=>?_)
 replace z7:Xh g7 z TI TO (rawInt g5.objs.size):=z7
 refine Um z7 (by simp) λg8 z8 s8=>?_
 replace z8:Xh g8 z TI TO (rawInt g5.objs.size):=z8
 have up:∀c o,c≠z->g5.get? c=some o->g8.get? c=some o:=λc o n e=>s8.extBut _ _ n (s7.extBut _ _ n (Qy _ e))
 have t8:U8 g8 g5.objs.size x y:=s8.extBut _ _ (Ud zl) (s7.extBut _ _ (Ud zl) (QZ _ Z));have sz8:g8.objs.size=g5.objs.size+1:=by rw[s8.1,s7.1,SV]
 rw[sz] at z8 t8 sz8;refine wpAny_pure ⟨_,Z,?_⟩;show G (.ref g5.objs.size) _;rw[sz];refine g g2 g4 g8 q1 q2 (λc o n m k e=>up c o n (s5.extBut _ _ m (s4.extBut _ _ k (s3.extBut _ _ m e)))) (λc o n m e=>up c o n (s5.extBut _ _ m e)) z8 (up _ _ D.a2 O5) t8 sz8 λc o n e=>?_
 simp only[QR,RG,or_false,not_or] at n;exact up c o n.1 (s5.extBut _ _ n.2.1 (s4.extBut _ _ n.2.2.2 (s3.extBut _ _ n.2.1 (s2.extBut _ _ n.2.2.1 (s1.extBut _ _ n.1 e)))))
theorem zH{z TI TO i1 i2:Addr}{a b:Value}{G:Fin->QD->Prop}(D:FO z TI TO i1 i2)
  (hz:Xh s.heap z TI TO .none) (hI:U8 s.heap TI (.ref i1) (.ref i2)) (hO:U8 s.heap TO a b)
  (N:(∀(s':QD) (G:Value->QD->Prop) (E:Value->QD->Prop),(∀c o,c≠z->s.heap.get? c=some o->s'.heap.get? c=some o)→ (∀h' e,X8 i1 s'.heap h'->(∃o,h'.get? e=some o/\o.cls=.type "StopIteration")->E (.ref e) { s' with heap:=h'})->Q0 (Q5 prog w) A (Rq (.ref i1)) G E s')∨ ((∃x,∀(s':QD) (G:Value->QD->Prop) (E:Value->QD->Prop),(∀c o,c≠z->s.heap.get? c=some o->s'.heap.get? c=some o)->(∀h',Ub i1 s'.heap h'->G x { s' with heap:=h'})->Q0 (Q5 prog w) A (Rq (.ref i1)) G E s')∧
    ∀(s':QD) (G:Value->QD->Prop) (E:Value->QD->Prop),(∀c o,c≠z->c≠TO->c≠i1->s.heap.get? c=some o->s'.heap.get? c=some o)→
    (∀h' e,X8 i2 s'.heap h'->(∃o,h'.get? e=some o/\o.cls=.type "StopIteration")->E (.ref e) { s' with heap:=h'})->Q0 (Q5 prog w) A (Rq (.ref i2)) G E s'))
  (g:∀h' e,(∀c o,c∉[z,TO,i1,i2]->s.heap.get? c=some o->h'.get? c=some o)->(∃o,h'.get? e=some o/\o.cls=.type "StopIteration")->E (.ref e) { s with heap:=h'}) :
  Q0 (Q5 prog w) A (Rb.«zip.__next__» ⟨[.ref z],[]⟩) G E s:=by
 show Q0 (Q5 prog w) _ (ZP (.ref z) 2 >>= _) _ _ _;refine Qx (R9 hz Z (x:=.bool false) Z ?_);show Q0 (Q5 prog w) _ (ZP (.ref z) 3 >>= _) _ _ _;refine Qx (R9 hz Z (x:=.ref TI) Z ?_);refine Qx (Ul hI Z ?_);show Q0 (Q5 prog w) _ (SW (.ref z) >>= _) _ _ _;refine Qx ?_;unfold SW;refine Qx (R9 hz Z (x:=.none) Z (wpAny_pure ?_));simp only[if_true];refine Qx (VT ?_);refine Qx (R9 hz Z (x:=.ref TO) Z ?_);refine Qx (Um hz (by simp) λg1 z1 s1=>?_)
 replace z1:Xh g1 z TI TO .ellipsis:=z1
 refine Qx ?_;simp only[ZZ,ZC,aaf,V9];refine Qx (Qx (W6 ?_));show Q0 (Q5 prog w) _ (Rq (.ref i1) >>= _) _ _ _;rcases N with N | ⟨⟨x,N⟩,N'⟩
 ·refine Qx (N _ _ _ (λc o n e=>s1.extBut c o n e) λg2 e s2 he=>?_);obtain⟨oe,he,hc⟩:=he;have z2:Xh g2 z TI TO .ellipsis:=s2 _ _ D.a3.symm z1;have ne:e≠z:=λq=>by subst q;rw[z2] at he;cases he;simp at hc
  refine Um z2 (by simp) λg3 _ s3=>g g3 e (λc o n q=>?_) ⟨oe,s3.extBut _ _ ne he,hc⟩
  simp only[QR,RG,or_false,not_or] at n;exact s3.extBut _ _ n.1 (s2 _ _ n.2.2.1 (s1.extBut _ _ n.1 q))
 ·refine Qx (N _ _ _ (λc o n e=>s1.extBut c o n e) λg2 s2=>wpAny_pure ?_);have O2:U8 g2 TO a b:=s2.extBut _ _ D.a8 (s1.extBut _ _ D.a2 hO);refine Qx (Ul O2 Z ?_);refine Qx (V1 O2 λg3 O3 s3=>?_);refine Qx (ZQ (wpAny_pure ?_));refine Qx (Qx (W6 ?_));show Q0 (Q5 prog w) _ (Rq (.ref i2) >>= _) _ _ _;refine Qx (N' _ _ _ (λc o n m k e=>s3.extBut _ _ m (s2.extBut _ _ k (s1.extBut c o n e))) λg4 e s4 he=>?_);obtain⟨oe,he,hc⟩:=he;have z4:Xh g4 z TI TO .ellipsis:=s4 _ _ D.a4.symm (s3.extBut _ _ D.a2.symm (s2.extBut _ _ D.a3.symm z1));have ne:e≠z:=λq=>by subst q;rw[z4] at he;cases he;simp at hc
  refine Um z4 (by simp) λg5 _ s5=>g g5 e (λc o n q=>?_) ⟨oe,s5.extBut _ _ ne he,hc⟩
  simp only[QR,RG,or_false,not_or] at n;exact s5.extBut _ _ n.1 (s4 _ _ n.2.2.2 (s3.extBut _ _ n.2.1 (s2.extBut _ _ n.2.2.1 (s1.extBut _ _ n.1 q))))
end
theorem qE{X:Cx}{pins:List (Addr×Sv)}{σ:L2.St}{H:Hp}{s:QD}{h':QN}{t':Nat}{fp:List Addr}{p:Addr}{v:HO}(I:Inv X pins σ H s)
  (k:∀b o,b∉fp->s.heap.get? b=some o->h'.get? b=some o) (hf:∀b∈fp,ki X pins H b) (hp:s.heap.objs.size≤p) (new:ObjOk X.prog X.w (upd H p v) h' p v) :
  Inv X pins σ (upd H p v) { s with heap:=h',toks:=t'}:=by
 have off:∀b u,H b=some u->b∉fp:=λb u e z=>by rw[(hf b z).1] at e;cases e
 have hn:H p=none:=I.hok.fresh hp;have old:∀b u,H b=some u->upd H p v b=some u:=λb u e=>by rw[aJ (aX e hn)];exact e
 refine I.step (g':=s.gens) (d':=s.drawn) (ch:=fp) (λb hb=>?_) (λb o _ _ hc e _=>k b o hc e) (λb o _ _ hc e _=>⟨o.slots,k b o hc e⟩) (λb o _ e n=>?_)
  (λb o hc e=>⟨o,k b o hc e⟩) (λb xs e=>old b _ e) (λb o u e=>old b _ e) (λb ps e=>⟨#[],by rw[old b _ e];simp⟩) (λm hm=>?_) (λb u e=>?_) I.bare
 ·obtain⟨_,f1,_,f3,f4,f5⟩:=hf b hb;exact⟨f3,f1,f4,f5⟩
 ·rw[aJ (RQ (Rc (QY e) hp))];exact n
 ·obtain⟨o,es,ep,ho,r⟩:=hm;exact⟨o,es,ep,k _ o (λz=>(hf _ z).2.1 Z) ho,r⟩
 ·by_cases hb:b=p
  ·subst hb;rw[ao] at e;cases e;exact new
  ·rw[aJ hb] at e;refine(I.hok b u e).stay (λc v hc q=>k c v ?_ q) (λc q=>old c _ q) λc xs q=>old c _ q
   rcases hc with z|z
   ·rw[z];exact off b u e
   ·exact off c _ z
theorem ku{X:Cx}{pins:List (Addr×Sv)}{σ:L2.St}{H:Hp}{s:QD}{a b:Addr}{xs:List V}(I:Inv X pins σ H s)(h:bz X.K H a xs)(f:ki X pins H b):a≠b:=λz=>by
 subst z;rcases h with(h | ⟨o,h⟩) | ⟨o,its,n,hk,_⟩
 ·rw[f.1] at h;cases h
 ·rw[f.1] at h;cases h
 ·have e:=I.ok.mod.kin a o hk;rcases f.2.2.2.1 with z|z
  ·exact I.ok.noex a o e z
  ·rw[(I.ok.bs a o e).1] at z;cases z
def NF(K:Qu)(a b:Addr):It:=
 ⟨λi H=>∃xs ys x y,bz K H a xs/\bz K H b ys/\xs[i]?=some x/\ys[i]?=some y,
  λi H v H'=>∃p x y,H p=none/\v=.ref p/\H'=upd H p (.tup [x,y])/\(∀xs,bz K H a xs->xs[i]?=some x)/\∀ys,bz K H b ys->ys[i]?=some y,
  λi H=>∃xs ys,bz K H a xs/\bz K H b ys/\(xs.length≤i∨ys.length≤i)⟩
def PP(z TI TO i1 i2 a b:Addr)(i:Nat)(h:QN):Prop:=Xh h z TI TO .none/\U8 h TI (.ref i1) (.ref i2)/\(∃u v,U8 h TO u v)/\h.IsTupleIter i1 a i/\h.IsTupleIter i2 b i
theorem cm{h h':QN}(x:h.IsTupleIter i a n)(k:∀o,h.get? i=some o->h'.get? i=some o):h'.IsTupleIter i a n:=let ⟨o,e,r⟩:=x;⟨o,k o e,r⟩
theorem jP{h h':QN}(x:h.IsTuple a ys)(k:∀o,h.get? a=some o->h'.get? a=some o):h'.IsTuple a ys:=let ⟨o,e,r⟩:=x;⟨o,k o e,r⟩
theorem hZ{h:QN}(x:h.IsTupleIter i a n):i<h.objs.size:=let ⟨_,e,_⟩:=x;QY e
theorem zM{P:Rp}{w:RF}{K:Qu}{elts:List Ry}{x1}{pos:UE}{z TI TO i1 i2 a b:Addr}(D:FO z TI TO i1 i2) :
  uI P w K (.Tuple elts x1 pos) (NF K a b) [z,TI,TO,i1,i2] z (PP z TI TO i1 i2 a b) where
 mem:=by simp
 obj:=λi h st c hc=>by
  obtain⟨h1,h2,⟨u,v,h3⟩,⟨o4,h4,c4,d4⟩,⟨o5,h5,c5,d5⟩⟩:=st;simp only[QR,RG,or_false] at hc;rcases hc with rfl|rfl|rfl|rfl|rfl
  ·exact⟨_,h1,λv q=>by cases(show WK _=Wr v from q)⟩
  ·exact⟨_,h2,λv q=>by cases(show aaN _ _=Wr v from q)⟩
  ·exact⟨_,h3,λv q=>by cases(show aaN _ _=Wr v from q)⟩
  ·exact⟨o4,h4,λv q=>by rw[d4] at q;cases q⟩
  ·exact⟨o5,h5,λv q=>by rw[d5] at q;cases q⟩
 keep:=λi h h' st k=>by
  obtain⟨h1,h2,⟨u,v,h3⟩,h4,h5⟩:=st;exact⟨k z (by simp) _ h1,k TI (by simp) _ h2,⟨u,v,k TO (by simp) _ h3⟩,cm h4 λo e=>k i1 (by simp) o e,cm h5 λo e=>k i2 (by simp) o e⟩
 item:=by
  intro X hP hw hK hc i pins s σ H E I hf st hg;subst hP hw hK;obtain⟨xs,ys,x,y,q1,q2,hx,hy⟩:=hg;obtain⟨its,rv,p1,z1⟩:=I.tuple q1;obtain⟨jts,rw',p2,z2⟩:=I.tuple q2;obtain⟨u,hu,ru⟩:=rv.get hx;obtain⟨v,hv,rv2⟩:=rw'.get hy;have off1:∀c∈[z,TI,TO,i1,i2],a≠c:=λc hc=>ku I q1 (hf c hc)
  have off2:∀c∈[z,TI,TO,i1,i2],b≠c:=λc hc=>ku I q2 (hf c hc)
  obtain⟨h1,h2,⟨o1,o2,h3⟩,h4,h5⟩:=st;have hT:s.TypeIs (.ref z) "zip" := ⟨_,h1,Z⟩;unfold Z6;refine Qx (W5 (SD (name:=TH "__next__") hT F.slot_zip_next (Tf F.slot_zip_next hT F.entry_zip_next ?_ (F.args_zip_next_1 _))))
  refine zI (x:=u) (y:=v) (A1:=λh=>h.IsTupleIter i1 a (i+1)) (A2:=λh=>h.IsTupleIter i2 b (i+1)) D h1 h2 h3 ?_ ?_ (hZ h4) (hZ h5) ?_
  ·intro s' G E' k g;exact m7 (cm h4 λo e=>k _ o D.a3 e) (jP (show s.heap.IsTuple a its.toArray from p1) λo e=>k _ o (off1 z (by simp)) e) (by simpa using hu) g
  ·intro s' G E' k g;exact m7 (cm h5 λo e=>k _ o D.a4 (Tt D.a9) (Tt D.b1) e) (jP (show s.heap.IsTuple b jts.toArray from p2) λo e=>k _ o (off2 z (by simp)) (off2 TO (by simp)) (off2 i1 (by simp)) e) (by simpa using hv) g
  ·intro g1 g2 h' a1 a2 k1 k2 zz po pn sz kk;refine wpAny_pure ⟨_,Z,?_⟩;refine wpAny_letOwnedTupleGo_zip zz λh'' z3 sb=>?_
   have nz:s.heap.objs.size≠z:=Ud (QY h1);have hp:H s.heap.objs.size=none:=I.fresh;have P:ObjOk X.prog X.w (upd H s.heap.objs.size (.tup [x,y])) h'' s.heap.objs.size (.tup [x,y]):=
    ⟨by show 2≤sizeLine;decide,[u,v],.cons ru (.cons rv2 .nil),⟨_,sb.extBut _ _ nz pn,Z,_,Z⟩⟩
   have I2:Inv X pins σ (upd H s.heap.objs.size (.tup [x,y])) { s with heap:=h'',toks:=s.toks}:=qE I (λc o n e=>by
    have n':c∉[z,TO,i1,i2]:=λq=>n (by
     simp only[QR,RG,or_false] at q ⊢;rcases q with q|q|q|q<;>simp[q])
    exact sb.extBut _ _ (λq=>n (by simp[q])) (kk c o n' e)) hf (QB _) P
   refine⟨.ref s.heap.objs.size,_,I2,Z,⟨_,x,y,hp,Z,Z,λzs hz=>by rw[I.tuple_inj hz q1];exact hx,λzs hz=>by rw[I.tuple_inj hz q2];exact hy⟩,⟨z3,?_,⟨u,v,?_⟩,?_,?_⟩,λc hc=>?_⟩
   ·refine sb.extBut _ _ D.a1 (kk TI _ ?_ h2);have:=D.a1;have:=D.a5;have:=D.a6;have:=D.a7;simp only[QR,RG,or_false,not_or];exact⟨D.a1,D.a5,D.a6,D.a7⟩
   ·exact sb.extBut _ _ D.a2 po
   ·exact cm a1 λo e=>sb.extBut _ _ D.a3 (k1 _ o D.a3 (Tt D.a8) D.b1 e)
   ·exact cm a2 λo e=>sb.extBut _ _ D.a4 (k2 _ o D.a4 (Tt D.a9) e)
   ·have lt:c<s.heap.objs.size:=by
     simp only[QR,RG,or_false] at hc;rcases hc with rfl|rfl|rfl|rfl|rfl
     ·exact QY h1
     ·exact QY h2
     ·exact QY h3
     ·exact hZ h4
     ·exact hZ h5
    rw[aJ (RQ lt)];exact(hf c hc).1
 done:=by
  intro X hP hw hK hc i pins s σ H E I hf st hg;subst hP hw hK;obtain⟨xs,ys,q1,q2,hd⟩:=hg;obtain⟨its,rv,p1,z1⟩:=I.tuple q1;obtain⟨jts,rw',p2,z2⟩:=I.tuple q2;have l1:=rv.length;have l2:=rw'.length;have off1:∀c∈[z,TI,TO,i1,i2],a≠c:=λc hc=>ku I q1 (hf c hc)
  have off2:∀c∈[z,TI,TO,i1,i2],b≠c:=λc hc=>ku I q2 (hf c hc)
  obtain⟨h1,h2,⟨o1,o2,h3⟩,h4,h5⟩:=st;have hT:s.TypeIs (.ref z) "zip" := ⟨_,h1,Z⟩;have hh:X.A.in1.handled=none:=I.ok.hd hc;unfold Z6;refine Qx (W5 (SD (name:=TH "__next__") hT F.slot_zip_next (Tf F.slot_zip_next hT F.entry_zip_next ?_ (F.args_zip_next_1 _))))
  refine zH D h1 h2 h3 ?_ λh' e kk he=>?_
  ·cases e:its.toArray[i]? with
   |none=>
    refine .inl λs' G E' k g=>?_
    exact rN hh (cm h4 λo e=>k _ o D.a3 e) (jP (show s.heap.IsTuple a its.toArray from p1) λo e=>k _ o (off1 z (by simp)) e) e g
   |some u=>
    refine .inr ⟨⟨u,λs' G E' k g=>?_⟩,λs' G E' k g=>?_⟩
    ·exact m7 (cm h4 λo e=>k _ o D.a3 e) (jP (show s.heap.IsTuple a its.toArray from p1) λo e=>k _ o (off1 z (by simp)) e) e λh' _ sb=>g h' sb
    ·have hi:i<its.length:=by
      have:=(Tl.mp e).1
      simpa using this
     exact rN hh (cm h5 λo e=>k _ o D.a4 (Tt D.a9) (Tt D.b1) e) (jP (show s.heap.IsTuple b jts.toArray from p2) λo e=>k _ o (off2 z (by simp)) (off2 TO (by simp)) (off2 i1 (by simp)) e)
      (by rw[WE];simp;omega) g
  ·obtain⟨o,ho,hc'⟩:=he;refine Qx (Xi (T := "StopIteration") (b:=true) ⟨o,ho,hc'⟩ isSubtype_stop ?_);refine wpAny_pure ⟨Z,?_⟩;exact qF (t':=s.toks) I (λc o n e=>kk c o (λq=>n (by
     simp only[QR,RG,or_false] at q ⊢;rcases q with q|q|q|q<;>simp[q])) e) hf
 self:=λ_ _ _ _ _ st h=>ZD st.1 h
abbrev zA(h:QN)(a:Addr):QN:=h.push { cls:=.type "tuple_iterator",data:=.fields #[.ref a,.int 0 0]}
abbrev zB(h:QN)(a b:Addr):QN:=zA (zA h a) b
abbrev zC(h:QN)(a b:Addr):QN:=(zB h a b).push { cls:=.type "tuple",data:=.seq #[.ref h.objs.size,.ref (zA h a).objs.size]}
abbrev zD(h:QN)(a b:Addr):QN:=(zC h a b).push { cls:=.type "tuple",data:=.seq #[.none,.none]}
abbrev zE(h:QN)(a b:Addr):QN:=(zD h a b).push { cls:=.type "zip",data:=.fields #[.none,.bool false,.bool false,.ref (zB h a b).objs.size,.ref (zC h a b).objs.size]}
theorem DL(a b:Addr)(xs ys:Array Value):Meets (Rb.«zip.__new__» ⟨[.type "zip",.ref a,.ref b],[]⟩) (λ_ R s=>s.heap.IsTuple a xs/\s.heap.IsTuple b ys∧
  R (.ok (.ret (.ref (zD s.heap a b).objs.size))) { s with heap:=zE s.heap a b}):=
 .of_wp λprog w A R s h=>by
  obtain⟨hp,g,d,tk,os⟩:=s;obtain⟨l1,l2,h⟩:=h;have zsub:=sub_zip;have L1:XQ (ZR ⟨hp,g,d,tk,os⟩) a xs:=l1;have L2:XQ (ZR ⟨hp.push { cls:=.type "tuple_iterator",data:=.fields #[.ref a,.int 0 0]},g,d,tk,os⟩) b ys:=XQ.push l2 _
  wp_walk using Tw L1,Tw L2
  exact⟨_,Z,h⟩
theorem C5(n:Nat):FO (n+4) (n+2) (n+3) n (n+1):=by constructor<;>(intro q;have:(_:Nat)=_:=q;omega)
def LJ(K:Qu)(ta:TA):TI:=λσ H R=>ta σ H λvs H1=>∃a b,vs=[.ref a,.ref b]/\(∃xs,bz K H1 a xs)/\(∃ys,bz K H1 b ys)/\R (NF K a b) H1
theorem Ij{X:Cx}{elts:List Ry}{x1}{tp p pos:UE}{a b:Ry}{ta:TA}(hg:Gl X "zip")(hm:X.mg "zip"=none)(ha:PA X [a,b] ta)(hs:QV [a,b] X.env=[(false,eval a X.env),(false,eval b X.env)]:=by rfl)(hs2:QV [b] X.env=[(false,eval b X.env)]:=by rfl) :
  PI X (.Tuple elts x1 tp) (.Call (.Name "zip" p) [a,b] [] pos) (LJ X.K ta):=by
 intro pins s σ H R I h;refine Call_ (ik I hg hm (show SX "zip"=some (.type "zip") by kernel_rfl) (Sc (cL (ha pos pins s σ H _ I h) λus s1 ⟨vs,H1,I1,r1,q1⟩=>?_) (by rw[hs,hs2]) (by rw[hs2];rfl)));obtain⟨a,b,e,⟨xs,hx⟩,⟨ys,hy⟩,q⟩:=q1;subst e;obtain⟨u,v,rfl,ru,rv⟩:=pK r1
 cases ru;cases rv
 obtain⟨its,_,p1,_⟩:=I1.tuple hx;obtain⟨jts,_,p2,_⟩:=I1.tuple hy;refine Ze F.called_zip δ (F.typeCall_zip_2 _ _) (F.newCall_zip_2 _ _) (λobj=>F.args_object_init_3 obj _ _) F.entry_zip_new (DL a b its.toArray jts.toArray) ⟨p1,p2,?_⟩;have e1:(zA s1.heap a).objs.size=s1.heap.objs.size+1:=SV ..;have e2:(zB s1.heap a b).objs.size=s1.heap.objs.size+2:=by rw[SV,e1]
 have e3:(zC s1.heap a b).objs.size=s1.heap.objs.size+3:=by rw[SV,e2]
 have e4:(zD s1.heap a b).objs.size=s1.heap.objs.size+4:=by rw[SV,e3]
 have g5:(zE s1.heap a b).get? (zD s1.heap a b).objs.size=some _:=QZ _ Z;have g4:(zE s1.heap a b).get? (zC s1.heap a b).objs.size=some _:=Qy _ (QZ _ Z);have g3:(zE s1.heap a b).get? (zB s1.heap a b).objs.size=some _:=Qy _ (Qy _ (QZ _ Z));have g2:(zE s1.heap a b).get? (zA s1.heap a).objs.size=some _:=Qy _ (Qy _ (Qy _ (QZ _ Z)));have g1:(zE s1.heap a b).get? s1.heap.objs.size=some _:=Qy _ (Qy _ (Qy _ (Qy _ (QZ _ Z))));have kk:∀c o,s1.heap.get? c=some o->(zE s1.heap a b).get? c=some o:=λc o x=>Qy _ (Qy _ (Qy _ (Qy _ (Qy _ x))))
 show _/\_;rw[e2,e3,e4] at g5;rw[e1,e2] at g3;rw[e3] at g4;rw[e1] at g2;rw[e4];generalize zE s1.heap a b=hE at g1 g2 g3 g4 g5 kk;refine⟨⟨_,g5,Z⟩,ZD g5 ?_⟩;have I2:Inv X pins σ H1 { s1 with heap:=hE}:=I1.kept (t':=s1.toks) kk;refine⟨_,_,_,_,H1,rfl,I2,zM (C5 s1.heap.objs.size),⟨g5,g3,⟨_,_,g4⟩,⟨_,g1,rfl,rfl⟩,⟨_,g2,rfl,rfl⟩⟩,λc hc=>?_,q⟩;have le:s1.heap.objs.size≤c:=by
  simp only[QR,RG,or_false] at hc;rcases hc with h|h|h|h|h<;>(rw[h];first|exact QB _|exact Nat.le_add_right _ _)
 exact I1.fpOk le (I1.hok.fresh le)
theorem yT(hh:A.handled=none)(it a:Addr)(ne:a≠it)(items:Array Value):
  Draws prog w A it [it,a] items.size (λi v=>items[i]?=some v) (λi h=>h.IsTupleIter it a i/\h.IsTuple a items) where
 live:=λ_ _ st=>let ⟨o,ho,_⟩:=st.1;⟨o,ho⟩
 frame:=λ_ _ _ st hk=>⟨cm st.1 λo e=>hk it (by simp) o e,jP st.2 λo e=>hk a (by simp) o e⟩
 item:=λi s Q E hi st hQ=>by
  have hx:items[i]?=some (items[i]'hi):=Array.getElem?_eq_getElem hi;exact m7 st.1 st.2 hx λh' i' sb=>hQ _ h' s.toks hx ⟨i',jP st.2 λo e=>sb.extBut _ _ ne e⟩ sb
 done:=λs Q E st hE=>rN hh st.1 st.2 (by simp) hE
theorem yQ(a:Addr)(xs:Array Value):Meets (Rb.«enumerate.__new__» ⟨[.type "enumerate",.ref a],[]⟩) (λ_ R s=>s.heap.IsTuple a xs∧
   R (.ok (.ret (.ref (zA s.heap a).objs.size))) { s with heap:=(zA s.heap a).push { cls:=.type "enumerate",data:=.fields #[.none,.bool false,.ref s.heap.objs.size,rawInt 0,.none,.none]} }):=
 .of_wp λprog w A R s h=>by
  obtain⟨hp,g,d,tk,os⟩:=s;obtain⟨hl,h⟩:=h;obtain⟨⟨c,dct,dt,sl⟩,ho,hc,n,hd⟩:=id hl
  replace hc:c=.type "tuple" := hc
  replace hd:dt=.seq xs n:=hd
  subst hc hd;have hsub:=sub_enumerate;have L:XQ (ZR ⟨hp,g,d,tk,os⟩) a xs:=hl
  wp_walk using Uw ho
  refine wpAny_stack_any λst=>wpAny_pure ?_
  split
  ·rename_i c _ _ _ _ _
   cases(c==Vv "enumerate")
   ·wp_walk using Uw ho,Tw L
    exact⟨_,Z,h⟩
   ·wp_walk using Uw ho,Tw L
    exact⟨_,Z,h⟩
  ·wp_walk using Uw ho,Tw L
   exact⟨_,Z,h⟩
theorem v4(hL:s.heap.IsTuple a items)
  (h:∀h',IsEnum h' (s.heap.objs.size+1) s.heap.objs.size 0 .none->h'.IsTupleIter s.heap.objs.size a 0->h'.objs.size=s.heap.objs.size+2→ (∀b o,s.heap.get? b=some o->h'.get? b=some o)->Q (.ref (s.heap.objs.size+1)) { s with heap:=h'}):
  Q0 (Q5 prog w) A (call (.type "enumerate") [.ref a]) Q E s:=by
 refine Ze F.called_enumerate δ (F.typeCall_enumerate_1 _) (F.newCall_enumerate_1 _) (λobj=>F.args_object_init_2 obj _) F.entry_enumerate_new
  (yQ a items) ⟨hL,?_⟩
 have hz:(zA s.heap a).objs.size=s.heap.objs.size+1:=SV ..;show _/\_;rw[hz];have he:IsEnum ((zA s.heap a).push { cls:=.type "enumerate",data:=.fields #[.none,.bool false,.ref s.heap.objs.size,rawInt 0,.none,.none]}) (s.heap.objs.size+1) s.heap.objs.size 0 .none:=by
  have:=QZ (zA s.heap a) (o:={ cls:=.type "enumerate",data:=.fields #[.none,.bool false,.ref s.heap.objs.size,rawInt 0,.none,.none]}) Z;rw[hz] at this;exact this
 refine⟨⟨_,he,Z⟩,h _ he ⟨_,Qy _ (QZ _ Z),Z,Z⟩ (by rw[SV,hz]) λb o x=>Qy _ (Qy _ x)⟩
theorem DS{X:Cx}{pins:List (Addr×Sv)}{σ:L2.St}{H:Hp}{s:QD}{a b:Addr}{xs:List V}(I:Inv X pins σ H s)(h:aZ X.K H a xs)(f:ki X pins H b):a≠b:=λz=>by
 subst z;rcases h with(h | ⟨o,h⟩) | ⟨o,its,n,hk,_⟩
 ·rw[f.1] at h;cases h
 ·rw[f.1] at h;cases h
 ·have e:=I.ok.mod.kin a o hk;rcases f.2.2.2.1 with z|z
  ·exact I.ok.noex a o e z
  ·rw[(I.ok.bs a o e).1] at z;cases z
theorem vR{h h':QN}(x:h.IsListIter i a n)(k:∀o,h.get? i=some o->h'.get? i=some o):h'.IsListIter i a n:=x.at k
structure NN(K:Qu)(sq:Hp->Addr->List V->Prop)(tn:QN->Addr->Addr->Nat->Prop)(st:QN->Addr->Array Value->Prop):Prop where
 ob:∀{h i a n},tn h i a n->∃o,h.get? i=some o/\∀v,o.data≠.cell v
 at_:∀{h h' i a n},tn h i a n->(∀o,h.get? i=some o->h'.get? i=some o)->tn h' i a n
 off:∀{X:Cx} {pins:List (Addr×Sv)} {σ:L2.St} {H:Hp} {s:QD} {a b:Addr} {xs:List V},X.K=K->Inv X pins σ H s->sq H a xs->ki X pins H b->a≠b
 rd:∀{X:Cx} {pins:List (Addr×Sv)} {σ:L2.St} {H:Hp} {s:QD} {a:Addr} {xs:List V},X.K=K->Inv X pins σ H s->sq H a xs->(∀ys,sq H a ys->ys=xs)/\∃its:List Value,bu xs its/\st s.heap a its.toArray
 dr:∀{prog:Rp} {w:RF} {A:Rw},A.handled=none->∀it a:Addr,a≠it->∀items:Array Value,Draws prog w A it [it,a] items.size (λi v=>items[i]?=some v) (λi h=>tn h it a i/\st h a items)
 en:∀{prog:Rp} {w:RF} {A:Rw} {s:QD} {it a:Addr} {i:Nat} {items:Array Value} {Q E:Value->QD->Prop},A.handled=none->tn s.heap it a i->st s.heap a items->items[i]?=none→
  (∀h' e,X8 it s.heap h'->(∃o,h'.get? e=some o/\o.cls=.type "StopIteration")->E (.ref e) { s with heap:=h'})->Q0 (Q5 prog w) A (Rq (.ref it)) Q E s
theorem Nm(K:Qu):NN K (bz K) (λh i a n=>h.IsTupleIter i a n) (λh a xs=>h.IsTuple a xs) where
 ob:=λ⟨o,h,_,d⟩=>⟨o,h,λv q=>by rw[d] at q;cases q⟩
 at_:=cm
 off:=λe I h f=>ku I (e▸h) f
 rd:=λe I h=>by subst e;exact⟨λys h'=>I.tuple_inj h' h,let ⟨its,rv,p,_⟩:=I.tuple h;⟨its,rv,p⟩⟩
 dr:=yT
 en:=rN
theorem Nn(K:Qu):NN K (aZ K) (λh i a n=>h.IsListIter i a n) (λh a xs=>h.IsList a xs) where
 ob:=λ⟨o,h,_,d⟩=>⟨o,h,λv q=>by rw[d] at q;cases q⟩
 at_:=vR
 off:=λe I h f=>DS I (e▸h) f
 rd:=λe I h=>by subst e;exact⟨λys h'=>I.list_inj h' h,let ⟨its,rv,p,_⟩:=I.list h;⟨its,rv,p.isList⟩⟩
 dr:=Draws.list
 en:=wpAny_nextOf_list_end
def J7(sq:Hp->Addr->List V->Prop)(a:Addr):It:=
 ⟨λi H=>∃xs x,sq H a xs/\xs[i]?=some x,
  λi H v H'=>∃p x,H p=none/\v=.ref p/\H'=upd H p (.tup [.int i,x])/\∀xs,sq H a xs->xs[i]?=some x,
  λi H=>∃xs,sq H a xs/\xs.length≤i⟩
abbrev DB(K:Qu)(a:Addr):It:=J7 (bz K) a
abbrev DC(K:Qu)(a:Addr):It:=J7 (aZ K) a
theorem sV{P:Rp}{w:RF}{K:Qu}{sq:Hp->Addr->List V->Prop}{tn:QN->Addr->Addr->Nat->Prop}{st_:QN->Addr->Array Value->Prop}(G:NN K sq tn st_){elts:List Ry}{x1}{pos:UE}{e it a:Addr}(hei:e≠it) :
  uI P w K (.Tuple elts x1 pos) (J7 sq a) [e,it] e (λi h=>(∃old,IsEnum h e it (i:Nat) old)/\tn h it a i) where
 mem:=by simp
 obj:=λi h st c hc=>by
  obtain⟨⟨old,h1⟩,h2⟩:=st;obtain⟨o2,h2,d2⟩:=G.ob h2;simp only[QR,RG,or_false] at hc;rcases hc with rfl|rfl
  ·exact⟨_,h1,λv q=>by cases(show WK _=Wr v from q)⟩
  ·exact⟨o2,h2,d2⟩
 keep:=λi h h' st k=>by
  obtain⟨⟨old,h1⟩,h2⟩:=st;exact⟨⟨old,k e (by simp) _ h1⟩,G.at_ h2 λo q=>k it (by simp) o q⟩
 item:=by
  intro X hP hw hK hc i pins s σ H E I hf st hg;subst hP hw;obtain⟨xs,x,q1,hx⟩:=hg;obtain⟨uq,its,rv,p1⟩:=G.rd hK I q1;obtain⟨u,hu,ru⟩:=rv.get hx;have off:∀c∈[e,it],a≠c:=λc hc=>G.off hK I q1 (hf c hc)
  obtain⟨⟨old,h1⟩,h2⟩:=st;have hh:X.A.in1.handled=none:=I.ok.hd hc;have na:a≠it:=off it (by simp);have ne:e∉[it,a]:=λq=>by
   simp only[QR,RG,or_false] at q;rcases q with q|q
   ·exact hei q
   ·exact off e (by simp) q.symm
  have hi:i<its.toArray.size:=by have:=(QM.mp hu).1;simpa using this
  have el:e<s.heap.objs.size:=QY h1;have il:it<s.heap.objs.size:=by obtain⟨o2,q2,_⟩:=G.ob h2;exact QY q2
  refine wpAny_pyNext_enum_itemD (G.dr hh it a na its.toArray) h1 ⟨h2,p1⟩ hi hei ne λv h' tk hv eo st' tup hz hk=>⟨_,Z,wpAny_letOwnedTupleGo_enum eo λh'' e2 sb=>?_⟩
  have ev:v=u:=by
   have:its.toArray[i]?=some u:=by simpa using hu
   rw[this] at hv;exact(R0 hv).symm
  subst ev;have nt:s.heap.objs.size≠e:=Ud el;have ni:s.heap.objs.size≠it:=Ud il;have P:ObjOk X.prog X.w (upd H s.heap.objs.size (.tup [.int i,x])) h'' s.heap.objs.size (.tup [.int i,x]):=
   ⟨by show 2≤sizeLine;decide,[.int i tk,v],.cons ⟨_,Z⟩ (.cons ru .nil),⟨_,sb.extBut _ _ nt tup,Z,_,Z⟩⟩
  have I2:Inv X pins σ (upd H s.heap.objs.size (.tup [.int i,x])) { s with heap:=h'',toks:=tk+1}:=qE I (λc o' n q=>by
   have n1:c≠e:=λr=>n (by simp[r])
   have n2:c≠it:=λr=>n (by simp[r])
   exact sb.extBut _ _ n1 (hk c o' n1 n2 q)) hf (QB _) P
  refine⟨.ref s.heap.objs.size,_,I2,Z,⟨_,x,I.fresh,Z,Z,λys hy=>by rw[uq ys hy];exact hx⟩,⟨⟨_,by simpa using e2⟩,G.at_ st'.1 λo q=>sb.extBut _ _ hei.symm q⟩,λc hc=>?_⟩;have lt:c<s.heap.objs.size:=by
   simp only[QR,RG,or_false] at hc;rcases hc with rfl|rfl
   ·exact el
   ·exact il
  rw[aJ (RQ lt)];exact(hf c hc).1
 done:=by
  intro X hP hw hK hc i pins s σ H E I hf st hg;subst hP hw;obtain⟨xs,q1,hx⟩:=hg;obtain⟨uq,its,rv,p1⟩:=G.rd hK I q1;have off:∀c∈[e,it],a≠c:=λc hc=>G.off hK I q1 (hf c hc)
  obtain⟨⟨old,h1⟩,h2⟩:=st;have hh:X.A.in1.handled=none:=I.ok.hd hc;have hl:=rv.length;have nn:its.toArray[i]?=none:=by rw[WE];simp;omega
  have hT:s.TypeIs (.ref e) "enumerate" := ⟨_,h1,Z⟩;unfold Z6;refine Qx (W5 (SD (name:=TH "__next__") hT F.slot_enumerate_next (Tf F.slot_enumerate_next hT F.entry_enumerate_next ?_ (F.args_enumerate_next_1 _))))
  show Q0 _ _ (ZP (.ref e) 2 >>= _) _ _ _;refine Qx (R9 h1 Z (x:=.ref it) Z ?_);refine Qx (G.en hh h2 p1 nn λh' x he' hx'=>?_);obtain⟨o,ho,hcl⟩:=hx';refine Qx (Xi (T := "StopIteration") (b:=true) ⟨o,ho,hcl⟩ isSubtype_stop ?_);refine wpAny_pure ⟨Z,?_⟩;exact qF (t':=s.toks) I (λc o' n q=>he' c o' (λr=>n (by simp[r])) q) hf
 self:=λA i s Q E st h=>by
  obtain⟨⟨old,h1⟩,_⟩:=st;exact WR h1 h
def LL(K:Qu)(ta:TA):TI:=λσ H R=>ta σ H λvs H1=>∃a,vs=[.ref a]/\(∃xs,bz K H1 a xs)/\R (DB K a) H1
theorem EB{X:Cx}{elts:List Ry}{x1}{tp p pos:UE}{a:Ry}{ta:TA}(hg:Gl X "enumerate")(hm:X.mg "enumerate"=none)(ha:PA X [a] ta)(hs:QV [a] X.env=[(false,eval a X.env)]:=by rfl) :
  PI X (.Tuple elts x1 tp) (.Call (.Name "enumerate" p) [a] [] pos) (LL X.K ta):=by
 intro pins s σ H R I h;refine Call_ (ik I hg hm (show SX "enumerate"=some (.type "enumerate") by kernel_rfl) (Sc (cL (ha pos pins s σ H _ I h) λus s1 ⟨vs,H1,I1,r1,q1⟩=>?_) hs Z));obtain⟨a,e,⟨xs,hx⟩,q⟩:=q1;subst e;obtain⟨u,rfl,ru⟩:=r1.one
 cases ru
 obtain⟨its,_,p1,_⟩:=I1.tuple hx;refine v4 p1 λh' he hi sz kk=>WR he ?_
 have I2:Inv X pins σ H1 { s1 with heap:=h'}:=I1.kept (t':=s1.toks) kk;refine⟨_,[s1.heap.objs.size+1,s1.heap.objs.size],_,_,H1,rfl,I2,sV (Nm _) (a:=a) (ZE _),⟨⟨_,he⟩,hi⟩,λc hc=>?_,q⟩;have le:s1.heap.objs.size≤c:=by
  simp only[QR,RG,or_false] at hc;rcases hc with h|h
  ·rw[h];exact Ui _
  ·rw[h];exact QB _
 exact I1.fpOk le (I1.hok.fresh le)
theorem fZ{K:Qu}{a:Addr}{xs:List V}{g:TG}{tb:TS}{D:iE}{σ:L2.St}{H:Hp}(Pv:Nat->L2.St->Hp->Prop)(h0:Pv 0 σ H)
  (hl:∀i σ H,i≤xs.length->Pv i σ H->bz K H a xs)
  (hs:∀i x p σ H,xs[i]?=some x->Pv i σ H->H p=none->g (.ref p) σ (upd H p (.tup [.int i,x])) λσ2 H2=>tb { D with nx:=Pv (i+1),ct:=Pv (i+1),bk:=D.nx} σ2 H2) (hd:∀σ H,Pv xs.length σ H->D.nx σ H) :
  ∃W:Nat->Nat->L2.St->Hp->Prop,(∃m,W 0 m σ H)/\∀i m σ H,W i m σ H→
   ((DB K a).stop i H/\D.nx σ H)∨((DB K a).go i H/\∃N:L2.St->Hp->Prop,(∀σ' H',N σ' H'->∃m',m'<m/\W (i+1) m' σ' H')/\∀x H',(DB K a).yld i H x H'->g x σ H' λσ2 H2=>tb { D with nx:=N,ct:=N,bk:=D.nx} σ2 H2):=by
 refine⟨λi m σ H=>m=xs.length-i/\i≤xs.length/\Pv i σ H,⟨_,Z,Re _,h0⟩,?_⟩;rintro i m σ H ⟨rfl,hi,p⟩;have q:=hl i σ H hi p;by_cases hlt:i<xs.length
 ·refine .inr ⟨⟨xs,_,q,Qw hlt⟩,Pv (i+1),λσ' H' p'=>⟨xs.length-(i+1),ω,Z,hlt,p'⟩,λx H' y=>?_⟩;obtain⟨pp,v,hp,rfl,rfl,hv⟩:=y;exact hs i v pp σ _ (hv xs q) p hp
 ·have e:i=xs.length:=ω
  subst e;exact .inl ⟨⟨xs,q,QB _⟩,hd σ H p⟩
def LM(K:Qu)(ta:TA):TI:=λσ H R=>ta σ H λvs H1=>∃a,vs=[.ref a]/\(∃xs,aZ K H1 a xs)/\R (DC K a) H1
theorem B3{X:Cx}{elts:List Ry}{x1}{tp p pos:UE}{a:Ry}{ta:TA}(hg:Gl X "enumerate")(hm:X.mg "enumerate"=none)(ha:PA X [a] ta)(hs:QV [a] X.env=[(false,eval a X.env)]:=by rfl) :
  PI X (.Tuple elts x1 tp) (.Call (.Name "enumerate" p) [a] [] pos) (LM X.K ta):=by
 intro pins s σ H R I h;refine Call_ (ik I hg hm (show SX "enumerate"=some (.type "enumerate") by kernel_rfl) (Sc (cL (ha pos pins s σ H _ I h) λus s1 ⟨vs,H1,I1,r1,q1⟩=>?_) hs Z));obtain⟨a,e,⟨xs,hx⟩,q⟩:=q1;subst e;obtain⟨u,rfl,ru⟩:=r1.one
 cases ru
 obtain⟨its,_,p1,_⟩:=I1.list hx;refine call_enumerate_list p1.isList λh' he hi sz kk=>WR he ?_
 have I2:Inv X pins σ H1 { s1 with heap:=h'}:=I1.kept (t':=s1.toks) kk;refine⟨_,[s1.heap.objs.size+1,s1.heap.objs.size],_,_,H1,rfl,I2,sV (Nn _) (a:=a) (ZE _),⟨⟨_,he⟩,hi⟩,λc hc=>?_,q⟩;have le:s1.heap.objs.size≤c:=by
  simp only[QR,RG,or_false] at hc;rcases hc with h|h
  ·rw[h];exact Ui _
  ·rw[h];exact QB _
 exact I1.fpOk le (I1.hok.fresh le)
theorem yP{K:Qu}{a:Addr}{xs:List V}{g:TG}{tb:TS}{D:iE}{σ:L2.St}{H:Hp}(Pv:Nat->L2.St->Hp->Prop)(h0:Pv 0 σ H)
  (hl:∀i σ H,i≤xs.length->Pv i σ H->aZ K H a xs)
  (hs:∀i x p σ H,xs[i]?=some x->Pv i σ H->H p=none->g (.ref p) σ (upd H p (.tup [.int i,x])) λσ2 H2=>tb { D with nx:=Pv (i+1),ct:=Pv (i+1),bk:=D.nx} σ2 H2) (hd:∀σ H,Pv xs.length σ H->D.nx σ H) :
  ∃W:Nat->Nat->L2.St->Hp->Prop,(∃m,W 0 m σ H)/\∀i m σ H,W i m σ H→
   ((DC K a).stop i H/\D.nx σ H)∨((DC K a).go i H/\∃N:L2.St->Hp->Prop,(∀σ' H',N σ' H'->∃m',m'<m/\W (i+1) m' σ' H')/\∀x H',(DC K a).yld i H x H'->g x σ H' λσ2 H2=>tb { D with nx:=N,ct:=N,bk:=D.nx} σ2 H2):=by
 refine⟨λi m σ H=>m=xs.length-i/\i≤xs.length/\Pv i σ H,⟨_,Z,Re _,h0⟩,?_⟩;rintro i m σ H ⟨rfl,hi,p⟩;have q:=hl i σ H hi p;by_cases hlt:i<xs.length
 ·refine .inr ⟨⟨xs,_,q,Qw hlt⟩,Pv (i+1),λσ' H' p'=>⟨xs.length-(i+1),ω,Z,hlt,p'⟩,λx H' y=>?_⟩;obtain⟨pp,v,hp,rfl,rfl,hv⟩:=y;exact hs i v pp σ _ (hv xs q) p hp
 ·have e:i=xs.length:=ω
  subst e;exact .inl ⟨⟨xs,q,QB _⟩,hd σ H p⟩
section
variable {prog:Rp}{w:RF}{A:Rw}{E:Value->QD->Prop}
end
def PB(K:Qu)(n:Nat)(t:zp):TG:=λv σ H Q=>∃a xs,v=.ref a/\aZ K H a xs/\xs.length=n/\t xs σ H Q
section
variable {prog:Rp}{w:RF}{A:Rw}{E:Value->QD->Prop}{s:QD}
open HT in
theorem sW{t sl:Addr}{items:Array Value}{vl vu:Value}{lo hi:Option Int}{Q:Value->QD->Prop}(ht:Ys s.heap t items)(hs:s.heap.IsSliceOf sl vl vu .none)(pl:XF vl lo)(pu:XF vu hi)
  (h1:sIx items.size 0 lo=0) (h2:sIx items.size items.size hi=items.size) (h:Q (.ref t) s):Q0 (Q5 prog w) A (Wi (.ref t) (.ref sl)) Q E s:=by
 obtain⟨os,hos,hcs,hds⟩:=id hs;have hTs:s.TypeIs (.ref sl) "slice" := ⟨os,hos,hcs⟩;unfold Wi
 try with_reducible refine wpAny_holding ?_
 first|refine Qx (wpAny_pure ?_)|skip
 refine Qx (Y4 ht.typeIs δ ?_);refine Qx (SD (name:=TH "__getitem__") ht.typeIs Sd (Tf Sd ht.typeIs Yl ?_ (YJ _ _)))
 show Q0 _ _ (Wz (.ref t) >>= _) _ _ s;refine Qx (tupleItemsOf_ ht ?_);refine Qx (XG hTs ?_);rw[if_pos δ];refine Qx (gJ hs pl pu ?_);have hyes:((((sIx items.size 0 lo:Nat):Int)==0&&(1:Int)==1&&(sIx items.size items.size hi-sIx items.size 0 lo)==items.size)=true):=by
  rw[h1,h2];simp
 show Q0 _ _ (if(((sIx items.size 0 lo:Nat):Int)==0&&(1:Int)==1&&(sIx items.size items.size hi-sIx items.size 0 lo)==items.size)=true then _ else _) _ _ s;rw[if_pos hyes];refine Qx ?_;unfold Rb.Tuple.tupleIsExact;refine Qx (XG ht.typeIs ?_);refine wpAny_pure ?_;rw[if_pos δ];exact Qx (VT (wpAny_pure ⟨_,Z,wpAny_pure h⟩))
end
def K0(K:Qu):V->Option Int->Option Int->Hp->VK->Prop:=λx lo hi H Q=>∃a xs,x=.ref a/\bz K H a xs/\HT.sIx xs.length 0 lo=0/\HT.sIx xs.length xs.length hi=xs.length/\Q (.ref a) H
theorem DZ:zw X (K0 X.K):=by
 intro pins s σ H x v vl vu lo hi sl Q I rx hs pl pu h;obtain⟨a,xs,rfl,hx,h1,h2,q⟩:=h
 cases rx
 obtain⟨its,r,ht,hz⟩:=I.tuple hx;have hlen:its.toArray.size=xs.length:=by rw[QX];exact r.length.symm
 refine⟨"tuple",_,Sd.lookup,ht.typeIs,?_⟩;exact sW ht hs pl pu (by rw[hlen];exact h1) (by rw[hlen];exact h2) ⟨.ref a,H,I,Z,q⟩
theorem D5:zw X (λx lo hi H Q=>K0 X.K x lo hi H Q∨K1 X.K x lo hi H Q):=zw.or DZ GK
end B
namespace B
theorem Jy(hb:0<b)(hd:0<d)(e:a*d=c*b):fj a b=fj c d:=by
 have hr:=jj (a:=c) hd;have hc:=pZ (a:=c) hd;generalize fj c d=m at hr hc ⊢;refine e9 hb hr.pos hr.cop ?_;refine U5 (show d≠0 by omega) ?_;have e1:m.1*b*d=m.1*d*b:=by ac_rfl
 have e2:a*m.2*d=a*d*m.2:=by ac_rfl
 rw[e1,hc,e2,e]
 ac_rfl
structure Bq(D N:Nat)(r:R):Prop where
 pos:0<r.2
 cop:Q1 r.1 r.2=1
 dvd:r.2∣(D:Int)
 le:r.1.natAbs≤N*r.2.natAbs
theorem Bq.red(h:Bq D N r):gG r:=⟨h.pos,h.cop⟩
theorem xF{D N:Nat}{a b:Int}(hb:0<b)(hd:b∣(D:Int))(hl:a.natAbs≤N*b.natAbs):Bq D N (fj a b):=by
 obtain⟨g,x,y,e0,gp,e1,e2,c⟩:=fO (a:=a) hb;have yp:=kd hb gp e2;have e:fj a b=(x,y):=by
  unfold fj;rw[e0,show a/g=x by rw[e1];exact Rj _ ω,show b/g=y by rw[e2];exact Rj _ ω]
 rw[e];refine⟨yp,c,W3 ⟨g,by rw[e2,Us]⟩ hd,?_⟩;rw[e1,e2,TR,TR] at hl;have gn:0<g.natAbs:=ω
 refine Nat.le_of_mul_le_mul_left (c:=g.natAbs) ?_ gn;show g.natAbs*x.natAbs≤g.natAbs*(N*y.natAbs);rw[Nat.mul_left_comm];exact hl
theorem Bq.mono(h:Bq D N r)(hd:D∣D')(hn:N≤N'):Bq D' N' r:=
 ⟨h.pos,h.cop,W3 h.dvd (Int.ofNat_dvd.mpr hd),Rm h.le (TU _ hn)⟩
theorem Bq.plus(hD:0<D)(h:Bq D N r)(k:Bq D M q):Bq D (N+M) (bQ r q):=by
 obtain⟨y,ey⟩:=h.dvd;obtain⟨v,ev⟩:=k.dvd;have dp:(0:Int)<(D:Int):=ω
 have e:bQ r q=fj (r.1*y+q.1*v) (D:Int):=by
  unfold bQ;refine Jy (Sx h.pos k.pos) dp ?_;rw[X9,X9];have a1:r.1*q.2*(D:Int)=r.1*y*(r.2*q.2):=by rw[ey];ac_rfl
  have a2:q.1*r.2*(D:Int)=q.1*v*(r.2*q.2):=by rw[ev];ac_rfl
  rw[a1,a2]
 rw[e];refine xF dp (Int.dvd_refl _) ?_;have b1:(r.1*y).natAbs≤N*D:=by
  have:(D:Int).natAbs=r.2.natAbs*y.natAbs:=by rw[ey,TR]
  rw[TR];have z:=TU y.natAbs h.le;rw[Nat.mul_assoc,←this] at z
  simpa using z
 have b2:(q.1*v).natAbs≤M*D:=by
  have:(D:Int).natAbs=q.2.natAbs*v.natAbs:=by rw[ev,TR]
  rw[TR];have z:=TU v.natAbs k.le;rw[Nat.mul_assoc,←this] at z
  simpa using z
 have b3:=Int.natAbs_add_le (r.1*y) (q.1*v);have b4:(D:Int).natAbs=D:=UJ D;rw[b4,Nat.add_mul];omega
theorem Bq.neg(h:Bq D N r):Bq D N (-r.1,r.2):=⟨h.pos,by show Q1 (-r.1) r.2=1;rw[Int.neg_gcd];exact h.cop,h.dvd,by show(-r.1).natAbs≤_;rw[aag];exact h.le⟩
theorem Bq.minus(hD:0<D)(h:Bq D N r)(k:Bq D M q):Bq D (N+M) (cY r q):=by
 rw[←ui];exact h.plus hD k.neg
theorem Bq.times(h:Bq D N r)(k:Bq E M q):Bq (D*E) (N*M) (cA r q):=by
 refine xF (Sx h.pos k.pos) ?_ ?_
 ·rw[V7];exact Int.mul_dvd_mul h.dvd k.dvd
 ·rw[TR,TR];have z:=Nat.mul_le_mul h.le k.le
  calc r.1.natAbs*q.1.natAbs≤N*r.2.natAbs*(M*q.2.natAbs):=z
   _=N*M*(r.2.natAbs*q.2.natAbs):=by ac_rfl
theorem E5(ha:0<a)(hb:0<b):0<(fj a b).1:=U4 ha (SY (b6 hb)) (Zv a b)
theorem Bq.bot(hD:0<D)(h:Bq D N r):r.2.natAbs≤D:=by
 have:=US.mpr h.dvd;rw[UJ] at this;exact W4 hD this
theorem Bq.wf(h:Bq D N r)(hD:0<D)(h1:D<2^n)(h2:N*D<2^n):Wf n r:=
 ⟨h.pos,RN (Rm h.le (Wh _ (h.bot hD))) h2,RN (h.bot hD) h1,h.cop⟩
theorem CK:dI r q=true↔r.1*q.2<q.1*r.2:=by unfold dI;exact decide_eq_true_iff
theorem ul:dI r q=false↔q.1*r.2≤r.1*q.2:=by unfold dI;rw[decide_eq_false_iff_not,Int.not_lt]
theorem CH(ha:0≤a):0≤(fj a b).1:=Ts ha ω
theorem Ex(hr:gG r)(hq:gG q)(h1:0≤r.1)(h2:0≤q.1):0≤(bQ r q).1:=
 CH (Int.add_nonneg (Yb h1 (SY hq.pos)) (Yb h2 (SY hr.pos)))
end B
namespace B
open PySem PySem.Spec L2 PyProof.Rows
inductive Rl where
 |pow (k:Int)
 |tab (rows:List (R×R))
def vw:R×R:=((0,1),(0,1))
def GJ(lo hi:R×R):R:=Lo (cY hi.2 lo.2) (cY hi.1 lo.1)
def Mv(rows:List (R×R))(k:Nat):R:=GJ (rows.getD k vw) (rows.getD (k+1) vw)
def Lm(rows:List (R×R))(s:R):Nat:=rows.countP λr=>dI r.1 s
def Lc(rows:List (R×R))(s:R):Nat:=rows.countP λr=>!dI s r.1
def LG(rows:List (R×R))(s:R):R:=if Lm rows s=0 then(0,1) else Mv rows (Lm rows s-1)
def Hu(rows:List (R×R))(s:R):Option R:=if Lc rows s<rows.length then some (Mv rows (Lc rows s-1)) else none
def Lg(k:Int)(s:R):R:=cA (k,1) (dX s (k-1).toNat)
def Mw:Rl->R->R×Option R
 | .pow k,s=>(Lg k s,some (Lg k s))
 | .tab rows,s=>(LG rows s,Hu rows s)
def P5(rows:List (R×R)):Prop:=rows.Pairwise λa b=>dI a.1 b.1=true
def Qb(rows:List (R×R)):Prop:=∀r∈rows,0<r.1.2
abbrev D0:Nat:=5822723907000000000
abbrev N0:Nat:=1000000007
abbrev N1:Nat:=17179869184
abbrev NR:Nat:=11000000077
abbrev N2:Nat:=1180591620717411303424
structure JZ(rows:List (R×R)):Prop where
 n2:2≤rows.length
 n12:rows.length≤12
 inc:P5 rows
 zero:∃y,rows[0]?=some ((0,1),y)
 sp:∀r∈rows,Bq D0 NR r.1
 pw:∀r∈rows,Bq (D0*D0) N2 r.2
def PZ:Rl->Prop
 | .pow k=>2≤k/\k≤4
 | .tab rows=>JZ rows
structure PX(s:R):Prop where
 bq:Bq (D0*2) N1 s
 nn:0≤s.1
def OK:Rl->R->Prop
 | .pow _,_=>True
 | .tab rows,s=>∃r,rows[rows.length-1]?=some r/\dI r.1 s=false
def Qm(rows:List (R×R))(s:R)(i:Nat):R:=if 0<Lm rows s/\Lm rows s-1<i then Mv rows (Lm rows s-1) else(0,1)
def Qj(rows:List (R×R))(s:R)(i:Nat):Option R:=if 0<Lc rows s/\Lc rows s-1<i then some (Mv rows (Lc rows s-1)) else none
def On(k:Int)(s:R)(j:Nat):R:=fj (k*s.1^j) (s.2^j)
def Ow(l:R)(r:Option R)(g:R):Bool:=!dI g l&&(match r with|none=>true|some x=>!dI x g)
end B
namespace B
def val(r:R):Rat:=(r.1:Rat)/(r.2:Rat)
theorem dj{b:Int}(h:0<b):(b:Rat)≠0:=λz=>by
 have:b=0:=XX.mp (by rw[z];rfl);omega
theorem GA{r:R}{a b:Int}(hr:0<r.2)(hb:(b:Rat)≠0)(h:r.1*b=a*r.2):val r=(a:Rat)/(b:Rat):=by
 have h2:(r.1:Rat)*(b:Rat)=(a:Rat)*(r.2:Rat):=by rw[←RJ,←RJ,h]
 have h1:=dj hr;unfold val;generalize (r.1:Rat)=x at *;generalize (r.2:Rat)=y at *;generalize (a:Rat)=u at *;generalize (b:Rat)=v at *;grind
theorem nw(hb:0<b):val (fj a b)=(a:Rat)/(b:Rat):=GA (jj hb).pos (dj hb) (pZ hb)
theorem iI(hr:0<r.2)(hq:0<q.2):val (bQ r q)=val r+val q:=by
 unfold bQ;rw[nw (Sx hr hq)];have h1:=dj hr;have h2:=dj hq;unfold val;rw[XY,RJ,RJ,RJ];generalize (r.1:Rat)=x at *;generalize (r.2:Rat)=y at *;generalize (q.1:Rat)=u at *;generalize (q.2:Rat)=v at *;grind
theorem gH(hr:0<r.2)(hq:0<q.2):val (cY r q)=val r-val q:=by
 unfold cY;rw[nw (Sx hr hq)];have h1:=dj hr;have h2:=dj hq;unfold val;rw[Rat.intCast_sub,RJ,RJ,RJ];generalize (r.1:Rat)=x at *;generalize (r.2:Rat)=y at *;generalize (q.1:Rat)=u at *;generalize (q.2:Rat)=v at *;grind
theorem jf(hr:0<r.2)(hq:0<q.2):val (cA r q)=val r*val q:=by
 unfold cA;rw[nw (Sx hr hq)];have h1:=dj hr;have h2:=dj hq;unfold val;rw[RJ,RJ];generalize (r.1:Rat)=x at *;generalize (r.2:Rat)=y at *;generalize (q.1:Rat)=u at *;generalize (q.2:Rat)=v at *;grind
theorem hV(hr:gG r)(hq:gG q)(h:val r=val q):r=q:=by
 have h1:=dj hr.pos;have h2:=dj hq.pos;have e:r.1*q.2=q.1*r.2:=by
  refine XX.mp ?_;rw[RJ,RJ];unfold val at h;generalize (r.1:Rat)=x at *;generalize (r.2:Rat)=y at *;generalize (q.1:Rat)=u at *;generalize (q.2:Rat)=v at *;grind
 have e1:fj r.1 r.2=(r.1,r.2):=e9 hr.pos hr.pos hr.cop Z;have e2:fj r.1 r.2=(q.1,q.2):=e9 hr.pos hq.pos hq.cop e.symm;exact e1.symm.trans e2
theorem km(hr:0<r.2):val r=0↔r.1=0:=by
 have h1:=dj hr;unfold val;constructor
 ·intro h;refine XX.mp ?_;show(r.1:Rat)=((0:Int):Rat);rw[show((0:Int):Rat)=0 from Z];generalize (r.1:Rat)=x at *;generalize (r.2:Rat)=y at *;grind
 ·intro h;rw[h];show((0:Int):Rat)/_=0;rw[show((0:Int):Rat)=0 from Z];generalize (r.2:Rat)=y at *;grind
end B
namespace B
def Qh(rows:List (R×R))(i:Nat):Rat:=(val (rows.getD (i+1) vw).2-val (rows.getD i vw).2)/(val (rows.getD (i+1) vw).1-val (rows.getD i vw).1)
section
variable {s p:Nat->Rat}{n:Nat}
def sl(s p:Nat->Rat)(i:Nat):Rat:=(p (i+1)-p i)/(s (i+1)-s i)
end
end B
namespace B
open PySem PySem.Spec L2 PyProof.Rows
structure QE(X:Cx)(e:Ry)(t:TE):Prop where
 p:PE X e t
structure QT(X:Cx)(e:Ry)(t:TT):Prop where
 p:PT X e t
structure QW(X:Cx)(e:Ry)(t:TT):Prop where
 p:PW X e t
structure QA(X:Cx)(es:List Ry)(t:TA):Prop where
 p:PA X es t
structure QS(X:Cx)(st:Stmt)(t:TS):Prop where
 p:PS X st t
structure cJ(X:Cx)(st:List Stmt)(t:TS):Prop where
 p:qp X st t
structure QI(X:Cx)(tg iter:Ry)(wi:TI):Prop where
 p:PI X tg iter wi
structure QG(X:Cx)(target:Ry)(t:TG):Prop where
 p:PG X target t
structure L5(X:Cx)(ts:List Ry)(t:zp):Prop where
 p:Ko X ts t
theorem cJ.ok(h:cJ X b t)(r:t D σ H):∃t:TS,qp X b t/\t D σ H:=⟨t,h.p,r⟩
structure QO(X:Cx)(o:Option Ry)(t:L2.TO):Prop where
 p:PO X o t
section
set_option autoImplicit true
set_option relaxedAutoImplicit true
theorem qv(i:Nat){x:Rr}{pos:UE}(hN:X.N[i]?=some x:=by rfl)(hv:LX X.env.scope x:=by first|exact Q9 Z|exact Q7 (Q9 Z)|exact Q7 (Q7 Z))(hd:(x==("__debug__" : Rr))=false:=by decide)(hcd:(x==("__classdict__" : Rr))=false:=by decide):QE X (.Name x pos) (GG i):=⟨pv i hN hv hd hcd⟩
theorem aj{i j pos}:QE X (.Constant (.int i) j pos) (tC (.int i)):=⟨Iw ⟩
theorem cP{b j pos}:QE X (.Constant (.bool b) j pos) (tC (.bl b)):=⟨Ll ⟩
theorem oh{j pos}:QE X (.Constant .none j pos) (tC .non):=⟨Iu ⟩
theorem og{x j pos}:QE X (.Constant (.str x) j pos) (tC (.str x)):=⟨Ip ⟩
theorem cW{x:Rr}{v:V}{u:Value}{pos:UE}(hg:Gl X x)(hm:X.mg x=some u)(r:br v u)(hd:(x==("__debug__" : Rr))=false:=by decide):QE X (.Name x pos) (tC v):=⟨EH hg hm r hd⟩
theorem eW{x:Rr}{v:V}{u:Value}{pos:UE}(hg:Gl X x)(hm:X.mg x=none)(hv:SX x=some u)(r:br v u)(hn:x ≠ "__name__" := by decide)(hd:(x==("__debug__" : Rr))=false:=by decide):QE X (.Name x pos) (tC v):=⟨EL hg hm hv r hn hd⟩
theorem kG(ho:MI X (unaryOp op) r)(ha:QE X a ta):QE X (.UnaryOp op a pos) (NV r ta):=⟨Lh ho ha.p⟩
theorem BM(ha:QE X a ta):QE X (.UnaryOp .Not a pos) (F0 ta):=⟨Is ha.p⟩
theorem aK(ho:ir X (Ua op) r)(ha:QE X a ta)(hb:QE X b tb):QE X (.BinOp a op b pos) (DP r ta tb):=⟨Li ho ha.p hb.p⟩
theorem fm{op}(h:QE X a t):QE X (.BoolOp op [a] pos) t:=⟨Ir h.p⟩
theorem eQ{cF:List Ry}(ha:QE X a ta)(hb:QE X (.BoolOp .And (b::cF) pos) tb):QE X (.BoolOp .And (a::b::cF) pos) (F6 ta tb):=⟨Ix ha.p hb.p⟩
theorem dP(ho:ir X (Sw op) r)(ha:QE X a ta)(hb:QE X b tb)(hm:Vl op b=false):QE X (.Compare a [op] [b] pos) (DP r ta tb):=⟨EJ ho ha.p hb.p hm⟩
theorem tW{op op':CmpOp}{r r':R2}(ho:ir X (Sw op) r)(ho':ir X (Sw op') r')(ha:QE X a ta)(hb:QE X b tb)(hc:QE X c tc)(hm:lastMarks [op,op'] [b,c]=false:=by with_unfolding_all rfl):QE X (.Compare a [op,op'] [b,c] pos) (zV r r' ta tb tc):=⟨Ca ho ho' ha.p hb.p hc.p hm⟩
theorem tV(hc:QT X c tA)(ha:QE X a ta)(hb:QE X b tb):QE X (.IfExp c a b pos) (N7 tA ta tb):=⟨B7 hc.p ha.p hb.p⟩
theorem cC(h:QA X es t):QE X (.List es pos) (KH t):=⟨Iv h.p⟩
theorem bD{x1}(h:QA X es t):QE X (.Tuple es x1 pos) (KA t):=⟨Io h.p⟩
theorem ef{lo hi:Option Ry}{r:V->Option Int->Option Int->Hp->VK->Prop}(hr:zw X r)(he:QE X e te)(hl:QO X lo tl)(hu:QO X hi th):QE X (.Subscript e (.Slice lo hi none p2) pos) (NX r te tl th):=⟨B6 hr he.p hl.p hu.p⟩
theorem gk   : QO X none wA:=⟨Ew ⟩
theorem eU(h:QE X e te):QO X (some e) (FZ te):=⟨Ev h.p⟩
theorem bH(hr:J6 X r)(ha:QE X a ta)(hb:QE X b tb)(hs:sw b):QE X (.Subscript a b pos) (DP r ta tb):=⟨Lj hr ha.p hb.p hs⟩
theorem dQ(F:bi X.prog X.w X.K X.mg X.base CX k f fd ps sp)(hr:dN k X.A)(hg:Gl X x)(hm:X.mg x=some (.ref f))(hk:SH X.K (.ref f)=true)(hb:aP X.K fd ps ds)(hd:bu dvs ds)(hx:l7 CX X E)(ha:QA X (e::es) t)(hdb:(x==("__debug__" : Rr))=false:=by decide)(he:QV (e::es) X.env=(false,eval e X.env)::QV es X.env:=by rfl)(hpl:(Uv pos (QV es X.env)).any (·.1)=false:=by rfl):QE X (.Call (.Name x p) (e::es) [] pos) (sY sp dvs E t):=⟨EK F hr hg hm hk hb hd hx ha.p hdb he hpl⟩
theorem aH{id:String}(hc:dF X (.builtin id) r)(hg:Gl X x)(hm:X.mg x=none)(hv:SX x=some (.builtin id))(ha:QA X (e::es) t)(hn:x ≠ "__name__" := by decide)(hdb:(x==("__debug__" : Rr))=false:=by decide)(he:QV (e::es) X.env=(false,eval e X.env)::QV es X.env:=by rfl)(hpl:(Uv pos (QV es X.env)).any (·.1)=false:=by rfl):QE X (.Call (.Name x p) (e::es) [] pos) (Mr r t):=⟨Cc hc hg hm hv ha.p hn hdb he hpl⟩
theorem bT(hc:dF X (.type T) r)(hg:Gl X x)(hm:X.mg x=none)(hv:SX x=some (.type T))(ha:QA X (e::es) t)(hn:x ≠ "__name__" := by decide)(hdb:(x==("__debug__" : Rr))=false:=by decide)(he:QV (e::es) X.env=(false,eval e X.env)::QV es X.env:=by rfl)(hpl:(Uv pos (QV es X.env)).any (·.1)=false:=by rfl):QE X (.Call (.Name x p) (e::es) [] pos) (Mr r t):=⟨yu hc hg hm hv ha.p hn hdb he hpl⟩
theorem gl{id:String}(pa:PlainAttrs T)(slot:Slot T name id)(hty:typeOf (.builtin id)=TL (.type "method_descriptor"))(hm:OG X id r)(ho:QE X o to)(ha:QA X (e::es) t)(hbase:Ug o name X.env (eval o X.env)=eval o X.env:=by rfl) (hfew:((Uv cpos (QV (e::es) X.env)).all (λx=>!x.1)&&(Y2 cpos (WP [] X.env)).all (λx=>x.1.isSome)
  &&decide ((e::es).length+([]:List Wj).length+(if([]:List Wj).isEmpty then 0 else 1)<30))=true:=by rfl) (hline:(apos.endLine==cpos.line)=true:=by rfl) (hs:QV (e::es) X.env=(false,eval e X.env)::QV es X.env:=by rfl) (hplain:(Uv cpos (QV es X.env)).any (·.1)=false:=by rfl):QE X (.Call (.Attribute o name apos) (e::es) [] cpos) (Oa X.K T r to t):=⟨Lk pa slot hty hm ho.p ha.p hbase hfew hline hs hplain⟩
theorem ai   : QA X [] KG:=⟨Iz ⟩
theorem af(ha:QE X e te)(hr:QA X es t)(hs:QV (e::es) X.env=(false,eval e X.env)::QV es X.env:=by rfl):QA X (e::es) (F5 te t):=⟨ER ha.p hr.p hs⟩
theorem aT(ho:ir X (Sw op) r)(ha:QE X a ta)(hb:QE X b tb)(hm:Vl op b=false):QT X (.Compare a [op] [b] pos) (FX (DP r ta tb)):=⟨En ho ha.p hb.p hm⟩
theorem bC{e:Ry}{t:TE}(h:QE X e t)(he:∀whole,isTrue e X.env whole=(do let v ←whole;standAt e.pos;holding [v] (truthy v)):=by intro _;rfl):QT X e (tB t):=⟨HU h.p he⟩
theorem cf(ha:QT X a tA):QT X (.UnaryOp .Not a pos) (KF tA):=⟨HV ha.p⟩
theorem rB{cF:List Ry}(ha:QT X a tA)(hb:QW X (.BoolOp .And (b::cF) pos) tB'):QW X (.BoolOp .And (a::b::cF) pos) (KM tA tB'):=⟨HR ha.p hb.p⟩
theorem rA(ha:QT X a tA):QW X (.BoolOp .And [a] pos) tA:=⟨Ej ha.p⟩
theorem iS{cF:List Ry}(ha:QT X a tA)(hb:QW X (.BoolOp .Or (b::cF) pos) tB'):QW X (.BoolOp .Or (a::b::cF) pos) (N3 tA tB'):=⟨Le ha.p hb.p⟩
theorem gA(ha:QT X a tA):QW X (.BoolOp .Or [a] pos) tA:=⟨HN ha.p⟩
theorem gL(h:QW X e t):QT X e t:=⟨PW.pt h.p⟩
theorem Hy{i:Nat}{x:Rr}{e:Ry}{te:TE}{pos':UE}(hN:X.N.Nodup)(hi:X.N[i]?=some x)(hx:zy X.env.scope x)(he:QE X e te)(hs:UC e (some (.Name x pos')) pos.line X.env=TL false:=by rfl)(hf:X.fn x=true∨X.env.scope.names.lookup x=some .local:=by first|exact .inl Z|exact .inr Z|assumption):QS X (.Assign [.Name x pos'] e pos) (sZ te (mj i)):=⟨HX hN hi hx he.p hs hf⟩
theorem HH{i j:Nat}{x y:Rr}{a b:Ry}{ta:TA}{px py pt:UE}{kt k2 pt2}(hc:X.calm=true)(hN:X.N.Nodup)(hi:X.N[i]?=some x)(hj:X.N[j]?=some y)(hij:i≠j)(hx:X.env.scope.names.lookup x=some .local)(hy:X.env.scope.names.lookup y=some .local)(ha:QA X [a,b] ta)(hw:WY [.Tuple [.Name x px,.Name y py] kt pt] (.Tuple [a,b] k2 pt2) X.env=TL (some [x,y]))(hs:WX [.Tuple [.Name x px,.Name y py] kt pt] (.Tuple [a,b] k2 pt2) pos.line X.env=TL false:=by rfl):QS X (.Assign [.Tuple [.Name x px,.Name y py] kt pt] (.Tuple [a,b] k2 pt2) pos) (KC i j ta):=⟨HZ hc hN hi hj hij hx hy ha.p hw hs⟩
theorem gC{tg e:Ry}{te:TE}{g:TG}(he:QE X e te)(hg:QG X tg g)(hs:WX [tg] e pos.line X.env=TL false:=by rfl)(hw:WY [tg] e X.env=TL none:=by rfl)(h1:(Tj [tg] X.env).map (·.2)=[WW tg X.env]:=by rfl):QS X (.Assign [tg] e pos) (sZ te g):=⟨Ig he.p hg.p hs hw h1⟩
theorem BJ{i:Nat}{x:Rr}{e:Ry}{te:TE}{op:Z5}{ti:Kk}{pos':UE}(hN:X.N.Nodup)(hi:X.N[i]?=some x)(hx:zy X.env.scope x)(he:QE X e te)(ho:NC X op ti)(hf:X.fn x=true∨X.env.scope.names.lookup x=some .local:=by first|exact .inl Z|exact .inr Z|assumption):QS X (.AugAssign (.Name x pos') op e pos) (KL i te ti):=⟨Ie hN hi hx he.p ho hf⟩
theorem bA(hc:QT X c tc)(ha:cJ X a t)(hb:cJ X b u):QS X (.If c a b pos) (KI tc t u):=⟨Lf hc.p ha.p hb.p⟩
theorem iT(hp:RD (Q5 X.prog X.w) X.A X.env X.xe)(hc:QT X c tc)(hb:cJ X body tb):QS X (.While c body [] pos) (zQ tc tb):=⟨BS hp hc.p hb.p⟩
theorem bR{iter:Ry}{body:List Stmt}{wi:TI}{g:TG}{tb:TS}{pos:UE}(hp:RD (Q5 X.prog X.w) X.A X.env X.xe)(hc:X.calm=true)(hi:QI X tg iter wi)(hg:QG X tg g)(hb:cJ X body tb)(hs:∀x,Tk iter X.env x=TL x:=by intro _;rfl):QS X (.For tg iter body [] pos) (KJ wi g tb):=⟨Ic hp hc hi.p hg.p hb.p hs⟩
theorem aC(he:QE X e te):QS X (.Return (some e) pos) (KB te):=⟨HY he.p⟩
theorem cH(he:QE X e te)(hs:UC e none pos.line X.env=TL false:=by rfl):QS X (.Expr e pos) (F3 te):=⟨Et he.p hs⟩
theorem tU   : QS X (.Continue pos) F4:=⟨tY ⟩
theorem dH{st:Stmt}  : QS X st zS:=⟨BV ⟩
theorem aQ   : cJ X [] F1:=⟨Ep ⟩
theorem ap{st:Stmt}(h1:QS X st t):cJ X [st] t:=⟨Eo h1.p⟩
theorem BG{st:Stmt}{cF:List Stmt}(h1:QS X st t)(h2:cJ X cF u):cJ X (st::cF) (GH t u):=⟨BR h1.p h2.p⟩
theorem db{a:Ry}{ta:TA}{p pos:UE}(hg:Gl X "range")(hm:X.mg "range"=none)(ha:QA X [a] ta)(hs:QV [a] X.env=[(false,eval a X.env)]:=by rfl):QI X tg (.Call (.Name "range" p) [a] [] pos) (Gk ta):=⟨yr hg hm ha.p hs⟩
theorem di(hl:QE X l tl):QI X tg l (CU X.K tl):=⟨EA hl.p⟩
theorem dm(hl:QE X l tl):QI X tg l (Fg X.K tl):=⟨B1 hl.p⟩
theorem ay{i:Nat}{x:Rr}(hN:X.N.Nodup)(hi:X.N[i]?=some x)(hx:zy X.env.scope x)(hf:X.fn x=true∨X.env.scope.names.lookup x=some .local:=by first|exact .inl Z|exact .inr Z|assumption):QG X (.Name x pos) (mj i):=⟨EE hN hi hx hf⟩
theorem eP{es:List Ry}{k:Nat}{t:zp}{n:Nat}(hc:X.calm=true)(h:L5 X es t)(hn:(Tj es X.env).length=n:=by rfl)(hst:(Tj es X.env).findIdx? (·.1)=none:=by rfl):QG X (.Tuple es k pos) (Fi X.K n t):=⟨B5 hc h.p hn hst⟩
theorem j9{o i:Ry}{to ti:TE}{t:Dz}(ho:QE X o to)(hi:QE X i ti)(hs:J3 X t) (ha:∀v,WW (.Subscript o i pos) X.env v=(do
   let ov ←holding [v] (eval o X.env);let iv ←holding [v,ov] (eval i X.env)
   standAt pos
   holding [v,ov,iv] (setItem ov iv v)
   release [v,ov,iv] []):=by intro _;rfl):QG X (.Subscript o i pos) (LO to ti t):=⟨Il ho.p hi.p hs ha⟩
theorem ca   : L5 X [] LP:=⟨EC ⟩
theorem aR{e:Ry}{es:List Ry}{t:TG}{u:zp}(h1:QG X e t)(h2:L5 X es u)(hs:(Tj (e::es) X.env).map (·.2)=WW e X.env::(Tj es X.env).map (·.2):=by rfl):L5 X (e::es) (Go t u):=⟨B4 h1.p h2.p hs⟩
end
structure Kl(X:Cx)(ifs:List Ry)(t:TT):Prop where
 p:Kn X ifs t
section
set_option autoImplicit true
set_option relaxedAutoImplicit true
theorem cG:Kl X [] Kz:=⟨Em ⟩
theorem dD(h:QT X c t):Kl X [c] t:=⟨El h.p⟩
theorem bP(hc:X.calm=true)(hi:QI X tg iter wi)(hg:∀C fp pins s H,QG (Fy X N' scope cl C fp pins s H) tg g)(ht:∀C fp pins s H,Kl (Fy X N' scope cl C fp pins s H) ifs tt)(he:∀C fp pins s H,QE (Fy X N' scope cl C fp pins s H) elt te)(hfree:dh X scope cl N' src)(hclos:WC scope X.env=TL cl)(hcell:∀x∈scope.names,x.2≠.cell)(hkind:scope.kind=.function)(hnames:∀x∈scope.names,x.2=.local->scope.names.lookup x.1=some .local)(hcl:lj X scope cl)(hs:∀x,Tk iter X.env x=TL x:=by intro _;rfl):QE X (.ListComp elt [⟨tg,iter,ifs,0⟩] scope pos) (nI wi src g tt te):=⟨yt hc hi.p (λz0 z1 z2 z3 z4=>(hg z0 z1 z2 z3 z4).p) (λz0 z1 z2 z3 z4=>(ht z0 z1 z2 z3 z4).p) (λz0 z1 z2 z3 z4=>(he z0 z1 z2 z3 z4).p) hfree hclos (Gr hcell hkind hcl) hnames hs⟩
theorem fH{i:Nat}{x:Rr}{pos' pos2:UE}(hN:X.N.Nodup)(hi':X.N[i]?=some x)(hx:zy X.env.scope x)(hc:X.calm=true)(hi:QI X tg iter wi)(hg:∀C fp pins s H,QG (Fy X N' scope cl C fp pins s H) tg g)(ht:∀C fp pins s H,Kl (Fy X N' scope cl C fp pins s H) ifs tt)(he:∀C fp pins s H,QE (Fy X N' scope cl C fp pins s H) elt te)(hfree:dh X scope cl N' src)(hclos:WC scope X.env=TL cl)(hcell:∀x∈scope.names,x.2≠.cell)(hkind:scope.kind=.function)(hnames:∀x∈scope.names,x.2=.local->scope.names.lookup x.1=some .local)(hcl:lj X scope cl)(hs:∀x,Tk iter X.env x=TL x:=by intro _;rfl)(hsw:UC (.ListComp elt [⟨tg,iter,ifs,0⟩] scope pos) (some (.Name x pos')) pos2.line X.env=TL true:=by rfl)(hf:X.fn x=true∨X.env.scope.names.lookup x=some .local:=by first|exact .inl Z|exact .inr Z|assumption):QS X (.Assign [.Name x pos'] (.ListComp elt [⟨tg,iter,ifs,0⟩] scope pos) pos2) (sZ (nI wi src g tt te) (mj i)):=⟨wJ hN hi' hx hc hi.p (λz0 z1 z2 z3 z4=>(hg z0 z1 z2 z3 z4).p) (λz0 z1 z2 z3 z4=>(ht z0 z1 z2 z3 z4).p) (λz0 z1 z2 z3 z4=>(he z0 z1 z2 z3 z4).p) hfree hclos (Gr hcell hkind hcl) hnames hs hsw hf⟩
end
section
variable {X:Cx}{K:Qu}
theorem ED{es:List Ry}{k:Nat}{t:zp}{n:Nat}{pos:UE}(hK:X.K=K)(hc:X.calm=true)(h:Ko X es t)
  (hn:(Tj es X.env).length=n:=by rfl) (hst:(Tj es X.env).findIdx? (·.1)=none:=by rfl):PG X (.Tuple es k pos) (Fi K n t):=hK▸B5 hc h hn hst
theorem Ez(hK:X.K=K)(hl:PE X l tl):PI X tg l (Fg K tl):=hK▸B1 hl
theorem bB(hK:X.K=K):J6 X (Hw K):=hK▸az
theorem dy(hK:X.K=K):J6 X (Hx K):=hK▸bv
def Po(K:Qu):List V->Hp->VK->Prop:=λxs H Q=>J9 K H xs λn=>Q (.int n) H
end
theorem ba:QV (.BinOp a op b pos:: es) env=(false,eval (.BinOp a op b pos) env):: QV es env:=Z
end B
namespace B
open PySem
section
variable {es:List Ry}{env:ZU}
theorem cb{a b c}:QV (.Tuple a b c::es) env=(false,eval (.Tuple a b c) env)::QV es env:=Z
theorem aM{a b c}:QV (.Subscript a b c::es) env=(false,eval (.Subscript a b c) env)::QV es env:=Z
theorem aD{a b c d}:QV (.Call a b c d::es) env=(false,eval (.Call a b c d) env)::QV es env:=Z
theorem ag{a b}:QV (.Name a b::es) env=(false,eval (.Name a b) env)::QV es env:=Z
theorem aG{a b c}:QV (.Constant a b c::es) env=(false,eval (.Constant a b c) env)::QV es env:=Z
theorem qI{a b c}:QV (.UnaryOp a b c::es) env=(false,eval (.UnaryOp a b c) env)::QV es env:=Z
theorem Ac{a b c d}:QV (.Compare a b c d::es) env=(false,eval (.Compare a b c d) env)::QV es env:=Z
theorem cU{a b c d}:QV (.ListComp a b c d::es) env=(false,eval (.ListComp a b c d) env)::QV es env:=Z
theorem DR{a b c d}:QV (.IfExp a b c d::es) env=(false,eval (.IfExp a b c d) env)::QV es env:=Z
end
end B
namespace B
open PySem L2 PyProof.Rows
inductive Als{α:Type}(P:V->α->Prop):List V->List α->Prop where
 |nil:Als P [] []
 |cons {x:V} {d:α} {xs:List V} {ds:List α} (h:P x d) (t:Als P xs ds):Als P (x::xs) (d::ds)
theorem Als.len{α:Type}{P:V->α->Prop}:∀{xs:List V} {ds:List α},Als P xs ds->xs.length=ds.length
 |_,_,.nil=>rfl
 |_,_,.cons _ t=>congrArg (·+1) t.len
theorem Als.mono{α:Type}{P P':V->α->Prop}(m:∀v d,P v d->P' v d):∀{xs:List V} {ds:List α},Als P xs ds->Als P' xs ds
 |_,_,.nil=>.nil
 |_,_,.cons h t=>.cons (m _ _ h) (t.mono m)
theorem Als.snoc{α:Type}{P:V->α->Prop}{x:V}{d:α}(k:P x d):∀{xs:List V} {ds:List α},Als P xs ds->Als P (xs++[x]) (ds++[d])
 |_,_,.nil=>.cons k .nil
 |_,_,.cons h t=>.cons h (t.snoc k)
theorem Als.at{α:Type}{P:V->α->Prop}:∀{xs:List V} {ds:List α},Als P xs ds->∀{i:Nat} {x:V},xs[i]?=some x->∃d,ds[i]?=some d/\P x d
 |_,_,.cons h _,0,x,e=>by
  rw[VC] at e
  cases e
  exact⟨_,Z,h⟩
 |_,_,.cons _ t,i+1,x,e=>t.at (i:=i) (by rw[VD] at e;exact e)
 |_,_,.nil,_,_,e=>by cases e
theorem Als.deep{α:Type}{K:Qu}{H:Hp}{P:V->α->Prop}{f:α->Ri}(m:∀v d,P v d->bX K H v (f d)):∀{xs:List V} {ds:List α},Als P xs ds->bx K H xs (ds.map f)
 |_,_,.nil=>.nil
 |_,_,.cons h t=>.cons (m _ _ h) (t.deep m)
end B
namespace B
open PySem PySem.Spec L2 PyProof.Rows
section
set_option autoImplicit true
set_option relaxedAutoImplicit true
theorem HK{X:Cx}{elts:List Ry}{x1}{tp p pos:UE}{a b:Ry}{ta:TA}(hg:Gl X "zip")(hm:X.mg "zip"=none)(ha:QA X [a,b] ta)(hs:QV [a,b] X.env=[(false,eval a X.env),(false,eval b X.env)]:=by rfl)(hs2:QV [b] X.env=[(false,eval b X.env)]:=by rfl):QI X (.Tuple elts x1 tp) (.Call (.Name "zip" p) [a,b] [] pos) (LJ X.K ta):=⟨Ij hg hm ha.p hs hs2⟩
theorem HL(hl:QE X l tl):QI X tg l (LK X.K tl):=⟨Ik hl.p⟩
theorem ic{K:Qu}{es:List Ry}{k:Nat}{t:zp}{n:Nat}{pos:UE}(hK:X.K=K)(hc:X.calm=true)(h:L5 X es t)(hn:(Tj es X.env).length=n:=by rfl)(hst:(Tj es X.env).findIdx? (·.1)=none:=by rfl):QG X (.Tuple es k pos) (Fi K n t):=⟨ED hK hc h.p hn hst⟩
theorem Eh{K:Qu}{l tg:Ry}{tl:TE}(hK:X.K=K)(hl:QE X l tl):QI X tg l (Fg K tl):=⟨Ez hK hl.p⟩
end
def M8(K:Qu):R2:=λx y H Q=>∃d d',bX K H x d/\bX K H y d'/\d.canLay0=true/\d'.canLay0=true/\d.depth≤32/\Q (.bl (R3 d d')) H
theorem vC(hr:dN k X.A):ir X (Sw .Eq) (M8 X.K):=by
 intro pins s σ H x y v u Q I rx ry h;obtain⟨d,d',hd,hd',c,c',dp,q⟩:=h;obtain⟨as,ra⟩:=bX.reads I hd rx;obtain⟨bs,rb⟩:=bX.reads I hd' ry;exact SeqAt.compareEq_reads ra rb c c' (by have:=hr.units;omega) ⟨.bl _,H,I,Z,q⟩
theorem xj:R3 (dR r) (dR q)=decide (r=q):=by
 by_cases h:r=q
 ·rw[decide_eq_true h,h];exact iY q
 ·rw[decide_eq_false h]
  cases c:R3 (dR r) (dR q) with
  |false=>rfl
  |true=>exact absurd (JK c) h
def K7(K:Qu):List V->Hp->VK->Prop:=λxs H Q=>∃a ys n b,xs=[.ref a,.ty n]/\bz K H a ys/\wY "tuple" n=some b/\Q (.bl b) H
theorem zd:dF X (.builtin "isinstance") (K7 X.K):=by
 intro pins s σ H xs us Q I r h;obtain⟨a,ys,n,b,rfl,hS,e,q⟩:=h;obtain⟨u,u2,rfl,rx,ry⟩:=pK r;obtain rfl:u2=Vv n:=ry
 cases(show u=Rz a from rx)
 obtain⟨its,_,⟨o,h1,h2,_⟩,_⟩:=I.tuple hS;exact Se YH I.kIn ⟨o,h1,h2⟩ (vS e) (λz=>nomatch z) λtk=>⟨.bl b,H,I.tok tk,Z,q⟩
section
set_option autoImplicit true
set_option relaxedAutoImplicit true
theorem Ei{X:Cx}{e:Ry}{f:Rr}{pos:UE}{ta:TE}{K:Qu}(hK:X.K=K)(he:QE X e ta)(hb:Ug e f X.env (eval e X.env)=eval e X.env):QE X (.Attribute e f pos) (F2 K ta f):=⟨EI hK he.p hb⟩
theorem rC(hex:X.ex=[])(ha:QE X o ta)(hv:QE X value tv)(hs:UC value (some (.Attribute o f pos')) pos.line X.env=TL false):QS X (.Assign [.Attribute o f pos'] value pos) (F8 X.K ta tv f):=⟨Es hex ha.p hv.p hs⟩
theorem gM{x:Rr}{p cpos pos:UE}{e:Ry}{es:List Ry}{t:TA}{E:XK}(M:XC X.K C f bm)(hbase:bm.contains (.type "BaseException")=true)(hex:X.ex=[])(tk:v9 X E)(F:bi X.prog X.w X.K X.mg X.base cT k f fd ps sp)(hr:dN (k+1) X.A)(hb:aP X.K fd ps [])(hg:Gl X x)(hm:X.mg x=some (.ref C))(ha:QA X (e::es) t)(hdb:(x==("__debug__" : Rr))=false:=by decide)(he:QV (e::es) X.env=(false,eval e X.env)::QV es X.env:=by rfl)(hpl:(Uv cpos (QV es X.env)).any (·.1)=false:=by rfl):QS X (.Raise (some (.Call (.Name x p) (e::es) [] cpos)) none pos) (wz C sp E t):=⟨ym M hbase hex tk F hr hb hg hm ha.p hdb he hpl⟩
theorem BH{R:RX}{suite:List Stmt}{i:Nat}{n:Rr}(hex:X.ex=[])(hst:X.stack=X.env::X.outer)(hfr:X.env.frame=some X.env.locals)(hg:Gl X x)(hm:X.mg x=some u)(hN:X.N.Nodup)(hi:X.N[i]?=some n)(hn:X.env.scope.names.lookup n=some .local)(hb:∀pins,cJ (kg X pins R) body tb)(hs:∀e,cJ (jA X e) (b₀::suite) th)(hd:(x==("__debug__" : Rr))=false:=by decide):QS X (.Try body [.ExceptHandler (some (.Name x p)) (some n) (b₀::suite) hpos] [] [] pos) (zR X.N i R (λC=>U7 X.K (.ref C) u=some true) tb th):=⟨BU hex hst hfr hg hm hN hi hn (λz0=>(hb z0).p) (λz0=>(hs z0).p) hd⟩
end
end B
namespace L2
open PySem PySem.Spec PyProof.Rows
section
variable {κ:Type} [DecidableEq κ]
def lD(kvs:List (κ×V))(k:κ):Option V:=(kvs.find? λkv=>decide (kv.1=k)).map (·.2)
def ie(kvs:List (κ×V))(k:κ)(v:V):List (κ×V):=
 if(kvs.any λkv=>decide (kv.1=k))=true then kvs.map (λkv=>if kv.1=k then(kv.1,v) else kv) else kvs++[(k,v)]
def Ov(kvs:List (κ×V))(k:κ):List (κ×V):=kvs.filter λkv=>decide (kv.1≠k)
theorem kn{p:κ×V}{r:List (κ×V)}{k:κ}(e:p.1=k):lD (p::r) k=some p.2:=by simp[lD,UO,e]
theorem ko{p:κ×V}{r:List (κ×V)}{k:κ}(e:¬p.1=k):lD (p::r) k=lD r k:=by simp[lD,UO,e]
theorem sR(k:κ):∀kvs:List (κ×V),(kvs.any λkv=>decide (kv.1=k))=(lD kvs k).isSome
 | []=>rfl
 |p::r=>by
  rw[Uh];by_cases e:p.1=k
  ·simp only[kn e,decide_eq_true e,Bool.true_or,Vw]
  ·rw[ko e,decide_eq_false e,Vq];exact sR k r
theorem mh(kvs:List (κ×V))(k:κ)(v:V):(ie kvs k v).length≤kvs.length+1:=by
 unfold ie
 split
 ·rw[Qz];omega
 ·rw[Q2,Rh,Z0];omega
theorem io.isSome_eq(r:io o u):o.isSome=u.isSome:=by
 cases o with
 |none=>cases u with
  |none=>rfl
  |some _=>exact(show False from r).elim
 |some _=>cases u with
  |none=>exact(show False from r).elim
  |some _=>rfl
theorem io.getD(r:io o u)(rd:br d d'):br (o.getD d) (u.getD d'):=by
 cases o with
 |none=>cases u with
  |none=>exact rd
  |some _=>exact(show False from r).elim
 |some _=>cases u with
  |none=>exact(show False from r).elim
  |some _=>exact r
theorem KV.val{kvs:List (κ×V)}{vs:List (κ×Value)}(r:KV kvs vs)(k:κ):io (lD kvs k) (Zf vs k):=by
 unfold KV at r
 induction r with
 |nil=>exact UH
 | @cons p q ps qs h t ih=>
  obtain⟨h1,h2⟩:=h;by_cases e:p.1=k
  ·have e':q.1=k:=h1.symm.trans e;have b:Zf (q::qs) k=some q.2:=by simp[Zf,UO,e']
   rw[kn e,b];exact h2
  ·have e':¬q.1=k:=λz=>e (h1.trans z)
   have b:Zf (q::qs) k=Zf qs k:=by simp[Zf,UO,e']
   rw[ko e,b];exact ih
theorem KV.any{kvs:List (κ×V)}{vs:List (κ×Value)}(r:KV kvs vs)(k:κ):(kvs.any λkv=>decide (kv.1=k))=vs.any λkv=>decide (kv.1=k):=by
 unfold KV at r
 induction r with
 |nil=>rfl
 |cons h t ih=>rw[Uh,Uh,ih,h.1]
theorem KV.repl{kvs:List (κ×V)}{vs:List (κ×Value)}(r:KV kvs vs)(k:κ){y:V}{u:Value}(ry:br y u) :
  KV (kvs.map λkv=>if kv.1=k then(kv.1,y) else kv) (vs.map λkv=>if kv.1=k then(kv.1,u) else kv):=by
 unfold KV at r ⊢
 induction r with
 |nil=>exact .nil
 | @cons p q ps qs h t ih=>
  rw[RC,RC];refine .cons ?_ ih;obtain⟨h1,h2⟩:=h;by_cases e:p.1=k
  ·rw[if_pos e,if_pos (h1.symm.trans e)];exact⟨h1,ry⟩
  ·rw[if_neg e,if_neg (λz=>e (h1.trans z))];exact⟨h1,h2⟩
theorem KV.put{kvs:List (κ×V)}{vs:List (κ×Value)}(r:KV kvs vs)(k:κ){y:V}{u:Value}(ry:br y u):KV (ie kvs k y) (stored vs k u):=by
 unfold ie stored;rw[r.any k];by_cases e:(vs.any λkv=>decide (kv.1=k))=true
 ·rw[if_pos e,if_pos e];exact r.repl k ry
 ·rw[if_neg e,if_neg e];exact Paired.snoc r ⟨Z,ry⟩
theorem KV.length{kvs:List (κ×V)}{vs:List (κ×Value)}(r:KV kvs vs):kvs.length=vs.length:=Paired.length r
end
theorem CP(r:br (kV k) u):(ci P w).is k u=true:=by
 cases k with
 |inl i=>obtain⟨t,e⟩:=(show ∃t,u=Tv i t from r);subst e;exact uh P w i t
 |inr x=>obtain⟨t,e⟩:=(show ∃t,u=Xc x t from r);subst e;exact ug P w x t
theorem p9{P:Rp}{w:RF}:∀{ks:List dB} {us:List Value},bu (ks.map kV) us->ItemsAre (ci P w) ks us
 | [],_,r=>by rw[Y5] at r;cases r;exact .nil
 |k::ks,_,r=>by
  rw[RC] at r
  cases r with
  |cons h t=>exact .cons (CP h) (p9 t)
abbrev KT(H:Hp):List (List dB×V)->List (List dB×Addr×Value)->Prop:=Paired λp q=>p.1=q.1/\H q.2.1=some (.tup (p.1.map kV))/\br p.2 q.2.2
theorem KT.val(r:KT H kvs xs)(k:List dB):io (lD kvs k) ((atKey xs k).map (·.2)):=by
 induction r with
 |nil=>exact UH
 | @cons p q ps qs h t ih=>
  obtain⟨h1,_,h2⟩:=h;by_cases e:p.1=k
  ·have e':q.1=k:=h1.symm.trans e;have b:atKey (q::qs) k=some q.2:=by simp[atKey,UO,e']
   rw[kn e,b];exact h2
  ·have e':¬q.1=k:=λz=>e (h1.trans z)
   have b:atKey (q::qs) k=atKey qs k:=by simp[atKey,UO,e']
   rw[ko e,b];exact ih
theorem KT.repl(r:KT H kvs xs)(k:List dB)(ry:br y u):
  KT H (kvs.map λkv=>if kv.1=k then(kv.1,y) else kv) (xs.map (putAt k u)):=by
 induction r with
 |nil=>exact .nil
 | @cons p q ps qs h t ih=>
  rw[RC,RC];refine .cons ?_ ih;obtain⟨h1,h2,h3⟩:=h;unfold putAt;by_cases e:p.1=k
  ·rw[if_pos e,if_pos (h1.symm.trans e)];exact⟨h1,h2,ry⟩
  ·rw[if_neg e,if_neg (λz=>e (h1.trans z))];exact⟨h1,h2,h3⟩
theorem KT.put(r:KT H kvs xs)(k:List dB)(hb:H b=some (.tup (k.map kV)))(ry:br y u):
  KT H (ie kvs k y) (storedH xs k b u):=by
 have e:(kvs.any λkv=>decide (kv.1=k))=(atKey xs k).isSome:=by
  rw[sR,(r.val k).isSome_eq,Option.isSome_map]
 unfold ie storedH;rw[e];by_cases q:(atKey xs k).isSome=true
 ·rw[if_pos q,if_pos q];exact r.repl k ry
 ·rw[if_neg q,if_neg q];exact Paired.snoc r ⟨Z,hb,ry⟩
theorem KT.keeps(r:KT H kvs xs)(ht:∀b ys,H b=some (.tup ys)->H' b=some (.tup ys)):KT H' kvs xs:=
 Paired.mapP r λ_ _ z=>⟨z.1,ht _ _ z.2.1,z.2.2⟩
section
variable {P:Rp}{w:RF}{H:Hp}{h:QN}{a:Addr}
theorem Ga(ok:jM P w H h)(e:Rd H a u):ObjOk P w H h a u:=e.ok ok
theorem Dh(ok:jM P w H h)(e:Rd H a (.dK kvs)):kvs.length≤sizeLine/\(a==UG)=false/\∃vs,KV kvs vs/\h.DictOf (ci P w) a vs:=
 show ObjOk P w H h a (.dK kvs) from Ga ok e
theorem Gs(ok:jM P w H h)(e:H a=some (.dK kvs)):kvs.length≤sizeLine/\(a==UG)=false/\∃vs,KV kvs vs/\h.DictOf (ci P w) a vs:=Dh ok (.inl e)
theorem vT(ok:jM P w H h)(e:H a=some (.tup (ks.map kV))):(Xe (ci P w)).is h ks a:=by
 obtain⟨_,its,r,o,h1,h2,n,h3⟩:=(show ObjOk P w H h a (.tup (ks.map kV)) from ok a _ e);exact⟨o,its.toArray,n,h1,h2,h3,by simpa using p9 r⟩
theorem De(ok:jM P w H h)(e:Rd H a (.dT kvs)):kvs.length≤sizeLine/\(a==UG)=false∧
  ∃xs,KT H kvs xs/\h.DictOfH (Xe (ci P w)) a xs:=by
 obtain⟨z,y,xs,r,o,es,ep,h1,h2,h3,h4,h5⟩:=(show ObjOk P w H h a (.dT kvs) from Ga ok e);refine⟨z,y,xs,r,o,es,ep,h1,h2,h3,h4,λx hx=>?_,h5⟩;have all:∀{l:List (List dB×V)} {m:List (List dB×Addr×Value)},KT H l m->∀x∈m,(Xe (ci P w)).is h x.1 x.2.1:=by
  intro l m q
  induction q with
  |nil=>intro x hx;exact nomatch hx
  | @cons p q ps qs hq t ih=>
   intro x hx;rcases QR.mp hx with e|hx
   ·subst e;exact vT ok (by rw[←hq.1];exact hq.2.1)
   ·exact ih x hx
 exact all r x hx
theorem LS(ok:jM P w H h)(e:H a=some (.dT kvs)):kvs.length≤sizeLine/\(a==UG)=false∧
  ∃xs,KT H kvs xs/\h.DictOfH (Xe (ci P w)) a xs:=De ok (.inl e)
end
def oW(H:Hp)(a:Addr)(y:V)(r:Option V):Prop:=
 (∃kvs k,Rd H a (.dK kvs)/\y=kV k/\r=lD kvs k)∨∃kvs k b,Rd H a (.dT kvs)/\y=.ref b/\H b=some (.tup (k.map kV))/\r=lD kvs k
def wj(H:Hp)(a:Addr)(y v:V)(H':Hp):Prop:=
 (∃kvs k,H a=some (.dK kvs)/\y=kV k/\kvs.length<sizeLine/\H'=upd H a (.dK (ie kvs k v)))∨
 ∃kvs k b,H a=some (.dT kvs)/\y=.ref b/\H b=some (.tup (k.map kV))/\kvs.length<sizeLine/\H'=upd H a (.dT (ie kvs k v))
theorem oW.k{H:Hp}{a:Addr}{kvs:List (dB×V)}{k:dB}(e:H a=some (.dK kvs)):oW H a (kV k) (lD kvs k):=.inl ⟨kvs,k,.inl e,Z,Z⟩
theorem wj.k{H:Hp}{a:Addr}{kvs:List (dB×V)}{k:dB}{v:V}(e:H a=some (.dK kvs))(hl:kvs.length<sizeLine):wj H a (kV k) v (upd H a (.dK (ie kvs k v))):=.inl ⟨kvs,k,e,Z,hl,Z⟩
section
variable {X:Cx}{pins:List (Addr×Sv)}{σ:St}{H:Hp}{s:QD}{a:Addr}{y v:V}{u r:Value}{o:Option V}{A:Rw}{E:Value->QD->Prop}
theorem Inv.big(I:Inv X pins σ H s):UG<s.heap.objs.size:=by
 have h:Rg<s.heap.objs.size:=(I.mod.glob.keeps I.bk).lt;exact XM δ h
theorem sg(I:Inv X pins σ H s)(mu:L7 (H a))(hs:Ub a s.heap h')(he:∃q,h'.get? a=some q)(new:ObjOk X.prog X.w (upd H a ob) h' a ob):
  Inv X pins σ (upd H a ob) { s with heap:=h',toks:=t'}:=
 I.write (x:=a) (e:=a) mu (.inl Z) (λb q hb z=>(hs.2 b hb).trans z) he new
theorem JN(z:kvs.length≤sizeLine)(hd:(a==UG)=false)(rel:KV kvs vs)(dd:h'.DictOf (ci P w) a vs):
  ObjOk P w H' h' a (.dK kvs):=⟨z,hd,vs,rel,dd⟩
theorem yV(hu:A.units+1<cLine)(I:Inv X pins σ H s)(g:wj H a y v H')(ry:br y u)(rv:br v r)(h:∀s',Inv X pins σ H' s'->Q () s'):
  Q0 (Q5 X.prog X.w) A (setItem (.ref a) u r) Q E s:=by
 rcases g with⟨kvs,k,e,ey,l,eH⟩ | ⟨kvs,k,b,e,ey,eb,l,eH⟩
 ·subst ey eH;obtain⟨z,hd,vs,rel,dd⟩:=Gs I.hok e;have hz:vs.length≤sizeLine:=by rw[←rel.length];exact z
  have hl:(ie kvs k v).length≤sizeLine:=by have:=mh kvs k v;omega
  refine wpAny_setItem_pairs (hsz:=hz) (CP ry) dd λh' dd' hs=>h _ ?_
  have he:∃q,h'.get? a=some q:=let ⟨q,_,_,hq,_⟩:=dd';⟨q,hq⟩;exact sg I (by rw[e];exact UH) hs he (JN hl hd (rel.put k rv) dd')
 ·subst ey eH
  cases(show u=Rz b from ry)
  obtain⟨z,hd,xs,rel,dd⟩:=LS I.hok e;have hz:xs.length≤sizeLine:=by rw[←Paired.length rel];exact z
  have hl:(ie kvs k v).length≤sizeLine:=by have:=mh kvs k v;omega
  refine wpAny_setItem_heap (hsz:=hz) (YO hu) (vT I.hok eb) dd λh' dd' hs=>h _ ?_
  obtain⟨q,es,ep,hq,h2,h3,h4,_,h5⟩:=dd';refine sg I (by rw[e];exact UH) hs ⟨q,hq⟩ ⟨hl,hd,_,(rel.put k eb rv).keeps λc ys ec=>?_,q,es,ep,hq,h2,h3,h4,h5⟩;rw[aJ (LD ec e (λz=>nomatch z))];exact ec
end
section
variable {X:Cx}{pins:List (Addr×Sv)}{σ:St}{H:Hp}{s:QD}{a:Addr}{kvs:List (dB×V)}{k:dB}{u:Value}{A:Rw}{E:Value->QD->Prop}
end
def P2(i:Ry):Prop:=∀ov iv,X3 i false ov iv=operate [ov,iv] (Wi ov iv)
def N9(td ty:TE):TE:=λσ H Q=>td σ H λx H1=>ty σ H1 λy H2=>∃a v,x=.ref a/\oW H2 a y (some v)/\Q v H2
def O7(ty td:TE):TE:=λσ H Q=>ty σ H λy H1=>td σ H1 λx H2=>∃a o,x=.ref a/\oW H2 a y o/\Q (.bl o.isSome) H2
def Mp(ty td:TE):TE:=λσ H Q=>ty σ H λy H1=>td σ H1 λx H2=>∃a o,x=.ref a/\oW H2 a y o/\Q (.bl (!o.isSome)) H2
def F9(td ty tv:TE):TS:=λD σ H=>tv σ H λv H1=>td σ H1 λx H2=>ty σ H2 λy H3=>∃a H4,x=.ref a/\wj H3 a y v H4/\D.nx σ H4
def Of(td ty tv:TE)(rd:V->V->Hp->VK->Prop):TS:=λD σ H=>td σ H λx H1=>ty σ H1 λy H2=>∃a v,x=.ref a/\oW H2 a y (some v)∧
 tv σ H2 λy2 H3=>rd v y2 H3 λz H4=>∃H5,wj H4 a y z H5/\D.nx σ H5
section
variable {X:Cx}{o i e value:Ry}{pos pos' tpos:UE}{td ty tv:TE}
theorem Eu(hu:X.A.units+1<cLine)(ho:PE X o td)(hi:PE X i ty)(hv:PE X value tv)(hs:UC value (some (.Subscript o i pos')) pos.line X.env=TL false) :
  PS X (.Assign [.Subscript o i pos'] value pos) (F9 td ty tv):=by
 intro pins s σ H D I h;refine wpAny_Assign_Subscript (cL (hv pins s σ H _ I h) λr s1 ⟨v,H1,I1,rv,q1⟩=>cL (ho pins s1 σ H1 _ I1 q1) λu s2 ⟨x,H2,I2,rx,q2⟩=>cL (hi pins s2 σ H2 _ I2 q2) λiv s3 ⟨y,H3,I3,ry,a,H4,ex,g,q3⟩=>?_) hs;subst ex;obtain rfl:u=Rz a:=rx;exact yV hu I3 g ry rv λs4 I4=>⟨σ,H4,I4,q3⟩
end
theorem Di(h:QN)(hb:UG<h.objs.size):ObjOk P w H (h.push { cls:=.type "dict",data:=.dict #[]}) h.objs.size (.dK []):=
 ⟨Re _,beq_eq_false_iff_ne.mpr (Tt (RQ hb)),[],.nil,QN.DictOf.new h⟩
def zT:TE:=λ_ H Q=>∀p,H p=none->Q (.ref p) (upd H p (.dK []))
section
variable {X:Cx}{pos:UE}
theorem B8:PE X (.Dict [] [] pos) zT:=λpins s σ H Q I h=>
 wpAny_Dict_empty ⟨.ref s.heap.objs.size,_,I.laid (a:=s.heap.objs.size) (o:=.dK []) (t':=s.toks) (λ_ _ q=>Qy _ q) (QB _) (Di s.heap I.big),Z,h _ (I.hok.fresh (QB _))⟩
end
def uU:List (TE×TE)->St->Hp->(List (V×V)->Hp->Prop)->Prop
 | [],_,H,Q=>Q [] H
 | (tk,tv)::r,σ,H,Q=>tk σ H λx H1=>tv σ H1 λy H2=>uU r σ H2 λps H3=>Q ((x,y)::ps) H3
abbrev VV:List (V×V)->List (Value×Value)->Prop:=Paired λp q=>br p.1 q.1/\br p.2 q.2
def Qr(X:Cx)(pos:UE)(keys:List (Option Ry))(values:List Ry)(trs:List (TE×TE)):Prop:=
 ∀(pins:List (Addr×Sv)) (s:QD) (σ:St) (H:Hp) (Q:List (V×V)->Hp->Prop),Inv X pins σ H s->uU trs σ H Q→
  Q0 (Q5 X.prog X.w) X.A (evalPairs (pairTrees keys values X.env pos)) (λvs s'=>∃ps H',Inv X pins σ H' s'/\VV ps vs/\Q ps H') X.xe s
def Jz(kvs more:List (dB×V)):List (dB×V):=more.foldl (λacc kv=>ie acc kv.1 kv.2) kvs
def N8(trs:List (TE×TE)):TE:=λσ H Q=>∀p,H p=none->uU trs σ (upd H p (.dK [])) λps H2=>H2 p=some (.dK [])/\∃kvs:List (dB×V),ps=kvs.map (λkv=>(kV kv.1,kv.2))/\kvs.length≤15/\Q (.ref p) (upd H2 p (.dK (Jz [] kvs)))
structure M1(X:Cx)(o:Ry)(m:Rr)(apos:UE)(e:Ry)(cpos:UE):Prop where
 base:Ug o m X.env (eval o X.env)=eval o X.env
 few:((Uv cpos (QV [e] X.env)).all (λx=>!x.1)&&(Y2 cpos (WP [] X.env)).all (λx=>x.1.isSome)
 &&decide (([e]:List Ry).length+([]:List Wj).length+(if([]:List Wj).isEmpty then 0 else 1)<30))=true
 line:(apos.endLine==cpos.line)=true
 trees:Uv cpos (QV [e] X.env)=[(false,eval e X.env)]
structure M2(X:Cx)(o:Ry)(m:Rr)(apos:UE)(e f:Ry)(cpos:UE):Prop where
 base:Ug o m X.env (eval o X.env)=eval o X.env
 few:((Uv cpos (QV [e,f] X.env)).all (λx=>!x.1)&&(Y2 cpos (WP [] X.env)).all (λx=>x.1.isSome)
 &&decide (([e,f]:List Ry).length+([]:List Wj).length+(if([]:List Wj).isEmpty then 0 else 1)<30))=true
 line:(apos.endLine==cpos.line)=true
 trees:Uv cpos (QV [e,f] X.env)=[(false,eval e X.env),(false,eval f X.env)]
def NG(H:Hp)(a:Addr):Prop:=(∃kvs,Rd H a (.dK kvs))∨∃kvs,Rd H a (.dT kvs)
theorem CS{X:Cx}{pins:List (Addr×Sv)}{σ:St}{H:Hp}{s:QD}{a:Addr}(I:Inv X pins σ H s)(d:NG H a) :
  s.TypeIs (.ref a) "dict"/\(∀b,Rz a=.ref b->∃ob,s.heap.get? b=some ob/\ob.dict=none)/\(a==UG)=false:=by
 rcases d with⟨kvs,e⟩ | ⟨kvs,e⟩
 ·obtain⟨_,hd,vs,_,dd⟩:=Dh I.hok e;refine⟨dd.typeIs,λb q=>?_,hd⟩
  cases q
  obtain⟨ob,_,_,h1,h2,_⟩:=dd;exact⟨ob,h1,h2.2.1⟩
 ·obtain⟨_,hd,xs,_,dd⟩:=De I.hok e;refine⟨dd.typeIs,λb q=>?_,hd⟩
  cases q
  obtain⟨ob,_,_,h1,h2,_⟩:=dd;exact⟨ob,h1,h2.2.1⟩
section
variable {X:Cx}{pins:List (Addr×Sv)}{σ:St}{H:Hp}{s:QD}{a:Addr}{y d:V}{u r:Value}{o:Option V}{A:Rw}{E:Value->QD->Prop}
theorem JQ(hu:A.units+1<cLine)(I:Inv X pins σ H s)(g:oW H a y o)(ry:br y u)(rd:br d r)(h:∀w' s',Inv X pins σ H s'->br (o.getD d) w'->Q w' s'):
  Q0 (Q5 X.prog X.w) A (call (.builtin "dict.get") [.ref a,u,r]) Q E s:=by
 rcases g with⟨kvs,k,e,ey,l⟩ | ⟨kvs,k,b,e,ey,eb,l⟩
 ·subst ey;obtain⟨z,hd,vs,rel,dd⟩:=Dh I.hok e;refine call_meetsIn VR dd.typeIs XR (Xj _ _ _) (meets_dict_get_default (ci X.prog X.w) a (CP ry) hd r) ⟨_,dd.mapOf,h _ _ (I.tok _) ?_⟩;rw[l];exact(rel.val k).getD rd
 ·subst ey
  cases(show u=Rz b from ry)
  obtain⟨z,hd,xs,rel,dd⟩:=De I.hok e;refine call_meetsIn VR dd.typeIs XR (Xj _ _ _) (meetsH_dict_get_default (Xe (ci X.prog X.w)) a b hd r) ⟨YO hu,k,xs,vT I.hok eb,dd,h _ _ (I.tok _) ?_⟩;rw[l];exact(rel.val k).getD rd
end
def MU(td ty:TE):TE:=λσ H Q=>td σ H λx H1=>∃a,x=.ref a/\NG H1 a/\ty σ H1 λy H2=>∃o,oW H2 a y o/\Q (o.getD .non) H2
def zU(td ty tx:TE):TE:=λσ H Q=>td σ H λx H1=>∃a,x=.ref a/\NG H1 a/\ty σ H1 λy H2=>tx σ H2 λz H3=>∃o,oW H3 a y o/\Q (o.getD z) H3
section
variable {X:Cx}{o e f:Ry}{apos cpos:UE}{td ty tx:TE}
theorem B9(hu:X.A.units+1<cLine)(ho:PE X o td)(he:PE X e ty)(hf:PE X f tx)(m:M2 X o "get" apos e f cpos):PE X (.Call (.Attribute o "get" apos) [e,f] [] cpos) (zU td ty tx):=by
 intro pins s σ H Q I h;refine Zg m.base m.few m.line Xk VR PySem.F.type_dict_get (cL (ho pins s σ H _ I h) λu s1 ⟨x,H1,I1,rx,a,ex,d,q1⟩=>?_);subst ex;obtain rfl:u=Rz a:=rx;obtain⟨t1,t2,_⟩:=CS I1 d;refine⟨t1,t2,?_⟩;rw[m.trees];refine Calls.callWith_builtin Z (Calls.evalArgs_plain (Calls.spliced_cons (cL (he pins s1 σ H1 _ I1 q1) λiv s2 ⟨y,H2,I2,ry,q2⟩=>
  Calls.spliced_cons (cL (hf pins s2 σ H2 _ I2 q2) λfv s3 ⟨z,H3,I3,rz,ov,g,q3⟩=>Calls.spliced_nil ?_))))
 exact JQ hu I3 g ry rz λw' s4 I4 rw'=>⟨_,H3,I4,rw',q3⟩
end
end L2
namespace B
open PySem PySem.Spec L2 PyProof.Rows
theorem dE{α β:Type}{K:Qu}{H:Hp}{D a:Addr}{xs:List V}{ds:List α}{P:Hp->V->β->Prop}{f:α->β}{src:List (Option Nat)}{σ:L2.St}{g:TG}{tt:TT}{te:TE}{Q:Hp->Prop}
  (mono:∀H H' v d,aI K H H'->P H v d->P H' v d) (hD:H D=none) (hS:bz K H a xs) (hl:xs.length=ds.length) (hn:ds.length≤1000)
  (turn:∀(i:Nat) (x:V) (d:α) (H':Hp),xs[i]?=some x->ds[i]?=some d->aL H H'->∀(R:VK) (E:Hp->Prop),(∀v H'',aL H' H''->P H'' v (f d)->R v H'')→
   g x (da src σ) H' λσ2 H2=>gf (da src σ) σ2/\tt σ2 H2 λok H3=>if ok=true then te σ2 H3 R else E H3)
  (fin:∀H' ys,aL H H'->H' D=some (.lst ys)->Als (P H') ys (ds.map f)->Q H') :
  ∃W:Nat->Nat->List V->Hp->Prop,(∃m,W 0 m [] (upd H D (.lst [])))/\∀i m ys H,W i m ys H->((DI K a).stop i H/\Q H)∨((DI K a).go i H/\∀x H',(DI K a).yld i H x H'→
   g x (da src σ) H' λσ2 H2=>gf (da src σ) σ2/\tt σ2 H2 λok H3=>
    if ok=true then te σ2 H3 λy H4=>H4 D=some (.lst ys)/\ys.length<sizeLine/\∃m',m'<m/\W (i+1) m' (ys++[y]) (upd H4 D (.lst (ys++[y]))) else ∃m',m'<m/\W (i+1) m' ys H3):=by
 refine⟨λi m ys H'=>i≤ds.length/\m=ds.length-i/\H' D=some (.lst ys)/\aL H H'/\Als (P H') ys ((ds.take i).map f),⟨_,Re _,Z,ao,au hD _,.nil⟩,?_⟩;rintro i m ys H1 ⟨hi,rfl,d1,s1,al1⟩;have hS1:bz K H1 a xs:=aI.same s1 _ _ hS;by_cases hix:i<ds.length
 ·have hx0:xs[i]?=some (xs[i]' ω):=Qw _;refine .inr ⟨⟨xs,_,hS1,hx0⟩,?_⟩;rintro x H2 ⟨rfl,hy⟩;have hx:=hy xs hS1;obtain⟨d,hd⟩:∃d,ds[i]?=some d:=⟨_,Qw hix⟩;refine turn i x d _ hx hd s1 _ _ λv H3 s3 p3=>?_
  have d3:H3 D=some (.lst ys):=s3 _ _ d1;have tm:aI K H2 (upd H3 D (.lst (ys++[v]))):=(aI.same s3).trans (aI.up d3 _);refine⟨d3,be (by rw[al1.len,Qz,Rs];omega),ds.length-(i+1),ω,hix,Z,ao,λb o q=>?_,?_⟩
  ·rw[aJ (aX q hD)];exact s3 _ _ (s1 _ _ q)
  ·rw[Rn,hd,RW];exact(al1.mono λv d p=>mono _ _ _ _ tm p).snoc (mono _ _ _ _ (aI.up d3 _) p3)
 ·have e:i=ds.length:=ω
  subst e;rw[RB] at al1;exact .inl ⟨⟨xs,hS1,ω⟩,fin H1 ys s1 d1 al1⟩
def OR:Ri->String
 | .none => "NoneType"
 | .bool _ => "bool"
 | .int _ => "int"
 | .str _ => "str"
 | .list _ => "list"
 | .tuple _ => "tuple"
 | .dict _ => "dict"
def K8(K:Qu):List V->Hp->VK->Prop:=λxs H Q=>∃v d n b,xs=[v,.ty n]/\bX K H v d/\wY (OR d) n=some b/\Q (.bl b) H
theorem d8:dF X (.builtin "isinstance") (K8 X.K):=by
 intro pins s σ H xs us Q I r h;obtain⟨v,d,n,b,rfl,hD,e,q⟩:=h
 cases hD with
 |non=>exact gR pins s σ H _ us Q I r ⟨_,n,_,b,Z,.non,e,q⟩
 |bl c=>exact gR pins s σ H _ us Q I r ⟨_,n,_,b,Z,.bl c,e,q⟩
 |int i=>exact gR pins s σ H _ us Q I r ⟨_,n,_,b,Z,.int i,e,q⟩
 |str x=>exact gR pins s σ H _ us Q I r ⟨_,n,_,b,Z,.str x,e,q⟩
 | @tup a ys ds hS hA=>exact zd pins s σ H _ us Q I r ⟨a,ys,n,b,Z,hS,e,q⟩
 | @lst a ys ds hS hA=>
  obtain⟨u,u2,rfl,rx,ry⟩:=pK r;obtain rfl:u2=Vv n:=ry
  cases(show u=Rz a from rx)
  obtain⟨its,_,⟨o,k,h1,h2,_⟩,_⟩:=I.list hS;exact Se WO I.kIn ⟨o,h1,h2⟩ (vS e) (λz=>nomatch z) λtk=>⟨.bl b,H,I.tok tk,Z,q⟩
def MO:Ri->Bool
 | .int _=>true
 |_=>false
def OT(n:Nat):Ri->Bool
 | .tuple xs=>decide (xs.length=n)
 |_=>false
def KZ:Ri->Bool
 | .tuple [.int a,.int b]=>decide (1≤b)&&decide (Q1 a b=1)
 |_=>false
def Oo:Ri->Bool
 | .tuple [x,y]=>KZ x&&KZ y
 |_=>false
structure Sh(k n:Nat)(d:Ri):Prop where
 sh:d.showable=true
 nd:d.hasDict=false
 dp:d.depth≤k
 sz:d.shown.length≤n
mutual
theorem bX.same{K:Qu}{H H':Hp}(s:aL H H'):∀{v:V} {d:Ri},bX K H v d->bX K H' v d
 |_,_,.non=>.non
 |_,_,.bl b=>.bl b
 |_,_,.int i=>.int i
 |_,_,.str x=>.str x
 |_,_,.lst e t=>.lst (s.seq e) (bx.same s t)
 |_,_,.tup e t=>.tup (aI.same s _ _ e) (bx.same s t)
theorem bx.same{K:Qu}{H H':Hp}(s:aL H H'):∀{vs:List V} {ds:List Ri},bx K H vs ds->bx K H' vs ds
 |_,_,.nil=>.nil
 |_,_,.cons h t=>.cons (bX.same s h) (bx.same s t)
end
theorem wP:ir X (Sw .IsNot) (λx y H Q=>∃b c,x=.bl b/\y=.bl c/\Q (.bl (!decide (b=c))) H):=by
 intro pins s σ H x y v u Q I rx ry h;obtain⟨b,c,rfl,rfl,q⟩:=h;obtain rfl:v=UY b:=rx;obtain rfl:u=UY c:=ry;refine wpAny_isNot_plain (by cases b<;>cases c<;>rfl) ⟨.bl _,H,I,?_,q⟩
 cases b<;>cases c<;>rfl
end B
namespace B
open PySem PySem.Spec L2 PyProof.Rows
def La(K:Qu):R2:=λx y H Q=>∃a b xs ys,x=.ref a/\y=.ref b/\bz K H a xs/\bz K H b ys/\xs.length+ys.length≤sizeLine/\∀p H',aL H H'->bz K H' p (xs++ys)->Q (.ref p) H'
theorem jh:ir X (Ua .Add) (La X.K):=by
 intro pins s σ H x y v u Q I rx ry h;obtain⟨a,b,xs,ys,rfl,rfl,ha,hb,hz,q⟩:=h;by_cases hx:xs=[]
 ·subst hx
  cases rx
  cases ry
  obtain⟨its,r1,p1,_⟩:=I.tuple ha;obtain⟨its2,r2,p2,_⟩:=I.tuple hb;have e0:its=[]:=r1.nil_iff.mpr Z;subst e0;obtain⟨⟨cls,dd,data,sl⟩,ho,hc,n,hd⟩:=id p1;obtain⟨⟨cls2,dd2,data2,sl2⟩,ho2,hc2,n2,hd2⟩:=id p2;simp only at hc hd hc2 hd2;subst hc hd hc2 hd2;exact Y3 ⟨_,ho,Z⟩ ⟨_,ho2,Z⟩ Xg Yv VH Vz (Vn _ _)
   (tuple_addW0 a b _ _ n n2 dd dd2 sl sl2 (by simp)) ⟨ho,ho2,⟨.ref b,H,I,Z,q b H (aL.refl H) hb⟩⟩
 ·refine ET pins s σ H _ _ v u Q I rx ry ⟨a,b,xs,ys,Z,Z,ha,hb,hx,hz,λe=>?_,λ_ p hp=>?_⟩
  ·subst e;exact q a H (aL.refl H) (by rw[R6];exact ha)
  ·exact q p _ (au hp _) (bz.of ao)
def M0(K:Qu):V->Option Int->Option Int->Hp->VK->Prop:=λx lo hi H Q=>∃a xs,x=.ref a/\bz K H a xs/\∀p H',aL H H'->bz K H' p (gQ xs lo hi)->Q (.ref p) H'
theorem h8:zw X (M0 X.K):=by
 intro pins s σ H x v vl vu lo hi sl Q I rx hs pl pu h;obtain⟨a,xs,rfl,hx,q⟩:=h;refine D5 pins s σ H _ v vl vu lo hi sl Q I rx hs pl pu ?_;by_cases c:HT.sIx xs.length 0 lo=0/\HT.sIx xs.length xs.length hi=xs.length
 ·refine .inl ⟨a,xs,Z,hx,c.1,c.2,q a H (aL.refl H) ?_⟩;have e:gQ xs lo hi=xs:=by
   unfold gQ;rw[c.1,c.2,WA,XJ,RB]
  rw[e];exact hx
 ·exact .inr ⟨a,xs,Z,hx,c,λp hp=>q p _ (au hp _) (bz.of ao)⟩
theorem vZ{xs:List V}(h:n≤xs.length):gQ xs none (some (n:Int))=xs.take n:=by
 unfold gQ;rw[HT.sIx_nat,HT.sIx_none,Wa h,XJ,WA]
theorem uC{xs:List V}(h:n≤xs.length):gQ xs (some (n:Int)) none=xs.drop n:=by
 unfold gQ;rw[HT.sIx_nat,HT.sIx_none,Wa h];exact UM (by rw[Sj];omega)
def PV(K:Qu)(s:Addr):Prop:=∃ns:List Int,ns.length≤63/\∀H:Hp,aZ K H s (ns.map V.int)
structure Dy(K:Qu)(H:Hp)(t s:Addr):Prop where
 ex:∃(ns:List Int) (p q:Int),H t=some (.lst [.ref s,.int p,.int q])/\((Rd H s (.lst (ns.map V.int))/\s≠t)∨∀H',aZ K H' s (ns.map V.int))/\ns.length≤63/\0≤p/\0≤q
def KP(K:Qu):Sp:=λvs H Q _=>∃(a:Addr) (ns:List Int),vs=[.ref a]/\aZ K H a (ns.map V.int)/\ns.length≤63/\∀(t:Addr) (H':Hp),aL H H'->H t=none->Dy K H' t a->Q (.ref t) H'
def KQ(K:Qu):Sp:=λvs H Q _=>∃(t s:Addr) (m:Int),vs=[.ref t,.int m]/\Dy K H t s/\0<m/\m<1073741824/\∀(r:Int) (xs:List V),0≤r->r<m->Dy K (upd H t (.lst xs)) t s->Q (.int r) (upd H t (.lst xs))
section
set_option autoImplicit true
set_option relaxedAutoImplicit true
theorem eV{X:Cx}{elts:List Ry}{x1}{tp p pos:UE}{a:Ry}{ta:TA}(hg:Gl X "enumerate")(hm:X.mg "enumerate"=none)(ha:QA X [a] ta)(hs:QV [a] X.env=[(false,eval a X.env)]:=by rfl):QI X (.Tuple elts x1 tp) (.Call (.Name "enumerate" p) [a] [] pos) (LL X.K ta):=⟨EB hg hm ha.p hs⟩
theorem kF{X:Cx}{elts:List Ry}{x1}{tp p pos:UE}{a:Ry}{ta:TA}(hg:Gl X "enumerate")(hm:X.mg "enumerate"=none)(ha:QA X [a] ta)(hs:QV [a] X.env=[(false,eval a X.env)]:=by rfl):QI X (.Tuple elts x1 tp) (.Call (.Name "enumerate" p) [a] [] pos) (LM X.K ta):=⟨B3 hg hm ha.p hs⟩
end
theorem m9:∀{ns:List Int} {us:List Value},bu (ns.map V.int) us->XH us ns
 | [],_,.nil=>.nil
 |n::ns,_,.cons r t=>by
  obtain⟨tk,rfl⟩:=(show ∃t,_=Tv n t from r);exact .cons _ _ (m9 t)
theorem yY(hc:X.calm=true):dF X (.builtin "sum") (λxs H Q=>∃(p:Addr) (ns:List Int),xs=[.ref p]/\aZ X.K H p (ns.map V.int)/\Q (.int ns.sum) H):=by
 intro pins s σ H xs us Q I r h;obtain⟨p,ns,rfl,hq,q⟩:=h;obtain⟨u,rfl,rx⟩:=fP r
 cases rx
 obtain⟨its,rv,pl,hz⟩:=I.list hq;have hi:=m9 rv;obtain⟨zs,ez⟩:=hi.allInts.items;have hl:=pl.isList;rw[ez] at hl;have en:numsOf its=ns:=hi.numsOf;rw[show its=its.toArray.toList from Z,ez,YA] at en;refine sum_intListG (I.ok.hd hc) hl λh' tk t' hk=>?_
 rw[preSum_eq,UM (by simp),en];exact⟨.int ns.sum,H,I.kept (t':=tk) hk,⟨_,Z⟩,q⟩
theorem uH:∀{bs:List Bool} {us:List Value},bu (bs.map V.bl) us->∀{i:Nat} {v:Value},us[i]?=some v->v=.bool (bs.getD i true)
 | [],_,.nil,i,v,e=>by cases e
 |b::bs,_,.cons r t,0,v,e=>by
  rw[VC] at e
  cases e
  exact(show _=UY b from r)
 |b::bs,_,.cons r t,i+1,v,e=>by
  rw[VD] at e;exact uH t e
theorem qo:∀(bs:List Bool),(Qv bs.length).all (λi=>bs.getD i true)=bs.all id
 | []=>rfl
 |b::bs=>by
  rw[Rh,VM,WZ,List.all_map,WZ];have:=qo bs;show(b&&(Qv bs.length).all (λi=>bs.getD i true))=(id b&&bs.all id);rw[this];rfl
theorem l4(hc:X.calm=true):dF X (.builtin "all") (λxs H Q=>∃(p:Addr) (bs:List Bool),xs=[.ref p]/\aZ X.K H p (bs.map V.bl)/\Q (.bl (bs.all id)) H):=by
 intro pins s σ H xs us Q I r h;obtain⟨p,bs,rfl,hq,q⟩:=h;obtain⟨u,rfl,rx⟩:=fP r
 cases rx
 obtain⟨its,rv,pl,hz⟩:=I.list hq;have ne:p≠s.heap.objs.size:=by
  obtain⟨o,ho,_⟩:=pl.isList;exact RQ (QY ho)
 have hlen:its.toArray.size=bs.length:=by rw[QX,←rv.length,Qz]
 refine call_all_walk (VE pl.isList ?_);refine⟨_,_,_,_,_,_,λi=>bs.getD i true,Z,Walks.list (A:=X.A.in1) (I.ok.hd hc) _ p ne its.toArray,⟨⟨_,QZ _ Z,Z,Z⟩,pl.isList.push _⟩,λi v s' Q' E' hv hQ=>?_,λh' tk hk=>?_⟩
 ·have e:=uH rv (i:=i) (v:=v) (by simpa using hv);subst e;exact TV hQ
 ·rw[hlen,qo];refine⟨.bl _,H,I.kept (t':=tk) λb o e=>hk b o (λz=>?_) (Qy _ e),Z,q⟩;rw[QK.mp z] at e;exact absurd (QY e) (RY _)
section
variable {prog:Rp}{w:RF}{A:Rw}{E:Value->QD->Prop}{s:QD}
theorem pC{a b c:Int}{n:Nat}(hh:A.handled=none)(hr:Yg s.heap r a b c t u v)(hsmall:Uz a b c=true)
  (hn:Si a b c=n) (hlen:n≤2^24)
  (hQ:∀h' tk acc,(∀b o,s.heap.get? b=some o->h'.get? b=some o)->ItemsOf (λi v=>∃t,v=.int (a+i*c) t) acc n->Q acc.toList { s with heap:=h',toks:=tk}):
  Q0 (Q5 prog w) A (collect (.ref r)) Q E s:=by
 unfold collect;refine Qx (wpAny_runValue (codeAny_builtin F.entry_proto_collect ?_));rw[Yc F.plain_proto_collect _];show Q0 _ A.in1 (newList [] >>= λl=>again (.builtin "list.__iadd__" ⟨[l,.ref r],[]⟩)) _ _ s;refine Qx (Sn ?_);refine wpAny_pure ⟨plainId_quiet F.plain_list_iadd _,codeAny_builtin F.entry_list_iadd ?_⟩;rw[Yc F.plain_list_iadd _];show Q0 _ A.in1 (Rb.List.listExtendWith (.ref s.heap.objs.size) (.ref r) (.ref s.heap.objs.size)) _ _ { s with heap:=s.heap.push { cls:=.type "list",data:=.seq ([]:List Value).toArray} };refine wpAny_extend_range (R:=wants (λv s'=>Q0 (Q5 prog w) A (match v with | .ref a=>(do match (←load a).data with | .seq xs _=>TL xs.toList|_=>unsupported "internal:collect")|_=>unsupported "internal:collect") Q E s') E) (s:={ s with heap:=s.heap.push { cls:=.type "list",data:=.seq ([]:List Value).toArray} }) hh (Qy _ hr) hsmall hn hlen s.heap.objs.size _ _ (QZ _ rfl) λh' tk acc' c' hk hS hI=>?_
 show Q0 _ A (load s.heap.objs.size >>= _) _ _ _;refine Qx (wpAny_load hS ?_);exact wpAny_pure (hQ h' tk acc' (λb o e=>hk b o (RQ (QY e)) (Qy _ e)) hI)
theorem kL{a b c:Int}{n:Nat}(hsmall:Uz a b c=true)(hn:Si a b c=n)(hlen:n≤2^24):
  Meets (Rb.«tuple.__new__» ⟨[.type "tuple",.ref r],[]⟩)
   (λA R s=>A.handled=none/\Yg s.heap r a b c t u v/\∀(h':QN) (tk:Nat) (acc:Array Value),(∀b o,s.heap.get? b=some o->h'.get? b=some o)->ItemsOf (λi v=>∃t,v=.int (a+i*c) t) acc n→
    R (.ok (.ret (.ref h'.objs.size))) { s with heap:=h'.push { cls:=.type "tuple",data:=.seq acc},toks:=tk}):=
 .of_wp λprog w A R s h=>by
  obtain⟨hh,hr,h⟩:=h;have hsub:=sub_tuple_self;have hinit:=init_tuple_lookup;have hmh:=madeHere_tuple;have hT:s.TypeIs (.ref r) "range" := ⟨_,hr,Z⟩;have hh1:A.in1.handled=none:=hh
  wp_walk using XG hT,pC hh1 hr hsmall hn hlen
  intro h' tk acc hk hacc;show Q0 _ _ (SS acc.toList.toArray >>= λv=>ret v) _ _ _;unfold SS;refine Qx (Sn ?_ (show acc.toList.toArray.size≤sizeLine by simp only[Array.toArray_toList];rw[hacc.1,WL];exact hlen));refine wpAny_pure ⟨_,Z,?_⟩;have e:acc.toList.toArray=acc:=by simp
  rw[e];exact h h' tk acc hk hacc
theorem lZ{a b c:Int}{n:Nat}(hh:A.handled=none)(hr:Yg s.heap r a b c t u v)(hsmall:Uz a b c=true)
  (hn:Si a b c=n) (hlen:n≤2^24)
  (hQ:∀(h':QN) (tk:Nat) (acc:Array Value),(∀b o,s.heap.get? b=some o->h'.get? b=some o)->ItemsOf (λi v=>∃t,v=.int (a+i*c) t) acc n->Q (.ref h'.objs.size) { s with heap:=h'.push { cls:=.type "tuple",data:=.seq acc},toks:=tk}):
  Q0 (Q5 prog w) A (call (.type "tuple") [.ref r]) Q E s:=by
 refine Ze F.called_tuple δ (F.typeCall_tuple_1 _) (F.newCall_tuple_1 _) (λobj=>F.args_object_init_2 obj _) F.entry_tuple_new
  (kL hsmall hn hlen) ⟨hh,hr,λh' tk acc hk hacc=>⟨⟨_,QZ _ Z,Z⟩,hQ h' tk acc hk hacc⟩⟩
end
def upTo(n:Nat):List Int:=(Qv n).map λi:Nat=>(i:Int)
theorem nk(h:ItemsOf (λi v=>∃t,v=.int ((0:Int)+i*1) t) acc n):bu ((upTo n).map V.int) acc.toList:=by
 obtain⟨hl,ha⟩:=h;have key:∀m,m≤n->bu ((upTo m).map V.int) (acc.toList.take m):=by
  intro m
  induction m with
  |zero=>intro _;rw[Uo];exact .nil
  |succ m ih=>
   intro hm;have hlt:m<acc.size:=ω
   have e1:acc.toList.take (m+1)=acc.toList.take m++[acc[m]]:=by
    rw[Rn];simp[hlt]
   have e2:(upTo (m+1)).map V.int=(upTo m).map V.int++[V.int m]:=by
    unfold upTo;rw[Sf];simp
   rw[e1,e2];refine(ih ω).append (.cons ?_ .nil);obtain⟨t,e⟩:=ha m acc[m] (by simp[hlt]);exact⟨t,by rw[e];simp⟩
 have:=key n (QB _)
 rwa [UM (by simp[hl])] at this
def FY(ta:TA):TE:=λσ H Q=>ta σ H λvs H1=>∃j:Int,vs=[.int j]/\∀p,H1 p=none->Q (.ref p) (upd H1 p (.rng 0 j))
theorem EG{X:Cx}{a:Ry}{ta:TA}{p pos:UE}(hg:Gl X "range")(hm:X.mg "range"=none)(ha:PA X [a] ta)(hs:QV [a] X.env=[(false,eval a X.env)]:=by rfl) :
  PE X (.Call (.Name "range" p) [a] [] pos) (FY ta):=by
 intro pins s σ H Q I h;refine Call_ (ik I hg hm Z7 (Sc (cL (ha pos pins s σ H _ I h) λus s1 ⟨vs,H1,I1,r1,q1⟩=>?_) hs Z));obtain⟨j,e,q⟩:=q1;subst e;obtain⟨u,rfl,t,rfl⟩:=fP r1;refine call_range_1 ?_;exact⟨.ref s1.heap.objs.size,_,I1.laid (o:=.rng 0 j) (λb o e=>Qy _ e) (QB _) ⟨_,t,_,QZ _ Z⟩,Z,q _ (I1.hok.fresh (QB _))⟩
theorem wF(n:Nat):Si 0 n 1=n:=by rw[rangeSize_one];split<;>omega
theorem uG(hc:X.calm=true):dF X (.type "tuple") (λxs H Q=>∃p,∃n:Nat,xs=[.ref p]/\H p=some (.rng 0 n)/\n≤1000/\∀l,H l=none->Q (.ref l) (upd H l (.tup ((upTo n).map V.int)))):=by
 intro pins s σ H xs us Q I r h;obtain⟨p,n,rfl,hp,hn,q⟩:=h;obtain⟨u,rfl,rx⟩:=fP r
 cases rx
 obtain⟨t,u,w,e⟩:=(show ObjOk X.prog X.w H s.heap p (.rng 0 n) from I.hok p _ hp);refine lZ (I.ok.hd hc) (show Yg s.heap p 0 n 1 t u w from e) (small_one ω ω ω ω) (wF n) ω λh' tk acc hk hi=>?_
 have rv:=nk hi;have I1:Inv X pins σ H { s with heap:=h',toks:=tk}:=I.kept (t':=tk) hk;have hl:(upTo n).length=n:=by unfold upTo;simp
 have I2:Inv X pins σ (upd H h'.objs.size (.tup ((upTo n).map V.int))) { s with heap:=h'.push { cls:=.type "tuple",data:=.seq acc},toks:=tk}:=
  I1.laid (t':=tk) (λb o e=>Qy _ e) (QB _) (show ObjOk X.prog X.w _ _ _ (.tup ((upTo n).map V.int)) from⟨by rw[Qz,hl,WL];omega,acc.toList,rv,by have:=Ye h' acc;simpa using this⟩)
 exact⟨.ref h'.objs.size,_,I2,Z,q _ (I1.hok.fresh (QB _))⟩
def Md(hi:Int)(n:Nat):It:=⟨λi _=>i<n,λi H x H'=>H'=H/\x=.int (hi-i),λi _=>n≤i⟩
theorem xS{P:Rp}{w:RF}{K:Qu}{tg:Ry}(it:Addr)(lo:Int)(n:Nat):uI P w K tg (Md lo n) [it] it (λi h=>X2 h it (lo+(i:Nat)*(-1)) ((n:Int)-(i:Nat)) (-1)) where
 mem:=by simp
 obj:=λi h st b hb=>by
  have e:b=it:=by simpa using hb
  subst e;exact⟨_,st,λv z=>by
   have z':WK _=Wr v:=z
   cases z'⟩
 keep:=λi h h' st k=>k it (by simp) _ st
 item:=by
  intro X hP hw hK hc i pins s σ H E I hf st hg;subst hP hw hK;obtain⟨f0,f1,f2,f3,f4,f5⟩:=hf it (by simp);have W:=Walks.range (prog:=X.prog) (w:=X.w) (I.ok.hd hc) it lo (-1) n;refine W.item i s _ _ hg st λv h' tk hv st' kk=>?_
  obtain⟨t,rfl⟩:=hv;have I1:Inv X pins σ H { s with heap:=h',toks:=tk}:=I.turned (λb o hb e=>kk b o (by simpa using hb) e) f0 f1 f3 f4 f5;refine⟨_,rfl,xf (s:={ s with heap:=h',toks:=tk}) (n := "range_iterator") st' rfl rfl δ ⟨.int (lo-i),H,I1,⟨t,?_⟩,⟨rfl,rfl⟩,st',λb hb=>(hf b hb).1⟩⟩;rw[show lo+(i:Int)*(-1)=lo-i by omega]
 done:=by
  intro X hP hw hK hc i pins s σ H E I hf st hg;subst hP hw hK;obtain⟨f0,f1,f2,f3,f4,f5⟩:=hf it (by simp);exact Xv (I.ok.hd hc) st (by have:n≤i:=hg;omega) λh' eb=>⟨Z,I.turned (t':=s.toks) (λb o hb e=>eb b o hb e) f0 f1 f3 f4 f5⟩
 self:=λ_ _ _ _ _ st h=>Xw st h
theorem pR(a b:Int):Si a b (-1)=((a-b).toNat:Nat):=by
 unfold Si;rw[if_neg δ]
 split
 ·rw[show(-(-1):Int)=1 by decide,XE];omega
 ·omega
theorem u5(ha:-1000≤a)(ha':a≤1000)(hb:-1000≤b)(hb':b≤1000):Uz a b (-1)=true:=by
 unfold Uz;rw[pR];simp only[Rb.Range.rangeFitsLong,Ra,Vu,decide_eq_true_eq,beq_iff_eq,show ¬(-1:Int)>0 by decide,if_false];omega
def Gj(ta:TA):TI:=λσ H R=>ta σ H λvs H1=>∃i j:Int,vs=[.int i,.int j,.int (-1)]/\(-1000≤i/\i≤1000/\-1000≤j/\j≤1000)/\R (Md i (i-j).toNat) H1
theorem yo{X:Cx}{tg:Ry}{a b c:Ry}{ta:TA}{p pos:UE}(hg:Gl X "range")(hm:X.mg "range"=none)(ha:PA X [a,b,c] ta)(hs:QV [a,b,c] X.env=[(false,eval a X.env),(false,eval b X.env),(false,eval c X.env)]:=by rfl)(hs2:QV [b,c] X.env=[(false,eval b X.env),(false,eval c X.env)]:=by rfl) :
  PI X tg (.Call (.Name "range" p) [a,b,c] [] pos) (Gj ta):=by
 intro pins s σ H R I h;refine Call_ (ik I hg hm Z7 (Sc (cL (ha pos pins s σ H _ I h) λus s1 ⟨vs,H1,I1,r1,q1⟩=>?_) (by rw[hs,hs2]) (by rw[hs2];rfl)));obtain⟨i,j,e,⟨q1,q2,q3,q4⟩,q⟩:=q1;subst e
 cases r1 with
 |cons r rr=>
  cases rr with
  |cons r' rr=>
   cases rr with
   |cons r'' rr=>
    cases rr
    obtain⟨t,rfl⟩:=r;obtain⟨t',rfl⟩:=r';obtain⟨t'',rfl⟩:=r'';refine call_range_3 δ ?_ (.inl (Xx δ));refine YF (Yg.new ..) (u5 q1 q2 q3 q4) ?_;have I2:Inv X pins σ H1 { s1 with heap:=s1.heap.push { cls:=.type "range",data:=.fields #[.int i t,.int j t',.int (-1) t'']},toks:=s1.toks}:=I1.kept λb o e=>Qy _ e
    refine⟨(s1.heap.push { cls:=.type "range",data:=.fields #[.int i t,.int j t',.int (-1) t'']}).objs.size,[(s1.heap.push { cls:=.type "range",data:=.fields #[.int i t,.int j t',.int (-1) t'']}).objs.size],_,_,H1,Z,
     I2.kept (t':=s1.toks) λb o e=>Qy _ e,xS _ i (i-j).toNat,?_,λb hb=>?_,q⟩
    ·have e1:i+((0:Nat):Int)*(-1)=i:=by simp
     have e2:(((i-j).toNat:Nat):Int)-((0:Nat):Int)=Si i j (-1):=by rw[pR];omega
     show X2 _ _ (i+((0:Nat):Int)*(-1)) ((((i-j).toNat:Nat):Int)-((0:Nat):Int)) (-1);rw[e1,e2];exact QZ _ Z
    ·have e:b=(s1.heap.push { cls:=.type "range",data:=.fields #[.int i t,.int j t',.int (-1) t'']}).objs.size:=by simpa using hb
     subst e;exact I2.fpOk (QB _) (I2.hok.fresh (QB _))
theorem C2{hi:Int}{n:Nat}{g:TG}{tb:TS}{D:iE}{σ:L2.St}{H:Hp}(Pv:Nat->L2.St->Hp->Prop)(h0:Pv 0 σ H)
  (hs:∀i σ H,i<n->Pv i σ H->g (.int (hi-i)) σ H λσ2 H2=>tb { D with nx:=Pv (i+1),ct:=Pv (i+1),bk:=D.nx} σ2 H2) (hd:∀σ H,Pv n σ H->D.nx σ H) :
  ∃W:Nat->Nat->L2.St->Hp->Prop,(∃m,W 0 m σ H)/\∀i m σ H,W i m σ H→
   ((Md hi n).stop i H/\D.nx σ H)∨((Md hi n).go i H/\∃N:L2.St->Hp->Prop,(∀σ' H',N σ' H'->∃m',m'<m/\W (i+1) m' σ' H')/\∀x H',(Md hi n).yld i H x H'->g x σ H' λσ2 H2=>tb { D with nx:=N,ct:=N,bk:=D.nx} σ2 H2):=by
 refine⟨λi m σ H=>m=n-i/\i≤n/\Pv i σ H,⟨_,Z,Re _,h0⟩,?_⟩;rintro i m σ H ⟨rfl,hi',p⟩;by_cases hlt:i<n
 ·refine .inr ⟨hlt,Pv (i+1),λσ' H' p'=>⟨n-(i+1),ω,Z,hlt,p'⟩,λx H' y=>?_⟩;obtain⟨rfl,rfl⟩:=y;exact hs i σ _ hlt p
 ·have e:i=n:=ω
  subst e;exact .inl ⟨QB _,hd σ H p⟩
section
set_option autoImplicit true
set_option relaxedAutoImplicit true
theorem rE{X:Cx}{a:Ry}{ta:TA}{p pos:UE}(hg:Gl X "range")(hm:X.mg "range"=none)(ha:QA X [a] ta)(hs:QV [a] X.env=[(false,eval a X.env)]:=by rfl):QE X (.Call (.Name "range" p) [a] [] pos) (FY ta):=⟨EG hg hm ha.p hs⟩
theorem yj{X:Cx}{tg:Ry}{a b c:Ry}{ta:TA}{p pos:UE}(hg:Gl X "range")(hm:X.mg "range"=none)(ha:QA X [a,b,c] ta)(hs:QV [a,b,c] X.env=[(false,eval a X.env),(false,eval b X.env),(false,eval c X.env)]:=by rfl)(hs2:QV [b,c] X.env=[(false,eval b X.env),(false,eval c X.env)]:=by rfl):QI X tg (.Call (.Name "range" p) [a,b,c] [] pos) (Gj ta):=⟨yo hg hm ha.p hs hs2⟩
end
structure Kj(J:It)(H:Hp)(n:Nat)(P:Nat->V->Hp->Prop):Prop where
 go:∀i H',i<n->aL H H'->J.go i H'
 stop:∀H',aL H H'->J.stop n H'
 yld:∀i H' x H'',i<n->aL H H'->J.yld i H' x H''->aL H' H''/\P i x H''
theorem fF{K:Qu}{H:Hp}{a:Addr}{xs:List V}(h:aZ K H a xs):Kj (DJ K a) H xs.length (λi x _=>xs[i]?=some x) where
 go:=λi H' hi s=>⟨xs,_,s.seq h,Qw hi⟩
 stop:=λH' s=>⟨xs,s.seq h,QB _⟩
 yld:=λi H' x H'' hi s y=>by obtain⟨rfl,hy⟩:=y;exact⟨aL.refl _,hy xs (s.seq h)⟩
theorem wo{K:Qu}{H:Hp}{a:Addr}{xs:List V}(h:bz K H a xs):Kj (DI K a) H xs.length (λi x _=>xs[i]?=some x) where
 go:=λi H' hi s=>⟨xs,_,aI.same s _ _ h,Qw hi⟩
 stop:=λH' s=>⟨xs,aI.same s _ _ h,QB _⟩
 yld:=λi H' x H'' hi s y=>by obtain⟨rfl,hy⟩:=y;exact⟨aL.refl _,hy xs (aI.same s _ _ h)⟩
theorem qA{K:Qu}{H:Hp}{a:Addr}{xs:List V}(h:bz K H a xs):Kj (DB K a) H xs.length (λi v H'=>∃p x,v=.ref p/\xs[i]?=some x/\H' p=some (.tup [.int i,x])) where
 go:=λi H' hi s=>⟨xs,_,aI.same s _ _ h,Qw hi⟩
 stop:=λH' s=>⟨xs,aI.same s _ _ h,QB _⟩
 yld:=λi H' x H'' hi s y=>by obtain⟨p,v,hp,rfl,rfl,hy⟩:=y;exact⟨au hp _,p,v,Z,hy xs (aI.same s _ _ h),ao⟩
theorem qC{K:Qu}{H:Hp}{a:Addr}{xs:List V}(h:aZ K H a xs):Kj (DC K a) H xs.length (λi v H'=>∃p x,v=.ref p/\xs[i]?=some x/\H' p=some (.tup [.int i,x])) where
 go:=λi H' hi s=>⟨xs,_,s.seq h,Qw hi⟩
 stop:=λH' s=>⟨xs,s.seq h,QB _⟩
 yld:=λi H' x H'' hi s y=>by obtain⟨p,v,hp,rfl,rfl,hy⟩:=y;exact⟨au hp _,p,v,Z,hy xs (s.seq h),ao⟩
theorem cw(w:Kj J H n P)(c:Nat->Bool)(f:Nat->V)(hD:H D=none)(hn:n≤1000)
  (turn:∀(i:Nat) (x:V) (H':Hp),i<n->aL H H'->P i x H'->∀(R:VK) (E:Hp->Prop),(c i=true->∀H'',aL H' H''->R (f i) H'')->(c i=false->∀H'',aL H' H''->E H'')→
   g x (da src σ) H' λσ2 H2=>gf (da src σ) σ2/\tt σ2 H2 λok H3=>if ok=true then te σ2 H3 R else E H3)
  (fin:∀H',aL H H'->H' D=some (.lst (((Qv n).filter c).map f))->Q H'):
  NO J D H src σ g tt te Q:=by
 refine⟨λi m ys H'=>i≤n/\m=n-i/\ys=((Qv i).filter c).map f/\aL H H'/\H' D=some (.lst ys),⟨_,Re _,Z,Z,au hD _,ao⟩,?_⟩;rintro i m ys H1 ⟨hi,rfl,rfl,s1,d1⟩;by_cases hix:i<n
 ·refine .inr ⟨w.go i H1 hix s1,λx H2 y=>?_⟩;obtain⟨s2,p⟩:=w.yld i H1 x H2 hix s1 y;have d2:=s2 _ _ d1;have len:(((Qv i).filter c).map f).length≤i:=by
   rw[Qz];exact Rm (RU _ _) (by rw[RL];exact QB _)
  refine turn i x H2 hix (s1.trans s2) p _ _ (λhc H3 s3=>?_) λhc H3 s3=>?_
  ·have d3:=s3 _ _ d2;refine⟨d3,be ω,n-(i+1),ω,hix,Z,?_,λb o q=>?_,ao⟩
   ·rw[Sf,Tx,RW];simp[hc]
   ·rw[aJ (aX q hD)];exact s3 _ _ (s2 _ _ (s1 _ _ q))
  ·refine⟨n-(i+1),ω,hix,Z,?_,(s1.trans s2).trans s3,s3 _ _ d2⟩;rw[Sf,Tx,RW];simp[hc]
 ·have e:i=n:=ω
  subst e;exact .inl ⟨w.stop H1 s1,fin H1 s1 d1⟩
theorem fg{α β:Type}(d:α)(p:α->Bool)(f:α->β):∀l:List α,((Qv l.length).filter λi=>p (l.getD i d)).map (λi=>f (l.getD i d))=(l.filter p).map f
 | []=>rfl
 |x::l=>by
  have ih:=fg d p f l;rw[Rh,VM,ZF,ZF];have e:(((Qv l.length).map Nat.succ).filter λi=>p ((x::l).getD i d)).map (λi=>f ((x::l).getD i d))=(l.filter p).map f:=by
   rw[List.filter_map,S0];exact ih
  show(if p x=true then _ else _:List Nat).map _=_
  cases hp:p x with
  |true=>
   simp only[if_true,RC];rw[e];rfl
  |false=>
   simp only[Tz,if_false];exact e
theorem eB{α β:Type}(d:α)(f:α->β)(l:List α):((Qv l.length).filter λ_=>true).map (λi=>f (l.getD i d))=l.map f:=by
 have:=fg d (λ_=>true) f l;rw[this,RP.mpr (by intros;rfl)]
theorem aB{α:Type}{l:List α}{i:Nat}{x:α}(d:α)(h:l[i]?=some x):l.getD i d=x:=by rw[QQ,h];rfl
section
variable {prog:Rp}{w:RF}{A:Rw}{E:Value->QD->Prop}{s:QD}
theorem BE(hl:s.heap.get? l=some { cls:=.type "list",dict:=none,data:=.seq items k,slots:=#[]})
  (hlo:-(2^63:Int)≤x) (hhi:x<2^63) (hsz:items.size*x.toNat≤2^24)
  (h:Q (.ref s.heap.objs.size) { s with heap:=s.heap.push { cls:=.type "list",data:=.seq (aai (λx1 x2=>x1++x2) #[] (Rf (if items.isEmpty=true then 0 else x.toNat) items))} }):
  Q0 (Q5 prog w) A (Ua .Mult (.ref l) (.int x u)) Q E s:=
 wpAny_binaryOp_repeat_ref (T := "list") (U := "int") δ ⟨_,hl,Z⟩ (λs'=>VW s' x u) noFill_list_mul F.fills_int_mul F.slot_int_rmul repeat_list F.slot_int_index.lookup
  (VX F.slot_int_rmul (VW s x u) F.entry_int_rmul (F.args_int_rmul_2 _ _) (int___rmul___int_list x u l items k)
   ⟨hl,Z,⟨_,hl,Z⟩,VX F.slot_list_mul ⟨_,hl,Z⟩ F.entry_list_mul (F.args_list_mul_2 _ _)
    (AutoListH.list___mul___list_int_3 l items k x u (by simp[Tn];omega) ω (by simp[SU,sizeLine];omega))
    ⟨hl,h⟩⟩)
end
theorem uw(u:Value):∀(n:Nat) (acc:Array Value),(aai (λx1 x2=>x1++x2) acc (Rf n #[u])).toList=acc.toList++Rf n u
 |0,acc=>by simp
 |n+1,acc=>by
  rw[Yr,R7,uw u n,Yr];simp
theorem sM{v:V}{u:Value}(r:br v u):∀n:Nat,bu (Rf n v) (Rf n u)
 |0=>.nil
 |n+1=>.cons r (sM r n)
theorem wM:ir X (Ua .Mult) (λx y H Q=>∃(p:Addr) (v:V) (n:Nat),x=.ref p/\y=.int n/\H p=some (.lst [v])/\n≤1000/\∀l,H l=none->Q (.ref l) (upd H l (.lst (Rf n v)))):=by
 intro pins s σ H x y xv yv Q I rx ry h;obtain⟨p,v,n,rfl,rfl,hp,hn,q⟩:=h
 cases(show xv=Rz p from rx)
 obtain⟨t,rfl⟩:=(show ∃t,yv=Tv n t from ry);obtain⟨_,its,c,rv,e⟩:=(show ObjOk X.prog X.w H s.heap p (.lst [v]) from I.hok p _ hp)
 cases rv with
 | @cons _ u _ _ r0 rr=>
 cases rr
 refine BE e ω ω (by simp;omega) ?_;have el:(aai (λx1 x2=>x1++x2) #[] (Rf (if([u]:List Value).toArray.isEmpty=true then 0 else(n:Int).toNat) [u].toArray))=(Rf n u).toArray:=by
  apply Array.ext';have:=uw u n #[]
  simpa using this
 rw[el];have I2:Inv X pins σ (upd H s.heap.objs.size (.lst (Rf n v))) { s with heap:=s.heap.push { cls:=.type "list",data:=.seq (Rf n u).toArray} }:=
  I.laid (t':=s.toks) (λb o e=>Qy _ e) (QB _) (show ObjOk X.prog X.w _ _ _ (.lst (Rf n v)) from⟨by rw[UQ,WL];omega,Rf n u,_,sM r0 n,QZ _ Z⟩)
 exact⟨.ref s.heap.objs.size,_,I2,Z,q _ (I.hok.fresh (QB _))⟩
theorem oM(hc:X.calm=true):dF X (.type "list") (λxs H Q=>∃p,∃n:Nat,xs=[.ref p]/\H p=some (.rng 0 n)/\n≤1000/\∀l,H l=none->Q (.ref l) (upd H l (.lst ((upTo n).map V.int)))):=by
 intro pins s σ H xs us Q I r h;obtain⟨p,n,rfl,hp,hn,q⟩:=h;obtain⟨u,rfl,rx⟩:=fP r
 cases rx
 obtain⟨t,u,w,e⟩:=(show ObjOk X.prog X.w H s.heap p (.rng 0 n) from I.hok p _ hp);refine call_list_range (I.ok.hd hc) (show Yg s.heap p 0 n 1 t u w from e) (small_one ω ω ω ω) (wF n) ω λh' tk acc c' hk hS hi=>?_
 have rv:=nk hi;have hl:(upTo n).length=n:=by unfold upTo;simp
 have I2:Inv X pins σ (upd H s.heap.objs.size (.lst ((upTo n).map V.int))) { s with heap:=h',toks:=tk}:=
  I.laid (t':=tk) hk (QB _) (show ObjOk X.prog X.w _ _ _ (.lst ((upTo n).map V.int)) from⟨by rw[Qz,hl,WL];omega,acc.toList,c',rv,by simpa using hS⟩)
 exact⟨.ref s.heap.objs.size,_,I2,Z,q _ (I.hok.fresh (QB _))⟩
theorem pd{X:Cx}{K:Qu}(hK:X.K=K):ir X (Sw .NotIn) (Om K true):=hK▸kJ
theorem Fe(t:Nat)(ls:List Nat):Ff (.int t) (ls.map λn:Nat=>V.int n)=ls.contains t:=by
 unfold Ff;rw[Zh]
 induction ls with
 |nil=>rfl
 |cons a r ih=>
  rw[Uh,Uk,ih]
  congr 1
  show decide (((a:Nat):Int)=(t:Nat))=(t==a);by_cases h:t=a
  ·subst h;simp
  ·rw[beq_eq_false_iff_ne.mpr h];exact decide_eq_false ω
theorem C4(ls:List Nat):(ls.map λn:Nat=>V.int n).all jB=true:=by
 rw[List.all_map,Sk];intro x _;rfl
def FN(ds:List Ri):Prop:=∀e∈ds,e.canLay0=true/\e.depth≤32
def Pr(K:Qu):R2:=λx y H Q=>∃p xs ds d,y=.ref p/\aZ K H p xs/\bx K H xs ds/\FN ds/\bX K H x d/\d.canLay0=true/\R3 d d=true/\Q (.bl (ds.any λe=>R3 e d)) H
def MB(K:Qu):R2:=λx y H Q=>∃p xs ds d,y=.ref p/\aZ K H p xs/\bx K H xs ds/\FN ds/\bX K H x d/\d.canLay0=true/\R3 d d=true/\Q (.bl (!ds.any λe=>R3 e d)) H
def Ol(K:Qu):R2:=λx y H Q=>∃p xs ds d,y=.ref p/\bz K H p xs/\bx K H xs ds/\FN ds/\bX K H x d/\d.canLay0=true/\R3 d d=true/\Q (.bl (ds.any λe=>R3 e d)) H
def MD(K:Qu):V->List V->Hp->VK->Prop:=λx vs H Q=>∃p xs ds w d,x=.ref p/\vs=[w]/\aZ K H p xs/\bx K H xs ds/\FN ds/\bX K H w d/\d.canLay0=true/\R3 d d=true/\(∃e∈ds,R3 e d=true)∧
 ∀(j:Nat) (e:Ri),ds[j]?=some e->R3 e d=true->(∀m f,m<j->ds[m]?=some f->R3 f d=false)->Q (.int j) H
theorem Fl{j:Nat}(h:j≤16777216):Tn (j:Int)=true:=by
 unfold Tn;have e:(2:Int)^63=9223372036854775808:=δ
 rw[e,Ra,decide_eq_true_iff,decide_eq_true_iff];omega
theorem yL(l:Addr)(its:Array Value)(n:Nat)(x:Int)(tk:Tok)(u2:Value)(hc:Tn x=true)(hsz:its.size≤sizeLine) :
  Meets (Rb.«list.insert» ⟨[.ref l,.int x tk,u2],[]⟩) (λ_ R s=>s.heap.get? l=some { cls:=.type "list",dict:=none,data:=.seq its n,slots:=#[]}/\R (.ok (.ret Tc)) { s with heap:=s.heap.update l (VU λxs=>have k:=if x<0 then(x+((xs.size:Nat):Int)).toNat else ZW x.toNat xs.size;(xs.extract 0 k).push u2++xs.extract k),toks:=s.toks}):=by
 apply AutoListH.list_insert_list_int_val_1
 ·rw[hc];simp
 ·exact hsz
def Ec:V->List V->Hp->VK->Prop:=λx vs H Q=>∃(l:Addr) (xs:List V) (j:Nat) (y:V),x=.ref l/\vs=[.int j,y]/\H l=some (.lst xs)/\j≤xs.length/\xs.length<sizeLine/\Q .non (upd H l (.lst (xs.take j++y::xs.drop j)))
theorem yy:L8 X "list.insert" Ec:=by
 intro pins s σ H x vs v us Q I rx rv h;obtain⟨l,xs,j,y,rfl,rfl,hH,hj,hz,q⟩:=h
 cases rx
 obtain⟨u,u2,rfl,ru,ru2⟩:=pK rv;obtain⟨tk,rfl⟩:=(show ∃t,u=Tv j t from ru);obtain⟨z,its,n,r,hl,e⟩:=I.lstM hH;have hlen:=r.length;have sl:sizeLine=16777216:=δ
 have hsz:its.toArray.size≤sizeLine:=by rw[QX];omega
 have hfi:Tn (j:Int)=true:=Fl (show j≤16777216 by omega);generalize hx:(j:Int)=x at hfi;have M:=yL l its.toArray n x tk u2 hfi hsz;refine VX W7 ⟨_,e,Z⟩ PySem.F.entry_list_insert (PySem.F.args_list_insert_3 _ _ _) M ⟨e,?_⟩;have hv:bu (xs.take j++y::xs.drop j) (its.take j++u2::its.drop j):=(r.take j).append (.cons ru2 (r.drop j));refine⟨.non,_,I.lset (its':=its.take j++u2::its.drop j) hH e ?_ hv ?_,Z,q⟩
 ·subst hx;have e1:¬((j:Int)<0):=ω
  have e2:ZW j its.length=j:=ω
  simp[e1,e2,UM]
 ·rw[Q2,Rh,Rs,Sj];omega
mutual
def Os:Ri->Bool
 | .int i=>decide (i.natAbs<2^230)
 | .tuple ds=>vV ds
 | .list ds=>vV ds
 | .dict _=>false
 |_=>true
def vV:List Ri->Bool
 | []=>true
 |d::ds=>Os d&&vV ds
end
theorem jp:∀{ds:List Ri},(∀d∈ds,d.canLay0=true)->Zi ds=true
 | [],_=>rfl
 |d::ds,h=>by
  show(d.canLay0&&Zi ds)=true;rw[h d QL,jp λe he=>h e (QP _ he)];rfl
structure Gd(k n:Nat)(d:Ri):Prop where
 sh:Sh k n d
 lay:d.canLay0=true
 bd:Os d=true
def LV:Ri->R
 | .tuple [.int a,.int b]=>(a,b)
 |_=>(0,1)
def Np:Ri->R×R
 | .tuple [x,y]=>(LV x,LV y)
 |_=>vw
end B
namespace B
open PySem PySem.Spec L2 PyProof.Rows
theorem za(hc:X.calm=true):dF X (.builtin "max") (λxs H Q=>∃(p:Addr) (ns:List Int),xs=[.ref p]/\aZ X.K H p (ns.map V.int)/\0<ns.length/\∀M,M∈ns->(∀a∈ns,a≤M)->Q (.int M) H):=by
 intro pins s σ H xs us Q I r h;obtain⟨p,ns,rfl,hq,hne,q⟩:=h;obtain⟨u,rfl,rx⟩:=fP r
 cases rx
 obtain⟨its,rv,pl,hz⟩:=I.list hq;have hi:=m9 rv;obtain⟨zs,ez⟩:=hi.allInts.items;have hl:=pl.isList;rw[ez] at hl;have en:numsOf its=ns:=hi.numsOf;rw[show its=its.toArray.toList from Z,ez,YA] at en;have hlen:zs.size=ns.length:=by rw[←en,Qz,Tq]
 refine max_intList (I.ok.hd hc) hl ω λv h' tk hv hk=>?_
 obtain⟨t,rfl⟩:=intItems_at hv;obtain⟨h1,h2⟩:=argBest_gt (numAt zs) (zs.size-1);refine⟨.int _,H,I.kept (t':=tk) hk,⟨_,Z⟩,q _ ?_ λa ha=>?_⟩
 ·rw[aaj,en];exact getD_mem ω
 ·rw[←en] at ha;obtain⟨j,hj,rfl⟩:=mem_getD ha;rw[Qz,Tq] at hj;rw[←aaj];exact h2 j ω
theorem qg(hc:X.calm=true):dF X (.builtin "min") (λxs H Q=>∃(p:Addr) (ns:List Int),xs=[.ref p]/\aZ X.K H p (ns.map V.int)/\0<ns.length/\∀M,M∈ns->(∀a∈ns,M≤a)->Q (.int M) H):=by
 intro pins s σ H xs us Q I r h;obtain⟨p,ns,rfl,hq,hne,q⟩:=h;obtain⟨u,rfl,rx⟩:=fP r
 cases rx
 obtain⟨its,rv,pl,hz⟩:=I.list hq;have hi:=m9 rv;obtain⟨zs,ez⟩:=hi.allInts.items;have hl:=pl.isList;rw[ez] at hl;have en:numsOf its=ns:=hi.numsOf;rw[show its=its.toArray.toList from Z,ez,YA] at en;have hlen:zs.size=ns.length:=by rw[←en,Qz,Tq]
 refine min_intList (I.ok.hd hc) hl ω λv h' tk hv hk=>?_
 obtain⟨t,rfl⟩:=intItems_at hv;obtain⟨h1,h2⟩:=argBest_lt (numAt zs) (zs.size-1);refine⟨.int _,H,I.kept (t':=tk) hk,⟨_,Z⟩,q _ ?_ λa ha=>?_⟩
 ·rw[aaj,en];exact getD_mem ω
 ·rw[←en] at ha;obtain⟨j,hj,rfl⟩:=mem_getD ha;rw[Qz,Tq] at hj;rw[←aaj];exact h2 j ω
theorem Dm(Pv:Nat->List V->Hp->Prop)(h0:Pv 0 [] (upd H D (.lst [])))
  (go:∀i ys H',i<n->Pv i ys H'->J.go i H') (stop:∀ys H',Pv n ys H'->J.stop n H'/\Q H')
  (turn:∀i ys H' x H'',i<n->Pv i ys H'->J.yld i H' x H''->∀(R:VK) (E:Hp->Prop),(∀y H4,H4 D=some (.lst ys)->ys.length<sizeLine->Pv (i+1) (ys++[y]) (upd H4 D (.lst (ys++[y])))->R y H4)->(∀H3,Pv (i+1) ys H3->E H3)→
   g x (da src σ) H'' λσ2 H2=>gf (da src σ) σ2/\tt σ2 H2 λok H3=>if ok=true then te σ2 H3 R else E H3):
  NO J D H src σ g tt te Q:=by
 refine⟨λi m ys H'=>i≤n/\m=n-i/\Pv i ys H',⟨_,Re _,Z,h0⟩,?_⟩;rintro i m ys H1 ⟨hi,rfl,p⟩;by_cases hix:i<n
 ·refine .inr ⟨go i ys H1 hix p,λx H2 y=>?_⟩;refine turn i ys H1 x H2 hix p y _ _ (λy H4 a b c=>⟨a,b,n-(i+1),ω,hix,Z,c⟩) λH3 c=>⟨n-(i+1),ω,hix,Z,c⟩
 ·have e:i=n:=ω
  subst e;exact .inl (stop ys H1 p)
def MV(t:TS):TS:=λD σ H=>∃M:L2.St->Hp->Prop,t { D with nx:=M} σ H/\∀σ' H',M σ' H'->D.nx σ' H'
theorem rD{X:Cx}{st:Stmt}{t:TS}(h:QS X st t):QS X st (MV t):=⟨by
 intro pins s σ H D I q;obtain⟨M,q,k⟩:=q;refine cL (h.p pins s σ H _ I q) λf s' z=>?_
 cases f with
 |next=>obtain⟨σ',H',I',m⟩:=z;exact⟨σ',H',I',k _ _ m⟩
 |brk=>exact z
 |cont=>exact z
 |ret u=>exact z⟩
end B
namespace B
abbrev Ln:=Nat×Nat
inductive fM(es:List Ln):Nat->Nat->Prop where
 |one {a b:Nat} (h:(a,b)∈es):fM es a b
 |step {a b c:Nat} (h:(a,b)∈es) (t:fM es b c):fM es a c
theorem fM.trans(x:fM es a b)(y:fM es b c):fM es a c:=by
 induction x with
 |one h=>exact .step h y
 |step h _ ih=>exact .step h (ih y)
theorem fM.mono(s:∀e∈es,e∈fs)(x:fM es a b):fM fs a b:=by
 induction x with
 |one h=>exact .one (s _ h)
 |step h _ ih=>exact .step (s _ h) ih
def gg(n:Nat)(es:List Ln):Prop:=∀e∈es,e.1<n/\e.2<n
theorem fM.lt(ok:gg n es)(x:fM es a b):a<n/\b<n:=by
 induction x with
 |one h=>exact ok _ h
 |step h _ ih=>exact⟨(ok _ h).1,ih.2⟩
def Gy(n:Nat)(es:List Ln)(L:Nat->Nat->Bool):Prop:=∀i j,i<n->j<n->(L i j=true↔fM es j i)
def mT(L:Nat->Nat->Bool)(a b:Nat):Nat->Nat->Bool:=λi j=>L i j||((decide (i=b)||L i b)&&(decide (j=a)||L a j))
theorem xB(n:Nat):Gy n [] (λ_ _=>false):=λi j _ _=>by
 constructor
 ·intro h;cases h
 ·intro h
  cases h with
  |one m=>cases m
  |step m _=>cases m
theorem xC(ok:gg n es)(h:Gy n es L)(ha:a<n)(hb:b<n):Gy n (es++[(a,b)]) (mT L a b):=by
 have ok':gg n (es++[(a,b)]):=λe he=>by
  rcases Q6.mp he with z|z
  ·exact ok e z
  ·rw[QK.mp z];exact⟨ha,hb⟩
 have sub:∀e∈es,e∈es++[(a,b)]:=λe he=>Rt _ he
 have new:(a,b)∈es++[(a,b)]:=Ro _ QL;have D:∀i j,mT L a b i j=true↔L i j=true∨((i=b∨L i b=true)/\(j=a∨L a j=true)):=λi j=>by
  unfold mT;rw[Vu,Ra,Vu,Vu,decide_eq_true_iff,decide_eq_true_iff]
 have tr:∀i j k,i<n->j<n->k<n->mT L a b i j=true->mT L a b j k=true->mT L a b i k=true:=by
  intro i j k hi hj hk x y;have T:∀u v w,u<n->v<n->w<n->L u v=true->L v w=true->L u w=true:=λu v w hu hv hw p q=>(h u w hu hw).mpr (((h v w hv hw).mp q).trans ((h u v hu hv).mp p))
  rw[D] at x y ⊢;rcases x with x | ⟨x1,x2⟩
  ·rcases y with y | ⟨y1,y2⟩
   ·exact .inl (T i j k hi hj hk x y)
   ·refine .inr ⟨.inr ?_,y2⟩;rcases y1 with y1|y1
    ·subst y1;exact x
    ·exact T i j b hi hj hb x y1
  ·rcases y with y | ⟨_,y2⟩
   ·refine .inr ⟨x1,.inr ?_⟩;rcases x2 with x2|x2
    ·subst x2;exact y
    ·exact T a j k ha hj hk x2 y
   ·exact .inr ⟨x1,y2⟩
 intro i j hi hj;constructor
 ·intro x;rw[D] at x;rcases x with x | ⟨x1,x2⟩
  ·exact((h i j hi hj).mp x).mono sub
  ·have s1:fM (es++[(a,b)]) j b:=by
    rcases x2 with x2|x2
    ·subst x2;exact .one new
    ·exact(((h a j ha hj).mp x2).mono sub).trans (.one new)
   rcases x1 with x1|x1
   ·subst x1;exact s1
   ·exact s1.trans (((h i b hi hb).mp x1).mono sub)
 ·intro x;have E:∀u v,(u,v)∈es++[(a,b)]->mT L a b v u=true:=λu v m=>by
   rw[D];rcases Q6.mp m with z|z
   ·have:=ok _ z;exact .inl ((h v u this.2 this.1).mpr (.one z))
   ·cases QK.mp z
    exact .inr ⟨.inl Z,.inl Z⟩
  clear hi hj
  induction x with
  |one m=>exact E _ _ m
  | @step u v w m t ih=>
   have l1:=ok' _ m;have l2:=t.lt ok';exact tr w v u l2.2 l1.2 l1.1 ih (E _ _ m)
structure Rx(n:Nat)(es:List Ln)(v:Nat->Int)(ps:Nat->Nat)(r k:Nat)(F:Nat->Int):Prop where
 bas:∀i,i<n->v i≤F i
 att:∀i,i<n->∃j,j<n/\(j=i∨fM es j i)/\F i=v j
 don:∀i,i<n->ps i<r->∀j,j<n->(j=i∨fM es j i)->v j≤F i
 cur:∀m a b,m<k->es[m]?=some (a,b)->ps b≤r->∀j,j<n->(j=a∨fM es j a)->v j≤F b
def Pe(F:Nat->Int)(a b:Nat):Nat->Int:=λi=>if i=b then max (F b) (F a) else F i
structure zn(n:Nat)(es:List Ln)(v:Nat->Int)(F:Nat->Int):Prop where
 up:∀i j,i<n->j<n->(j=i∨fM es j i)->v j≤F i
 att:∀i,i<n->∃j,j<n/\(j=i∨fM es j i)/\F i=v j
theorem zn.uniq(a:zn n es v F)(b:zn n es v G)(hi:i<n):F i=G i:=by
 obtain⟨j,hj,z,e⟩:=a.att i hi;obtain⟨k,hk,y,f⟩:=b.att i hi;have:=a.up i k hi hk y;have:=b.up i j hi hj z;omega
def xW(es:List Ln):List Ln:=es.map λe=>(e.2,e.1)
theorem wB:(a,b)∈xW es↔(b,a)∈es:=by
 unfold xW;rw[QU];constructor
 ·rintro⟨⟨x,y⟩,m,e⟩
  cases e
  exact m
 ·exact λm=>⟨_,m,Z⟩
theorem qG:fM (xW es) a b↔fM es b a:=by
 have f:∀{fs:List Ln} {a b:Nat},fM fs a b->fM (xW fs) b a:=λ{fs a b} h=>by
  induction h with
  |one m=>exact .one (wB.mpr m)
  |step m _ ih=>exact ih.trans (.one (wB.mpr m))
 have ss:xW (xW es)=es:=by unfold xW;rw[S0];exact List.map_id' _
 exact⟨λh=>by have:=f h;rw[ss] at this;exact this,f⟩
end B
namespace B
open PySem PySem.Spec L2 PyProof.Rows
def Mq(r r' r'':R2)(ta tb tc td:TE):TE:=λσ H Q=>ta σ H λx H1=>tb σ H1 λy H2=>r x y H2 λz H3=>∃k,z=.bl k∧
 (if k=true then tc σ H3 λw' H4=>r' y w' H4 λz' H5=>∃k',z'=.bl k'/\(if k'=true then td σ H5 λu' H6=>r'' w' u' H6 Q else Q (.bl false) H5) else Q (.bl false) H3)
section
variable {prog:Rp}{w:RF}{A:Rw}{E:Value->QD->Prop}{s:QD}
end
def OW(K:Qu)(te:TE):TE:=λσ H Q=>te σ H λx H1=>∃a xs,x=.ref a/\bz K H1 a xs/\∀p,H1 p=none->Q (.ref p) (upd H1 p (.tup xs.reverse))
end B
namespace B
theorem uF{b:Int}(h:0<b):(0:Rat)<(b:Rat):=by
 have:=To.mpr h;exact this
theorem nA(hr:0<r.2)(hq:0<q.2):dI r q=true↔val r<val q:=by
 rw[CK,←To,RJ,RJ];have h1:=uF hr;have h2:=uF hq;have e1:(r.1:Rat)=val r*(r.2:Rat):=by
  have:=dj hr;unfold val;generalize (r.1:Rat)=x at *;generalize (r.2:Rat)=y at *;grind
 have e2:(q.1:Rat)=val q*(q.2:Rat):=by
  have:=dj hq;unfold val;generalize (q.1:Rat)=x at *;generalize (q.2:Rat)=y at *;grind
 rw[e1,e2];generalize val r=x at *;generalize val q=y at *;generalize (r.2:Rat)=u at *;generalize (q.2:Rat)=v at *;have c:0<u*v:=Rat.mul_pos h1 h2;constructor
 ·intro h;have h':x*(u*v)<y*(u*v):=by grind
  by_cases w:x<y
  ·exact w
  ·have z:y≤x:=YQ.mp w;have:=Sl z (TK c);grind
 ·intro h;have:=Tg h c;grind
theorem jg(hr:0<r.2)(hq:0<q.2):dI r q=false↔val q≤val r:=by
 have a:=nA hr hq
 cases c:dI r q with
 |true=>
  have:=a.mp c;constructor
  ·intro z;cases z
  ·intro z;grind
 |false=>
  constructor
  ·intro _;by_cases w:val r<val q
   ·rw[a.mpr w] at c;cases c
   ·exact YQ.mp w
  ·intro _;rfl
end B
namespace B
open PySem PySem.Spec L2 PyProof.Rows
def Qq(zs:List R):Prop:=zs.Pairwise λa b=>dI a b=true
end B
namespace L2
open PySem PySem.Spec PyProof.Rows
structure L4(k:Nat)(A:Rw):Prop where
 dp:A.depth+3*k+5<recursionLimit
 un:A.units+16*k+200<cLine
 gd:A.guards=some []
structure OI(P:Rp)(w:RF)(K:Qu)(mg:Rr->Option Value)(base:QN)(CX:uP)(k:Nat)(f:Addr)(fd:QF)(ps:List Rr)(sp:Sp):Prop where
 len:∀vs H Q E,sp vs H Q E->vs.length=ps.length
 run:∀(A:Rw) (outer:List ZU) (s:QD) (H:Hp) (args:Args) (us:List Value) (vs:List V) (Q:VK) (E:XK),L4 k A->uN P w K mg base A outer s H->Xz s fd args (ps.zip us)->bu vs us->sp vs H Q E→
  Vd (Q5 P w) A (.call (.ref f) args) (CR CX outer P w H s Q E) s
def Qo(CX:uP)(P:Rp)(w:RF)(K:Qu)(mg:Rr->Option Value)(base:QN)(N:List Rr)(qual:Rr)(scope:UZ)(f:Addr)(cd:Value)(A:Rw)(outer:List ZU)(s:QD)(H:Hp)(E:XK):Cx:={ bw CX P w K mg base N qual scope f cd A outer s H E with calm:=false}
section
variable {X:Cx}{CX:uP}{k:Nat}{f C:Addr}{fd:QF}{ps:List Rr}{sp:Sp}{dvs:List V}{ds:List Value}{E:XK}{x m:Rr}{p pos apos:UE}{e o:Ry}{es:List Ry}{ta:TE}{t:TA}
end
section
variable {P:Rp}{w:RF}{K:Qu}{mg:Rr->Option Value}{base:QN}
end
end L2
namespace B
open PySem PySem.Spec L2 PyProof.Rows
section
set_option autoImplicit true
set_option relaxedAutoImplicit true
end
def Mc(d:Addr)(ob:Sv)(kvs:List (dB×V)):It:=
 ⟨λi H=>H d=some (.frz ob (.dK kvs))/\i<kvs.length,
  λi H x H'=>∃p k v,H p=none/\x=.ref p/\kvs[i]?=some (k,v)/\H'=upd H p (.tup [kV k,v]),
  λi H=>H d=some (.frz ob (.dK kvs))/\kvs.length≤i⟩
theorem KV.get:∀{kvs:List (dB×V)} {vs:List (dB×Value)},KV kvs vs->∀{i:Nat} {k:dB} {v:V},kvs[i]?=some (k,v)->∃u,vs[i]?=some (k,u)/\br v u
 |_,_,.nil,i,k,v,h=>by simp at h
 | (a,b)::r,(c,d)::t,.cons h z,0,k,v,e=>by
  have e':(a,b)=(k,v):=by simpa using e
  cases e'
  obtain⟨h1,h2⟩:=h;have h1':a=c:=h1;subst h1';exact⟨d,Z,h2⟩
 |_::r,_::t,.cons h z,i+1,k,v,e=>by
  obtain⟨u,q,w⟩:=KV.get z (i:=i) (by simpa using e);exact⟨u,by simpa using q,w⟩
theorem LH(h:oG k u=true):br (kV k) u:=by
 rcases cj h with⟨i,t,rfl,rfl⟩ | ⟨x,t,rfl,rfl⟩
 ·exact⟨t,Z⟩
 ·exact⟨t,Z⟩
theorem JM:entryFor table "dict_itemiterator.__iter__"=some Rb.«dict_keyiterator.__iter__»:=
 entryFor_alias (by kernel_rfl) (by first|rfl|decide +kernel | (unfold String.splitOn;simp +decide [String.splitOnAux])) (by decide +kernel) (by kernel_rfl) (id' := "dict_keyiterator.__iter__")
theorem uR{P:Rp}{w:RF}{K:Qu}{elts:List Ry}{x1}{pos:UE}{it d:Addr}{ob:Sv}{kvs:List (dB×V)}{es:Array Yh}{ep:Nat}(hob:ob.data=.dict es ep) :
  uI P w K (.Tuple elts x1 pos) (Mc d ob kvs) [it] it (λi h=>∃ok ov,IsItemIter h it d i kvs.length ep ok ov) where
 mem:=by simp
 obj:=λi h st c hc=>by
  obtain⟨ok,ov,e⟩:=st;rw[QK] at hc;subst hc;exact⟨_,e,λv q=>by cases(show WK _=Wr v from q)⟩
 keep:=λi h h' ⟨ok,ov,e⟩ k=>⟨ok,ov,k it (by simp) _ e⟩
 item:=by
  intro X hP hw hK hc i pins s σ H E I hf st hg;subst hP hw hK;obtain⟨hd,hi⟩:=hg;obtain⟨ok,ov,e⟩:=st;obtain⟨q0,z,hds,vs,rel,o,es',ep',d1,d2,d3,d4⟩:=(show ObjOk X.prog X.w H s.heap d (.frz ob (.dK kvs)) from I.hok d _ hd);have eo:o=ob:=R0 (d1.symm.trans q0);subst eo;rw[hob] at d3
  cases d3
  have dat:s.heap.DictAt (ci X.prog X.w) d vs ep:=⟨o,es,d1,d2,hob,d4⟩;obtain⟨k,v,hkv'⟩:∃k v,kvs[i]?=some (k,v):=⟨(kvs[i]'hi).1,(kvs[i]'hi).2,Qw hi⟩;obtain⟨u,hu,ru⟩:=KV.get rel hkv';have ndi:it≠d:=λq=>by rw[q] at hf;have:=(hf d (by simp)).1;rw[hd] at this;cases this
  have itl:it<s.heap.objs.size:=QY e;rw[rel.length] at e;refine wpAny_pyNext_items_item e dat hu λkey h1 hkey eo tup hz hk=>⟨_,Z,wpAny_letOwnedTupleGo_items eo λh2 e2 sb=>?_⟩
  have nt:s.heap.objs.size≠it:=Ud itl;have P:ObjOk X.prog X.w (upd H s.heap.objs.size (.tup [kV k,v])) h2 s.heap.objs.size (.tup [kV k,v]):=
   ⟨by show 2≤sizeLine;decide,[key,u],.cons (LH hkey) (.cons ru .nil),⟨_,sb.extBut _ _ nt tup,Z,_,Z⟩⟩
  have I2:Inv X pins σ (upd H s.heap.objs.size (.tup [kV k,v])) { s with heap:=h2,toks:=s.toks}:=qE I (λc o' n q=>by
   have n':c≠it:=λr=>n (by simp[r])
   exact sb.extBut _ _ n' (hk c o' n' q)) hf (QB _) P
  refine⟨.ref s.heap.objs.size,_,I2,Z,⟨_,k,v,I.fresh,Z,hkv',Z⟩,⟨key,u,by rw[rel.length];exact e2⟩,λc hc=>?_⟩;have hc':c=it:=by simpa using hc
  rw[hc',aJ (Tt nt)];exact(hf it (by simp)).1
 done:=by
  intro X hP hw hK hc i pins s σ H E I hf st hg;subst hP hw hK;obtain⟨hd,hi⟩:=hg;obtain⟨ok,ov,e⟩:=st;obtain⟨q0,z,hds,vs,rel,o,es',ep',d1,d2,d3,d4⟩:=(show ObjOk X.prog X.w H s.heap d (.frz ob (.dK kvs)) from I.hok d _ hd);have eo:o=ob:=R0 (d1.symm.trans q0);subst eo;rw[hob] at d3
  cases d3
  have dat:s.heap.DictAt (ci X.prog X.w) d vs ep:=⟨o,es,d1,d2,hob,d4⟩;have hh:X.A.in1.handled=none:=I.ok.hd hc;rw[rel.length] at e hi;refine wpAny_pyNext_items_end hh e dat (R5 hi) λh1 ex=>⟨Z,?_⟩
  exact qF (t':=s.toks) I (λc o' n q=>ex c o' (λr=>n (by simp[r])) q) hf
 self:=λA i s Q E st h=>by
  obtain⟨ok,ov,e⟩:=st;have hT:s.TypeIs (.ref it) "dict_itemiterator" := ⟨_,e,Z⟩;refine wpAny_pyIter_slot hT Vr (Tf Vr hT JM ?_ (PySem.F.args_dict_itemiterator_iter_1 _));show Q0 _ _ (ret (.ref it)) _ _ s;exact wpAny_pure ⟨_,Z,"dict_itemiterator",_,hT,PySem.F.slot_dict_itemiterator_next.lookup,h⟩
def CV(td:TE):TI:=λσ H R=>td σ H λx H1=>∃d kvs,x=.ref d/\H1 d=some (.dK kvs)/\∀ob,R (Mc d ob kvs) (upd H1 d (.frz ob (.dK kvs)))
theorem B2{X:Cx}{elts:List Ry}{x1}{tp apos pos:UE}{o:Ry}{td:TE}(ho:PE X o td)(hb:Ug o "items" X.env (eval o X.env)=eval o X.env:=by rfl)(hl:(apos.endLine==pos.line)=true:=by rfl) :
  PI X (.Tuple elts x1 tp) (.Call (.Attribute o "items" apos) [] [] pos) (CV td):=by
 intro pins s σ H R I h;refine Zg (T := "dict") (id := "dict.items") hb Z hl Xk Xl PySem.F.type_dict_items (cL (ho pins s σ H _ I h) λu s1 ⟨x,H1,I1,rx,d,kvs,ex,e,q⟩=>?_);subst ex;obtain rfl:u=Rz d:=rx;obtain⟨z,hds,vs,rel,dd⟩:=Gs I1.hok e;obtain⟨t1,t2,_⟩:=CS I1 (.inl ⟨kvs,.inl e⟩);refine⟨t1,t2,?_⟩;show Q0 _ _ (callWith pos (.builtin "dict.items") [.ref d] [] []) _ _ _;refine method_meetsIn Xl PySem.F.entry_dict_items Z (PySem.evalArgs_none ⟨Z,t1,PySem.F.args_dict_items_1 _,_,meets_dict_items (ci X.prog X.w) d hds,⟨vs,dd⟩,?_⟩);obtain⟨o',es,ep,d1,d2,d3,d4⟩:=id dd;have dat:s1.heap.DictAt (ci X.prog X.w) d vs ep:=⟨o',es,d1,d2,d3,d4⟩;refine wpAny_pyIter_items (d:=d) (kvs:=vs) (ep:=ep) ⟨_,QZ _ Z,Z,Z⟩ (dat.push _) ?_;have sz:(s1.heap.push { cls:=.type "dict_items",data:=.fields #[.ref d]}).objs.size=s1.heap.objs.size+1:=SV ..;have I2:=I1.kept (t':=s1.toks) (h':=(s1.heap.push { cls:=.type "dict_items",data:=.fields #[.ref d]}).push { cls:=.type "dict_itemiterator",data:=.fields #[.none,.bool false,.ref d,.int 0 0,.int vs.length 0,.int ep 0,.none,.none]}) λb o q=>Qy _ (Qy _ q)
 have hit:=QZ (s1.heap.push { cls:=.type "dict_items",data:=.fields #[.ref d]}) (o:={ cls:=.type "dict_itemiterator",data:=.fields #[.none,.bool false,.ref d,.int 0 0,.int vs.length 0,.int ep 0,.none,.none]}) Z;have dl:d<s1.heap.objs.size:=QY d1;have k2:∀b o,s1.heap.get? b=some o->((s1.heap.push { cls:=.type "dict_items",data:=.fields #[.ref d]}).push { cls:=.type "dict_itemiterator",data:=.fields #[.none,.bool false,.ref d,.int 0 0,.int vs.length 0,.int ep 0,.none,.none]}).get? b=some o:=λb o q=>Qy _ (Qy _ q)
 generalize (s1.heap.push { cls:=.type "dict_items",data:=.fields #[.ref d]}).push { cls:=.type "dict_itemiterator",data:=.fields #[.none,.bool false,.ref d,.int 0 0,.int vs.length 0,.int ep 0,.none,.none]}=hE at I2 hit k2 ⊢;rw[sz] at hit ⊢;have I3:=sg (h':=hE) (t':=s1.toks) (ob:=.frz o' (.dK kvs)) I2 (by rw[e];exact UH) ⟨Z,λ_ _=>Z⟩ ⟨_,k2 _ _ d1⟩ ⟨k2 _ _ d1,z,hds,vs,rel,o',es,ep,k2 _ _ d1,d2,d3,d4⟩;have nd:s1.heap.objs.size+1≠d:=Ud (Y9 dl);refine⟨_,[s1.heap.objs.size+1],_,_,_,Z,I3,uR d3,⟨.none,.none,by rw[rel.length];exact hit⟩,λc hc=>?_,q o'⟩;have hc':c=s1.heap.objs.size+1:=by simpa using hc
 subst hc';exact I1.fpOk (Ui _) (by rw[aJ nd];exact I1.hok.fresh (Ui _))
theorem qb{d:Addr}{ob:Sv}{kvs:List (dB×V)}{g:TG}{tb:TS}{D:iE}{σ:L2.St}{H:Hp}(Pv:Nat->L2.St->Hp->Prop)(h0:Pv 0 σ H)
  (hl:∀i σ H,Pv i σ H->H d=some (.frz ob (.dK kvs)))
  (hs:∀i k v p σ H,kvs[i]?=some (k,v)->Pv i σ H->H p=none->g (.ref p) σ (upd H p (.tup [kV k,v])) λσ2 H2=>tb { D with nx:=Pv (i+1),ct:=Pv (i+1),bk:=D.nx} σ2 H2) (hd:∀σ H,Pv kvs.length σ H->D.nx σ H) :
  ∃W:Nat->Nat->L2.St->Hp->Prop,(∃m,W 0 m σ H)/\∀i m σ H,W i m σ H→
   ((Mc d ob kvs).stop i H/\D.nx σ H)∨((Mc d ob kvs).go i H/\∃N:L2.St->Hp->Prop,(∀σ' H',N σ' H'->∃m',m'<m/\W (i+1) m' σ' H')/\∀x H',(Mc d ob kvs).yld i H x H'->g x σ H' λσ2 H2=>tb { D with nx:=N,ct:=N,bk:=D.nx} σ2 H2):=by
 refine⟨λi m σ H=>m=kvs.length-i/\i≤kvs.length/\Pv i σ H,⟨_,Z,Re _,h0⟩,?_⟩;rintro i m σ H ⟨rfl,hi,p⟩;have q:=hl i σ H p;by_cases hlt:i<kvs.length
 ·refine .inr ⟨⟨q,hlt⟩,Pv (i+1),λσ' H' p'=>⟨kvs.length-(i+1),ω,Z,hlt,p'⟩,λx H' y=>?_⟩;obtain⟨pp,k,v,hp,rfl,hkv,rfl⟩:=y;exact hs i k v pp σ _ hkv p hp
 ·have e:i=kvs.length:=ω
  subst e;exact .inl ⟨⟨q,QB _⟩,hd σ H p⟩
def pA(ps:List (Int×Int)):List (dB×V):=ps.map λp=>(Ti p.1,V.int p.2)
def uT:List (Int×Int)->Int->Int
 | [],_=>0
 | (c,u)::r,b=>if c=b then u else uT r b
def gF:List (Int×Int)->Int->Int->List (Int×Int)
 | [],b,t=>[(b,0+t)]
 | (c,u)::r,b,t=>if c=b then(c,u+t)::r else(c,u)::gF r b t
theorem BQ{p:dB×V}(e:p.1=k)(n:∀q∈r,q.1≠k):ie (p:: r) k v=(k,v):: r:=by
 unfold ie;rw[if_pos (by simp[e]),RC,if_pos e,e]
 congr 1
 exact(UA (g:=id) (λq hq=>by rw[if_neg (n q hq)];rfl)).trans (List.map_id r)
theorem yl{p:dB×V}(e:¬p.1=k):ie (p:: r) k v=p:: ie r k v:=by
 unfold ie;rw[Uh,decide_eq_false e,Vq]
 split
 ·rw[RC,if_neg e]
 ·rfl
theorem rW:∀(ps:List (Int×Int)) (b:Int),(lD (pA ps) (Ti b)).getD (V.int 0)=V.int (uT ps b)
 | [],b=>rfl
 | (c,u)::r,b=>by
  show(lD ((Ti c,V.int u)::pA r) (Ti b)).getD (V.int 0)=V.int (if c=b then u else uT r b);by_cases e:c=b
  ·rw[if_pos e,kn (by rw[e])];rfl
  ·rw[if_neg e,ko (λz=>e (by injection z)),rW r b]
theorem rG:∀(ps:List (Int×Int)) (b t:Int),(ps.map (·.1)).Nodup->ie (pA ps) (Ti b) (V.int (uT ps b+t))=pA (gF ps b t)
 | [],b,t,_=>rfl
 | (c,u)::r,b,t,nd=>by
  have nd':=RO.mp nd;show ie ((Ti c,V.int u)::pA r) (Ti b) (V.int ((if c=b then u else uT r b)+t))=pA (if c=b then(c,u+t)::r else(c,u)::gF r b t);by_cases e:c=b
  ·rw[if_pos e,if_pos e,BQ (by rw[e]) (λq hq z=>?_)]
   ·show _=(Ti c,V.int (u+t))::pA r;rw[e]
   ·obtain⟨p,hp,rfl⟩:=QU.mp hq;have z':p.1=b:=by injection z
    exact nd'.1 (QU.mpr ⟨p,hp,z'.trans e.symm⟩)
  ·rw[if_neg e,if_neg e,yl (λz=>e (by injection z)),rG r b t nd'.2];rfl
def jQ:List (Int×Int)->Rat
 | []=>0
 |p::r=>(p.2:Rat)/(p.1:Rat)+jQ r
theorem FH{a b c:Rat}:(a+b)/c=a/c+b/c:=by rw[ZS,ZS,ZS,Rat.add_mul]
theorem nJ:∀(ps:List (Int×Int)) (b t:Int),jQ (gF ps b t)=jQ ps+(t:Rat)/(b:Rat)
 | [],b,t=>by
  show((0+t:Int):Rat)/(b:Rat)+0=0+(t:Rat)/(b:Rat);rw[VN];grind
 | (c,u)::r,b,t=>by
  show jQ (if c=b then(c,u+t)::r else(c,u)::gF r b t)=(u:Rat)/(c:Rat)+jQ r+(t:Rat)/(b:Rat);by_cases e:c=b
  ·rw[if_pos e];show((u+t:Int):Rat)/(c:Rat)+jQ r=_;rw[XY,FH,e];grind
  ·rw[if_neg e];show(u:Rat)/(c:Rat)+jQ (gF r b t)=_;rw[nJ r b t];grind
theorem lG:∀(ps:List (Int×Int)) (p:Int×Int),jQ (ps++[p])=jQ ps+(p.2:Rat)/(p.1:Rat)
 | [],p=>by show(p.2:Rat)/(p.1:Rat)+0=0+_;grind
 |q::r,p=>by
  show(q.2:Rat)/(q.1:Rat)+jQ (r++[p])=(q.2:Rat)/(q.1:Rat)+jQ r+_;rw[lG r p];grind
structure mU(n i:Nat)(ps:List (Int×Int)):Prop where
 nd:(ps.map (·.1)).Nodup
 len:ps.length≤i
 bot:∀p∈ps,0<p.1/\p.1.natAbs<2^n
 top:∀p∈ps,p.2.natAbs≤i*2^n
theorem kT:∀(ps:List (Int×Int)) (b t:Int) (c:Int),c∈(gF ps b t).map (·.1)↔c∈ps.map (·.1)∨c=b
 | [],b,t,c=>by simp[gF]
 | (d,u)::r,b,t,c=>by
  show c∈(if d=b then(d,u+t)::r else(d,u)::gF r b t).map (·.1)↔_;by_cases e:d=b
  ·rw[if_pos e];constructor
   ·intro h;exact .inl h
   ·rintro (h|h)
    ·exact h
    ·exact QR.mpr (.inl (h.trans e.symm))
  ·rw[if_neg e,RC,RC,QR,QR,kT r b t c];exact or_assoc.symm
theorem Dw:∀(ps:List (Int×Int)) (b t:Int),(ps.map (·.1)).Nodup->((gF ps b t).map (·.1)).Nodup
 | [],b,t,_=>by simp[gF]
 | (d,u)::r,b,t,nd=>by
  have nd':=RO.mp nd;show((if d=b then(d,u+t)::r else(d,u)::gF r b t).map (·.1)).Nodup;by_cases e:d=b
  ·rw[if_pos e];exact nd
  ·rw[if_neg e,RC,RO];refine⟨λz=>?_,Dw r b t nd'.2⟩;rcases(kT r b t d).mp z with h|h
   ·exact nd'.1 h
   ·exact e h
theorem xK:∀(ps:List (Int×Int)) (b t:Int),(gF ps b t).length≤ps.length+1
 | [],b,t=>QB 1
 | (d,u)::r,b,t=>by
  show(if d=b then(d,u+t)::r else(d,u)::gF r b t).length≤_
  split
  ·exact Ui _
  ·exact VY (xK r b t)
theorem xJ:∀(ps:List (Int×Int)) (b t:Int) (M N:Nat),(∀p∈ps,p.2.natAbs≤M)->t.natAbs≤N->∀p∈gF ps b t,p.2.natAbs≤M+N
 | [],b,t,M,N,_,ht,p,hp=>by
  have e:p=(b,0+t):=by simpa [gF] using hp
  rw[e];show(0+t).natAbs≤M+N;omega
 | (d,u)::r,b,t,M,N,h,ht,p,hp=>by
  have hu:u.natAbs≤M:=h (d,u) QL;have hr:∀q∈r,q.2.natAbs≤M:=λq hq=>h q (QP _ hq)
  have hp':p∈(if d=b then(d,u+t)::r else(d,u)::gF r b t):=hp
  split at hp'
  ·rcases QR.mp hp' with e|e
   ·rw[e];show(u+t).natAbs≤M+N;omega
   ·have:=hr p e;omega
  ·rcases QR.mp hp' with e|e
   ·rw[e];show u.natAbs≤M+N;omega
   ·exact xJ r b t M N hr ht p e
theorem mU.add(h:mU n i ps)(w:Wf n r):mU n (i+1) (gF ps r.2 r.1) where
 nd:=Dw ps r.2 r.1 h.nd
 len:=Rm (xK ps r.2 r.1) (VY h.len)
 bot:=λp hp=>by
  rcases(kT ps r.2 r.1 p.1).mp (QU.mpr ⟨p,hp,Z⟩) with z|z
  ·obtain⟨q,hq,e⟩:=QU.mp z;rw[←e];exact h.bot q hq
  ·rw[z];exact⟨w.pos,w.bot⟩
 top:=λp hp=>by
  have:=xJ ps r.2 r.1 (i*2^n) (2^n) h.top (Ss w.top) p hp;rw[Nat.add_mul,ZO];exact this
theorem mU.nil(n:Nat):mU n 0 []:=⟨UD,QB _,(λ_ h=>nomatch h),(λ_ h=>nomatch h)⟩
theorem mU.wf(h:mU n i ps)(hi:i≤255)(hp:p∈ps):Wf (n+8) (fj p.2 p.1):=by
 refine Jx (h.bot p hp).1 ?_ (Rc (h.bot p hp).2 (TN δ ω));have a:=h.top p hp;have b:i*2^n≤255*2^n:=TU _ hi;have c:0<2^n:=Nat.pow_pos δ;rw[X5];omega
def jN:List R->Rat
 | []=>0
 |r::t=>val r+jN t
theorem lC:∀(rs:List R) (r:R),jN (rs++[r])=jN rs+val r
 | [],r=>by show val r+0=0+val r;grind
 |q::t,r=>by show val q+jN (t++[r])=val q+jN t+val r;rw[lC t r];grind
theorem sO:∀(rs:List R) (acc:R),gG acc->(∀r∈rs,gG r)->gG (rs.foldl bQ acc)/\val (rs.foldl bQ acc)=val acc+jN rs
 | [],acc,ha,_=>⟨ha,by show val acc=val acc+0;grind⟩
 |r::t,acc,ha,h=>by
  have hr:=h r QL;obtain⟨a,b⟩:=sO t (bQ acc r) (BW ha hr) λq hq=>h q (QP _ hq)
  refine⟨a,?_⟩;rw[R7,b,iI ha.pos hr.pos];show val acc+val r+jN t=val acc+(val r+jN t);grind
theorem hU:val (0,1)=0:=by decide +kernel
theorem vx:gG (0,1):=⟨δ,δ⟩
theorem hJ(h:∀r∈rs,gG r):gG (fQ rs)/\val (fQ rs)=jN rs:=by
 obtain⟨a,b⟩:=sO rs (0,1) vx h;refine⟨a,b.trans ?_⟩;rw[hU];grind
theorem zY(h:∀r∈rs,gG r)(hx:gG x)(e:val x=jN rs):x=fQ rs:=
 hV hx (hJ h).1 (e.trans (hJ h).2.symm)
theorem Wf.red(h:Wf n r):gG r:=⟨h.pos,h.cop⟩
section
set_option autoImplicit true
set_option relaxedAutoImplicit true
theorem BN   : QE X (.Dict [] [] pos) zT:=⟨B8 ⟩
theorem BO(hu:X.A.units+1<cLine)(ho:QE X o td)(he:QE X e ty)(hf:QE X f tx)(m:M2 X o "get" apos e f cpos):QE X (.Call (.Attribute o "get" apos) [e,f] [] cpos) (zU td ty tx):=⟨B9 hu ho.p he.p hf.p m⟩
theorem Eg(hu:X.A.units+1<cLine)(ho:QE X o td)(hi:QE X i ty)(hv:QE X value tv)(hs:UC value (some (.Subscript o i pos')) pos.line X.env=TL false):QS X (.Assign [.Subscript o i pos'] value pos) (F9 td ty tv):=⟨Eu hu ho.p hi.p hv.p hs⟩
theorem BL{X:Cx}{elts:List Ry}{x1}{tp apos pos:UE}{o:Ry}{td:TE}(ho:QE X o td)(hb:Ug o "items" X.env (eval o X.env)=eval o X.env:=by rfl)(hl:(apos.endLine==pos.line)=true:=by rfl):QI X (.Tuple elts x1 tp) (.Call (.Attribute o "items" apos) [] [] pos) (CV td):=⟨B2 ho.p hb hl⟩
end
end B
namespace B
abbrev Pl:=Nat×Nat
def bV(p:Pl):Int:=(p.2:Int)-p.1+1
def sx(p q:Pl):Prop:=p.1<q.1∨(p.1=q.1/\q.2≤p.2)
structure pG(S:Pl->Prop)(L:Pl->Int)(p:Pl):Prop where
 inn:S p
 all:∀q,S q->L q*bV p<L p*bV q∨(L q*bV p=L p*bV q/\sx p q)
def jt(n:Nat)(p:Pl):Prop:=p.1≤p.2/\p.2<n
theorem jt.pos(h:jt n p):0<bV p:=by unfold bV;have:=h.1;omega
theorem pG.uniq(a:pG S L p)(b:pG S L q):p=q:=by
 have h1:=a.all q b.inn;have h2:=b.all p a.inn;rcases h1 with h1 | ⟨h1,o1⟩
 ·rcases h2 with h2 | ⟨h2,_⟩<;>omega
 ·rcases h2 with h2 | ⟨_,o2⟩
  ·omega
  ·unfold sx at o1 o2;apply aaM<;>omega
theorem pG.scale(ha:0<a)(hb:0<b)(e:∀q,M q*a=L q*b)(h:pG S L p):pG S M p:=by
 refine⟨h.inn,λq hq=>?_⟩;have k1:(M q*bV p)*a=(L q*bV p)*b:=by rw[TD,e,TD]
 have k2:(M p*bV q)*a=(L p*bV q)*b:=by rw[TD,e,TD]
 rcases h.all q hq with z | ⟨z,o⟩
 ·refine .inl (WF (a:=a) ?_ (SY ha));rw[k1,k2];exact Wo z hb
 ·refine .inr ⟨U5 (Int.ne_of_gt ha) ?_,o⟩;rw[k1,k2,z]
theorem Ft{l p q lr lp lq:Int}(hr:0<lr)(hp:0<lp)(hq:0<lq)(h1:l*lp≤p*lr)(h2:p*lq<q*lp):l*lq<q*lr:=by
 refine WF (a:=lp) ?_ (SY hp);have a1:l*lq*lp=l*lp*lq:=TD _ _ _;have a2:q*lr*lp=q*lp*lr:=TD _ _ _;have b1:l*lp*lq≤p*lr*lq:=VZ h1 (SY hq);have b2:p*lr*lq=p*lq*lr:=TD _ _ _;have b3:p*lq*lr<q*lp*lr:=Wo h2 hr;omega
theorem pG.more(h:pG S L p)(st:∀r,S' r->jt n r)(e:∀r,S' r↔S r∨r=q)(gt:L p*bV q<L q*bV p):pG S' L q:=by
 have iq:S' q:=(e q).mpr (.inr Z);have ip:S' p:=(e p).mpr (.inl h.inn);refine⟨iq,λr hr=>?_⟩;rcases(e r).mp hr with z|z
 ·refine .inl (Ft (st r hr).pos (st p ip).pos (st q iq).pos ?_ gt);rcases h.all r z with z | ⟨z,_⟩
  ·exact SY z
  ·exact Int.le_of_eq z
 ·subst z;exact .inr ⟨Z,.inr ⟨Z,QB _⟩⟩
theorem pG.stay(h:pG S L p)(e:∀r,S' r↔S r∨r=q)(le:L q*bV p≤L p*bV q)(o:sx p q∨L q*bV p≠L p*bV q):pG S' L p:=by
 refine⟨(e p).mpr (.inl h.inn),λr hr=>?_⟩;rcases(e r).mp hr with z|z
 ·exact h.all r z
 ·subst z;by_cases c:L r*bV p=L p*bV r
  ·rcases o with o|o
   ·exact .inr ⟨c,o⟩
   ·exact absurd c o
  ·exact .inl ω
theorem pG.congr(h:pG S L p)(e:∀r,S' r↔S r):pG S' L p:=⟨(e p).mpr h.inn,λq hq=>h.all q ((e q).mp hq)⟩
def gT(n b e:Nat)(p:Pl):Prop:=jt n p/\(p.1<b∨(p.1=b/\e≤p.2))
def OD(n b e:Nat)(p:Pl):Prop:=jt n p/\(p.1<b∨(p.1=b/\p.2<e))
theorem u7(h1:b≤e)(h2:e<n)(r:Pl):gT n b e r↔gT n b (e+1) r∨r=(b,e):=by
 obtain⟨x,y⟩:=r;unfold gT jt;rw[Prod.mk.injEq];show(x≤y/\y<n)/\_↔((x≤y/\y<n)/\_)∨_;simp only;omega
theorem u8(r:Pl):gT n (b+1) n r↔gT n b b r:=by
 obtain⟨x,y⟩:=r;unfold gT jt;simp only;omega
theorem yf(r:Pl):jt n r↔gT n n n r:=by
 obtain⟨x,y⟩:=r;unfold gT jt;simp only;omega
abbrev Wn:=Option (Nat×Nat)
def ix(b e:Nat):Wn->Bool
 |none=>false
 |some (x,y)=>decide (b≤x)&&decide (y≤e)
def cI(ws:List Wn)(p:Pl):List Nat:=(Qv ws.length).filter λi=>ix p.1 p.2 (ws.getD i none)
def dq(ws:List Wn)(A:Nat->Int)(p:Pl):Int:=((cI ws p).map A).sum
theorem jR{A:Nat->Int}(h:∀i,0≤A i):∀l:List Nat,0≤(l.map A).sum
 | []=>V2 _
 |x::l=>by
  rw[RC,Vs];have:=h x;have:=jR h l;omega
theorem pO{A C:Nat->Int}{a b:Int}:∀l:List Nat,(∀i∈l,C i*a=A i*b)->(l.map C).sum*a=(l.map A).sum*b
 | [],_=>by simp
 |x::l,h=>by
  rw[RC,Vs,RC,Vs,X9,X9,h x QL,pO l λi hi=>h i (QP _ hi)]
end B
namespace B
open PySem PySem.Spec L2 PyProof.Rows
def cX(ns:List Int):List Int:=ns.foldl U9 []
theorem vy(ns:List Int):(Qv ns.length).map (λi=>ns.getD i 0)=ns:=by
 apply List.ext_getElem
 ·simp
 ·intro i h1 h2;rw[Xm,List.getElem_range,QQ,Qw h2];rfl
theorem ux(ns:List Int):firstMet (λi=>ns.getD i 0) ns.length=cX ns:=by
 unfold firstMet cX;rw[vy]
theorem gs:∀(ns σ:List Int),σ.Nodup->(ns.foldl U9 σ).Nodup/\(∀k,k∈ns.foldl U9 σ↔k∈σ∨k∈ns)/\(ns.foldl U9 σ).length≤σ.length+ns.length∧
  ((ns.foldl U9 σ).length=σ.length+ns.length↔(σ++ns).Nodup)
 | [],σ,h=>⟨h,λk=>by simp,by simp,by simp[h]⟩
 |n::ns,σ,h=>by
  rw[R7];by_cases c:σ.any (·==n)=true
  ·have e:U9 σ n=σ:=by unfold U9;rw[if_pos c]
   rw[e];obtain⟨a1,a2,a3,a4⟩:=gs ns σ h;have hm:n∈σ:=by
    obtain⟨x,hx,q⟩:=ZG.mp c;rw[←show x=n from by simpa using q];exact hx
   refine⟨a1,λk=>?_,by rw[Rh];omega,?_⟩
   ·rw[a2,QR];constructor
    ·rintro (h|h)
     ·exact .inl h
     ·exact .inr (.inr h)
    ·rintro (h|h|h)
     ·exact .inl h
     ·rw[h];exact .inl hm
     ·exact .inr h
   ·constructor
    ·intro q;rw[Rh] at q;omega
    ·intro q;exact absurd Z ((So.mp q).2.2 n hm n QL)
  ·have e:U9 σ n=σ++[n]:=by unfold U9;rw[if_neg c]
   rw[e];have hm:n∉σ:=λhx=>c (ZG.mpr ⟨n,hx,by simp⟩)
   have h':(σ++[n]).Nodup:=So.mpr ⟨h,by simp,λa ha b hb=>by
    rw[QK] at hb;intro z;rw[z,hb] at ha;exact hm ha⟩
   obtain⟨a1,a2,a3,a4⟩:=gs ns (σ++[n]) h';refine⟨a1,λk=>?_,?_,?_⟩
   ·rw[a2,Q6,QK,QR,or_assoc]
   ·rw[Q2,UR] at a3;rw[Rh];omega
   ·rw[Q2,UR,VO] at a4;rw[←show [n]++ns=n::ns from Z,←a4,Q2,UR];omega
theorem vE(ns:List Int):(cX ns).length≤ns.length:=by
 have:=(gs ns [] (by simp)).2.2.1;unfold cX
 simpa using this
theorem vD(ns:List Int):(cX ns).length<ns.length↔¬ns.Nodup:=by
 have h:=(gs ns [] (by simp)).2.2.2;have e:=vE ns;unfold cX at *;simp only[Z0,Wp,V8] at h;rw[←h];omega
def K3(K:Qu):List V->Hp->VK->Prop:=λxs H Q=>∃p ns,xs=[.ref p]/\aZ K H p (ns.map V.int)/\ns.length≤1000/\∀l,H l=none->Q (.ref l) (upd H l (.set (λk=>(cX ns).any (·==k)) (cX ns).length))
theorem yZ(hc:X.calm=true):dF X (.type "set") (K3 X.K):=by
 intro pins s σ H xs us Q I r h;obtain⟨p,ns,rfl,hq,hz,q⟩:=h;obtain⟨u,rfl,rx⟩:=fP r
 cases rx
 obtain⟨its,r',pl,_⟩:=I.list hq;have hl:=r'.length;rw[Qz] at hl;refine call_set_list (ns:=ns) (I.ok.hd hc) pl.isList (by simpa using vU r') (by unfold scanBound;rw[QX];omega) λh' tk hS hk=>?_
 rw[show its.toArray.size=ns.length from by rw[QX];exact hl.symm,ux] at hS;have I2:=I.laid (a:=s.heap.objs.size) (o:=.set (λk=>(cX ns).any (·==k)) (cX ns).length) (t':=tk) (λb o e=>hk b o (QY e) e) (QB _) hS;exact⟨.ref s.heap.objs.size,_,I2,Z,q _ (I.hok.fresh (QB _))⟩
def K6:List V->Hp->VK->Prop:=λxs H Q=>∃p S n,xs=[.ref p]/\H p=some (.set S n)/\Q (.int n) H
theorem zb:dF X (.builtin "len") K6:=by
 intro pins s σ H xs us Q I r h;obtain⟨p,S,n,rfl,hp,q⟩:=h;obtain⟨u,rfl,rx⟩:=fP r
 cases rx
 obtain⟨o,es,ep,t,ho,hex,hd,_,_,hb,hf,rfl⟩:=(show ObjOk X.prog X.w H s.heap p (.set S n) from I.hok p _ hp);have hb':es.size<4096:=hb;exact call_len_set ho hex hd hf ω ⟨.int es.size,H,I.tok _,⟨_,Z⟩,q⟩
def NA(xs:Array Nat):Prop:=∀i j (_:i<j) (hj:j<xs.size),xs[i]' ω<xs[j]
def Ny(t:SetTable):Prop:=t.plain=true->t.dummies=#[]/\NA t.place
section
variable {prog:Rp}{w:RF}{A:Rw}{E:Value->QD->Prop}{s:QD}
def MP:Value->Int
 | .int n _=>n
 |_=>0
def J8(w:RF)(h:QN)(a:Addr)(ks:List Int):Prop:=∃o es ep t,h.get? a=some o/\o.ExactSet/\o.data=.set es ep t/\(∀e∈es.toList,∃n u,e=(hashInt n,Tv n u))∧
 (es.toList.map λe=>MP e.2).Perm ks/\t.fits es.size=true/\Ny t/\t.led=!w.params.followText "set-order"
end
section
variable {prog:Rp}{w:RF}{A:Rw}{E:Value->QD->Prop}{s:QD}
def Kh(w:RF):Sv:={ cls:=.type "set",dict:=none,data:=.set #[] 0 (.fresh 0 0 (!w.params.followText "set-order"))}
variable {R:YI->QD->Prop}{I:Addr}{fp wr:List Addr}{G:Array GenState->Array GenState->Prop}{n:Nat}{P:Nat->Value->Prop}{St:Nat->QD->Prop}
end
section
variable {prog:Rp}{w:RF}{A:Rw}{E:Value->QD->Prop}{s:QD}
end
namespace FS
end FS
section
variable {prog:Rp}{w:RF}{A:Rw}{E:Value->QD->Prop}{s:QD}
def Pb(first:Value)(i:Nat)(a:Addr)(n ep:Nat):Sv:={ cls:=.type "set_iterator",data:=.fields #[first,.int i 0,.ref a,.int n 0,.int ep 0]}
end
end B
namespace B
open PySem PySem.Spec L2 PyProof.Rows
section
variable {prog:Rp}{w:RF}{A:Rw}{E:Value->QD->Prop}{s:QD}
end
section
variable {prog:Rp}{w:RF}{A:Rw}{E:Value->QD->Prop}{s:QD}
def Nx(prog:Rp)(w:RF)(a:Addr)(ks:List Int)(s:QD)(It:Addr)(s1:QD):Prop:=
 ∃(fp:List Addr) (items:Array Value) (St:Nat->QD->Prop),(∀A':Rw,A'.handled=none->WalksS prog w A' It fp [It] (λa b=>b=a) items.size (λi v=>items[i]?=some v) St)/\St 0 s1/\It∈fp/\(∀b∈fp,b<s1.heap.objs.size/\(b=a∨s.heap.objs.size≤b))∧
  s.heap.objs.size≤It/\∃ms,XH items.toList ms/\ms.Perm ks
def Od(t:SetTable):Nat->Nat
 |0=>0
 |k+1=>t.place.getD k 0+1
end
open AutoSeq1 in
theorem Fm(l b:Addr)(xs ys:Array Value)(n m:Nat)(od:Option Addr)(osl:Array (Option Value))(h0:¬(!xs.isEmpty&&SU (xs.size+ys.size))=true)(h1:xs.size≤sizeLine)(h2:xs.size+ys.size≤sizeLine+1) :
  Meets (Rb.«list.extend» ⟨[.ref l,.ref b],[]⟩) (λ_ R s=>s.heap.get? l=some { cls:=.type "list",dict:=none,data:=.seq xs n,slots:=#[]}/\s.heap.get? b=some { cls:=.type "tuple",dict:=od,data:=.seq ys m,slots:=osl}∧
   R (.ok (.ret Tc)) { s with heap:=s.heap.update l (VU λx=>x++ys),toks:=s.toks}):=
 .of_wp λprog w A R s h=>by
  obtain⟨hp,g,d,tk,os⟩:=s;obtain⟨hl,hb,h⟩:=h;have f1:=AutoSeq1.idx_int;have f2:=AutoSeq1.sub_tuple_tuple;have f3:=AutoSeq1.sub_list_list;have f4:=AutoSeq1.sub_tuple_list;have f5:=AutoSeq1.sub_list_tuple;have hz':(xs++ys).size≤sizeLine+1:=by rw[Array.size_append];omega
  wp_walk using(wpAny_updateSeq hl Z (hz:=h1) (_hz':=hz')),wpAny_loadPart' hl,wpAny_loadPart' hb
  exact⟨_,Z,h⟩
def K9(K:Qu):V->List V->Hp->VK->Prop:=λx vs H Q=>∃l b xs zs,x=.ref l/\vs=[.ref b]/\H l=some (.lst xs)/\bz K H b zs/\xs.length+zs.length≤1000/\Q .non (upd H l (.lst (xs++zs)))
theorem E4:L8 X "list.extend" (K9 X.K):=by
 intro pins s σ H x vs v us Q I rx rv h;obtain⟨l,b,xs,zs,rfl,rfl,hH,hB,hz,q⟩:=h
 cases rx
 obtain⟨u,rfl,ru⟩:=rv.one
 cases ru
 obtain⟨z,its,n,r,hl,e⟩:=I.lstM hH;obtain⟨its2,r2,⟨⟨oc,od,dt,sl⟩,e2,hc,n2,hd⟩,z2⟩:=I.tuple hB;have hc':oc=.type "tuple" := hc;have hd':dt=.seq its2.toArray n2:=hd;subst hc' hd';have l1:=r.length;have l2:=r2.length;have big:1000≤sizeLine:=δ
 have hsz:its.toArray.size+its2.toArray.size≤sizeLine:=by rw[QX,QX];omega
 have hlong:¬(!its.toArray.isEmpty&&SU (its.toArray.size+its2.toArray.size))=true:=by
  rw[uf hsz,R1];decide
 refine VX F.slot_list_extend ⟨_,e,Z⟩ F.entry_list_extend (F.args_list_extend_2 _ _) (Fm l b its.toArray its2.toArray n n2 od sl hlong (by rw[QX];omega) ω) ⟨e,e2,?_⟩;refine⟨.non,_,I.lset (its':=its++its2) hH e (by simp) (r.append r2) ?_,Z,q⟩;rw[Q2];omega
def Oh(K:Qu):List V->Hp->VK->Prop:=λxs H Q=>∃p ns,xs=[.ref p]/\(aZ K H p (ns.map V.int)∨bz K H p (ns.map V.int))/\ns.length<64/\∀(l:Addr) (ms:List Int),ms.Perm ns->ms.Pairwise (·≤·)->H l=none->Q (.ref l) (upd H l (.lst (ms.map V.int)))
section
variable {prog:Rp}{w:RF}{A:Rw}{E:Value->QD->Prop}{s:QD}
end
def KR(w:RF)(a:Addr)(ks:List Int):HO:=.ext λh=>J8 w h a ks
def Oi(w:RF)(K:Qu):List V->Hp->VK->Prop:=λxs H Q=>∃p ns,xs=[.ref p]/\(aZ K H p (ns.map V.int)∨bz K H p (ns.map V.int))/\ns.length≤1000/\∀l,H l=none->Q (.ref l) (upd H l (KR w l (cX ns)))
def MZ(w:RF):List V->Hp->VK->Prop:=λxs H Q=>∃p ks,xs=[.ref p]/\H p=some (KR w p ks)/\ks.length<64/\∀(l:Addr) (ms:List Int),ms.Perm ks->ms.Pairwise (·≤·)->H l=none->Q (.ref l) (upd H l (.lst (ms.map V.int)))
def NY(ta:TA):TE:=λσ H Q=>ta σ H λvs H1=>∃i j:Int,vs=[.int i,.int j]/\∀p,H1 p=none->Q (.ref p) (upd H1 p (.rng i j))
def MA:R2:=λx y H Q=>∃(i:Int) (p:Addr) (lo hi:Int),x=.int i/\y=.ref p/\H p=some (.rng lo hi)/\Q (.bl (!(decide (lo≤i)&&decide (i<hi)))) H
section
set_option autoImplicit true
set_option relaxedAutoImplicit true
end
def LQ(lo n:Nat):List Nat:=(Qv n).map λi=>lo+i
def Pn:List V->Hp->VK->Prop:=λxs H Q=>∃p,∃lo n:Nat,xs=[.ref p]/\H p=some (.rng (lo:Int) ((lo+n:Nat):Int))/\lo+n≤1000/\∀l,H l=none->Q (.ref l) (upd H l (.lst ((LQ lo n).map λi:Nat=>V.int i)))
theorem zh:SX "set"=some (.type "set"):=by kernel_rfl
theorem qh:∀{bs:List Bool} {us:List Value},bu (bs.map V.bl) us->∀{i:Nat} {v:Value},us[i]?=some v->v=.bool (bs.getD i false)
 | [],_,.nil,i,v,e=>by cases e
 |b::bs,_,.cons r t,0,v,e=>by
  rw[VC] at e
  cases e
  exact(show _=UY b from r)
 |b::bs,_,.cons r t,i+1,v,e=>by
  rw[VD] at e;exact qh t e
theorem qm:∀(bs:List Bool),(Qv bs.length).any (λi=>bs.getD i false)=bs.any id
 | []=>rfl
 |b::bs=>by
  rw[Rh,VM,Uh,Zh,Uh];have:=qm bs;show(b||(Qv bs.length).any (λi=>bs.getD i false))=(id b||bs.any id);rw[this];rfl
theorem zf(hc:X.calm=true):dF X (.builtin "any") (λxs H Q=>∃(p:Addr) (bs:List Bool),xs=[.ref p]/\aZ X.K H p (bs.map V.bl)/\Q (.bl (bs.any id)) H):=by
 intro pins s σ H xs us Q I r h;obtain⟨p,bs,rfl,hq,q⟩:=h;obtain⟨u,rfl,rx⟩:=fP r
 cases rx
 obtain⟨its,rv,pl,hz⟩:=I.list hq;have ne:p≠s.heap.objs.size:=by
  obtain⟨o,ho,_⟩:=pl.isList;exact RQ (QY ho)
 have hlen:its.toArray.size=bs.length:=by rw[QX,←rv.length,Qz]
 refine call_any_walk (VE pl.isList ?_);refine⟨_,_,_,_,_,_,λi=>bs.getD i false,Z,Walks.list (A:=X.A.in1) (I.ok.hd hc) _ p ne its.toArray,⟨⟨_,QZ _ Z,Z,Z⟩,pl.isList.push _⟩,λi v s' Q' E' hv hQ=>?_,λh' tk hk=>?_⟩
 ·have e:=qh rv (i:=i) (v:=v) (by simpa using hv);subst e;exact TV hQ
 ·rw[hlen,qm];refine⟨.bl _,H,I.kept (t':=tk) λb o e=>hk b o (λz=>?_) (Qy _ e),Z,q⟩;rw[QK.mp z] at e;exact absurd (QY e) (RY _)
def Oc(te:TE)(i:Nat):TS:=λD σ H=>te σ H λx H1=>∃σ',σ.set i (some x)=σ'/\D.nx σ' H1
section
variable {prog:Rp}{w:RF}{A:Rw}{E:Value->QD->Prop}{s:QD}
end
section
variable {X:Cx}{pins:List (Addr×Sv)}{σ:L2.St}{H:Hp}{A:Rw}{E:Value->QD->Prop}{a kS:Addr}{vs:List Value}{kz:List Int}{f:Value}{e1:Nat}
def MK(X:Cx)(σ:L2.St)(H:Hp)(A:Rw)(f:Value)(vs:List Value)(kz:List Int):Prop:=
 ∀(i:Nat) (v:Value) (k:Int),vs[i]?=some v->kz[i]?=some k->∀(pins:List (Addr×Sv)) (s:QD),Inv X pins σ H s→
  Q0 (Q5 X.prog X.w) A (call f [v]) (λu s2=>(∃t,u=.int k t)/\Inv X pins σ H s2) (λ_ _=>False) s
end
def Hv(sp:Sp)(key:Nat->Int):List V->Hp->VK->Prop:=λxs H Q=>∃(p:Addr) (n:Nat),xs=[.ref p]/\H p=some (.rng 0 n)/\n<64/\(∀i<n,∀(Qk:VK),Qk (.int (key i)) H->sp [.int (i:Nat)] H Qk λ_ _ _=>False)∧
 ∀(l:Addr) (ms:List Nat),ms.Perm (Qv n)->ms.Pairwise (λa b=>key a≤key b)->H l=none->Q (.ref l) (upd H l (.lst (ms.map λi:Nat=>V.int i)))
def MR(sp:Sp)(key:Nat->Int)(t:TA):TE:=λσ H Q=>t σ H λvs H1=>Hv sp key vs H1 Q
def K5:V->List V->Hp->VK->Prop:=λx vs H Q=>∃(l:Addr) (ns:List Nat) (j k:Nat),x=.ref l/\vs=[.int (k:Int)]/\H l=some (.lst (ns.map λi:Nat=>V.int i))/\ns[j]?=some k/\(∀m,m<j->ns[m]?≠some k)/\Q .non (upd H l (.lst ((ns.eraseIdx j).map λi:Nat=>V.int i)))
def Nj(k:Int):Value->Bool
 | .int i _=>i==k
 |_=>false
theorem E3:L8 X "list.remove" K5:=by
 intro pins s σ H x vs v us Q I rx rv h;obtain⟨l,ns,j,k,rfl,rfl,hH,hj,hno,q⟩:=h
 cases rx
 obtain⟨u,rfl,ru⟩:=rv.one;obtain⟨t,rfl⟩:=ru;obtain⟨z,its,n,r,hl,e⟩:=I.lstM hH;rw[Qz] at z hl;have at_:∀(m:Nat) (w:Value),its[m]?=some w->∃i t',ns[m]?=some i/\w=.int (i:Int) t':=λm w hw=>by
  have hm:m<its.length:=(QM.mp hw).1;obtain⟨i,hi⟩:∃i,ns[m]?=some i:=⟨_,Qw ω⟩;obtain⟨w',hw',t',e'⟩:=r.get (show(ns.map λi:Nat=>V.int i)[m]?=some (V.int i) by rw[QJ,hi];rfl);rw[hw] at hw'
  cases hw'
  exact⟨i,t',hi,e'⟩
 have jl:j<ns.length:=(QM.mp hj).1;have mem:∀y,y∈its.toArray->ZH y (.int (k:Int) t) (Nj k y):=λy hy=>by
  obtain⟨m,hm⟩:=Va (by simpa using hy);obtain⟨i,t',_,rfl⟩:=at_ m y hm;exact ZH.int _ _ _ _
 have val:∀m (hm:m<its.toArray.size) (i:Nat),ns[m]?=some i->Nj k its.toArray[m]=((i:Int)==(k:Int)):=λm hm i hi=>by
  have e1:its[m]?=some (its.toArray[m]):=by simp only[List.getElem_toArray];exact Qw (by simpa using hm)
  obtain⟨i',t',h1,h2⟩:=at_ m _ e1;rw[hi] at h1
  cases h1
  rw[h2];rfl
 refine VX F.slot_list_remove ⟨_,e,Z⟩ F.entry_list_remove (F.args_list_remove_2 _ _)
  (MeetsSeq.list_remove l its.toArray n _ (Nj k) mem j (by simpa [←hl] using jl) (by rw[val j _ k hj];simp) (λm hm lt=>?_) (by rw[QX];omega)) ⟨e,?_⟩
 ·obtain⟨i,hi⟩:∃i,ns[m]?=some i:=⟨_,Qw ω⟩;rw[val m hm i hi];refine beq_eq_false_iff_ne.mpr λz=>hno m lt ?_
  rw[hi];exact congrArg some ω
 refine⟨.non,_,I.lset (its':=its.eraseIdx j) hH e ?_ ?_ ?_,Z,q⟩
 ·show its.toArray.eraseIdxIfInBounds j=(its.eraseIdx j).toArray;rw[List.eraseIdxIfInBounds_toArray]
 ·have:=r.eraseIdx j;have e2:∀(l:List Nat) (j:Nat),(l.map λi:Nat=>V.int i).eraseIdx j=(l.eraseIdx j).map λi:Nat=>V.int i:=by
   intro l
   induction l with
   |nil=>intro j;rfl
   |cons a l ih=>
    intro j
    cases j with
    |zero=>rfl
    |succ j=>simp only[RC,Xn,ih]
  rw[e2] at this;exact this
 ·rw[Qz];have:=List.length_eraseIdx_le ns j;omega
abbrev Nv(X:Cx)(N':List Rr)(scope:UZ)(y:Rr)(cl:List (Rr×Addr))(C:Addr)(fp:List Addr)(pins:List (Addr×Sv))(s:QD)(H:Hp):Cx:=qd X N' scope (λz=>z==y) ((y,C+1)::cl) C fp pins s H
structure wm(X:Cx)(scope:UZ)(y:Rr)(cl:List (Rr×Addr)):Prop where
 has:∀x,((Vp scope cl 0 X.env).kindOf x=some .cell∨(Vp scope cl 0 X.env).kindOf x=some .free)->x=y∨∃c,cl.lookup x=some c
 up:∀x c,cl.lookup x=some c->X.env.cells.lookup x=some c
 no:cl.lookup y=none
theorem yX(h1:((Y8 scope X.env).names.all λz=>!(z.2==.cell||z.2==.free)||(z.1==y)||(cl.lookup z.1).isSome)=true)(h2:jv X cl)(h3:cl.lookup y=none):wm X scope y cl:=by
 refine⟨λx h=>?_,λx c e=>h2.mem _ (mem_of_lookup e),h3⟩;have h4:=Sk.mp h1;have key:∀k:Vm,(k=.cell∨k=.free)->(Y8 scope X.env).names.lookup x=some k->x=y∨∃c,cl.lookup x=some c:=λk hk e=>by
  have q:=h4 _ (mem_of_lookup e);have z:(k==Yx||k==aan)=true:=by rcases hk with rfl|rfl<;>rfl
  simp only[z,UP,Vq,Vu] at q;rcases q with q|q
  ·exact .inl (VA q)
  ·exact .inr (SR.mp q)
 rcases h with h|h
 ·exact key _ (.inl Z) h
 ·exact key _ (.inr Z) h
theorem uk{cl:List (Rr×Addr)}(h:((y,a):: cl).lookup x=some c):(x=y/\c=a)∨(x≠y/\cl.lookup x=some c):=by
 rw[Ve] at h
 cases e:x==y with
 |true=>
  rw[e] at h;injection h with h;exact .inl ⟨VA e,h.symm⟩
 |false=>
  rw[e] at h;refine .inr ⟨λz=>?_,h⟩;rw[z,beq_self_eq_true] at e
  cases e
theorem wW{cl:List (Rr×Addr)}(n:cl.lookup y=none)(h:cl.lookup x=some c):((y,a):: cl).lookup x=some c:=by
 have ne:(x==y)=false:=by
  cases e:x==y with
  |true=>rw[VA e,n] at h;cases h
  |false=>rfl
 rw[Ve,ne];exact h
section
variable {M:Model}{A:Rw}{E:Value->QD->Prop}{s:QD}
theorem EY(hs:∀n:Nat,Xf n scope.names cl=(y,n):: cl)(hp:∀h:QN,pushCells h scope.names=h.push { cls:=.type "cell",data:=.cell none})
  (hQ:Q { scope,locals:=s.heap.objs.size,globals,cells:=(y,s.heap.objs.size+1):: cl,qual,func:=none,code:=outer.code,frame:=outer.frame,builtins:=outer.builtins} { s with heap:=(s.heap.push { cls:=.type "dict",data:=.dict #[]}).push { cls:=.type "cell",data:=.cell none} }):
  Q0 M A (WB scope globals cl [] qual none .none (some outer)) Q E s:=by
 simp only[WB,Vw,if_true];refine Qx (wpAny_alloc (Qx (wpAny_layCells _ (λname kind cells=>by cases hkc:kind==Yx<;>simp[hkc]) _ _ _ _ ?_)));rw[hs,hp];refine Qx (wpAny_pure (wpAny_pure ?_));rw[show({ s with heap:=s.heap.push { cls:=.type "dict",data:=.dict #[]} }:QD).heap.objs.size=s.heap.objs.size+1 from SV ..];exact hQ
end
theorem LR(hcf:∀n:Nat,Xf n scope.names cl=(y,n):: cl)(hcp:∀h:QN,pushCells h scope.names=h.push { cls:=.type "cell",data:=.cell none})(hkind:scope.kind=.function)(hcl:wm X scope y cl):oV X scope (λz=>z==y) cl (λC=>(y,C+1):: cl) where
 fun_:=hkind
 cells:=λC=>⟨λx h=>by
  rcases hcl.has x h with z | ⟨c,z⟩
  ·exact⟨C+1,by rw[z,Ve,beq_self_eq_true]⟩
  ·exact⟨c,wW hcl.no z⟩,λx c e=>by
  rcases uk e with⟨h1,h2⟩ | ⟨_,h2⟩
  ·exact .inl ⟨by rw[h1];exact beq_self_eq_true y,h2⟩
  ·exact .inr (hcl.up x c h2),λa b h1 h2=>(VA h1).trans (VA h2).symm,λx c e=>wW hcl.no e,λx c h e=>by
  rcases uk e with⟨_,h2⟩ | ⟨h1,_⟩
  ·rw[h2];exact Ui C
  ·exact absurd (VA h) h1⟩
 make:=λ{s Q} k=>EY hcf hcp (k _ _ s.toks _ ((QN.Ns.new s.heap (.type "dict")).keeps λb o e=>Qy { cls:=.type "cell",data:=.cell none} e)
  (λ_ _=>⟨_,by rw[←show(s.heap.push { cls:=.type "dict",data:=.dict #[]}).objs.size=s.heap.objs.size+1 from SV ..];exact QZ _ Z,Z⟩)
  (λb o e=>Qy _ (Qy _ e)) Z Z)
section
variable {X:Cx}{N':List Rr}{scope:UZ}{y:Rr}{cl:List (Rr×Addr)}{src:List (Option Nat)}{tg iter elt:Ry}{ifs:List Ry}{wi:TI}{g:TG}{tt:TT}{te:TE}{pos:UE}
theorem BI{i:Nat}{x:Rr}{pos' pos2:UE}(hN:X.N.Nodup)(hi':X.N[i]?=some x)(hx:zy X.env.scope x)(hc:X.calm=true)(hi:QI X tg iter wi)(hg:∀C fp pins s H,QG (Nv X N' scope y cl C fp pins s H) tg g)(ht:∀C fp pins s H,Kl (Nv X N' scope y cl C fp pins s H) ifs tt)(he:∀C fp pins s H,QE (Nv X N' scope y cl C fp pins s H) elt te)(hfree:dh X scope cl N' src)(hclos:WC scope X.env=TL cl)(hcf:∀n:Nat,Xf n scope.names cl=(y,n)::cl)(hcp:∀h:QN,pushCells h scope.names=h.push { cls:=.type "cell",data:=.cell none})(hkind:scope.kind=.function)(hnames:∀x∈scope.names,x.2=.local->scope.names.lookup x.1=some .local)(hcl:wm X scope y cl)(hs:∀x,Tk iter X.env x=TL x:=by intro _;rfl)(hsw:UC (.ListComp elt [⟨tg,iter,ifs,0⟩] scope pos) (some (.Name x pos')) pos2.line X.env=TL true:=by rfl)(hf:X.fn x=true∨X.env.scope.names.lookup x=some .local:=by first|exact .inl Z|exact .inr Z|assumption):QS X (.Assign [.Name x pos'] (.ListComp elt [⟨tg,iter,ifs,0⟩] scope pos) pos2) (sZ (nI wi src g tt te) (mj i)):=⟨wJ hN hi' hx hc hi.p (λz0 z1 z2 z3 z4=>(hg z0 z1 z2 z3 z4).p) (λz0 z1 z2 z3 z4=>(ht z0 z1 z2 z3 z4).p) (λz0 z1 z2 z3 z4=>(he z0 z1 z2 z3 z4).p) hfree hclos (LR hcf hcp hkind hcl) hnames hs hsw hf⟩
theorem yk(hclos:WC scope X.env=TL cl)(hc:X.calm=true)(hi:QI X tg iter wi)(hg:∀C fp pins s H,QG (Fy X N' scope cl C fp pins s H) tg g)(ht:∀C fp pins s H,Kl (Fy X N' scope cl C fp pins s H) ifs tt)(he:∀C fp pins s H,QE (Fy X N' scope cl C fp pins s H) elt te)(hfree:dh X scope cl N' src)(hcell:∀x∈scope.names,x.2≠.cell)(hkind:scope.kind=.function)(hnames:∀x∈scope.names,x.2=.local->scope.names.lookup x.1=some .local)(hcl:lj X scope cl)(hs:∀x,Tk iter X.env x=TL x:=by intro _;rfl):QE X (.ListComp elt [⟨tg,iter,ifs,0⟩] scope pos) (nI wi src g tt te):=bP hc hi hg ht he hfree hclos hcell hkind hnames hcl hs
theorem BK{K:Qu}{l tg:Ry}{tl:TE}(hK:X.K=K)(hl:QE X l tl):QI X tg l (CU K tl):=by subst hK;exact di hl
theorem v6{X:Cx}{K:Qu}(hK:X.K=K)(hc:X.calm=true):dF X (.builtin "any") (λxs H Q=>∃p bs,xs=[V.ref p]/\aZ K H p (List.map V.bl bs)/\Q (V.bl (bs.any id)) H):=by subst hK;exact zf hc
end
structure cS(K:Qu)(n:Rr)(st:Stmt)(f:Addr)(d:QF):Prop where
 p:PySem.W.nsIn K Rg n=some (some (.ref f))
 F:Fun K n n st f d
section
variable {K:Qu}{n:Rr}{st:Stmt}{f:Addr}{d:QF}
theorem isF{oc:Value}{od an:Option Addr}{sl:Array (Option Value)}{kV dc pm cd ct:Value}(p:PySem.W.nsIn K Rg n=some (some (.ref f)))
  (l:K.lookup f=some ⟨oc,od,.func (Ue n n (eX st) (dU st) (ax st) .none kV dc pm an cd ct),sl⟩) (c:Wx K cd n=true) (k:SH K (.ref f)=true) :
  cS K n st f (Ue n n (eX st) (dU st) (ax st) .none kV dc pm an cd ct):=⟨p,vW l c k⟩
abbrev BA(n:Rr)(st:Stmt)(us:List Value)(ps:List Rr):Prop:=∀(kV dc pm:Value) (an:Option Addr) (cd ct:Value),Z8 (Ue n n (eX st) (dU st) (ax st) .none kV dc pm an cd ct) ⟨us,[]⟩=TL (ps.zip us)
theorem cS.b1{x:Rr}(I:cS K n st f d)(h:∀u,BA n st [u] [x]:=by exact λ_ _ _ _ _ _ _=>Z):aP K d [x] []:=I.F.binds λa b c e g i us hl=>match us,hl with | [u],_=>h u a b c e g i
theorem cS.b2{x y:Rr}(I:cS K n st f d)(h:∀u v,BA n st [u,v] [x,y]:=by exact λ_ _ _ _ _ _ _ _=>Z):aP K d [x,y] []:=I.F.binds λa b c e g i us hl=>match us,hl with | [u,v],_=>h u v a b c e g i
theorem cS.b3{x y z:Rr}(I:cS K n st f d)(h:∀u v w,BA n st [u,v,w] [x,y,z]:=by exact λ_ _ _ _ _ _ _ _ _=>Z):aP K d [x,y,z] []:=I.F.binds λa b c e g i us hl=>match us,hl with | [u,v,w],_=>h u v w a b c e g i
theorem cS.b5{x y z t s:Rr}(I:cS K n st f d)(h:∀u v w r q,BA n st [u,v,w,r,q] [x,y,z,t,s]:=by exact λ_ _ _ _ _ _ _ _ _ _ _=>Z):aP K d [x,y,z,t,s] []:=I.F.binds λa b c e g i us hl=>match us,hl with | [u,v,w,r,q],_=>h u v w r q a b c e g i
end
theorem ah{X:Cx}{st:Stmt}{cF:List Stmt}{t u:TS}(h1:QS X st t)(h2:cJ X cF u):cJ X (st::cF) (let Uq:=u;GH t Uq):=BG h1 h2
def Ma(K:Qu)(a b:Addr):It:=
 ⟨λi H=>∃xs ys x y,aZ K H a xs/\bz K H b ys/\xs[i]?=some x/\ys[i]?=some y,
  λi H v H'=>∃p x y,H p=none/\v=.ref p/\H'=upd H p (.tup [x,y])/\(∀xs,aZ K H a xs->xs[i]?=some x)/\∀ys,bz K H b ys->ys[i]?=some y,
  λi H=>∃xs ys,aZ K H a xs/\bz K H b ys/\(xs.length≤i∨ys.length≤i)⟩
def Oy(z TI TO i1 i2 a b:Addr)(i:Nat)(h:QN):Prop:=Xh h z TI TO .none/\U8 h TI (.ref i1) (.ref i2)/\(∃u v,U8 h TO u v)/\h.IsListIter i1 a i/\h.IsTupleIter i2 b i
abbrev Kv(h:QN)(a:Addr):QN:=h.push { cls:=.type "list_iterator",data:=.fields #[.ref a,.int 0 0]}
abbrev Kt(h:QN)(a b:Addr):QN:=(Kv h a).push { cls:=.type "tuple_iterator",data:=.fields #[.ref b,.int 0 0]}
abbrev Kr(h:QN)(a b:Addr):QN:=(Kt h a b).push { cls:=.type "tuple",data:=.seq #[.ref h.objs.size,.ref (Kv h a).objs.size]}
abbrev ML(h:QN)(a b:Addr):QN:=(Kr h a b).push { cls:=.type "tuple",data:=.seq #[.none,.none]}
abbrev OO(h:QN)(a b:Addr):QN:=(ML h a b).push { cls:=.type "zip",data:=.fields #[.none,.bool false,.bool false,.ref (Kt h a b).objs.size,.ref (Kr h a b).objs.size]}
def Nk(K:Qu)(ta:TA):TI:=λσ H R=>ta σ H λvs H1=>∃a b,vs=[.ref a,.ref b]/\(∃xs,aZ K H1 a xs)/\(∃ys,bz K H1 b ys)/\R (Ma K a b) H1
def Mb(K:Qu)(a b:Addr):It:=
 ⟨λi H=>∃xs ys x y,aZ K H a xs/\aZ K H b ys/\xs[i]?=some x/\ys[i]?=some y,
  λi H v H'=>∃p x y,H p=none/\v=.ref p/\H'=upd H p (.tup [x,y])/\(∀xs,aZ K H a xs->xs[i]?=some x)/\∀ys,aZ K H b ys->ys[i]?=some y,
  λi H=>∃xs ys,aZ K H a xs/\aZ K H b ys/\(xs.length≤i∨ys.length≤i)⟩
def Oz(z TI TO i1 i2 a b:Addr)(i:Nat)(h:QN):Prop:=Xh h z TI TO .none/\U8 h TI (.ref i1) (.ref i2)/\(∃u v,U8 h TO u v)/\h.IsListIter i1 a i/\h.IsListIter i2 b i
abbrev Kw(h:QN)(a:Addr):QN:=h.push { cls:=.type "list_iterator",data:=.fields #[.ref a,.int 0 0]}
abbrev Ku(h:QN)(a b:Addr):QN:=(Kw h a).push { cls:=.type "list_iterator",data:=.fields #[.ref b,.int 0 0]}
abbrev Ks(h:QN)(a b:Addr):QN:=(Ku h a b).push { cls:=.type "tuple",data:=.seq #[.ref h.objs.size,.ref (Kw h a).objs.size]}
abbrev MM(h:QN)(a b:Addr):QN:=(Ks h a b).push { cls:=.type "tuple",data:=.seq #[.none,.none]}
abbrev OP(h:QN)(a b:Addr):QN:=(MM h a b).push { cls:=.type "zip",data:=.fields #[.none,.bool false,.bool false,.ref (Ku h a b).objs.size,.ref (Ks h a b).objs.size]}
def Nl(K:Qu)(ta:TA):TI:=λσ H R=>ta σ H λvs H1=>∃a b,vs=[.ref a,.ref b]/\(∃xs,aZ K H1 a xs)/\(∃ys,aZ K H1 b ys)/\R (Mb K a b) H1
section
variable {prog:Rp}{w:RF}{A:Rw}{E:Value->QD->Prop}
end
section
variable {prog:Rp}{w:RF}{A:Rw}{E:Value->QD->Prop}{s:QD}
end
structure L3(K:Qu)(H:Hp)(ys:List V)(kvs:List (List dB×V)):Prop where
 len:ys.length=kvs.length
 row:∀(i:Nat) (kv:List dB×V),kvs[i]?=some kv->∃r b,ys[i]?=some (.ref r)/\bz K H r [.ref b,kv.2]/\H b=some (.tup (kv.1.map kV))
 nd:(kvs.map (·.1)).Nodup
def M9(K:Qu):List V->Hp->VK->Prop:=λvs H Q=>∃(p:Addr) (ob:Sv) (ys:List V) (kvs:List (List dB×V)),vs=[.ref p]/\H p=some (.frz ob (.tup ys))/\ob.dict=none/\L3 K H ys kvs/\∀l,H l=none->Q (.ref l) (upd H l (.dT kvs))
def Og(K:Qu):List V->Hp->VK->Prop:=λvs H Q=>∃(p:Addr) (ys:List V),vs=[.ref p]/\aZ K H p ys/\∀(l:Addr) (ob:Sv),H l=none->ob.dict=none->Q (.ref l) (upd H l (.frz ob (.tup ys)))
theorem DM{K:Qu}{H:Hp}{a b:Addr}{xs ys:List V}(h:bz K H a xs)(h':bz K H b ys)(hl:xs.length=ys.length):Kj (NF K a b) H xs.length (λi v H'=>∃p x y,v=.ref p/\xs[i]?=some x/\ys[i]?=some y/\H' p=some (.tup [x,y])) where
 go:=λi H' hi z=>⟨xs,ys,_,_,aI.same z _ _ h,aI.same z _ _ h',Qw hi,Qw ω⟩
 stop:=λH' z=>⟨xs,ys,aI.same z _ _ h,aI.same z _ _ h',.inl (QB _)⟩
 yld:=λi H' x H'' hi z y=>by obtain⟨p,u,v,hp,rfl,rfl,y1,y2⟩:=y;exact⟨au hp _,p,u,v,Z,y1 xs (aI.same z _ _ h),y2 ys (aI.same z _ _ h'),ao⟩
section
variable {X:Cx}{K:Qu}
end
def Ql(x y:Int×Int):Bool:=decide (x.1<y.1)||(decide (x.1=y.1)&&decide (x.2<y.2))
def Ki(x y:Int×Int):Bool:=decide (x.1>y.1)||(decide (x.1=y.1)&&decide (x.2>y.2))
section
variable {prog:Rp}{w:RF}{A:Rw}{E:Value->QD->Prop}{s:QD}{a b:Addr}{x y:Int×Int}{t1 t2 t3 t4:Tok}
theorem uc(ha:s.heap.IsTuple a #[.int x.1 t1,.int x.2 t2])(hb:s.heap.IsTuple b #[.int y.1 t3,.int y.2 t4])(h:P (.done (.ret (.bool (Ki x y)))) s):
  Q0 (Q5 prog w) A (Rb.«tuple.__gt__» ⟨[.ref a,.ref b],[]⟩) P E s:=by
 have hTb:=hb.typeIs;obtain⟨oa,hoa,_,na,hda⟩:=ha;obtain⟨ob,hob,_,nb,hdb⟩:=hb;show Q0 _ _ (YM (.ref b) (.type "tuple") >>= _) _ _ s;refine Qx (Xi hTb isSubtype_tuple_tuple ?_);simp only[UP,Tz,if_false];refine Qx (YR hoa hda (Qx (YR hob hdb (Qx ?_))));unfold Ki at h;show Q0 _ _ (forIn [(Tv x.1 t1,Tv y.1 t3),(Tv x.2 t2,Tv y.2 t4)] _ _) _ _ s;rw[V9];refine Qx (Qx (Xd ?_));by_cases c:x.1=y.1
 ·rw[c] at h;rw[show(x.1==y.1)=true by rw[c];exact beq_self_eq_true _];simp only[UP,Tz,if_false];refine wpAny_pure ?_;show Q0 _ _ (forIn [(Tv x.2 t2,Tv y.2 t4)] _ _) _ _ s;rw[V9];refine Qx (Qx (Xd ?_));rw[decide_eq_false (Int.lt_irrefl _),decide_eq_true Z,Vq,YB] at h;by_cases d:x.2=y.2
  ·rw[show(x.2==y.2)=true by rw[d];exact beq_self_eq_true _];simp only[UP,Tz,if_false];rw[d,decide_eq_false (Int.lt_irrefl _)] at h;exact wpAny_pure (wpAny_pure (wpAny_pure h))
  ·rw[show(x.2==y.2)=false from beq_eq_false_iff_ne.mpr d];simp only[Vb,if_true];refine Qx (VT (Qx ?_));refine Zj (op:=.Gt) (VW s _ t2) (VW s _ t4) F.slot_int_gt F.entry_int_gt (F.args_int_gt_2 _ _) (gives_int_gt _ _ t2 t4) (λx=>nomatch x) ?_;exact Qx (wpAny_pure (wpAny_pure (wpAny_pure (wpAny_pure h))))
 ·rw[show(x.1==y.1)=false from beq_eq_false_iff_ne.mpr c];simp only[Vb,if_true];rw[decide_eq_false c,U0,W8] at h;refine Qx (VT (Qx ?_));refine Zj (op:=.Gt) (VW s _ t1) (VW s _ t3) F.slot_int_gt F.entry_int_gt (F.args_int_gt_2 _ _) (gives_int_gt _ _ t1 t3) (λx=>nomatch x) ?_;exact Qx (wpAny_pure (wpAny_pure (wpAny_pure (wpAny_pure h))))
theorem EQ(hu:A.units<cLine)(ha:s.heap.IsTuple a #[.int x.1 t1,.int x.2 t2])(hb:s.heap.IsTuple b #[.int y.1 t3,.int y.2 t4])(h:Q (.bool (Ki x y)) s):
  Q0 (Q5 prog w) A (richCompare .Gt (.ref a) (.ref b)) Q E s:=
 wpAny_richCompare_same_room (op:=.Gt) ha.typeIs hb.typeIs F.slot_tuple_gt (Tf F.slot_tuple_gt ha.typeIs F.entry_tuple_gt (uc ha hb ⟨_,Z,(λe=>nomatch e),h⟩) (F.args_tuple_gt_2 _ _)) hu
end
section
variable {prog:Rp}{w:RF}{A:Rw}{R:YI->QD->Prop}{I:Addr}{fp wr:List Addr}{n:Nat}{P:Nat->Value->Prop}{St:Nat->QN->Prop}
def Qa(prog:Rp)(w:RF)(A:Rw)(op:CmpOp)(h0:QN)(wr:List Addr)(S:Addr)(P:Nat->Value->Prop)(bt:Nat->Nat->Bool):Prop:=
 ∀i j vi vj (s:QD) (Q:Value->QD->Prop) (E:Value->QD->Prop),(∀b o,b∉wr->b≠S->h0.get? b=some o->s.heap.get? b=some o)->P i vi->P j vj->Q (.bool (bt i j)) s->Q0 (Q5 prog w) A (richCompare op vi vj) Q E s
end
section
variable {prog:Rp}{w:RF}{A:Rw}{E:Value->QD->Prop}{s:QD}
end
section
variable {prog:Rp}{w:RF}{A:Rw}{R:YI->QD->Prop}{I:Addr}{fp wr:List Addr}{n:Nat}{P:Nat->Value->Prop}{St:Nat->QN->Prop}
end
section
variable {prog:Rp}{w:RF}{A:Rw}{E:Value->QD->Prop}{s:QD}
end
def J2(K:Qu)(H:Hp)(v:V)(p:Int×Int):Prop:=∃a,v=.ref a/\bz K H a [.int p.1,.int p.2]
theorem J2.mono{K:Qu}{H H':Hp}{v:V}{p:Int×Int}(h:J2 K H v p)(t:aI K H H'):J2 K H' v p:=let ⟨a,e,q⟩:=h;⟨a,e,t _ _ q⟩
section
variable {X:Cx}{pins:List (Addr×Sv)}{σ:L2.St}{H:Hp}{s:QD}
theorem tZ(I:Inv X pins σ H s)(h:J2 X.K H v p)(r:br v u):∃a t1 t2,u=.ref a/\s.heap.IsTuple a #[.int p.1 t1,.int p.2 t2]:=by
 obtain⟨a,rfl,hS⟩:=h
 cases r
 obtain⟨its,rv,pl,_⟩:=I.tuple hS
 cases rv with
 |cons w1 w2=>
  obtain⟨t1,rfl⟩:=w1
  cases w2 with
  |cons w3 w4=>
   obtain⟨t2,rfl⟩:=w3
   cases w4
   exact⟨a,t1,t2,Z,pl⟩
end
def Pi(f:Int×Int->Int×Int->Bool)(K:Qu):R2:=λx y H Q=>∃p q,J2 K H x p/\J2 K H y q/\Q (.bl (f p q)) H
theorem IA(hr:dN k X.A):ir X (Sw .Gt) (Pi Ki X.K):=by
 intro pins s σ H x y v u Q I rx ry h;obtain⟨p,q,hp,hq,k⟩:=h;obtain⟨a,t1,t2,rfl,ha⟩:=tZ I hp rx;obtain⟨b,t3,t4,rfl,hb⟩:=tZ I hq ry;exact EQ (by have:=hr.units;omega) ha hb ⟨.bl _,H,I,Z,k⟩
def Pw(ps:List (Int×Int))(i:Nat):Int×Int:=ps.getD i (0,0)
def MF(k:Int):Value->Bool
 | .int n _=>n==k
 |_=>false
def Pt(K:Qu):V->List V->Hp->VK->Prop:=λx vs H Q=>∃(l:Addr) (ns:List Int) (n:Int),x=.ref l/\vs=[.int n]/\aZ K H l (ns.map V.int)/\Q (.int (ns.count n:Nat)) H
theorem Do{α β:Type}{K:Qu}{H:Hp}{D a:Addr}{xs:List V}{ds:List α}{P:Hp->V->β->Prop}{f:α->β}{p:α->Bool}{src:List (Option Nat)}{σ:L2.St}{g:TG}{tt:TT}{te:TE}{Q:Hp->Prop}
  (mono:∀H H' v d,aI K H H'->P H v d->P H' v d) (hD:H D=none) (hS:aZ K H a xs) (hl:xs.length=ds.length) (hn:ds.length≤1000)
  (turn:∀(i:Nat) (x:V) (d:α) (H':Hp),xs[i]?=some x->ds[i]?=some d->aL H H'->∀(R:VK) (E:Hp->Prop),(p d=true->∀v H'',aL H' H''->P H'' v (f d)->R v H'')->(p d=false->∀H'',aL H' H''->E H'')→
   g x (da src σ) H' λσ2 H2=>gf (da src σ) σ2/\tt σ2 H2 λok H3=>if ok=true then te σ2 H3 R else E H3)
  (fin:∀H' ys,aL H H'->H' D=some (.lst ys)->Als (P H') ys ((ds.filter p).map f)->Q H') :
  ∃W:Nat->Nat->List V->Hp->Prop,(∃m,W 0 m [] (upd H D (.lst [])))/\∀i m ys H,W i m ys H->((DJ K a).stop i H/\Q H)∨((DJ K a).go i H/\∀x H',(DJ K a).yld i H x H'→
   g x (da src σ) H' λσ2 H2=>gf (da src σ) σ2/\tt σ2 H2 λok H3=>
    if ok=true then te σ2 H3 λy H4=>H4 D=some (.lst ys)/\ys.length<sizeLine/\∃m',m'<m/\W (i+1) m' (ys++[y]) (upd H4 D (.lst (ys++[y]))) else ∃m',m'<m/\W (i+1) m' ys H3):=by
 refine⟨λi m ys H'=>i≤ds.length/\m=ds.length-i/\H' D=some (.lst ys)/\aL H H'/\Als (P H') ys (((ds.take i).filter p).map f),⟨_,Re _,Z,ao,au hD _,.nil⟩,?_⟩;rintro i m ys H1 ⟨hi,rfl,d1,s1,al1⟩;have hS1:aZ K H1 a xs:=s1.seq hS;by_cases hix:i<ds.length
 ·have hx0:xs[i]?=some (xs[i]' ω):=Qw _;refine .inr ⟨⟨xs,_,hS1,hx0⟩,?_⟩;rintro x H2 ⟨rfl,hy⟩;have hx:=hy xs hS1;obtain⟨d,hd⟩:∃d,ds[i]?=some d:=⟨_,Qw hix⟩;have tk:ds.take (i+1)=ds.take i++[d]:=by rw[Rn,hd];rfl
  refine turn i x d _ hx hd s1 _ _ (λo3 v H3 s3 p3=>?_) λn3 H3 s3=>?_
  ·have d3:H3 D=some (.lst ys):=s3 _ _ d1;have tm:aI K H2 (upd H3 D (.lst (ys++[v]))):=(aI.same s3).trans (aI.up d3 _);have ly:ys.length≤1000:=by
    rw[al1.len,Qz];exact Rm (RU _ _) (by rw[Rs];omega)
   refine⟨d3,be ly,ds.length-(i+1),ω,hix,Z,ao,λb o q=>?_,?_⟩
   ·rw[aJ (aX q hD)];exact s3 _ _ (s1 _ _ q)
   ·rw[tk,Tx,Sm o3,Wb,RW];exact(al1.mono λv d p=>mono _ _ _ _ tm p).snoc (mono _ _ _ _ (aI.up d3 _) p3)
  ·refine⟨ds.length-(i+1),ω,hix,Z,s3 _ _ d1,s1.trans s3,?_⟩;rw[tk,Tx,SE (by rw[n3];decide),Wb,R6];exact al1.mono λv d p=>mono _ _ _ _ (aI.same s3) p
 ·have e:i=ds.length:=ω
  subst e;rw[RB] at al1;exact .inl ⟨⟨xs,hS1,ω⟩,fin H1 ys s1 d1 al1⟩
theorem Dn{β:Type}{K:Qu}{H:Hp}{D:Addr}{n:Nat}{P:Hp->V->β->Prop}{f:Nat->β}{p:Nat->Bool}{src:List (Option Nat)}{σ:L2.St}{g:TG}{tt:TT}{te:TE}{Q:Hp->Prop}
  (mono:∀H H' v d,aI K H H'->P H v d->P H' v d) (hD:H D=none) (hn:n≤1000)
  (turn:∀(i:Nat) (H':Hp),i<n->aL H H'->∀(R:VK) (E:Hp->Prop),(p i=true->∀v H'',aL H' H''->P H'' v (f i)->R v H'')->(p i=false->∀H'',aL H' H''->E H'')→
   g (.int (0+(i:Int))) (da src σ) H' λσ2 H2=>gf (da src σ) σ2/\tt σ2 H2 λok H3=>if ok=true then te σ2 H3 R else E H3)
  (fin:∀H' ys,aL H H'->H' D=some (.lst ys)->Als (P H') ys (((Qv n).filter p).map f)->Q H') :
  ∃W:Nat->Nat->List V->Hp->Prop,(∃m,W 0 m [] (upd H D (.lst [])))/\∀i m ys H,W i m ys H->((DA 0 n).stop i H/\Q H)∨((DA 0 n).go i H/\∀x H',(DA 0 n).yld i H x H'→
   g x (da src σ) H' λσ2 H2=>gf (da src σ) σ2/\tt σ2 H2 λok H3=>
    if ok=true then te σ2 H3 λy H4=>H4 D=some (.lst ys)/\ys.length<sizeLine/\∃m',m'<m/\W (i+1) m' (ys++[y]) (upd H4 D (.lst (ys++[y]))) else ∃m',m'<m/\W (i+1) m' ys H3):=by
 refine⟨λi m ys H'=>i≤n/\m=n-i/\H' D=some (.lst ys)/\aL H H'/\Als (P H') ys (((Qv i).filter p).map f),⟨_,Re _,Z,ao,au hD _,.nil⟩,?_⟩;rintro i m ys H1 ⟨hi,rfl,d1,s1,al1⟩;by_cases hix:i<n
 ·refine .inr ⟨hix,?_⟩;rintro x H2 ⟨rfl,rfl⟩;have tk:Qv (i+1)=Qv i++[i]:=Sf;refine turn i _ hix s1 _ _ (λo3 v H3 s3 p3=>?_) λn3 H3 s3=>?_
  ·have d3:H3 D=some (.lst ys):=s3 _ _ d1;have tm:aI K H2 (upd H3 D (.lst (ys++[v]))):=(aI.same s3).trans (aI.up d3 _);have ly:ys.length≤1000:=by
    rw[al1.len,Qz];exact Rm (RU _ _) (by rw[RL];omega)
   refine⟨d3,be ly,n-(i+1),ω,hix,Z,ao,λb o q=>?_,?_⟩
   ·rw[aJ (aX q hD)];exact s3 _ _ (s1 _ _ q)
   ·rw[tk,Tx,Sm o3,Wb,RW];exact(al1.mono λv d p=>mono _ _ _ _ tm p).snoc (mono _ _ _ _ (aI.up d3 _) p3)
  ·refine⟨n-(i+1),ω,hix,Z,s3 _ _ d1,s1.trans s3,?_⟩;rw[tk,Tx,SE (by rw[n3];decide),Wb,R6];exact al1.mono λv d p=>mono _ _ _ _ (aI.same s3) p
 ·have e:i=n:=ω
  subst e;exact .inl ⟨QB _,fin H1 ys s1 d1 al1⟩
def KD(K:Qu)(ta tb:TE):TE:=λσ H Q=>ta σ H λx H1=>∃p xs,x=.ref p/\bz K H1 p xs/\(xs=[]->tb σ H1 Q)/\(xs≠[]->Q x H1)
section
variable {X:Cx}{a b:Ry}{pos:UE}{ta tb:TE}
theorem Iq{cF:List Ry}(ha:PE X a ta)(hb:PE X (.BoolOp .Or (b::cF) pos) tb):PE X (.BoolOp .Or (a::b::cF) pos) (KD X.K ta tb):=by
 intro pins s σ H Q I h;refine BoolOp_or (cL (ha pins s σ H _ I h) λv s1 ⟨x,H1,I1,r1,q1⟩=>?_);obtain⟨p,xs,rfl,hS,h1,h2⟩:=q1
 cases r1
 obtain⟨its,rv,pl,sz⟩:=I1.tuple hS;have e:=rv.length;refine truthy_tuple pl (by simp only[QX];have:sizeLine=16777216:=δ;omega) ?_
 cases xs with
 |nil=>
  cases its with
  |nil=>exact hb pins _ σ H1 Q (I1.tok _) (h1 Z)
  |cons y l=>cases e
 |cons y l=>
  cases its with
  |nil=>cases e
  |cons z l'=>exact⟨.ref p,H1,I1.tok _,Z,h2 (by simp)⟩
theorem HM{cF:List Ry}(ha:QE X a ta)(hb:QE X (.BoolOp .Or (b::cF) pos) tb):QE X (.BoolOp .Or (a::b::cF) pos) (KD X.K ta tb):=⟨Iq ha.p hb.p⟩
end
def NK(X:Cx)(pins:List (Addr×Sv))(R:RX)(τ:L2.St):Value->QD->Prop:=λe s=>∃(x C T:Addr) (dx:Option Addr) (H:Hp),e=.ref x/\L2.Inv X pins τ H s/\H x=none/\eG X pins x/\H T=none/\eG X pins T/\i6 s.heap x C T dx .none/\R C dx H
def fq(X:Cx)(pins:List (Addr×Sv))(R:RX)(τ:L2.St):Cx:={ X with pn:=X.pn++pins,xe:=NK X pins R τ}
section
variable {X:Cx}{pins pins':List (Addr×Sv)}{σ τ:L2.St}{H:Hp}{s:QD}{R:RX}
theorem GD(I:L2.Inv X pins σ H s):L2.Inv (fq X pins R τ) [] σ H s:=
 ⟨⟨I.ok.mod,I.ok.kind,I.ok.glob,I.ok.blt,I.ok.above,I.ok.inj,I.ok.has,I.ok.cab,I.ok.hd,I.ok.frames,I.ok.stk,I.ok.exf,I.ok.bs,I.ok.bsz,I.ok.noex,I.ok.exfs,I.ok.funs,I.ok.frf⟩,I.os,I.bare,I.base,I.loc,I.cell,I.free,I.freeC,
  λp hp=>I.pin p (by rw[R6] at hp;exact hp),I.hok,I.len⟩
theorem ofTryS(I:L2.Inv (fq X pins R τ) pins' σ H s):L2.Inv X pins σ H s:=
 ⟨⟨I.ok.mod,I.ok.kind,I.ok.glob,I.ok.blt,I.ok.above,I.ok.inj,I.ok.has,I.ok.cab,I.ok.hd,I.ok.frames,I.ok.stk,I.ok.exf,I.ok.bs,I.ok.bsz,I.ok.noex,I.ok.exfs,I.ok.funs,I.ok.frf⟩,I.os,I.bare,I.base,I.loc,I.cell,I.free,I.freeC,
  λp hp=>I.pin p (Rt _ hp),I.hok,I.len⟩
theorem SP.ofTryS(h:SP (fq X pins R τ) [] D f s):SP X pins D f s:=by
 cases f with
 |next=>obtain⟨σ',H',I,q⟩:=h;exact⟨σ',H',B.ofTryS I,q⟩
 |brk=>obtain⟨σ',H',I,q⟩:=h;exact⟨σ',H',B.ofTryS I,q⟩
 |cont=>obtain⟨σ',H',I,q⟩:=h;exact⟨σ',H',B.ofTryS I,q⟩
 |ret u=>obtain⟨v,σ',H',I,r,q⟩:=h;exact⟨v,σ',H',B.ofTryS I,r,q⟩
end
def zW(τ:L2.St)(t:TE):TE:=λσ H Q=>σ=τ/\t σ H Q
def FW(R:RX)(Ok:Addr->Prop)(tb:L2.St->TS)(th:TS):TS:=λD σ H=>tb σ D σ H/\∀C dx H',R C dx H'->Ok C/\th D σ H'
section
variable {X:Cx}{R:RX}{τ:L2.St}{pins₀:List (Addr×Sv)}{k:Nat}{f:Addr}{fd:QF}{ps:List Rr}{sp:Sp}{dvs:List V}{ds:List Value}{x:Rr}{p pos:UE}{e:Ry}{es:List Ry}{t:TA}
theorem Cb(hex:X.ex=[])(F:bi X.prog X.w X.K X.mg X.base (FT X.prog X.w) k f fd ps sp)(hr:dN k X.A)(hg:Gl (fq X pins₀ R τ) x)(hm:X.mg x=some (.ref f))(hk:SH X.K (.ref f)=true)(hb:aP X.K fd ps ds)(hd:bu dvs ds)
  (ha:PA (fq X pins₀ R τ) (e::es) t) (hdb:(x==("__debug__" : Rr))=false:=by decide) (he:QV (e::es) X.env=(false,eval e X.env)::QV es X.env:=by rfl) (hpl:(Uv pos (QV es X.env)).any (·.1)=false:=by rfl) :
  PE (fq X pins₀ R τ) (.Call (.Name x p) (e::es) [] pos) (zW τ (sY sp dvs (Ka R) t)):=by
 rintro pins s σ H Q I ⟨rfl,h⟩;refine UI (jo I hg hm ?_ hdb);refine Ww (h₀:=X.base) I.ok.mod.kin hk (cL (ha pos pins s σ H _ I h) λus s1 ⟨vs,H1,I1,r,q⟩=>⟨I1.kIn,?_⟩) he hpl;have r2:bu (vs++dvs) (us++ds):=r.append hd;have hl:(us++ds).length=ps.length:=by rw[←r2.length];exact F.len _ _ _ _ q
 refine XA (VG (F.run X.A X.stack s1 H1 ⟨us,[]⟩ (us++ds) (vs++dvs) Q _ hr I1.env0 (hb s1 us I1.kIn hl) r2 q) λr s' hq=>?_)
 cases r with
 |error e=>
  obtain⟨x,C,T,dx,H2,rfl,ho,hb,un,hok,nx,nT,hx2,hT2,tr,C',e',hr⟩:=hq
  cases e'
  have na:=B.Inv.newAt I1 hex nx;have nt:=B.Inv.newAt I1 hex nT;have I2:L2.Inv (fq X pins₀ R σ) pins σ H2 s':=I1.call' ho un hok hb (λb hb=>by cases hb);exact⟨x,C,T,dx,H2,Z,ofTryS I2,hx2,⟨na.st,na.lo,na.ce,λp hp=>na.pi p (Rt _ hp),na.fr⟩,hT2,⟨nt.st,nt.lo,nt.ce,λp hp=>nt.pi p (Rt _ hp),nt.fr⟩,tr,hr⟩
 |ok fl=>
  cases fl with
  |ret u=>exact I1.after hq
  |next=>exact SJ hq
  |brk=>exact SJ hq
  |cont=>exact SJ hq
end
section
variable {X:Cx}{R:RX}{body:List Stmt}{b₀:Stmt}{suite:List Stmt}{x:Rr}{p hpos pos:UE}{u:Value}{tb:L2.St->TS}{th:TS}
theorem Er(hex:X.ex=[])(hst:X.stack=X.env::X.outer)(hfr:X.env.frame=some X.env.locals)(hg:Gl X x)(hm:X.mg x=some u)(hb:∀pins τ,qp (fq X pins R τ) body (tb τ))(hs:∀e,qp (jA X e) (b₀::suite) th)(hd:(x==("__debug__" : Rr))=false:=by decide) :
  PS X (.Try body [.ExceptHandler (some (.Name x p)) none (b₀::suite) hpos] [] [] pos) (FW R (λC=>U7 X.K (.ref C) u=some true) tb th):=by
 intro pins s σ H D I ⟨h1,h2⟩;refine ZA (SI (hb pins σ [] s σ H D (GD I) h1) (λf s1 q=>?_) λe s1 q=>?_)
 ·have q':=B.SP.ofTryS q
  cases f with
  |next=>exact UN q'
  |brk=>exact q'
  |cont=>exact q'
  |ret u=>exact q'
 ·obtain⟨a,C,T,dx,H1,rfl,I1,ha,na,hT,nT,tr,hR⟩:=q;obtain⟨hk,hth⟩:=h2 C dx H1 hR;refine CC Z I1 hex hst hfr ha na hT nT tr λs2 T2 I2 nT2 hT2 tr2=>?_
  refine Yp (XZ ?_) (by intro z;cases z);refine jo (X:=jA X a) (ww I2) hg hm ?_ hd;refine UK (s:=s2) (ZY (M:=Q5 X.prog X.w) I2.kIn (zL tr2) hk) ?_;refine codeAny_handlers_suite ?_;refine C3 I2 hT2 nT2 tr2 λs3 I3 tr3=>?_
  refine SI (hs a pins s3 σ H1 D (ww I3) hth) (λf s4 q4=>SP.ofExc I.ok q4) λ_ _ z=>z.elim
end
section
variable {X:Cx}{R:RX}{τ:L2.St}{pins₀:List (Addr×Sv)}{k:Nat}{f:Addr}{fd:QF}{ps:List Rr}{sp:Sp}{dvs:List V}{ds:List Value}{x:Rr}{p pos hpos:UE}{e:Ry}{es:List Ry}{t:TA}{body:List Stmt}{b₀:Stmt}{suite:List Stmt}{u:Value}{tb:L2.St->TS}{th:TS}
theorem BP(hex:X.ex=[])(F:bi X.prog X.w X.K X.mg X.base (FT X.prog X.w) k f fd ps sp)(hr:dN k X.A)(hg:Gl (fq X pins₀ R τ) x)(hm:X.mg x=some (.ref f))(hk:SH X.K (.ref f)=true)(hb:aP X.K fd ps ds)(hd:bu dvs ds)
  (ha:QA (fq X pins₀ R τ) (e::es) t) (hdb:(x==("__debug__" : Rr))=false:=by decide) (he:QV (e::es) X.env=(false,eval e X.env)::QV es X.env:=by rfl) (hpl:(Uv pos (QV es X.env)).any (·.1)=false:=by rfl) :
  QE (fq X pins₀ R τ) (.Call (.Name x p) (e::es) [] pos) (zW τ (sY sp dvs (Ka R) t)):=⟨Cb hex F hr hg hm hk hb hd ha.p hdb he hpl⟩
theorem Ef(hex:X.ex=[])(hst:X.stack=X.env::X.outer)(hfr:X.env.frame=some X.env.locals)(hg:Gl X x)(hm:X.mg x=some u)(hb:∀pins τ,cJ (fq X pins R τ) body (tb τ))(hs:∀e,cJ (jA X e) (b₀::suite) th)(hd:(x==("__debug__" : Rr))=false:=by decide) :
  QS X (.Try body [.ExceptHandler (some (.Name x p)) none (b₀::suite) hpos] [] [] pos) (FW R (λC=>U7 X.K (.ref C) u=some true) tb th):=⟨Er hex hst hfr hg hm (λz y=>(hb z y).p) (λz=>(hs z).p) hd⟩
end
end B
local macro_rules
 | `(tactic| nofun)=>`(tactic| (extract_lets +lift;try dsimp -zeta -zetaDelta only[L2.Cx.nox,L2.Cx.wish,L2.bw]))
namespace My
open PySem L2 B PyProof.Rows
theorem bL{X:Cx}{pos:UE}(i:Nat){x:Rr}{e:Ry}{te:TE}{pos':UE}(hN:X.N.Nodup)(he:QE X e te)(hi:X.N[i]?=some x:=by rfl)(hx:zy X.env.scope x:=by first|exact Q9 Z|exact Q7 Z)(hs:UC e (some (.Name x pos')) pos.line X.env=TL false:=by rfl)(hf:X.fn x=true∨X.env.scope.names.lookup x=some .local:=by first|exact .inl Z|exact .inr Z|assumption):QS X (.Assign [.Name x pos'] e pos) (sZ te (mj i)):=Hy hN hi hx he hs hf
theorem dg{N P:List Rr}{sc:UZ}(a:sc.kind=.function:=by rfl)(b:sc.isCoroutine=false:=by rfl)(c:sc.isGenerator=false:=by rfl)(d:N.Nodup:=by decide +kernel)(e:N.take P.length=P:=by rfl)(f:∀x∈P,sc.names.lookup x=some .local∨sc.names.lookup x=some .cell:=by decide +kernel)(g:∀y∈sc.names,y.2≠.free:=by decide +kernel):aA N P sc:=⟨a,b,c,d,e,f,g⟩
theorem bE{X:Cx}{k j:Nat}{f:Addr}{fd:QF}{ps:List Rr}{sp:Sp}{x:Rr}{p pos:UE}{e:Ry}{es:List Ry}{t:TA}(F:bi X.prog X.w X.K X.mg X.base cT k f fd ps sp)(hr:dN j X.A)(hm:X.mg x=some (.ref f))(hk:SH X.K (.ref f)=true)(hb:aP X.K fd ps [])(ha:QA X (e::es) t)(hl:k≤j:=by decide)(hg:Gl X x:=by rfl)(hdb:(x==("__debug__" : Rr))=false:=by decide)(he:QV (e::es) X.env=(false,eval e X.env)::QV es X.env:=by rfl)(hpl:(Uv pos (QV es X.env)).any (·.1)=false:=by rfl):QE X (.Call (.Name x p) (e::es) [] pos) (sY sp [] E0 t):=dQ F (hr.mono hl) hg hm hk hb .nil me ha hdb he hpl
theorem bM{X:Cx}{a b:Ry}{ta tb:TE}{pos:UE}{r:R2}(hr:J6 X r)(ha:QE X a ta)(hb:QE X b tb)(hs:sw b:=by exact λ_ _=>Z):QE X (.Subscript a b pos) (DP r ta tb):=bH hr ha hb hs
theorem Ox{K:Qu}{x qual:Rr}{st:Stmt}{f:Addr}{fd:QF}{ps:List Rr}(F:Fun K x qual st f fd) (h:∀(kV doc pm:Value) (an:Option Addr) (cdv ct:Value) (us:List Value),us.length=ps.length->Z8 (Ue x qual (eX st) (dU st) (ax st) .none kV doc pm an cdv ct) ⟨us,[]⟩=TL (ps.zip us):=by
 intro _ _ _ _ _ _ us hl
 match us,hl with
 | [],h2=>first|rfl | (simp at h2)
 | [_],h2=>first|rfl | (simp at h2)
 | [_,_],h2=>first|rfl | (simp at h2)
 | [_,_,_],h2=>first|rfl | (simp at h2)
 | [_,_,_,_],h2=>first|rfl | (simp at h2)
 |_::_::_::_::_::_,h2=>simp at h2):aP K fd ps []:=F.binds h
def top(i:Nat):Stmt:=PySem.Challenge.pw_paceplan_k92_whole_leaning_and_a_work_mo.main.body.getD i (.Pass ⟨0,0,0,0⟩)
abbrev A0:Stmt:=top 1
abbrev Bl:Stmt:=top 2
abbrev Bt:Stmt:=top 3
abbrev AG:Stmt:=top 4
abbrev Hn:Stmt:=top 14
abbrev AZ:Stmt:=top 15
abbrev Hm:Stmt:=top 16
abbrev AC:Stmt:=top 17
abbrev Ax:Stmt:=top 18
abbrev AB:Stmt:=top 19
abbrev AA:Stmt:=top 20
abbrev Aw:Stmt:=top 21
abbrev AF:Stmt:=top 22
abbrev AK:Stmt:=top 23
abbrev AE:Stmt:=top 24
abbrev Az:Stmt:=top 25
abbrev Bk:Stmt:=top 26
abbrev Hl:Stmt:=top 31
abbrev AJ:Stmt:=top 32
abbrev Bc:Stmt:=top 33
abbrev AI:Stmt:=top 34
abbrev Bj:Stmt:=top 35
abbrev AY:Stmt:=top 36
abbrev Bs:Stmt:=top 37
abbrev Bg:Stmt:=top 38
abbrev Bi:Stmt:=top 39
abbrev AX:Stmt:=top 40
abbrev Br:Stmt:=top 42
abbrev Av:Stmt:=top 43
abbrev Hk:Stmt:=top 44
abbrev AW:Stmt:=top 45
abbrev AD:Stmt:=top 46
abbrev By:Stmt:=top 47
abbrev Bp:Stmt:=top 48
abbrev Bx:Stmt:=top 50
abbrev AV:Stmt:=top 51
abbrev Bb:Stmt:=top 52
abbrev Ay:Stmt:=top 53
abbrev Bf:Stmt:=top 54
abbrev Bw:Stmt:=top 57
abbrev F7:Stmt:=top 58
abbrev Ba:Stmt:=top 59
abbrev AU:Stmt:=top 60
abbrev AT:Stmt:=top 61
abbrev AS:Stmt:=top 63
abbrev Be:Stmt:=top 64
abbrev Hg:Stmt:=top 65
abbrev Bo:Stmt:=top 66
abbrev Hj:Stmt:=top 67
abbrev Bn:Stmt:=top 68
abbrev Bd:Stmt:=top 69
abbrev A9:Stmt:=top 70
abbrev AR:Stmt:=top 71
abbrev Bv:Stmt:=top 73
abbrev AQ:Stmt:=top 75
abbrev AO:Stmt:=top 76
abbrev AH:Stmt:=top 77
abbrev A8:Stmt:=top 78
abbrev AN:Stmt:=top 79
abbrev AM:Stmt:=top 83
abbrev AL:Stmt:=top 85
abbrev A7:Stmt:=top 86
abbrev A6:Stmt:=top 87
abbrev A5:Stmt:=top 88
abbrev A4:Stmt:=top 89
abbrev Hi:Stmt:=top 90
abbrev Hh:Stmt:=top 91
abbrev Hf:Stmt:=top 92
abbrev Bh:Stmt:=top 93
abbrev Bm:Stmt:=top 94
abbrev He:Stmt:=top 95
abbrev A3:Stmt:=top 96
abbrev Bu:Stmt:=top 97
abbrev Au:Stmt:=top 98
abbrev pU:Stmt:=w6 (top 7) 0
abbrev pT:Stmt:=w6 (top 8) 0
set_option genInjectivity false in
structure Ad where
 a_Q42:Addr
 d_Q42:QF
 a_Q22:Addr
 d_Q22:QF
 a_Q15:Addr
 d_Q15:QF
 a_Q64:Addr
 d_Q64:QF
 a_Q0:Addr
 d_Q0:QF
 a_Q43:Addr
 d_Q43:QF
 a_Q1:Addr
 d_Q1:QF
 a_Q71:Addr
 d_Q71:QF
 a_Q76:Addr
 d_Q76:QF
 a_Q72:Addr
 d_Q72:QF
 a_Q73:Addr
 d_Q73:QF
 a_Q77:Addr
 d_Q77:QF
 a_Q65:Addr
 d_Q65:QF
 a_Q57:Addr
 d_Q57:QF
 a_Q66:Addr
 d_Q66:QF
 a_Q74:Addr
 d_Q74:QF
 a_Q23:Addr
 d_Q23:QF
 a_Q2:Addr
 d_Q2:QF
 a_Q58:Addr
 d_Q58:QF
 a_Q31:Addr
 d_Q31:QF
 a_Q59:Addr
 d_Q59:QF
 a_Q24:Addr
 d_Q24:QF
 a_Q44:Addr
 d_Q44:QF
 a_Q16:Addr
 d_Q16:QF
 a_Q27:Addr
 d_Q27:QF
 a_Q25:Addr
 d_Q25:QF
 a_Q45:Addr
 d_Q45:QF
 a_Q17:Addr
 d_Q17:QF
 a_Q78:Addr
 d_Q78:QF
 a_Q3:Addr
 d_Q3:QF
 a_Q46:Addr
 d_Q46:QF
 a_Q67:Addr
 d_Q67:QF
 a_Q10:Addr
 d_Q10:QF
 a_Q18:Addr
 d_Q18:QF
 a_Q11:Addr
 d_Q11:QF
 a_Q47:Addr
 d_Q47:QF
 a_Q32:Addr
 d_Q32:QF
 a_Q75:Addr
 d_Q75:QF
 a_Q28:Addr
 d_Q28:QF
 a_Q12:Addr
 d_Q12:QF
 a_Q68:Addr
 d_Q68:QF
 a_Q33:Addr
 d_Q33:QF
 a_Q48:Addr
 d_Q48:QF
 a_Q49:Addr
 d_Q49:QF
 a_Q50:Addr
 d_Q50:QF
 a_Q29:Addr
 d_Q29:QF
 a_Q7:Addr
 d_Q7:QF
 a_Q19:Addr
 d_Q19:QF
 a_Q4:Addr
 d_Q4:QF
 a_Q20:Addr
 d_Q20:QF
 a_Q30:Addr
 d_Q30:QF
 a_Q34:Addr
 d_Q34:QF
 a_Q51:Addr
 d_Q51:QF
 a_Q13:Addr
 d_Q13:QF
 a_Q52:Addr
 d_Q52:QF
 a_Q53:Addr
 d_Q53:QF
 a_Q60:Addr
 d_Q60:QF
 a_Q35:Addr
 d_Q35:QF
 a_Q54:Addr
 d_Q54:QF
 a_Q55:Addr
 d_Q55:QF
 a_Q56:Addr
 d_Q56:QF
 a_Q36:Addr
 d_Q36:QF
 a_Q37:Addr
 d_Q37:QF
 a_Q38:Addr
 d_Q38:QF
 a_Q39:Addr
 d_Q39:QF
 a_Q5:Addr
 d_Q5:QF
 a_Q6:Addr
 d_Q6:QF
 a_Q8:Addr
 d_Q8:QF
 a_Q26:Addr
 d_Q26:QF
 a_Q21:Addr
 d_Q21:QF
 a_Q9:Addr
 d_Q9:QF
 a_Q40:Addr
 d_Q40:QF
 a_Q14:Addr
 d_Q14:QF
 a_Q79:Addr
 d_Q79:QF
 c_NOUGHT:Addr
 k_TURNS:Tok
 k_MOST_WORKS:Tok
 k_MOST_LEANS:Tok
 k_POWER:Tok
 c_base:Addr
 c_Q61:Addr
 a_Q61:Addr
 d_Q61:QF
 c_Q69:Addr
 a_Q69:Addr
 d_Q69:QF
 c_Q41:Addr
 c_Q70:Addr
 c_Q62:Addr
 c_Q63:Addr
structure de(K:Qu)(mg:Rr->Option Value)(t:Ad):Prop where
 F_Q42:Fun K "is_whole" "is_whole" A0 t.a_Q42 t.d_Q42
 b_Q42:aP K t.d_Q42 ["thing"] []
 m_Q42:mg "is_whole"=some (.ref t.a_Q42)
 F_Q22:Fun K "is_tuple_of" "is_tuple_of" Bl t.a_Q22 t.d_Q22
 b_Q22:aP K t.d_Q22 ["thing","length"] []
 m_Q22:mg "is_tuple_of"=some (.ref t.a_Q22)
 F_Q15:Fun K "is_number_of" "is_number_of" Bt t.a_Q15 t.d_Q15
 b_Q15:aP K t.d_Q15 ["thing","count"] []
 m_Q15:mg "is_number_of"=some (.ref t.a_Q15)
 F_Q64:Fun K "copied" "copied" AG t.a_Q64 t.d_Q64
 b_Q64:aP K t.d_Q64 ["thing"] []
 m_Q64:mg "copied"=some (.ref t.a_Q64)
 F_Q0:Fun K "greatest_divisor" "greatest_divisor" Hn t.a_Q0 t.d_Q0
 b_Q0:aP K t.d_Q0 ["one","other"] []
 m_Q0:mg "greatest_divisor"=some (.ref t.a_Q0)
 F_Q43:Fun K "is_ratio" "is_ratio" AZ t.a_Q43 t.d_Q43
 b_Q43:aP K t.d_Q43 ["thing"] []
 m_Q43:mg "is_ratio"=some (.ref t.a_Q43)
 F_Q1:Fun K "is_above_nought" "is_above_nought" Hm t.a_Q1 t.d_Q1
 b_Q1:aP K t.d_Q1 ["thing"] []
 m_Q1:mg "is_above_nought"=some (.ref t.a_Q1)
 F_Q71:Fun K "ratio" "ratio" AC t.a_Q71 t.d_Q71
 b_Q71:aP K t.d_Q71 ["top","bottom"] []
 m_Q71:mg "ratio"=some (.ref t.a_Q71)
 F_Q76:Fun K "plus" "plus" Ax t.a_Q76 t.d_Q76
 b_Q76:aP K t.d_Q76 ["one","other"] []
 m_Q76:mg "plus"=some (.ref t.a_Q76)
 F_Q72:Fun K "minus" "minus" AB t.a_Q72 t.d_Q72
 b_Q72:aP K t.d_Q72 ["one","other"] []
 m_Q72:mg "minus"=some (.ref t.a_Q72)
 F_Q73:Fun K "times" "times" AA t.a_Q73 t.d_Q73
 b_Q73:aP K t.d_Q73 ["one","other"] []
 m_Q73:mg "times"=some (.ref t.a_Q73)
 F_Q77:Fun K "over" "over" Aw t.a_Q77 t.d_Q77
 b_Q77:aP K t.d_Q77 ["one","other"] []
 m_Q77:mg "over"=some (.ref t.a_Q77)
 F_Q65:Fun K "raised" "raised" AF t.a_Q65 t.d_Q65
 b_Q65:aP K t.d_Q65 ["one","power"] []
 m_Q65:mg "raised"=some (.ref t.a_Q65)
 F_Q57:Fun K "is_less" "is_less" AK t.a_Q57 t.d_Q57
 b_Q57:aP K t.d_Q57 ["one","other"] []
 m_Q57:mg "is_less"=some (.ref t.a_Q57)
 F_Q66:Fun K "lesser" "lesser" AE t.a_Q66 t.d_Q66
 b_Q66:aP K t.d_Q66 ["one","other"] []
 m_Q66:mg "lesser"=some (.ref t.a_Q66)
 F_Q74:Fun K "total" "total" Az t.a_Q74 t.d_Q74
 b_Q74:aP K t.d_Q74 ["some"] []
 m_Q74:mg "total"=some (.ref t.a_Q74)
 F_Q23:Fun K "whole_parts" "whole_parts" Bk t.a_Q23 t.d_Q23
 b_Q23:aP K t.d_Q23 ["some"] []
 m_Q23:mg "whole_parts"=some (.ref t.a_Q23)
 F_Q2:Fun K "is_sheet_shaped" "is_sheet_shaped" Hl t.a_Q2 t.d_Q2
 b_Q2:aP K t.d_Q2 ["thing"] []
 m_Q2:mg "is_sheet_shaped"=some (.ref t.a_Q2)
 F_Q58:Fun K "is_work" "is_work" AJ t.a_Q58 t.d_Q58
 b_Q58:aP K t.d_Q58 ["thing"] []
 m_Q58:mg "is_work"=some (.ref t.a_Q58)
 F_Q31:Fun K "in_window" "in_window" Bc t.a_Q31 t.d_Q31
 b_Q31:aP K t.d_Q31 ["work","turn"] []
 m_Q31:mg "in_window"=some (.ref t.a_Q31)
 F_Q59:Fun K "is_lean" "is_lean" AI t.a_Q59 t.d_Q59
 b_Q59:aP K t.d_Q59 ["thing","count"] []
 m_Q59:mg "is_lean"=some (.ref t.a_Q59)
 F_Q24:Fun K "no_leanings" "no_leanings" Bj t.a_Q24 t.d_Q24
 b_Q24:aP K t.d_Q24 ["count"] []
 m_Q24:mg "no_leanings"=some (.ref t.a_Q24)
 F_Q44:Fun K "add_lean" "add_lean" AY t.a_Q44 t.d_Q44
 b_Q44:aP K t.d_Q44 ["leanings","lean"] []
 m_Q44:mg "add_lean"=some (.ref t.a_Q44)
 F_Q16:Fun K "all_leanings" "all_leanings" Bs t.a_Q16 t.d_Q16
 b_Q16:aP K t.d_Q16 ["count","leans"] []
 m_Q16:mg "all_leanings"=some (.ref t.a_Q16)
 F_Q27:Fun K "first_ring" "first_ring" Bg t.a_Q27 t.d_Q27
 b_Q27:aP K t.d_Q27 ["count","leans"] []
 m_Q27:mg "first_ring"=some (.ref t.a_Q27)
 F_Q25:Fun K "right_sheet" "right_sheet" Bi t.a_Q25 t.d_Q25
 b_Q25:aP K t.d_Q25 ["thing"] []
 m_Q25:mg "right_sheet"=some (.ref t.a_Q25)
 F_Q45:Fun K "drawn_in" "drawn_in" AX t.a_Q45 t.d_Q45
 b_Q45:aP K t.d_Q45 ["sheet"] []
 m_Q45:mg "drawn_in"=some (.ref t.a_Q45)
 F_Q17:Fun K "kept_windows" "kept_windows" Br t.a_Q17 t.d_Q17
 b_Q17:aP K t.d_Q17 ["works","left"] []
 m_Q17:mg "kept_windows"=some (.ref t.a_Q17)
 F_Q78:Fun K "held" "held" Av t.a_Q78 t.d_Q78
 b_Q78:aP K t.d_Q78 ["windows","begin","end"] []
 m_Q78:mg "held"=some (.ref t.a_Q78)
 F_Q3:Fun K "tightest_places" "tightest_places" Hk t.a_Q3 t.d_Q3
 b_Q3:aP K t.d_Q3 ["windows","amounts","count"] []
 m_Q3:mg "tightest_places"=some (.ref t.a_Q3)
 F_Q46:Fun K "tightest" "tightest" AW t.a_Q46 t.d_Q46
 b_Q46:aP K t.d_Q46 ["works","left"] []
 m_Q46:mg "tightest"=some (.ref t.a_Q46)
 F_Q67:Fun K "layers" "layers" AD t.a_Q67 t.d_Q67
 b_Q67:aP K t.d_Q67 ["works"] []
 m_Q67:mg "layers"=some (.ref t.a_Q67)
 F_Q10:Fun K "layer_density" "layer_density" By t.a_Q10 t.d_Q10
 b_Q10:aP K t.d_Q10 ["works","layer"] []
 m_Q10:mg "layer_density"=some (.ref t.a_Q10)
 F_Q18:Fun K "layer_speeds" "layer_speeds" Bp t.a_Q18 t.d_Q18
 b_Q18:aP K t.d_Q18 ["works"] []
 m_Q18:mg "layer_speeds"=some (.ref t.a_Q18)
 F_Q11:Fun K "first_to_come" "first_to_come" Bx t.a_Q11 t.d_Q11
 b_Q11:aP K t.d_Q11 ["works","leanings","waiting"] []
 m_Q11:mg "first_to_come"=some (.ref t.a_Q11)
 F_Q47:Fun K "order_of" "order_of" AV t.a_Q47 t.d_Q47
 b_Q47:aP K t.d_Q47 ["works","leans"] []
 m_Q47:mg "order_of"=some (.ref t.a_Q47)
 F_Q32:Fun K "deal_turn" "deal_turn" Bb t.a_Q32 t.d_Q32
 b_Q32:aP K t.d_Q32 ["works","order","left","turn","speed"] []
 m_Q32:mg "deal_turn"=some (.ref t.a_Q32)
 F_Q75:Fun K "dealt" "dealt" Ay t.a_Q75 t.d_Q75
 b_Q75:aP K t.d_Q75 ["works","leans","speeds"] []
 m_Q75:mg "dealt"=some (.ref t.a_Q75)
 F_Q28:Fun K "least_plan" "least_plan" Bf t.a_Q28 t.d_Q28
 b_Q28:aP K t.d_Q28 ["sheet"] []
 m_Q28:mg "least_plan"=some (.ref t.a_Q28)
 F_Q12:Fun K "slope_between" "slope_between" Bw t.a_Q12 t.d_Q12
 b_Q12:aP K t.d_Q12 ["low","high"] []
 m_Q12:mg "slope_between"=some (.ref t.a_Q12)
 F_Q68:Fun K "top_of" "top_of" F7 t.a_Q68 t.d_Q68
 b_Q68:aP K t.d_Q68 ["rule"] []
 m_Q68:mg "top_of"=some (.ref t.a_Q68)
 F_Q33:Fun K "is_beyond" "is_beyond" Ba t.a_Q33 t.d_Q33
 b_Q33:aP K t.d_Q33 ["rule","speed"] []
 m_Q33:mg "is_beyond"=some (.ref t.a_Q33)
 F_Q48:Fun K "place_of" "place_of" AU t.a_Q48 t.d_Q48
 b_Q48:aP K t.d_Q48 ["rows","speed"] []
 m_Q48:mg "place_of"=some (.ref t.a_Q48)
 F_Q49:Fun K "power_at" "power_at" AT t.a_Q49 t.d_Q49
 b_Q49:aP K t.d_Q49 ["rule","speed"] []
 m_Q49:mg "power_at"=some (.ref t.a_Q49)
 F_Q50:Fun K "is_piece" "is_piece" AS t.a_Q50 t.d_Q50
 b_Q50:aP K t.d_Q50 ["thing","count"] []
 m_Q50:mg "is_piece"=some (.ref t.a_Q50)
 F_Q29:Fun K "are_pieces" "are_pieces" Be t.a_Q29 t.d_Q29
 b_Q29:aP K t.d_Q29 ["thing","count"] []
 m_Q29:mg "are_pieces"=some (.ref t.a_Q29)
 F_Q7:Fun K "is_plan_shaped" "is_plan_shaped" Hg t.a_Q7 t.d_Q7
 b_Q7:aP K t.d_Q7 ["thing","count"] []
 m_Q7:mg "is_plan_shaped"=some (.ref t.a_Q7)
 F_Q19:Fun K "are_in_place" "are_in_place" Bo t.a_Q19 t.d_Q19
 b_Q19:aP K t.d_Q19 ["works","turn","pieces"] []
 m_Q19:mg "are_in_place"=some (.ref t.a_Q19)
 F_Q4:Fun K "pieces_in_order" "pieces_in_order" Hj t.a_Q4 t.d_Q4
 b_Q4:aP K t.d_Q4 ["plan"] []
 m_Q4:mg "pieces_in_order"=some (.ref t.a_Q4)
 F_Q20:Fun K "is_lean_kept" "is_lean_kept" Bn t.a_Q20 t.d_Q20
 b_Q20:aP K t.d_Q20 ["row","lean"] []
 m_Q20:mg "is_lean_kept"=some (.ref t.a_Q20)
 F_Q30:Fun K "right_plan" "right_plan" Bd t.a_Q30 t.d_Q30
 b_Q30:aP K t.d_Q30 ["sheet","thing"] []
 m_Q30:mg "right_plan"=some (.ref t.a_Q30)
 F_Q34:Fun K "speeds_of" "speeds_of" A9 t.a_Q34 t.d_Q34
 b_Q34:aP K t.d_Q34 ["plan"] []
 m_Q34:mg "speeds_of"=some (.ref t.a_Q34)
 F_Q51:Fun K "power_of" "power_of" AR t.a_Q51 t.d_Q51
 b_Q51:aP K t.d_Q51 ["rule","speeds"] []
 m_Q51:mg "power_of"=some (.ref t.a_Q51)
 F_Q13:Fun K "stretch_bound" "stretch_bound" Bv t.a_Q13 t.d_Q13
 b_Q13:aP K t.d_Q13 ["works","rule","paper"] []
 m_Q13:mg "stretch_bound"=some (.ref t.a_Q13)
 F_Q52:Fun K "_law_tape" "_law_tape" AQ t.a_Q52 t.d_Q52
 b_Q52:aP K t.d_Q52 ["_law_script"] []
 m_Q52:mg "_law_tape"=some (.ref t.a_Q52)
 F_Q53:Fun K "_law_draw" "_law_draw" AO t.a_Q53 t.d_Q53
 b_Q53:aP K t.d_Q53 ["_law_tape_here","_law_many"] []
 m_Q53:mg "_law_draw"=some (.ref t.a_Q53)
 F_Q60:Fun K "_law_gcd" "_law_gcd" AH t.a_Q60 t.d_Q60
 b_Q60:aP K t.d_Q60 ["_law_one","_law_other"] []
 m_Q60:mg "_law_gcd"=some (.ref t.a_Q60)
 F_Q35:Fun K "_law_ratio" "_law_ratio" A8 t.a_Q35 t.d_Q35
 b_Q35:aP K t.d_Q35 ["_law_top","_law_bottom"] []
 m_Q35:mg "_law_ratio"=some (.ref t.a_Q35)
 F_Q54:Fun K "_law_plus" "_law_plus" AN t.a_Q54 t.d_Q54
 b_Q54:aP K t.d_Q54 ["_law_one","_law_other"] []
 m_Q54:mg "_law_plus"=some (.ref t.a_Q54)
 F_Q55:Fun K "_law_less" "_law_less" AM t.a_Q55 t.d_Q55
 b_Q55:aP K t.d_Q55 ["_law_one","_law_other"] []
 m_Q55:mg "_law_less"=some (.ref t.a_Q55)
 F_Q56:Fun K "_law_part" "_law_part" AL t.a_Q56 t.d_Q56
 b_Q56:aP K t.d_Q56 ["_law_tape_here"] []
 m_Q56:mg "_law_part"=some (.ref t.a_Q56)
 F_Q36:Fun K "_law_works" "_law_works" A7 t.a_Q36 t.d_Q36
 b_Q36:aP K t.d_Q36 ["_law_tape_here","_law_most","_law_end"] []
 m_Q36:mg "_law_works"=some (.ref t.a_Q36)
 F_Q37:Fun K "_law_leans" "_law_leans" A6 t.a_Q37 t.d_Q37
 b_Q37:aP K t.d_Q37 ["_law_tape_here","_law_many"] []
 m_Q37:mg "_law_leans"=some (.ref t.a_Q37)
 F_Q38:Fun K "_law_spots" "_law_spots" A5 t.a_Q38 t.d_Q38
 b_Q38:aP K t.d_Q38 ["_law_plan","_law_number"] []
 m_Q38:mg "_law_spots"=some (.ref t.a_Q38)
 F_Q39:Fun K "_law_drawn" "_law_drawn" A4 t.a_Q39 t.d_Q39
 b_Q39:aP K t.d_Q39 ["_law_sheet"] []
 m_Q39:mg "_law_drawn"=some (.ref t.a_Q39)
 F_Q5:Fun K "_law_is_not_less" "_law_is_not_less" Hi t.a_Q5 t.d_Q5
 b_Q5:aP K t.d_Q5 ["_law_one","_law_other"] []
 m_Q5:mg "_law_is_not_less"=some (.ref t.a_Q5)
 F_Q6:Fun K "_law_keeps_leans" "_law_keeps_leans" Hh t.a_Q6 t.d_Q6
 b_Q6:aP K t.d_Q6 ["_law_sheet","_law_plan"] []
 m_Q6:mg "_law_keeps_leans"=some (.ref t.a_Q6)
 F_Q8:Fun K "_law_plan_right" "_law_plan_right" Hf t.a_Q8 t.d_Q8
 b_Q8:aP K t.d_Q8 ["_law_sheet"] []
 m_Q8:mg "_law_plan_right"=some (.ref t.a_Q8)
 F_Q26:Fun K "_law_greater" "_law_greater" Bh t.a_Q26 t.d_Q26
 b_Q26:aP K t.d_Q26 ["_law_tape_here","_law_works_here"] []
 m_Q26:mg "_law_greater"=some (.ref t.a_Q26)
 F_Q21:Fun K "_law_narrower" "_law_narrower" Bm t.a_Q21 t.d_Q21
 b_Q21:aP K t.d_Q21 ["_law_tape_here","_law_works_here"] []
 m_Q21:mg "_law_narrower"=some (.ref t.a_Q21)
 F_Q9:Fun K "_law_wants_more" "_law_wants_more" He t.a_Q9 t.d_Q9
 b_Q9:aP K t.d_Q9 ["_law_works_here","_law_other","_law_power"] []
 m_Q9:mg "_law_wants_more"=some (.ref t.a_Q9)
 F_Q40:Fun K "_law_rises" "_law_rises" A3 t.a_Q40 t.d_Q40
 b_Q40:aP K t.d_Q40 ["_law_tape_here","_law_works_here"] []
 m_Q40:mg "_law_rises"=some (.ref t.a_Q40)
 F_Q14:Fun K "_law_lean_more" "_law_lean_more" Bu t.a_Q14 t.d_Q14
 b_Q14:aP K t.d_Q14 ["_law_tape_here","_law_sheet"] []
 m_Q14:mg "_law_lean_more"=some (.ref t.a_Q14)
 F_Q79:Fun K "law" "law" Au t.a_Q79 t.d_Q79
 b_Q79:aP K t.d_Q79 ["_law_script"] []
 m_Q79:mg "law"=some (.ref t.a_Q79)
 m_NOUGHT:mg "NOUGHT"=some (.ref t.c_NOUGHT)
 q_NOUGHT:∀H,bz K H t.c_NOUGHT [.int (0),.int (1)]
 m_TURNS:mg "TURNS"=some (.int (24) t.k_TURNS)
 m_MOST_WORKS:mg "MOST_WORKS"=some (.int (20) t.k_MOST_WORKS)
 m_MOST_LEANS:mg "MOST_LEANS"=some (.int (40) t.k_MOST_LEANS)
 m_POWER:mg "POWER"=some (.str "power" t.k_POWER)
 X_Q61:XC K t.c_Q61 t.a_Q61 (.ref t.c_base::mK)
 F_Q61:Fun K "__init__" "NoSheet.__init__" pU t.a_Q61 t.d_Q61
 b_Q61:aP K t.d_Q61 ["self","word","number"] []
 m_Q61:mg "NoSheet"=some (.ref t.c_Q61)
 n_Q61_word:ft K t.c_Q61 "word"
 n_Q61_number:ft K t.c_Q61 "number"
 g_Q61:zr K t.c_Q61
 X_Q69:XC K t.c_Q69 t.a_Q69 (.ref t.c_base::mK)
 F_Q69:Fun K "__init__" "NoRoom.__init__" pT t.a_Q69 t.d_Q69
 b_Q69:aP K t.d_Q69 ["self","work"] []
 m_Q69:mg "NoRoom"=some (.ref t.c_Q69)
 n_Q69_work:ft K t.c_Q69 "work"
 g_Q69:zr K t.c_Q69
 m_Q41:mg "PaceError"=some (.ref t.c_Q41)
 m_Q70:mg "NoPlan"=some (.ref t.c_Q70)
 m_Q62:mg "NoSpeed"=some (.ref t.c_Q62)
 m_Q63:mg "NoRatio"=some (.ref t.c_Q63)
 x_catch:U7 K (.ref t.c_Q69) (.ref t.c_Q69)=some true
 x_catch2:U7 K (.ref t.c_Q61) (.ref t.c_Q61)=some true
 z_abs:mg "abs"=none
 z_all:mg "all"=none
 z_any:mg "any"=none
 z_bool:mg "bool"=none
 z_enumerate:mg "enumerate"=none
 z_int:mg "int"=none
 z_isinstance:mg "isinstance"=none
 z_len:mg "len"=none
 z_list:mg "list"=none
 z_max:mg "max"=none
 z_min:mg "min"=none
 z_range:mg "range"=none
 z_set:mg "set"=none
 z_sum:mg "sum"=none
 z_tuple:mg "tuple"=none
 z_zip:mg "zip"=none
inductive fh(K_:Qu)(vs:List V)(H:Hp)(Q:VK):Prop where
 |mk (a b:Int) (h0_:vs=[.int a,.int b]) (h1_:Q (.int (Q1 a b:Nat)) H):fh K_ vs H Q
def jw(K_:Qu):Sp:=λvs H Q _=>fh K_ vs H Q
theorem CN(hB:0<B)(hb:0<b)(h1:B∣5822723907000000000)(h2:b∣5822723907000000000):0<B*(b/(Q1 B b:Int))/\B*(b/(Q1 B b:Int))∣5822723907000000000/\B∣B*(b/(Q1 B b:Int))/\b∣B*(b/(Q1 B b:Int)):=by
 obtain⟨m,rfl⟩:=RK (SY hB);obtain⟨n,rfl⟩:=RK (SY hb);have e:(m:Int)*((n:Int)/(Q1 m n:Int))=((Nat.lcm m n:Nat):Int):=by
  show(m:Int)*((n:Int)/((Nat.gcd m n:Nat):Int))=_;rw[←Int.natCast_ediv,←V7];unfold Nat.lcm;rw[Nat.mul_div_assoc _ (Nat.gcd_dvd_right m n)]
 rw[e];have p:=Nat.lcm_pos (show 0<m by omega) (show 0<n by omega);refine⟨ω,?_,TX.mpr (Nat.dvd_lcm_left m n),TX.mpr (Nat.dvd_lcm_right m n)⟩;have a1:m∣5822723907000000000:=TX.mp h1;have a2:n∣5822723907000000000:=TX.mp h2;exact TX.mpr (Nat.lcm_dvd a1 a2)
def CD(H:Hp)(Q:VK)(r:R):Prop:=∀p,H p=none->Q (.ref p) (upd H p (.tup [.int r.1,.int r.2]))
def GF(K:Qu)(H:Hp)(Q:VK)(r:R):Prop:=∀(v:V) (H':Hp),aL H H'->RV K H' v r->Q v H'
inductive qw(K_:Qu)(vs:List V)(H:Hp)(Q:VK):Prop where
 |mk (a b:Int) (h0_:vs=[.int a,.int b]) (h1_:0<b) (h2_:b.natAbs<2^8990) (h3_:CD H Q (fj a b)):qw K_ vs H Q
def tz(K_:Qu):Sp:=λvs H Q _=>qw K_ vs H Q
inductive uJ(K:Qu)(vs:List V)(H:Hp)(Q:VK):Prop where
 |mk (v w:V) (r q:R) (n m:Nat) (h0_:vs=[v,w]) (h1_:RV K H v r) (h2_:RV K H w q) (h3_:Wf n r) (h4_:Wf m q) (h5_:n+m+1≤3000) (h6_:CD H Q (bQ r q)):uJ K vs H Q
def wC(K:Qu):Sp:=λvs H Q _=>uJ K vs H Q
inductive qr(K:Qu)(vs:List V)(H:Hp)(Q:VK):Prop where
 |mk (v w:V) (r q:R) (n m:Nat) (h0_:vs=[v,w]) (h1_:RV K H v r) (h2_:RV K H w q) (h3_:Wf n r) (h4_:Wf m q) (h5_:n+m+1≤3000) (h6_:CD H Q (cA r q)):qr K vs H Q
def Ag(K:Qu):Sp:=λvs H Q _=>qr K vs H Q
def PY(K:Qu)(H:Hp)(a:Addr)(xs:List V):Prop:=aZ K H a xs∨bz K H a xs
inductive qq(K:Qu)(vs:List V)(H:Hp)(Q:VK):Prop where
 |mk (a:Addr) (xs:List V) (rs:List R) (n D:Nat) (h0_:vs=[.ref a]) (h1_:PY K H a xs) (h2_:MJ K H xs rs) (h3_:(∀r∈rs,Wf n r/\r.2∣(D:Int))) (h4_:0<D) (h5_:D<2^n) (h6_:rs.length≤64) (h7_:n≤900) (h8_:∀(v':V) (H':Hp),aL H H'->RV K H' v' (fQ rs)->Q v' H'):qq K vs H Q
def Af(K:Qu):Sp:=λvs H Q _=>qq K vs H Q
theorem xL{D i n:Nat}{r:R}(h:∀p∈ps,p.1∣(D:Int))(hr:r.2∣(D:Int)):∀p∈gF ps r.2 r.1,p.1∣(D:Int):=λp hp=>by
 rcases(kT ps r.2 r.1 p.1).mp (QU.mpr ⟨p,hp,Z⟩) with z|z
 ·obtain⟨q,hq,e⟩:=QU.mp z;rw[←e];exact h q hq
 ·rw[z];exact hr
theorem C0{D n i:Nat}(ok:mU n i ps)(hd:∀p∈ps,p.1∣(D:Int))(hi:i≤64){q:Int×Int}(hq:q∈ps):Bq D (64*2^n) (fj q.2 q.1):=by
 have b:=(ok.bot q hq).1;refine xF b (hd q hq) (Rm (ok.top q hq) ?_);refine Rm (TU _ hi) (Nat.le_mul_of_pos_right _ ω)
theorem Dx(h:Bq D (64*2^n*j) r)(hj:j≤64)(h0:0<D)(hD:D<2^n):Wf (2*n+12) r:=by
 refine h.wf h0 (Rc hD (TN δ ω)) ?_;have a:64*2^n*j≤64*2^n*64:=Wh _ hj;have b:64*2^n*j*D<64*2^n*64*2^n:=RN (TU _ a) (Nat.mul_lt_mul_of_pos_left hD (Nat.mul_pos (Nat.mul_pos δ (Nat.pow_pos δ)) δ));refine Rc b ?_;rw[show 2*n+12=n+(n+12) by omega,X5,X5,show(2:Nat)^12=4096 by decide];rw[show 64*2^n*64*2^n=2^n*(2^n*4096) by rw[show(4096:Nat)=64*64 by decide];ac_rfl];exact QB _
theorem iZ{a g:Int}(hg:0<g)(h:a.natAbs<2^8990):(a/g).natAbs<2^8990:=RN (gD a hg) h
theorem rX(hb:0<b)(h:b.natAbs<2^8990):((Q1 a b:Nat):Int).natAbs<2^8990:=by
 have z:Q1 a b≤b.natAbs:=W4 ω (by have:=TW a b;exact US.mpr this);have e:((Q1 a b:Nat):Int).natAbs=Q1 a b:=UJ _;omega
theorem bU{i:Int}(h:i.natAbs<2^n)(hn:n≤8990):i.natAbs<2^8990:=Rc h (TN δ hn)
inductive uK(K:Qu)(vs:List V)(H:Hp)(Q:VK):Prop where
 |mk (v w:V) (r:R) (n m:Nat) (h0_:vs=[v,w]) (h1_:RV K H v r) (h2_:RV K H w ((m:Int),1)) (h3_:Wf n r) (h4_:0<m) (h5_:m≤24) (h6_:n≤2000) (h7_:GF K H Q (cA r (1,(m:Int)))):uK K vs H Q
def DV(K:Qu):Sp:=λvs H Q _=>uK K vs H Q
theorem Jw{m:Nat}(h:0<m):fj 1 (m:Int)=(1,(m:Int)):=e9 ω ω (by simp) ω
theorem IC{m:Nat}(h:0<m)(h':m≤24):Wf 5 ((1,(m:Int)):R):=⟨by show(0:Int)<m;omega,by show(1:Int).natAbs<2^5;decide,by show((m:Int)).natAbs<32;omega,by simp⟩
theorem kQ{K:Qu}{H:Hp}{xs:List V}{rs:List R}(h:Als (RV K H) xs rs):MJ K H xs rs:=⟨h.len,λi x r hx hr=>by obtain⟨d,hd,p⟩:=h.at hx;rw[hr] at hd;cases hd;exact p⟩
theorem Als.setI{α:Type}{P:V->α->Prop}{v:V}{d:α}(k:P v d):∀{xs:List V} {ds:List α} (i:Nat),Als P xs ds->Als P (xs.set i v) (ds.set i d)
 |_,_,_,.nil=>.nil
 |_,_,0,.cons _ t=>.cons k t
 |_,_,i+1,.cons h t=>.cons h (Als.setI k i t)
theorem Als.rep{α:Type}{P:V->α->Prop}{v:V}{d:α}(k:P v d):∀n:Nat,Als P (Rf n v) (Rf n d)
 |0=>.nil
 |n+1=>.cons k (Als.rep k n)
theorem rS(h:t<n):yH n (t:Int)=some t:=by
 unfold yH;simp;omega
abbrev Wk:=Nat×Nat×R
def zk(K:Qu)(H:Hp)(v:V)(w:Wk):Prop:=∃p x,v=.ref p/\bz K H p [.int w.1,.int w.2.1,x]/\RV K H x w.2.2
theorem zk.mono{K:Qu}{H H':Hp}{v:V}{w:Wk}(h:zk K H v w)(t:aI K H H'):zk K H' v w:=let ⟨p,x,e,s,r⟩:=h;⟨p,x,e,t _ _ s,r.mono t⟩
structure DE(r:R):Prop where
 top:1≤r.1
 top':r.1≤2000000014*r.2
 bot:1≤r.2
 dvd:r.2∣5822723907000000000
 wf:Wf 96 r
structure bn(w:Wk):Prop where
 le:w.1≤w.2.1
 lt:w.2.1<24
 am:DE w.2.2
def eC(K:Qu)(H:Hp)(v:V)(ws:List Wk):Prop:=∃p xs,v=.ref p/\bz K H p xs/\Als (zk K H) xs ws
theorem eC.mono{K:Qu}{H H':Hp}{v:V}{ws:List Wk}(h:eC K H v ws)(t:aI K H H'):eC K H' v ws:=let ⟨p,xs,e,s,a⟩:=h;⟨p,xs,e,t _ _ s,a.mono λ_ _ q=>q.mono t⟩
def bF(ls:List Nat):List V:=ls.map λn:Nat=>V.int n
def cK(ws:List Wk):List Int:=ws.map λw=>w.2.2.1*5822723907000000000/w.2.2.2
def fo(B:Int)(ws:List Wk):List Int:=ws.map λw=>w.2.2.1*(B/w.2.2.2)
inductive iz(K:Qu)(vs:List V)(H:Hp)(Q:VK):Prop where
 |mk (a:Addr) (xs:List V) (ws:List Wk) (h0_:vs=[.ref a]) (h1_:aZ K H a xs) (h2_:Als (RV K H) xs (ws.map λw=>w.2.2)) (h3_:ws.length≤64) (h4_:(∀w∈ws,bn w)) (h5_:∀(l:Addr) (B:Int) (H':Hp),aL H H'->H l=none->0<B->B∣5822723907000000000->(∀w∈ws,w.2.2.2∣B)->H' l=some (.lst ((fo B ws).map V.int))->Q (.ref l) H'):iz K vs H Q
def nM(K:Qu):Sp:=λvs H Q _=>iz K vs H Q
def gE(w:Wk)(t:Nat):Bool:=decide (w.1≤t)&&decide (t≤w.2.1)
inductive jK(K:Qu)(vs:List V)(H:Hp)(Q:VK):Prop where
 |mk (v:V) (w:Wk) (t:Nat) (h0_:vs=[v,.int t]) (h1_:zk K H v w) (h2_:Q (.bl (gE w t)) H):jK K vs H Q
def qU(K:Qu):Sp:=λvs H Q _=>jK K vs H Q
def ig(ls:List Nat)(w:Wk):List Nat:=(Qv ls.length).filter λi=>gE w (ls.getD i 0)
def bI(ls:List Nat)(w:Wk):Wn:=match ig ls w with
 | []=>none
 |x::r=>some (x,(x::r).getLast (by simp))
def we(K:Qu)(H:Hp)(v:V):Wn->Prop
 |none=>v=.non
 |some q=>∃p,v=.ref p/\bz K H p [.int q.1,.int q.2]
theorem we.mono{K:Qu}{H H':Hp}{v:V}{o:Wn}(h:we K H v o)(t:aI K H H'):we K H' v o:=by
 cases o with
 |none=>exact h
 |some q=>obtain⟨p,e,s⟩:=h;exact⟨p,e,t _ _ s⟩
inductive gY(K:Qu)(vs:List V)(H:Hp)(Q:VK):Prop where
 |mk (v:V) (q:Addr) (ws:List Wk) (ls:List Nat) (h0_:vs=[v,.ref q]) (h1_:eC K H v ws) (h2_:ws.length≤64) (h3_:bz K H q (bF ls)) (h4_:ls.length≤24) (h5_:∀(l:Addr) (xs:List V) (H':Hp),aL H H'->H l=none->H' l=some (.lst xs)->Als (we K H') xs (ws.map (bI ls))->Q (.ref l) H'):gY K vs H Q
def mN(K:Qu):Sp:=λvs H Q _=>gY K vs H Q
inductive uL(K:Qu)(vs:List V)(H:Hp)(Q:VK):Prop where
 |mk (l:Addr) (xs:List V) (os:List Wn) (p:Pl) (h0_:vs=[.ref l,.int p.1,.int p.2]) (h1_:aZ K H l xs) (h2_:Als (we K H) xs os) (h3_:os.length≤64) (h4_:∀(D:Addr) (H':Hp),aL H H'->H D=none->H' D=some (.lst (bF (cI os p)))->Q (.ref D) H'):uL K vs H Q
def DW(K:Qu):Sp:=λvs H Q _=>uL K vs H Q
def js(as:List Int)(i:Nat):Int:=as.getD i 0
theorem E8{os:List Wn}(hb:∀x∈as,0≤x/\x≤11645447895518134698000000000)(hn:os.length≤64)(q:Pl):0≤dq os (js as) q/\dq os (js as) q≤745308665313160620672000000000:=by
 have h0:∀i,0≤js as i/\js as i≤11645447895518134698000000000:=λi=>by
  unfold js;rw[QQ]
  cases e:as[i]? with
  |none=>exact⟨δ,δ⟩
  |some x=>exact hb x (QC e)
 have key:∀l:List Nat,0≤(l.map (js as)).sum/\(l.map (js as)).sum≤11645447895518134698000000000*(l.length:Int):=by
  intro l
  induction l with
  |nil=>exact⟨by simp,by simp⟩
  |cons x l ih=>
   rw[RC,Vs,Rh];have:=h0 x;omega
 have k:=key (cI os q);have l:(cI os q).length≤os.length:=by
  unfold cI;exact Rm (RU _ _) (by rw[RL];exact QB _)
 unfold dq;omega
def oX(K:Qu)(H:Hp)(S:Pl->Prop)(L:Pl->Int)(vb:Addr)(ld ln:Int):Prop:=(ld=-1/\ln=1/\∀r,¬S r)∨∃q:Pl,bz K H vb [.int q.1,.int q.2]/\ld=L q/\ln=bV q/\pG S L q
theorem oX.mono{K:Qu}{H H':Hp}{S S':Pl->Prop}{L:Pl->Int}{vb:Addr}{ld ln:Int}(h:oX K H S L vb ld ln)(t:aI K H H')(e:∀r,S' r↔S r):oX K H' S' L vb ld ln:=by
 rcases h with⟨a,b,c⟩ | ⟨q,hq,a,b,c⟩
 ·exact .inl ⟨a,b,λr hr=>c r ((e r).mp hr)⟩
 ·exact .inr ⟨q,t _ _ hq,a,b,c.congr e⟩
theorem zg(e:∀r,S r↔r=q):pG S L q:=⟨(e q).mpr Z,λr hr=>by rw[(e r).mp hr];exact .inr ⟨Z,.inr ⟨Z,QB _⟩⟩⟩
inductive fu(K:Qu)(vs:List V)(H:Hp)(Q:VK):Prop where
 |mk (l a:Addr) (xs:List V) (os:List Wn) (as:List Int) (n:Nat) (h0_:vs=[.ref l,.ref a,.int n]) (h1_:aZ K H l xs) (h2_:Als (we K H) xs os) (h3_:os.length≤64) (h4_:aZ K H a (as.map V.int)) (h5_:as.length=os.length) (h6_:(∀x∈as,0≤x/\x≤11645447895518134698000000000)) (h7_:1≤n) (h8_:n≤24) (h9_:∀(p:Addr) (q:Pl) (H':Hp),aL H H'->bz K H' p [.int q.1,.int q.2]->pG (jt n) (dq os (js as)) q->Q (.ref p) H'):fu K vs H Q
def jS(K:Qu):Sp:=λvs H Q _=>fu K vs H Q
def E1(ls:List Nat):Ri:=.tuple (ls.map λn:Nat=>Ri.int n)
def Nr(ls:List Nat)(os:List Wn)(q:Pl):Ri:=.tuple [E1 ((ls.drop q.1).take (q.2+1-q.1)),E1 (cI os q)]
theorem Ce(ok:∀w∈ws,bn w)(b0:0<B)(bd:B∣5822723907000000000):∀x∈fo B ws,0≤x/\x≤11645447895518134698000000000:=by
 intro x hx;obtain⟨w,hw,rfl⟩:=QU.mp hx;have o:=(ok w hw).am;have B84:=Ux δ bd;have q0:0≤B/w.2.2.2:=Ts ω (by have:=o.bot;omega);have q1:B/w.2.2.2≤B:=Xo _ ω;have t1:=o.top;have t2:=o.top';refine⟨Yb ω q0,?_⟩;have h1:w.2.2.1*(B/w.2.2.2)≤2000000014*w.2.2.2*(B/w.2.2.2):=VZ t2 q0;have h2:w.2.2.2*(B/w.2.2.2)≤B:=Int.mul_ediv_self_le (by have:=o.bot;omega);rw[Yy] at h1;omega
theorem zJ(ok:∀w∈ws,bn w):∀x∈cK ws,0≤x/\x≤11645447895518134698000000000:=by
 intro x hx;obtain⟨w,hw,rfl⟩:=QU.mp hx;have o:=(ok w hw).am;have t1:=o.top;have t2:=o.top';refine⟨Ts ω (by have:=o.bot;omega),?_⟩;refine Int.le_of_lt_add_one (X0 (by have:=o.bot;omega) ?_);have:=o.bot;omega
theorem sS(ok:∀w∈ws,bn w)(dv:∀w∈ws,w.2.2.2∣B)(i:Nat):js (cK ws) i*B=js (fo B ws) i*5822723907000000000:=by
 unfold js cK fo;rw[QQ,QQ,QJ,QJ]
 cases e:ws[i]? with
 |none=>simp
 |some w=>
  have hw:=QC e;have o:=(ok w hw).am;obtain⟨m,hm⟩:=dv w hw;obtain⟨n,hn⟩:=o.dvd;have nz:w.2.2.2≠0:=by have:=o.bot;omega
  show w.2.2.1*5822723907000000000/w.2.2.2*B=w.2.2.1*(B/w.2.2.2)*5822723907000000000;have e1:w.2.2.1*5822723907000000000/w.2.2.2=w.2.2.1*n:=by
   rw[hn,VJ];exact Rj _ nz
  have e2:B/w.2.2.2=m:=by
   rw[hm];exact Rj _ nz
  rw[e1,e2,hm,hn]
  ac_rfl
theorem Fz{ls:List Nat}(h1:a≤b)(h2:b≤ls.length):gQ (bF ls) (some (a:Int)) (some (b:Int))=bF ((ls.drop a).take (b-a)):=by
 unfold gQ bF;rw[HT.sIx_nat,HT.sIx_nat,Qz,show ZW b ls.length=b from Wa h2,show ZW a ls.length=a from Wa ω,Yw,aas]
def Gv(K:Qu)(H:Hp)(v:V)(y:List Nat×List Nat):Prop:=∃p a b,v=.ref p/\bz K H p [.ref a,.ref b]/\bz K H a (bF y.1)/\bz K H b (bF y.2)
theorem Gv.mono{K:Qu}{H H':Hp}{v:V}{y:List Nat×List Nat}(h:Gv K H v y)(t:aI K H H'):Gv K H' v y:=let ⟨p,a,b,e,h1,h2,h3⟩:=h;⟨p,a,b,e,t _ _ h1,t _ _ h2,t _ _ h3⟩
def cD(ls:List Nat)(q:Pl):List Nat:=(ls.drop q.1).take (q.2+1-q.1)
def dZ(ls:List Nat)(q:Pl):List Nat:=ls.filter λt=>!(cD ls q).contains t
def vN(ws:List Wk)(ls:List Nat):Nat:=ws.countP λw=>(bI ls w).isSome
theorem fK:i∈ig ls w↔i<ls.length/\gE w (ls.getD i 0)=true:=by
 unfold ig;rw[Q3,QH]
theorem wt(h:ig ls w=[]):bI ls w=none:=by unfold bI;rw[h]
theorem sL(h:ig ls w=x:: r):bI ls w=some (x,(x:: r).getLast (by simp)):=by unfold bI;rw[h]
theorem iF:(bI ls w).isSome=true↔∃t∈ls,gE w t=true:=by
 cases c:ig ls w with
 |nil=>
  rw[wt c];refine⟨λh=>(by cases h),λ⟨t,ht,e⟩=>?_⟩;obtain⟨i,hi,rfl⟩:=Sa.mp ht;have m:i∈ig ls w:=fK.mpr ⟨hi,by rw[aB 0 (Qw hi)];exact e⟩;rw[c] at m
  cases m
 |cons x r=>
  rw[sL c];refine⟨λ_=>?_,λ_=>Z⟩;have m:x∈ig ls w:=by rw[c];exact QL
  obtain⟨hi,e⟩:=fK.mp m;rw[aB 0 (Qw hi)] at e;exact⟨_,RA hi,e⟩
theorem vz(ls:List Nat)(w:Wk):(ig ls w).Pairwise (· < ·):=Ut _ XS
theorem kl(h:bI ls w=some (a,b)):a∈ig ls w/\b∈ig ls w/\∀i∈ig ls w,a≤i/\i≤b:=by
 cases c:ig ls w with
 |nil=>rw[wt c] at h;cases h
 |cons x r=>
  rw[sL c] at h;have srt:=vz ls w;rw[c] at srt;injection h with h;injection h with h1 h2;subst h1 h2;refine⟨QL,List.getLast_mem _,λi hi=>⟨?_,?_⟩⟩
  ·rcases QR.mp hi with z|z
   ·omega
   ·have:=(List.pairwise_cons.mp srt).1 i z;omega
  ·have e:=Wc (show(x::r)≠[] by simp);rw[←e] at srt hi;rcases Q6.mp hi with z|z
   ·have:=(V3.mp srt).2.2 i z _ (QK.mpr Z);omega
   ·have:=QK.mp z;omega
theorem Jr{ls:List Nat}(nd:ls.Nodup){i j:Nat}{hi:i<ls.length}{hj:j<ls.length}(e:ls[i]=ls[j]):i=j:=by
 have h:=Sq.mp nd;rcases WS i j with z|z|z
 ·exact absurd e (h i j hi hj z)
 ·exact z
 ·exact absurd e.symm (h j i hj hi z)
theorem rP(nd:ls.Nodup)(hp:jt ls.length p)(hi:i<ls.length):ls[i]∈cD ls p↔p.1≤i/\i≤p.2:=by
 have h1:=hp.1;have h2:=hp.2;unfold cD;constructor
 ·intro h;obtain⟨j,hj,e⟩:=Sa.mp h;rw[Rs,Sj] at hj;rw[Zk,Zl] at e;have:=Jr nd e;omega
 ·rintro⟨a,b⟩;refine Sa.mpr ⟨i-p.1,by rw[Rs,Sj];omega,?_⟩;rw[Zk,Zl]
  congr 1
  omega
theorem pW(nd:ls.Nodup)(hp:jt ls.length p):(bI (dZ ls p) w).isSome=((bI ls w).isSome&&!ix p.1 p.2 (bI ls w)):=by
 have key:(bI (dZ ls p) w).isSome=true↔∃i,∃hi:i<ls.length,gE w ls[i]=true/\¬(p.1≤i/\i≤p.2):=by
  rw[iF];constructor
  ·rintro⟨t,ht,e⟩;unfold dZ at ht;obtain⟨m,c⟩:=Q3.mp ht;obtain⟨i,hi,rfl⟩:=Sa.mp m;refine⟨i,hi,e,λz=>?_⟩;rw[SO.mpr ((rP nd hp hi).mpr z)] at c
   cases c
  ·rintro⟨i,hi,e,n⟩;refine⟨ls[i],Q3.mpr ⟨RA hi,?_⟩,e⟩
   cases c:(cD ls p).contains ls[i] with
   |false=>rfl
   |true=>exact absurd ((rP nd hp hi).mp (SO.mp c)) n
 have pm:∀i,i∈ig ls w↔∃hi:i<ls.length,gE w ls[i]=true:=λi=>by
  rw[fK];constructor
  ·rintro⟨hi,e⟩;rw[aB 0 (Qw hi)] at e;exact⟨hi,e⟩
  ·rintro⟨hi,e⟩;exact⟨hi,by rw[aB 0 (Qw hi)];exact e⟩
 cases c:bI ls w with
 |none=>
  have n:¬(bI (dZ ls p) w).isSome=true:=λh=>by
   obtain⟨i,hi,e,_⟩:=key.mp h;have:=iF.mpr ⟨ls[i],RA hi,e⟩;rw[c] at this
   cases this
  simpa using n
 |some q=>
  obtain⟨a,b⟩:=q;obtain⟨m1,m2,bd⟩:=kl c;show(bI (dZ ls p) w).isSome=(true&&!(decide (p.1≤a)&&decide (b≤p.2)));by_cases h:p.1≤a/\b≤p.2
  ·rw[decide_eq_true h.1,decide_eq_true h.2];have n:¬(bI (dZ ls p) w).isSome=true:=λh'=>by
    obtain⟨i,hi,e,n⟩:=key.mp h';have:=bd i ((pm i).mpr ⟨hi,e⟩);exact n ω
   simpa using n
  ·have y:(bI (dZ ls p) w).isSome=true:=key.mpr (by
    by_cases z:p.1≤a
    ·obtain⟨hi,e⟩:=(pm b).mp m2;exact⟨b,hi,e,ω⟩
    ·obtain⟨hi,e⟩:=(pm a).mp m1;exact⟨a,hi,e,ω⟩)
   rw[y];by_cases z:p.1≤a
   ·rw[decide_eq_false (show ¬b≤p.2 from λq=>h ⟨z,q⟩),R1];rfl
   ·rw[decide_eq_false z];rfl
theorem oH(os:List Wn)(p:Pl):(cI os p).length=os.countP (ix p.1 p.2):=by
 have:=congrArg ZK (fg (none:Wn) (ix p.1 p.2) id os);rw[Qz,Qz] at this;rw[TZ];exact this
theorem EW(nd:ls.Nodup)(hp:jt ls.length p):vN ws (dZ ls p)+(cI (ws.map (bI ls)) p).length=vN ws ls:=by
 rw[oH,Z1];unfold vN
 induction ws with
 |nil=>rfl
 |cons w ws ih=>
  rw[Xp,Xp,Xp,pW nd hp,show(ix p.1 p.2∘bI ls) w=ix p.1 p.2 (bI ls w) from Z]
  cases c:bI ls w with
  |none=>
   have:ix p.1 p.2 none=false:=Z;rw[this];simp only[Option.isSome_none,U0,Tz,if_false,Zm];exact ih
  |some q=>
   cases ix p.1 p.2 (some q) with
   |true=>
    simp only[Vw,UP,R1,Tz,if_false,if_true,Zm];omega
   |false=>
    simp only[Vw,Vb,W2,Tz,if_false,if_true,Zm];omega
theorem D9(nd:ls.Nodup)(p:Pl):(dZ ls p).Nodup:=Ut _ nd
theorem wS(h:vN ws ls=0)(r:Pl):dq (ws.map (bI ls)) A r=0:=by
 have e:cI (ws.map (bI ls)) r=[]:=by
  refine V4 ?_;rw[oH];have h':∀w∈ws,¬(bI ls w).isSome=true:=SK.mp h;refine SK.mpr λo ho=>?_
  obtain⟨w,hw,rfl⟩:=QU.mp ho;have n:=h' w hw
  cases c:bI ls w with
  |none=>intro z;cases z
  |some q=>rw[c] at n;exact absurd Z n
 unfold dq;rw[e];rfl
theorem CL{A:Nat->Int}(h:∀i,0≤A i):∀{l:List Nat} {i:Nat},i∈l->A i≤(l.map A).sum
 |x::l,i,hi=>by
  rw[RC,Vs];rcases QR.mp hi with z|z
  ·subst z;have:=jR h l;omega
  ·have:=CL h z;have:=h x;omega
theorem sT(ok:∀w∈ws,bn w)(i:Nat):0≤js (cK ws) i:=by
 unfold js;rw[QQ]
 cases e:(cK ws)[i]? with
 |none=>decide
 |some x=>exact(zJ ok x (QC e)).1
theorem E7(ok:∀w∈ws,bn w)(h:∀r,jt ls.length r->dq (ws.map (bI ls)) (js (cK ws)) r=0):vN ws ls=0:=by
 refine SK.mpr λw hw n=>?_
 obtain⟨q,hq⟩:=SR.mp n;obtain⟨a,b⟩:=q;obtain⟨m1,m2,bd⟩:=kl hq;have sec:jt ls.length (a,b):=⟨(bd b m2).1,(fK.mp m2).1⟩;obtain⟨i,hi,rfl⟩:=Sa.mp hw;have mi:i∈cI (ws.map (bI ls)) (a,b):=by
  unfold cI;refine Q3.mpr ⟨QH.mpr (by rw[Qz];exact hi),?_⟩;rw[aB none (show(ws.map (bI ls))[i]?=some (some (a,b)) by rw[QJ,Qw hi];exact congrArg some hq)];show(decide (a≤a)&&decide (b≤b))=true;simp
 have l:=CL (sT ok) mi;have z:=h _ sec;unfold dq at z;rw[z] at l;have o:=(ok _ hw).am;have eu:js (cK ws) i=ws[i].2.2.1*5822723907000000000/ws[i].2.2.2:=aB 0 (by unfold cK;rw[QJ,Qw hi];rfl);rw[eu] at l;have t1:=o.top;have b1:=o.bot;have b2:=Ux δ o.dvd;have:1≤ws[i].2.2.1*5822723907000000000/ws[i].2.2.2:=(Int.le_ediv_iff_mul_le ω).mpr ω;omega
def zF(ws:List Wk)(ls:List Nat)(p:Pl):Prop:=pG (jt ls.length) (dq (ws.map (bI ls)) (js (cK ws))) p/\0<dq (ws.map (bI ls)) (js (cK ws)) p
theorem JF(ok:∀w∈ws,bn w)(b:pG (jt ls.length) (dq (ws.map (bI ls)) (js (cK ws))) p)(h:vN ws ls≠0):zF ws ls p:=by
 refine⟨b,?_⟩;have nn:∀r,0≤dq (ws.map (bI ls)) (js (cK ws)) r:=λr=>jR (sT ok) _
 by_cases c:0<dq (ws.map (bI ls)) (js (cK ws)) p
 ·exact c
 ·refine absurd (E7 ok λr hr=>?_) h;have z:dq (ws.map (bI ls)) (js (cK ws)) p=0:=by have:=nn p;omega
  have q:=b.all r hr;have pp:=(show jt ls.length p from b.inn).pos;rw[z,Int.zero_mul] at q;by_cases e:dq (ws.map (bI ls)) (js (cK ws)) r=0
  ·exact e
  ·have:=Sx (show 0<dq (ws.map (bI ls)) (js (cK ws)) r by have:=nn r;omega) pp;omega
theorem zF.held(h:zF ws ls p):0<(cI (ws.map (bI ls)) p).length:=by
 have:=h.2;unfold dq at this
 cases c:cI (ws.map (bI ls)) p with
 |nil=>rw[c] at this;exact absurd this (by simp)
 |cons x r=>exact XT _
abbrev Ly:=List Nat×List Nat
def eJ(ws:List Wk)(ls:List Nat)(p:Pl):Ly:=(cD ls p,cI (ws.map (bI ls)) p)
inductive gU(ws:List Wk):List Nat->List Ly->Prop where
 |nil {ls:List Nat} (h:vN ws ls=0):gU ws ls []
 |cons {ls:List Nat} {p:Pl} {r:List Ly} (h:zF ws ls p) (t:gU ws (dZ ls p) r):gU ws ls (eJ ws ls p::r)
theorem gU.uniq(h:gU ws ls a):∀{b:List Ly},gU ws ls b->a=b:=by
 induction h with
 |nil z=>
  intro b hb
  cases hb with
  |nil _=>rfl
  |cons h t=>have:=h.2;rw[wS z] at this;exact absurd this δ
 |cons h t ih=>
  intro b hb
  cases hb with
  |nil z=>have:=h.2;rw[wS z] at this;exact absurd this δ
  |cons h' t'=>
   have e:=h.1.uniq h'.1;subst e;rw[ih t']
structure mV(n:Nat)(y:Ly):Prop where
 pos:0<y.1.length
 few:y.1.length≤24
 lt:∀t∈y.1,t<24
 num:∀i∈y.2,i<n
 len:y.2.length≤n
theorem CJ(hp:jt ls.length p)(hl:ls.length≤24)(hb:∀t∈ls,t<24):mV ws.length (eJ ws ls p):=by
 have h1:=hp.1;have h2:=hp.2;have e:(cD ls p).length=ZW (p.2+1-p.1) (ls.length-p.1):=by unfold cD;rw[Rs,Sj]
 refine⟨by show 0<(cD ls p).length;omega,by show(cD ls p).length≤24;omega,λt ht=>hb t (Vc (RZ ht)),λi hi=>?_,?_⟩
 ·have:i∈cI (ws.map (bI ls)) p:=hi;unfold cI at this;have:=QH.mp (Q3.mp this).1;rw[Qz] at this;exact this
 ·show(cI (ws.map (bI ls)) p).length≤ws.length;rw[oH];exact Rm List.countP_le_length (by rw[Qz];exact QB _)
inductive kU(K:Qu)(vs:List V)(H:Hp)(Q:VK):Prop where
 |mk (v:V) (q:Addr) (ws:List Wk) (ls:List Nat) (h0_:vs=[v,.ref q]) (h1_:eC K H v ws) (h2_:ws.length≤64) (h3_:(∀w∈ws,bn w)) (h4_:bz K H q (bF ls)) (h5_:1≤ls.length) (h6_:ls.length≤24) (h7_:∀(x:V) (B:Int) (p:Pl) (H':Hp),aL H H'->0<B->B∣5822723907000000000->(∀w∈ws,w.2.2.2∣B)->pG (jt ls.length) (dq (ws.map (bI ls)) (js (fo B ws))) p->Gv K H' x (eJ ws ls p)->Q x H'):kU K vs H Q
def tw(K:Qu):Sp:=λvs H Q _=>kU K vs H Q
theorem mo{k:Nat}:∀{ds:List Ri},(∀d∈ds,d.depth≤k)->Wd ds≤k
 | [],_=>Re _
 |d::ds,h=>Nat.max_le.mpr ⟨h d QL,mo λe he=>h e (QP _ he)⟩
def Fx(w:Wk):Ri:=.tuple [.int w.1,.int w.2.1,dR w.2.2]
def uA(ws:List Wk):Ri:=.tuple (ws.map Fx)
theorem zk.deep{K:Qu}{H:Hp}{v:V}{w:Wk}(h:zk K H v w):bX K H v (Fx w):=by
 obtain⟨p,x,rfl,hS,rx⟩:=h;exact .tup hS (.cons (.int _) (.cons (.int _) (.cons rx.deep .nil)))
theorem eC.deep{K:Qu}{H:Hp}{v:V}{ws:List Wk}(h:eC K H v ws):bX K H v (uA ws):=by
 obtain⟨p,xs,rfl,hS,al⟩:=h;exact .tup hS (al.deep λ_ _ q=>q.deep)
def Qn(y:List Nat×List Nat):Ri:=.tuple [E1 y.1,E1 y.2]
theorem xT{k:Nat}{α:Type}{f:α->Ri}{l:List α}(h:∀x∈l,(f x).depth≤k):(Wq (l.map f)).depth≤k+1:=by
 show Wd (l.map f)+1≤k+1;refine VY (mo λd hd=>?_);obtain⟨x,hx,rfl⟩:=QU.mp hd;exact h x hx
def b9:Wk:=(0,0,(0,1))
def jy(ws:List Wk)(y:List Nat×List Nat):List R:=y.2.map λi=>(ws.getD i b9).2.2
def cc(ws:List Wk)(y:List Nat×List Nat):R:=cA (fQ (jy ws y)) (1,(y.1.length:Int))
def kC(r:R)(ss:List R)(ts:List Nat):List R:=ts.foldl (λs t=>s.set t r) ss
def aU(ws:List Wk)(lys:List (List Nat×List Nat)):List R:=lys.foldl (λss y=>kC (cc ws y) ss y.1) (Rf 24 (0,1))
theorem nV(r:R):∀(ts:List Nat) (ss:List R),(kC r ss ts).length=ss.length
 | [],_=>rfl
 |t::ts,ss=>by
  show(kC r (ss.set t r) ts).length=_;rw[nV r ts,TY]
theorem gi(ws:List Wk):∀(lys:List (List Nat×List Nat)) (ss:List R),(lys.foldl (λss y=>kC (cc ws y) ss y.1) ss).length=ss.length
 | [],_=>rfl
 |y::r,ss=>by rw[R7,gi ws r,nV]
theorem JX{ws:List Wk}{n:Nat}{y:List Nat×List Nat}(ok:∀w∈ws,bn w)(h:mV ws.length y):∀r∈jy ws y,Wf 96 r:=by
 intro r hr;obtain⟨i,hi,rfl⟩:=QU.mp hr;have hl:=h.num i hi;rw[aB b9 (Qw hl)];exact(ok _ (RA hl)).am.wf
theorem EX(ok:∀w∈ws,bn w):vN ws (Qv 24)=ws.length:=by
 refine List.countP_eq_length.mpr λw hw=>iF.mpr ⟨w.1,QH.mpr ?_,?_⟩
 ·have:=(ok w hw).le;have:=(ok w hw).lt;omega
 ·unfold gE;rw[decide_eq_true (QB _),decide_eq_true (ok w hw).le];rfl
theorem Jp(ws:List Wk):vN ws []=0:=SK.mpr λw _ h=>by
 obtain⟨t,ht,_⟩:=iF.mp h
 cases ht
theorem Fb(h:zF ws ls p):jt ls.length p:=h.1.inn
def L9(K:Qu)(H:Hp)(v:V)(lys:List (List Nat×List Nat)):Prop:=∃p xs,v=.ref p/\bz K H p xs/\Als (Gv K H) xs lys
inductive oR(K:Qu)(vs:List V)(H:Hp)(Q:VK):Prop where
 |mk (v:V) (ws:List Wk) (h0_:vs=[v]) (h1_:eC K H v ws) (h2_:ws.length≤64) (h3_:(∀w∈ws,bn w)) (h4_:∀(x:V) (lys:List (List Nat×List Nat)) (H':Hp),aL H H'->L9 K H' x lys->gU ws (Qv 24) lys->(∀y∈lys,mV ws.length y)->lys.length≤64->Q x H'):oR K vs H Q
def yb(K:Qu):Sp:=λvs H Q _=>oR K vs H Q
inductive gw(K:Qu)(vs:List V)(H:Hp)(Q:VK):Prop where
 |mk (v x:V) (ws:List Wk) (y:List Nat×List Nat) (h0_:vs=[v,x]) (h1_:eC K H v ws) (h2_:ws.length≤64) (h3_:(∀w∈ws,bn w)) (h4_:Gv K H x y) (h5_:mV ws.length y) (h6_:GF K H Q (cc ws y)):gw K vs H Q
def lJ(K:Qu):Sp:=λvs H Q _=>gw K vs H Q
inductive gW(K:Qu)(vs:List V)(H:Hp)(Q:VK):Prop where
 |mk (v:V) (ws:List Wk) (h0_:vs=[v]) (h1_:eC K H v ws) (h2_:ws.length≤64) (h3_:(∀w∈ws,bn w)) (h4_:∀(p:Addr) (xs:List V) (lys:List (List Nat×List Nat)) (H':Hp),aL H H'->bz K H' p xs->Als (RV K H') xs (aU ws lys)->gU ws (Qv 24) lys->Q (.ref p) H'):gW K vs H Q
def mL(K:Qu):Sp:=λvs H Q _=>gW K vs H Q
def Gw(K:Qu)(H:Hp)(v:V)(e:Ln):Prop:=∃p,v=.ref p/\bz K H p [.int (e.1:Nat),.int (e.2:Nat)]
theorem Gw.mono{K:Qu}{H H':Hp}{v:V}{e:Ln}(h:Gw K H v e)(t:aI K H H'):Gw K H' v e:=let ⟨p,q,s⟩:=h;⟨p,q,t _ _ s⟩
def pF(K:Qu)(H:Hp)(v:V)(es:List Ln):Prop:=∃p xs,v=.ref p/\bz K H p xs/\Als (Gw K H) xs es
theorem pF.mono{K:Qu}{H H':Hp}{v:V}{es:List Ln}(h:pF K H v es)(t:aI K H H'):pF K H' v es:=let ⟨p,xs,e,s,a⟩:=h;⟨p,xs,e,t _ _ s,a.mono λ_ _ q=>q.mono t⟩
def n8(n:Nat)(f:Nat->Bool):List V:=(Qv n).map λj=>V.bl (f j)
theorem kD(n:Nat)(f:Nat->Bool):(n8 n f).length=n:=by unfold n8;rw[Qz,RL]
theorem gj(h:j<n):(n8 n f)[j]?=some (.bl (f j)):=by
 unfold n8;rw[QJ,Tr h];rfl
theorem BC(h:j<n):(n8 n f).set j (.bl true)=n8 n λi=>f i||decide (i=j):=by
 apply UV;intro i;by_cases hi:i<n
 ·rw[gj hi];by_cases c:i=j
  ·subst c;rw[Uc (by rw[kD];exact h),decide_eq_true Z,SZ]
  ·rw[SG (λz=>c z.symm),gj hi,decide_eq_false c,W8]
 ·rw[R5 (by rw[TY,kD];omega),R5 (by rw[kD];omega)]
structure pE(H:Hp)(l:Addr)(rows:List Addr)(n:Nat)(L:Nat->Nat->Bool):Prop where
 top:H l=some (.lst (rows.map V.ref))
 len:rows.length=n
 nd:rows.Nodup
 ne:l∉rows
 row:∀i r,rows[i]?=some r->H r=some (.lst (n8 n (L i)))
theorem pE.same(h:pE H l rows n L)(s:aL H H'):pE H' l rows n L:=⟨s _ _ h.top,h.len,h.nd,h.ne,λi r e=>s _ _ (h.row i r e)⟩
theorem pE.congr(h:pE H l rows n L)(e:∀i j,i<n->j<n->L i j=L' i j):pE H l rows n L':=⟨h.top,h.len,h.nd,h.ne,λi r q=>by
 rw[h.row i r q];have hi:i<n:=by rw[←h.len];exact(QM.mp q).1
 congr 2
 exact UA λj hj=>by rw[e i j hi (QH.mp hj)]⟩
theorem pE.set(h:pE H l rows n L)(e:rows[u]?=some r)(hv:v<n):pE (upd H r (.lst ((n8 n (L u)).set v (.bl true)))) l rows n (λi j=>L i j||(decide (i=u)&&decide (j=v))):=by
 have mr:=QC e;refine⟨by rw[aJ (show l≠r from λz=>h.ne (by rw[z];exact mr))];exact h.top,h.len,h.nd,h.ne,λi r' e'=>?_⟩;by_cases c:i=u
 ·subst c;rw[e] at e'
  cases e'
  rw[ao,BC hv]
  congr 3
  funext j
  rw[decide_eq_true Z,YB]
 ·have n1:r'≠r:=λz=>by
   subst z;obtain⟨h1,q1⟩:=QM.mp e;obtain⟨h2,q2⟩:=QM.mp e';have:=Sq.mp h.nd;rcases WS i u with z|z|z
   ·exact this i u h2 h1 z (by rw[q1,q2])
   ·exact c z
   ·exact this u i h1 h2 z (by rw[q1,q2])
  rw[aJ n1,h.row i r' e']
  congr 3
  funext j
  rw[decide_eq_false c,U0,W8]
structure Kp(rows:List Addr)(H H':Hp):Prop where
 keep:∀b o,b∉rows->H b=some o->H' b=some o
 ls:∀r∈rows,∃xs,H r=some (.lst xs)
 ls':∀r∈rows,∃xs,H' r=some (.lst xs)
theorem Kp.trans(a:Kp rows H H1)(b:Kp rows H1 H2):Kp rows H H2:=⟨λc o n e=>b.keep c o n (a.keep c o n e),a.ls,b.ls'⟩
theorem Kp.same(s:aL H H')(h:∀r∈rows,∃xs,H r=some (.lst xs)):Kp rows H H':=⟨λc o _ e=>s _ _ e,h,λr m=>let ⟨xs,e⟩:=h r m;⟨xs,s _ _ e⟩⟩
theorem Kp.up(m:r∈rows)(h:∀r∈rows,∃xs,H r=some (.lst xs))(ys:List V):Kp rows H (upd H r (.lst ys)):=⟨λc o n e=>by rw[aJ (show c≠r from λz=>n (by rw[z];exact m))];exact e,h,λq mq=>by
 by_cases c:q=r
 ·subst c;exact⟨_,ao⟩
 ·rw[aJ c];exact h q mq⟩
theorem pE.ls(h:pE H l rows n L):∀r∈rows,∃xs,H r=some (.lst xs):=λr m=>by
 obtain⟨i,hi,e⟩:=Sa.mp m;exact⟨_,h.row i r (by rw[Qw hi,e])⟩
theorem aI.kp{K:Qu}{rows:List Addr}{H H':Hp}(k:Kp rows H H'):aI K H H':=λp xs h=>by
 rcases h with h|h
 ·have n:p∉rows:=λm=>by
   obtain⟨ys,e⟩:=k.ls p m;rcases h with h | ⟨o,h⟩<;>rw[e] at h<;>cases h
  rcases h with h | ⟨o,h⟩
  ·exact .inl (.inl (k.keep _ _ n h))
  ·exact .inl (.inr ⟨o,k.keep _ _ n h⟩)
 ·exact .inr h
inductive iA(K_:Qu)(vs:List V)(H:Hp)(Q:VK):Prop where
 |mk (n:Nat) (h0_:vs=[.int n]) (h1_:n≤64) (h2_:∀(l:Addr) (rows:List Addr) (H':Hp),aL H H'->H l=none->(∀r∈rows,H r=none)->pE H' l rows n (λ_ _=>false)->Q (.ref l) H'):iA K_ vs H Q
def nO(K_:Qu):Sp:=λvs H Q _=>iA K_ vs H Q
inductive k9(K:Qu)(vs:List V)(H:Hp)(Q:VK):Prop where
 |mk (l:Addr) (v:V) (rows:List Addr) (n:Nat) (L:Nat->Nat->Bool) (a b:Nat) (h0_:vs=[.ref l,v]) (h1_:pE H l rows n L) (h2_:Gw K H v (a,b)) (h3_:a<n) (h4_:b<n) (h5_:n≤64) (h6_:∀H',Kp rows H H'->pE H' l rows n (mT L a b)->Q .non H'):k9 K vs H Q
def tR(K:Qu):Sp:=λvs H Q _=>k9 K vs H Q
inductive hG(K:Qu)(vs:List V)(H:Hp)(Q:VK):Prop where
 |mk (n:Nat) (v:V) (es:List Ln) (h0_:vs=[.int n,v]) (h1_:pF K H v es) (h2_:gg n es) (h3_:n≤64) (h4_:∀(l:Addr) (rows:List Addr) (L:Nat->Nat->Bool) (H':Hp),aL H H'->pE H' l rows n L->Gy n es L->Q (.ref l) H'):hG K vs H Q
def mR(K:Qu):Sp:=λvs H Q _=>hG K vs H Q
structure PQ(w:Wk):Prop where
 l1:w.1<24
 l2:w.2.1<24
 am:Wf 98 w.2.2
def vF(ws:List Wk)(j:Nat):Int:=((ws.getD j b9).1:Nat)
def vL(ws:List Wk)(j:Nat):Int:=-((ws.getD j b9).2.1:Nat)
structure eD(ws:List Wk)(es:List Ln)(f l:Nat->Int):Prop where
 a:zn ws.length es (vF ws) f
 b:zn ws.length (xW es) (vL ws) (λi=>- l i)
theorem zO{n:Nat}{v:Nat->Int}{P:Nat->Prop}:∀k,k≤n->(∀j,j<k->¬P j)∨∃M,(∀j,j<k->P j->v j≤M)/\∃j,j<k/\P j/\M=v j
 |0,_=>.inl λj hj=>absurd hj (Ta _)
 |k+1,hk=>by
  rcases zO (n:=n) (v:=v) (P:=P) k ω with h | ⟨M,h1,j,h2,h3,h4⟩
  ·by_cases c:P k
   ·refine .inr ⟨v k,λj hj pj=>?_,k,ω,c,Z⟩;by_cases z:j=k
    ·subst z;exact V2 _
    ·exact absurd pj (h j ω)
   ·refine .inl λj hj pj=>?_
    by_cases z:j=k
    ·subst z;exact c pj
    ·exact h j ω pj
  ·by_cases c:P k/\M<v k
   ·refine .inr ⟨v k,λi hi pi=>?_,k,ω,c.1,Z⟩;by_cases z:i=k
    ·subst z;exact V2 _
    ·have:=h1 i ω pi;have:=c.2;omega
   ·refine .inr ⟨M,λi hi pi=>?_,j,ω,h3,h4⟩;by_cases z:i=k
    ·subst z;by_cases y:v i≤M
     ·exact y
     ·exact absurd ⟨pi,ω⟩ c
    ·exact h1 i ω pi
theorem zn.ex(n:Nat)(es:List Ln)(v:Nat->Int):∃F,zn n es v F:=by
 have h:∀i,∃M:Int,i<n->(∀j,j<n->(j=i∨fM es j i)->v j≤M)/\∃j,j<n/\(j=i∨fM es j i)/\M=v j:=λi=>by
  rcases zO (n:=n) (v:=v) (P:=λj=>j=i∨fM es j i) n (QB _) with h | ⟨M,h1,h2⟩
  ·exact⟨0,λhi=>absurd (.inl Z) (h i hi)⟩
  ·exact⟨M,λ_=>⟨h1,h2⟩⟩
 exact⟨λi=>Xq (h i),⟨λi j hi hj z=>(UU (h i) hi).1 j hj z,λi hi=>(UU (h i) hi).2⟩⟩
theorem eD.ex(ws:List Wk)(es:List Ln):∃f l,eD ws es f l:=by
 obtain⟨f,hf⟩:=zn.ex ws.length es (vF ws);obtain⟨g,hg⟩:=zn.ex ws.length (xW es) (vL ws);refine⟨f,λi=>- g i,hf,?_⟩;have:(λi=>- - g i)=g:=funext λi=>Int.neg_neg _
 rw[this];exact hg
def uO(ws:List Wk)(f l:Nat->Int)(i:Nat):Ri:=.tuple [.int (f i),.int (l i),dR (ws.getD i b9).2.2]
def f6(n:Nat)(f l:Nat->Int):Option Nat:=(Qv n).find? λi=>decide (l i<f i)
def rq(ws:List Wk)(f l:Nat->Int):Ri:=match f6 ws.length f l with
 |some i=>.int i
 |none=>.tuple ((Qv ws.length).map (uO ws f l))
theorem Dr(hi:i<n)(h:l i<f i)(b:∀j,j<i->f j≤l j):f6 n f l=some i:=by
 unfold f6;rw[W9];refine⟨decide_eq_true h,QH.mpr hi,λj hj=>?_⟩;have:=b j hj;rw[decide_eq_false ω];rfl
theorem Ds(b:∀j,j<n->f j≤l j):f6 n f l=none:=by
 unfold f6;rw[Vx];intro j hj;have:=b j (QH.mp hj);rw[decide_eq_false ω];simp
theorem Dk{K:Qu}{H H':Hp}(t:aI K H H'){ws:List Wk}{f l:Nat->Int}{i:Nat}{v:V}(h:bX K H v (uO ws f l i)):bX K H' v (uO ws f l i):=by
 unfold uO at h ⊢
 cases h with
 |tup e h=>
  cases h with
  |cons h1 h=>
   cases h with
   |cons h2 h=>
    cases h with
    |cons h3 h=>
     cases h
     cases h1
     cases h2
     refine .tup (t _ _ e) (.cons (.int _) (.cons (.int _) (.cons ?_ .nil)))
     cases h3 with
     |tup e3 h3=>
      cases h3 with
      |cons a h3=>
       cases h3 with
       |cons b h3=>cases h3;cases a;cases b;exact .tup (t _ _ e3) (.cons (.int _) (.cons (.int _) .nil))
theorem uS{K:Qu}{H H':Hp}(t:aI K H H'){ws:List Wk}{f l:Nat->Int}:∀{zs:List Nat} {vs:List V},bx K H vs (zs.map (uO ws f l))->bx K H' vs (zs.map (uO ws f l))
 | [],_,.nil=>.nil
 |_::_,_,.cons h r=>.cons (Dk t h) (uS t r)
theorem mw{K:Qu}{H:Hp}:∀{xs ys:List V} {ds es:List Ri},bx K H xs ds->bx K H ys es->bx K H (xs++ys) (ds++es)
 |_,_,_,_,.nil,h=>h
 |_,_,_,_,.cons a t,h=>.cons a (mw t h)
theorem gP(hx:H x=none)(kp:∀b o,b≠x->upd H x o0 b=some o->H' b=some o):aL H (xq H' x):=λb o e=>by
 have nb:b≠x:=aX e hx;unfold xq;rw[if_neg nb];exact kp b o nb (by rw[aJ nb];exact e)
theorem JO(n:d≠x):xq H x d=H d:=by unfold xq;rw[if_neg n]
def xN(K:Qu)(H:Hp)(v:V)(ws:List Wk)(es:List Ln):Prop:=∃p a b,v=.ref p/\bz K H p [a,b]/\eC K H a ws/\pF K H b es
theorem xN.mono{K:Qu}{H H':Hp}{v:V}{ws:List Wk}{es:List Ln}(h:xN K H v ws es)(t:aI K H H'):xN K H' v ws es:=let ⟨p,a,b,e,s,w,n⟩:=h;⟨p,a,b,e,t _ _ s,w.mono t,n.mono t⟩
inductive oS(K_:Qu)(vs:List V)(H:Hp)(Q:VK):Prop where
 |mk (v:V) (h0_:vs=[v]) (h1_:((∃i,v=.int i)∨∃x,v=.str x)) (h2_:Q v H):oS K_ vs H Q
def yc(K_:Qu):Sp:=λvs H Q _=>oS K_ vs H Q
inductive oU(K_:Qu)(C:Addr)(vs:List V)(H:Hp)(Q:VK):Prop where
 |mk (a:Addr) (n:Int) (h0_:vs=[.ref a,.int n]) (h1_:H a=some (jC a C none)) (h2_:∀d,H d=none->d≠a->Q .non (upd (upd H a (jC a C (some d))) d (dO d [("work",.int n)]))):oU K_ C vs H Q
def yd(K_:Qu)(C:Addr):Sp:=λvs H Q _=>oU K_ C vs H Q
structure JY(ws:List Wk)(es:List Ln):Prop where
 few:ws.length≤20
 ok:∀w∈ws,PQ w
 es:gg ws.length es
def mD(n:Nat)(es:List Ln):Prop:=∃ps:Nat->Nat,(∀i,i<n->ps i<n)/\∀a b,(a,b)∈es->ps a<ps b
theorem Ht{os:List Nat}(nd:os.Nodup)(hl:os.length=n)(all:∀x,x∈os↔x<n):∃ps:Nat->Nat,(∀i,i<n->ps i<n)/\∀j x,os[j]?=some x->ps x=j:=by
 have h:∀x,∃j:Nat,x∈os->os[j]?=some x:=λx=>by
  by_cases m:x∈os
  ·obtain⟨j,hj,e⟩:=Sa.mp m;exact⟨j,λ_=>by rw[Qw hj,e]⟩
  ·exact⟨0,λz=>absurd z m⟩
 refine⟨λx=>Xq (h x),λi hi=>?_,λj x e=>?_⟩
 ·have:=UU (h i) ((all i).mpr hi);rw[←hl];exact(QM.mp this).1
 ·have q:=UU (h x) (QC e);obtain⟨h1,e1⟩:=QM.mp q;obtain⟨h2,e2⟩:=QM.mp e;have pw:=Sq.mp nd;rcases WS (Xq (h x)) j with z|z|z
  ·exact absurd (e1.trans e2.symm) (pw _ _ h1 h2 z)
  ·exact z
  ·exact absurd (e2.trans e1.symm) (pw _ _ h2 h1 z)
def Nu(es:List Ln):Ri:=.tuple (es.map λe=>.tuple [.int (e.1:Nat),.int (e.2:Nat)])
theorem pF.deep{K:Qu}{H:Hp}{v:V}{es:List Ln}(h:pF K H v es):bX K H v (Nu es):=by
 obtain⟨p,xs,rfl,hS,al⟩:=h;exact .tup hS (al.deep λ_ _ q=>by obtain⟨p,rfl,s⟩:=q;exact .tup s (.cons (.int _) (.cons (.int _) .nil)))
theorem xI(h:DE r):Bq 5822723907000000000 2000000014 r:=by
 have a:=h.top;have b:=h.top';have c:=h.bot;refine⟨ω,h.wf.cop,h.dvd,?_⟩;have:2000000014*1≤2000000014*r.2.natAbs:=Wh _ ω;omega
theorem zZ{D N:Nat}(hD:0<D):∀{rs:List R},(∀r∈rs,Bq D N r)->∀{a:R} {M:Nat},Bq D M a->Bq D (M+N*rs.length) (rs.foldl bQ a)
 | [],_,a,M,h=>by simpa using h
 |r::rs,hr,a,M,h=>by
  have:=zZ hD (λq hq=>hr q (QP _ hq)) (h.plus hD (hr r QL));rw[R7,Rh,Zn];refine this.mono (Sz _) ω
theorem FC:Bq D 0 ((0,1):R):=⟨δ,δ,⟨(D:Int),by show(D:Int)=1*D;omega⟩,by show 0≤_;exact Re _⟩
theorem qH(hD:0<D)(h:∀r∈rs,Bq D N r):Bq D (N*rs.length) (fQ rs):=by
 have:=zZ hD h (FC (D:=D));rw[Wp] at this;exact this
theorem Eb(ok:∀w∈ws,bn w)(hw:ws.length≤10)(lok:mV ws.length y):Bq (5822723907000000000*y.1.length) 20000000140 (cc ws y):=by
 have am:∀r∈jy ws y,Bq 5822723907000000000 2000000014 r:=λr hr=>by
  obtain⟨i,hi,rfl⟩:=QU.mp hr;have hl:=lok.num i hi;rw[aB b9 (Qw hl)];exact xI (ok _ (RA hl)).am
 have la:(jy ws y).length=y.2.length:=Qz _;have len:=lok.len;have pos:=lok.pos;have s:=(qH δ am).mono (Sz _) (show 2000000014*(jy ws y).length≤20000000140 by omega);have o:Bq y.1.length 1 ((1,(y.1.length:Int)):R):=⟨by show(0:Int)<_;omega,by simp,Int.dvd_refl _,by show(1:Int).natAbs≤1*((y.1.length:Int)).natAbs;omega⟩;exact s.times o
inductive qx(K:Qu)(vs:List V)(H:Hp)(Q:VK):Prop where
 |mk (v w:V) (r q:R) (n m:Nat) (h0_:vs=[v,w]) (h1_:RV K H v r) (h2_:RV K H w q) (h3_:Wf n r) (h4_:Wf m q) (h5_:n+m+1≤3000) (h6_:GF K H Q (cY r q)):qx K vs H Q
def Ah(K:Qu):Sp:=λvs H Q _=>qx K vs H Q
inductive mG(K:Qu)(vs:List V)(H:Hp)(Q:VK):Prop where
 |mk (v w:V) (r q:R) (n m:Nat) (h0_:vs=[v,w]) (h1_:RV K H v r) (h2_:RV K H w q) (h3_:Wf n r) (h4_:Wf m q) (h5_:n+m+1≤3000) (h6_:Q (.bl (dI r q)) H):mG K vs H Q
def nR(K:Qu):Sp:=λvs H Q _=>mG K vs H Q
theorem Dl(h:Q1 a b=1):Q1 (-a) b=1:=by rw[Int.neg_gcd];exact h
theorem JS:∀m,m<25->0<m->5822723907000000000*m∣31176196503125834160000000000:=δ
def bo(ws:List Wk)(i:Nat):Nat:=(ws.getD i b9).2.1
def gO(ws:List Wk)(l:List Nat):List Nat:=l.filter λi=>l.all λj=>decide (bo ws i≤bo ws j)
open Classical in
noncomputable def gm (es:List Ln) (i j:Nat):Bool:=decide (fM es j i)
open Classical in
theorem lV:gm es i j=true↔fM es j i:=by unfold gm;exact decide_eq_true_iff
noncomputable def kM (ws:List Wk) (es:List Ln) (l:List Nat):List Nat:=(gO ws l).filter λi=>!(gO ws l).any (gm es i)
noncomputable def iU (ws:List Wk) (es:List Ln) (l:List Nat):Nat:=(kM ws es l).getD 0 0
def ck(n:Nat)(come:List Nat):List Nat:=(Qv n).filter λi=>!come.contains i
noncomputable def aS (ws:List Wk) (es:List Ln):Nat->List Nat
 |0=>[]
 |k+1=>aS ws es k++[iU ws es (ck ws.length (aS ws es k))]
theorem EZ{i:Nat}(h:(bF ls)[i]?=some x):∃n,ls[i]?=some n/\x=.int (n:Nat):=by
 unfold bF at h;rw[QJ] at h;obtain⟨n,hn,rfl⟩:=RI.mp h;exact⟨n,hn,Z⟩
theorem oE(f:Nat->Nat):∀(l:List Nat),l≠[]->∃i∈l,∀j∈l,f i≤f j
 | [],h=>absurd Z h
 | [a],_=>⟨a,QL,λj hj=>by rw[QK] at hj;rw[hj];exact QB _⟩
 |a::b::l,_=>by
  obtain⟨i,hi,m⟩:=oE f (b::l) (by simp);by_cases c:f a≤f i
  ·refine⟨a,QL,λj hj=>?_⟩;rcases QR.mp hj with z|z
   ·rw[z];exact QB _
   ·exact Rm c (m j z)
  ·refine⟨i,QP _ hi,λj hj=>?_⟩;rcases QR.mp hj with z|z
   ·rw[z];omega
   ·exact m j z
theorem gN:i∈gO ws l↔i∈l/\∀j∈l,bo ws i≤bo ws j:=by
 unfold gO;rw[Q3,Sk];exact and_congr_right λ_=>forall_congr' λj=>forall_congr' λ_=>decide_eq_true_iff
theorem fM.rank{es:List Ln}{ps:Nat->Nat}(h:∀a b,(a,b)∈es->ps a<ps b)(r:fM es a b):ps a<ps b:=by
 induction r with
 |one m=>exact h _ _ m
 |step m _ ih=>exact XM (h _ _ m) ih
theorem Fj(rk:mD n es)(h:l≠[]):kM ws es l≠[]:=by
 obtain⟨ps,_,hp⟩:=rk;obtain⟨i,hi,m⟩:=oE (bo ws) l h;have hl:gO ws l≠[]:=λz=>by
  have:=gN.mpr ⟨hi,m⟩;rw[z] at this;cases this
 obtain⟨j,hj,q⟩:=oE ps _ hl;intro z;have:j∈kM ws es l:=by
  unfold kM;rw[Q3];refine⟨hj,?_⟩;rw[UW,VF];intro b hb c;have:=fM.rank hp (lV.mp c);have:=q b hb;omega
 rw[z] at this;cases this
theorem m8(rk:mD n es)(h:l≠[]):(kM ws es l)[0]?=some (iU ws es l):=by
 have:=Fj (ws:=ws) rk h;unfold iU
 cases e:kM ws es l with
 |nil=>exact absurd e this
 |cons a r=>rfl
theorem oB(rk:mD n es)(h:l≠[]):iU ws es l∈l:=by
 have a:=QC (m8 (ws:=ws) rk h);exact(gN.mp (Q3.mp a).1).1
theorem wu(n:Nat)(c:List Nat):(ck n c).Nodup:=Ut _ Xr
theorem fe:i∈ck n c↔i<n/\i∉c:=by
 unfold ck;rw[Q3,QH,UW,Uu,decide_eq_false_iff_not]
theorem xR(n:Nat)(c:List Nat)(x:Nat):ck n (c++[x])=(ck n c).filter λi=>decide (i≠x):=by
 unfold ck;rw[YS];refine WT λi _=>?_
 rw[Su,Ra,UW,UW,Uu,Uu,decide_eq_false_iff_not,decide_eq_false_iff_not,decide_eq_true_iff,Q6,QK];exact⟨λh=>⟨λz=>h (.inr z),λz=>h (.inl z)⟩,λh z=>z.elim h.2 h.1⟩
theorem uz:∀{l:List Nat} {j x:Nat},l.Nodup->l[j]?=some x->l.eraseIdx j=l.filter (λi=>decide (i≠x))/\(l.eraseIdx j).length+1=l.length
 | [],j,x,_,h=>by simp at h
 |a::l,0,x,nd,h=>by
  have e:a=x:=by simpa using h
  subst e;obtain⟨n1,n2⟩:=RO.mp nd;refine⟨?_,Z⟩;have e1:(a::l).filter (λi=>decide (i≠a))=l.filter (λi=>decide (i≠a)):=SE (by simp);have e2:l.filter (λi=>decide (i≠a))=l:=RP.mpr λi hi=>decide_eq_true λz=>n1 (by rw[←z];exact hi)
  rw[e1,e2];rfl
 |a::l,j+1,x,nd,h=>by
  obtain⟨n1,n2⟩:=RO.mp nd;have h':l[j]?=some x:=by simpa using h
  obtain⟨e1,e2⟩:=uz n2 h';have ne:a≠x:=λz=>n1 (by rw[z];exact QC h')
  have e3:(a::l).filter (λi=>decide (i≠x))=a::l.filter (λi=>decide (i≠x)):=Sm (decide_eq_true ne);rw[Xn,e3,←e1];refine⟨Z,?_⟩;rw[Rh,Rh,e2]
theorem C6{l:List Nat}{j x:Nat}(nd:l.Nodup)(h:l[j]?=some x):∀m,m<j->l[m]?≠some x:=λm hm e=>by
 obtain⟨h1,e1⟩:=QM.mp e;obtain⟨h2,e2⟩:=QM.mp h;exact Sq.mp nd m j h1 h2 hm (e1.trans e2.symm)
structure wc(ws:List Wk)(es:List Ln)(k:Nat):Prop where
 len:(aS ws es k).length=k
 lt:∀i∈aS ws es k,i<ws.length
 wl:(ck ws.length (aS ws es k)).length+k=ws.length
theorem Ch(ws:List Wk)(es:List Ln):wc ws es 0:=by
 refine⟨Z,λi hi=>absurd (show i∈([]:List Nat) from hi) (by simp),?_⟩;show(ck ws.length []).length+0=_;unfold ck;have e:(Qv ws.length).filter (λi=>!([]:List Nat).contains i)=Qv ws.length:=RP.mpr λi _=>Z
 rw[e,RL];rfl
theorem wc.ne(h:wc ws es k)(hk:k<ws.length):ck ws.length (aS ws es k)≠[]:=λz=>by
 have:=h.wl;rw[z] at this;have e:0+k=ws.length:=this;omega
theorem wc.step(h:wc ws es k)(rk:mD ws.length es)(hk:k<ws.length):wc ws es (k+1)/\∃j:Nat,(ck ws.length (aS ws es k))[j]?=some (iU ws es (ck ws.length (aS ws es k)))/\(ck ws.length (aS ws es k)).eraseIdx j=ck ws.length (aS ws es (k+1)):=by
 have m:=oB (ws:=ws) rk (h.ne hk);obtain⟨j,hj⟩:=Va m;obtain⟨e1,e2⟩:=uz (wu _ _) hj;have e3:(ck ws.length (aS ws es k)).eraseIdx j=ck ws.length (aS ws es (k+1)):=by
  rw[e1];exact(xR _ _ _).symm
 refine⟨⟨?_,λi hi=>?_,?_⟩,j,hj,e3⟩
 ·show(aS ws es k++[_]).length=k+1;rw[Q2,h.len];rfl
 ·rcases Q6.mp (show i∈aS ws es k++[_] from hi) with z|z
  ·exact h.lt i z
  ·rw[QK.mp z];exact(fe.mp m).1
 ·rw[←e3];have:=h.wl;omega
theorem dS{ws:List Wk}{es:List Ln}(rk:mD ws.length es):∀k,k≤ws.length->wc ws es k
 |0,_=>Ch ws es
 |k+1,h=>((dS rk k (Nat.le_of_succ_le h)).step rk h).1
def PN(es:List Ln)(w:Nat)(fd:List Nat)(i:Nat):Bool:=decide ((es.getD i (0,0)).2=w)&&!fd.contains (es.getD i (0,0)).1
def Qp(es:List Ln)(w:Nat)(fd:List Nat):List Nat:=(Qv es.length).filter (PN es w fd)
def MG(es:List Ln)(is:List Nat):List Nat:=is.map λi=>(es.getD i (0,0)).1
structure Qc(es:List Ln)(w n:Nat)(is:List Nat):Prop where
 nd:is.Nodup
 lt:∀i∈is,i<es.length
 sound:∀x∈MG es is,fM es x w
 base:∀a,(a,w)∈es->a∈MG es is
 done:∀j x,j<n->(MG es is)[j]?=some x->∀a,(a,x)∈es->a∈MG es is
structure eT(r:R):Prop where
 bq:Bq 31176196503125834160000000000 34359738368 r
 nn:0≤r.1
theorem eT.wf(h:eT r):Wf 130 r:=h.bq.wf δ δ δ
theorem eT.red(h:eT r):gG r:=h.bq.red
theorem im:eT (0,1):=⟨FC.mono (Sz _) δ,V2 _⟩
theorem jO(h:0<r.2):0≤val r↔0≤r.1:=by
 have zz:val ((0,1):R)=0:=(km (r:=(0,1)) δ).mpr Z;rw[←zz,←jg (r:=r) (q:=(0,1)) h δ,ul];show 0*r.2≤r.1*1↔_;omega
theorem CM{r:R}(hp:0<r.2)(hn:0≤r.1):r.1.natAbs≤N*r.2.natAbs↔val r≤(N:Rat):=by
 have e:val (((N:Nat):Int),1)=(N:Rat):=by
  show(((N:Nat):Int):Rat)/((1:Int):Rat)=_;rw[show((1:Int):Rat)=1 from Z];have:(((N:Nat):Int):Rat)=(N:Rat):=Z;rw[this];grind
 rw[←e,←jg (r:=(((N:Nat):Int),1)) (q:=r) (by show(0:Int)<1;decide) hp,ul];show _↔r.1*1≤(N:Int)*r.2;have h1:((r.1.natAbs:Nat):Int)=r.1:=ω
 have h2:((r.2.natAbs:Nat):Int)=r.2:=ω
 rw[←Int.ofNat_le,V7,h1,h2,Int.mul_one]
def fL(a b:R):R:=if dI b a=true then b else a
theorem rR(ha:eT a)(hb:eT b):eT (fL a b):=by
 unfold fL
 split
 ·exact hb
 ·exact ha
theorem JA(ha:eT a)(hb:eT b):val (fL a b)≤val a/\val (fL a b)≤val b:=by
 unfold fL
 cases c:dI b a with
 |true=>
  rw[if_pos Z];have:=(nA hb.bq.pos ha.bq.pos).mp c;exact⟨TK this,RM⟩
 |false=>
  rw[if_neg Q4];exact⟨RM,(jg hb.bq.pos ha.bq.pos).mp c⟩
theorem z9(hx:eT x)(ha:eT a)(h:val a≤val x):eT (cY x a):=by
 have b:=Bq.minus δ hx.bq ha.bq;have ev:val (cY x a)=val x-val a:=gH hx.bq.pos ha.bq.pos;have na:=(jO ha.bq.pos).mpr ha.nn;have nn:0≤(cY x a).1:=(jO b.pos).mp (by rw[ev];grind);refine⟨⟨b.pos,b.cop,b.dvd,(CM b.pos nn).mpr ?_⟩,nn⟩;have:=(CM hx.bq.pos hx.nn).mp hx.bq.le;rw[ev];grind
abbrev Pc:=Nat×R
abbrev zG:=List R×R×List Pc
def cE(ws:List Wk)(t:Nat)(st:zG)(i:Nat):zG:=
 if gE (ws.getD i b9) t=true/\fL (st.1.getD i (0,1)) st.2.1≠(0,1) then(st.1.set i (cY (st.1.getD i (0,1)) (fL (st.1.getD i (0,1)) st.2.1)),cY st.2.1 (fL (st.1.getD i (0,1)) st.2.1),st.2.2++[(i,fL (st.1.getD i (0,1)) st.2.1)]) else st
def d9(ws:List Wk)(ord:List Nat)(t:Nat)(lf:List R)(sp:R):zG:=ord.foldl (cE ws t) (lf,sp,[])
def bg(ws:List Wk)(ord:List Nat)(ss:List R):Nat->List R×List (List Pc)
 |0=>(ws.map λw=>w.2.2,[])
 |t+1=>((d9 ws ord t (bg ws ord ss t).1 (ss.getD t (0,1))).1,(bg ws ord ss t).2++[(d9 ws ord t (bg ws ord ss t).1 (ss.getD t (0,1))).2.2])
structure xQ(n:Nat)(st:zG):Prop where
 len:st.1.length=n
 lf:∀r∈st.1,eT r
 rm:eT st.2.1
 pc:∀p∈st.2.2,p.1<n/\eT p.2
theorem c6{n:Nat}{l:List R}(h:∀r∈l,eT r)(i:Nat):eT (l.getD i (0,1)):=by
 rw[QQ]
 cases e:l[i]? with
 |none=>exact im
 |some r=>exact h r (QC e)
theorem xQ.step{st:zG}(h:xQ n st)(hi:i<n):xQ n (cE ws t st i)/\(cE ws t st i).2.2.length≤st.2.2.length+1:=by
 unfold cE
 split
 ·have a:=c6 (n:=n) h.lf i;have le:=JA a h.rm;have la:=rR a h.rm;refine⟨⟨by rw[TY];exact h.len,λr hr=>?_,z9 h.rm la le.2,λp hp=>?_⟩,by rw[Q2];exact QB _⟩
  ·rcases WG hr with z|z
   ·exact h.lf r z
   ·rw[z];exact z9 a la le.1
  ·rcases Q6.mp hp with z|z
   ·exact h.pc p z
   ·rw[QK.mp z];exact⟨hi,la⟩
 ·exact⟨h,Ui _⟩
theorem xQ.fold{ws:List Wk}{n t:Nat}:∀{ord:List Nat} {st:zG},xQ n st->(∀i∈ord,i<n)->xQ n (ord.foldl (cE ws t) st)/\(ord.foldl (cE ws t) st).2.2.length≤st.2.2.length+ord.length
 | [],st,h,_=>⟨h,QB _⟩
 |i::ord,st,h,hl=>by
  obtain⟨h1,l1⟩:=h.step (ws:=ws) (t:=t) (hl i QL);obtain⟨h2,l2⟩:=h1.fold (ws:=ws) (t:=t) (ord:=ord) λj hj=>hl j (QP _ hj)
  refine⟨h2,?_⟩;rw[R7,Rh];omega
structure P0(n m:Nat)(p:List R×List (List Pc)):Prop where
 len:p.1.length=n
 lf:∀r∈p.1,eT r
 pc:∀q∈p.2,q.length≤m/\∀x∈q,x.1<n/\eT x.2
theorem fJ{ws:List Wk}{ord:List Nat}{ss:List R}(okw:∀w∈ws,bn w)(ho:∀i∈ord,i<ws.length)(hs:∀r∈ss,eT r):∀t,P0 ws.length ord.length (bg ws ord ss t)/\(bg ws ord ss t).2.length=t
 |0=>by
  refine⟨⟨Qz _,λr hr=>?_,λq hq=>by cases hq⟩,Z⟩;obtain⟨w,hw,rfl⟩:=QU.mp hr;have a:=(okw w hw).am;exact⟨(xI a).mono ⟨5354228880,δ⟩ δ,by have:=a.top;omega⟩
 |t+1=>by
  obtain⟨h,hl⟩:=fJ okw ho hs t;obtain⟨d,dl⟩:=xQ.fold (ws:=ws) (t:=t) (ord:=ord) (st:=((bg ws ord ss t).1,ss.getD t (0,1),[])) ⟨h.len,h.lf,c6 (n:=0) hs t,λp hp=>by cases hp⟩ ho;refine⟨⟨d.len,d.lf,λq hq=>?_⟩,?_⟩
  ·rcases Q6.mp (show q∈(bg ws ord ss t).2++[_] from hq) with z|z
   ·exact h.pc q z
   ·rw[QK.mp z];refine⟨?_,d.pc⟩;have:(d9 ws ord t (bg ws ord ss t).1 (ss.getD t (0,1))).2.2.length≤0+ord.length:=dl;omega
  ·show((bg ws ord ss t).2++[_]).length=t+1;rw[Q2,hl];rfl
def oF(lf:List R):Option Nat:=(Qv lf.length).find? λi=>decide (lf.getD i (0,1)≠(0,1))
theorem yC(hi:i<lf.length)(h:lf.getD i (0,1)≠(0,1))(b:∀j,j<i->lf.getD j (0,1)=(0,1)):oF lf=some i:=by
 unfold oF;rw[W9];exact⟨decide_eq_true h,QH.mpr hi,λj hj=>by rw[decide_eq_false (λz=>z (b j hj))];rfl⟩
theorem yD(b:∀j,j<lf.length->lf.getD j (0,1)=(0,1)):oF lf=none:=by
 unfold oF;rw[Vx];intro j hj z;exact(of_decide_eq_true z) (b j (QH.mp hj))
noncomputable def dM (ws:List Wk) (es:List Ln) (ss:List R):List R×List (List Pc):=bg ws (aS ws es ws.length) ss 24
def zq(K:Qu)(H:Hp)(v:V)(c:Pc):Prop:=∃p x,v=.ref p/\bz K H p [.int (c.1:Nat),x]/\RV K H x c.2
theorem zq.mono{K:Qu}{H H':Hp}{v:V}{c:Pc}(h:zq K H v c)(t:aI K H H'):zq K H' v c:=let ⟨p,x,e,s,r⟩:=h;⟨p,x,e,t _ _ s,r.mono t⟩
def zo(K:Qu)(H:Hp)(v:V)(q:List Pc):Prop:=∃p xs,v=.ref p/\bz K H p xs/\Als (zq K H) xs q
theorem zo.mono{K:Qu}{H H':Hp}{v:V}{q:List Pc}(h:zo K H v q)(t:aI K H H'):zo K H' v q:=let ⟨p,x,e,s,r⟩:=h;⟨p,x,e,t _ _ s,r.mono λ_ _ z=>z.mono t⟩
def Nt(c:Pc):Ri:=.tuple [.int (c.1:Nat),dR c.2]
def Nq(q:List Pc):Ri:=.tuple (q.map Nt)
def MH(ps:List (List Pc)):Ri:=.tuple (ps.map Nq)
theorem zq.deep{K:Qu}{H:Hp}{v:V}{c:Pc}(h:zq K H v c):bX K H v (Nt c):=by
 obtain⟨p,x,rfl,hS,hx⟩:=h;exact .tup hS (.cons (.int _) (.cons hx.deep .nil))
theorem zo.deep{K:Qu}{H:Hp}{v:V}{q:List Pc}(h:zo K H v q):bX K H v (Nq q):=by
 obtain⟨p,xs,rfl,hS,al⟩:=h;exact .tup hS (al.deep λ_ _ z=>z.deep)
noncomputable def Pf (ws:List Wk) (es:List Ln) (ss:List R):Ri:=match oF (dM ws es ss).1 with
 |some i=>.int (i:Nat)
 |none=>MH (dM ws es ss).2
def zx(K:Qu)(H:Hp)(v:V)(rs:List R):Prop:=∃p xs,v=.ref p/\bz K H p xs/\Als (RV K H) xs rs
theorem zx.mono{K:Qu}{H H':Hp}{v:V}{rs:List R}(h:zx K H v rs)(t:aI K H H'):zx K H' v rs:=let ⟨p,xs,e,s,a⟩:=h;⟨p,xs,e,t _ _ s,a.mono λ_ _ q=>q.mono t⟩
theorem zx.deep{K:Qu}{H:Hp}{v:V}{rs:List R}(h:zx K H v rs):bX K H v (.tuple (rs.map dR)):=by
 obtain⟨p,xs,rfl,hS,al⟩:=h;exact .tup hS (al.deep λ_ _ z=>z.deep)
structure Kf(N:Nat)(r:R):Prop where
 bq:Bq 31176196503125834160000000000 N r
 nn:0≤r.1
theorem Kf.am(h:Kf N r)(hN:N≤34359738368):eT r:=⟨h.bq.mono (Sz _) hN,h.nn⟩
theorem qJ(ok:∀w∈ws,bn w)(hw:ws.length≤10)(lok:mV ws.length y):Kf 20000000140 (cc ws y):=by
 have b:=Eb ok hw lok;refine⟨b.mono (JS _ (by have:=lok.few;omega) lok.pos) (QB _),?_⟩;have nn:0≤(fQ (jy ws y)).1:=by
  have go:∀(l:List R) (a:R),gG a->0≤a.1->(∀r∈l,DE r)->0≤(l.foldl bQ a).1:=by
   intro l
   induction l with
   |nil=>intro a _ na _;exact na
   |cons r l ih=>
    intro a ra na hl;have h:=hl r QL;have hr:gG r:=⟨by have:=h.bot;omega,h.wf.cop⟩;exact ih (bQ a r) (jj (Sx ra.pos hr.pos)) (Ex ra hr na (by have:=h.top;omega)) λq hq=>hl q (QP _ hq)
  refine go _ (0,1) ⟨δ,δ⟩ δ λr hr=>?_
  obtain⟨i,hi,rfl⟩:=QU.mp hr;have hl:=lok.num i hi;rw[aB b9 (Qw hl)];exact(ok _ (RA hl)).am
 show 0≤(fj ((fQ (jy ws y)).1*1) _).1;exact CH ω
theorem Ae{ws:List Wk}(ok:∀w∈ws,bn w)(hw:ws.length≤10):∀{lys:List Ly} {ss:List R},(∀y∈lys,mV ws.length y)->(∀r∈ss,Kf 20000000140 r)->∀r∈lys.foldl (λss y=>kC (cc ws y) ss y.1) ss,Kf 20000000140 r
 | [],ss,_,h=>h
 |y::lys,ss,hl,h=>by
  refine Ae (lys:=lys) ok hw (λz hz=>hl z (QP _ hz)) ?_;have sp:=qJ ok hw (hl y QL);have go:∀(ts:List Nat) (ss:List R),(∀r∈ss,Kf 20000000140 r)->∀r∈kC (cc ws y) ss ts,Kf 20000000140 r:=by
   intro ts
   induction ts with
   |nil=>intro ss h;exact h
   |cons t ts ih=>
    intro ss h;refine ih (ss.set t (cc ws y)) λr hr=>?_
    rcases WG hr with z|z
    ·exact h r z
    ·rw[z];exact sp
  exact go y.1 ss h
inductive oQ(K:Qu)(vs:List V)(H:Hp)(Q:VK):Prop where
 |mk (v w:V) (r q:R) (h0_:vs=[v,w]) (h1_:RV K H v r) (h2_:RV K H w q) (h3_:eT r) (h4_:eT q) (h5_:∀u,RV K H u (fL r q)->Q u H):oQ K vs H Q
def ya(K:Qu):Sp:=λvs H Q _=>oQ K vs H Q
structure NU(K:Qu)(H:Hp)(v u:V)(ws:List Wk)(es:List Ln):Prop where
 wv:eC K H v ws
 w8:ws.length≤10
 ok:∀w∈ws,bn w
 lv:pF K H u es
 eok:gg ws.length es
 rk:mD ws.length es
 e8:es.length≤40
inductive gy(K:Qu)(vs:List V)(H:Hp)(Q:VK):Prop where
 |mk (v:V) (l wl:Addr) (ws:List Wk) (es:List Ln) (rows:List Addr) (L:Nat->Nat->Bool) (ls:List Nat) (h0_:vs=[v,.ref l,.ref wl]) (h1_:eC K H v ws) (h2_:ws.length≤10) (h3_:pE H l rows ws.length L) (h4_:Gy ws.length es L) (h5_:aZ K H wl (bF ls)) (h6_:(∀i∈ls,i<ws.length)) (h7_:ls≠[]) (h8_:ls.length≤10) (h9_:mD ws.length es) (h10_:∀H',aL H H'->Q (.int (iU ws es ls:Nat)) H'):gy K vs H Q
def lL(K:Qu):Sp:=λvs H Q _=>gy K vs H Q
inductive kY(K:Qu)(vs:List V)(H:Hp)(Q:VK):Prop where
 |mk (v u:V) (ws:List Wk) (es:List Ln) (h0_:vs=[v,u]) (h1_:NU K H v u ws es) (h2_:∀(l:Addr) (H':Hp),aL H H'->H l=none->H' l=some (.lst (bF (aS ws es ws.length)))->Q (.ref l) H'):kY K vs H Q
def tG(K:Qu):Sp:=λvs H Q _=>kY K vs H Q
inductive jL(K:Qu)(vs:List V)(H:Hp)(Q:VK):Prop where
 |mk (v u:V) (o lf:Addr) (ws:List Wk) (ord:List Nat) (xs:List V) (rs:List R) (t:Nat) (sp:R) (h0_:vs=[v,.ref o,.ref lf,.int (t:Nat),u]) (h1_:eC K H v ws) (h2_:H o=some (.lst (bF ord))) (h3_:H lf=some (.lst xs)) (h4_:o≠lf) (h5_:Als (RV K H) xs rs) (h6_:rs.length=ws.length) (h7_:(∀r∈rs,eT r)) (h8_:RV K H u sp) (h9_:eT sp) (h10_:(∀i∈ord,i<ws.length)) (h11_:ord.length≤10) (h12_:∀(w:V) (ys:List V) (H':Hp),aY lf H H'->H' lf=some (.lst ys)->Als (RV K H') ys (d9 ws ord t rs sp).1->zo K H' w (d9 ws ord t rs sp).2.2->Q w H'):jL K vs H Q
def qV(K:Qu):Sp:=λvs H Q _=>jL K vs H Q
inductive qy(K:Qu)(vs:List V)(H:Hp)(Q:VK):Prop where
 |mk (v u s:V) (ws:List Wk) (es:List Ln) (ss:List R) (h0_:vs=[v,u,s]) (h1_:NU K H v u ws es) (h2_:zx K H s ss) (h3_:ss.length=24) (h4_:(∀r∈ss,eT r)) (h5_:oF (dM ws es ss).1=none) (h6_:∀(w:V) (H':Hp),aL H H'->bX K H' w (MH (dM ws es ss).2)->Q w H'):qy K vs H Q
def Ai(K:Qu):Sp:=λvs H Q _=>qy K vs H Q
def bG(b:Bool)(x:Rat):Rat:=if b=true then x else 0
theorem cy(x:Rat):bG true x=x:=Z
theorem bS(x:Rat):bG false x=0:=Z
def sQ{α:Type}(f:α->Rat):List α->Rat
 | []=>0
 |x::l=>f x+sQ f l
theorem iu{α:Type}{f g:α->Rat}:∀{l:List α},(∀x∈l,f x≤g x)->sQ f l≤sQ g l
 | [],_=>RM
 |x::l,h=>by
  have a:=h x QL;have b:=iu (l:=l) λy hy=>h y (QP _ hy)
  show f x+sQ f l≤g x+sQ g l;grind
theorem aO{α:Type}{f g:α->Rat}:∀{l:List α},(∀x∈l,f x=g x)->sQ f l=sQ g l
 | [],_=>rfl
 |x::l,h=>by
  show f x+sQ f l=g x+sQ g l;rw[h x QL,aO λy hy=>h y (QP _ hy)]
theorem cV{α:Type}{f g:α->Rat}:∀l:List α,sQ (λx=>f x+g x) l=sQ f l+sQ g l
 | []=>by show(0:Rat)=0+0;grind
 |x::l=>by
  show f x+g x+sQ (λx=>f x+g x) l=(f x+sQ f l)+(g x+sQ g l);rw[cV l];grind
theorem cM{α:Type}(c:Rat){f:α->Rat}:∀l:List α,sQ (λx=>c*f x) l=c*sQ f l
 | []=>by show(0:Rat)=c*0;grind
 |x::l=>by
  show c*f x+sQ (λx=>c*f x) l=c*(f x+sQ f l);rw[cM c l];grind
theorem dW{α:Type}{f:α->Rat}:∀a b:List α,sQ f (a++b)=sQ f a+sQ f b
 | [],b=>by show sQ f b=0+sQ f b;grind
 |x::a,b=>by
  show f x+sQ f (a++b)=(f x+sQ f a)+sQ f b;rw[dW a b];grind
theorem gK{α:Type}{f:α->Rat}(c:α->Bool):∀l:List α,sQ f (l.filter c)=sQ (λx=>bG (c x) (f x)) l
 | []=>rfl
 |x::l=>by
  have ih:=gK (f:=f) c l
  cases e:c x with
  |true=>
   rw[Sm e];show f x+sQ f (l.filter c)=bG (c x) (f x)+sQ _ l;rw[ih,e];rfl
  |false=>
   rw[SE (by rw[e];simp)];show sQ f (l.filter c)=bG (c x) (f x)+sQ _ l;rw[ih,e,bS];grind
theorem iQ{α β:Type}{f:β->Rat}(m:α->β):∀l:List α,sQ f (l.map m)=sQ (λx=>f (m x)) l
 | []=>rfl
 |x::l=>by
  show f (m x)+sQ f (l.map m)=f (m x)+sQ _ l;rw[iQ m l]
theorem pV{f:α->Rat}{l:List α}(h:∀x∈l,0≤f x):0≤sQ f l:=by
 have:=iu (f:=λ_:α=>(0:Rat)) (g:=f) (l:=l) h;have z:∀l:List α,sQ (λ_:α=>(0:Rat)) l=0:=λl=>by
  induction l with
  |nil=>rfl
  |cons x l ih=>show(0:Rat)+_=0;rw[ih];grind
 rw[z] at this;exact this
theorem ib(d:α)(l:List α):sQ f l=sQ (λi=>f (l.getD i d)) (Qv l.length):=by
 have e:=eB (β:=α) d id l;have e':(Qv l.length).filter (λ_=>true)=Qv l.length:=by simp
 rw[e',List.map_id] at e;have:=iQ (f:=f) (λi=>id (l.getD i d)) (Qv l.length);rw[e] at this;exact this
def i5(P:Nat->Bool):Rat:=sQ (λt=>bG (P t) 1) (Qv 24)
theorem fX(b:Bool)(h:0≤x):0≤bG b x:=by cases b with|true=>exact h|false=>exact RM
theorem ID:(0:Rat)≤1:=by decide +kernel
theorem v3(P:Nat->Bool):0≤i5 P:=pV λ_ _=>fX _ ID
theorem jr(h:∀t,t<24->P t=Q t):i5 P=i5 Q:=aO λt ht=>by rw[h t (QH.mp ht)]
theorem eS(h:∀t,t<24->bG (X t) 1=bG (P t) 1+bG (Q t) 1):i5 X=i5 P+i5 Q:=by
 unfold i5;rw[←cV];exact aO λt ht=>h t (QH.mp ht)
theorem xA(ht:t<24)(h:P t=true):0<i5 P:=by
 have e:=eS (X:=P) (P:=λu=>decide (u=t)) (Q:=λu=>P u&&!decide (u=t)) (λu _=>by
  by_cases c:u=t
  ·subst c;rw[h,decide_eq_true Z];show(1:Rat)=1+0;grind
  ·rw[decide_eq_false c,Vb,W2];show bG (P u) 1=0+bG (P u) 1;grind)
 have n:=v3 λu=>P u&&!decide (u=t)
 have o:i5 (λu=>decide (u=t))=1:=by
  have:∀t:Fin 24,i5 (λu=>decide (u=t.1))=1:=by decide +kernel
  exact this ⟨t,ht⟩
 rw[o] at e;grind
theorem vv{P:Nat->Bool}{x:Nat}:∀d,(∀i,x≤i->i<x+d->P i=true)->sQ (λt=>bG (P t) 1) (Qv (x+d))=sQ (λt=>bG (P t) 1) (Qv x)+(d:Rat)
 |0,_=>by show sQ _ (Qv x)=sQ _ (Qv x)+((0:Nat):Rat);rw[show((0:Nat):Rat)=0 from Z];grind
 |d+1,h=>by
  have ih:=vv (P:=P) (x:=x) d λi a b=>h i a ω
  rw[←Nat.add_assoc,Sf,dW,ih];show _+(bG (P (x+d)) 1+0)=_;rw[h (x+d) ω ω,cy,show((d+1:Nat):Rat)=(d:Rat)+1 from Rat.natCast_add d 1];grind
theorem rp{P:Nat->Bool}{x:Nat}:∀d,(∀i,x≤i->i<x+d->P i=false)->sQ (λt=>bG (P t) 1) (Qv (x+d))=sQ (λt=>bG (P t) 1) (Qv x)
 |0,_=>rfl
 |d+1,h=>by
  have ih:=rp (P:=P) (x:=x) d λi a b=>h i a ω
  rw[←Nat.add_assoc,Sf,dW,ih];show _+(bG (P (x+d)) 1+0)=_;rw[h (x+d) ω ω,bS];grind
theorem n6(P:Nat->Bool):∀k,∃x,x≤k/\(∀i,x≤i->i<k->P i=true)/\(x=0∨P (x-1)=false)
 |0=>⟨0,QB _,λi a b=>ω,.inl Z⟩
 |k+1=>by
  cases c:P k with
  |false=>exact⟨k+1,QB _,λi a b=>ω,.inr c⟩
  |true=>
   obtain⟨x,h1,h2,h3⟩:=n6 P k;refine⟨x,ω,λi a b=>?_,h3⟩;by_cases z:i=k
   ·rw[z];exact c
   ·exact h2 i a ω
def fk(A:Nat->Bool)(w:Wk):Bool:=(Qv 24).all λt=>!gE w t||A t
theorem cZ:fk A w=true↔∀t,t<24->gE w t=true->A t=true:=by
 unfold fk;rw[Sk];constructor
 ·intro h t ht e;have:=h t (QH.mpr ht);rw[e] at this
  simpa using this
 ·intro h t ht
  cases e:gE w t with
  |false=>rfl
  |true=>rw[h t (QH.mp ht) e];rfl
theorem dJ(h:∀t,t<24->A t=true->A' t=true)(q:fk A w=true):fk A' w=true:=cZ.mpr λt ht e=>h t ht (cZ.mp q t ht e)
def iy(w:Wk):Rat:=val w.2.2
def FM(ws:List Wk)(A:Nat->Bool):Rat:=sQ (λw=>bG (fk A w) (iy w)) ws
theorem oO(h:bn w):0<iy w:=by
 have a:=h.am;show 0<val w.2.2;unfold val;have h1:(0:Rat)<(w.2.2.1:Rat):=To.mpr (show(0:Int)<w.2.2.1 by have:=a.top;omega);have h2:(0:Rat)<(w.2.2.2:Rat):=To.mpr (show(0:Int)<w.2.2.2 by have:=a.bot;omega);generalize (w.2.2.1:Rat)=x at *;generalize (w.2.2.2:Rat)=y at *;exact(Rat.lt_div_iff h2).mpr (by grind)
theorem mC{ws:List Wk}(ok:∀w∈ws,bn w):∀w∈ws,0≤iy w:=λw hw=>TK (oO (ok w hw))
theorem lW(hx:0≤x)(h:b=true->c=true):bG b x≤bG c x:=by
 cases b with
 |false=>exact fX c hx
 |true=>rw[h Z];exact RM
theorem FP(nn:∀w∈ws,0≤iy w)(h:∀t,t<24->A t=true->A' t=true):FM ws A≤FM ws A':=iu λw hw=>lW (nn w hw) (dJ h)
theorem lh(nn:∀w∈ws,0≤iy w)(A B:Nat->Bool):FM ws A+FM ws B≤FM ws (λt=>A t||B t)+FM ws (λt=>A t&&B t):=by
 unfold FM;rw[←cV,←cV];refine iu λw hw=>?_
 have x:=nn w hw;have o1:fk A w=true->fk (λt=>A t||B t) w=true:=dJ λt _ e=>by rw[e];rfl
 have o2:fk B w=true->fk (λt=>A t||B t) w=true:=dJ λt _ e=>by rw[e,SZ]
 have o3:fk A w=true->fk B w=true->fk (λt=>A t&&B t) w=true:=λa b=>cZ.mpr λt ht e=>by rw[cZ.mp a t ht e,cZ.mp b t ht e];rfl
 have n3:=fX (fk (λt=>A t&&B t) w) x
 cases a:fk A w with
 |true=>
  cases b:fk B w with
  |true=>rw[o1 a,o3 a b];exact RM
  |false=>rw[o1 a,cy,bS];grind
 |false=>
  cases b:fk B w with
  |true=>rw[o2 b,cy,bS];grind
  |false=>
   have n4:=fX (fk (λt=>A t||B t) w) x;rw[bS];grind
theorem iH:(bI ((Qv 24).filter q) w).isSome=!fk (λt=>!q t) w:=by
 rw[Su,iF];constructor
 ·rintro⟨t,ht,e⟩;obtain⟨h1,h2⟩:=Q3.mp ht
  cases c:fk (λt=>!q t) w with
  |false=>rfl
  |true=>
   have:=cZ.mp c t (QH.mp h1) e;rw[h2] at this
   cases this
 ·intro h;apply WH;intro n;have:fk (λt=>!q t) w=true:=cZ.mpr λt ht e=>by
   cases c:q t with
   |false=>rfl
   |true=>exact absurd ⟨t,Q3.mpr ⟨QH.mpr ht,c⟩,e⟩ n
  rw[this] at h
  cases h
def d0(ls:List Nat)(p:Pl)(w:Wk):Bool:=ix p.1 p.2 (bI ls w)
def SM(ws:List Wk)(ls:List Nat)(p:Pl):Rat:=sQ (λw=>bG (d0 ls p w) (iy w)) ws
theorem xc(ws:List Wk)(ls:List Nat)(p:Pl):cI (ws.map (bI ls)) p=(Qv ws.length).filter λi=>d0 ls p (ws.getD i b9):=by
 unfold cI d0;rw[Qz];refine WT λi hi=>?_
 have hl:=QH.mp hi;have h:=Qw hl;rw[aB b9 h,aB none (show(ws.map (bI ls))[i]?=some (bI ls ws[i]) by rw[QJ,h];rfl)]
theorem Du(ws:List Wk)(ls:List Nat)(p:Pl):jy ws (eJ ws ls p)=(ws.filter (d0 ls p)).map λw=>w.2.2:=by
 unfold jy eJ;rw[xc];exact fg b9 (d0 ls p) (λw:Wk=>w.2.2) ws
theorem je:∀rs:List R,jN rs=sQ val rs
 | []=>rfl
 |r::rs=>by
  show val r+jN rs=val r+sQ val rs;rw[je rs]
theorem DN(ws:List Wk)(ls:List Nat)(p:Pl):jN (jy ws (eJ ws ls p))=SM ws ls p:=by
 rw[Du,je,iQ];exact gK _ ws
theorem zK(h:bn w):((w.2.2.1*5822723907000000000/w.2.2.2:Int):Rat)=5822723907000000000*iy w:=by
 obtain⟨n,hn⟩:=h.am.dvd;have b:=h.am.bot;have e:w.2.2.1*5822723907000000000/w.2.2.2=w.2.2.1*n:=by
  rw[hn,VJ];exact Rj _ ω
 have e2:(5822723907000000000:Rat)=(w.2.2.2:Rat)*(n:Rat):=by
  rw[←RJ,←hn];rfl
 have nz:(w.2.2.2:Rat)≠0:=dj ω;rw[e,RJ,e2];show _=_*val w.2.2;unfold val;generalize (w.2.2.1:Rat)=x at *;generalize (w.2.2.2:Rat)=y at *;generalize (n:Rat)=z at *;grind
theorem tf:∀l:List Int,((l.sum:Int):Rat)=sQ (λx:Int=>(x:Rat)) l
 | []=>rfl
 |x::l=>by
  rw[Vs,XY,tf l];rfl
theorem wX(ok:∀w∈ws,bn w)(ls:List Nat)(p:Pl):((dq (ws.map (bI ls)) (js (cK ws)) p:Int):Rat)=5822723907000000000*SM ws ls p:=by
 unfold dq;have e:(cI (ws.map (bI ls)) p).map (js (cK ws))=(ws.filter (d0 ls p)).map λw=>w.2.2.1*5822723907000000000/w.2.2.2:=by
  rw[xc,←fg b9 (d0 ls p) (λw:Wk=>w.2.2.1*5822723907000000000/w.2.2.2) ws];refine UA λi hi=>?_
  have h:=Qw (QH.mp (Q3.mp hi).1);rw[aB b9 h];exact aB 0 (by unfold cK;rw[QJ,h];rfl)
 rw[e,tf,iQ,gK];unfold SM;rw[←cM];refine aO λw hw=>?_
 rw[zK (ok w hw)]
 cases d0 ls p w with
 |true=>rfl
 |false=>show(0:Rat)=5822723907000000000*0;grind
theorem iW(h:jt n p):(0:Rat)<(bV p:Rat):=To.mpr h.pos
theorem zP(ok:∀w∈ws,bn w)(h:zF ws ls p)(hr:jt ls.length r):SM ws ls r*(bV p:Rat)≤SM ws ls p*(bV r:Rat):=by
 have a:dq (ws.map (bI ls)) (js (cK ws)) r*bV p≤dq (ws.map (bI ls)) (js (cK ws)) p*bV r:=by
  rcases h.1.all r hr with z | ⟨z,_⟩<;>omega
 have b:=Rat.intCast_le_intCast.mpr a;rw[RJ,RJ,wX ok,wX ok] at b;generalize SM ws ls r=x at *;generalize SM ws ls p=y at *;generalize (bV p:Rat)=u at *;generalize (bV r:Rat)=v at *;grind
theorem yM(h:d0 ls p w=true):(bI ls w).isSome=true:=by
 unfold d0 at h
 cases c:bI ls w with
 |none=>rw[c] at h;cases h
 |some x=>rfl
theorem CW(e:bI ls w=some (a,b)):d0 ls p w=(decide (p.1≤a)&&decide (b≤p.2)):=by
 unfold d0;rw[e];rfl
def nx(q:Nat->Bool)(p:Pl):Nat->Bool:=λt=>!(cD ((Qv 24).filter q) p).contains t&&q t
theorem fG(q:Nat->Bool)(p:Pl):dZ ((Qv 24).filter q) p=(Qv 24).filter (nx q p):=by
 unfold dZ nx;rw[YS]
theorem Gh(q:Nat->Bool):((Qv 24).filter q).Nodup:=Ut _ Xr
theorem CB(hp:jt ((Qv 24).filter q).length p):FM ws (λt=>!nx q p t)=FM ws (λt=>!q t)+SM ws ((Qv 24).filter q) p:=by
 unfold FM SM;rw[←cV];refine aO λw _=>?_
 have e:=pW (w:=w) (Gh q) hp;rw[fG,iH,iH] at e;have hs:=yM (ls:=(Qv 24).filter q) (p:=p) (w:=w);rw[iH] at hs;show bG (fk _ w) _=bG (fk _ w) _+bG (d0 _ p w) _;have e':fk (λt=>!nx q p t) w=(fk (λt=>!q t) w||d0 ((Qv 24).filter q) p w):=by
  have:ix p.1 p.2 (bI ((Qv 24).filter q) w)=d0 ((Qv 24).filter q) p w:=Z;rw[this] at e
  cases a:fk (λt=>!nx q p t) w<;>cases b:fk (λt=>!q t) w<;>cases c:d0 ((Qv 24).filter q) p w<;>rw[a,b,c] at e<;>first|rfl|cases e
 rw[e']
 cases b:fk (λt=>!q t) w with
 |true=>
  cases c:d0 ((Qv 24).filter q) p w with
  |true=>rw[b] at hs;cases hs c
  |false=>show iy w=iy w+0;grind
 |false=>
  cases c:d0 ((Qv 24).filter q) p w with
  |true=>show iy w=0+iy w;grind
  |false=>show(0:Rat)=0+0;grind
theorem Dp(q P:Nat->Bool):i5 (λt=>q t&&P t)=sQ (λi=>bG (P (((Qv 24).filter q).getD i 0)) 1) (Qv ((Qv 24).filter q).length):=by
 rw[←ib (f:=λt=>bG (P t) 1) 0 ((Qv 24).filter q),gK];refine aO λt _=>?_
 show bG (q t&&P t) 1=bG (q t) (bG (P t) 1)
 cases q t<;>rfl
theorem lU(hp:jt ((Qv 24).filter q).length p):i5 (λt=>q t&&!nx q p t)=(bV p:Rat):=by
 have e1:i5 (λt=>q t&&!nx q p t)=i5 (λt=>q t&&(cD ((Qv 24).filter q) p).contains t):=jr λt _=>by
  unfold nx
  cases q t<;>cases(cD ((Qv 24).filter q) p).contains t<;>rfl
 rw[e1,Dp];have h1:=hp.1;have h2:=hp.2;have e2:sQ (λi=>bG ((cD ((Qv 24).filter q) p).contains (((Qv 24).filter q).getD i 0)) 1) (Qv ((Qv 24).filter q).length)=sQ (λi=>bG (decide (p.1≤i)&&decide (i≤p.2)) 1) (Qv ((Qv 24).filter q).length):=aO λi hi=>by
  have hi':=QH.mp hi;have m:=rP (Gh q) hp hi';rw[aB 0 (Qw hi')]
  congr 1
  rw[Su,SO,m,Ra,decide_eq_true_iff,decide_eq_true_iff]
 rw[e2];generalize ((Qv 24).filter q).length=n at *;obtain⟨d,rfl⟩:∃d,n=(p.2+1)+d:=⟨n-(p.2+1),ω⟩;rw[rp (x:=p.2+1) d λi a b=>by rw[decide_eq_false (show ¬i≤p.2 by omega),R1]];obtain⟨e,he⟩:∃e,p.2+1=p.1+e:=⟨p.2+1-p.1,ω⟩;rw[he,vv (x:=p.1) e λi a b=>by rw[decide_eq_true a,decide_eq_true (show i≤p.2 by omega)];rfl];have z:=rp (P:=λi=>decide (p.1≤i)&&decide (i≤p.2)) (x:=0) p.1 λi a b=>by
  show(decide (p.1≤i)&&_)=false;rw[decide_eq_false (show ¬p.1≤i by omega)];rfl
 rw[Wp] at z;rw[z];show(0:Rat)+(e:Rat)=_;have:bV p=(e:Int):=by unfold bV;omega
 rw[this,UB];grind
theorem ye(q:Nat->Bool):((Qv 24).filter q).Pairwise (· < ·):=Ut _ XS
theorem Ey(e:bI ((Qv 24).filter q) w=some (a,b))(h1:a≤i)(h2:i≤b):i∈ig ((Qv 24).filter q) w:=by
 obtain⟨m1,m2,_⟩:=kl e;have srt:=Sq.mp (ye q);generalize (Qv 24).filter q=ls at *;obtain⟨la,wa⟩:=fK.mp m1;obtain⟨lb,wb⟩:=fK.mp m2;have li:i<ls.length:=ω
 rw[aB 0 (Qw la)] at wa;rw[aB 0 (Qw lb)] at wb;refine fK.mpr ⟨li,?_⟩;rw[aB 0 (Qw li)];unfold gE at wa wb ⊢;rw[Ra,decide_eq_true_iff,decide_eq_true_iff] at wa wb ⊢;have u1:ls[a]≤ls[i]:=by
  by_cases z:a=i
  ·subst z;exact QB _
  ·exact Ss (srt a i la li ω)
 have u2:ls[i]≤ls[b]:=by
  by_cases z:i=b
  ·subst z;exact QB _
  ·exact Ss (srt i b li lb ω)
 omega
def gB(ls:List Nat)(P:Nat->Bool)(k:Nat)(w:Wk):Bool:=(bI ls w).isSome&&(ig ls w).all λi=>decide (i<k)&&P i
theorem lX:gB ls P k w=true↔(bI ls w).isSome=true/\∀i∈ig ls w,i<k/\P i=true:=by
 unfold gB;rw[Ra,Sk];constructor
 ·rintro⟨a,b⟩;refine⟨a,λi hi=>?_⟩;have:=b i hi;rw[Ra,decide_eq_true_iff] at this;exact this
 ·rintro⟨a,b⟩;refine⟨a,λi hi=>?_⟩;rw[Ra,decide_eq_true_iff];exact b i hi
def GM(ws:List Wk)(ls:List Nat)(P:Nat->Bool)(k:Nat):Rat:=sQ (λw=>bG (gB ls P k w) (iy w)) ws
theorem Mj(ok:∀w∈ws,bn w)(h:zF ws ((Qv 24).filter q) p)(P:Nat->Bool):∀n k,k≤n->k≤((Qv 24).filter q).length->GM ws ((Qv 24).filter q) P k*(bV p:Rat)≤SM ws ((Qv 24).filter q) p*sQ (λi=>bG (P i) 1) (Qv k):=by
 have nn:=mC ok;have lp:=iW h.1.inn;intro n
 induction n with
 |zero=>
  intro k hk _;obtain rfl:k=0:=ω
  have z:GM ws ((Qv 24).filter q) P 0=0:=by
   have le:GM ws ((Qv 24).filter q) P 0≤sQ (λ_:Wk=>bG false 0) ws:=iu λw _=>by
    cases c:gB ((Qv 24).filter q) P 0 w with
    |false=>exact RM
    |true=>
     obtain⟨a,b⟩:=lX.mp c;obtain⟨⟨x,y⟩,e⟩:=SR.mp a;have:=(b x (kl e).1).1;omega
   have z0:∀l:List Wk,sQ (λ_:Wk=>bG false 0) l=0:=λl=>by
    induction l with
    |nil=>rfl
    |cons x l ih=>show bG false 0+_=0;rw[ih,bS];grind
   rw[z0] at le;have ge:0≤GM ws ((Qv 24).filter q) P 0:=pV λw hw=>fX _ (nn w hw)
   grind
  rw[z];show(0:Rat)*_≤_*0;grind
 |succ n ih=>
  intro k hk hl;by_cases k0:k≤n
  ·exact ih k k0 hl
  obtain rfl:k=n+1:=ω
  cases c:P n with
  |false=>
   have e:GM ws ((Qv 24).filter q) P (n+1)≤GM ws ((Qv 24).filter q) P n:=iu λw hw=>lW (nn w hw) λg=>by
    obtain⟨a,b⟩:=lX.mp g;refine lX.mpr ⟨a,λi hi=>?_⟩;obtain⟨x,y⟩:=b i hi;refine⟨?_,y⟩;by_cases z:i=n
    ·rw[z,c] at y;cases y
    ·omega
   have e2:=Sl e (TK lp);have i1:=ih n (QB _) ω;rw[Sf (n:=n),dW];show _≤_*(_+(bG (P n) 1+0));rw[c,bS];grind
  |true=>
   obtain⟨x,x1,x2,x3⟩:=n6 P (n+1);have xn:x≤n:=by
    by_cases z:x=n+1
    ·subst z;rcases x3 with y|y
     ·omega
     ·rw[show n+1-1=n by omega,c] at y;cases y
    ·omega
   have e:GM ws ((Qv 24).filter q) P (n+1)≤GM ws ((Qv 24).filter q) P x+SM ws ((Qv 24).filter q) (x,n):=by
    unfold GM SM;rw[←cV];refine iu λw hw=>?_
    have w0:=nn w hw;have n1:=fX (gB ((Qv 24).filter q) P x w) w0;have n2:=fX (d0 ((Qv 24).filter q) (x,n) w) w0
    cases g:gB ((Qv 24).filter q) P (n+1) w with
    |false=>rw[bS];grind
    |true=>
     obtain⟨a,b⟩:=lX.mp g;obtain⟨⟨u,v⟩,eu⟩:=SR.mp a;obtain⟨m1,m2,bd⟩:=kl eu;by_cases z:v<x
     ·have:gB ((Qv 24).filter q) P x w=true:=lX.mpr ⟨a,λi hi=>⟨by have:=bd i hi;omega,(b i hi).2⟩⟩;rw[this,cy];grind
     ·have xu:x≤u:=by
       apply WH;intro nu;have m:=Ey eu (i:=x-1) ω ω;have y:=(b _ m).2;rcases x3 with y'|y'
       ·omega
       ·rw[y'] at y;cases y
      have vn:=(b v m2).1;have:d0 ((Qv 24).filter q) (x,n) w=true:=by
       rw[CW eu,Ra,decide_eq_true_iff,decide_eq_true_iff];exact⟨xu,by show v≤n;omega⟩
      rw[this,cy];grind
   have i1:=ih x xn ω;have t1:=zP ok h (r:=(x,n)) ⟨xn,by show n<_;omega⟩;obtain⟨d,hd⟩:∃d,n+1=x+d:=⟨n+1-x,ω⟩;have r:=vv (P:=P) (x:=x) d λi a b=>x2 i a ω
   rw[←hd] at r;rw[r];have ld:(bV (x,n):Rat)=(d:Rat):=by
    have:bV (x,n)=(d:Int):=by show(n:Int)-(x:Int)+1=_;omega
    rw[this,UB]
   rw[ld] at t1;have e2:=Sl e (TK lp);generalize GM ws ((Qv 24).filter q) P (n+1)=g1 at *;generalize GM ws ((Qv 24).filter q) P x=g0 at *;generalize SM ws ((Qv 24).filter q) (x,n)=s1 at *;generalize SM ws ((Qv 24).filter q) p=sp at *;generalize (bV p:Rat)=l at *;generalize sQ (λt=>bG (P t) 1) (Qv x)=c0 at *;generalize (d:Rat)=dd at *;grind
theorem JH(ok:∀w∈ws,bn w)(h:zF ws ((Qv 24).filter q) p)(hA:∀t,t<24->q t=false->A t=true):(FM ws A-FM ws (λt=>!q t))*(bV p:Rat)≤SM ws ((Qv 24).filter q) p*i5 (λt=>q t&&A t):=by
 have g:=Mj ok h (λi=>A (((Qv 24).filter q).getD i 0)) _ _ (QB _) (QB ((Qv 24).filter q).length);rw[Dp];have e:FM ws A=FM ws (λt=>!q t)+GM ws ((Qv 24).filter q) (λi=>A (((Qv 24).filter q).getD i 0)) ((Qv 24).filter q).length:=by
  unfold FM GM;rw[←cV];refine aO λw _=>?_
  have wi:=iH (q:=q) (w:=w)
  cases c:fk (λt=>!q t) w with
  |true=>
   have g0:gB ((Qv 24).filter q) (λi=>A (((Qv 24).filter q).getD i 0)) ((Qv 24).filter q).length w=false:=by
    unfold gB;rw[wi,c];rfl
   have a1:fk A w=true:=dJ (λt ht e=>hA t ht (by simpa using e)) c;rw[g0,a1,cy,bS];grind
  |false=>
   rw[c] at wi;have eq:fk A w=gB ((Qv 24).filter q) (λi=>A (((Qv 24).filter q).getD i 0)) ((Qv 24).filter q).length w:=by
    rw[Su,lX,cZ];constructor
    ·intro z;refine⟨wi,λi hi=>?_⟩;obtain⟨li,wl⟩:=fK.mp hi;refine⟨li,?_⟩;have m:=RA li;rw[aB 0 (Qw li)] at wl ⊢;exact z _ (QH.mp (Q3.mp m).1) wl
    ·rintro⟨_,z⟩ t ht e
     cases cq:q t with
     |false=>exact hA t ht cq
     |true=>
      obtain⟨i,li,ei⟩:=Sa.mp (Q3.mpr ⟨QH.mpr ht,cq⟩);have gd:((Qv 24).filter q).getD i 0=t:=by rw[aB 0 (Qw li)];exact ei
      have y:=(z i (fK.mpr ⟨li,by rw[gd];exact e⟩)).2;rw[gd] at y;exact y
   rw[eq,bS];grind
 rw[e];grind
def DF(ws:List Wk):List Ly->Nat->Option R
 | [],_=>none
 |y::r,t=>if y.1.contains t then some (cc ws y) else DF ws r t
theorem nS(ws:List Wk)(y:Ly)(r:List Ly)(t:Nat):DF ws (y::r) t=if y.1.contains t then some (cc ws y) else DF ws r t:=by rw[DF]
def dk(ws:List Wk)(lys:List Ly)(t:Nat):Rat:=match DF ws lys t with
 |none=>0
 |some r=>val r
theorem kB(ws:List Wk)(t:Nat):dk ws [] t=0:=Z
theorem eY(ws:List Wk)(y:Ly)(r:List Ly)(t:Nat):dk ws (y::r) t=if y.1.contains t then val (cc ws y) else dk ws r t:=by
 unfold dk;rw[nS]
 cases y.1.contains t<;>rfl
theorem Ak(h:gU ws ls lys):(DF ws lys t).isSome=true->t∈ls:=by
 induction h with
 |nil z=>intro e;cases e
 | @cons ls p r h tl ih=>
  intro e;rw[nS] at e
  cases c:(eJ ws ls p).1.contains t with
  |true=>exact Vc (RZ (show t∈(ls.drop p.1).take (p.2+1-p.1) from SO.mp c))
  |false=>
   rw[c] at e;exact(Q3.mp (ih e)).1
theorem tT(r:R)(d:R):∀(ts:List Nat) (ss:List R) (t:Nat),t<ss.length->(kC r ss ts).getD t d=if ts.contains t then r else ss.getD t d
 | [],ss,t,_=>rfl
 |u::ts,ss,t,h=>by
  show(kC r (ss.set u r) ts).getD t d=_;rw[tT r d ts (ss.set u r) t (by rw[TY];exact h),Uk]
  cases c:ts.contains t with
  |true=>simp
  |false=>
   by_cases z:t=u
   ·subst z;simp[QQ,h]
   ·have z':¬u=t:=λq=>z q.symm
    simp[QQ,z,z',SG]
theorem DT(h:gU ws ls lys):∀(ss:List R) (t:Nat) (d:R),t<ss.length->(lys.foldl (λss y=>kC (cc ws y) ss y.1) ss).getD t d=(DF ws lys t).getD (ss.getD t d):=by
 induction h with
 |nil z=>intro ss t d _;rfl
 | @cons ls p r h tl ih=>
  intro ss t d ht;rw[R7,ih _ t d (by rw[nV];exact ht),tT _ _ _ _ _ ht,nS]
  cases c:(eJ ws ls p).1.contains t with
  |false=>rfl
  |true=>
   have:DF ws r t=none:=by
    cases e:DF ws r t with
    |none=>rfl
    |some x=>
     have m:=Ak tl (t:=t) (by rw[e];rfl);have:=(Q3.mp m).2;rw[show(cD ls p).contains t=true from c] at this
     cases this
   rw[this];rfl
theorem gh(h:gU ws (Qv 24) lys)(ht:t<24)(d:R):val ((aU ws lys).getD t d)=dk ws lys t:=by
 unfold aU;rw[DT h _ t d (by rw[UQ];exact ht)];unfold dk
 cases DF ws lys t with
 |some r=>rfl
 |none=>
  show val ((Rf 24 ((0,1):R)).getD t d)=0;rw[aB d (show(Rf 24 ((0,1):R))[t]?=some (0,1) by rw[Te,if_pos ht])];exact hU
theorem FE(ok:∀w∈ws,bn w)(ls:List Nat)(p:Pl):∀r∈jy ws (eJ ws ls p),gG r:=by
 intro r hr;rw[Du] at hr;obtain⟨w,hw,rfl⟩:=QU.mp hr;exact(ok w (Q3.mp hw).1).am.wf.red
theorem xz(hp:jt ls.length p):(((cD ls p).length:Nat):Rat)=(bV p:Rat):=by
 have h1:=hp.1;have h2:=hp.2;have e:(cD ls p).length=p.2+1-p.1:=by unfold cD;rw[Rs,Sj];omega
 have:bV p=(((cD ls p).length:Nat):Int):=by rw[e];unfold bV;omega
 rw[this,UB]
theorem h7(ok:∀w∈ws,bn w)(hp:jt ls.length p):val (cc ws (eJ ws ls p))*(bV p:Rat)=SM ws ls p:=by
 obtain⟨rd,e⟩:=hJ (FE ok ls p);have lp:=iW hp;have cl:=xz hp;have pos:(0:Int)<(((eJ ws ls p).1.length:Nat):Int):=by
  refine To.mp ?_;rw[UB];show((0:Int):Rat)<(((cD ls p).length:Nat):Rat);rw[cl];exact lp
 unfold cc;rw[jf rd.pos pos,e,DN];have v1:val ((1,(((eJ ws ls p).1.length:Nat):Int)):R)=1/(bV p:Rat):=by
  unfold val;show((1:Int):Rat)/((((cD ls p).length:Nat):Int):Rat)=_;rw[UB,cl];rfl
 rw[v1];generalize SM ws ls p=s at *;generalize (bV p:Rat)=l at *;have:l≠0:=λz=>by rw[z] at lp;exact absurd lp (by decide +kernel)
 grind
theorem LZ(ok:∀w∈ws,bn w)(ls:List Nat)(p:Pl):0≤SM ws ls p:=pV λw hw=>fX _ (mC ok w hw)
theorem qK(ok:∀w∈ws,bn w)(hp:jt ls.length p):0≤val (cc ws (eJ ws ls p)):=by
 have e:=h7 ok hp;have s:=LZ ok ls p;have lp:=iW hp;rw[←e] at s;generalize val (cc ws (eJ ws ls p))=d at *;generalize (bV p:Rat)=l at *;by_cases z:0≤d
 ·exact z
 ·have z':d<0:=XU.mp z;have:=Tg z' lp;grind
theorem qW(ok:∀w∈ws,bn w)(h:gU ws ls lys)(t:Nat):0≤dk ws lys t:=by
 induction h with
 |nil z=>exact RM
 | @cons ls p r h tl ih=>
  rw[eY]
  cases c:(eJ ws ls p).1.contains t with
  |true=>exact qK ok h.1.inn
  |false=>exact ih
theorem fY(ok:∀w∈ws,bn w)(h:zF ws ((Qv 24).filter q) p)(hA:∀t,t<24->q t=false->A t=true):FM ws A-FM ws (λt=>!q t)≤val (cc ws (eJ ws ((Qv 24).filter q) p))*i5 (λt=>q t&&A t):=by
 have g:=JH ok h hA;have e:=h7 ok h.1.inn;have lp:=iW h.1.inn;rw[←e] at g;generalize FM ws A-FM ws (λt=>!q t)=x at *;generalize val (cc ws (eJ ws ((Qv 24).filter q) p))=d at *;generalize i5 (λt=>q t&&A t)=c at *;generalize (bV p:Rat)=l at *;by_cases z:x≤d*c
 ·exact z
 ·have z':d*c<x:=XU.mp z;have:=Tg z' lp;grind
theorem Jt{a b c:Rat}(h:a≤b)(hc:0≤c):a*c≤b*c:=Sl h hc
theorem p8{a b c:Rat}(hc:0<c)(h:a*c≤b*c):a≤b:=by
 by_cases z:a≤b
 ·exact z
 ·have:=Tg (XU.mp z) hc;grind
theorem PM{d c1 c2 l f0 fC:Rat}(g:fC-f0≤d*c2)(sp:l=c1+c2):d*c1≤f0+d*l-fC:=by
 subst sp;rw[ZT];grind
theorem PL{d s0 c1 c2 l f0 fA fN:Rat}(g:fA-f0≤d*c2)(k0:s0*c1≤fA-fN)(nF:fN=f0+d*l)(sp:c2=c1+l):s0*c1≤d*c1:=by
 subst sp nF;rw[ZT] at g;grind
theorem PJ{d s0 c1 c2 c3 l f1 f2 f3 f4 f5:Rat}(k1:s0*c2≤f4-f1)(k2:f3+(f5+d*l)≤f1+f2)(g2:f2-f5≤d*c3)(sp2:l=c1+c3)(m:s0*c1≤d*c1):s0*(c2+c1)≤f4-f3:=by
 subst sp2;rw[ZT] at k2 ⊢;grind
theorem jm:(cD ((Qv 24).filter q) p).contains t=true->q t=true:=λh=>by
 have:=Vc (RZ (show t∈(((Qv 24).filter q).drop p.1).take (p.2+1-p.1) from SO.mp h));exact(Q3.mp this).2
theorem Ng(ok:∀w∈ws,bn w)(h:gU ws ls lys):∀(q:Nat->Bool),ls=(Qv 24).filter q->∀t,t<24->0<dk ws lys t->∃A:Nat->Bool,A t=true/\q t=true/\(∀u,u<24->q u=false->A u=true)/\∀C:Nat->Bool,(∀u,u<24->q u=false->C u=true)->(∀u,u<24->C u=true->A u=true)->dk ws lys t*i5 (λu=>A u&&!C u)≤FM ws A-FM ws C:=by
 have nn:=mC ok
 induction h with
 |nil z=>intro q e t ht s;exact absurd s (by rw[kB];decide +kernel)
 | @cons ls p r h tl ih=>
  intro q e t ht s;subst e;have hp:jt ((Qv 24).filter q).length p:=h.1.inn;have nF:=CB (ws:=ws) hp;have nC:=lU hp;have sv:=h7 ok hp;rw[eY] at s ⊢
  cases c:(eJ ws ((Qv 24).filter q) p).1.contains t with
  |true=>
   rw[c,if_pos Z] at s;rw[if_pos Z];have qt:=jm (q:=q) (p:=p) c;refine⟨λu=>!nx q p u,?_,qt,λu _ qu=>?_,λC hC hA=>?_⟩
   ·show(!nx q p t)=true;unfold nx;rw[show(cD ((Qv 24).filter q) p).contains t=true from c];rfl
   ·show(!nx q p u)=true;unfold nx;rw[qu,R1];rfl
   ·have g:=fY ok h hC;have sp:=eS (X:=λt=>q t&&!nx q p t) (P:=λu=>!nx q p u&&!C u) (Q:=λt=>q t&&C t) (λu hu=>by
     have a1:=hC u hu;have a2:C u=true->(!nx q p u)=true:=hA u hu;show bG (q u&&!nx q p u) 1=bG (!nx q p u&&!C u) 1+bG (q u&&C u) 1
     cases x:q u<;>cases y:nx q p u<;>cases z:C u<;>rw[x,z] at a1<;>rw[y,z] at a2<;>first | (exact absurd (a1 Z) δ) | (exact absurd (a2 Z) δ) | (show(1:Rat)=1+0;grind) | (show(1:Rat)=0+1;grind) | (show(0:Rat)=0+0;grind))
    rw[nC] at sp;rw[nF,←sv];exact PM g sp
  |false=>
   rw[c,if_neg (by simp)] at s;rw[if_neg (by simp)];obtain⟨A,At,nt,hA,key⟩:=ih (nx q p) (fG q p) t ht s;have nq:∀u,nx q p u=true->q u=true:=λu e=>by
    unfold nx at e;rw[Ra] at e;exact e.2
   have hA':∀u,u<24->q u=false->A u=true:=λu hu e=>hA u hu (by cases x:nx q p u with|false=>rfl|true=>rw[nq u x] at e;cases e)
   have g:=fY ok h hA';have k0:=key (λu=>!nx q p u) (λu _ e=>by show(!nx q p u)=true;rw[e];rfl) (λu hu e=>hA u hu (by simpa using e));have pos:0<i5 (λu=>A u&&!!nx q p u):=xA ht (by show(A t&&!!nx q p t)=true;rw[At,nt];rfl);have sp:=eS (X:=λt=>q t&&A t) (P:=λu=>A u&&!!nx q p u) (Q:=λt=>q t&&!nx q p t) (λu hu=>by
    have a1:=nq u;have a2:=hA u hu;show bG (q u&&A u) 1=bG (A u&&!!nx q p u) 1+bG (q u&&!nx q p u) 1
    cases x:q u<;>cases y:nx q p u<;>cases z:A u<;>rw[x,y] at a1<;>rw[y,z] at a2<;>first | (exact absurd (a1 Z) δ) | (exact absurd (a2 Z) δ) | (show(1:Rat)=1+0;grind) | (show(1:Rat)=0+1;grind) | (show(0:Rat)=0+0;grind))
   rw[nC] at sp;have dle:dk ws r t≤val (cc ws (eJ ws ((Qv 24).filter q) p)):=by
    refine p8 pos ?_;rw[←sv] at nF;exact PL g k0 nF sp
   refine⟨A,At,nq t nt,hA',λC hC hCA=>?_⟩;have k1:=key (λu=>C u||!nx q p u) (λu _ e=>by show(C u||!nx q p u)=true;rw[e,Vb,SZ]) (λu hu e=>by
    cases x:nx q p u with
    |false=>exact hA u hu x
    |true=>
     have e':(C u||!nx q p u)=true:=e;rw[x,UP,W8] at e';exact hCA u hu e')
   have k2:=lh nn C (λu=>!nx q p u);have g2:=fY ok h (A:=λt=>C t&&!nx q p t) (λu hu e=>by
    show(C u&&!nx q p u)=true;rw[hC u hu e];unfold nx;rw[e,R1];rfl)
   have sp2:=eS (X:=λt=>q t&&!nx q p t) (P:=λu=>!nx q p u&&!C u) (Q:=λt=>q t&&(C t&&!nx q p t)) (λu hu=>by
    have a1:=hC u hu;have a2:=nq u;show bG (q u&&!nx q p u) 1=bG (!nx q p u&&!C u) 1+bG (q u&&(C u&&!nx q p u)) 1
    cases x:q u<;>cases y:nx q p u<;>cases z:C u<;>rw[x,z] at a1<;>rw[x,y] at a2<;>first | (exact absurd (a1 Z) δ) | (exact absurd (a2 Z) δ) | (show(1:Rat)=1+0;grind) | (show(1:Rat)=0+1;grind) | (show(0:Rat)=0+0;grind))
   rw[nC] at sp2;have sp3:=eS (X:=λu=>A u&&!C u) (P:=λu=>A u&&!(C u||!nx q p u)) (Q:=λu=>!nx q p u&&!C u) (λu hu=>by
    have a1:=hA u hu;show bG (A u&&!C u) 1=bG (A u&&!(C u||!nx q p u)) 1+bG (!nx q p u&&!C u) 1
    cases x:A u<;>cases y:nx q p u<;>cases z:C u<;>rw[x,y] at a1<;>first | (exact absurd (a1 Z) δ) | (show(1:Rat)=1+0;grind) | (show(1:Rat)=0+1;grind) | (show(0:Rat)=0+0;grind))
   have m:=Jt dle (v3 λu=>!nx q p u&&!C u);rw[nF,←sv] at k2;rw[sp3];exact PJ k1 k2 g2 sp2 m
theorem PH{d d1 c x:Rat}(h:x≤d1*c)(l:d1<d)(hc:0<c):x<d*c:=by
 have:=Tg l hc;grind
theorem Nf(ok:∀w∈ws,bn w)(h:gU ws ls lys):∀(q:Nat->Bool),ls=(Qv 24).filter q->∀d:Rat,0<d->∃B:Nat->Bool,(∀u,u<24->q u=false->B u=true)/\(∀u,u<24->q u=true->B u=true->d≤dk ws lys u)/\∀A:Nat->Bool,(∀u,u<24->B u=true->A u=true)->0<i5 (λu=>A u&&!B u)->FM ws A-FM ws B<d*i5 (λu=>A u&&!B u):=by
 induction h with
 | @nil ls z=>
  intro q e d hd;subst e;refine⟨λu=>!q u,λu _ e=>by show(!q u)=true;rw[e];rfl,λu _ a b=>?_,λA hA pos=>?_⟩
  ·have b':(!q u)=true:=b;rw[a] at b'
   cases b'
  ·have e:FM ws A=FM ws (λu=>!q u):=aO λw hw=>by
    have n:=SK.mp z w hw;rw[iH] at n;have i0:fk (λt=>!q t) w=true:=by simpa using n
    rw[i0,dJ hA i0]
   rw[e];have:=Rat.mul_pos hd pos;grind
 | @cons ls p r h tl ih=>
  intro q e d hd;subst e;by_cases c:val (cc ws (eJ ws ((Qv 24).filter q) p))<d
  ·refine⟨λu=>!q u,λu _ e=>by show(!q u)=true;rw[e];rfl,λu _ a b=>?_,λA hA pos=>?_⟩
   ·have b':(!q u)=true:=b;rw[a] at b'
    cases b'
   ·have g:=fY ok h (A:=A) λt ht e=>hA t ht (by show(!q t)=true;rw[e];rfl)
    have e:i5 (λu=>A u&&!!q u)=i5 (λt=>q t&&A t):=jr λu _=>by cases A u<;>cases q u<;>rfl
    rw[e] at pos ⊢;exact PH g c pos
  ·obtain⟨B,h1,h2,h3⟩:=ih (nx q p) (fG q p) d hd;refine⟨B,λu hu e=>h1 u hu (by unfold nx;rw[e,R1]),λu hu a b=>?_,h3⟩;rw[eY]
   cases cu:(eJ ws ((Qv 24).filter q) p).1.contains u with
   |true=>exact YQ.mp c
   |false=>
    refine h2 u hu ?_ b;unfold nx;rw[show(cD ((Qv 24).filter q) p).contains u=false from cu,a];rfl
theorem KO(ok:∀w∈ws,bn w)(ok':∀w∈ws',bn w)(h:gU ws (Qv 24) lys)(h':gU ws' (Qv 24) lys')(D:∀X Y:Nat->Bool,(∀u,u<24->X u=true->Y u=true)->FM ws Y-FM ws X≤FM ws' Y-FM ws' X)(ht:t<24):dk ws lys t≤dk ws' lys' t:=by
 have full:Qv 24=(Qv 24).filter (λ_=>true):=(RP.mpr λ_ _=>Z).symm;by_cases z:0<dk ws lys t
 ·obtain⟨A,At,_,_,ka⟩:=Ng ok h _ full t ht z;obtain⟨B,_,kb,kc⟩:=Nf ok' h' _ full (dk ws lys t) z
  cases bt:B t with
  |true=>exact kb t ht Z bt
  |false=>
   exfalso;have k1:=ka (λu=>A u&&B u) (λu _ e=>by cases e) (λu _ e=>by rw[Ra] at e;exact e.1);have e1:i5 (λu=>A u&&!(A u&&B u))=i5 (λu=>A u&&!B u):=jr λu _=>by cases A u<;>cases B u<;>rfl
   have e2:i5 (λu=>(A u||B u)&&!B u)=i5 (λu=>A u&&!B u):=jr λu _=>by cases A u<;>cases B u<;>rfl
   have pos:0<i5 (λu=>A u&&!B u):=xA ht (by rw[At,bt];rfl);have k2:=kc (λu=>A u||B u) (λu _ e=>by rw[e,SZ]) (by rw[e2];exact pos);have k3:=D B (λu=>A u||B u) (λu _ e=>by rw[e,SZ]);have k4:=lh (mC ok) A B;rw[e1] at k1;rw[e2] at k2;have:∀{x a b c d e f:Rat},x≤a-b->c-d<x->e-f≤c-d->a+f≤e+b->False:=by
    intro x a b c d e f h1 h2 h3 h4;grind
   exact this k1 k2 k3 k4
 ·have:=qW ok' h' t;have z':=YQ.mp z;grind
theorem ju(ok:∀w∈ws,bn w):FM ws (λ_=>false)=0:=by
 have e:FM ws (λ_=>false)=sQ (λ_:Wk=>0*(0:Rat)) ws:=aO λw hw=>by
  have:fk (λ_=>false) w=false:=by
   cases c:fk (λ_=>false) w with
   |false=>rfl
   |true=>
    have o:=ok w hw;have l1:=o.le;have l2:=o.lt;have:=cZ.mp c w.1 ω (by unfold gE;rw[decide_eq_true (QB _),decide_eq_true l1];rfl)
    cases this
  rw[this,bS];grind
 rw[e,cM];grind
theorem GI(ok:∀w∈ws,bn w)(h:gU ws ls lys):∀(q:Nat->Bool),ls=(Qv 24).filter q->sQ (λt=>bG (q t) (dk ws lys t)) (Qv 24)=FM ws (λ_=>true)-FM ws (λt=>!q t):=by
 induction h with
 | @nil ls z=>
  intro q e;subst e;have e:FM ws (λ_=>true)=FM ws (λu=>!q u):=aO λw hw=>by
   have n:=SK.mp z w hw;rw[iH] at n;have i0:fk (λt=>!q t) w=true:=by simpa using n
   rw[i0,dJ (λ_ _ _=>Z) i0]
  rw[e];have e2:sQ (λt=>bG (q t) (dk ws [] t)) (Qv 24)=sQ (λ_:Nat=>0*(0:Rat)) (Qv 24):=aO λt _=>by
   rw[kB]
   cases q t with
   |true=>rw[cy];grind
   |false=>rw[bS];grind
  rw[e2,cM];grind
 | @cons ls p r h tl ih=>
  intro q e;subst e;have hp:jt ((Qv 24).filter q).length p:=h.1.inn;have i1:=ih (nx q p) (fG q p);have nF:=CB (ws:=ws) hp;have nC:=lU hp;have sv:=h7 ok hp;have e2:sQ (λt=>bG (q t) (dk ws (eJ ws ((Qv 24).filter q) p::r) t)) (Qv 24)=sQ (λt=>bG (nx q p t) (dk ws r t)+val (cc ws (eJ ws ((Qv 24).filter q) p))*bG (q t&&!nx q p t) 1) (Qv 24):=aO λt ht=>by
   rw[eY];have n:nx q p t=(!(cD ((Qv 24).filter q) p).contains t&&q t):=Z;have lf:=jm (q:=q) (p:=p) (t:=t);rw[show(eJ ws ((Qv 24).filter q) p).1.contains t=(cD ((Qv 24).filter q) p).contains t from Z]
   cases a:(cD ((Qv 24).filter q) p).contains t with
   |true=>
    rw[a] at n lf;rw[lf Z,n];show val _=0+val _*1;grind
   |false=>
    rw[a] at n;rw[n]
    cases q t with
    |true=>show dk ws r t=dk ws r t+_*0;grind
    |false=>show(0:Rat)=0+_*0;grind
  rw[e2,cV,i1,cM];have:sQ (λt=>bG (q t&&!nx q p t) 1) (Qv 24)=(bV p:Rat):=nC;rw[this,sv,nF];grind
theorem FQ(ws:List Wk):FM ws (λ_=>true)=sQ iy ws:=aO λw _=>by
 have:fk (λ_=>true) w=true:=cZ.mpr λ_ _ _=>Z
 rw[this];rfl
theorem mJ(a:List Wk)(w:Wk)(b:List Wk)(X:Nat->Bool):FM (a++w::b) X=FM a X+bG (fk X w) (iy w)+FM b X:=by
 unfold FM;rw[dW];show _+(bG (fk X w) (iy w)+_)=_;grind
theorem DD(a b:List Wk)(X:Nat->Bool):FM (a++b) X=FM a X+FM b X:=dW a b
theorem Kc(ok:bn w)(X Y:Nat->Bool)(h:∀u,u<24->X u=true->Y u=true):FM (a++b) Y-FM (a++b) X≤FM (a++w:: b) Y-FM (a++w:: b) X:=by
 rw[mJ,mJ,DD,DD];have:=lW (x:=iy w) (TK (oO ok)) (dJ (w:=w) h);generalize bG (fk X w) (iy w)=x at *;generalize bG (fk Y w) (iy w)=y at *;generalize FM a Y=fa at *;generalize FM b Y=fb at *;generalize FM a X=fc at *;generalize FM b X=fd at *;clear h ok;grind
theorem FR(e1:w'.1=w.1)(e2:w'.2.1=w.2.1)(le:iy w≤iy w')(X Y:Nat->Bool)(h:∀u,u<24->X u=true->Y u=true):FM (a++w:: b) Y-FM (a++w:: b) X≤FM (a++w':: b) Y-FM (a++w':: b) X:=by
 rw[mJ,mJ,mJ,mJ];have iw:∀V0,fk V0 w'=fk V0 w:=λV0=>by unfold fk gE;rw[e1,e2]
 rw[iw,iw];have m:=dJ (w:=w) h;generalize FM a Y=fa at *;generalize FM b Y=fb at *;generalize FM a X=fc at *;generalize FM b X=fd at *;generalize iy w=x at *;generalize iy w'=x' at *;clear h iw
 cases p:fk X w with
 |true=>
  rw[m p,cy,cy];grind
 |false=>
  rw[bS,bS]
  cases fk Y w with
  |true=>rw[cy,cy];grind
  |false=>rw[bS,bS];grind
theorem Kb(ok:bn w)(e1:w'.1≤w.1)(e2:w.2.1≤w'.2.1)(e3:w'.2.2=w.2.2)(X:Nat->Bool):FM (a++w':: b) X≤FM (a++w:: b) X:=by
 rw[mJ,mJ];have av:iy w'=iy w:=by unfold iy;rw[e3]
 have:=lW (b:=fk X w') (c:=fk X w) (x:=iy w) (TK (oO ok)) λq=>cZ.mpr λt ht e=>cZ.mp q t ht (by
  unfold gE at e ⊢;rw[Ra,decide_eq_true_iff,decide_eq_true_iff] at e ⊢;omega)
 rw[av];generalize bG (fk X w) (iy w)=x at *;generalize bG (fk X w') (iy w)=y at *;clear e1 e2 e3 ok av;grind
theorem cap(ok:∀w∈ws,bn w)(h:gU ws ls lys):∀(q A:Nat->Bool),ls=(Qv 24).filter q->(∀t,t<24->q t=false->A t=true)->FM ws A-FM ws (λt=>!q t)≤sQ (λt=>bG (q t&&A t) (dk ws lys t)) (Qv 24):=by
 induction h with
 | @nil ls z=>
  intro q A e hA;subst e;have e:FM ws (λ_=>true)=FM ws (λu=>!q u):=aO λw hw=>by
   have n:=SK.mp z w hw;rw[iH] at n;have i0:fk (λt=>!q t) w=true:=by simpa using n
   rw[i0,dJ (λ_ _ _=>Z) i0]
  have m:=FP (mC ok) (A:=A) (A':=λ_=>true) (λ_ _ _=>Z);have nn:0≤sQ (λt=>bG (q t&&A t) (dk ws [] t)) (Qv 24):=pV λt _=>fX _ (by rw[kB];exact RM)
  rw[e] at m;grind
 | @cons ls p r h tl ih=>
  intro q A e hA;subst e;have i1:=ih (nx q p) (λt=>A t||!nx q p t) (fG q p) (λt _ hn=>by
   show(A t||!nx q p t)=true;rw[hn];exact SZ _)
  have g:=fY ok h (A:=λt=>A t&&!nx q p t) (λt ht hq=>by
   show(A t&&!nx q p t)=true;rw[hA t ht hq];unfold nx;rw[hq,R1];rfl)
  have sup:=lh (mC ok) A (λt=>!nx q p t);have e2:sQ (λt=>bG (q t&&A t) (dk ws (eJ ws ((Qv 24).filter q) p::r) t)) (Qv 24)=sQ (λt=>bG (nx q p t&&(A t||!nx q p t)) (dk ws r t)+val (cc ws (eJ ws ((Qv 24).filter q) p))*bG (q t&&(A t&&!nx q p t)) 1) (Qv 24):=aO λt ht=>by
   rw[eY];have n:nx q p t=(!(cD ((Qv 24).filter q) p).contains t&&q t):=Z;have lf:=jm (q:=q) (p:=p) (t:=t);rw[show(eJ ws ((Qv 24).filter q) p).1.contains t=(cD ((Qv 24).filter q) p).contains t from Z]
   cases a:(cD ((Qv 24).filter q) p).contains t with
   |true=>
    rw[a] at n lf;rw[lf Z,n]
    cases A t with
    |true=>show val _=0+val _*1;grind
    |false=>show(0:Rat)=0+val _*0;grind
   |false=>
    rw[a] at n;rw[n]
    cases q t with
    |true=>
     cases A t with
     |true=>show dk ws r t=dk ws r t+_*0;grind
     |false=>show(0:Rat)=0+_*0;grind
    |false=>show(0:Rat)=0+_*0;grind
  rw[e2,cV,cM];have c:sQ (λt=>bG (q t&&(A t&&!nx q p t)) 1) (Qv 24)=i5 (λt=>q t&&(A t&&!nx q p t)):=Z;rw[c];grind
abbrev Ls:=Nat->Rat
def gI(L:Ls)(i:Nat)(x:Rat):Ls:=λj=>if j=i then x else L j
def mn(a b:Rat):Rat:=if a≤b then a else b
def cr(W:Nat->Bool)(st:Ls×Rat)(i:Nat):Ls×Rat:=if W i=true then(gI st.1 i (st.1 i-mn (st.1 i) st.2),st.2-mn (st.1 i) st.2) else st
def eK(W:Nat->Bool)(ord:List Nat)(L:Ls)(s:Rat):Ls×Rat:=ord.foldl (cr W) (L,s)
theorem Jv(a b:Rat):mn a b≤a:=by
 unfold mn
 split
 ·exact RM
 ·rename_i h;exact TK (XU.mp h)
theorem CF(a b:Rat):mn a b≤b:=by
 unfold mn
 split
 ·assumption
 ·exact RM
theorem LF(ha:0≤a)(hb:0≤b):0≤mn a b:=by
 unfold mn
 split
 ·exact ha
 ·exact hb
theorem Gf(a b:Rat):mn a b=a∨mn a b=b:=by
 unfold mn
 split
 ·exact .inl Z
 ·exact .inr Z
structure zu(L:Ls)(s:Rat)(st:Ls×Rat):Prop where
 nn:∀i,0≤L i->0≤st.1 i
 le:∀i,st.1 i≤L i
 rm:0≤st.2
theorem zu.step{W:Nat->Bool}{L:Ls}{s:Rat}{st:Ls×Rat}(hL:∀i,0≤L i)(h:zu L s st)(i:Nat):zu L s (cr W st i):=by
 unfold cr
 split
 ·have a1:=Jv (st.1 i) st.2;have a2:=CF (st.1 i) st.2;have a3:=LF (h.nn i (hL i)) h.rm;refine⟨λj _=>?_,λj=>?_,?_⟩
  ·show 0≤gI st.1 i _ j;unfold gI
   split
   ·grind
   ·exact h.nn j (hL j)
  ·show gI st.1 i _ j≤L j;unfold gI;have:=h.le j
   split
   ·rename_i e;subst e;grind
   ·exact this
  ·show 0≤st.2-mn (st.1 i) st.2;grind
 ·exact h
theorem zu.fold{W:Nat->Bool}{L:Ls}{s:Rat}(hL:∀i,0≤L i):∀{ord:List Nat} {st:Ls×Rat},zu L s st->zu L s (ord.foldl (cr W) st)
 | [],_,h=>h
 |i::ord,st,h=>zu.fold hL (ord:=ord) (h.step hL i)
theorem nL{st:Ls×Rat}(h:j≠i):(cr W st i).1 j=st.1 j:=by
 unfold cr
 split
 ·show gI st.1 i _ j=_;unfold gI;rw[if_neg h]
 ·rfl
theorem oI{W:Nat->Bool}{j:Nat}:∀{ord:List Nat} {st:Ls×Rat},j∉ord->(ord.foldl (cr W) st).1 j=st.1 j
 | [],_,_=>rfl
 |i::ord,st,h=>by
  rw[R7,oI (λz=>h (QP _ z)),nL (λz=>h (by rw[z];exact QL))]
theorem Ab{st:Ls×Rat}(hi:i<n):sQ (cr W st i).1 (Qv n)-(cr W st i).2=sQ st.1 (Qv n)-st.2:=by
 unfold cr
 split
 ·show sQ (gI st.1 i (st.1 i-mn (st.1 i) st.2)) (Qv n)-(st.2-mn (st.1 i) st.2)=_;have key:∀(m:Nat) (x:Rat),sQ (gI st.1 i x) (Qv m)=sQ st.1 (Qv m)+(if i<m then x-st.1 i else 0):=by
   intro m x
   induction m with
   |zero=>show(0:Rat)=0+(if i<0 then _ else 0);rw[if_neg (Ta _)];grind
   |succ m ih=>
    rw[Sf,dW,dW,ih];show sQ st.1 (Qv m)+_+(gI st.1 i x m+0)=sQ st.1 (Qv m)+(st.1 m+0)+_;unfold gI;by_cases c:i<m
    ·rw[if_pos c,if_neg ω,if_pos ω];grind
    ·rw[if_neg c];by_cases e:m=i
     ·subst e;rw[if_pos Z,if_pos ω];grind
     ·rw[if_neg e,if_neg ω];grind
  rw[key,if_pos hi];grind
 ·rfl
theorem uv{W:Nat->Bool}{n:Nat}:∀{ord:List Nat} {st:Ls×Rat},(∀i∈ord,i<n)->sQ (ord.foldl (cr W) st).1 (Qv n)-(ord.foldl (cr W) st).2=sQ st.1 (Qv n)-st.2
 | [],_,_=>rfl
 |i::ord,st,h=>by
  rw[R7,uv (λj hj=>h j (QP _ hj)),Ab (h i QL)]
theorem xY{st:Ls×Rat}(h0:0≤st.1 i)(hr:st.2=0):(cr W st i).1=st.1/\(cr W st i).2=0:=by
 unfold cr
 split
 ·have e:mn (st.1 i) st.2=0:=by
   rw[hr];rcases Gf (st.1 i) 0 with z|z
   ·have:=CF (st.1 i) 0;rw[z] at this ⊢;grind
   ·exact z
  rw[e];refine⟨?_,?_⟩
  ·show gI st.1 i (st.1 i-0)=st.1
   funext j
   unfold gI
   split
   ·rename_i z;subst z;grind
   ·rfl
  ·show st.2-0=0;grind
 ·exact⟨Z,hr⟩
theorem qc{W:Nat->Bool}:∀{ord:List Nat} {st:Ls×Rat},(∀i,0≤st.1 i)->st.2=0->(ord.foldl (cr W) st).1=st.1/\(ord.foldl (cr W) st).2=0
 | [],_,_,hr=>⟨Z,hr⟩
 |i::ord,st,h0,hr=>by
  obtain⟨e1,e2⟩:=xY (W:=W) (h0 i) hr;rw[R7];have:=qc (W:=W) (ord:=ord) (st:=cr W st i) (by rw[e1];exact h0) e2;rw[e1] at this;exact this
theorem pN(hL:∀j,0≤L j)(hs:0≤s)(nd:(l1++i:: l2).Nodup)(hW:W i=true)(hl:0<(eK W (l1++i:: l2) L s).1 i):
  (eK W (l1++i:: l2) L s).2=0/\∀j,j∉l1->j≠i->(eK W (l1++i:: l2) L s).1 j=L j:=by
 have e:eK W (l1++i::l2) L s=l2.foldl (cr W) (cr W (l1.foldl (cr W) (L,s)) i):=by
  unfold eK;rw[VP,R7]
 have i0:zu L s (L,s):=⟨λ_ h=>h,λ_=>RM,hs⟩;have i1:=i0.fold (W:=W) hL (ord:=l1);have i2:=i1.step (W:=W) hL i;obtain⟨n1,n2,n3⟩:=So.mp nd;have il2:i∉l2:=(RO.mp n2).1;rw[e] at hl ⊢;rw[oI il2] at hl;have offA:∀j,j∉l1->(l1.foldl (cr W) (L,s)).1 j=L j:=λj hj=>oI hj
 generalize l1.foldl (cr W) (L,s)=A at *;have room:(cr W A i).2=0:=by
  unfold cr at hl ⊢;rw[if_pos hW] at hl ⊢;show A.2-mn (A.1 i) A.2=0;have hl':0<A.1 i-mn (A.1 i) A.2:=by
   have:0<gI A.1 i (A.1 i-mn (A.1 i) A.2) i:=hl;unfold gI at this;rw[if_pos Z] at this;exact this
  rcases Gf (A.1 i) A.2 with z|z
  ·rw[z] at hl';grind
  ·rw[z];grind
 obtain⟨e1,e2⟩:=qc (W:=W) (ord:=l2) (st:=cr W A i) (λj=>i2.nn j (hL j)) room;refine⟨e2,λj hj hji=>?_⟩;rw[e1,nL hji];exact offA j hj
theorem sU{W:Nat->Bool}{i:Nat}(h:W i=false):∀{ord:List Nat} {st:Ls×Rat},(ord.foldl (cr W) st).1 i=st.1 i
 | [],_=>rfl
 |j::ord,st=>by
  rw[R7,sU h (ord:=ord)];by_cases c:i=j
  ·subst c;unfold cr;rw[if_neg (by rw[h];exact Q4)]
  ·exact nL c
theorem rj{α β:Type}(f:α->β->Rat)(m:List β):∀l:List α,sQ (λx=>sQ (λy=>f x y) m) l=sQ (λy=>sQ (λx=>f x y) l) m
 | []=>by
  show(0:Rat)=sQ (λ_=>(0:Rat)) m;have e:sQ (λ_:β=>(0:Rat)) m=sQ (λy:β=>0*((λ_=>(0:Rat)) y)) m:=aO λ_ _=>by grind
  rw[e,cM];grind
 |x::l=>by
  show sQ (λy=>f x y) m+sQ (λx=>sQ (λy=>f x y) m) l=sQ (λy=>f x y+sQ (λx=>f x y) l) m;rw[rj f m l,cV]
theorem Hq(hi:i<n)(c:Rat):sQ (λj=>if j=i then c else 0) (Qv n)=c:=by
 have key:∀m:Nat,sQ (λj=>if j=i then c else 0) (Qv m)=if i<m then c else 0:=by
  intro m
  induction m with
  |zero=>show(0:Rat)=_;rw[if_neg (Ta _)]
  |succ m ih=>
   rw[Sf,dW,ih];show _+((if m=i then c else 0)+0)=_;by_cases e:m=i
   ·subst e;rw[if_neg (RY _),if_pos Z,if_pos (Nat.lt_succ_self _)];grind
   ·by_cases l:i<m
    ·rw[if_pos l,if_neg e,if_pos ω];grind
    ·rw[if_neg l,if_neg e,if_neg ω];grind
 rw[key,if_pos hi]
theorem wG(g:Nat->Rat)(b:Nat):∀N,b≤N->sQ (λt=>bG (decide (b≤t)) (g t-g (t+1))) (Qv N)=g b-g N:=by
 intro N
 induction N with
 |zero=>intro h;rw[show b=0 by omega];show(0:Rat)=_;grind
 |succ N ih=>
  intro h;rw[Sf,dW];show _+(bG (decide (b≤N)) (g N-g (N+1))+0)=_;by_cases c:b≤N
  ·rw[ih c,decide_eq_true c,cy];grind
  ·have e:b=N+1:=ω
   have z:sQ (λt=>bG (decide (b≤t)) (g t-g (t+1))) (Qv N)=sQ (λ_:Nat=>0*(0:Rat)) (Qv N):=aO λt ht=>by
    have:=QH.mp ht;rw[decide_eq_false ω,bS];grind
   rw[z,cM,decide_eq_false c,bS,e];grind
theorem D6(g:Nat->Rat)(d:Nat):∀k,sQ (λt=>bG (decide (t≤d)) (g t)) (Qv (d+1+k))=sQ g (Qv (d+1)):=by
 intro k
 induction k with
 |zero=>exact aO λt ht=>by have:=QH.mp ht;rw[decide_eq_true ω,cy]
 |succ k ih=>
  rw[show d+1+(k+1)=(d+1+k)+1 by omega,Sf,dW,ih];show _+(bG (decide (d+1+k≤d)) _+0)=_;rw[decide_eq_false ω,bS];grind
def Wt(f l:Nat->Nat)(t i:Nat):Bool:=decide (f i≤t)&&decide (t≤l i)
def cN(ord:List Nat)(f l:Nat->Nat)(a:Ls)(s:Nat->Rat):Nat->Ls
 |0=>a
 |t+1=>(eK (Wt f l t) ord (cN ord f l a s t) (s t)).1
structure eO(n:Nat)(ord:List Nat)(f l:Nat->Nat)(a:Ls)(s:Nat->Rat):Prop where
 nd:ord.Nodup
 mem:∀i,i∈ord↔i<n
 srt:ord.Pairwise (λi j=>l i≤l j)
 win:∀i,i<n->f i≤l i/\l i<24
 an:∀i,0≤a i
 sn:∀t,0≤s t
 cap:∀b d,b≤d->d<24->sQ (λj=>bG (decide (b≤f j)&&decide (l j≤d)) (a j)) (Qv n)≤sQ (λt=>bG (decide (t≤d)) (bG (decide (b≤t)) (s t))) (Qv 24)
section
variable {n:Nat}{ord:List Nat}{f l:Nat->Nat}{a:Ls}{s:Nat->Rat}
theorem eO.sti(h:eO n ord f l a s)(hL:∀i,0≤L i)(t:Nat):zu L (s t) (eK (Wt f l t) ord L (s t)):=zu.fold hL ⟨λ_ h=>h,λ_=>RM,h.sn t⟩
theorem eO.nn(h:eO n ord f l a s):∀t i,0≤cN ord f l a s t i
 |0,i=>h.an i
 |t+1,i=>(h.sti (h.nn t) t).nn i (h.nn t i)
theorem eO.dn(h:eO n ord f l a s)(t i:Nat):cN ord f l a s (t+1) i≤cN ord f l a s t i:=(h.sti (h.nn t) t).le i
theorem eO.dn'(h:eO n ord f l a s)(t i:Nat):∀k,cN ord f l a s (t+k) i≤cN ord f l a s t i
 |0=>RM
 |k+1=>Rat.le_trans (h.dn (t+k) i) (h.dn' t i k)
theorem eO.out(h:eO n ord f l a s)(hw:Wt f l t i=false):cN ord f l a s (t+1) i=cN ord f l a s t i:=sU hw
theorem eO.sum(h:eO n ord f l a s)(t:Nat):sQ (λj=>cN ord f l a s t j-cN ord f l a s (t+1) j) (Qv n)=s t-(eK (Wt f l t) ord (cN ord f l a s t) (s t)).2:=by
 have q:=uv (W:=Wt f l t) (n:=n) (ord:=ord) (st:=(cN ord f l a s t,s t)) λi hi=>(h.mem i).mp hi
 have e:sQ (λj=>cN ord f l a s t j-cN ord f l a s (t+1) j) (Qv n)=sQ (cN ord f l a s t) (Qv n)-sQ (cN ord f l a s (t+1)) (Qv n):=by
  have e1:=cV (f:=λj=>cN ord f l a s t j-cN ord f l a s (t+1) j) (g:=cN ord f l a s (t+1)) (Qv n);have e2:sQ (λx=>cN ord f l a s t x-cN ord f l a s (t+1) x+cN ord f l a s (t+1) x) (Qv n)=sQ (cN ord f l a s t) (Qv n):=aO λx _=>by grind
  grind
 rw[e];have q':sQ (cN ord f l a s (t+1)) (Qv n)-(eK (Wt f l t) ord (cN ord f l a s t) (s t)).2=sQ (cN ord f l a s t) (Qv n)-s t:=q;grind
theorem eO.all_le(h:eO n ord f l a s)(t:Nat):sQ (λj=>cN ord f l a s t j-cN ord f l a s (t+1) j) (Qv n)≤s t:=by
 rw[h.sum];have:=(h.sti (h.nn t) t).rm;grind
theorem eO.full(h:eO n ord f l a s)(hi:i<n)(hw:Wt f l t i=true)(hl:0<cN ord f l a s (t+1) i):sQ (λj=>bG (decide (l j≤l i)) (cN ord f l a s t j-cN ord f l a s (t+1) j)) (Qv n)=s t:=by
 obtain⟨l1,l2,e⟩:=Vy ((h.mem i).mpr hi);have nd:=h.nd;have srt:=h.srt;rw[e] at nd srt;have hl':0<(eK (Wt f l t) (l1++i::l2) (cN ord f l a s t) (s t)).1 i:=by rw[←e];exact hl
 obtain⟨r0,keep⟩:=pN (h.nn t) (h.sn t) nd hw hl';rw[←e] at r0 keep;have sm:=h.sum t;rw[r0] at sm;have e2:sQ (λj=>bG (decide (l j≤l i)) (cN ord f l a s t j-cN ord f l a s (t+1) j)) (Qv n)=sQ (λj=>cN ord f l a s t j-cN ord f l a s (t+1) j) (Qv n):=aO λj _=>by
  by_cases c:l j≤l i
  ·rw[decide_eq_true c,cy]
  ·rw[decide_eq_false c,bS];have j1:j∉l1:=λz=>c ((V3.mp srt).2.2 j z i QL)
   have j2:j≠i:=λz=>c (by rw[z];exact QB _)
   have k:cN ord f l a s (t+1) j=cN ord f l a s t j:=keep j j1 j2;rw[k];grind
 rw[e2,sm];grind
theorem No(h:eO n ord f l a s)(hi:i<n):cN ord f l a s 24 i=0:=by
 by_cases z:cN ord f l a s 24 i=0
 ·exact z
 exfalso;have pos:0<cN ord f l a s 24 i:=by
  have:=h.nn 24 i;grind
 obtain⟨w1,w2⟩:=h.win i hi;have later:∀t,t≤24->0<cN ord f l a s t i:=λt ht=>by
  have:=h.dn' t i (24-t);rw[show t+(24-t)=24 by omega] at this;grind
 let P:Nat->Bool:=λt=>decide (sQ (λj=>bG (decide (l j≤l i)) (cN ord f l a s t j-cN ord f l a s (t+1) j)) (Qv n)=s t)
 have Pin:∀t,f i≤t->t≤l i->P t=true:=λt h1 h2=>decide_eq_true (h.full hi (by unfold Wt;rw[decide_eq_true h1,decide_eq_true h2];rfl) (later (t+1) ω))
 obtain⟨b,hb,hrun,hend⟩:=n6 P (l i+1);have bf:b≤f i:=by
  by_cases c:b≤f i
  ·exact c
  ·rcases hend with e|e
   ·omega
   ·rw[Pin (b-1) ω ω] at e;cases e
 have early:∀j,j<n->l j≤l i->f j<b->cN ord f l a s b j-cN ord f l a s (l i+1) j=0:=λj hj h1 h2=>by
  have e:P (b-1)=false:=by
   rcases hend with e|e
   ·omega
   ·exact e
  by_cases c:b-1≤l j
  ·have z0:cN ord f l a s b j=0:=by
    by_cases zz:cN ord f l a s b j=0
    ·exact zz
    exfalso;have nb:=h.nn b j;have fl:=h.full (t:=b-1) hj (by unfold Wt;rw[decide_eq_true (show f j≤b-1 by omega),decide_eq_true c];rfl) (by rw[show b-1+1=b by omega];grind);have m:sQ (λk=>bG (decide (l k≤l j)) (cN ord f l a s (b-1) k-cN ord f l a s (b-1+1) k)) (Qv n)≤sQ (λk=>bG (decide (l k≤l i)) (cN ord f l a s (b-1) k-cN ord f l a s (b-1+1) k)) (Qv n):=iu λk _=>lW (by have:=h.dn (b-1) k;grind) λq=>decide_eq_true (by have:=of_decide_eq_true q;omega)
    have m2:sQ (λk=>bG (decide (l k≤l i)) (cN ord f l a s (b-1) k-cN ord f l a s (b-1+1) k)) (Qv n)≤sQ (λk=>cN ord f l a s (b-1) k-cN ord f l a s (b-1+1) k) (Qv n):=iu λk _=>by
     have:=h.dn (b-1) k
     cases decide (l k≤l i) with
     |true=>exact RM
     |false=>rw[bS];grind
    have m3:=h.all_le (b-1);have:P (b-1)=true:=decide_eq_true (by grind);rw[this] at e
    cases e
   have d1:=h.dn' b j (l i+1-b);rw[show b+(l i+1-b)=l i+1 by omega] at d1;have d2:=h.nn (l i+1) j;grind
  ·have st:∀k,cN ord f l a s (b+k) j=cN ord f l a s b j:=λk=>by
    induction k with
    |zero=>rfl
    |succ k ih=>
     rw[←ih];exact h.out (t:=b+k) (by unfold Wt;rw[decide_eq_false (show ¬b+k≤l j by omega),R1])
   have:=st (l i+1-b);rw[show b+(l i+1-b)=l i+1 by omega] at this;rw[this];grind
 have tot:sQ (λt=>bG (decide (b≤t)) (s t)) (Qv (l i+1))=sQ (λj=>bG (decide (l j≤l i)) (cN ord f l a s b j-cN ord f l a s (l i+1) j)) (Qv n):=by
  have e1:sQ (λt=>bG (decide (b≤t)) (s t)) (Qv (l i+1))=sQ (λt=>sQ (λj=>bG (decide (l j≤l i)) (bG (decide (b≤t)) (cN ord f l a s t j-cN ord f l a s (t+1) j))) (Qv n)) (Qv (l i+1)):=aO λt ht=>by
   have tl:=QH.mp ht;by_cases c:b≤t
   ·rw[decide_eq_true c,cy,←of_decide_eq_true (hrun t c tl)];exact aO λj _=>by rw[cy]
   ·rw[decide_eq_false c,bS];have e:sQ (λj=>bG (decide (l j≤l i)) (bG false (cN ord f l a s t j-cN ord f l a s (t+1) j))) (Qv n)=sQ (λ_:Nat=>0*(0:Rat)) (Qv n):=aO λj _=>by
     rw[bS]
     cases decide (l j≤l i) with
     |true=>rw[cy];grind
     |false=>rw[bS];grind
    rw[e,cM];grind
  rw[e1,rj];exact aO λj _=>by
   cases decide (l j≤l i) with
   |true=>
    have:=wG (λt=>cN ord f l a s t j) b (l i+1) hb;rw[cy,←this];exact aO λt _=>by rw[cy]
   |false=>
    rw[bS];have e:sQ (λt=>bG false (bG (decide (b≤t)) (cN ord f l a s t j-cN ord f l a s (t+1) j))) (Qv (l i+1))=sQ (λ_:Nat=>0*(0:Rat)) (Qv (l i+1)):=aO λt _=>by rw[bS];grind
    rw[e,cM];grind
 have le:sQ (λj=>bG (decide (l j≤l i)) (cN ord f l a s b j-cN ord f l a s (l i+1) j)+(if j=i then cN ord f l a s (l i+1) i else 0)) (Qv n)≤sQ (λj=>bG (decide (b≤f j)&&decide (l j≤l i)) (a j)) (Qv n):=iu λj hj=>by
  have jn:=QH.mp hj;by_cases c1:l j≤l i
  ·rw[decide_eq_true c1,cy,W2];by_cases c2:b≤f j
   ·rw[decide_eq_true c2,cy];have d1:=h.dn' 0 j b;rw[Wp] at d1;have d1':cN ord f l a s b j≤a j:=d1;have d2:=h.nn (l i+1) j;by_cases e:j=i
    ·subst e;rw[if_pos Z];grind
    ·rw[if_neg e];grind
   ·rw[decide_eq_false c2,bS,early j jn c1 ω,if_neg (λe=>c2 (by rw[e];exact bf))];grind
  ·rw[decide_eq_false c1,bS,R1,bS,if_neg (λe=>c1 (by rw[e];exact QB _))];grind
 rw[cV,Hq hi,←tot] at le;have cp:=h.cap b (l i) ω w2;have up:=D6 (λt=>bG (decide (b≤t)) (s t)) (l i) (24-(l i+1));rw[show l i+1+(24-(l i+1))=24 by omega] at up;rw[up] at cp;have:=later (l i+1) ω;grind
end
def df(l:List R):Ls:=λj=>val (l.getD j (0,1))
theorem np:val ((0,1):R)=0:=(km (r:=(0,1)) δ).mpr Z
theorem Ju(ha:eT a)(hb:eT b):mn (val a) (val b)=val (fL a b):=by
 unfold fL mn
 cases c:dI b a with
 |true=>
  rw[if_pos Z,if_neg];have:=(nA hb.bq.pos ha.bq.pos).mp c;exact XU.mpr this
 |false=>
  rw[if_neg Q4,if_pos];exact(jg hb.bq.pos ha.bq.pos).mp c
theorem DO(hi:i<l.length)(x:R):df (l.set i x)=gI (df l) i (val x):=by
 funext j
 unfold df gI;rw[QQ,List.getElem?_set];by_cases c:j=i
 ·subst c;rw[if_pos Z,if_pos Z,if_pos hi];rfl
 ·rw[if_neg (λz=>c z.symm),if_neg c,←QQ]
theorem Aa{ws:List Wk}{st:zG}(h:xQ n st)(hi:i<n):(df (cE ws t st i).1,val (cE ws t st i).2.1)=cr (λj=>gE (ws.getD j b9) t) (df st.1,val st.2.1) i:=by
 have al:=c6 (n:=n) h.lf i;have e:=Ju al h.rm;have eL:df st.1 i=val (st.1.getD i (0,1)):=Z;unfold cE cr;dsimp only;by_cases c:gE (ws.getD i b9) t=true
 ·rw[if_pos c];show _=(gI (df st.1) i (df st.1 i-mn (df st.1 i) (val st.2.1)),val st.2.1-mn (df st.1 i) (val st.2.1));rw[eL,e];by_cases z:fL (st.1.getD i (0,1)) st.2.1=(0,1)
  ·rw[if_neg (λq=>q.2 z),z,np];have e1:gI (df st.1) i (val (st.1.getD i (0,1))-0)=df st.1:=by
    funext j
    unfold gI
    split
    ·rename_i q;subst q;show _-0=val _;grind
    ·rfl
   rw[e1];have e2:val st.2.1-0=val st.2.1:=by grind
   rw[e2]
  ·rw[if_pos ⟨c,z⟩];have la:=rR al h.rm;show(df (st.1.set i _),val (cY st.2.1 _))=_;rw[DO (by rw[h.len];exact hi),gH al.bq.pos la.bq.pos,gH h.rm.bq.pos la.bq.pos]
 ·rw[if_neg (λz=>c z.1),if_neg c]
theorem kN{ws:List Wk}{n t:Nat}:∀{ord:List Nat} {st:zG},xQ n st->(∀i∈ord,i<n)->(df (ord.foldl (cE ws t) st).1,val (ord.foldl (cE ws t) st).2.1)=ord.foldl (cr (λj=>gE (ws.getD j b9) t)) (df st.1,val st.2.1)
 | [],_,_,_=>rfl
 |i::ord,st,h,hl=>by
  rw[R7,R7,←Aa h (hl i QL)];exact kN (h.step (ws:=ws) (t:=t) (hl i QL)).1 λj hj=>hl j (QP _ hj)
abbrev fW(ws:List Wk)(i:Nat):Nat:=(ws.getD i b9).1
abbrev aW(ws:List Wk):Ls:=df (ws.map λw=>w.2.2)
theorem kI{ws:List Wk}{ord:List Nat}{ss:List R}(okw:∀w∈ws,bn w)(ho:∀i∈ord,i<ws.length)(hs:∀r∈ss,eT r):∀t,df (bg ws ord ss t).1=cN ord (fW ws) (bo ws) (aW ws) (df ss) t
 |0=>rfl
 |t+1=>by
  obtain⟨h,hl⟩:=fJ okw ho hs t;have d:xQ ws.length ((bg ws ord ss t).1,ss.getD t (0,1),[]):=⟨h.len,h.lf,c6 (n:=0) hs t,λp hp=>by cases hp⟩;have q:=kN (ws:=ws) (t:=t) d ho;have e:=congrArg Prod.fst q;show df (ord.foldl (cE ws t) ((bg ws ord ss t).1,ss.getD t (0,1),[])).1=(eK (Wt (fW ws) (bo ws) t) ord (cN ord (fW ws) (bo ws) (aW ws) (df ss) t) (df ss t)).1;rw[←kI okw ho hs t];exact e
theorem lQ{ws:List Wk}{es:List Ln}(rk:mD ws.length es):∀k,k≤ws.length->(aS ws es k).Nodup
 |0,_=>UD
 |k+1,h=>by
  have oi:=dS (es:=es) rk k ω;show(aS ws es k++[_]).Nodup;rw[So];refine⟨lQ rk k ω,RO.mpr ⟨by simp,UD⟩,λa ha b hb z=>?_⟩;have m:=oB (ws:=ws) rk (oi.ne ω);rw[QK.mp hb] at z;subst z;exact(fe.mp m).2 ha
theorem rJ(rk:mD ws.length es)(i:Nat):i∈aS ws es ws.length↔i<ws.length:=by
 have oi:=dS (es:=es) rk ws.length (QB _);refine⟨oi.lt i,λh=>?_⟩;by_cases c:i∈aS ws es ws.length
 ·exact c
 ·have:i∈ck ws.length (aS ws es ws.length):=fe.mpr ⟨h,c⟩;have l:=oi.wl;have e:(ck ws.length (aS ws es ws.length)).length=0:=ω
  rw[List.length_eq_zero_iff.mp e] at this
  cases this
theorem wL{ws:List Wk}{es:List Ln}(rk:mD ws.length es):∀k,k≤ws.length->(aS ws es k).Pairwise (λi j=>bo ws i≤bo ws j)/\∀i∈aS ws es k,∀j,j<ws.length->j∉aS ws es k->bo ws i≤bo ws j
 |0,_=>⟨.nil,λi hi=>absurd (show i∈([]:List Nat) from hi) (by simp)⟩
 |k+1,h=>by
  obtain⟨p,q⟩:=wL (es:=es) rk k ω;have oi:=dS (es:=es) rk k ω;have ne:=oi.ne ω;have m:=oB (ws:=ws) rk ne;have ml:∀j,j<ws.length->j∉aS ws es k->bo ws (iU ws es (ck ws.length (aS ws es k)))≤bo ws j:=λj h1 h2=>by
   have a:=QC (m8 (ws:=ws) rk ne);exact(gN.mp (Q3.mp a).1).2 j (fe.mpr ⟨h1,h2⟩)
  refine⟨?_,λi hi j hj nj=>?_⟩
  ·show(aS ws es k++[_]).Pairwise _;rw[V3];exact⟨p,List.pairwise_singleton _ _,λa ha b hb=>by rw[QK.mp hb];exact q a ha _ (fe.mp m).1 (fe.mp m).2⟩
  ·have nj':j∉aS ws es k:=λz=>nj (Rt _ z)
   rcases Q6.mp (show i∈aS ws es k++[_] from hi) with z|z
   ·exact q i z j hj nj'
   ·rw[QK.mp z];exact ml j hj nj'
theorem JG(h:bn w)(b d:Nat)(hd:d<24):fk (λt=>decide (b≤t)&&decide (t≤d)) w=(decide (b≤w.1)&&decide (w.2.1≤d)):=by
 have h1:=h.le;have h2:=h.lt;rw[Su,cZ,Ra,decide_eq_true_iff,decide_eq_true_iff];constructor
 ·intro q;have a:=q w.1 ω (by unfold gE;rw[decide_eq_true (QB _),decide_eq_true h1];rfl);have c:=q w.2.1 h2 (by unfold gE;rw[decide_eq_true h1,decide_eq_true (QB _)];rfl);rw[Ra,decide_eq_true_iff,decide_eq_true_iff] at a c;exact⟨a.1,c.2⟩
 ·rintro⟨q1,q2⟩ t ht it;unfold gE at it;rw[Ra,decide_eq_true_iff,decide_eq_true_iff] at it;rw[Ra,decide_eq_true_iff,decide_eq_true_iff];omega
theorem xM(h:i<ws.length):aW ws i=iy (ws.getD i b9):=by
 unfold aW df iy;rw[aB (0,1) (show(ws.map λw=>w.2.2)[i]?=some ws[i].2.2 by rw[QJ,Qw h];rfl),aB b9 (Qw h)]
theorem vX(ok:∀w∈ws,bn w)(rk:mD ws.length es)(h:gU ws (Qv 24) lys):eO ws.length (aS ws es ws.length) (fW ws) (bo ws) (aW ws) (df (aU ws lys)) where
 nd:=lQ rk _ (QB _)
 mem:=rJ rk
 srt:=(wL rk _ (QB _)).1
 win:=λi hi=>by
  have o:=ok _ (RA hi);unfold fW bo;rw[aB b9 (Qw hi)];exact⟨o.le,o.lt⟩
 an:=λi=>by
  by_cases c:i<ws.length
  ·rw[xM c];refine mC ok _ ?_;rw[aB b9 (Qw c)];exact RA c
  ·unfold aW df;rw[QQ,R5 (by rw[Qz];omega)];show 0≤val ((0,1):R);rw[np];exact RM
 sn:=λt=>by
  by_cases c:t<24
  ·show 0≤val ((aU ws lys).getD t (0,1));rw[gh h c];exact qW ok h t
  ·have e24:(aU ws lys).length=24:=by
    unfold aU;rw[gi];rfl
   unfold df;rw[QQ,R5 ω];show 0≤val ((0,1):R);rw[np];exact RM
 cap:=λb d hb hd=>by
  have c:=cap ok h (λ_=>true) (λt=>decide (b≤t)&&decide (t≤d)) (RP.mpr λ_ _=>Z).symm (λt _ z=>by cases z);have e0:FM ws (λt=>!(λ_=>true) t)=0:=ju ok;rw[e0] at c;have e1:FM ws (λt=>decide (b≤t)&&decide (t≤d))=sQ (λj=>bG (decide (b≤fW ws j)&&decide (bo ws j≤d)) (aW ws j)) (Qv ws.length):=by
   unfold FM;rw[ib b9];exact aO λj hj=>by
    have jl:=QH.mp hj;rw[JG (by rw[aB b9 (Qw jl)];exact ok _ (RA jl)) b d hd,xM jl];rfl
  have e2:sQ (λt=>bG (true&&(decide (b≤t)&&decide (t≤d))) (dk ws lys t)) (Qv 24)=sQ (λt=>bG (decide (t≤d)) (bG (decide (b≤t)) (df (aU ws lys) t))) (Qv 24):=aO λt ht=>by
   have tl:=QH.mp ht;have ev:df (aU ws lys) t=dk ws lys t:=gh h tl _;rw[ev]
   cases decide (b≤t)<;>cases decide (t≤d)<;>rfl
  rw[←e1,←e2];grind
theorem yx(ok:∀w∈ws,bn w)(rk:mD ws.length es)(h:gU ws (Qv 24) lys)(hs:∀r∈aU ws lys,eT r):oF (dM ws es (aU ws lys)).1=none:=by
 have oi:=dS (es:=es) rk ws.length (QB _);obtain⟨po,_⟩:=fJ (ord:=aS ws es ws.length) (ss:=aU ws lys) ok oi.lt hs 24;refine yD λj hj=>?_
 have jn:j<ws.length:=by rw[←po.len];exact hj
 have e:=No (vX (es:=es) ok rk h) jn;rw[←kI ok oi.lt hs 24] at e;have a:=c6 (n:=0) po.lf j;have e':val ((dM ws es (aU ws lys)).1.getD j (0,1))=0:=e;have z:=(km a.bq.pos).mp e';have r:=a.red;refine hV r ⟨δ,δ⟩ ?_;rw[np];exact e'
structure FK(ws:List Wk)(n t:Nat)(L0:List R)(s:R)(seen:List Nat)(st:zG):Prop where
 ok:xQ n st
 sub:(st.2.2.map (·.1)).Sublist seen
 pc:∀i r,(i,r)∈st.2.2->gE (ws.getD i b9) t=true/\eT r/\0<val r/\val r=df L0 i-df st.1 i
 un:∀i,i∉st.2.2.map (·.1)->st.1.getD i (0,1)=L0.getD i (0,1)
 sum:sQ (λp:Pc=>val p.2) st.2.2+val st.2.1=val s
theorem FF(h:eT r)(hz:r≠(0,1)):0<val r:=by
 have n:=(jO h.bq.pos).mpr h.nn;by_cases z:val r=0
 ·exfalso;refine hz (hV h.red ⟨δ,δ⟩ ?_);rw[np];exact z
 ·grind
theorem FK.step{ws:List Wk}{n t i:Nat}{L0:List R}{s:R}{seen:List Nat}{st:zG}(h:FK ws n t L0 s seen st)(hi:i<n)(ni:i∉seen):FK ws n t L0 s (seen++[i]) (cE ws t st i):=by
 have d1:=(h.ok.step (ws:=ws) (t:=t) hi).1;have nf:i∉st.2.2.map (·.1):=λz=>ni (h.sub.subset z)
 have al:=c6 (n:=n) h.ok.lf i;have la:=rR al h.ok.rm;by_cases c:gE (ws.getD i b9) t=true/\fL (st.1.getD i (0,1)) st.2.1≠(0,1)
 ·have e:cE ws t st i=(st.1.set i (cY (st.1.getD i (0,1)) (fL (st.1.getD i (0,1)) st.2.1)),cY st.2.1 (fL (st.1.getD i (0,1)) st.2.1),st.2.2++[(i,fL (st.1.getD i (0,1)) st.2.1)]):=by
   unfold cE;rw[if_pos c]
  have u0:=h.un i nf;rw[e] at d1 ⊢;have il:i<st.1.length:=by rw[h.ok.len];exact hi
  have off:∀j x,j≠i->(st.1.set i x).getD j (0,1)=st.1.getD j (0,1):=λj x hj=>by
   rw[QQ,SG (λz=>hj z.symm),←QQ]
  have on:∀x,(st.1.set i x).getD i (0,1)=x:=λx=>by
   rw[QQ,Uc il];rfl
  refine⟨d1,?_,λj r hj=>?_,λj hj=>?_,?_⟩
  ·show((st.2.2++[(i,fL (st.1.getD i (0,1)) st.2.1)]).map (λp:Pc=>p.1)).Sublist _;rw[RW];exact Zo.append h.sub (Zp _)
  ·rcases Q6.mp hj with z|z
   ·obtain⟨a1,a2,a3,a4⟩:=h.pc j r z;have jn:j≠i:=λq=>nf (by rw[←q];exact QU.mpr ⟨_,z,Z⟩)
    refine⟨a1,a2,a3,?_⟩;show val r=df L0 j-val ((st.1.set i _).getD j (0,1));rw[off j _ jn];exact a4
   ·cases QK.mp z
    refine⟨c.1,la,FF la c.2,?_⟩;show val (fL (st.1.getD i (0,1)) st.2.1)=val (L0.getD i (0,1))-val ((st.1.set i _).getD i (0,1));rw[on,gH al.bq.pos la.bq.pos,u0];grind
  ·have hj':j∉(st.2.2++[(i,fL (st.1.getD i (0,1)) st.2.1)]).map (·.1):=hj;rw[RW] at hj';have jn:j≠i:=λq=>hj' (Ro _ (by rw[q];exact QL))
   show(st.1.set i _).getD j (0,1)=_;rw[off j _ jn];exact h.un j λz=>hj' (Rt _ z)
  ·show sQ (λp:Pc=>val p.2) (st.2.2++[_])+val (cY st.2.1 _)=val s;rw[dW,gH h.ok.rm.bq.pos la.bq.pos];have:=h.sum;show _+(val (fL (st.1.getD i (0,1)) st.2.1)+0)+_=_;grind
 ·have e:cE ws t st i=st:=by
   unfold cE;rw[if_neg c]
  rw[e];exact⟨h.ok,h.sub.trans (List.sublist_append_left _ _),h.pc,h.un,h.sum⟩
theorem FK.fold{ws:List Wk}{n t:Nat}{L0:List R}{s:R}:∀{ord seen:List Nat} {st:zG},FK ws n t L0 s seen st->(∀i∈ord,i<n)->(seen++ord).Nodup->FK ws n t L0 s (seen++ord) (ord.foldl (cE ws t) st)
 | [],seen,st,h,_,_=>by rw[R6];exact h
 |i::ord,seen,st,h,hl,nd=>by
  have e:seen++i::ord=(seen++[i])++ord:=by simp
  rw[e] at nd ⊢;have ni:i∉seen:=λz=>(So.mp (So.mp nd).1).2.2 i z i QL Z
  exact FK.fold (h.step (hl i QL) ni) (λj hj=>hl j (QP _ hj)) nd
theorem rH(okw:∀w∈ws,bn w)(ho:∀i∈ord,i<ws.length)(nd:ord.Nodup)(hs:∀r∈ss,eT r)(t:Nat):FK ws ws.length t (bg ws ord ss t).1 (ss.getD t (0,1)) ord (d9 ws ord t (bg ws ord ss t).1 (ss.getD t (0,1))):=by
 obtain⟨h,hl⟩:=fJ okw ho hs t;have d:xQ ws.length ((bg ws ord ss t).1,ss.getD t (0,1),[]):=⟨h.len,h.lf,c6 (n:=0) hs t,λp hp=>by cases hp⟩;have q:FK ws ws.length t (bg ws ord ss t).1 (ss.getD t (0,1)) [] ((bg ws ord ss t).1,ss.getD t (0,1),[]):=⟨d,Zp _,(λi r hr=>by cases hr),(λi _=>Z),by show(0:Rat)+_=_;grind⟩;exact q.fold ho nd
theorem iP{α:Type}{f:α->Rat}:∀{l:List α},(∀x∈l,0≤f x)->sQ f l=0->∀x∈l,f x=0
 | [],_,_,x,hx=>by cases hx
 |y::l,h,e,x,hx=>by
  have h1:=h y QL;have h2:=pV (f:=f) (l:=l) λz hz=>h z (QP _ hz)
  have e':f y+sQ f l=0:=e;rcases QR.mp hx with z|z
  ·rw[z];grind
  ·exact iP (λz hz=>h z (QP _ hz)) (by grind) x z
theorem Ho(l:List α):sQ (λx=>f x-g x) l=sQ f l-sQ g l:=by
 have e1:=cV (f:=λx=>f x-g x) (g:=g) l;have e2:sQ (λx=>f x-g x+g x) l=sQ f l:=aO λx _=>by grind
 grind
theorem Dv(ok:∀w∈ws,bn w)(rk:mD ws.length es)(h:gU ws (Qv 24) lys)(ht:t<24):(eK (Wt (fW ws) (bo ws) t) (aS ws es ws.length) (cN (aS ws es ws.length) (fW ws) (bo ws) (aW ws) (df (aU ws lys)) t) (df (aU ws lys) t)).2=0:=by
 have E:=vX (es:=es) ok rk h;have tot:sQ (λt=>(eK (Wt (fW ws) (bo ws) t) (aS ws es ws.length) (cN (aS ws es ws.length) (fW ws) (bo ws) (aW ws) (df (aU ws lys)) t) (df (aU ws lys) t)).2) (Qv 24)=0:=by
  have e1:sQ (λt=>(eK (Wt (fW ws) (bo ws) t) (aS ws es ws.length) (cN (aS ws es ws.length) (fW ws) (bo ws) (aW ws) (df (aU ws lys)) t) (df (aU ws lys) t)).2) (Qv 24)=sQ (λt=>df (aU ws lys) t-sQ (λj=>cN (aS ws es ws.length) (fW ws) (bo ws) (aW ws) (df (aU ws lys)) t j-cN (aS ws es ws.length) (fW ws) (bo ws) (aW ws) (df (aU ws lys)) (t+1) j) (Qv ws.length)) (Qv 24):=aO λt _=>by
   have:=E.sum t;grind
  rw[e1,Ho,rj];have e2:sQ (λj=>sQ (λt=>cN (aS ws es ws.length) (fW ws) (bo ws) (aW ws) (df (aU ws lys)) t j-cN (aS ws es ws.length) (fW ws) (bo ws) (aW ws) (df (aU ws lys)) (t+1) j) (Qv 24)) (Qv ws.length)=sQ (aW ws) (Qv ws.length):=aO λj hj=>by
   have te:=wG (λt=>cN (aS ws es ws.length) (fW ws) (bo ws) (aW ws) (df (aU ws lys)) t j) 0 24 δ;have z:=No E (QH.mp hj);have e:sQ (λt=>cN (aS ws es ws.length) (fW ws) (bo ws) (aW ws) (df (aU ws lys)) t j-cN (aS ws es ws.length) (fW ws) (bo ws) (aW ws) (df (aU ws lys)) (t+1) j) (Qv 24)=sQ (λt=>bG (decide (0≤t)) (cN (aS ws es ws.length) (fW ws) (bo ws) (aW ws) (df (aU ws lys)) t j-cN (aS ws es ws.length) (fW ws) (bo ws) (aW ws) (df (aU ws lys)) (t+1) j)) (Qv 24):=aO λt _=>by rw[decide_eq_true (Re _),cy]
   rw[e,te];rw[z];show aW ws j-0=aW ws j;grind
  have e3:sQ (df (aU ws lys)) (Qv 24)=sQ (aW ws) (Qv ws.length):=by
   have sa:=GI ok h (λ_=>true) (RP.mpr λ_ _=>Z).symm;have e0:FM ws (λt=>!(λ_=>true) t)=0:=ju ok;rw[e0,FQ,ib b9] at sa;have e4:sQ (df (aU ws lys)) (Qv 24)=sQ (λt=>bG true (dk ws lys t)) (Qv 24):=aO λt ht=>by
    rw[cy];exact gh h (QH.mp ht) _
   have e5:sQ (λi=>iy (ws.getD i b9)) (Qv ws.length)=sQ (aW ws) (Qv ws.length):=aO λj hj=>(xM (QH.mp hj)).symm
   rw[e4,sa,e5];grind
  rw[e2];have e3':sQ (λt=>df (aU ws lys) t) (Qv 24)=sQ (aW ws) (Qv ws.length):=e3;rw[e3'];grind
 exact iP (λt _=>(E.sti (E.nn t) t).rm) tot t (QH.mpr ht)
theorem zN(ok:∀w∈ws,bn w)(rk:mD ws.length es)(h:gU ws (Qv 24) lys)(hs:∀r∈aU ws lys,eT r)(ht:t<24):sQ (λp:Pc=>val p.2) (d9 ws (aS ws es ws.length) t (bg ws (aS ws es ws.length) (aU ws lys) t).1 ((aU ws lys).getD t (0,1))).2.2=dk ws lys t:=by
 have oi:=dS (es:=es) rk ws.length (QB _);have nd:=lQ (es:=es) rk ws.length (QB _);have p:=(rH (ord:=aS ws es ws.length) ok oi.lt nd hs t);have u:=Dv (es:=es) ok rk h ht;have q:=kN (ws:=ws) (t:=t) (n:=ws.length) (ord:=aS ws es ws.length) (st:=((bg ws (aS ws es ws.length) (aU ws lys) t).1,(aU ws lys).getD t (0,1),[])) (by
  obtain⟨hh,_⟩:=fJ (ord:=aS ws es ws.length) (ss:=aU ws lys) ok oi.lt hs t;exact⟨hh.len,hh.lf,c6 (n:=0) hs t,λp hp=>by cases hp⟩) oi.lt
 have e:=congrArg Prod.snd q;have e':val (d9 ws (aS ws es ws.length) t (bg ws (aS ws es ws.length) (aU ws lys) t).1 ((aU ws lys).getD t (0,1))).2.1=(eK (Wt (fW ws) (bo ws) t) (aS ws es ws.length) (df (bg ws (aS ws es ws.length) (aU ws lys) t).1) (df (aU ws lys) t)).2:=e;rw[kI ok oi.lt hs t,u] at e';have sm:=p.sum;rw[e'] at sm;have sv:=gh h ht (0,1);rw[←sv];grind
theorem ot{ws:List Wk}{es:List Ln}(rk:mD ws.length es){a b:Nat}(ha:a<ws.length)(r:fM es a b)(le:bo ws a≤bo ws b):∀k,k≤ws.length->∀l1 l2,aS ws es k=l1++b::l2->a∈l1
 |0,_,l1,l2,e=>by
  have e':([]:List Nat)=l1++b::l2:=e
  cases l1<;>cases e'
 |k+1,h,l1,l2,e=>by
  have oi:=dS (es:=es) rk k ω;have ne:=oi.ne ω;have e':aS ws es k++[iU ws es (ck ws.length (aS ws es k))]=l1++b::l2:=e;rcases List.eq_nil_or_concat l2 with z | ⟨l3,x,z⟩
  ·subst z;have e2:=ZI e' Z;have eb:iU ws es (ck ws.length (aS ws es k))=b:=(List.cons.inj e2.2).1;rw[←e2.1];by_cases c:a∈aS ws es k
   ·exact c
   ·exfalso;have aw:a∈ck ws.length (aS ws es k):=fe.mpr ⟨ha,c⟩;have m:=QC (m8 (ws:=ws) rk ne);obtain⟨m1,m2⟩:=Q3.mp m;rw[eb] at m1 m2;have mb:=gN.mp m1;have al:a∈gO ws (ck ws.length (aS ws es k)):=gN.mpr ⟨aw,λj hj=>Rm le (mb.2 j hj)⟩;rw[UW,VF] at m2;exact m2 a al (lV.mpr r)
  ·subst z;have e3:aS ws es k++[iU ws es (ck ws.length (aS ws es k))]=(l1++b::l3)++[x]:=by rw[e'];simp
   have e2:=ZI e3 Z;exact ot rk ha r le k ω l1 l3 e2.1
theorem yB(ok:∀w∈ws,bn w)(rk:mD ws.length es)(hs:∀r∈ss,eT r)(ha:a<ws.length)(hb:b<ws.length)(r:fM es a b)(le:bo ws a≤bo ws b)(hw:gE (ws.getD a b9) t=true)
  (hp:b∈(d9 ws (aS ws es ws.length) t (bg ws (aS ws es ws.length) ss t).1 (ss.getD t (0,1))).2.2.map (·.1)):df (bg ws (aS ws es ws.length) ss (t+1)).1 a=0:=by
 have oi:=dS (es:=es) rk ws.length (QB _);have nd:=lQ (es:=es) rk ws.length (QB _);obtain⟨l1,l2,e⟩:=Vy ((rJ (es:=es) rk a).mpr ha);have bl:b∈l2:=by
  have hbm:=(rJ (es:=es) rk b).mpr hb;rw[e] at hbm;rcases Q6.mp hbm with z|z
  ·obtain⟨m1,m2,e2⟩:=Vy z;have e3:aS ws es ws.length=m1++b::(m2++a::l2):=by rw[e,e2];simp
   have am:=ot rk ha r le ws.length (QB _) _ _ e3;rw[e] at nd;exact absurd Z ((So.mp nd).2.2 a (by rw[e2];exact Rt _ am) a QL)
  ·rcases QR.mp z with z|z
   ·subst z;obtain⟨ps,_,hps⟩:=rk;exact absurd (fM.rank hps r) (RY _)
   ·exact z
 by_cases z:df (bg ws (aS ws es ws.length) ss (t+1)).1 a=0
 ·exact z
 exfalso;have p:=rH (ord:=aS ws es ws.length) ok oi.lt nd hs t;obtain⟨hh,_⟩:=fJ (ord:=aS ws es ws.length) (ss:=ss) ok oi.lt hs t;have d:xQ ws.length ((bg ws (aS ws es ws.length) ss t).1,ss.getD t (0,1),[]):=⟨hh.len,hh.lf,c6 (n:=0) hs t,λp hp=>by cases hp⟩;have q:=congrArg Prod.fst (kN (ws:=ws) (t:=t) d oi.lt);have q':df (bg ws (aS ws es ws.length) ss (t+1)).1=(eK (λj=>gE (ws.getD j b9) t) (aS ws es ws.length) (df (bg ws (aS ws es ws.length) ss t).1) (df ss t)).1:=q;have nnL:∀j,0≤df (bg ws (aS ws es ws.length) ss t).1 j:=λj=>(jO (c6 (n:=0) hh.lf j).bq.pos).mpr (c6 (n:=0) hh.lf j).nn
 have nnS:0≤df ss t:=(jO (c6 (n:=0) hs t).bq.pos).mpr (c6 (n:=0) hs t).nn;have sti:zu (df (bg ws (aS ws es ws.length) ss t).1) (df ss t) (eK (λj=>gE (ws.getD j b9) t) (aS ws es ws.length) (df (bg ws (aS ws es ws.length) ss t).1) (df ss t)):=zu.fold nnL ⟨λ_ h=>h,λ_=>RM,nnS⟩;have pos:0<(eK (λj=>gE (ws.getD j b9) t) (l1++a::l2) (df (bg ws (aS ws es ws.length) ss t).1) (df ss t)).1 a:=by
  rw[←e];have:=sti.nn a (nnL a);rw[←q'] at this ⊢;grind
 have nd':=nd;rw[e] at nd';obtain⟨_,keep⟩:=pN nnL nnS nd' hw pos;have b1:b∉l1:=λz=>(So.mp nd').2.2 b z b (QP _ bl) Z
 have b2:b≠a:=λz=>(RO.mp (So.mp nd').2.1).1 (by rw[←z];exact bl)
 have kb:=keep b b1 b2;rw[←e,←q'] at kb;obtain⟨⟨b',rr⟩,hm,hb'⟩:=QU.mp hp;have hb'':b'=b:=hb';subst hb'';obtain⟨_,_,v0,v1⟩:=p.pc _ _ hm;have kb':df (d9 ws (aS ws es ws.length) t (bg ws (aS ws es ws.length) ss t).1 (ss.getD t (0,1))).1 b'=df (bg ws (aS ws es ws.length) ss t).1 b':=kb;grind
def bY(pl:List (List Pc))(t k:Nat):Pc:=(pl.getD t []).getD k (0,(0,1))
def DG(pl:List (List Pc))(t k i:Nat):List (Nat×Nat):=((Qv k).filter λj=>decide ((bY pl t j).1=i)).map λj=>(t,j)
def pQ(pl:List (List Pc)):Nat->Nat->List (Nat×Nat)
 |0,_=>[]
 |t+1,i=>pQ pl t i++DG pl t (pl.getD t []).length i
def vY(pl:List (List Pc))(t i:Nat)(r:R):Nat->R
 |0=>r
 |k+1=>if(bY pl t k).1=i then bQ (vY pl t i r k) (bY pl t k).2 else vY pl t i r k
def zt(pl:List (List Pc))(i:Nat):Nat->R
 |0=>(0,1)
 |t+1=>vY pl t i (zt pl i t) (pl.getD t []).length
theorem DY(h:x∈DG pl t k i):x.1=t/\x.2<k/\(bY pl t x.2).1=i:=by
 obtain⟨j,hj,rfl⟩:=QU.mp h;obtain⟨h1,h2⟩:=Q3.mp hj;exact⟨Z,QH.mp h1,of_decide_eq_true h2⟩
theorem mZ{pl:List (List Pc)}{i:Nat}:∀{t:Nat} {x:Nat×Nat},x∈pQ pl t i->x.1<t/\x.2<(pl.getD x.1 []).length/\(bY pl x.1 x.2).1=i
 |0,x,h=>by cases h
 |t+1,x,h=>by
  rcases Q6.mp (show x∈pQ pl t i++DG pl t (pl.getD t []).length i from h) with z|z
  ·obtain⟨a,b,c⟩:=mZ z;exact⟨ω,b,c⟩
  ·obtain⟨a,b,c⟩:=DY z;rw[a];exact⟨ω,b,c⟩
structure FJ(ws:List Wk)(es:List Ln)(pl:List (List Pc)):Prop where
 len:pl.length=24
 few:∀t,(pl.getD t []).length≤10
 pc:∀t k,t<24->k<(pl.getD t []).length->(bY pl t k).1<ws.length/\eT (bY pl t k).2/\0<val (bY pl t k).2/\gE (ws.getD (bY pl t k).1 b9) t=true
 nd:∀t j k,t<24->j<k->k<(pl.getD t []).length->(bY pl t j).1≠(bY pl t k).1
 fin:∀i,i<ws.length->zt pl i 24=(ws.getD i b9).2.2
 ne:∀i,i<ws.length->pQ pl 24 i≠[]
 lean:∀a b,(a,b)∈es->∀x∈pQ pl 24 a,∀y∈pQ pl 24 b,x.1<y.1∨(x.1=y.1/\x.2<y.2)
theorem Dg{pl:List (List Pc)}{t i:Nat}{r:R}{N:Nat}(h:Bq 31176196503125834160000000000 N r):∀k,k≤(pl.getD t []).length->(∀j,j<(pl.getD t []).length->eT (bY pl t j).2)->Bq 31176196503125834160000000000 (N+34359738368*k) (vY pl t i r k)
 |0,_,_=>h
 |k+1,hk,ha=>by
  have ih:=Dg (i:=i) h k ω ha;show Bq _ _ (if(bY pl t k).1=i then bQ (vY pl t i r k) (bY pl t k).2 else vY pl t i r k)
  split
  ·exact(Bq.plus δ ih (ha k ω).bq).mono (Sz _) ω
  ·exact ih.mono (Sz _) ω
theorem Df{ws:List Wk}{pl:List (List Pc)}(few:∀t,(pl.getD t []).length≤10)(pc:∀t k,t<24->k<(pl.getD t []).length->eT (bY pl t k).2)(i:Nat):∀t,t≤24->Bq 31176196503125834160000000000 (343597383680*t) (zt pl i t)
 |0,_=>(FC.mono (Sz _) (QB _))
 |t+1,h=>by
  have f:=few t;exact(Dg (Df (ws:=ws) few pc i t ω) _ (QB _) λj hj=>pc t j ω hj).mono (Sz _) ω
theorem nc{pl:List (List Pc)}{t i:Nat}{r:R}(hr:0<r.2):∀k,(∀j,j<k->0<(bY pl t j).2.2)->0<(vY pl t i r k).2/\val (vY pl t i r k)=val r+sQ (λj=>bG (decide ((bY pl t j).1=i)) (val (bY pl t j).2)) (Qv k)
 |0,_=>⟨hr,by show val r=val r+0;grind⟩
 |k+1,h=>by
  obtain⟨p,e⟩:=nc (i:=i) hr k λj hj=>h j ω
  have hk:=h k ω;rw[Sf,dW];show 0<(if(bY pl t k).1=i then bQ (vY pl t i r k) (bY pl t k).2 else vY pl t i r k).2/\val (if(bY pl t k).1=i then bQ (vY pl t i r k) (bY pl t k).2 else vY pl t i r k)=val r+(_+(bG (decide ((bY pl t k).1=i)) (val (bY pl t k).2)+0));by_cases c:(bY pl t k).1=i
  ·rw[if_pos c,decide_eq_true c,cy];refine⟨(jj (Sx p hk)).pos,?_⟩;rw[iI p hk,e];grind
  ·rw[if_neg c,decide_eq_false c,bS,e];exact⟨p,by grind⟩
theorem lP{ws:List Wk}{ord:List Nat}{ss:List R}:∀{N t:Nat},t<N->(bg ws ord ss N).2.length=N->(bg ws ord ss N).2.getD t []=(d9 ws ord t (bg ws ord ss t).1 (ss.getD t (0,1))).2.2
 |0,t,h,_=>absurd h (Ta _)
 |N+1,t,h,hl=>by
  have e:(bg ws ord ss (N+1)).2=(bg ws ord ss N).2++[(d9 ws ord N (bg ws ord ss N).1 (ss.getD N (0,1))).2.2]:=Z;have l:(bg ws ord ss N).2.length=N:=by
   rw[e,Q2] at hl;have:[(d9 ws ord N (bg ws ord ss N).1 (ss.getD N (0,1))).2.2].length=1:=Z;omega
  rw[e,QQ];by_cases c:t<N
  ·rw[Vf ω,←QQ];exact lP c l
  ·have:t=N:=ω
   subst this;rw[U3 ω,l,Nat.sub_self];rfl
theorem D7{q:List Pc}{f:Pc->Rat}(nd:(q.map (·.1)).Nodup):sQ (λp:Pc=>bG (decide (p.1=i)) (f p)) q=0∨∃p∈q,p.1=i/\sQ (λp:Pc=>bG (decide (p.1=i)) (f p)) q=f p:=by
 induction q with
 |nil=>exact .inl Z
 |cons p q ih=>
  have nd':(p.1::q.map (·.1)).Nodup:=nd;obtain⟨n1,n2⟩:=RO.mp nd';by_cases c:p.1=i
  ·refine .inr ⟨p,QL,c,?_⟩;have z:sQ (λp:Pc=>bG (decide (p.1=i)) (f p)) q=sQ (λ_:Pc=>0*(0:Rat)) q:=aO λx hx=>by
    rw[decide_eq_false (λe=>n1 (by rw[c,←e];exact QU.mpr ⟨x,hx,Z⟩)),bS];grind
   show bG (decide (p.1=i)) (f p)+sQ _ q=f p;rw[z,cM,decide_eq_true c,cy];grind
  ·have e:sQ (λp:Pc=>bG (decide (p.1=i)) (f p)) (p::q)=sQ (λp:Pc=>bG (decide (p.1=i)) (f p)) q:=by
    show bG (decide (p.1=i)) (f p)+sQ _ q=_;rw[decide_eq_false c,bS];grind
   rw[e];rcases ih n2 with z | ⟨x,hx,e1,e2⟩
   ·exact .inl z
   ·exact .inr ⟨x,QP _ hx,e1,e2⟩
theorem om(len0:ws.length=ws0.length)(amt:∀i,i<ws.length->(ws.getD i b9).2.2=(ws0.getD i b9).2.2)(wid:∀i,i<ws.length->(ws0.getD i b9).1≤(ws.getD i b9).1/\(ws.getD i b9).2.1≤(ws0.getD i b9).2.1)
  (lns:∀a b,(a,b)∈es->a<ws.length/\b<ws.length/\(ws.getD a b9).1≤(ws.getD b b9).1/\(ws.getD a b9).2.1≤(ws.getD b b9).2.1) (ok:∀w∈ws,bn w) (w8:ws.length≤10) (rk:mD ws.length es) (h:gU ws (Qv 24) lys) (hs:∀r∈aU ws lys,eT r):FJ ws0 es (dM ws es (aU ws lys)).2:=by
 have oi:=dS (es:=es) rk ws.length (QB _);have nd:=lQ (es:=es) rk ws.length (QB _);have E:=vX (es:=es) ok rk h;obtain⟨po,pl24⟩:=fJ (ord:=aS ws es ws.length) (ss:=aU ws lys) ok oi.lt hs 24;have PC:=λt=>rH (ord:=aS ws es ws.length) ok oi.lt nd hs t
 have at_:∀t,t<24->(dM ws es (aU ws lys)).2.getD t []=(d9 ws (aS ws es ws.length) t (bg ws (aS ws es ws.length) (aU ws lys) t).1 ((aU ws lys).getD t (0,1))).2.2:=λt ht=>lP ht pl24
 have pv:=λt=>kI (ord:=aS ws es ws.length) (ss:=aU ws lys) ok oi.lt hs t
 generalize hpl:(dM ws es (aU ws lys)).2=pl at at_;have plen:pl.length=24:=by rw[←hpl];exact pl24
 have few:∀t,(pl.getD t []).length≤10:=λt=>by
  rw[QQ]
  cases e:pl[t]? with
  |none=>exact Re _
  |some q=>
   have m:q∈(bg ws (aS ws es ws.length) (aU ws lys) 24).2:=by
    have:=QC e;rw[←hpl] at this;exact this
   have:=(po.pc q m).1;have l:=oi.len;show q.length≤10;omega
 have mem:∀t k,t<24->k<(pl.getD t []).length->((bY pl t k).1,(bY pl t k).2)∈(d9 ws (aS ws es ws.length) t (bg ws (aS ws es ws.length) (aU ws lys) t).1 ((aU ws lys).getD t (0,1))).2.2:=λt k ht hk=>by
  rw[←at_ t ht];unfold bY;rw[aB (0,(0,1)) (Qw hk)];exact RA hk
 have pc:∀t k,t<24->k<(pl.getD t []).length->(bY pl t k).1<ws.length/\gE (ws.getD (bY pl t k).1 b9) t=true/\eT (bY pl t k).2/\0<val (bY pl t k).2:=λt k ht hk=>by
  have m:=mem t k ht hk;obtain⟨a,b,c,_⟩:=(PC t).pc _ _ m;exact⟨((PC t).ok.pc _ m).1,a,b,c⟩
 have ndt:∀t,t<24->((pl.getD t []).map (·.1)).Nodup:=λt ht=>by
  rw[at_ t ht];exact(PC t).sub.nodup nd
 have ndj:∀t j k,t<24->j<k->k<(pl.getD t []).length->(bY pl t j).1≠(bY pl t k).1:=λt j k ht hj hk=>by
  have p:=Sq.mp (ndt t ht) j k (by rw[Qz];omega) (by rw[Qz];exact hk) hj;unfold bY;rw[aB (0,(0,1)) (Qw (show j<(pl.getD t []).length by omega)),aB (0,(0,1)) (Qw hk)];rw[Xm,Xm] at p;exact p
 have turnv:∀t i,t<24->sQ (λj=>bG (decide ((bY pl t j).1=i)) (val (bY pl t j).2)) (Qv (pl.getD t []).length)=df (bg ws (aS ws es ws.length) (aU ws lys) t).1 i-df (bg ws (aS ws es ws.length) (aU ws lys) (t+1)).1 i:=λt i ht=>by
  have e:sQ (λj=>bG (decide ((bY pl t j).1=i)) (val (bY pl t j).2)) (Qv (pl.getD t []).length)=sQ (λp:Pc=>bG (decide (p.1=i)) (val p.2)) (pl.getD t []):=(ib (f:=λp:Pc=>bG (decide (p.1=i)) (val p.2)) (0,(0,1)) (pl.getD t [])).symm;rw[e];by_cases c:i∈(pl.getD t []).map (·.1)
  ·obtain⟨⟨i',r⟩,hm,e1⟩:=QU.mp c;have e1':i'=i:=e1;subst e1';rcases D7 (i:=i') (f:=λp:Pc=>val p.2) (ndt t ht) with z | ⟨p,hp,e2,e3⟩
   ·exfalso;have hm':=hm;rw[at_ t ht] at hm';obtain⟨_,_,v0,_⟩:=(PC t).pc _ _ hm';have:=iP (f:=λp:Pc=>bG (decide (p.1=i')) (val p.2)) (l:=pl.getD t []) (λx hx=>fX _ (by
     have hx':=hx;rw[at_ t ht] at hx';obtain⟨_,_,w0,_⟩:=(PC t).pc x.1 x.2 hx';exact TK w0)) z _ hm
    rw[decide_eq_true Z,cy] at this;have this':val r=0:=this;grind
   ·rw[e3];have hp':=hp;rw[at_ t ht] at hp';obtain⟨_,_,_,v1⟩:=(PC t).pc p.1 p.2 hp';rw[e2] at v1;exact v1
  ·have z:sQ (λp:Pc=>bG (decide (p.1=i)) (val p.2)) (pl.getD t [])=sQ (λ_:Pc=>0*(0:Rat)) (pl.getD t []):=aO λx hx=>by
    rw[decide_eq_false (λe=>c (by rw[←e];exact QU.mpr ⟨x,hx,Z⟩)),bS];grind
   rw[at_ t ht] at c;have u:=(PC t).un i c;have u':df (bg ws (aS ws es ws.length) (aU ws lys) (t+1)).1 i=df (bg ws (aS ws es ws.length) (aU ws lys) t).1 i:=congrArg val u;rw[z,cM,u'];grind
 have dnv:∀i t,t≤24->0<(zt pl i t).2/\val (zt pl i t)=df (bg ws (aS ws es ws.length) (aU ws lys) 0).1 i-df (bg ws (aS ws es ws.length) (aU ws lys) t).1 i:=λi t=>by
  induction t with
  |zero=>intro _;exact⟨by show(0:Int)<1;decide,by show val ((0,1):R)=_;rw[np];grind⟩
  |succ t ih=>
   intro ht;obtain⟨p,e⟩:=ih ω;obtain⟨p2,e2⟩:=nc (pl:=pl) (t:=t) (i:=i) p (pl.getD t []).length λj hj=>(pc t j ω hj).2.2.1.bq.pos
   refine⟨p2,?_⟩;show val (vY pl t i (zt pl i t) (pl.getD t []).length)=_;rw[e2,e,turnv t i ω];grind
 have a0:∀i,i<ws.length->val (zt pl i 24)=iy (ws.getD i b9):=λi hi=>by
  have e:=(dnv i 24 (QB _)).2;rw[pv 24,No E hi] at e;have z:df (bg ws (aS ws es ws.length) (aU ws lys) 0).1 i=iy (ws.getD i b9):=by
   rw[pv 0];exact xM hi
  rw[z] at e;rw[e];grind
 have pos0:∀i,i<ws.length->0<iy (ws.getD i b9):=λi hi=>by
  rw[aB b9 (Qw hi)];exact oO (ok _ (RA hi))
 refine⟨plen,few,λt k ht hk=>?_,ndj,λi hi=>?_,λi hi=>?_,λa b hab x hx y hy=>?_⟩
 ·obtain⟨p1,p2,p3,p4⟩:=pc t k ht hk;refine⟨by rw[←len0];exact p1,p3,p4,?_⟩;obtain⟨w1,w2⟩:=wid _ p1;unfold gE at p2 ⊢;rw[Ra,decide_eq_true_iff,decide_eq_true_iff] at p2 ⊢;omega
 ·have il:i<ws.length:=by rw[len0];exact hi
  rw[←amt i il];have o:=(ok _ (RA il)).am;have bq:=Df (ws:=ws) few (λt k ht hk=>(pc t k ht hk).2.2.1) i 24 (QB _);refine hV bq.red ?_ (a0 i il);rw[aB b9 (Qw il)];exact(xI o).red
 ·intro e;have il:i<ws.length:=by rw[len0];exact hi
  have z:∀t,t≤24->pQ pl t i=[]->val (zt pl i t)=0:=λt=>by
   induction t with
   |zero=>intro _ _;exact np
   |succ t ih=>
    intro ht he;have he':pQ pl t i++DG pl t (pl.getD t []).length i=[]:=he;obtain⟨h1,h2⟩:=List.append_eq_nil_iff.mp he';have v:=nc (pl:=pl) (t:=t) (i:=i) (dnv i t ω).1 (pl.getD t []).length λj hj=>(pc t j ω hj).2.2.1.bq.pos
    show val (vY pl t i (zt pl i t) (pl.getD t []).length)=0;rw[v.2,ih ω h1];have q:sQ (λj=>bG (decide ((bY pl t j).1=i)) (val (bY pl t j).2)) (Qv (pl.getD t []).length)=sQ (λ_:Nat=>0*(0:Rat)) (Qv (pl.getD t []).length):=aO λj hj=>by
     rw[decide_eq_false (λc=>by
      have m:(t,j)∈DG pl t (pl.getD t []).length i:=QU.mpr ⟨j,Q3.mpr ⟨hj,decide_eq_true c⟩,Z⟩;rw[h2] at m
      cases m),bS]
     grind
    rw[q,cM];grind
  have v:=z 24 (QB _) e;rw[a0 i il] at v;have:=pos0 i il;grind
 ·obtain⟨x1,x2,x3⟩:=mZ hx;obtain⟨y1,y2,y3⟩:=mZ hy;obtain⟨al,bl,fab,lab⟩:=lns a b hab;have px:=pc x.1 x.2 x1 x2;have py:=pc y.1 y.2 y1 y2;rw[x3] at px;rw[y3] at py;have wx:=px.2.1;have wy:=py.2.1;unfold gE at wx wy;rw[Ra,decide_eq_true_iff,decide_eq_true_iff] at wx wy;by_cases c:x.1<y.1
  ·exact .inl c
  by_cases c2:x.1=y.1
  ·refine .inr ⟨c2,?_⟩;by_cases c3:x.2<y.2
   ·exact c3
   exfalso;obtain⟨ps,_,hps⟩:=id rk;have irr:a≠b:=λe=>by
    have:=fM.rank hps (fM.one hab);rw[e] at this;exact RY _ this
   have ne:x.2≠y.2:=λe=>by
    rw[c2,e,y3] at x3;exact irr x3.symm
   have lt:y.2<x.2:=ω
   rw[c2] at x2 x3;have sub:=(PC y.1).sub;rw[←at_ y.1 y1] at sub;have ex:((pl.getD y.1 []).map (·.1))[x.2]?=some a:=by
    rw[QJ,Qw x2];have e:=aB (0,(0,1)) (Qw x2);unfold bY at x3;rw[e] at x3;exact congrArg some x3
   have ey:((pl.getD y.1 []).map (·.1))[y.2]?=some b:=by
    rw[QJ,Qw y2];have e:=aB (0,(0,1)) (Qw y2);unfold bY at y3;rw[e] at y3;exact congrArg some y3
   generalize (pl.getD y.1 []).map (·.1)=zs at sub ex ey;obtain⟨hy',ey'⟩:=QM.mp ey;have d:zs.drop y.2=b::zs.drop (y.2+1):=by rw[WI hy',ey']
   have am:a∈zs.drop (y.2+1):=by
    refine QC (i:=x.2-(y.2+1)) ?_;rw[List.getElem?_drop,show y.2+1+(x.2-(y.2+1))=x.2 by omega];exact ex
   have sb:(b::zs.drop (y.2+1)).Sublist (aS ws es ws.length):=by
    rw[←d];exact(List.drop_sublist _ _).trans sub
   obtain⟨r1,r2,e,hb1,hs2⟩:=List.cons_sublist_iff.mp sb;obtain⟨m1,m2,e2⟩:=Vy hb1;have e3:aS ws es ws.length=m1++b::(m2++r2):=by rw[e,e2];simp
   have ain:=ot rk al (.one hab) lab ws.length (QB _) _ _ e3;rw[e] at nd;exact(So.mp nd).2.2 a (by rw[e2];exact Rt _ ain) a (hs2.subset am) Z
  ·exfalso;have hw:gE (ws.getD a b9) y.1=true:=by
    unfold gE;rw[Ra,decide_eq_true_iff,decide_eq_true_iff];omega
   have hb:b∈(d9 ws (aS ws es ws.length) y.1 (bg ws (aS ws es ws.length) (aU ws lys) y.1).1 ((aU ws lys).getD y.1 (0,1))).2.2.map (·.1):=by
    have m:=mem y.1 y.2 y1 y2;rw[y3] at m;exact QU.mpr ⟨_,m,Z⟩
   have d:=yB ok rk hs al bl (.one hab) lab hw hb;have mx:=mem x.1 x.2 x1 x2;rw[x3] at mx;obtain⟨_,_,v0,v1⟩:=(PC x.1).pc _ _ mx;have zl:df (bg ws (aS ws es ws.length) (aU ws lys) x.1).1 a=0:=by
    rw[pv] at d ⊢;have q:=E.dn' (y.1+1) a (x.1-(y.1+1));rw[show y.1+1+(x.1-(y.1+1))=x.1 by omega] at q;have n0:=E.nn x.1 a;grind
   have n1:0≤df (d9 ws (aS ws es ws.length) x.1 (bg ws (aS ws es ws.length) (aU ws lys) x.1).1 ((aU ws lys).getD x.1 (0,1))).1 a:=by
    have g:=c6 (n:=0) (PC x.1).ok.lf a;exact(jO g.bq.pos).mpr g.nn
   grind
structure FI(K:Qu)(H:Hp)(v:V)(ws:List Wk)(es:List Ln):Prop where
 sv:xN K H v ws es
 w8:ws.length≤10
 ok:∀w∈ws,bn w
 eok:gg ws.length es
 rk:mD ws.length es
 e8:es.length≤40
theorem FI.mono{K:Qu}{H H':Hp}{v:V}{ws:List Wk}{es:List Ln}(h:FI K H v ws es)(t:aI K H H'):FI K H' v ws es:=⟨h.sv.mono t,h.w8,h.ok,h.eok,h.rk,h.e8⟩
theorem FI.sh{K:Qu}{H:Hp}{v:V}{ws:List Wk}{es:List Ln}(h:FI K H v ws es):JY ws es:=⟨by have:=h.w8;omega,λw hw=>⟨by have:=(h.ok w hw).le;have:=(h.ok w hw).lt;omega,(h.ok w hw).lt,(h.ok w hw).am.wf.mono δ⟩,h.eok⟩
def eN(ws:List Wk)(f l:Nat->Int):List Wk:=(Qv ws.length).map λi=>((f i).toNat,(l i).toNat,(ws.getD i b9).2.2)
theorem eh(ws:List Wk)(f l:Nat->Int):(eN ws f l).length=ws.length:=by unfold eN;rw[Qz,RL]
theorem jD(h:i<ws.length):(eN ws f l).getD i b9=((f i).toNat,(l i).toNat,(ws.getD i b9).2.2):=by
 refine aB b9 ?_;unfold eN;rw[QJ,Tr h];rfl
theorem JW(h:f6 n f l=none)(hi:i<n):f i≤l i:=by
 unfold f6 at h;rw[Vx] at h;have:=h i (QH.mpr hi);by_cases c:l i<f i
 ·exact absurd (decide_eq_true c) this
 ·omega
theorem sK{ws:List Wk}(ok:∀w∈ws,bn w)(h:i<ws.length):bn (ws.getD i b9):=by
 rw[aB b9 (Qw h)];exact ok _ (RA h)
theorem kj(ok:∀w∈ws,bn w)(h:eD ws es f l)(hi:i<ws.length):0≤f i/\f i<24/\0≤l i/\l i<24/\((ws.getD i b9).1:Int)≤f i/\l i≤((ws.getD i b9).2.1:Int):=by
 obtain⟨j,hj,_,e1⟩:=h.a.att i hi;obtain⟨k,hk,_,e2⟩:=h.b.att i hi;have oj:=sK ok hj;have okk:=sK ok hk;have a:=oj.le;have b:=oj.lt;have c:=okk.lt;have u1:=h.a.up i i hi hi (.inl Z);have u2:=h.b.up i i hi hi (.inl Z);unfold vF at e1 u1;unfold vL at e2 u2;omega
theorem oJ(ok:∀w∈ws,bn w)(h:eD ws es f l)(nb:f6 ws.length f l=none):∀w∈eN ws f l,bn w:=λw hw=>by
 obtain⟨i,hi,rfl⟩:=QU.mp hw;have il:=QH.mp hi;have q:=JW nb il;have b:=kj ok h il;have o:=sK ok il;exact⟨by show(f i).toNat≤(l i).toNat;omega,by show(l i).toNat<24;omega,o.am⟩
theorem r9{K:Qu}{H:Hp}{u:V}{ws:List Wk}{es:List Ln}{f l:Nat->Int}(ok:∀w∈ws,bn w)(h:eD ws es f l)(d:bX K H u (.tuple ((Qv ws.length).map (uO ws f l)))):eC K H u (eN ws f l):=by
 cases d with
 | @tup p xs ds hS hA=>
  refine⟨p,xs,Z,hS,?_⟩;have key:∀(zs:List Nat) (xs:List V),(∀i∈zs,i<ws.length)->bx K H xs (zs.map (uO ws f l))->Als (zk K H) xs (zs.map λi=>((f i).toNat,(l i).toNat,(ws.getD i b9).2.2)):=by
   intro zs
   induction zs with
   |nil=>intro xs _ d;cases d;exact .nil
   |cons i zs ih=>
    intro xs hz d
    cases d with
    | @cons x _ xs _ dx dt=>
     refine .cons ?_ (ih _ (λj hj=>hz j (QP _ hj)) dt);have b:=kj ok h (hz i QL)
     cases dx with
     | @tup p ys _ hS hA=>
      cases hA with
      |cons d1 d2=>
       cases d2 with
       |cons d3 d4=>
        cases d4 with
        |cons d5 d6=>
         cases d1
         cases d3
         cases d6
         cases d5 with
         | @tup q zs _ hS2 hA2=>
          cases hA2 with
          |cons e1 e2=>
           cases e2 with
           |cons e3 e4=>
            cases e1
            cases e3
            cases e4
            refine⟨p,.ref q,Z,?_,⟨q,Z,hS2⟩⟩;show bz K H p [.int ((f i).toNat:Nat),.int ((l i).toNat:Nat),.ref q];rw[show(((f i).toNat:Nat):Int)=f i by omega,show(((l i).toNat:Nat):Int)=l i by omega];exact hS
  exact key _ _ (λi hi=>QH.mp hi) hA
def tQ(K:Qu)(C:Addr):Sp:=λvs H Q E=>∃(v:V) (ws:List Wk) (es:List Ln),vs=[v]/\xN K H v ws es/\JY ws es∧
 (∀(f l:Nat->Int) (u:V) (H':Hp),aL H H'->eD ws es f l->f6 ws.length f l=none->bX K H' u (.tuple ((Qv ws.length).map (uO ws f l)))->Q u H')∧
 (∀(f l:Nat->Int) (i:Nat) (d:Addr) (H':Hp),aL H H'->eD ws es f l->f6 ws.length f l=some i->H' d=some (dO d [("work",.int i)])->E (.ref C) (some d) H')
noncomputable def Px (ws:List Wk) (es:List Ln) (f l:Nat->Int) (lys:List Ly):Ri:=MH (dM (eN ws f l) es (aU (eN ws f l) lys)).2
inductive jb(K:Qu)(vs:List V)(H:Hp)(Q:VK):Prop where
 |mk (v:V) (ws:List Wk) (es:List Ln) (h0_:vs=[v]) (h1_:FI K H v ws es) (h2_:(∀f l:Nat->Int,eD ws es f l->f6 ws.length f l=none)) (h3_:∀(f l:Nat->Int) (lys:List Ly) (w:V) (H':Hp),aL H H'->eD ws es f l->f6 ws.length f l=none->gU (eN ws f l) (Qv 24) lys->bX K H' w (Px ws es f l lys)->Q w H'):jb K vs H Q
def oZ(K:Qu):Sp:=λvs H Q _=>jb K vs H Q
theorem iV(h:gU ws ls lys):ls.length≤24->(∀t∈ls,t<24)->∀y∈lys,mV ws.length y:=by
 induction h with
 |nil _=>intro _ _ y hy;cases hy
 |cons h tl ih=>
  intro h1 h2 y hy;rcases QR.mp hy with z|z
  ·rw[z];exact CJ h.1.inn h1 h2
  ·exact ih (Rm (RU _ _) h1) (λt ht=>h2 t (Q3.mp ht).1) y z
theorem iJ{ws:List Wk}{lys:List Ly}(ok:∀w∈ws,bn w)(hw:ws.length≤10)(lok:∀y∈lys,mV ws.length y):∀r∈aU ws lys,eT r:=λr hr=>(Ae (ss:=Rf 24 (0,1)) ok hw lok (λr hr=>by rw[Vt hr];exact⟨FC.mono (Sz _) δ,V2 _⟩) r hr).am δ
theorem JP{K:Qu}{H:Hp}{v:V}{r:R}(d:bX K H v (dR r)):RV K H v r:=by
 cases d with
 | @tup q zs _ hS2 hA2=>
  cases hA2 with
  |cons e1 e2=>
   cases e2 with
   |cons e3 e4=>
    cases e1
    cases e3
    cases e4
    exact⟨q,Z,hS2⟩
theorem Fw{K:Qu}{H:Hp}{v:V}{c:Pc}(d:bX K H v (Nt c)):zq K H v c:=by
 cases d with
 | @tup q zs _ hS2 hA2=>
  cases hA2 with
  |cons e1 e2=>
   cases e2 with
   |cons e3 e4=>
    cases e1
    cases e4
    exact⟨q,_,Z,hS2,JP e3⟩
theorem oK{α:Type}{K:Qu}{H:Hp}{f:α->Ri}{P:V->α->Prop}(h:∀v x,bX K H v (f x)->P v x):∀{l:List α} {xs:List V},bx K H xs (l.map f)->Als P xs l
 | [],_,d=>by cases d;exact .nil
 |x::l,_,d=>by
  cases d with
  |cons d1 d2=>exact .cons (h _ _ d1) (oK h d2)
theorem Fu{K:Qu}{H:Hp}{v:V}{q:List Pc}(d:bX K H v (Nq q)):zo K H v q:=by
 cases d with
 | @tup p xs _ hS hA=>exact⟨p,xs,Z,hS,oK (P:=zq K H) (λ_ _ z=>Fw z) hA⟩
theorem Fv{K:Qu}{H:Hp}{u:V}{pl:List (List Pc)}(d:bX K H u (MH pl)):∃p xs,u=.ref p/\bz K H p xs/\Als (zo K H) xs pl:=by
 cases d with
 | @tup p xs _ hS hA=>exact⟨p,xs,Z,hS,oK (P:=zo K H) (λ_ _ z=>Fu z) hA⟩
theorem xm(ok:∀w∈ws,bn w)(eok:gg ws.length es)(h:eD ws es f l)(a b:Nat)(hab:(a,b)∈es):a<(eN ws f l).length/\b<(eN ws f l).length/\((eN ws f l).getD a b9).1≤((eN ws f l).getD b b9).1/\((eN ws f l).getD a b9).2.1≤((eN ws f l).getD b b9).2.1:=by
 obtain⟨ha,hb⟩:=eok _ hab;have ha':a<ws.length:=ha;have hb':b<ws.length:=hb;rw[eh,jD ha',jD hb'];refine⟨ha',hb',?_,?_⟩
 ·obtain⟨j,hj,z,e⟩:=h.a.att a ha';have r:fM es a b:=.one hab;have u:=h.a.up b j hb' hj (.inr (z.elim (λz=>by rw[z];exact r) λz=>z.trans r));show(f a).toNat≤(f b).toNat;omega
 ·obtain⟨j,hj,z,e⟩:=h.b.att b hb';have r:fM (xW es) b a:=qG.mpr (.one hab);have u:=h.b.up a j ha' hj (.inr (z.elim (λz=>by rw[z];exact r) λz=>z.trans r));have e':- l b=vL ws j:=e;have u':vL ws j≤- l a:=u;show(l a).toNat≤(l b).toNat;omega
theorem Dd(ok:∀w∈ws,bn w)(w8:ws.length≤10)(eok:gg ws.length es)(rk:mD ws.length es)(h:eD ws es f l)(nb:f6 ws.length f l=none)(ly:gU (eN ws f l) (Qv 24) lys):FJ ws es (dM (eN ws f l) es (aU (eN ws f l) lys)).2:=by
 have ok':=oJ ok h nb;have len:=eh ws f l;refine om len (λi hi=>?_) (λi hi=>?_) (xm ok eok h) ok' ω (by rw[len];exact rk) ly (iJ ok' ω (iV ly δ λt ht=>QH.mp ht))
 ·rw[jD ω]
 ·have il:i<ws.length:=ω
  rw[jD il];have b:=kj ok h il;show _≤(f i).toNat/\(l i).toNat≤_;omega
theorem zX(ok:∀w∈ws,bn w)(rk:mD ws.length es)(h:gU ws (Qv 24) lys)(hs:∀r∈aU ws lys,eT r):(dM ws es (aU ws lys)).2.map (λq=>fQ (q.map (·.2)))=aU ws lys:=by
 have oi:=dS (es:=es) rk ws.length (QB _);obtain⟨po,pl24⟩:=fJ (ord:=aS ws es ws.length) (ss:=aU ws lys) ok oi.lt hs 24;have l24:(aU ws lys).length=24:=by unfold aU;rw[gi];rfl
 refine UV λt=>?_
 rw[QJ];by_cases c:t<24
 ·have e1:(dM ws es (aU ws lys)).2[t]?=some ((dM ws es (aU ws lys)).2.getD t []):=by
   have hl:t<(dM ws es (aU ws lys)).2.length:=by show t<(bg ws (aS ws es ws.length) (aU ws lys) 24).2.length;omega
   rw[Qw hl,aB [] (Qw hl)]
  have e2:(aU ws lys)[t]?=some ((aU ws lys).getD t (0,1)):=by
   rw[Qw ω,aB (0,1) (Qw ω)]
  rw[e1,e2];have et:(dM ws es (aU ws lys)).2.getD t []=_:=lP c pl24;rw[et];show some (fQ _)=some _;have p:=rH (ord:=aS ws es ws.length) ok oi.lt (lQ (es:=es) rk ws.length (QB _)) hs t;have ts:=zN (es:=es) ok rk h hs c;have rd:∀r∈(d9 ws (aS ws es ws.length) t (bg ws (aS ws es ws.length) (aU ws lys) t).1 ((aU ws lys).getD t (0,1))).2.2.map (λp:Pc=>p.2),gG r:=λr hr=>by
   obtain⟨q,hq,rfl⟩:=QU.mp hr;exact(p.pc q.1 q.2 hq).2.1.red
  have vs:=hJ rd;refine congrArg some (hV vs.1 (c6 (n:=0) hs t).red ?_);rw[vs.2,je,iQ,ts,gh h c]
 ·rw[R5 (by show(bg ws (aS ws es ws.length) (aU ws lys) 24).2.length≤t;omega),R5 ω];rfl
theorem wD:(DG pl t k i).length≤k:=by
 unfold DG;rw[Qz];exact Rm (RU _ _) (by rw[RL];exact QB _)
theorem zj{z:Int}(h0:0≤z)(h:z≤745308665313160620672000000000):z.natAbs<2^8990:=RN (show z.natAbs≤745308665313160620672000000000 by omega) δ
def EF:XK:=λ_ _ _=>False
theorem Cd:l7 (FT P w) X EF:=by
 intro pins σ H1 s1 e s2 I hx;obtain⟨x,C,T,dx,H2,rfl,ho,hb,un,hok,nx,nT,hx2,hT2,tr,hE⟩:=hx;exact hE.elim
inductive mE(K_:Qu)(vs:List V)(H:Hp)(Q:VK):Prop where
 |mk (a b:Int) (h0_:vs=[.int a,.int b]) (h1_:0≤a) (h2_:0≤b) (h3_:Q (.int (Q1 a b:Nat)) H):mE K_ vs H Q
def uW(K_:Qu):Sp:=λvs H Q _=>mE K_ vs H Q
abbrev tH:=DU
def tM(_:Qu):Sp:=DX
abbrev qP:=tz
theorem Ky(h0:0≤n)(h1:n≤100):-(2^62)≤n/\n<2^62:=by constructor<;>omega
structure i7(r:R):Prop where
 bq:Bq D0 N0 r
 pos:0<r.1
theorem i7.wf(h:i7 r):Wf 98 r:=h.bq.wf δ δ δ
inductive kZ(K:Qu)(vs:List V)(H:Hp)(Q:VK):Prop where
 |mk (t s:Addr) (h0_:vs=[.ref t]) (h1_:cR H t s) (h2_:∀(v:V) (r:R) (H':Hp),i7 r->aY t H H'->cR H' t s->RV K H' v r->Q v H'):kZ K vs H Q
def tK(K:Qu):Sp:=λvs H Q _=>kZ K vs H Q
theorem LU(h0:0≤r)(h1:r<30):(1+r)∣(D0:Int):=by
 have z:∀k:Fin 30,(1+((k:Nat):Int))∣(D0:Int):=δ
 have:=z ⟨r.toNat,ω⟩;rw[show(((⟨r.toNat,ω⟩:Fin 30):Nat):Int)=r by show((r.toNat:Nat):Int)=r;omega] at this;exact this
theorem EN(ha:0<a)(ha':a≤1000000007)(hb:0<b)(hd:b∣(D0:Int)):i7 (fj a b):=by
 refine⟨xF hb hd ?_,E5 ha hb⟩;have h1:a.natAbs≤1000000007:=ω
 have h2:1≤b.natAbs:=ω
 show a.natAbs≤1000000007*b.natAbs;omega
theorem sy(ws:List Wk):(Ri.list (ws.map Fx)).depth≤32:=by
 have:Wd (ws.map Fx)≤8:=by
  induction ws with
  |nil=>exact Re _
  |cons w ws ih=>exact Nat.max_le.mpr ⟨(by show max 0 (max 0 (max (max 0 (max 0 0)+1) 0))+1≤8;decide),ih⟩
 show Wd (ws.map Fx)+1≤32;omega
theorem Gz(ws:List Wk):(Ri.list (ws.map Fx)).canLay0=true:=jp λd hd=>by
 obtain⟨w,_,rfl⟩:=QU.mp hd;rfl
theorem uB(n:Nat):gQ xs none (some (n:Int))=xs.take (ZW n xs.length):=by
 unfold gQ;rw[HT.sIx_nat,HT.sIx_none,XJ,WA]
def rO(ls:List Nat):List V:=ls.map λn:Nat=>V.int n
theorem Als.takeI{α:Type}{P:V->α->Prop}:∀{xs:List V} {ds:List α} (n:Nat),Als P xs ds->Als P (xs.take n) (ds.take n)
 |_,_,0,_=>by rw[Uo,Uo];exact .nil
 |_,_,n+1,.nil=>by rw[aau,aau];exact .nil
 |_,_,n+1,.cons h t=>.cons h (Als.takeI n t)
abbrev tJ:=wC
abbrev tL:=nR
structure DH(w:Wk):Prop where
 le:w.1≤w.2.1
 l2:w.2.1<24
 po:i7 w.2.2
inductive jF(K:Qu)(vs:List V)(H:Hp)(Q:VK):Prop where
 |mk (t s:Addr) (m e:Nat) (h0_:vs=[.ref t,.int m,.int e]) (h1_:cR H t s) (h2_:m≤12) (h3_:1≤e) (h4_:e≤24) (h5_:∀(v:V) (ws:List Wk) (H':Hp),aY t H H'->cR H' t s->eC K H' v ws->ws.length≤m->(∀w∈ws,DH w)->Q v H'):jF K vs H Q
def qM(K:Qu):Sp:=λvs H Q _=>jF K vs H Q
inductive jI(K:Qu)(vs:List V)(H:Hp)(Q:VK):Prop where
 |mk (t s:Addr) (n:Nat) (h0_:vs=[.ref t,.int n]) (h1_:cR H t s) (h2_:n≤20) (h3_:∀(v:V) (es:List Ln) (H':Hp),aY t H H'->cR H' t s->pF K H' v es->gg n es->mD n es->es.length≤40->Q v H'):jI K vs H Q
def qQ(K:Qu):Sp:=λvs H Q _=>jI K vs H Q
theorem EO(h:i7 r):DE r:=by
 have p:=h.bq.pos;have d:=h.bq.dvd;have b:r.1.natAbs≤1000000007*r.2.natAbs:=h.bq.le;have q:=h.pos;have hb:r.2≤(D0:Int):=Ux δ d;have:r.1≤1000000007*r.2:=ω
 refine⟨ω,ω,ω,d,h.bq.wf δ δ δ⟩
theorem DH.ok(h:DH w):bn w:=⟨h.le,h.l2,EO h.po⟩
def J1(K:Qu)(H:Hp)(v:V)(k:Nat):Prop:=∃p,v=.ref p/\bz K H p [.str (TH "power"),.int (k:Nat)]
theorem J1.mono{K:Qu}{H H':Hp}{v:V}{k:Nat}(h:J1 K H v k)(t:aI K H H'):J1 K H' v k:=let ⟨p,a,b⟩:=h;⟨p,a,t _ _ b⟩
inductive oP(K:Qu)(vs:List V)(H:Hp)(Q:VK):Prop where
 |mk (v:V) (r:R) (k:Int) (h0_:vs=[v,.int k]) (h1_:RV K H v r) (h2_:Wf 310 r) (h3_:0≤k) (h4_:k≤4) (h5_:GF K H Q (dX r k.toNat)):oP K vs H Q
def xZ(K:Qu):Sp:=λvs H Q _=>oP K vs H Q
theorem ua{a:Int}(h:a.natAbs<2^310)(hi:i≤4):(a^i).natAbs<2^8990:=by
 rw[Int.natAbs_pow];exact RN (Nat.pow_le_pow_left (Ss h) i) (by rw[←Nat.pow_mul];exact Nat.pow_lt_pow_right δ ω)
inductive kX(K:Qu)(vs:List V)(H:Hp)(Q:VK):Prop where
 |mk (v w:V) (s:R) (k:Nat) (h0_:vs=[v,w]) (h1_:J1 K H v k) (h2_:k≤4) (h3_:RV K H w s) (h4_:Wf 310 s) (h5_:GF K H Q (dX s k)):kX K vs H Q
def tE(K:Qu):Sp:=λvs H Q _=>kX K vs H Q
theorem wK{D N:Nat}{r:R}(h:Bq D N r):∀k,Bq (D^k) (N^k) (dX r k)
 |0=>by
  show Bq 1 1 ((1,1):R);exact⟨δ,δ,⟨1,δ⟩,δ⟩
 |k+1=>by
  rw[Nat.pow_succ,Nat.pow_succ];exact(wK h k).times h
theorem tX(h:eT s)(hk:k≤4):Bq (31176196503125834160000000000^4) (34359738368^4) (dX s k):=(wK h.bq k).mono (Nat.pow_dvd_pow _ hk) (TN δ hk)
theorem Gg(h:eT s){k n:Nat}(hk:k≤4)(hn:n≤24):Bq (31176196503125834160000000000^4) (24*34359738368^4) (cA ((n:Int),1) (dX s k)):=by
 have o:Bq 1 24 (((n:Int),1):R):=⟨by show(0:Int)<1;decide,by show Q1 (n:Int) 1=1;simp,⟨1,by show((1:Nat):Int)=1*1;decide⟩,by show(n:Int).natAbs≤24*1;omega⟩;exact(o.times (tX h hk)).mono (by rw[ZO];exact Sz _) (QB _)
theorem ud(h:Bq (31176196503125834160000000000^4) (24*34359738368^4) r):Wf 530 r:=h.wf δ δ δ
inductive kW(K:Qu)(vs:List V)(H:Hp)(Q:VK):Prop where
 |mk (v w:V) (ss:List R) (k:Nat) (h0_:vs=[v,w]) (h1_:J1 K H v k) (h2_:k≤4) (h3_:zx K H w ss) (h4_:ss.length≤24) (h5_:(∀s∈ss,eT s)) (h6_:GF K H Q (fQ (ss.map λs=>dX s k))):kW K vs H Q
def tD(K:Qu):Sp:=λvs H Q _=>kW K vs H Q
def Ek(ws:List Wk)(k:Nat)(y:Ly):R:=cA ((y.1.length:Int),1) (dX (cc ws y) k)
def dY(lys:List Ly):Nat:=(lys.map λy=>y.1.length).sum
theorem yA(l:List Ly)(y:Ly):dY (l++[y])=dY l+y.1.length:=by unfold dY;rw[RW,Z2];simp
def zi(ws:List Wk)(k:Nat)(lys:List Ly):List R:=lys.map (Ek ws k)++[cA (((24-dY lys:Nat):Int),1) (dX (0,1) k)]
inductive gu(K:Qu)(vs:List V)(H:Hp)(Q:VK):Prop where
 |mk (v w x:V) (ws:List Wk) (k:Nat) (lys:List Ly) (h0_:vs=[v,w,x]) (h1_:eC K H v ws) (h2_:ws.length≤10) (h3_:(∀w∈ws,bn w)) (h4_:J1 K H w k) (h5_:k≤4) (h6_:L9 K H x lys) (h7_:(∀y∈lys,mV ws.length y)) (h8_:dY lys≤24) (h9_:GF K H Q (fQ (zi ws k lys))):gu K vs H Q
def lH(K:Qu):Sp:=λvs H Q _=>gu K vs H Q
def iR(es:List Ln)(k:Nat):Prop:=∃a b,es[k]?=some (a,b)/\fM (es.take (k+1)) a a
def J0(es:List Ln):Option Nat->Prop
 |none=>∀k,k<es.length->¬iR es k
 |some k=>k<es.length/\iR es k/\∀j,j<k->¬iR es j
def Nc:Option Nat->V
 |none=>.non
 |some k=>.int (k:Nat)
inductive k6(K:Qu)(vs:List V)(H:Hp)(Q:VK):Prop where
 |mk (n:Int) (h0_:vs=[.int n]) (h1_:Q (.bl true) H):k6 K vs H Q
def tN(K:Qu):Sp:=λvs H Q _=>k6 K vs H Q
inductive iC(K:Qu)(vs:List V)(H:Hp)(Q:VK):Prop where
 |mk (p:Addr) (xs:List V) (ds:List Ri) (m:Nat) (h0_:vs=[.ref p,.int m]) (h1_:bz K H p xs) (h2_:bx K H xs ds) (h3_:xs.length=m) (h4_:Q (.bl true) H):iC K vs H Q
def nQ(K:Qu):Sp:=λvs H Q _=>iC K vs H Q
inductive gZ(K:Qu)(vs:List V)(H:Hp)(Q:VK):Prop where
 |mk (i m:Nat) (h0_:vs=[.int i,.int m]) (h1_:i<m) (h2_:Q (.bl true) H):gZ K vs H Q
def mO(K:Qu):Sp:=λvs H Q _=>gZ K vs H Q
inductive k7(K:Qu)(vs:List V)(H:Hp)(Q:VK):Prop where
 |mk (v:V) (r:R) (h0_:vs=[v]) (h1_:RV K H v r) (h2_:gG r) (h3_:Q (.bl true) H):k7 K vs H Q
def tO(K:Qu):Sp:=λvs H Q _=>k7 K vs H Q
inductive fE(K:Qu)(vs:List V)(H:Hp)(Q:VK):Prop where
 |mk (v:V) (r:R) (h0_:vs=[v]) (h1_:RV K H v r) (h2_:gG r) (h3_:0<r.1) (h4_:Q (.bl true) H):fE K vs H Q
def jX(K:Qu):Sp:=λvs H Q _=>fE K vs H Q
inductive mF(K:Qu)(vs:List V)(H:Hp)(Q:VK):Prop where
 |mk (v:V) (w:Wk) (h0_:vs=[v]) (h1_:zk K H v w) (h2_:bn w) (h3_:Q (.bl true) H):mF K vs H Q
def uX(K:Qu):Sp:=λvs H Q _=>mF K vs H Q
inductive mH(K:Qu)(vs:List V)(H:Hp)(Q:VK):Prop where
 |mk (v:V) (a b n:Nat) (h0_:vs=[v,.int n]) (h1_:Gw K H v (a,b)) (h2_:a<n) (h3_:b<n) (h4_:a≠b) (h5_:Q (.bl true) H):mH K vs H Q
def uY(K:Qu):Sp:=λvs H Q _=>mH K vs H Q
inductive fD(K:Qu)(vs:List V)(H:Hp)(Q:VK):Prop where
 |mk (v:V) (ws:List Wk) (es:List Ln) (h0_:vs=[v]) (h1_:xN K H v ws es) (h2_:ws.length≤20) (h3_:es.length≤40) (h4_:Q (.bl true) H):fD K vs H Q
def jW(K:Qu):Sp:=λvs H Q _=>fD K vs H Q
inductive mI(K_:Qu)(C:Addr)(vs:List V)(H:Hp)(Q:VK):Prop where
 |mk (a:Addr) (x:Rr) (n:Int) (h0_:vs=[.ref a,.str x,.int n]) (h1_:H a=some (jC a C none)) (h2_:∀(d:Addr) (H':Hp),H d=none->d≠a->(∀b o,b≠a->H b=some o->H' b=some o)->H' a=some (jC a C (some d))->H' d=some (dO d [("number",.int n),("word",.str x)])->Q .non H'):mI K_ C vs H Q
def uZ(K_:Qu)(C:Addr):Sp:=λvs H Q _=>mI K_ C vs H Q
inductive jc(K:Qu)(vs:List V)(H:Hp)(Q:VK):Prop where
 |mk (n:Nat) (v:V) (es:List Ln) (h0_:vs=[.int n,v]) (h1_:pF K H v es) (h2_:gg n es) (h3_:n≤64) (h4_:∀(r:Option Nat) (H':Hp),J0 es r->aL H H'->Q (Nc r) H'):jc K vs H Q
def o6(K:Qu):Sp:=λvs H Q _=>jc K vs H Q
def nN(K:Qu)(C:Addr):Sp:=λvs H Q E=>∃(v:V) (ws:List Wk) (es:List Ln),vs=[v]/\xN K H v ws es/\ws.length≤20/\es.length≤40/\(∀w∈ws,bn w)/\gg ws.length es/\(∀e∈es,e.1≠e.2)/\(∀H',(∀k,k<es.length->¬iR es k)->aL H H'->Q (.bl true) H')/\∀(d:Addr) (H':Hp),aL H H'->E (.ref C) (some d) H'
theorem mB{xs:List V}(h:0<xs.length):sj xs (-1)=xs[xs.length-1]?:=by
 have e:yH xs.length (-1)=some (xs.length-1):=by
  unfold yH;rw[if_neg δ]
  first
   | (rw[if_pos ω];exact congrArg some ω)
   | (rw[if_neg ω];exact congrArg some ω)
 unfold sj;rw[e];rfl
def pD(K:Qu)(H:Hp)(v:V)(pl:List (List Pc)):Prop:=∃p xs,v=.ref p/\bz K H p xs/\Als (zo K H) xs pl
theorem pD.mono{K:Qu}{H H':Hp}{v:V}{pl:List (List Pc)}(h:pD K H v pl)(t:aI K H H'):pD K H' v pl:=let ⟨p,xs,a,b,c⟩:=h;⟨p,xs,a,t _ _ b,c.mono λ_ _ z=>z.mono t⟩
def EM:Pc:=(0,(0,1))
def jx(row:List Pc)(k:Nat):List Nat:=(Qv row.length).filter λj=>decide ((row.getD j EM).1=k)
def Km(n:Nat)(c:Pc):Prop:=c.1<n/\eT c.2/\0<c.2.1
structure OE(ws:List Wk)(es:List Ln)(pl:List (List Pc)):Prop where
 len:pl.length=24
 few:∀q∈pl,q.length≤10
 pc:∀q∈pl,∀c∈q,Km ws.length c
 win:∀t q,pl[t]?=some q->∀c∈q,gE (ws.getD c.1 b9) t=true
 nd:∀q∈pl,(q.map (·.1)).Nodup
 one:∀i,(pl.flatten.filter λc=>decide (c.1=i)).length≤24
 am:∀i,i<ws.length->fQ ((pl.flatten.filter λc=>decide (c.1=i)).map λc=>c.2)=(ws.getD i b9).2.2
 ne:∀i,i<ws.length->jx pl.flatten i≠[]
 ln:∀a b,(a,b)∈es->a<ws.length/\b<ws.length/\∀i∈jx pl.flatten a,∀j∈jx pl.flatten b,i<j
inductive k8(K:Qu)(vs:List V)(H:Hp)(Q:VK):Prop where
 |mk (v:V) (n:Nat) (c:Pc) (h0_:vs=[v,.int n]) (h1_:zq K H v c) (h2_:Km n c) (h3_:Q (.bl true) H):k8 K vs H Q
def tP(K:Qu):Sp:=λvs H Q _=>k8 K vs H Q
inductive jd(K:Qu)(vs:List V)(H:Hp)(Q:VK):Prop where
 |mk (v:V) (n:Nat) (q:List Pc) (h0_:vs=[v,.int n]) (h1_:zo K H v q) (h2_:q.length≤10) (h3_:(∀c∈q,Km n c)) (h4_:∀H',aL H H'->Q (.bl true) H'):jd K vs H Q
def o7(K:Qu):Sp:=λvs H Q _=>jd K vs H Q
inductive f9(K:Qu)(vs:List V)(H:Hp)(Q:VK):Prop where
 |mk (v:V) (n:Nat) (pl:List (List Pc)) (h0_:vs=[v,.int n]) (h1_:pD K H v pl) (h2_:pl.length=24) (h3_:(∀q∈pl,q.length≤10/\∀c∈q,Km n c)) (h4_:∀H',aL H H'->Q (.bl true) H'):f9 K vs H Q
def kA(K:Qu):Sp:=λvs H Q _=>f9 K vs H Q
inductive g9(K:Qu)(vs:List V)(H:Hp)(Q:VK):Prop where
 |mk (v x:V) (t:Nat) (ws:List Wk) (q:List Pc) (h0_:vs=[v,.int t,x]) (h1_:eC K H v ws) (h2_:zo K H x q) (h3_:q.length≤10) (h4_:(∀c∈q,Km ws.length c)) (h5_:(∀c∈q,gE (ws.getD c.1 b9) t=true)) (h6_:(q.map (·.1)).Nodup) (h7_:∀H',aL H H'->Q (.bl true) H'):g9 K vs H Q
def mQ(K:Qu):Sp:=λvs H Q _=>g9 K vs H Q
inductive fw(K:Qu)(vs:List V)(H:Hp)(Q:VK):Prop where
 |mk (v:V) (pl:List (List Pc)) (h0_:vs=[v]) (h1_:pD K H v pl) (h2_:pl.length=24) (h3_:(∀q∈pl,q.length≤10)) (h4_:∀(l:Addr) (xs:List V) (H':Hp),aL H H'->H' l=some (.lst xs)->Als (zq K H') xs pl.flatten->Q (.ref l) H'):fw K vs H Q
def jT(K:Qu):Sp:=λvs H Q _=>fw K vs H Q
inductive g6(K:Qu)(vs:List V)(H:Hp)(Q:VK):Prop where
 |mk (l:Addr) (xs:List V) (row:List Pc) (v:V) (a b:Nat) (h0_:vs=[.ref l,v]) (h1_:H l=some (.lst xs)) (h2_:Als (zq K H) xs row) (h3_:row.length≤400) (h4_:Gw K H v (a,b)) (h5_:jx row a≠[]) (h6_:jx row b≠[]) (h7_:(∀i∈jx row a,∀j∈jx row b,i<j)) (h8_:∀H',aL H H'->Q (.bl true) H'):g6 K vs H Q
def mP(K:Qu):Sp:=λvs H Q _=>g6 K vs H Q
inductive ja(K:Qu)(vs:List V)(H:Hp)(Q:VK):Prop where
 |mk (v x:V) (ws:List Wk) (es:List Ln) (pl:List (List Pc)) (h0_:vs=[v,x]) (h1_:xN K H v ws es) (h2_:ws.length≤10) (h3_:es.length≤40) (h4_:pD K H x pl) (h5_:OE ws es pl) (h6_:∀H',aL H H'->Q (.bl true) H'):ja K vs H Q
def oY(K:Qu):Sp:=λvs H Q _=>ja K vs H Q
inductive jE(K:Qu)(vs:List V)(H:Hp)(Q:VK):Prop where
 |mk (v:V) (pl:List (List Pc)) (h0_:vs=[v]) (h1_:pD K H v pl) (h2_:pl.length=24) (h3_:(∀q∈pl,q.length≤10/\∀c∈q,eT c.2)) (h4_:∀(v':V) (H':Hp),aL H H'->zx K H' v' (pl.map λq=>fQ (q.map (·.2)))->Q v' H'):jE K vs H Q
def qL(K:Qu):Sp:=λvs H Q _=>jE K vs H Q
theorem Als.app{P:V->α->Prop}{xs ys:List V}{ds es:List α}(h:Als P xs ds)(h':Als P ys es):Als P (xs++ys) (ds++es):=by
 induction h with
 |nil=>exact h'
 |cons e _ ih=>exact .cons e ih
theorem xg{pl:List (List Pc)}(h:∀q∈pl,q.length≤10):pl.flatten.length≤10*pl.length:=by
 induction pl with
 |nil=>exact QB _
 |cons q r ih=>
  have h1:=h q QL;have h2:=ih λx hx=>h x (QP _ hx)
  rw[WU,Q2,Rh];omega
theorem Fc(h:Als (λv (b:Nat)=>v=V.int (b:Nat)) us bs):us=bs.map λb=>V.int (b:Nat):=by
 induction h with
 |nil=>rfl
 |cons e _ ih=>rw[RC,e,ih]
theorem Dq:(((Qv n).filter λ_=>true).map λ_=>V.bl true)=(Rf n true).map V.bl:=by
 rw[RP.mpr (λ_ _=>Z),YT];refine UV λi=>?_
 rw[QJ,Te];by_cases c:i<n
 ·rw[Tr c,if_pos c];rfl
 ·rw[R5 (by rw[RL];omega),if_neg c];rfl
theorem wH(n:Nat):(Rf n true).all id=true:=Sk.mpr λb hb=>by rw[Vt hb];rfl
theorem FA{l:List Nat}(h:l.Nodup):(l.map λi:Nat=>(i:Int)).Nodup:=by
 induction l with
 |nil=>exact UD
 |cons a l ih=>
  obtain⟨h1,h2⟩:=RO.mp h;rw[RC];exact RO.mpr ⟨λm=>by obtain⟨b,hb,e⟩:=QU.mp m;exact h1 (by rw[show a=b by omega];exact hb),ih h2⟩
theorem Fk(bs:List Bool):(bs.map V.bl).all jB=true:=by
 rw[Sk];intro v hv;obtain⟨b,_,rfl⟩:=QU.mp hv;rfl
theorem LI{bs:List Bool}(h:∀b∈bs,b=false):Ff (.bl true) (bs.map V.bl)=false:=by
 unfold Ff;rw[VF];intro v hv;obtain⟨b,hb,rfl⟩:=QU.mp hv;rw[h b hb];decide
theorem Als.dropI{α:Type}{P:V->α->Prop}:∀{xs:List V} {ds:List α} (n:Nat),Als P xs ds->Als P (xs.drop n) (ds.drop n)
 |_,_,0,h=>h
 |_,_,n+1,.nil=>by rw[aav,aav];exact .nil
 |_,_,n+1,.cons h t=>Als.dropI n t
theorem CI{α:Type}{P:α->Prop}{ws:List α}{w:α}{n m:Nat}(h:∀x∈ws,P x)(hw:P w):∀x∈ws.take n++w::ws.drop m,P x:=λx hx=>by
 rcases Q6.mp hx with z|z
 ·exact h x (RZ z)
 ·rcases QR.mp z with z|z
  ·rw[z];exact hw
  ·exact h x (Vc z)
theorem tj{α:Type}{ws:List α}{n:Nat}{w:α}(h:ws[n]?=some w):ws=ws.take n++w::ws.drop (n+1):=by
 obtain⟨hl,e⟩:=QM.mp h;rw[←e,←WI hl,VS]
theorem mY(h:0<r.2):0<val r↔0<r.1:=by
 have a:=jO h;have b:=km h;constructor
 ·intro c;have n:=a.mp (TK c);have z:r.1≠0:=λz=>by rw[b.mpr z] at c;exact absurd c δ
  omega
 ·intro c;have n:=a.mpr ω;have z:val r≠0:=λz=>by have:=b.mp z;omega
  exact Rat.lt_of_le_of_ne n (Tt z)
theorem Ml(ok:∀w∈ws,bn w)(h:gU ws ls lys):∀(q:Nat->Bool),ls=(Qv 24).filter q->∀A:Nat->Bool,(∀t,t<24->q t=false->A t=true)->FM ws A-FM ws (λt=>!q t)≤sQ (λt=>bG (q t&&A t) (dk ws lys t)) (Qv 24):=by
 induction h with
 | @nil ls z=>
  intro q e A hA;subst e;have e:FM ws A=FM ws (λu=>!q u):=aO λw hw=>by
   have n:=SK.mp z w hw;rw[iH] at n;have i0:fk (λt=>!q t) w=true:=by simpa using n
   rw[i0,dJ (λt ht e=>hA t ht (by simpa using e)) i0]
  have:=pV (f:=λt=>bG (q t&&A t) (dk ws [] t)) (l:=Qv 24) λt _=>fX _ RM
  rw[e];grind
 | @cons ls p r h tl ih=>
  intro q e A hA;subst e;have i1:=ih (nx q p) (fG q p) (λt=>A t||!nx q p t) λt _ e=>by rw[e,Vb,SZ]
  have su:=lh (mC ok) A (λt=>!nx q p t);have g:=fY ok h (A:=λt=>A t&&!nx q p t) λt ht e=>by
   rw[hA t ht e];unfold nx;rw[e,R1];rfl
  have e1:sQ (λt=>bG (q t&&A t) (dk ws (eJ ws ((Qv 24).filter q) p::r) t)) (Qv 24)=sQ (λt=>bG (nx q p t&&(A t||!nx q p t)) (dk ws r t)+val (cc ws (eJ ws ((Qv 24).filter q) p))*bG (q t&&(A t&&!nx q p t)) 1) (Qv 24):=aO λt _=>by
   rw[eY];have n:nx q p t=(!(cD ((Qv 24).filter q) p).contains t&&q t):=Z;have lf:=jm (q:=q) (p:=p) (t:=t);rw[show(eJ ws ((Qv 24).filter q) p).1.contains t=(cD ((Qv 24).filter q) p).contains t from Z]
   cases a:(cD ((Qv 24).filter q) p).contains t with
   |true=>
    rw[a] at n lf;rw[lf Z,n]
    cases A t with
    |true=>show val _=0+val _*1;grind
    |false=>show(0:Rat)=0+val _*0;grind
   |false=>
    rw[a] at n;rw[n]
    cases q t<;>cases A t
    ·show(0:Rat)=0+_*0;grind
    ·show(0:Rat)=0+_*0;grind
    ·show(0:Rat)=0+_*0;grind
    ·show dk ws r t=dk ws r t+_*0;grind
  rw[e1,cV,cM];have g':FM ws (λt=>A t&&!nx q p t)-FM ws (λt=>!q t)≤val (cc ws (eJ ws ((Qv 24).filter q) p))*sQ (λt=>bG (q t&&(A t&&!nx q p t)) 1) (Qv 24):=g;grind
theorem E6(ok:∀w∈ws,bn w)(h:zF ws ((Qv 24).filter q) p)(h':zF ws ((Qv 24).filter (nx q p)) p'):val (cc ws (eJ ws ((Qv 24).filter (nx q p)) p'))≤val (cc ws (eJ ws ((Qv 24).filter q) p)):=by
 have g:=fY ok h (A:=λt=>!nx (nx q p) p' t) λt _ e=>by
  show(!(_&&(_&&q t)))=true;rw[e,R1,R1];rfl
 have n1:=CB (ws:=ws) h.1.inn;have n2:=CB (ws:=ws) h'.1.inn;have c1:=lU h.1.inn;have c2:=lU h'.1.inn;have s1:=h7 ok h.1.inn;have s2:=h7 ok h'.1.inn;have l2:=iW h'.1.inn;have e:i5 (λt=>q t&&!nx (nx q p) p' t)=(bV p:Rat)+(bV p':Rat):=by
  rw[←c1,←c2];refine eS λt _=>?_
  have a1:nx q p t=true->q t=true:=λz=>(Ra _ _▸z:_/\_).2
  have a2:nx (nx q p) p' t=true->nx q p t=true:=λz=>(Ra _ _▸z:_/\_).2
  cases hq:q t<;>cases h1:nx q p t<;>cases h2:nx (nx q p) p' t<;>simp_all [bG]<;>grind
 rw[e] at g;generalize val (cc ws (eJ ws ((Qv 24).filter (nx q p)) p'))=v' at *;generalize val (cc ws (eJ ws ((Qv 24).filter q) p))=v at *;have k:v'*(bV p':Rat)≤v*(bV p':Rat):=by grind
 exact p8 l2 k
def uu(ws:List Wk)(s':Nat->Rat)(X:Nat->Bool):Rat:=sQ (λt=>bG (X t) (s' t)) (Qv 24)-FM ws X
theorem kH{a b:Rat}(h0:0≤a)(h:a≤b):∀n:Nat,a^n≤b^n/\0≤a^n
 |0=>by rw[Zq,Zq];exact⟨RM,δ⟩
 |n+1=>by
  obtain⟨i,j⟩:=kH h0 h n;rw[VQ,VQ];refine⟨?_,Tp j h0⟩;have x:=Sl i h0;have b0:0≤b^n:=by grind
  have y:=Rat.mul_le_mul_of_nonneg_left h b0;grind
theorem PF{x y c w g gn sc v:Rat}(i:x≥-(w*gn))(e:y=w*(sc-v))(d:gn=g+(sc-v))(hw:w≤c)(hg:0≤g):y+x≥-(c*g):=by
 have:=Sl hw hg;subst e;subst d;grind
theorem Ih(ok:∀w∈ws,bn w)(s':Nat->Rat)(gp:∀X:Nat->Bool,0≤uu ws s' X)(h:gU ws ls lys):∀(q:Nat->Bool),ls=(Qv 24).filter q->∀c:Rat,0≤c->(∀y r,lys=y:: r->val (cc ws y)^(m+1)≤c)->sQ (λt=>bG (q t) (dk ws lys t^(m+1)*(s' t-dk ws lys t))) (Qv 24)≥-(c*uu ws s' (λt=>!q t)):=by
 induction h with
 | @nil ls z=>
  intro q e c hc _;have e:sQ (λt=>bG (q t) (dk ws [] t^(m+1)*(s' t-dk ws [] t))) (Qv 24)=0*sQ (λt=>(0:Rat)) (Qv 24):=by
   rw[←cM];refine aO λt _=>?_
   rw[kB,VQ]
   cases q t with
   |true=>rw[cy];grind
   |false=>rw[bS];grind
  have:=Tp hc (gp λt=>!q t);rw[e];grind
 | @cons ls p r h tl ih=>
  intro q e c hc hy;subst e;have v0:=qK ok h.1.inn;have i1:=ih (nx q p) (fG q p) (val (cc ws (eJ ws ((Qv 24).filter q) p))^(m+1)) (kH v0 RM _).2 λy r' e=>by
   subst e;rw[fG] at tl
   cases tl with
   |cons h' _=>exact(kH (qK ok h'.1.inn) (E6 ok h h') _).1
  have nF:=CB (ws:=ws) h.1.inn;have sv:=h7 ok h.1.inn;have nC:=lU h.1.inn;have sp:∀t,t<24->(q t&&!nx q p t)=(eJ ws ((Qv 24).filter q) p).1.contains t/\(nx q p t=true->q t=true/\(eJ ws ((Qv 24).filter q) p).1.contains t=false):=λt _=>by
   have n:nx q p t=(!(cD ((Qv 24).filter q) p).contains t&&q t):=Z;have lf:=jm (q:=q) (p:=p) (t:=t);rw[show(eJ ws ((Qv 24).filter q) p).1.contains t=(cD ((Qv 24).filter q) p).contains t from Z]
   cases a:(cD ((Qv 24).filter q) p).contains t with
   |true=>rw[a] at n lf;rw[lf Z,n];exact⟨Z,λz=>by cases z⟩
   |false=>rw[a] at n;rw[n];cases q t with
    |true=>exact⟨Z,λ_=>⟨Z,Z⟩⟩
    |false=>exact⟨Z,λz=>by cases z⟩
  have e1:sQ (λt=>bG (q t) (dk ws (eJ ws ((Qv 24).filter q) p::r) t^(m+1)*(s' t-dk ws (eJ ws ((Qv 24).filter q) p::r) t))) (Qv 24)=sQ (λt=>val (cc ws (eJ ws ((Qv 24).filter q) p))^(m+1)*(bG (q t&&!nx q p t) (s' t)+-val (cc ws (eJ ws ((Qv 24).filter q) p))*bG (q t&&!nx q p t) 1)+bG (nx q p t) (dk ws r t^(m+1)*(s' t-dk ws r t))) (Qv 24):=aO λt ht=>by
   obtain⟨a,b⟩:=sp t (QH.mp ht);rw[eY,a]
   cases n:nx q p t with
   |true=>
    obtain⟨b1,b2⟩:=b n;rw[b1,b2,cy,cy,bS,bS,if_neg Q4];grind
   |false=>
    rw[n] at a;rw[bS]
    cases hq:q t with
    |true=>
     rw[hq] at a;rw[←a];show val (cc ws (eJ ws ((Qv 24).filter q) p))^(m+1)*(s' t-val (cc ws (eJ ws ((Qv 24).filter q) p)))=val (cc ws (eJ ws ((Qv 24).filter q) p))^(m+1)*(s' t+-val (cc ws (eJ ws ((Qv 24).filter q) p))*1)+0;grind
    |false=>
     rw[hq] at a;rw[←a];show(0:Rat)=_*(0+_*0)+0;grind
  rw[e1,cV,cM,cV,cM];have nC':sQ (λt=>bG (q t&&!nx q p t) 1) (Qv 24)=(bV p:Rat):=nC;rw[nC'];refine PF (w:=val (cc ws (eJ ws ((Qv 24).filter q) p))^(m+1)) (gn:=uu ws s' (λt=>!nx q p t)) (sc:=sQ (λt=>bG (q t&&!nx q p t) (s' t)) (Qv 24)) (v:=SM ws ((Qv 24).filter q) p) i1 (by grind) ?_ (hy _ _ Z) (gp _);unfold uu;rw[nF];have e2:sQ (λt=>bG (!nx q p t) (s' t)) (Qv 24)=sQ (λt=>bG (!q t) (s' t)+bG (q t&&!nx q p t) (s' t)) (Qv 24):=aO λt ht=>by
   obtain⟨a,b⟩:=sp t (QH.mp ht)
   cases n:nx q p t with
   |true=>rw[(b n).1];show(0:Rat)=0+0;grind
   |false=>cases q t with
    |true=>show s' t=0+s' t;grind
    |false=>show s' t=s' t+0;grind
  rw[e2,cV];grind
theorem KN(x:Rat):0≤x*x:=by
 rcases(Rat.le_total:(0:Rat)≤x∨x≤0) with h|h
 ·exact Tp h h
 ·have:=Tp (show 0≤-x by grind) (show 0≤-x by grind);grind
theorem PD{k:Nat}(hk:k=2∨k=3∨k=4)(hs:0≤s)(hy:0≤y):s^k+(k:Rat)*(s^(k-1)*(y-s))≤y^k:=by
 have q:=KN (y-s);have a:=Tp hs hs;have b:=Tp hs hy;have c:=Tp hy hy;rcases hk with rfl|rfl|rfl
 ·show s^2+((2:Nat):Rat)*(s^1*(y-s))≤y^2;have e:((2:Nat):Rat)=2:=Z;rw[e];grind
 ·show s^3+((3:Nat):Rat)*(s^2*(y-s))≤y^3;have e:((3:Nat):Rat)=3:=Z;rw[e];have z:=Tp q (show 0≤y+2*s by grind);grind
 ·show s^4+((4:Nat):Rat)*(s^3*(y-s))≤y^4;have e:((4:Nat):Rat)=4:=Z;rw[e];have z:=Tp q (show 0≤y*y+2*(s*y)+3*(s*s) by grind);grind
theorem Ld(ok:∀w∈ws,bn w)(ok':∀w∈ws',bn w)(h:gU ws (Qv 24) lys)(h':gU ws' (Qv 24) lys')(D:∀X:Nat->Bool,FM ws X≤FM ws' X)(hk:k=2∨k=3∨k=4):sQ (λt=>dk ws lys t^k) (Qv 24)≤sQ (λt=>dk ws' lys' t^k) (Qv 24):=by
 have full:Qv 24=(Qv 24).filter (λ_=>true):=(RP.mpr λ_ _=>Z).symm;have gp:∀X:Nat->Bool,0≤uu ws (dk ws' lys') X:=λX=>by
  have a:=Ml ok' h' _ full X (λ_ _ e=>by cases e);have b:=ju ok';have d:=D X;unfold uu;have e:FM ws' (λt=>!(λ_=>true) t)=0:=b;rw[e] at a;have e2:sQ (λt=>bG ((λ_=>true) t&&X t) (dk ws' lys' t)) (Qv 24)=sQ (λt=>bG (X t) (dk ws' lys' t)) (Qv 24):=aO λt _=>by cases X t<;>rfl
  rw[e2] at a;grind
 obtain⟨m,em⟩:∃m,k-1=m+1:=⟨k-2,ω⟩;obtain⟨c,c0,hc⟩:∃c:Rat,0≤c/\∀y r,lys=y::r->val (cc ws y)^(m+1)≤c:=by
  cases lys with
  |nil=>exact⟨0,RM,λy r e=>by cases e⟩
  |cons y r=>
   cases h with
   |cons h1 _=>exact⟨_,(kH (qK ok h1.1.inn) RM (m+1)).2,λy' r' e=>by cases e;exact RM⟩
 have p:=Ih ok (m:=m) (dk ws' lys') gp h _ full c c0 hc;have g0:uu ws (dk ws' lys') (λt=>!(λ_=>true) t)=0:=by
  have b:FM ws (λt=>!(λ_=>true) t)=0:=ju ok;unfold uu;rw[b,aO (g:=λt=>0*(0:Rat)) (λt _=>by show(0:Rat)=0*0;grind),cM];grind
 rw[g0] at p;have cv:sQ (λt=>dk ws lys t^k+(k:Rat)*(dk ws lys t^(k-1)*(dk ws' lys' t-dk ws lys t))) (Qv 24)≤sQ (λt=>dk ws' lys' t^k) (Qv 24):=iu λt _=>PD hk (qW ok h t) (qW ok' h' t)
 rw[cV,cM,em] at cv;have e3:sQ (λt=>bG ((λ_=>true) t) (dk ws lys t^(m+1)*(dk ws' lys' t-dk ws lys t))) (Qv 24)=sQ (λt=>dk ws lys t^(m+1)*(dk ws' lys' t-dk ws lys t)) (Qv 24):=aO λt _=>Z
 rw[e3] at p;have k0:(0:Rat)≤(k:Rat):=by rcases hk with rfl|rfl|rfl<;>decide
 have:=Tp k0 (show 0≤sQ (λt=>dk ws lys t^(m+1)*(dk ws' lys' t-dk ws lys t)) (Qv 24) by grind);grind
theorem fT(h:gG s)(n:Nat):gG (dX s n):=by cases n with|zero=>exact⟨by show(0:Int)<1;decide,by show Q1 1 1=1;decide⟩|succ n=>exact lF (fT h n) h
theorem qD(k:Int):val (k,1)=(k:Rat):=by unfold val;show(k:Rat)/((1:Int):Rat)=k;rw[show((1:Int):Rat)=1 from Z];grind
theorem mX{s:R}(h:gG s):∀n:Nat,val (dX s n)=val s^n
 |0=>by show val (1,1)=_;rw[qD,Zq];rfl
 |n+1=>by
  show val (cA (dX s n) s)=_;rw[jf (fT h n).pos h.pos,mX h n,VQ]
theorem wI(k:Int):gG ((k,1):R):=⟨by show(0:Int)<1;decide,by show Q1 k 1=1;simp⟩
theorem wV(ok:∀w∈ws,bn w)(h:gU ws ls lys):∀(q:Nat->Bool),ls=(Qv 24).filter q->sQ (λt=>bG (q t) (dk ws lys t^(m+1))) (Qv 24)=sQ (λy:Ly=>(y.1.length:Rat)*val (cc ws y)^(m+1)) lys/\((dY lys:Nat):Rat)≤i5 q:=by
 induction h with
 | @nil ls z=>
  intro q e;refine⟨?_,v3 q⟩;show _=(0:Rat);rw[aO (g:=λt=>0*(0:Rat)) (λt _=>by
   rw[kB,VQ]
   cases q t with
   |true=>rw[cy];grind
   |false=>rw[bS];grind),cM]
  grind
 | @cons ls p r h tl ih=>
  intro q e;subst e;obtain⟨i1,i2⟩:=ih (nx q p) (fG q p);have nC:=lU h.1.inn;have cl:=xz h.1.inn;have cs:i5 q=i5 (λt=>q t&&!nx q p t)+i5 (nx q p):=eS λt _=>by
   have a1:nx q p t=true->q t=true:=λz=>(Ra _ _▸z:_/\_).2
   cases n:nx q p t with
   |true=>rw[a1 n];show(1:Rat)=0+1;grind
   |false=>cases q t with
    |true=>show(1:Rat)=1+0;grind
    |false=>show(0:Rat)=0+0;grind
  refine⟨?_,?_⟩
  ·show _=((cD ((Qv 24).filter q) p).length:Rat)*_+sQ _ r;rw[cl,←i1,←nC];show _=sQ _ _*_+_;rw[Rat.mul_comm,←cM,←cV];refine aO λt _=>?_
   rw[eY];show _=_*bG (q t&&!nx q p t) 1+_;have n:nx q p t=(!(cD ((Qv 24).filter q) p).contains t&&q t):=Z;have lf:=jm (q:=q) (p:=p) (t:=t);rw[show(eJ ws ((Qv 24).filter q) p).1.contains t=(cD ((Qv 24).filter q) p).contains t from Z]
   cases a:(cD ((Qv 24).filter q) p).contains t with
   |true=>rw[a] at n lf;rw[lf Z,n];show val _^(m+1)=val _^(m+1)*1+0;grind
   |false=>rw[a] at n;rw[n];cases q t with
    |true=>show dk ws r t^(m+1)=_*0+dk ws r t^(m+1);grind
    |false=>show(0:Rat)=_*0+0;grind
  ·show(((cD ((Qv 24).filter q) p).length+dY r:Nat):Rat)≤_;rw[cs,nC,←cl]
   push_cast
   grind
theorem JT:i5 (λ_=>true)=24:=by decide +kernel
theorem Fa(ok:∀w∈ws,bn w)(h:gU ws (Qv 24) lys):dY lys≤24:=by
 have a:=(wV ok (m:=0) h _ (RP.mpr λ_ _=>Z).symm).2;rw[JT] at a
 exact_mod_cast a
theorem rF{ws:List Wk}{lys:List Ly}(am:∀r∈aU ws lys,eT r)(h:gU ws (Qv 24) lys):gG (fQ ((aU ws lys).map λs=>dX s k))/\val (fQ ((aU ws lys).map λs=>dX s k))=sQ (λt=>dk ws lys t^k) (Qv 24):=by
 have rd:∀r∈(aU ws lys).map (λs=>dX s k),gG r:=λr hr=>by
  obtain⟨s,hs,rfl⟩:=QU.mp hr;exact fT (am s hs).red k
 have vs:=hJ rd;have l24:(aU ws lys).length=24:=by unfold aU;rw[gi];rfl
 refine⟨vs.1,?_⟩;rw[vs.2,je,iQ,ib (0,1),l24];refine aO λt ht=>?_
 have ht':=QH.mp ht;have m:(aU ws lys).getD t (0,1)∈aU ws lys:=by rw[aB (0,1) (Qw ω)];exact RA _
 rw[mX (am _ m).red,gh h ht']
theorem JU{ws:List Wk}(ok:∀w∈ws,bn w){lys:List Ly}(am:∀r∈aU ws lys,eT r)(h:gU ws (Qv 24) lys)(sm:∀y∈lys,gG (cc ws y)):fQ (zi ws (m+1) lys)=fQ ((aU ws lys).map λs=>dX s (m+1)):=by
 have rd:∀r∈zi ws (m+1) lys,gG r:=λr hr=>by
  rcases Q6.mp hr with z|z
  ·obtain⟨y,hy,rfl⟩:=QU.mp z;exact lF (wI _) (fT (sm y hy) _)
  ·rw[QK.mp z];exact lF (wI _) (fT im.red _)
 have vs:=hJ rd;obtain⟨r2,v2⟩:=rF (k:=m+1) am h;refine hV vs.1 r2 ?_;have l:=(wV ok (m:=m) h _ (RP.mpr λ_ _=>Z).symm).1;rw[vs.2,v2,je];unfold zi;rw[dW,iQ];show _+(val _+0)=_;rw[jf (wI _).pos (fT im.red _).pos,mX im.red,show val (0,1)=0 from by rw[qD];rfl,VQ];have e:sQ (λt=>bG ((λ_=>true) t) (dk ws lys t^(m+1))) (Qv 24)=sQ (λt=>dk ws lys t^(m+1)) (Qv 24):=Z;rw[←e,l];have e2:sQ (λy:Ly=>val (Ek ws (m+1) y)) lys=sQ (λy:Ly=>(y.1.length:Rat)*val (cc ws y)^(m+1)) lys:=aO λy hy=>by
  unfold Ek;rw[jf (wI _).pos (fT (sm y hy) _).pos,mX (sm y hy),qD];rfl
 rw[e2];grind
def lT(pl:List (List Pc))(t:Nat):Nat:=(pl.take t).flatten.length
theorem ue(h:t<pl.length):lT pl (t+1)=lT pl t+(pl.getD t []).length:=by
 unfold lT;rw[Rn,Qw h,Vj,Q2,aB [] (Qw h)];simp
theorem CA(h:t<u)(hu:u≤pl.length):lT pl t+(pl.getD t []).length≤lT pl u:=by
 induction u with
 |zero=>omega
 |succ u ih=>
  rw[ue ω];by_cases c:t=u
  ·subst c;exact QB _
  ·have:=ih ω ω;omega
theorem xh{pl:List (List Pc)}:∀n,n≤pl.length->∀i,i<lT pl n->∃t k,t<n/\k<(pl.getD t []).length/\i=lT pl t+k/\(pl.take n).flatten.getD i EM=bY pl t k
 |0,_,i,h=>absurd h (Ta _)
 |n+1,hn,i,h=>by
  have e:(pl.take (n+1)).flatten=(pl.take n).flatten++pl.getD n []:=by
   rw[Rn,Qw (show n<pl.length by omega),Vj,aB [] (Qw (show n<pl.length by omega))];simp
  rw[ue ω] at h;rw[e];by_cases c:i<lT pl n
  ·obtain⟨t,k,a,b,c',d⟩:=xh n ω i c;refine⟨t,k,ω,b,c',?_⟩;rw[QQ,Vf c,←QQ];exact d
  ·refine⟨n,i-lT pl n,ω,ω,ω,?_⟩;rw[QQ,U3 (by unfold lT at c;omega),←QQ];rfl
theorem Aj{pl:List (List Pc)}{i t k:Nat}:∀{n:Nat},t<n->k<(pl.getD t []).length->(bY pl t k).1=i->(t,k)∈pQ pl n i
 |0,h,_,_=>absurd h (Ta _)
 |n+1,h,hk,e=>by
  show(t,k)∈pQ pl n i++DG pl n (pl.getD n []).length i;by_cases c:t<n
  ·exact Q6.mpr (.inl (Aj c hk e))
  ·obtain rfl:t=n:=ω
   exact Q6.mpr (.inr (QU.mpr ⟨k,Q3.mpr ⟨QH.mpr hk,decide_eq_true e⟩,Z⟩))
theorem xo{pl:List (List Pc)}{i:Nat}(pc:∀t k,t<24->k<(pl.getD t []).length->0<(bY pl t k).2.2)(l24:pl.length=24):∀t,t≤24->0<(zt pl i t).2/\val (zt pl i t)=sQ (λc:Pc=>bG (decide (c.1=i)) (val c.2)) (pl.take t).flatten
 |0,_=>⟨by show(0:Int)<1;decide,by show val (0,1)=0;rw[qD];rfl⟩
 |t+1,h=>by
  obtain⟨p,e⟩:=xo pc l24 t ω;obtain⟨p2,e2⟩:=nc (t:=t) (i:=i) p (pl.getD t []).length λj hj=>pc t j ω hj
  refine⟨p2,?_⟩;show val (vY pl t i (zt pl i t) (pl.getD t []).length)=_;have et:(pl.take (t+1)).flatten=(pl.take t).flatten++pl.getD t []:=by
   rw[Rn,Qw (show t<pl.length by omega),Vj,aB [] (Qw (show t<pl.length by omega))];simp
  rw[e2,e,et,dW,ib (f:=λc:Pc=>bG (decide (c.1=i)) (val c.2)) EM (pl.getD t [])];rfl
theorem FJ.good(h:FJ ws es pl)(ok:∀w∈ws,bn w)(eok:gg ws.length es):OE ws es pl:=by
 have l24:=h.len;have at_:∀t q,pl[t]?=some q->t<24/\pl.getD t []=q:=λt q e=>⟨by have:=(QM.mp e).1;omega,aB [] e⟩
 have pt:∀t q,pl[t]?=some q->∀c∈q,∃k,k<(pl.getD t []).length/\bY pl t k=c:=λt q e c hc=>by
  obtain⟨k,hk,ek⟩:=Sa.mp hc;have eq:=(at_ t q e).2;refine⟨k,by rw[eq];exact hk,?_⟩;unfold bY;rw[eq,aB (0,(0,1)) (Qw hk),ek]
 have tq:∀q∈pl,∃t,pl[t]?=some q:=λq hq=>Va hq
 have full:pl.take 24=pl:=by rw[←l24];exact RB
 have pg:∀t k,t<24->k<(pl.getD t []).length->Km ws.length (bY pl t k):=λt k ht hk=>by
  obtain⟨a,b,c,_⟩:=h.pc t k ht hk;exact⟨a,b,(mY b.bq.pos).mp c⟩
 have spots:∀a,∀i∈jx pl.flatten a,∃x∈pQ pl 24 a,i=lT pl x.1+x.2/\x.1<24/\x.2<(pl.getD x.1 []).length:=λa i hi=>by
  obtain⟨h1,h2⟩:=Q3.mp hi;have e:lT pl 24=pl.flatten.length:=by unfold lT;rw[full]
  obtain⟨t,k,ht,hk,ei,ep⟩:=xh (pl:=pl) 24 ω i (by rw[e];exact QH.mp h1);rw[full] at ep;have h2':(pl.flatten.getD i EM).1=a:=of_decide_eq_true h2;rw[ep] at h2';exact⟨(t,k),Aj ht hk h2',ei,ht,hk⟩
 have ndq:∀q∈pl,(q.map (·.1)).Nodup:=λq hq=>by
  obtain⟨t,e⟩:=tq q hq;obtain⟨ht,eq⟩:=at_ t q e;refine Sq.mpr λj k hj hk jk z=>?_
  rw[Qz] at hj hk;have:=h.nd t j k ht jk (by rw[eq];exact hk);unfold bY at this;rw[eq,aB (0,(0,1)) (Qw hj),aB (0,(0,1)) (Qw hk)] at this;exact this (by simpa using z)
 refine⟨l24,λq hq=>?_,λq hq c hc=>?_,λt q e c hc=>?_,λq hq=>?_,λi=>?_,λi hi=>?_,λi hi=>?_,λa b hab=>?_⟩
 ·obtain⟨t,e⟩:=tq q hq;have:=h.few t;rw[(at_ t q e).2] at this;exact this
 ·obtain⟨t,e⟩:=tq q hq;obtain⟨k,hk,ec⟩:=pt t q e c hc;rw[←ec];exact pg t k (at_ t q e).1 hk
 ·obtain⟨k,hk,ec⟩:=pt t q e c hc;rw[←ec];exact(h.pc t k (at_ t q e).1 hk).2.2.2
 ·exact ndq q hq
 ·have go:∀l:List (List Pc),(∀q∈l,(q.map (·.1)).Nodup)->(l.flatten.filter λc=>decide (c.1=i)).length≤l.length:=λl=>by
   induction l with
   |nil=>intro _;exact QB _
   |cons q r ih=>
    intro hh;have h2:=ih λx hx=>hh x (QP _ hx)
    rw[WU,Tx,Q2,Rh];have h3:(q.filter λc=>decide (c.1=i)).length≤1:=by
     have e:(q.filter λc=>decide (c.1=i)).length=(q.map (·.1)).count i:=by
      rw[List.count_eq_countP,Z1,TZ];refine congrArg ZK (WT λc _=>?_);show decide (c.1=i)=(c.1==i);rfl
     rw[e];exact List.nodup_iff_count.mp (hh q QL) _
    omega
  refine Rm (go pl λq hq=>?_) (VI l24);exact ndq q hq
 ·have rd:∀r∈(pl.flatten.filter λc=>decide (c.1=i)).map (λc=>c.2),gG r:=λr hr=>by
   obtain⟨c,hc,rfl⟩:=QU.mp hr;obtain⟨q,hq,hc'⟩:=Xs.mp (Q3.mp hc).1;obtain⟨t,e⟩:=tq q hq;obtain⟨k,hk,ec⟩:=pt t q e c hc';rw[←ec];exact(pg t k (at_ t q e).1 hk).2.1.red
  have vs:=hJ rd;have d:=(xo (i:=i) (λt k ht hk=>(pg t k ht hk).2.1.bq.pos) l24 24 (QB _)).2;rw[h.fin i hi,full] at d;refine hV vs.1 (sK ok hi).am.wf.red ?_;rw[vs.2,d,je,iQ,gK]
 ·intro z;have n:=h.ne i hi
  cases e:pQ pl 24 i with
  |nil=>exact n e
  |cons x r=>
   have m:x∈pQ pl 24 i:=by rw[e];exact QL
   obtain⟨a,b,c⟩:=mZ m;have mem:bY pl x.1 x.2∈pl.flatten:=by
    have e1:pl[x.1]?=some (pl.getD x.1 []):=by rw[Qw ω,aB [] (Qw ω)]
    refine Xs.mpr ⟨_,QC e1,?_⟩;unfold bY;rw[aB (0,(0,1)) (Qw b)];exact RA b
   obtain⟨j,hj,ej⟩:=Sa.mp mem;have:j∈jx pl.flatten i:=Q3.mpr ⟨QH.mpr hj,decide_eq_true (by rw[aB EM (Qw hj),ej];exact c)⟩;rw[z] at this
   cases this
 ·obtain⟨ha,hb⟩:=eok _ hab;refine⟨ha,hb,λi hi j hj=>?_⟩;obtain⟨x,hx,ex,x1,x2⟩:=spots a i hi;obtain⟨y,hy,ey,y1,y2⟩:=spots b j hj;rcases h.lean a b hab x hx y hy with l | ⟨l1,l2⟩
  ·have:=CA (pl:=pl) l ω;omega
  ·rw[l1] at ex;omega
theorem FJ.bare(h:FJ ws es pl):FJ ws [] pl:=⟨h.len,h.few,h.pc,h.nd,h.fin,h.ne,λ_ _ z=>by cases z⟩
theorem xP(ws:List Wk)(X:Nat->Bool):FM ws X=sQ (λi=>bG (fk X (ws.getD i b9)) (iy (ws.getD i b9))) (Qv ws.length):=ib b9 ws
theorem qz(ok:∀w∈ws,bn w)(len:ws'.length=ws.length)(h:∀i,i<ws.length->(ws.getD i b9).1≤(ws'.getD i b9).1/\(ws'.getD i b9).2.1≤(ws.getD i b9).2.1/\(ws'.getD i b9).2.2=(ws.getD i b9).2.2)(X:Nat->Bool):FM ws X≤FM ws' X:=by
 rw[xP,xP,len];refine iu λi hi=>?_
 have il:=QH.mp hi;obtain⟨a,b,c⟩:=h i il;have e:iy (ws'.getD i b9)=iy (ws.getD i b9):=by unfold iy;rw[c]
 rw[e];refine lW (TK (oO (sK ok il))) λz=>cZ.mpr λt ht e2=>cZ.mp z t ht ?_
 unfold gE at e2 ⊢;rw[Ra,decide_eq_true_iff,decide_eq_true_iff] at e2 ⊢;omega
theorem yS(ok:∀w∈ws,bn w)(h:eD ws es f l)(X:Nat->Bool):FM ws X≤FM (eN ws f l) X:=by
 refine qz ok (eh ws f l) (λi hi=>?_) X;obtain⟨a,b,c,d,e,g⟩:=kj ok h hi;rw[jD hi];exact⟨by show _≤(f i).toNat;omega,by show(l i).toNat≤_;omega,Z⟩
theorem pI(ok:∀w∈ws,bn w)(h:eD ws es f l):eD (eN ws f l) es f l:=by
 have len:=eh ws f l;have vf:∀i,i<ws.length->vF (eN ws f l) i=f i:=λi hi=>by
  unfold vF;rw[jD hi];have:=(kj ok h hi).1;show(((f i).toNat:Nat):Int)=f i;omega
 have vl:∀i,i<ws.length->vL (eN ws f l) i=- l i:=λi hi=>by
  unfold vL;rw[jD hi];have:=(kj ok h hi).2.2.1;show -(((l i).toNat:Nat):Int)=- l i;omega
 have again:∀{es:List Ln} {v w F:Nat->Int},zn ws.length es v F->(∀i,i<ws.length->w i=F i)->zn ws.length es w F:=λ{es v w F} t e=>by
  refine⟨λi j hi hj z=>?_,λi hi=>⟨i,hi,.inl Z,(e i hi).symm⟩⟩;rw[e j hj];rcases z with rfl|r
  ·exact V2 _
  ·obtain⟨m,hm,zm,em⟩:=t.att j hj;rw[em];exact t.up i m hi hm (.inr (zm.elim (λz=>by rw[z];exact r) λz=>z.trans r))
 exact⟨by rw[len];exact again h.a vf,by rw[len];exact again h.b vl⟩
theorem iG(h:eD ws es f l)(h':eD ws es f' l')(hi:i<ws.length):f' i=f i/\l' i=l i:=by
 have a:=h'.a.uniq h.a hi;have b:=h'.b.uniq h.b hi;exact⟨a,by simpa using b⟩
theorem oN(e:∀i,i<n->f' i=f i/\l' i=l i)(h:f6 n f l=none):f6 n f' l'=none:=by
 unfold f6 at *;rw[Vx] at *;intro i hi;obtain⟨a,b⟩:=e i (QH.mp hi);rw[a,b];exact h i hi
theorem JR(ok:∀w∈ws,bn w)(h:eD ws es f l)(h':eD (eN ws f l) es f' l'):(Qv (eN ws f l).length).map (uO (eN ws f l) f' l')=(eN ws f l).map Fx:=by
 have len:=eh ws f l;rw[len];unfold eN;rw[S0];refine UA λi hi=>?_
 have il:=QH.mp hi;obtain⟨a,b⟩:=iG (pI ok h) h' (i:=i) (by rw[len];exact il);obtain⟨c,_,d,_⟩:=kj ok h il;have e:=jD (f:=f) (l:=l) il;unfold eN at e;unfold uO Fx;rw[e,a,b];show Wq [.int (f i),.int (l i),_]=Wq [.int (((f i).toNat:Nat):Int),.int (((l i).toNat:Nat):Int),_];rw[show(((f i).toNat:Nat):Int)=f i by omega,show(((l i).toNat:Nat):Int)=l i by omega]
theorem Ea(h:fM (es++[(x,y)]) a c):fM es a c∨((a=x∨fM (es++[(x,y)]) a x)/\(y=c∨fM (es++[(x,y)]) y c)):=by
 induction h with
 |one m=>
  rcases Q6.mp m with z|z
  ·exact .inl (.one z)
  ·cases QK.mp z
   exact .inr ⟨.inl Z,.inl Z⟩
 | @step a b c m t ih=>
  rcases Q6.mp m with z|z
  ·rcases ih with r | ⟨h1,h2⟩
   ·exact .inl (.step z r)
   ·exact .inr ⟨.inr (h1.elim (λe=>by cases e;exact .one m) λr=>.step m r),h2⟩
  ·cases QK.mp z
   exact .inr ⟨.inl Z,.inr t⟩
theorem wT{es:List Ln}(h:∀k,k<es.length->¬iR es k):∀k,k≤es.length->∀a,¬fM (es.take k) a a
 |0,_,a,r=>by
  rw[Uo] at r
  cases r with
  |one m=>cases m
  |step m _=>cases m
 |k+1,hk,a,r=>by
  have e:es.take (k+1)=es.take k++[es[k]]:=by rw[Rn,Qw (show k<es.length by omega)];rfl
  obtain⟨x,y,exy⟩:∃x y,es[k]=(x,y):=⟨es[k].1,es[k].2,Z⟩;rw[e,exy] at r;rcases Ea r with r' | ⟨h1,h2⟩
  ·exact wT h k ω a r'
  ·refine h k ω ⟨x,y,by rw[Qw (show k<es.length by omega),exy],?_⟩;rw[e,exy];have m:(x,y)∈es.take k++[(x,y)]:=Q6.mpr (.inr QL);have t1:fM (es.take k++[(x,y)]) x a:=h2.elim (λz=>by rw[←z];exact .one m) λz=>.step m z
   exact h1.elim (λz=>by rw[z] at t1;exact t1) λz=>t1.trans z
theorem lY{p q:Nat->Bool}:∀{l:List Nat},(∀x,p x=true->q x=true)->∀a∈l,p a=false->q a=true->(l.filter p).length<(l.filter q).length
 | [],_,a,h,_,_=>by cases h
 |b::l,pq,a,h,pa,qa=>by
  have le:(l.filter p).length≤(l.filter q).length:=by
   rw[←TZ,←TZ];exact List.countP_mono_left λx _ z=>pq x z
  rcases QR.mp h with rfl|h
  ·rw[SE (by rw[pa];exact Q4),Sm qa,Rh];omega
  ·have ih:=lY pq a h pa qa;by_cases c:p b=true
   ·rw[Sm c,Sm (pq b c),Rh,Rh];omega
   ·rw[SE c];by_cases d:q b=true
    ·rw[Sm d,Rh];omega
    ·rw[SE d];exact ih
open Classical in
theorem BD(eok:gg n es)(h:∀k,k<es.length->¬iR es k):mD n es:=by
 have nr:∀a,¬fM es a a:=λa r=>wT h es.length (QB _) a (by rw[RB];exact r)
 refine⟨λi=>((Qv n).filter λj=>decide (fM es j i)).length,λi hi=>?_,λa b hab=>?_⟩
 ·have:=lY (p:=λj=>decide (fM es j i)) (q:=λ_=>true) (l:=Qv n) (λ_ _=>Z) i (QH.mpr hi) (decide_eq_false (nr i)) Z;rw[RP.mpr (λ_ _=>Z),RL] at this;exact this
 ·exact lY (λj z=>decide_eq_true ((of_decide_eq_true z).trans (.one hab))) a (QH.mpr (eok _ hab).1) (decide_eq_false (nr a)) (decide_eq_true (.one hab))
def Nz(K:Qu)(H:Hp)(v:V)(x:Nat×Nat):Prop:=J2 K H v (((x.1:Nat):Int),((x.2:Nat):Int))
inductive jG(K:Qu)(vs:List V)(H:Hp)(Q:VK):Prop where
 |mk (v:V) (pl:List (List Pc)) (i:Nat) (h0_:vs=[v,.int i]) (h1_:pD K H v pl) (h2_:pl.length=24) (h3_:(∀q∈pl,q.length≤10)) (h4_:∀(l:Addr) (xs:List V) (H':Hp),aL H H'->H' l=some (.lst xs)->Als (Nz K H') xs (pQ pl 24 i)->Q (.ref l) H'):jG K vs H Q
def qN(K:Qu):Sp:=λvs H Q _=>jG K vs H Q
inductive jJ(K:Qu)(vs:List V)(H:Hp)(Q:VK):Prop where
 |mk (v:V) (ws:List Wk) (es:List Ln) (h0_:vs=[v]) (h1_:xN K H v ws es) (h2_:JY ws es) (h3_:∀(f l:Nat->Int) (u:V) (H':Hp),aL H H'->eD ws es f l->bX K H' u (rq ws f l)->Q u H'):jJ K vs H Q
def qR(K:Qu):Sp:=λvs H Q _=>jJ K vs H Q
inductive fB(K:Qu)(vs:List V)(H:Hp)(Q:VK):Prop where
 |mk (v w:V) (ss ss':List R) (h0_:vs=[v,w]) (h1_:zx K H v ss) (h2_:zx K H w ss') (h3_:ss.length=24) (h4_:ss'.length=24) (h5_:(∀s∈ss,eT s)) (h6_:(∀s∈ss',eT s)) (h7_:(∀i,i<24->dI (ss.getD i (0,1)) (ss'.getD i (0,1))=false)) (h8_:∀H',aL H H'->Q (.bl true) H'):fB K vs H Q
def jV(K:Qu):Sp:=λvs H Q _=>fB K vs H Q
inductive fz(K:Qu)(vs:List V)(H:Hp)(Q:VK):Prop where
 |mk (v u:V) (ws:List Wk) (es:List Ln) (pl:List (List Pc)) (h0_:vs=[v,u]) (h1_:xN K H v ws es) (h2_:gg ws.length es) (h3_:pD K H u pl) (h4_:FJ ws es pl) (h5_:∀H',aL H H'->Q (.bl true) H'):fz K vs H Q
def jU(K:Qu):Sp:=λvs H Q _=>fz K vs H Q
theorem tS{pl:List (List Pc)}(few:∀q∈pl,q.length≤10)(i:Nat):∀n,n≤pl.length->(pQ pl n i).length≤10*n
 |0,_=>QB _
 |n+1,h=>by
  have:=tS few i n ω;have l:=wD (pl:=pl) (t:=n) (k:=(pl.getD n []).length) (i:=i);have m:=few _ (show pl.getD n []∈pl by rw[aB [] (Qw (show n<pl.length by omega))];exact RA _);show(pQ pl n i++_).length≤_;rw[Q2];omega
theorem Fq(h:eD ws es f l)(h':eD ws es f' l'):eN ws f' l'=eN ws f l:=UA λi hi=>by
 obtain⟨a,b⟩:=iG h h' (QH.mp hi);rw[a,b]
theorem yR(ok:∀w∈ws,bn w)(w8:ws.length≤10)(eok:gg ws.length es)(rk:mD ws.length es)(h:eD ws es f l)(nb:f6 ws.length f l=none)(ly:gU (eN ws f l) (Qv 24) lys):FJ (eN ws f l) es (dM (eN ws f l) es (aU (eN ws f l) lys)).2:=by
 have ok':=oJ ok h nb;have len:=eh ws f l;exact om Z (λ_ _=>Z) (λ_ _=>⟨QB _,QB _⟩) (xm ok eok h) ok' ω (by rw[len];exact rk) ly (iJ ok' ω (iV ly δ λt ht=>QH.mp ht))
theorem mW(ws:List Wk):(uA ws).canLay0=true:=jp λd hd=>by
 obtain⟨w,_,rfl⟩:=QU.mp hd;rfl
theorem lA(ws:List Wk):(uA ws).depth≤32:=sy ws
theorem Bz(rs:List R):(Wq (rs.map dR)).canLay0=true:=jp λd hd=>by
 obtain⟨w,_,rfl⟩:=QU.mp hd;rfl
theorem BB(rs:List R):(Wq (rs.map dR)).depth≤32:=Rm (xT (k:=1) λd _=>QB _) δ
theorem xi{α:Type}{f:α->Ri}(h:∀x,R3 (f x) (f x)=true)(l:List α):R3 (.tuple (l.map f)) (.tuple (l.map f))=true:=by
 show aaw (l.map f) (l.map f)=true
 induction l with
 |nil=>rfl
 |cons x l ih=>
  show(R3 (f x) (f x)&&aaw (l.map f) (l.map f))=true;rw[h,ih];rfl
theorem Fo(ws:List Wk):R3 (uA ws) (uA ws)=true:=xi (λw=>by
 show(decide (((w.1:Nat):Int)=w.1)&&(decide (((w.2.1:Nat):Int)=w.2.1)&&(R3 (dR w.2.2) (dR w.2.2)&&true)))=true;rw[iY,decide_eq_true Z,decide_eq_true Z];rfl) ws
inductive f7(K:Qu)(vs:List V)(H:Hp)(Q:VK):Prop where
 |mk (v w:V) (ws ws':List Wk) (k:Nat) (h0_:vs=[v,w,.int k]) (h1_:eC K H v ws) (h2_:eC K H w ws') (h3_:ws.length≤10) (h4_:ws'.length≤10) (h5_:(∀w∈ws,bn w)) (h6_:(∀w∈ws',bn w)) (h7_:2≤k) (h8_:k≤4) (h9_:(∀X,FM ws X≤FM ws' X)) (h10_:∀H',aL H H'->Q (.bl true) H'):f7 K vs H Q
def kx(K:Qu):Sp:=λvs H Q _=>f7 K vs H Q
inductive f8(K:Qu)(vs:List V)(H:Hp)(Q:VK):Prop where
 |mk (v:V) (ws:List Wk) (es:List Ln) (h0_:vs=[v]) (h1_:FI K H v ws es) (h2_:(∀f l:Nat->Int,eD ws es f l->f6 ws.length f l=none)) (h3_:∀H',aL H H'->Q (.bl true) H'):f8 K vs H Q
def ky(K:Qu):Sp:=λvs H Q _=>f8 K vs H Q
theorem Kx:DH (2,5,(3,2)):=⟨δ,δ,⟨δ,δ,δ,δ⟩,δ⟩
theorem Cf(h:i7 r)(h':i7 q):DE (bQ r q)/\val r≤val (bQ r q):=by
 have b:=Bq.plus δ h.bq h'.bq;have e:=iI h.bq.pos h'.bq.pos;have p1:=(mY h.bq.pos).mpr h.pos;have p2:=(mY h'.bq.pos).mpr h'.pos;have p:=(mY b.pos).mp (by rw[e];grind);have l:(bQ r q).1.natAbs≤2000000014*(bQ r q).2.natAbs:=b.le;have b0:=b.pos;exact⟨⟨ω,ω,ω,b.dvd,b.wf δ δ δ⟩,by rw[e];grind⟩
inductive iB(K:Qu)(vs:List V)(H:Hp)(Q:VK):Prop where
 |mk (t s:Addr) (v:V) (ws:List Wk) (h0_:vs=[.ref t,v]) (h1_:cR H t s) (h2_:eC K H v ws) (h3_:ws.length≤9) (h4_:(∀w∈ws,DH w)) (h5_:∀(u:V) (ws':List Wk) (H':Hp),aY t H H'->cR H' t s->eC K H' u ws'->ws'.length≤10->(∀w∈ws',bn w)->(∀X Y:Nat->Bool,(∀u,u<24->X u=true->Y u=true)->FM ws Y-FM ws X≤FM ws' Y-FM ws' X)->Q u H'):iB K vs H Q
def nP(K:Qu):Sp:=λvs H Q _=>iB K vs H Q
inductive gX(K:Qu)(vs:List V)(H:Hp)(Q:VK):Prop where
 |mk (t s:Addr) (v:V) (ws:List Wk) (h0_:vs=[.ref t,v]) (h1_:cR H t s) (h2_:eC K H v ws) (h3_:ws.length≤9) (h4_:(∀w∈ws,DH w)) (h5_:∀(u:V) (ws':List Wk) (H':Hp),aY t H H'->cR H' t s->eC K H' u ws'->ws'.length≤10->(∀w∈ws',bn w)->(∀X,FM ws X≤FM ws' X)->Q u H'):gX K vs H Q
def mM(K:Qu):Sp:=λvs H Q _=>gX K vs H Q
theorem Cg(r0:0≤r)(rn:r<n)(q0:0≤q)(qn:q<n-1):∃o:Nat,(r+1+q)%n=(o:Int)/\(o:Int)<n/\(o:Int)≠r:=by
 have p:0<n:=ω
 have a:=Sg (r+1+q) (Int.ne_of_gt p);have b:=Sb (r+1+q) p;refine⟨((r+1+q)%n).toNat,ω,ω,λz=>?_⟩;have e:=Int.emod_add_mul_ediv (r+1+q) n;have k0:0≤(r+1+q)/n:=Ts ω ω;have k2:(r+1+q)/n<2:=X0 p ω;generalize (r+1+q)/n=k at *;generalize (r+1+q)%n=m at *;obtain rfl|rfl:k=0∨k=1:=ω
 ·omega
 ·omega
inductive jH(K:Qu)(vs:List V)(H:Hp)(Q:VK):Prop where
 |mk (t s:Addr) (v:V) (ws:List Wk) (h0_:vs=[.ref t,v]) (h1_:cR H t s) (h2_:eC K H v ws) (h3_:ws.length≤9) (h4_:(∀w∈ws,DH w)) (h5_:∀H',aY t H H'->cR H' t s->Q (.bl true) H'):jH K vs H Q
def qO(K:Qu):Sp:=λvs H Q _=>jH K vs H Q
inductive gx(K:Qu)(vs:List V)(H:Hp)(Q:VK):Prop where
 |mk (t s:Addr) (v:V) (ws:List Wk) (es:List Ln) (h0_:vs=[.ref t,v]) (h1_:cR H t s) (h2_:xN K H v ws es) (h3_:2≤ws.length) (h4_:ws.length≤9) (h5_:(∀w∈ws,bn w)) (h6_:gg ws.length es) (h7_:mD ws.length es) (h8_:es.length≤12) (h9_:∀(u:V) (es':List Ln) (H':Hp),aY t H H'->cR H' t s->xN K H' u ws es'->gg ws.length es'->mD ws.length es'->es'.length≤13->(∀e∈es,e∈es')->Q u H'):gx K vs H Q
def lK(K:Qu):Sp:=λvs H Q _=>gx K vs H Q
theorem sX(h:zn n es v F)(h':zn n es' v F')(s:∀e∈es,e∈es')(hi:i<n):F i≤F' i:=by
 obtain⟨j,hj,z,e⟩:=h.att i hi;rw[e];exact h'.up i j hi hj (z.elim .inl λr=>.inr (r.mono s))
theorem DQ(s:∀e∈es,e∈es'):∀e∈xW es,e∈xW es':=λe he=>by
 unfold xW at *;obtain⟨x,hx,rfl⟩:=QU.mp he;exact QU.mpr ⟨x,s x hx,Z⟩
theorem Fs(ok:∀w∈ws,bn w)(h:eD ws es f l)(nb:f6 ws.length f l=none)(h':eD ws es' f' l')(s:∀e∈es,e∈es')(X:Nat->Bool):FM (eN ws f l) X≤FM (eN ws f' l') X:=by
 refine qz (oJ ok h nb) (by rw[eh,eh]) (λi hi=>?_) X;rw[eh] at hi;have a:=sX h.a h'.a s hi;have b:=sX h.b h'.b (DQ s) hi;have c:=(kj ok h hi);have d:=(kj ok h' hi);rw[jD hi,jD hi];exact⟨by show(f i).toNat≤(f' i).toNat;omega,by show(l' i).toNat≤(l i).toNat;omega,Z⟩
inductive xO(K:Qu)(vs:List V)(H:Hp)(Q:VK):Prop where
 |mk (a:Addr) (ns:List Int) (h0_:vs=[.ref a]) (h1_:aZ K H a (ns.map V.int)) (h2_:ns.length≤63) (h3_:∀H',Q (.bl true) H'):xO K vs H Q
def qS(K:Qu):Sp:=λvs H Q _=>xO K vs H Q
theorem pX{K:Qu}{H:Hp}{u:V}{ws:List Wk}{es:List Ln}{f l:Nat->Int}(ok:∀w∈ws,bn w)(win:eD ws es f l)(d:bX K H u (rq ws f l)):(∃i:Int,u=.int i)∨(f6 ws.length f l=none/\eC K H u (eN ws f l)):=by
 cases e:f6 ws.length f l with
 |some i=>rw[show rq ws f l=.int i by unfold rq;rw[e]] at d;cases d;exact .inl ⟨_,Z⟩
 |none=>rw[show rq ws f l=.tuple ((Qv ws.length).map (uO ws f l)) by unfold rq;rw[e]] at d;exact .inr ⟨Z,r9 ok win d⟩
def lI(K:Qu):Sp:=λ_ _ _ _=>False
def Kg(K:Qu):Sp:=λ_ _ _ _=>False
def qT(K:Qu):Sp:=λ_ _ _ _=>False
def tF(K:Qu):Sp:=λ_ _ _ _=>False
theorem G0:aA ["thing"] ["thing"] (ax A0):=dg
theorem G6:aA ["thing","length"] ["thing","length"] (ax Bl):=dg
theorem G7:aA ["thing","count"] ["thing","count"] (ax Bt):=dg
theorem GR:aA ["thing"] ["thing"] (ax AG):=dg
theorem pS:aA ["one","other","high","low","rest"] ["one","other"] (ax Hn):=dg
theorem vk:aA ["thing","top","bottom"] ["thing"] (ax AZ):=dg
theorem KY:aA ["thing"] ["thing"] (ax Hm):=dg
theorem vc:aA ["top","bottom","shared"] ["top","bottom"] (ax AC):=dg
theorem qY:aA ["one","other","shared","top","rest"] ["one","other"] (ax Ax):=dg
theorem GO:aA ["one","other"] ["one","other"] (ax AB):=dg
theorem u9:aA ["one","other","left","right"] ["one","other"] (ax AA):=dg
theorem GN:aA ["one","other"] ["one","other"] (ax Aw):=dg
theorem lM:aA ["one","power","top","bottom","step"] ["one","power"] (ax AF):=dg
theorem GT:aA ["one","other"] ["one","other"] (ax AK):=dg
theorem GQ:aA ["one","other"] ["one","other"] (ax AE):=dg
theorem jZ:aA ["some","tops","one","so_far","bottom","top"] ["some"] (ax Az):=dg
theorem rf:aA ["some","bottom","one"] ["some"] (ax Bk):=dg
theorem Ar:aA ["thing","works","leans"] ["thing"] (ax Hl):=dg
theorem ve:aA ["thing","first","last"] ["thing"] (ax AJ):=dg
theorem G3:aA ["work","turn"] ["work","turn"] (ax Bc):=dg
theorem vd:aA ["thing","count","ahead","behind"] ["thing","count"] (ax AI):=dg
theorem G5:aA ["count"] ["count"] (ax Bj):=dg
theorem iL:aA ["leanings","lean","ahead","behind","numbers","bases","leaners","leaner","base"] ["leanings","lean"] (ax AY):=dg
theorem vt:aA ["count","leans","leanings","lean"] ["count","leans"] (ax Bs):=dg
theorem re:aA ["count","leans","leanings","number","lean"] ["count","leans"] (ax Bg):=dg
theorem iO:aA ["thing","works","leans","number","work","lean","ring"] ["thing"] (ax Bi):=dg
theorem gz:aA ["sheet","works","leanings","drawn","number","work","firsts","lasts","first","last"] ["sheet"] (ax AX):=dg
theorem rg:aA ["works","left","windows","work","places"] ["works","left"] (ax Br):=dg
theorem GL:aA ["windows","begin","end"] ["windows","begin","end"] (ax Av):=dg
theorem iN:aA ["windows","amounts","count","best","best_load","best_length","begin","end","load","length"] ["windows","amounts","count"] (ax Hk):=dg
theorem vh:aA ["works","left","windows","places"] ["works","left"] (ax AW):=dg
theorem j4:aA ["works","told","left","waiting","layer"] ["works"] (ax AD):=dg
theorem G9:aA ["works","layer"] ["works","layer"] (ax By):=dg
theorem nZ:aA ["works","speeds","layer","speed","turn"] ["works"] (ax Bp):=dg
theorem rh:aA ["works","leanings","waiting","earliest","like","free"] ["works","leanings","waiting"] (ax Bx):=dg
theorem nX:aA ["works","leans","leanings","waiting","order","number"] ["works","leans"] (ax AV):=dg
theorem lN:aA ["works","order","left","turn","speed","pieces","room","number","amount"] ["works","order","left","turn","speed"] (ax Bb):=dg
theorem jY:aA ["works","leans","speeds","order","left","plan","turn","number","amount"] ["works","leans","speeds"] (ax Ay):=dg
theorem Aq:aA ["sheet","works"] ["sheet"] (ax Bf):=dg
theorem G8:aA ["low","high"] ["low","high"] (ax Bw):=dg
theorem G2:aA ["rule","speed","top"] ["rule","speed"] (ax Ba):=dg
theorem GZ:aA ["rows","speed","place"] ["rows","speed"] (ax AU):=dg
theorem nW:aA ["rule","speed","rows","place","high","low"] ["rule","speed"] (ax AT):=dg
theorem GY:aA ["thing","count"] ["thing","count"] (ax AS):=dg
theorem G4:aA ["thing","count"] ["thing","count"] (ax Be):=dg
theorem KU:aA ["thing","count"] ["thing","count"] (ax Hg):=dg
theorem As:aA ["works","turn","pieces","numbers"] ["works","turn","pieces"] (ax Bo):=dg
theorem Ap:aA ["plan","row","pieces"] ["plan"] (ax Hj):=dg
theorem vq:aA ["row","lean","ahead","behind"] ["row","lean"] (ax Bn):=dg
theorem ia:aA ["sheet","thing","works","turn","pieces","row","number","work","lean"] ["sheet","thing"] (ax Bd):=dg
theorem G1:aA ["plan"] ["plan"] (ax A9):=dg
theorem GX:aA ["rule","speeds"] ["rule","speeds"] (ax AR):=dg
theorem n5:aA ["works","rule","paper","still","powers","layer"] ["works","rule","paper"] (ax Bv):=dg
theorem GW:aA ["_law_script"] ["_law_script"] (ax AQ):=dg
theorem iK:aA ["_law_tape_here","_law_many","_law_script","_law_spot","_law_left","_law_cell","_law_mixed"] ["_law_tape_here","_law_many"] (ax AO):=dg
theorem An:aA ["_law_one","_law_other"] ["_law_one","_law_other"] (ax AH):=dg
theorem vo:aA ["_law_top","_law_bottom","_law_by"] ["_law_top","_law_bottom"] (ax A8):=dg
theorem GV:aA ["_law_one","_law_other"] ["_law_one","_law_other"] (ax AN):=dg
theorem GU:aA ["_law_one","_law_other"] ["_law_one","_law_other"] (ax AM):=dg
theorem vg:aA ["_law_tape_here","_law_tops","_law_bottoms"] ["_law_tape_here"] (ax AL):=dg
theorem iM:aA ["_law_tape_here","_law_most","_law_end","_law_found","_law_k","_law_first","_law_last"] ["_law_tape_here","_law_most","_law_end"] (ax A7):=dg
theorem j6:aA ["_law_tape_here","_law_many","_law_order","_law_number","_law_found","_law_k","_law_at","_law_to"] ["_law_tape_here","_law_many"] (ax A6):=dg
theorem vm:aA ["_law_plan","_law_number","_law_found","_law_t"] ["_law_plan","_law_number"] (ax A5):=dg
theorem nY:aA ["_law_sheet","_law_found","e"] ["_law_sheet"] (ax A4):=dg
theorem KW:aA ["_law_one","_law_other"] ["_law_one","_law_other"] (ax Hi):=dg
theorem Ao:aA ["_law_sheet","_law_plan","_law_one","_law_other"] ["_law_sheet","_law_plan"] (ax Hh):=dg
theorem Am:aA ["_law_sheet","_law_plan","_law_works_here"] ["_law_sheet"] (ax Hf):=dg
theorem lO:aA ["_law_tape_here","_law_works_here","_law_fresh","_law_at","_law_first","_law_last","_law_amount"] ["_law_tape_here","_law_works_here"] (ax Bh):=dg
theorem j7:aA ["_law_tape_here","_law_works_here","_law_at","_law_first","_law_last","_law_amount","_law_begin","_law_end"] ["_law_tape_here","_law_works_here"] (ax Bm):=dg
theorem Al:aA ["_law_works_here","_law_other","_law_power","_law_rule","_law_least"] ["_law_works_here","_law_other","_law_power"] (ax He):=dg
theorem qZ:aA ["_law_tape_here","_law_works_here","_law_greater_here","_law_power","_law_narrower_here"] ["_law_tape_here","_law_works_here"] (ax A3):=dg
theorem j8:aA ["_law_tape_here","_law_sheet","_law_many","_law_one","_law_other","_law_more","_law_good"] ["_law_tape_here","_law_sheet"] (ax Bu):=dg
theorem h9:aA ["_law_script","_law_tape_here","_law_k","_law_works_here","_law_sheet","_law_drawn_here","_law_more","_law_later"] ["_law_script"] (ax Au):=dg
theorem GS:aA ["self","word","number"] ["self","word","number"] (ax pU):=dg
theorem GP:aA ["self","work"] ["self","work"] (ax pT):=dg
end My
namespace My
open PySem L2 B PyProof.Rows
section
variable {P:Rp}{w:RF}{K:Qu}{mg:Rr->Option Value}{base:QN}{t:Ad}
theorem vK(T:de K mg t):bi P w K mg base cT 1 t.a_Q42 t.d_Q42 ["thing"] (tN K):=by
 refine T.F_Q42.ok G0 χ ψ
 ·obtain⟨_,rfl,_⟩:=h;rfl
 obtain⟨n,rfl,k⟩:=h;refine cJ.ok (ap (aC (eQ (aH d8 (by rfl) T.z_isinstance Tb (af (qv 0) (af (eW (v:=V.ty "int") Z T.z_int boot_int Z) ai ag) ag)) (fm (BM (aH d8 (by rfl) T.z_isinstance Tb (af (qv 0) (af (eW (v:=V.ty "bool") Z T.z_bool boot_bool Z) ai ag) ag))))))) ?_;nofun
 exact⟨_,Z,_,_,_,_,Z,.int n,Z,_,Z,_,Z,_,_,_,_,Z,.int n,Z,_,Z,k⟩
theorem lR(T:de K mg t):bi P w K mg base cT 1 t.a_Q22 t.d_Q22 ["thing","length"] (nQ K):=by
 refine T.F_Q22.ok G6 χ ψ
 ·obtain⟨_,_,_,_,rfl,_⟩:=h;rfl
 obtain⟨p,xs,ds,m,rfl,hS,hA,rfl,k⟩:=h;refine cJ.ok (ap (aC (eQ (aH d8 (by rfl) T.z_isinstance Tb (af (qv 0) (af (eW (v:=V.ty "tuple") Z T.z_tuple Sy Z) ai ag) ag)) (fm (dP eZ (aH aN (by rfl) T.z_len R4 (af (qv 0) ai ag)) (qv 1) (aV _)))))) ?_;nofun
 refine⟨_,Z,_,_,_,_,Z,.tup hS hA,Z,_,Z,?_⟩;refine⟨_,Z,p,_,Z,.inr hS,_,Z,Z,?_⟩;rw[decide_eq_true Z];exact k
theorem oy(T:de K mg t):bi P w K mg base cT 2 t.a_Q15 t.d_Q15 ["thing","count"] (mO K):=by
 refine T.F_Q15.ok G7 χ ψ
 ·obtain⟨_,_,rfl,_⟩:=h;rfl
 obtain⟨i,m,rfl,hi,k⟩:=h;refine cJ.ok (ap (aC (eQ (bE (vK T) hr T.m_Q42 T.F_Q42.kp T.b_Q42 (af (qv 0) ai ag)) (fm (tW mf kK aj (qv 0) (qv 1)))))) ?_;nofun
 refine⟨_,Z,_,Z,_,Z,?_⟩;refine⟨_,Z,_,_,Z,Z,_,Z,dz (show(0:Int)≤i by omega) ?_⟩;have q:decide ((i:Int)<(m:Int))=true:=decide_eq_true ω;refine⟨_,Z,_,_,Z,Z,?_⟩;dsimp only;rw[q];exact k
theorem vI(T:de K mg t):bi P w K mg base cT 1 t.a_Q64 t.d_Q64 ["thing"] (yc K):=by
 refine T.F_Q64.ok GR χ ψ
 ·obtain⟨_,rfl,_⟩:=h;rfl
 obtain⟨v,rfl,hv,k⟩:=h;refine cJ.ok (ah (bA (bC (aH gR (by rfl) T.z_isinstance Tb (af (qv 0) (af (eW (v:=V.ty "list") Z T.z_list boot_list Z) ai ag) ag))) (ap dH) aQ) (ah (bA (bC (aH gR (by rfl) T.z_isinstance Tb (af (qv 0) (af (eW (v:=V.ty "tuple") Z T.z_tuple Sy Z) ai ag) ag))) (ap dH) aQ) (ap (aC (qv 0))))) ?_
 nofun
 rcases hv with⟨i,rfl⟩ | ⟨x,rfl⟩
 ·refine⟨_,Z,_,_,"int",false,Z,.int i,by decide +kernel,false,Z,bW ?_⟩;refine⟨_,Z,_,_,"int",false,Z,.int i,by decide +kernel,false,Z,bW ?_⟩;exact⟨_,Z,k⟩
 ·refine⟨_,Z,_,_,"str",false,Z,.str x,by decide +kernel,false,Z,bW ?_⟩;refine⟨_,Z,_,_,"str",false,Z,.str x,by decide +kernel,false,Z,bW ?_⟩;exact⟨_,Z,k⟩
theorem oz(T:de K mg t):bi P w K mg base cT 1 t.a_Q0 t.d_Q0 ["one","other"] (jw K):=by
 refine T.F_Q0.ok pS χ ψ
 ·obtain⟨_,_,rfl,_⟩:=h;rfl
 obtain⟨a,b,rfl,k⟩:=h;refine cJ.ok (ah (bL 2 pS.nd (aH gS (by rfl) T.z_abs Yd (af (qv 0) ai ag))) (ah (bL 3 pS.nd (aH gS (by rfl) T.z_abs Yd (af (qv 1) ai ag))) (ah (iT Q8 (aT Ci (qv 3) aj (aV _)) (ah (bL 4 pS.nd (aK fV (qv 2) (qv 3))) (ah (bL 2 pS.nd (qv 3)) (ap (bL 3 pS.nd (qv 4)))))) (ap (aC (qv 2)))))) ?_
 nofun
 refine⟨_,Z,_,Z,_,Z,_,Z,?_⟩;rw[sr,sr];let Iv1:Nat->L2.St->Hp->Prop:=λm σ H'=>∃(x y:Int) (v:Option V),σ=[some (.int a),some (.int b),some (.int x),some (.int y),v]/\H'=H/\0≤x/\0≤y/\Q1 x y=Q1 a b/\m=y.toNat
 refine⟨Iv1,⟨_,_,_,_,Z,Z,ω,ω,(by simp[Q1]),Z⟩,?_⟩;rintro m σ H' ⟨x,y,v,rfl,rfl,hx,hy,hg,rfl⟩;refine⟨_,Z,Z,_,Z,?_⟩;by_cases c:y=0
 ·subst c;refine Gi Z ?_;rw[←hg] at k;refine⟨_,Z,?_⟩;have e:(x:Int)=(Q1 x 0:Nat):=by simp[Q1];omega
  rw[←e] at k;exact k
 ·refine CQ (λz=>c (by injection z)) ?_;refine⟨_,λ_ _ z=>z,?_⟩;refine⟨_,Z,_,Z,_,_,Z,Z,ω,_,Z,_,Z,?_⟩;refine⟨_,?_,y,x%y,_,Z,Z,hy,Sg _ c,?_,Z⟩
  ·have:=Sb x (show 0<y by omega);have:=Sg x c;omega
  ·rw[ut hx ω,hg]
theorem IW(T:de K mg t):bi P w K mg base cT 2 t.a_Q43 t.d_Q43 ["thing"] (tO K):=by
 refine T.F_Q43.ok vk χ ψ
 ·obtain⟨_,_,rfl,_⟩:=h;rfl
 obtain⟨v,r,rfl,⟨p,rfl,hS⟩,hw,k⟩:=h;refine cJ.ok (ah (bA (cf (bC (bE (lR T) hr T.m_Q22 T.F_Q22.kp T.b_Q22 (af (qv 0) (af aj ai aG) ag)))) (ap (aC cP)) aQ) (ah (bL 1 vk.nd (bM az (qv 0) aj)) (ah (bL 2 vk.nd (bM az (qv 0) aj)) (ah (bA (gL (iS (cf (bC (bE (vK T) hr T.m_Q42 T.F_Q42.kp T.b_Q42 (af (qv 1) ai ag)))) (iS (cf (bC (bE (vK T) hr T.m_Q42 T.F_Q42.kp T.b_Q42 (af (qv 2) ai ag)))) (gA (aT kK (qv 2) aj (aV _)))))) (ap (aC cP)) aQ) (ap (aC (dP eZ (bE (oz T) hr T.m_Q0 T.F_Q0.kp T.b_Q0 (af (qv 1) (af (qv 2) ai ag) ag)) aj (aV _)))))))) ?_
 nofun
 have p1:=hw.pos;refine⟨_,Z,p,_,_,2,Z,hS,.cons (.int _) (.cons (.int _) .nil),Z,⟨_,Z,bW ?_⟩⟩;refine⟨_,Z,p,_,_,_,Z,Z,hS,Z,_,Z,p,_,_,_,Z,Z,hS,Z,?_⟩;refine⟨_,Z,_,Z,_,Z,bW ?_⟩;refine⟨_,Z,_,Z,_,Z,bW ?_⟩;refine⟨_,Z,_,_,Z,Z,_,Z,dA ω ?_⟩;refine⟨_,Z,_,Z,r.1,r.2,Z,Z,?_⟩;rw[hw.cop];exact k
theorem Ge(T:de K mg t):bi P w K mg base cT 3 t.a_Q1 t.d_Q1 ["thing"] (jX K):=by
 refine T.F_Q1.ok KY χ ψ
 ·obtain⟨_,_,rfl,_⟩:=h;rfl
 obtain⟨v,r,rfl,hv,hw,h0,k⟩:=h;refine cJ.ok (ap (aC (eQ (bE (IW T) hr T.m_Q43 T.F_Q43.kp T.b_Q43 (af (qv 0) ai ag)) (fm (dP jz (bM az (qv 0) aj) aj (aV _)))))) ?_;nofun
 obtain⟨p,rfl,hS⟩:=id hv;have q:decide (r.1>(0:Int))=true:=decide_eq_true h0;refine⟨_,Z,_,r,Z,hv,hw,_,Z,?_⟩;refine⟨_,Z,p,_,_,_,Z,Z,hS,Z,_,_,Z,Z,?_⟩;dsimp only;rw[q];exact k
theorem Cm(T:de K mg t):bi P w K mg base cT 2 t.a_Q71 t.d_Q71 ["top","bottom"] (tz K):=by
 refine T.F_Q71.ok vc χ ψ
 ·obtain⟨_,_,rfl,_⟩:=h;rfl
 obtain⟨a,b,rfl,hb,hz,k⟩:=h;refine cJ.ok (ah (bA (aT eZ (qv 1) aj (aV _)) (ap dH) aQ) (ah (bL 2 vc.nd (bE (oz T) hr T.m_Q0 T.F_Q0.kp T.b_Q0 (af (qv 0) (af (qv 1) ai ag) ag))) (ah (bA (aT kK (qv 1) aj (aV _)) (ap (bL 2 vc.nd (kG hX (qv 2)))) aQ) (ap (aC (bD (af (aK eR (qv 0) (qv 2)) (af (aK eR (qv 1) (qv 2)) ai ba) ba))))))) ?_
 nofun
 have gp:=b6 (a:=a) hb;have gb:((Q1 a b:Nat):Int).natAbs<2^8990:=by
  have z:Q1 a b≤b.natAbs:=W4 ω (by have:=TW a b;exact US.mpr this);have e:((Q1 a b:Nat):Int).natAbs=Q1 a b:=UJ _;omega
 refine⟨_,Z,Z,_,Z,?_⟩;refine dA (λz=>by injection z with z;omega) ?_;refine⟨_,rfl,_,rfl,a,b,rfl,?_⟩;refine⟨_,rfl,_,_,rfl,rfl,_,rfl,?_⟩;refine dA ω ?_;refine⟨_,rfl,_,rfl,_,_,rfl,rfl,⟨gp,gb⟩,_,rfl,_,rfl,_,_,rfl,rfl,⟨gp,gb⟩,ma,λp hp=>?_⟩;exact k p hp
theorem vG(T:de K mg t):bi P w K mg base cT 2 t.a_Q76 t.d_Q76 ["one","other"] (wC K):=by
 refine T.F_Q76.ok qY χ ψ
 ·obtain⟨_,_,_,_,_,_,rfl,_⟩:=h;rfl
 obtain⟨v,w,r,q,n,m,rfl,hv,hw,wr,wq,hz,k⟩:=h;refine cJ.ok (ah (bL 2 qY.nd (bE (oz T) hr T.m_Q0 T.F_Q0.kp T.b_Q0 (af (bM az (qv 0) aj) (af (bM az (qv 1) aj) ai aM) aM))) (ah (bL 3 qY.nd (aK bJ (aK cO (bM az (qv 0) aj) (aK eR (bM az (qv 1) aj) (qv 2))) (aK cO (bM az (qv 1) aj) (aK eR (bM az (qv 0) aj) (qv 2))))) (ah (bL 4 qY.nd (bE (oz T) hr T.m_Q0 T.F_Q0.kp T.b_Q0 (af (qv 3) (af (qv 2) ai ag) ag))) (ap (aC (bD (af (aK eR (qv 3) (qv 4)) (af (aK cO (aK eR (bM az (qv 0) aj) (qv 2)) (aK eR (bM az (qv 1) aj) (qv 4))) ai ba) ba))))))) ?_
 nofun
 obtain⟨p,rfl,hv⟩:=hv;obtain⟨p',rfl,hw⟩:=hw;have c1:=bU wr.top (show n≤8990 by omega);have c2:=bU wr.bot (show n≤8990 by omega);have c3:=bU wq.top (show m≤8990 by omega);have c4:=bU wq.bot (show m≤8990 by omega);have gp:(0:Int)<(Q1 r.2 q.2:Nat):=b6 wq.pos;have gb:=rX (a:=r.2) wq.pos c4;refine⟨_,Z,p,_,_,_,Z,Z,hv,Z,_,Z,p',_,_,_,Z,Z,hw,Z,r.2,q.2,Z,?_⟩;have z:=BX ⟨wr.pos,wr.cop⟩ ⟨wq.pos,wq.cop⟩;have kk:CD H Q (ub r q):=by rw[z];exact k
 unfold ub at kk;simp only at kk;generalize ((Q1 r.2 q.2:Nat):Int)=d at gp gb kk ⊢;refine⟨_,Z,p,_,_,_,Z,Z,hv,Z,_,Z,p',_,_,_,Z,Z,hw,Z,_,Z,_,_,Z,Z,⟨gp,gb⟩,_,_,Z,Z,⟨c1,iZ gp c4⟩,_,Z,p',_,_,_,Z,Z,hw,Z,_,Z,p,_,_,_,Z,Z,hv,Z,_,Z,_,_,Z,Z,⟨gp,gb⟩,_,_,Z,Z,⟨c3,iZ gp c2⟩,_,_,Z,Z,?_⟩;refine⟨_,Z,_,Z,_,_,Z,?_⟩;have ep:(0:Int)<(Q1 (r.1*(q.2/d)+q.1*(r.2/d)) d:Nat):=b6 gp;have eb:=rX (a:=r.1*(q.2/d)+q.1*(r.2/d)) gp gb;generalize ((Q1 (r.1*(q.2/d)+q.1*(r.2/d)) d:Nat):Int)=e at ep eb kk ⊢;refine⟨_,Z,_,Z,_,_,Z,Z,⟨ep,eb⟩,_,Z,p,_,_,_,Z,Z,hv,Z,_,Z,_,_,Z,Z,⟨gp,gb⟩,_,Z,p',_,_,_,Z,Z,hw,Z,_,Z,_,_,Z,Z,⟨ep,eb⟩,_,_,Z,Z,⟨iZ gp c2,iZ ep c4⟩,ma,kk⟩
theorem vH(T:de K mg t):bi P w K mg base cT 3 t.a_Q72 t.d_Q72 ["one","other"] (Ah K):=by
 refine T.F_Q72.ok GO χ ψ
 ·obtain⟨_,_,_,_,_,_,rfl,_⟩:=h;rfl
 obtain⟨v,w,r,q,n,m,rfl,hv,hw,wr,wq,hz,k⟩:=h;refine cJ.ok (ap (aC (bE (vG T) hr T.m_Q76 T.F_Q76.kp T.b_Q76 (af (qv 0) (af (bD (af (kG hX (bM az (qv 1) aj)) (af (bM az (qv 1) aj) ai aM) qI)) ai cb) ag)))) ?_;nofun
 obtain⟨p',rfl,hw⟩:=hw;refine⟨_,Z,_,Z,p',_,_,_,Z,Z,hw,Z,_,Z,_,Z,p',_,_,_,Z,Z,hw,Z,ma,λpt ht=>?_⟩;have s1:=au ht (.tup [.int (-q.1),.int q.2]);refine⟨v,.ref pt,r,(-q.1,q.2),n,m,Z,hv.mono (aI.same s1),RV.of ao,wr,⟨wq.pos,by show(-q.1).natAbs<_;rw[aag];exact wq.top,wq.bot,Dl wq.cop⟩,hz,λp hp=>?_⟩;refine k _ _ (s1.trans (au hp _)) ?_;rw[←ui];exact RV.of ao
theorem rK(T:de K mg t):bi P w K mg base cT 2 t.a_Q73 t.d_Q73 ["one","other"] (Ag K):=by
 refine T.F_Q73.ok u9 χ ψ
 ·obtain⟨_,_,_,_,_,_,rfl,_⟩:=h;rfl
 obtain⟨v,w,r,q,n,m,rfl,hv,hw,wr,wq,hz,k⟩:=h;refine cJ.ok (ah (bL 2 u9.nd (bE (oz T) hr T.m_Q0 T.F_Q0.kp T.b_Q0 (af (bM az (qv 0) aj) (af (bM az (qv 1) aj) ai aM) aM))) (ah (bL 3 u9.nd (bE (oz T) hr T.m_Q0 T.F_Q0.kp T.b_Q0 (af (bM az (qv 1) aj) (af (bM az (qv 0) aj) ai aM) aM))) (ap (aC (bD (af (aK cO (aK eR (bM az (qv 0) aj) (qv 2)) (aK eR (bM az (qv 1) aj) (qv 3))) (af (aK cO (aK eR (bM az (qv 0) aj) (qv 3)) (aK eR (bM az (qv 1) aj) (qv 2))) ai ba) ba)))))) ?_
 nofun
 obtain⟨p,rfl,hv⟩:=hv;obtain⟨p',rfl,hw⟩:=hw;have c1:=bU wr.top (show n≤8990 by omega);have c2:=bU wr.bot (show n≤8990 by omega);have c3:=bU wq.top (show m≤8990 by omega);have c4:=bU wq.bot (show m≤8990 by omega);have lp:(0:Int)<(Q1 r.1 q.2:Nat):=b6 wq.pos;have lb:=rX (a:=r.1) wq.pos c4;have mp:(0:Int)<(Q1 q.1 r.2:Nat):=b6 wr.pos;have mb:=rX (a:=q.1) wr.pos c2;have z:=xU ⟨wr.pos,wr.cop⟩ ⟨wq.pos,wq.cop⟩;have kk:CD H Q (nG r q):=by rw[z];exact k
 unfold nG at kk;simp only at kk;refine⟨_,Z,p,_,_,_,Z,Z,hv,Z,_,Z,p',_,_,_,Z,Z,hw,Z,r.1,q.2,Z,_,Z,p',_,_,_,Z,Z,hw,Z,_,Z,p,_,_,_,Z,Z,hv,Z,q.1,r.2,Z,?_⟩;generalize ((Q1 r.1 q.2:Nat):Int)=l at lp lb kk ⊢;generalize ((Q1 q.1 r.2:Nat):Int)=m' at mp mb kk ⊢;refine⟨_,Z,p,_,_,_,Z,Z,hv,Z,_,Z,_,_,Z,Z,⟨lp,lb⟩,_,Z,p',_,_,_,Z,Z,hw,Z,_,Z,_,_,Z,Z,⟨mp,mb⟩,_,_,Z,Z,⟨iZ lp c1,iZ mp c3⟩,_,Z,p,_,_,_,Z,Z,hv,Z,_,Z,_,_,Z,Z,⟨mp,mb⟩,_,Z,p',_,_,_,Z,Z,hw,Z,_,Z,_,_,Z,Z,⟨lp,lb⟩,_,_,Z,Z,⟨iZ mp c2,iZ lp c4⟩,ma,kk⟩
theorem IF(T:de K mg t):bi P w K mg base cT 3 t.a_Q77 t.d_Q77 ["one","other"] (DV K):=by
 refine T.F_Q77.ok GN χ ψ
 ·obtain⟨_,_,_,_,_,rfl,_⟩:=h;rfl
 obtain⟨v,w,r,n,m,rfl,hv,⟨pw,rfl,hw⟩,wr,m0,m24,hn,k⟩:=h;refine cJ.ok (ah (bA (aT eZ (bM az (qv 1) aj) aj (aV _)) (ap dH) aQ) (ap (aC (bE (rK T) hr T.m_Q73 T.F_Q73.kp T.b_Q73 (af (qv 0) (af (bE (Cm T) hr T.m_Q71 T.F_Q71.kp T.b_Q71 (af (bM az (qv 1) aj) (af (bM az (qv 1) aj) ai aM) aM)) ai aD) ag))))) ?_
 nofun
 refine⟨_,Z,pw,_,_,_,Z,Z,hw,Z,Z,_,Z,dA (λz=>by injection z with z;omega) ?_⟩;refine⟨_,rfl,_,rfl,pw,_,_,_,rfl,rfl,hw,rfl,_,rfl,pw,_,_,_,rfl,rfl,hw,rfl,1,m,rfl,ω,bU (n:=5) (by show((m:Int)).natAbs<32;omega) δ,λpr hpr=>?_⟩;have s1:=au hpr (.tup [.int (fj 1 m).1,.int (fj 1 m).2]);have rr:RV K _ (.ref pr) (fj 1 m):=RV.of (ao (H:=H) (a:=pr) (o:=.tup [.int (fj 1 m).1,.int (fj 1 m).2]));rw[Jw m0] at rr s1 ⊢;refine⟨v,.ref pr,r,(1,(m:Int)),n,5,Z,hv.mono (aI.same s1),rr,wr,IC m0 m24,ω,λpt hpt=>?_⟩;exact k _ _ (s1.trans (au hpt _)) (RV.of ao)
theorem IJ(T:de K mg t):bi P w K mg base cT 1 t.a_Q65 t.d_Q65 ["one","power"] (xZ K):=by
 refine T.F_Q65.ok lM χ ψ
 ·obtain⟨_,_,_,rfl,_⟩:=h;rfl
 obtain⟨v,r,k₁,rfl,hv,wr,h0,h6,k⟩:=h;refine cJ.ok (ah (bL 2 lM.nd aj) (ah (bL 3 lM.nd aj) (ah (bR Q8 Z (db Z T.z_range (af (qv 1) ai ag)) (ay (i:=4) lM.nd Z θ) (ah (bL 2 lM.nd (aK cO (qv 2) (bM az (qv 0) aj))) (ap (bL 3 lM.nd (aK cO (qv 3) (bM az (qv 0) aj)))))) (ap (aC (bD (af (qv 2) (af (qv 3) ai ag) ag))))))) ?_
 nofun
 have kb:=Ky h0 (by omega:k₁≤100);obtain⟨p,rfl,hv⟩:=hv;let Iv1:Nat->L2.St->Hp->Prop:=λi σ H'=>∃(x:Option V),σ=[some (.ref p),some (.int k₁),some (.int (r.1^i)),some (.int (r.2^i)),x]/\H'=H
 refine⟨_,Z,k₁,Z,kb.1,kb.2,d7 (lo:=0) (n:=k₁.toNat) Iv1 ⟨none,by rw[XN,XN]<;>rfl,Z⟩ ?_ ?_⟩
 ·rintro i σ H1 hi ⟨x,rfl,rfl⟩;have b1:=ua (i:=i) wr.top ω;have b2:=ua (i:=i) wr.bot ω;refine⟨_,Z,_,Z,p,_,_,_,Z,Z,hv,Z,_,_,Z,Z,⟨b1,bU wr.top δ⟩,?_⟩;refine⟨_,Z,_,Z,p,_,_,_,Z,Z,hv,Z,_,_,Z,Z,⟨b2,bU wr.bot δ⟩,?_⟩;exact⟨_,by rw[XO,XO]<;>rfl,Z⟩
 ·rintro σ H1 ⟨x,rfl,rfl⟩;refine⟨_,Z,_,Z,ma,λq hq=>?_⟩;have e:=ol ⟨wr.pos,wr.cop⟩ k₁.toNat;refine k _ _ (au hq _) ?_;rw[e];exact RV.of ao
theorem IN(T:de K mg t):bi P w K mg base cT 1 t.a_Q57 t.d_Q57 ["one","other"] (nR K):=by
 refine T.F_Q57.ok GT χ ψ
 ·obtain⟨_,_,_,_,_,_,rfl,_⟩:=h;rfl
 obtain⟨v,w,r,q,n,m,rfl,hv,hw,wr,wq,hz,k⟩:=h;refine cJ.ok (ap (aC (dP kK (aK cO (bM az (qv 0) aj) (bM az (qv 1) aj)) (aK cO (bM az (qv 1) aj) (bM az (qv 0) aj)) (aV _)))) ?_;nofun
 obtain⟨p,rfl,hv⟩:=hv;obtain⟨p',rfl,hw⟩:=hw;have c1:=bU wr.top (show n≤8990 by omega);have c2:=bU wr.bot (show n≤8990 by omega);have c3:=bU wq.top (show m≤8990 by omega);have c4:=bU wq.bot (show m≤8990 by omega);refine⟨_,Z,p,_,_,_,Z,Z,hv,Z,_,Z,p',_,_,_,Z,Z,hw,Z,_,_,Z,Z,⟨c1,c4⟩,_,Z,p',_,_,_,Z,Z,hw,Z,_,Z,p,_,_,_,Z,Z,hv,Z,_,_,Z,Z,⟨c3,c2⟩,_,_,Z,Z,k⟩
theorem II(T:de K mg t):bi P w K mg base cT 2 t.a_Q66 t.d_Q66 ["one","other"] (ya K):=by
 refine T.F_Q66.ok GQ χ ψ
 ·obtain⟨_,_,_,_,rfl,_⟩:=h;rfl
 obtain⟨v,w,r,q,rfl,hv,hw,ar,aq,k⟩:=h;refine cJ.ok (ah (bA (bC (bE (IN T) hr T.m_Q57 T.F_Q57.kp T.b_Q57 (af (qv 1) (af (qv 0) ai ag) ag))) (ap (aC (qv 1))) aQ) (ap (aC (qv 0)))) ?_
 nofun
 refine⟨_,Z,_,Z,w,v,q,r,130,130,Z,hw,hv,aq.wf,ar.wf,δ,_,Z,?_⟩
 cases c:dI q r with
 |true=>exact iD ⟨_,Z,k _ (by unfold fL;rw[if_pos c];exact hw)⟩
 |false=>exact bW ⟨_,Z,k _ (by unfold fL;rw[if_neg (by rw[c];exact Q4)];exact hv)⟩
theorem ou(T:de K mg t):bi P w K mg base cT 3 t.a_Q74 t.d_Q74 ["some"] (Af K):=by
 refine T.F_Q74.ok jZ χ ψ
 ·obtain⟨_,_,_,_,_,rfl,_⟩:=h;rfl
 obtain⟨a,xs,rs,n,D₀,rfl,hS,hR,hWD,h0,hDn₀,hlen,hn,k⟩:=h;refine cJ.ok (ah (bL 1 jZ.nd BN) (ah (bR Q8 Z (HL (qv 0)) (ay (i:=2) jZ.nd Z θ) (ap (Eg (Gm hr) (qv 1) (bM az (qv 2) aj) (aK bJ (BO (Gm hr) (qv 1) (bM az (qv 2) aj) aj ⟨Z,Z,Z,Z⟩) (bM az (qv 2) aj)) Z))) (ah (bL 3 jZ.nd (cW (v:=.ref t.c_NOUGHT) Z T.m_NOUGHT Z)) (ah (bR Q8 Z (BL (qv 1)) (eP Z (aR (ay (i:=4) jZ.nd Z θ) (aR (ay (i:=5) jZ.nd Z θ) ca))) (ap (bL 3 jZ.nd (bE (vG T) hr T.m_Q76 T.F_Q76.kp T.b_Q76 (af (qv 3) (af (bE (Cm T) hr T.m_Q71 T.F_Q71.kp T.b_Q71 (af (qv 5) (af (qv 4) ai ag) ag)) ai aD) ag))))) (ap (aC (qv 3))))))) ?_
 nofun
 refine λD hDn=>⟨_,Z,?_⟩
 have sD:=au hDn (.dK []);rcases hS with hS|hS
 ·refine .inl ⟨a,Z,⟨_,sD.seq hS⟩,iX (K:=K) (a:=a) (xs:=xs) (λi σ H'=>∃(x:Option V) (ps:List (Int×Int)),σ=[some (.ref a),some (.ref D),x,none,none,none]/\aL H H'/\H' D=some (.dK (pA ps))/\mU n i ps/\(∀p∈ps,p.1∣(D₀:Int))/\jQ ps=jN (rs.take i)) ⟨none,[],Z,sD,ao,mU.nil n,(λ_ h=>nomatch h),Z⟩ (λi σ H1 _ ⟨_,_,_,s1,_⟩=>s1.seq hS) ?_ ?_⟩
  ·rintro i y σ H1 hi ⟨x,ps,rfl,s1,hD1,ok,dv,ev⟩;obtain⟨ry,hry,hyv⟩:=hR.at hi;have my:ry∈rs:=QC hry;have hil:=(QM.mp hry).1;obtain⟨py,rfl,hSy⟩:=hyv.mono (aI.same s1);have el:(pA ps).length=ps.length:=Qz _;have hlp:(pA ps).length<sizeLine:=by rw[el];exact be (by have:=ok.len;omega)
   refine⟨_,Z,D,Z,.inl ⟨_,.inl hD1⟩,_,Z,py,_,_,_,Z,Z,hSy,Z,_,oW.k (k:=Ti ry.2) hD1,_,Z,py,_,_,_,Z,Z,hSy,Z,uT ps ry.2,ry.1,rW ps ry.2,Z,_,Z,_,Z,py,_,_,_,Z,Z,hSy,Z,D,_,Z,wj.k (k:=Ti ry.2) hD1 hlp,?_⟩;refine⟨_,gF ps ry.2 ry.1,Z,λb o q=>?_,?_,ok.add (hWD ry my).1,xL (i:=0) (n:=0) dv (hWD ry my).2,?_⟩
   ·rw[aJ (aX q hDn)];exact s1 b o q
   ·rw[rG ps _ _ ok.nd];exact ao
   ·rw[nJ,ev,Rn,hry];exact(lC _ _).symm
  ·rintro σ H1 ⟨x,ps,rfl,s1,hD1,ok,dv,ev⟩;rw[hR.1,RB] at ev;rw[hR.1] at ok;refine⟨_,Z,D,pA ps,Z,hD1,λob=>qb (d:=D) (ob:=ob) (kvs:=pA ps) (λj σ H'=>∃(u:V) (acc:R) (y4 y5:Option V),σ=[some (.ref a),some (.ref D),x,some u,y4,y5]/\aL H H'/\H' D=some (.frz ob (.dK (pA ps)))/\RV K H' u acc/\Bq D₀ (64*2^n*j) acc/\val acc=jQ (ps.take j)) ⟨_,(0,1),none,none,Z,?_,ao,⟨_,Z,T.q_NOUGHT _⟩,⟨δ,δ,⟨(D₀:Int),by show(D₀:Int)=1*D₀;omega⟩,by show 0≤_;exact Re _⟩,hU⟩ (λi σ H1 ⟨_,_,_,_,_,_,z,_⟩=>z) ?_ ?_⟩
   ·intro b o q;rw[aJ (aX q hDn)];exact s1 b o q
   ·rintro j kk v p σ H2 hkv ⟨u,acc,y4,y5,rfl,s2,hD2,r2,w2,ev2⟩ hp;have hkv':(ps.map λp=>((Ti p.1:dB),V.int p.2))[j]?=some (kk,v):=hkv;rw[QJ] at hkv';obtain⟨q,hq,e⟩:=RI.mp hkv'
    cases e
    have mq:=QC hq;have hjl:=(QM.mp hq).1;have wq:=ok.wf ω mq;have lps:=ok.len;have gq:=C0 ok dv hlen mq;have wa:=Dx w2 ω h0 hDn₀;have bq:=ok.bot q mq;have e1:=au hp (.tup [kV (Ti q.1),V.int q.2]);refine⟨p,_,Z,bz.of ao,Z,_,_,Z,_,_,Z,Z,?_⟩;refine⟨_,Z,_,Z,_,Z,q.2,q.1,Z,bq.1,bU bq.2 ω,λp1 g1=>?_⟩;have e2:=au g1 (.tup [.int (fj q.2 q.1).1,.int (fj q.2 q.1).2]);refine⟨u,.ref p1,acc,fj q.2 q.1,2*n+12,n+8,Z,(r2.mono (aI.same e1)).mono (aI.same e2),RV.of ao,wa,wq,ω,λp2 g2=>?_⟩;have e3:=au g2 (.tup [.int (bQ acc (fj q.2 q.1)).1,.int (bQ acc (fj q.2 q.1)).2]);have s3:=((e1.trans e2).trans e3);refine⟨_,bQ acc (fj q.2 q.1),_,_,Z,s2.trans s3,s3 _ _ hD2,RV.of ao,(by rw[Zn];exact Bq.plus h0 w2 gq),?_⟩;rw[iI w2.pos wq.pos,nw bq.1,ev2,Rn,hq];exact(lG _ _).symm
   ·rintro σ H2 ⟨u,acc,y4,y5,rfl,s2,hD2,r2,w2,ev2⟩;have el:(pA ps).length=ps.length:=Qz _;rw[el,RB] at ev2;have es:=zY (λr hr=>(hWD r hr).1.red) w2.red (ev2.trans ev);rw[es] at r2;exact⟨_,Z,k u H2 s2 r2⟩
 ·refine .inr ⟨a,Z,⟨_,aI.same sD _ _ hS⟩,gr (K:=K) (a:=a) (xs:=xs) (λi σ H'=>∃(x:Option V) (ps:List (Int×Int)),σ=[some (.ref a),some (.ref D),x,none,none,none]/\aL H H'/\H' D=some (.dK (pA ps))/\mU n i ps/\(∀p∈ps,p.1∣(D₀:Int))/\jQ ps=jN (rs.take i)) ⟨none,[],Z,sD,ao,mU.nil n,(λ_ h=>nomatch h),Z⟩ (λi σ H1 _ ⟨_,_,_,s1,_⟩=>aI.same s1 _ _ hS) ?_ ?_⟩
  ·rintro i y σ H1 hi ⟨x,ps,rfl,s1,hD1,ok,dv,ev⟩;obtain⟨ry,hry,hyv⟩:=hR.at hi;have my:ry∈rs:=QC hry;have hil:=(QM.mp hry).1;obtain⟨py,rfl,hSy⟩:=hyv.mono (aI.same s1);have el:(pA ps).length=ps.length:=Qz _;have hlp:(pA ps).length<sizeLine:=by rw[el];exact be (by have:=ok.len;omega)
   refine⟨_,Z,D,Z,.inl ⟨_,.inl hD1⟩,_,Z,py,_,_,_,Z,Z,hSy,Z,_,oW.k (k:=Ti ry.2) hD1,_,Z,py,_,_,_,Z,Z,hSy,Z,uT ps ry.2,ry.1,rW ps ry.2,Z,_,Z,_,Z,py,_,_,_,Z,Z,hSy,Z,D,_,Z,wj.k (k:=Ti ry.2) hD1 hlp,?_⟩;refine⟨_,gF ps ry.2 ry.1,Z,λb o q=>?_,?_,ok.add (hWD ry my).1,xL (i:=0) (n:=0) dv (hWD ry my).2,?_⟩
   ·rw[aJ (aX q hDn)];exact s1 b o q
   ·rw[rG ps _ _ ok.nd];exact ao
   ·rw[nJ,ev,Rn,hry];exact(lC _ _).symm
  ·rintro σ H1 ⟨x,ps,rfl,s1,hD1,ok,dv,ev⟩;rw[hR.1,RB] at ev;rw[hR.1] at ok;refine⟨_,Z,D,pA ps,Z,hD1,λob=>qb (d:=D) (ob:=ob) (kvs:=pA ps) (λj σ H'=>∃(u:V) (acc:R) (y4 y5:Option V),σ=[some (.ref a),some (.ref D),x,some u,y4,y5]/\aL H H'/\H' D=some (.frz ob (.dK (pA ps)))/\RV K H' u acc/\Bq D₀ (64*2^n*j) acc/\val acc=jQ (ps.take j)) ⟨_,(0,1),none,none,Z,?_,ao,⟨_,Z,T.q_NOUGHT _⟩,⟨δ,δ,⟨(D₀:Int),by show(D₀:Int)=1*D₀;omega⟩,by show 0≤_;exact Re _⟩,hU⟩ (λi σ H1 ⟨_,_,_,_,_,_,z,_⟩=>z) ?_ ?_⟩
   ·intro b o q;rw[aJ (aX q hDn)];exact s1 b o q
   ·rintro j kk v p σ H2 hkv ⟨u,acc,y4,y5,rfl,s2,hD2,r2,w2,ev2⟩ hp;have hkv':(ps.map λp=>((Ti p.1:dB),V.int p.2))[j]?=some (kk,v):=hkv;rw[QJ] at hkv';obtain⟨q,hq,e⟩:=RI.mp hkv'
    cases e
    have mq:=QC hq;have hjl:=(QM.mp hq).1;have wq:=ok.wf ω mq;have lps:=ok.len;have gq:=C0 ok dv hlen mq;have wa:=Dx w2 ω h0 hDn₀;have bq:=ok.bot q mq;have e1:=au hp (.tup [kV (Ti q.1),V.int q.2]);refine⟨p,_,Z,bz.of ao,Z,_,_,Z,_,_,Z,Z,?_⟩;refine⟨_,Z,_,Z,_,Z,q.2,q.1,Z,bq.1,bU bq.2 ω,λp1 g1=>?_⟩;have e2:=au g1 (.tup [.int (fj q.2 q.1).1,.int (fj q.2 q.1).2]);refine⟨u,.ref p1,acc,fj q.2 q.1,2*n+12,n+8,Z,(r2.mono (aI.same e1)).mono (aI.same e2),RV.of ao,wa,wq,ω,λp2 g2=>?_⟩;have e3:=au g2 (.tup [.int (bQ acc (fj q.2 q.1)).1,.int (bQ acc (fj q.2 q.1)).2]);have s3:=((e1.trans e2).trans e3);refine⟨_,bQ acc (fj q.2 q.1),_,_,Z,s2.trans s3,s3 _ _ hD2,RV.of ao,(by rw[Zn];exact Bq.plus h0 w2 gq),?_⟩;rw[iI w2.pos wq.pos,nw bq.1,ev2,Rn,hq];exact(lG _ _).symm
   ·rintro σ H2 ⟨u,acc,y4,y5,rfl,s2,hD2,r2,w2,ev2⟩;have el:(pA ps).length=ps.length:=Qz _;rw[el,RB] at ev2;have es:=zY (λr hr=>(hWD r hr).1.red) w2.red (ev2.trans ev);rw[es] at r2;exact⟨_,Z,k u H2 s2 r2⟩
theorem Jg(T:de K mg t):bi P w K mg base cT 2 t.a_Q23 t.d_Q23 ["some"] (nM K):=by
 refine T.F_Q23.ok rf χ ψ
 ·obtain⟨_,_,_,rfl,_⟩:=h;rfl
 obtain⟨a,xs,ws,rfl,hS,al,hn,ok,k⟩:=h;refine cJ.ok (ah (bL 1 rf.nd aj) (ah (bR Q8 Z (di (qv 0)) (ay (i:=2) rf.nd Z θ) (ap (bL 1 rf.nd (aK cO (qv 1) (aK eR (bM az (qv 2) aj) (bE (oz T) hr T.m_Q0 T.F_Q0.kp T.b_Q0 (af (qv 1) (af (bM az (qv 2) aj) ai aM) ag))))))) (ap (aC (bP (N':=["one","bottom"]) (src:=[none,some 1]) Z (by exact(di (qv 0))) (λ_ _ _ _ _=>(by exact(by exact ay (i:=0) (by show Ru (["one","bottom"]:List Rr);decide +kernel) ν θ))) (λ_ _ _ _ _=>cG) (λ_ _ _ _ _=>(by exact(by exact(aK cO (by exact(bH (bB (K:=K) ν) (by exact(qv 0)) aj (by exact λ_ _=>Z))) (by exact(aK eR (by exact(qv 1)) (by exact(bH (bB (K:=K) ν) (by exact(qv 0)) aj (by exact λ_ _=>Z))))))))) (by exact⟨Z,Z,Z,Z,trivial⟩) Z (by decide +kernel) Z (by decide +kernel) (by exact bj Z ⟨Z,trivial⟩)))))) ?_
 nofun
 have hlen:=al.len;rw[Qz] at hlen;let Iv1:Nat->L2.St->Hp->Prop:=λi σ H'=>∃(B:Int) (x3:Option V),σ=[some (.ref a),some (.int B),x3]/\H'=H/\0<B/\B∣5822723907000000000/\∀w∈ws.take i,w.2.2.2∣B
 refine⟨_,Z,a,Z,⟨_,hS⟩,iX (K:=K) (a:=a) (xs:=xs) Iv1 ⟨1,none,Z,Z,δ,⟨5822723907000000000,Z⟩,by simp⟩ (λi σ H1 _ ⟨_,_,_,e,_⟩=>by rw[e];exact hS) ?_ ?_⟩
 ·rintro i x σ H1 hx ⟨B,x3,rfl,rfl,b0,bd,all⟩;obtain⟨r,hr,px,rfl,hSx⟩:=al.at hx;rw[QJ] at hr;obtain⟨w,hw,er⟩:=RI.mp hr;subst er;have okw:=ok w (QC hw);have c1:=okw.am.bot;have c2:=Ux δ okw.am.dvd;have B84:=Ux δ bd;have g0:0<(Q1 B w.2.2.2:Int):=b6 ω;have g1:(Q1 B w.2.2.2:Int)≤w.2.2.2:=Ux ω (TW _ _);obtain⟨l0,l1,l2,l3⟩:=CN b0 (show 0<w.2.2.2 by omega) bd okw.am.dvd;refine⟨_,Z,_,Z,px,_,_,_,Z,Z,hSx,Z,_,Z,_,Z,px,_,_,_,Z,Z,hSx,Z,B,w.2.2.2,Z,_,_,Z,Z,⟨g0,zj ω ω⟩,_,_,Z,Z,⟨zj ω ω,zj (Ts ω ω) (Int.le_trans (Xo _ ω) ω)⟩,?_⟩;refine⟨_,_,Z,Z,l0,l1,λz hz=>?_⟩;rw[Rn,hw] at hz;rcases Q6.mp hz with h|h
  ·exact W3 (all z h) l2
  ·have:z=w:=by simpa using h
   subst this;exact l3
 ·rintro σ H1 ⟨B,x3,rfl,rfl,b0,bd,all⟩;rw[hlen,RB] at all;have B84:=Ux δ bd;refine⟨_,Z,a,Z,⟨_,hS⟩,λD hD=>cw (fF hS) (λ_=>true) (λi=>V.int ((fo B ws).getD i 0)) hD ω (λi x H' hi s' hx R E kR kE=>?_) λH4 s4 h4=>?_⟩
  ·obtain⟨r,hr,px,rfl,hSx⟩:=al.at hx;rw[QJ] at hr;obtain⟨w,hw,er⟩:=RI.mp hr;subst er;have okw:=ok w (QC hw);have t':=aI.same (K:=K) s';have e:(fo B ws).getD i 0=w.2.2.1*(B/w.2.2.2):=aB 0 (by unfold fo;rw[QJ,hw];rfl);have q:=kR Z _ (aL.refl _);rw[e] at q;have:=okw.am.bot;have:=Ux δ okw.am.dvd;have:=okw.am.top;have:=okw.am.top';exact⟨gf.set Z,_,Z,px,_,_,_,Z,Z,t' _ _ hSx,Z,_,Z,_,Z,px,_,_,_,Z,Z,t' _ _ hSx,Z,_,_,Z,Z,⟨ω,zj ω ω⟩,_,_,Z,Z,⟨zj ω ω,zj (Ts ω ω) (Int.le_trans (Xo _ ω) ω)⟩,q⟩
  ·refine k D B H4 s4 hD b0 bd all ?_;rw[h4,show xs.length=(fo B ws).length by unfold fo;rw[Qz];exact hlen,eB 0 V.int]
theorem Lz(T:de K mg t):bi P w K mg base cT 2 t.a_Q2 t.d_Q2 ["thing"] (jW K):=by
 refine T.F_Q2.ok Ar χ ψ
 ·obtain⟨_,_,_,rfl,_⟩:=h;rfl
 obtain⟨v,ws,es,rfl,⟨p,x,y,rfl,hS,wv,lv⟩,h20,h40,k⟩:=h;refine cJ.ok (ah (bA (cf (bC (bE (lR T) hr T.m_Q22 T.F_Q22.kp T.b_Q22 (af (qv 0) (af aj ai aG) ag)))) (ap (aC cP)) aQ) (ah (bL 1 Ar.nd (bM az (qv 0) aj)) (ah (bL 2 Ar.nd (bM az (qv 0) aj)) (ah (bA (gL (iS (cf (bC (aH d8 (by rfl) T.z_isinstance Tb (af (qv 1) (af (eW (v:=V.ty "tuple") Z T.z_tuple Sy Z) ai ag) ag)))) (gA (cf (bC (aH d8 (by rfl) T.z_isinstance Tb (af (qv 2) (af (eW (v:=V.ty "tuple") Z T.z_tuple Sy Z) ai ag) ag))))))) (ap (aC cP)) aQ) (ap (aC (eQ (dP mf (aH aN (by rfl) T.z_len R4 (af (qv 1) ai ag)) (cW (v:=.int (20)) Z T.m_MOST_WORKS ⟨_,Z⟩) (aV _)) (fm (dP mf (aH aN (by rfl) T.z_len R4 (af (qv 2) ai ag)) (cW (v:=.int (40)) Z T.m_MOST_LEANS ⟨_,Z⟩) (aV _)))))))))) ?_
 nofun
 obtain⟨px,xs,rfl,hx,ax_⟩:=id wv;obtain⟨py,ys,rfl,hy,ay_⟩:=id lv;have lx:=ax_.len;have ly:=ay_.len;refine⟨_,Z,p,_,_,2,Z,hS,.cons wv.deep (.cons lv.deep .nil),Z,⟨_,Z,bW ?_⟩⟩;refine⟨_,Z,p,_,_,_,Z,Z,hS,Z,_,Z,p,_,_,_,Z,Z,hS,Z,?_⟩;refine⟨_,Z,_,_,_,_,Z,wv.deep,Z,_,Z,bW ?_⟩;refine⟨_,Z,_,_,_,_,Z,lv.deep,Z,_,Z,bW ?_⟩;refine⟨_,Z,px,_,Z,.inr hx,_,_,Z,Z,_,Z,dz (show(xs.length:Int)≤20 by omega) ?_⟩;have q:decide ((ys.length:Int)≤40)=true:=decide_eq_true ω;refine⟨_,Z,py,_,Z,.inr hy,_,_,Z,Z,?_⟩;dsimp only;rw[q];exact k
theorem IM(T:de K mg t):bi P w K mg base cT 4 t.a_Q58 t.d_Q58 ["thing"] (uX K):=by
 refine T.F_Q58.ok ve χ ψ
 ·obtain⟨_,_,rfl,_⟩:=h;rfl
 obtain⟨v,w,rfl,hv,ok,k⟩:=h;refine cJ.ok (ah (bA (cf (bC (bE (lR T) hr T.m_Q22 T.F_Q22.kp T.b_Q22 (af (qv 0) (af aj ai aG) ag)))) (ap (aC cP)) aQ) (ah (bL 1 ve.nd (bM az (qv 0) aj)) (ah (bL 2 ve.nd (bM az (qv 0) aj)) (ah (bA (gL (iS (cf (bC (bE (oy T) hr T.m_Q15 T.F_Q15.kp T.b_Q15 (af (qv 1) (af (cW (v:=.int (24)) Z T.m_TURNS ⟨_,Z⟩) ai ag) ag)))) (gA (cf (bC (bE (oy T) hr T.m_Q15 T.F_Q15.kp T.b_Q15 (af (qv 2) (af (cW (v:=.int (24)) Z T.m_TURNS ⟨_,Z⟩) ai ag) ag))))))) (ap (aC cP)) aQ) (ap (aC (eQ (dP mf (qv 1) (qv 2) (aV _)) (fm (bE (Ge T) hr T.m_Q1 T.F_Q1.kp T.b_Q1 (af (bM az (qv 0) aj) ai aM)))))))))) ?_
 nofun
 obtain⟨p,x,rfl,hS,rx⟩:=id hv;have a:=ok.le;have b:=ok.lt;refine⟨_,Z,p,_,_,3,Z,hS,.cons (.int _) (.cons (.int _) (.cons rx.deep .nil)),Z,⟨_,Z,bW ?_⟩⟩;refine⟨_,Z,p,_,_,_,Z,Z,hS,Z,_,Z,p,_,_,_,Z,Z,hS,Z,?_⟩;refine⟨_,Z,w.1,24,Z,ω,_,Z,bW ?_⟩;refine⟨_,Z,w.2.1,24,Z,ω,_,Z,bW ?_⟩;refine⟨_,Z,_,Z,_,_,Z,Z,_,Z,dz (show(w.1:Int)≤w.2.1 by omega) ?_⟩;exact⟨_,Z,p,_,_,_,Z,Z,hS,Z,x,w.2.2,Z,rx,ok.am.wf.red,by have:=ok.am.top;omega,k⟩
theorem vM(T:de K mg t):bi P w K mg base cT 1 t.a_Q31 t.d_Q31 ["work","turn"] (qU K):=by
 refine T.F_Q31.ok G3 χ ψ
 ·obtain⟨_,_,_,rfl,_⟩:=h;rfl
 obtain⟨v,w,t₀,rfl,⟨p,x,rfl,hS,rx⟩,k⟩:=h;refine cJ.ok (ap (aC (tW mf mf (bM az (qv 0) aj) (qv 1) (bM az (qv 0) aj)))) ?_;nofun
 refine⟨_,Z,p,_,_,_,Z,Z,hS,Z,_,Z,_,_,Z,Z,_,Z,?_⟩;by_cases c:w.1≤t₀
 ·refine dz ω ?_;have e:gE w t₀=decide ((t₀:Int)≤(w.2.1:Int)):=by
   unfold gE;rw[decide_eq_true c,YB];exact decide_eq_decide.mpr ω
  rw[e] at k;exact⟨_,Z,p,_,_,_,Z,Z,hS,Z,_,_,Z,Z,k⟩
 ·refine dA ω ?_;have e:gE w t₀=false:=by
   unfold gE;rw[decide_eq_false c,U0]
  rw[e] at k;exact k
theorem IL(T:de K mg t):bi P w K mg base cT 3 t.a_Q59 t.d_Q59 ["thing","count"] (uY K):=by
 refine T.F_Q59.ok vd χ ψ
 ·obtain⟨_,_,_,_,rfl,_⟩:=h;rfl
 obtain⟨v,a,b,n,rfl,⟨p,rfl,hS⟩,ha,hb,ne,k⟩:=h;refine cJ.ok (ah (bA (cf (bC (bE (lR T) hr T.m_Q22 T.F_Q22.kp T.b_Q22 (af (qv 0) (af aj ai aG) ag)))) (ap (aC cP)) aQ) (ah (bL 2 vd.nd (bM az (qv 0) aj)) (ah (bL 3 vd.nd (bM az (qv 0) aj)) (ap (aC (eQ (bE (oy T) hr T.m_Q15 T.F_Q15.kp T.b_Q15 (af (qv 2) (af (qv 1) ai ag) ag)) (eQ (bE (oy T) hr T.m_Q15 T.F_Q15.kp T.b_Q15 (af (qv 3) (af (qv 1) ai ag) ag)) (fm (dP Ci (qv 2) (qv 3) (aV _)))))))))) ?_
 nofun
 refine⟨_,Z,p,_,_,2,Z,hS,.cons (.int _) (.cons (.int _) .nil),Z,⟨_,Z,bW ?_⟩⟩;refine⟨_,Z,p,_,_,_,Z,Z,hS,Z,_,Z,p,_,_,_,Z,Z,hS,Z,?_⟩;refine⟨_,Z,_,Z,a,n,Z,ha,_,Z,?_⟩;refine⟨_,Z,_,Z,b,n,Z,hb,_,Z,?_⟩;refine iD ⟨_,Z,_,Z,Z,?_⟩;have e:decide (V.int (a:Nat)=V.int (b:Nat))=false:=decide_eq_false λz=>by injection z with z;omega
 rw[e];exact k
theorem Cw(T:de K mg t):bi P w K mg base cT 1 t.a_Q24 t.d_Q24 ["count"] (nO K):=by
 refine T.F_Q24.ok G5 χ ψ
 ·obtain⟨_,rfl,_⟩:=h;rfl
 obtain⟨n,rfl,hn,k⟩:=h;refine cJ.ok (ap (aC (bP (N':=["work","count"]) (src:=[none,some 0]) Z (by exact(db Z T.z_range (af (qv 0) ai ag))) (λ_ _ _ _ _=>(by exact(by exact ay (i:=0) (by show Ru (["work","count"]:List Rr);decide +kernel) ν θ))) (λ_ _ _ _ _=>cG) (λ_ _ _ _ _=>(by exact(by exact(aK wM (by exact(cC (af cP ai aG))) (by exact(qv 1)))))) (by exact⟨Z,Z,Z,Z,trivial⟩) Z (by decide +kernel) Z (by decide +kernel) (by exact bj Z ⟨Z,trivial⟩)))) ?_;nofun
 refine⟨_,Z,n,Z,ω,ω,λD hD=>Dm (J:=DA 0 n) (n:=n) (λi ys H'=>∃rows:List Addr,ys=rows.map V.ref/\rows.length=i/\rows.Nodup/\D∉rows/\(∀r∈rows,H r=none)/\aL H H'/\H' D=some (.lst ys)/\∀r∈rows,H' r=some (.lst (n8 n λ_=>false))) ⟨[],Z,Z,UD,(λz=>by cases z),(λr hr=>by cases hr),au hD _,ao,λr hr=>by cases hr⟩ (λi ys H' hi _=>hi) (λys H' ⟨rows,e1,e2,e3,e4,e5,e6,e7,e8⟩=>⟨QB _,k D rows H' e6 hD e5 ⟨by rw[e7,e1],e2,e3,e4,λi r e=>e8 r (QC e)⟩⟩) ?_⟩;rintro i ys H1 x H2 hi ⟨rows,rfl,e2,e3,e4,e5,e6,e7,e8⟩ ⟨rfl,rfl⟩ R E kR kE;refine⟨gf.set Z,?_⟩;refine⟨DK,λq hq=>?_⟩;have s1:=au hq (.lst [.bl false]);refine⟨_,Z,q,.bl false,n,Z,Z,ao,ω,λr hr=>?_⟩;have s2:=au hr (.lst (Rf n (.bl false)));have s12:=s1.trans s2;have nr:r∉rows:=λm=>by rw[s1 _ _ (e8 r m)] at hr;cases hr
 have nD:r≠D:=λz=>by subst z;rw[s1 _ _ e7] at hr;cases hr
 have er:Rf n (V.bl false)=n8 n λ_=>false:=by
  unfold n8;apply UV;intro j;rw[Te,QJ];by_cases c:j<n
  ·rw[if_pos c,Tr c];rfl
  ·rw[if_neg c,R5 (by rw[RL];omega)];rfl
 have hD4:=s12 _ _ e7;refine kR (.ref r) _ hD4 (be (by rw[Qz];omega)) ⟨rows++[r],by rw[RW];rfl,by rw[Q2,e2];rfl,?_,?_,λz hz=>?_,λb o q=>?_,ao,λz hz=>?_⟩
 ·rw[So];exact⟨e3,RO.mpr ⟨(λz=>by cases z),UD⟩,λa ha b hb=>by rw[QK.mp hb];exact λz=>nr (by rw[←z];exact ha)⟩
 ·intro m;rcases Q6.mp m with z|z
  ·exact e4 z
  ·exact nD (QK.mp z).symm
 ·rcases Q6.mp hz with y|y
  ·exact e5 z y
  ·rw[QK.mp y]
   cases c:H r with
   |none=>rfl
   |some o=>rw[s1 _ _ (e6 _ _ c)] at hr;cases hr
 ·rw[aJ (aX q hD)];exact s12 _ _ (e6 _ _ q)
 ·rcases Q6.mp hz with y|y
  ·rw[aJ (show z≠D from λw=>e4 (by rw[←w];exact y))];exact s12 _ _ (e8 z y)
  ·rw[QK.mp y,aJ nD,ao,er]
theorem Cq(T:de K mg t):bi P w K mg base cT 1 t.a_Q44 t.d_Q44 ["leanings","lean"] (tR K):=by
 refine T.F_Q44.ok iL χ ψ
 ·obtain⟨_,_,_,_,_,_,_,rfl,_⟩:=h;rfl
 obtain⟨l,v,rows,n,L,a,b,rfl,m0,⟨p,rfl,hp⟩,ha,hb,hn,k⟩:=h;refine cJ.ok (ah (bL 2 iL.nd (bM az (qv 1) aj)) (ah (bL 3 iL.nd (bM az (qv 1) aj)) (ah (bL 4 iL.nd (bT (oM Z) (by rfl) T.z_list boot_list (af (rE Z T.z_range (af (aH aN (by rfl) T.z_len R4 (af (qv 0) ai ag)) ai aD)) ai aD))) (ah (fH (i:=5) (N':=["work","ahead","leanings"]) (src:=[none,some 2,some 0]) iL.nd Z θ Z (by exact(di (qv 4))) (λ_ _ _ _ _=>(by exact(by exact ay (i:=0) (by show Ru (["work","ahead","leanings"]:List Rr);decide +kernel) ν θ))) (λ_ _ _ _ _=>(dD (gL (iS (aT eZ (by exact(qv 0)) (by exact(qv 1)) (aV _)) (gA (bC (by exact(bH (dy (K:=K) ν) (by exact(bH (dy (K:=K) ν) (by exact(qv 2)) (by exact(qv 1)) (by exact λ_ _=>Z))) (by exact(qv 0)) (by exact λ_ _=>Z))))))))) (λ_ _ _ _ _=>(by exact(by exact(qv 0)))) (by exact⟨Z,Z,Z,Z,⟨Z,Z,Z,Z,trivial⟩⟩) Z (by decide +kernel) Z (by decide +kernel) (by exact bj Z ⟨Z,⟨Z,trivial⟩⟩)) (ah (fH (i:=6) (N':=["work","behind","leanings"]) (src:=[none,some 3,some 0]) iL.nd Z θ Z (by exact(di (qv 4))) (λ_ _ _ _ _=>(by exact(by exact ay (i:=0) (by show Ru (["work","behind","leanings"]:List Rr);decide +kernel) ν θ))) (λ_ _ _ _ _=>(dD (gL (iS (aT eZ (by exact(qv 0)) (by exact(qv 1)) (aV _)) (gA (bC (by exact(bH (dy (K:=K) ν) (by exact(bH (dy (K:=K) ν) (by exact(qv 2)) (by exact(qv 0)) (by exact λ_ _=>Z))) (by exact(qv 1)) (by exact λ_ _=>Z))))))))) (λ_ _ _ _ _=>(by exact(by exact(qv 0)))) (by exact⟨Z,Z,Z,Z,⟨Z,Z,Z,Z,trivial⟩⟩) Z (by decide +kernel) Z (by decide +kernel) (by exact bj Z ⟨Z,⟨Z,trivial⟩⟩)) (ap (bR Q8 Z (di (qv 6)) (ay (i:=7) iL.nd Z θ) (ap (bR Q8 Z (di (qv 5)) (ay (i:=8) iL.nd Z θ) (ap (gC cP (j9 (bM bv (qv 0) (qv 7)) (qv 8) fS)))))))))))) ?_
 nofun
 refine⟨_,Z,p,_,_,_,Z,Z,hp,Z,?_⟩;refine⟨_,Z,p,_,_,_,Z,Z,hp,Z,?_⟩;have lr:(rows.map V.ref).length=n:=by rw[Qz];exact m0.len
 refine⟨_,Z,l,_,Z,.inl (aZ.of m0.top),_,Z,λpr hpr=>?_⟩;rw[lr];have s1:=au hpr (.rng 0 n);refine⟨pr,n,Z,ao,ω,λq hq=>?_⟩;have s2:=au hq (.lst ((B.upTo n).map V.int));have hq2:upd (upd H pr (.rng 0 n)) q (.lst ((B.upTo n).map V.int)) q=some (.lst ((B.upTo n).map V.int)):=ao;have s12:=s1.trans s2;generalize upd (upd H pr (.rng 0 n)) q (.lst ((B.upTo n).map V.int))=H2 at hq2 s12 ⊢;have lu:((B.upTo n).map V.int).length=n:=by unfold B.upTo;rw[Qz,Qz,RL]
 have m2:=m0.same s12;refine⟨_,Z,q,Z,⟨_,aZ.of hq2⟩,λD1 hD1=>cw (fF (aZ.of hq2)) (λi=>decide (i=a)||L a i) (λi=>V.int (i:Nat)) hD1 (by rw[lu];omega) (λi x H' hi s' hx R E kR kE=>?_) λH3 s3 h3=>?_⟩
 ·have hin:i<n:=by rw[lu] at hi;exact hi
  have hxn:x=V.int (i:Nat):=by
   rw[QJ] at hx;unfold B.upTo at hx;rw[QJ,Tr hin] at hx;exact(R0 hx).symm
  subst hxn;have Ms:=m2.same s';refine⟨gf.set Z,?_⟩;refine⟨_,Z,_,Z,Z,_,Z,?_⟩;by_cases c:i=a
  ·refine dz (by rw[c]) (iD ?_);exact⟨_,Z,kR (by rw[decide_eq_true c];rfl) _ (aL.refl _)⟩
  ·refine dA (λz=>c (by injection z with z;omega)) ?_;obtain⟨rr,hrr⟩:∃r,rows[a]?=some r:=⟨_,Qw (by rw[m0.len];omega)⟩;refine⟨_,Z,_,Z,l,_,_,_,Z,Z,aZ.of Ms.top,bh (v:=V.ref rr) (by rw[QJ,hrr];rfl),_,Z,rr,_,_,_,Z,Z,aZ.of (Ms.row _ _ hrr),bh (gj ω),_,Z,?_⟩
   cases cl:L a i with
   |true=>exact iD ⟨_,Z,kR (by rw[cl,SZ]) _ (aL.refl _)⟩
   |false=>exact bW (kE (by rw[decide_eq_false c,cl];rfl) _ (aL.refl _))
 rw[lu] at h3;have hq3:=s3 _ _ hq2;have m3:=m2.same s3;refine⟨_,Z,q,Z,⟨_,aZ.of hq3⟩,λD2 hD2=>cw (fF (aZ.of hq3)) (λi=>decide (i=b)||L i b) (λi=>V.int (i:Nat)) hD2 (by rw[lu];omega) (λi x H' hi s' hx R E kR kE=>?_) λH4 s4 h4=>?_⟩
 ·have hin:i<n:=by rw[lu] at hi;exact hi
  have hxn:x=V.int (i:Nat):=by
   rw[QJ] at hx;unfold B.upTo at hx;rw[QJ,Tr hin] at hx;exact(R0 hx).symm
  subst hxn;have Ms:=m3.same s';refine⟨gf.set Z,?_⟩;refine⟨_,Z,_,Z,Z,_,Z,?_⟩;by_cases c:i=b
  ·refine dz (by rw[c]) (iD ?_);exact⟨_,Z,kR (by rw[decide_eq_true c];rfl) _ (aL.refl _)⟩
  ·refine dA (λz=>c (by injection z with z;omega)) ?_;obtain⟨rr,hrr⟩:∃r,rows[i]?=some r:=⟨_,Qw (by rw[m0.len];omega)⟩;refine⟨_,Z,_,Z,l,_,_,_,Z,Z,aZ.of Ms.top,bh (v:=V.ref rr) (by rw[QJ,hrr];rfl),_,Z,rr,_,_,_,Z,Z,aZ.of (Ms.row _ _ hrr),bh (gj ω),_,Z,?_⟩
   cases cl:L i b with
   |true=>exact iD ⟨_,Z,kR (by rw[cl,SZ]) _ (aL.refl _)⟩
   |false=>exact bW (kE (by rw[decide_eq_false c,cl];rfl) _ (aL.refl _))
 rw[lu] at h4;have h3':=s4 _ _ h3;have m4:=m3.same s4;have s04:=(s12.trans s3).trans s4;have nD:∀r∈rows,H r≠none:=λr hr z=>by obtain⟨xs,e⟩:=m0.ls r hr;rw[e] at z;cases z
 have n1:D1∉rows:=λz=>by obtain⟨xs,e⟩:=m2.ls _ z;rw[hD1] at e;cases e
 have n2:D2∉rows:=λz=>by obtain⟨xs,e⟩:=m3.ls _ z;rw[hD2] at e;cases e
 generalize hbs:(Qv n).filter (λi=>decide (i=a)||L a i)=bs at h3';generalize hls:(Qv n).filter (λi=>decide (i=b)||L i b)=lns at h4;have bsI:∀j,j∈bs↔j<n/\(decide (j=a)||L a j)=true:=λj=>by rw[←hbs,Q3,QH]
 have lnI:∀j,j∈lns↔j<n/\(decide (j=b)||L j b)=true:=λj=>by rw[←hls,Q3,QH]
 let Iv1:Nat->L2.St->Hp->Prop:=λi σ H'=>∃x7 x8:Option V,σ=[some (.ref l),some (.ref p),some (.int (a:Nat)),some (.int (b:Nat)),some (.ref q),some (.ref D1),some (.ref D2),x7,x8]/\Kp rows H4 H'/\pE H' l rows n (λu w=>L u w||((lns.take i).contains u&&bs.contains w))
 refine⟨_,Z,D2,Z,⟨_,aZ.of h4⟩,iX (K:=K) (a:=D2) (xs:=lns.map λi=>V.int (i:Nat)) Iv1 ⟨none,none,Z,Kp.same (aL.refl _) m4.ls,m4.congr λi j _ _=>by rw[Uo];simp⟩ (λi σ H' _ ⟨_,_,_,kp,_⟩=>aZ.of (kp.keep _ _ n2 h4)) ?_ ?_⟩
 ·rintro i x σ H5 hx ⟨x7,x8,rfl,kp5,m5⟩;rw[QJ] at hx;obtain⟨u,hu,rfl⟩:=RI.mp hx;have hun:=((lnI u).mp (QC hu)).1;obtain⟨rr,hrr⟩:∃r,rows[u]?=some r:=⟨_,Qw (by rw[m0.len];omega)⟩;have h35:=kp5.keep _ _ n1 h3';let Iv2:Nat->L2.St->Hp->Prop:=λj σ H'=>∃x8:Option V,σ=[some (.ref l),some (.ref p),some (.int (a:Nat)),some (.int (b:Nat)),some (.ref q),some (.ref D1),some (.ref D2),some (.int (u:Nat)),x8]/\Kp rows H4 H'/\pE H' l rows n (λu' w=>(L u' w||((lns.take i).contains u'&&bs.contains w))||(decide (u'=u)&&(bs.take j).contains w))
  refine⟨_,Z,D1,Z,⟨_,aZ.of h35⟩,iX (K:=K) (a:=D1) (xs:=bs.map λi=>V.int (i:Nat)) Iv2 ⟨_,Z,kp5,m5.congr λi j _ _=>by rw[Uo];simp⟩ (λj σ H' _ ⟨_,_,kp,_⟩=>aZ.of (kp.keep _ _ n1 h3')) ?_ ?_⟩
  ·rintro j y σ H6 hy ⟨x8,rfl,kp6,m6⟩;rw[QJ] at hy;obtain⟨w,hw,rfl⟩:=RI.mp hy;have hwn:=((bsI w).mp (QC hw)).1;have row:=m6.row _ _ hrr;refine⟨_,Z,_,Z,l,_,_,_,Z,Z,aZ.of m6.top,bh (v:=V.ref rr) (by rw[QJ,hrr];rfl),_,Z,rr,_,_,w,Z,Z,row,rS (by rw[kD];exact hwn),?_⟩;refine⟨_,Z,kp6.trans (Kp.up (QC hrr) m6.ls _),(m6.set hrr hwn).congr λi' j' _ _=>?_⟩;rw[Rn,hw];show(_||(decide (i'=u)&&(bs.take j).contains j')||(decide (i'=u)&&decide (j'=w)))=(_||(decide (i'=u)&&(bs.take j++[w]).contains j'));rw[show(bs.take j++[w]).contains j'=((bs.take j).contains j'||decide (j'=w)) by simp[Uu,aak],Bool.and_or_distrib_left,aax]
  ·rintro σ H6 ⟨x8,rfl,kp6,m6⟩;refine⟨_,_,Z,kp6,m6.congr λi' j' _ _=>?_⟩;rw[Qz,RB,Rn,hu];show(L i' j'||((lns.take i).contains i'&&bs.contains j')||(decide (i'=u)&&bs.contains j'))=(L i' j'||((lns.take i++[u]).contains i'&&bs.contains j'));rw[show(lns.take i++[u]).contains i'=((lns.take i).contains i'||decide (i'=u)) by simp[Uu,aak],Bool.and_or_distrib_right,aax]
 ·rintro σ H5 ⟨x7,x8,rfl,kp5,m5⟩;rw[Qz,RB] at m5;refine k H5 ((Kp.same s04 m0.ls).trans kp5) (m5.congr λi j hi hj=>?_);unfold mT
  congr 1
  have e1:lns.contains i=(decide (i=b)||L i b):=by rw[Su,SO,lnI];exact⟨λz=>z.2,λz=>⟨hi,z⟩⟩
  have e2:bs.contains j=(decide (j=a)||L a j):=by rw[Su,SO,bsI];exact⟨λz=>z.2,λz=>⟨hj,z⟩⟩
  rw[e1,e2]
theorem Cy(T:de K mg t):bi P w K mg base cT 2 t.a_Q16 t.d_Q16 ["count","leans"] (mR K):=by
 refine T.F_Q16.ok vt χ ψ
 ·obtain⟨_,_,_,rfl,_⟩:=h;rfl
 obtain⟨n,v,es,rfl,⟨p,xs,rfl,hS,al⟩,ok,hn,k⟩:=h;refine cJ.ok (ah (bL 2 vt.nd (bE (Cw T) hr T.m_Q24 T.F_Q24.kp T.b_Q24 (af (qv 0) ai ag))) (ah (bR Q8 Z (dm (qv 1)) (ay (i:=3) vt.nd Z θ) (ap (cH (bE (Cq T) hr T.m_Q44 T.F_Q44.kp T.b_Q44 (af (qv 2) (af (qv 3) ai ag) ag))))) (ap (aC (qv 2))))) ?_
 nofun
 refine⟨_,Z,n,Z,hn,λl rows H1 s1 hl hr m1=>?_⟩;have hS1:=aI.same (K:=K) s1 _ _ hS;have sm:∀H',Kp rows H1 H'->aL H H':=λH' kp b o e=>kp.keep b o (λz=>by rw[hr b z] at e;cases e) (s1 _ _ e)
 let Iv1:Nat->L2.St->Hp->Prop:=λi σ H'=>∃(L:Nat->Nat->Bool) (x4:Option V),σ=[some (.int n),some (.ref p),some (.ref l),x4]/\Kp rows H1 H'/\pE H' l rows n L/\Gy n (es.take i) L
 refine⟨_,Z,p,Z,⟨_,hS1⟩,gr (K:=K) (a:=p) (xs:=xs) Iv1 ⟨_,none,Z,Kp.same (aL.refl _) m1.ls,m1,by rw[Uo];exact xB n⟩ (λi σ H' _ ⟨_,_,_,kp,_⟩=>aI.kp (K:=K) kp _ _ hS1) ?_ ?_⟩
 ·rintro i x σ H2 hx ⟨L,x4,rfl,kp2,m2,c2⟩;obtain⟨⟨a,b⟩,hd,lv⟩:=al.at hx;have e:=ok _ (QC hd);refine⟨_,Z,_,Z,l,x,rows,n,L,a,b,Z,m2,(lv.mono (aI.same s1)).mono (aI.kp kp2),e.1,e.2,hn,λH3 kp3 m3=>?_⟩;refine⟨_,_,Z,kp2.trans kp3,m3,?_⟩;rw[Rn,hd];exact xC (λe he=>ok e (RZ he)) c2 e.1 e.2
 ·rintro σ H2 ⟨L,x4,rfl,kp2,m2,c2⟩;rw[al.len,RB] at c2;exact⟨_,Z,k l rows L H2 (sm _ kp2) m2 c2⟩
theorem Jd(T:de K mg t):bi P w K mg base cT 2 t.a_Q27 t.d_Q27 ["count","leans"] (o6 K):=by
 refine T.F_Q27.ok re χ ψ
 ·obtain⟨_,_,_,rfl,_⟩:=h;rfl
 obtain⟨n,v,es,rfl,⟨p,xs,rfl,hS,al⟩,ok,hn,k⟩:=h;refine cJ.ok (ah (bL 2 re.nd (bE (Cw T) hr T.m_Q24 T.F_Q24.kp T.b_Q24 (af (qv 0) ai ag))) (ah (bR Q8 Z (eV Z T.z_enumerate (af (qv 1) ai ag)) (eP Z (aR (ay (i:=3) re.nd Z θ) (aR (ay (i:=4) re.nd Z θ) ca))) (ah (cH (bE (Cq T) hr T.m_Q44 T.F_Q44.kp T.b_Q44 (af (qv 2) (af (qv 4) ai ag) ag))) (ap (bA (bC (bM bv (bM bv (qv 2) (bM az (qv 4) aj)) (bM az (qv 4) aj))) (ap (aC (qv 3))) aQ)))) (ap (aC oh)))) ?_
 nofun
 refine⟨_,Z,n,Z,hn,λl rows H1 s1 hl hr m1=>?_⟩;have hS1:=aI.same (K:=K) s1 _ _ hS;have sm:∀H',Kp rows H1 H'->aL H H':=λH' kp b o e=>kp.keep b o (λz=>by rw[hr b z] at e;cases e) (s1 _ _ e)
 have hxl:=al.len;let Iv1:Nat->L2.St->Hp->Prop:=λi σ H'=>∃(L:Nat->Nat->Bool) (x4 x5:Option V),σ=[some (.int n),some (.ref p),some (.ref l),x4,x5]/\Kp rows H1 H'/\pE H' l rows n L/\Gy n (es.take i) L/\∀j,j<i->¬iR es j
 refine⟨_,Z,p,Z,⟨_,hS1⟩,fZ (K:=K) (a:=p) (xs:=xs) Iv1 ⟨_,none,none,Z,Kp.same (aL.refl _) m1.ls,m1,by rw[Uo];exact xB n,λj hj=>absurd hj (Ta _)⟩ (λi σ H' _ ⟨_,_,_,_,kp,_⟩=>aI.kp (K:=K) kp _ _ hS1) ?_ ?_⟩
 ·rintro i x pe σ H2 hx ⟨L,x4,x5,rfl,kp2,m2,c2,nr⟩ hpe;obtain⟨⟨a,b⟩,hd,lv⟩:=al.at hx;have e:=ok _ (QC hd);have ha:a<n:=e.1;have s3:=au hpe (.tup [.int i,x]);have hpe3:upd H2 pe (.tup [.int i,x]) pe=some (.tup [.int i,x]):=ao;generalize upd H2 pe (.tup [.int i,x])=H3 at s3 hpe3 ⊢;have kp3:=kp2.trans (Kp.same s3 m2.ls);have m3:=m2.same s3;have lv3:=(lv.mono (aI.same s1)).mono (aI.kp kp3);refine⟨pe,_,Z,bz.of hpe3,Z,_,_,Z,_,_,Z,Z,?_⟩;refine⟨_,Z,_,Z,l,x,rows,n,L,a,b,Z,m3,lv3,e.1,e.2,hn,λH4 kp4 m4=>?_⟩;have c4:Gy n (es.take (i+1)) (mT L a b):=by
   rw[Rn,hd];exact xC (λe he=>ok e (RZ he)) c2 e.1 e.2
  have kp34:=kp3.trans kp4;obtain⟨q,rfl,hq⟩:=lv3.mono (aI.kp kp4);obtain⟨rr,hrr⟩:∃r,rows[a]?=some r:=⟨_,Qw (by rw[m4.len];omega)⟩;refine⟨_,Z,_,Z,q,_,_,_,Z,Z,hq,Z,l,_,_,_,Z,Z,aZ.of m4.top,bh (v:=V.ref rr) (by rw[QJ,hrr];rfl),_,Z,q,_,_,_,Z,Z,hq,Z,rr,_,_,_,Z,Z,aZ.of (m4.row _ _ hrr),bh (gj ha),_,Z,?_⟩;have iff:mT L a b a a=true↔iR es i:=by
   rw[c4 a a ha ha];constructor
   ·exact λz=>⟨a,b,hd,z⟩
   ·rintro⟨a',b',hd',z⟩;rw[hd] at hd'
    cases hd'
    exact z
  cases c:mT L a b a a with
  |true=>
   refine iD ⟨_,Z,?_⟩;exact k (some i) _ ⟨by have:=(QM.mp hd).1;exact this,iff.mp c,nr⟩ (sm _ kp34)
  |false=>
   refine bW ?_;refine⟨_,_,_,Z,kp34,m4,c4,λj hj=>?_⟩;by_cases z:j<i
   ·exact nr j z
   ·have:j=i:=ω
    subst this;intro w;rw[iff.mpr w] at c
    cases c
 ·rintro σ H2 ⟨L,x4,x5,rfl,kp2,m2,c2,nr⟩;exact k none _ (λj hj=>nr j ω) (sm _ kp2)
theorem Jk(T:de K mg t):bi P w K mg base cT 2 t.a_Q17 t.d_Q17 ["works","left"] (mN K):=by
 refine T.F_Q17.ok rg χ ψ
 ·obtain⟨_,_,_,_,rfl,_⟩:=h;rfl
 obtain⟨v,q,ws,ls,rfl,⟨p,xs,rfl,hS,al⟩,hw,hq,hl,k⟩:=h;refine cJ.ok (ah (bL 2 rg.nd (cC ai)) (ah (bR Q8 Z (dm (qv 0)) (ay (i:=3) rg.nd Z θ) (ah (fH (i:=4) (N':=["place","turn","work"]) (src:=[none,none,some 3]) rg.nd Z θ Z (by exact(eV Z T.z_enumerate (af (qv 1) ai ag))) (λ_ _ _ _ _=>(by exact(by exact ic (K:=K) (n:=2) ν ν (by exact aR (by exact ay (i:=0) (by show Ru (["place","turn","work"]:List Rr);decide +kernel) ν θ) (by exact aR (by exact ay (i:=1) (by show Ru (["place","turn","work"]:List Rr);decide +kernel) ν θ) ca))))) (λ_ _ _ _ _=>(dD (bC (by exact(dQ (vM T) (by exact hr.mono δ) ν T.m_Q31 T.F_Q31.kp T.b_Q31 (by exact .nil) (by exact me) (af (by exact(qv 2)) (af (by exact(qv 1)) ai ag) ag)))))) (λ_ _ _ _ _=>(by exact(by exact(qv 0)))) (by exact⟨Z,Z,Z,Z,trivial⟩) Z (by decide +kernel) Z (by decide +kernel) (by exact bj Z ⟨Z,trivial⟩)) (ap (cH (gl Rv RS RT cQ (qv 2) (af (tV (aT jz (aH aN (by rfl) T.z_len R4 (af (qv 4) ai ag)) aj (aV _)) (bD (af (bM bv (qv 4) aj) (af (bM bv (qv 4) (kG hX aj)) ai aM) aM)) oh) ai DR)))))) (ap (aC (qv 2))))) ?_
 nofun
 have hlen:=al.len;refine⟨(by show 0≤sizeLine;exact Re _),λl h0=>?_⟩;have s0:=au h0 (.lst []);let Iv1:Nat->L2.St->Hp->Prop:=λi σ H'=>∃(ys:List V) (x4 x5:Option V),σ=[some (.ref p),some (.ref q),some (.ref l),x4,x5]/\aL H H'/\H' l=some (.lst ys)/\Als (we K H') ys ((ws.take i).map (bI ls))
 refine⟨_,Z,p,Z,⟨_,aI.same (K:=K) s0 _ _ hS⟩,gr (K:=K) (a:=p) (xs:=xs) Iv1 ⟨[],none,none,Z,s0,ao,.nil⟩ (λi σ H1 _ ⟨_,_,_,_,sm,_⟩=>aI.same sm _ _ hS) ?_ ?_⟩
 ·rintro i x σ H1 hx ⟨ys,x4,x5,rfl,s1,hl1,al1⟩;obtain⟨w,hwi,wv⟩:=al.at hx;have hq1:=aI.same (K:=K) s1 _ _ hq;have nl:(bF ls).length=ls.length:=Qz _;refine⟨_,Z,q,Z,⟨_,hq1⟩,λD hD=>cw (qA hq1) (λi=>gE w (ls.getD i 0)) (λi=>V.int i) hD ω (λj y H' hj s' hy R E kR kE=>?_) λH4 s4 h4=>?_⟩
  ·obtain⟨pt,z,rfl,hz,hpt⟩:=hy;obtain⟨z',hz',rfl⟩:∃z',ls[j]?=some z'/\V.int (z':Nat)=z:=by
    unfold bF at hz;rw[QJ] at hz;exact RI.mp hz
   rw[aB 0 hz'] at kR kE;refine⟨pt,_,Z,bz.of hpt,Z,_,_,Z,_,_,Z,Z,(gf.set Z).set' Z,?_⟩;refine⟨_,Z,_,Z,x,w,z',Z,wv.mono (aI.same (s1.trans s')),_,Z,?_⟩
   cases c:gE w z' with
   |true=>exact iD ⟨_,Z,kR c _ (aL.refl _)⟩
   |false=>exact bW (kE c _ (aL.refl _))
  rw[nl] at h4
  replace h4:H4 D=some (.lst ((ig ls w).map λi:Nat=>V.int i)):=h4
  have hl4:=s4 _ _ hl1;have ne:D≠l:=λz=>by subst z;rw[hl1] at hD;cases hD
  have hle:=al1.len;rw[Qz,Rs] at hle;have ewi:(ws.take (i+1)).map (bI ls)=(ws.take i).map (bI ls)++[bI ls w]:=by
   rw[Rn,hwi,RW];rfl
  refine⟨_,Z,.inl ⟨Z,_,aZ.of hl4⟩,_,Z,D,_,Z,.inl (aZ.of h4),_,_,Z,Z,_,Z,?_⟩
  cases c:ig ls w with
  |nil=>
   rw[c] at h4;refine bW ?_;refine⟨l,_,_,Z,Z,hl4,be ω,?_⟩;refine⟨_,_,_,Z,?_,ao,?_⟩
   ·intro b o e;rw[aJ (aX e h0)];exact s4 _ _ (s1 _ _ e)
   ·rw[ewi];refine(al1.mono λv d m=>m.mono ((aI.same s4).trans (aI.up hl4 _))).snoc ?_;unfold bI;rw[c];rfl
  |cons a r=>
   rw[c] at h4;refine dz (by show(0:Int)<((List.map (λi:Nat=>V.int i) (a::r)).length:Int);rw[Qz,Rh];omega) ?_;have hlast:sj ((a::r).map λi:Nat=>V.int i) (-1)=some (.int ((a::r).getLast (by simp):Nat)):=by
    have e:=Wc (show(a::r)≠[] by simp);have e2:(a::r).map (λi:Nat=>V.int i)=(a::r).dropLast.map (λi:Nat=>V.int i)++[V.int ((a::r).getLast (by simp):Nat)]:=by
     conv=>lhs;rw[←e]
     rw[RW];rfl
    rw[e2];exact Dt _ _
   have hfst:sj ((a::r).map λi:Nat=>V.int i) 0=some (.int (a:Nat)):=bh (j:=0) Z;refine⟨_,Z,D,_,_,_,Z,Z,aZ.of h4,hfst,_,Z,_,Z,D,_,_,_,Z,Z,aZ.of h4,hlast,ma,λpt hpt=>?_⟩;have s5:=au hpt (.tup [.int a,.int ((a::r).getLast (by simp):Nat)]);have hl5:=s5 _ _ hl4;refine⟨l,_,_,Z,Z,hl5,be ω,?_⟩;refine⟨_,_,_,Z,?_,ao,?_⟩
   ·intro b o e;rw[aJ (aX e h0)];exact s5 _ _ (s4 _ _ (s1 _ _ e))
   ·rw[ewi];refine(al1.mono λv d m=>m.mono (((aI.same s4).trans (aI.same s5)).trans (aI.up hl5 _))).snoc ?_;unfold bI;rw[c];exact⟨pt,Z,aI.up (K:=K) hl5 _ _ _ (bz.of ao)⟩
 ·rintro σ H1 ⟨ys,x4,x5,rfl,s1,hl1,al1⟩;rw[hlen,RB] at al1;exact⟨_,Z,k l ys H1 s1 h0 hl1 al1⟩
theorem Ck(T:de K mg t):bi P w K mg base cT 1 t.a_Q78 t.d_Q78 ["windows","begin","end"] (DW K):=by
 refine T.F_Q78.ok GL χ ψ
 ·obtain⟨_,_,_,_,rfl,_⟩:=h;rfl
 obtain⟨l,xs,os,p,rfl,hS,al,hn,k⟩:=h;refine cJ.ok (ap (aC (bP (N':=["number","window","begin","end"]) (src:=[none,none,some 1,some 2]) Z (by exact(kF Z T.z_enumerate (af (qv 0) ai ag))) (λ_ _ _ _ _=>(by exact(by exact ic (K:=K) (n:=2) ν ν (by exact aR (by exact ay (i:=0) (by show Ru (["number","window","begin","end"]:List Rr);decide +kernel) ν θ) (by exact aR (by exact ay (i:=1) (by show Ru (["number","window","begin","end"]:List Rr);decide +kernel) ν θ) ca))))) (λ_ _ _ _ _=>(dD (gL (rB (aT wO (by exact(qv 1)) oh (aV _)) (rB (aT mf (by exact(qv 2)) (by exact(bH (bB (K:=K) ν) (by exact(qv 1)) aj (by exact λ_ _=>Z))) (aV _)) (rA (aT mf (by exact(bH (bB (K:=K) ν) (by exact(qv 1)) aj (by exact λ_ _=>Z))) (by exact(qv 3)) (aV _)))))))) (λ_ _ _ _ _=>(by exact(by exact(qv 0)))) (by exact⟨Z,Z,Z,Z,⟨Z,Z,Z,Z,trivial⟩⟩) Z (by decide +kernel) Z (by decide +kernel) (by exact bj Z ⟨Z,⟨Z,trivial⟩⟩)))) ?_;nofun
 have hlen:=al.len;refine⟨_,Z,l,Z,⟨_,hS⟩,λD hD=>cw (qC hS) (λi=>ix p.1 p.2 (os.getD i none)) (λi=>V.int i) hD ω (λi y H' hi s' hx R E kR kE=>?_) λH4 s4 h4=>?_⟩
 ·obtain⟨pt,x,rfl,hx,hpt⟩:=hx;obtain⟨o,ho,ow⟩:=al.at hx;have eo:os.getD i none=o:=aB none ho;rw[eo] at kR kE;refine⟨pt,_,Z,bz.of hpt,Z,_,_,Z,_,_,Z,Z,(gf.set Z).set' Z,?_⟩
  cases o with
  |none=>
   obtain rfl:x=.non:=ow;exact⟨_,Z,Z,_,Z,bW (bW (kE Z _ (aL.refl _)))⟩
  |some q=>
   obtain⟨pw,rfl,hw⟩:=ow;have hw':=aI.same (K:=K) s' _ _ hw;refine⟨_,Z,Z,_,Z,iD ?_⟩;refine⟨_,Z,_,Z,pw,_,_,_,Z,Z,hw',Z,_,_,Z,Z,_,Z,?_⟩;by_cases c:p.1≤q.1
   ·refine dz ω ?_;refine⟨_,Z,pw,_,_,_,Z,Z,hw',Z,_,Z,_,_,Z,Z,_,Z,?_⟩;by_cases c':q.2≤p.2
    ·refine dz ω ?_;exact⟨_,Z,kR (by show(decide (p.1≤q.1)&&decide (q.2≤p.2))=true;rw[decide_eq_true c,decide_eq_true c'];rfl) _ (aL.refl _)⟩
    ·refine dA ω ?_;exact kE (by show(decide (p.1≤q.1)&&decide (q.2≤p.2))=false;rw[decide_eq_false c',R1]) _ (aL.refl _)
   ·refine dA ω (bW ?_);exact kE (by show(decide (p.1≤q.1)&&decide (q.2≤p.2))=false;rw[decide_eq_false c,U0]) _ (aL.refl _)
 ·refine k D H4 s4 hD ?_;rw[h4,hlen];rfl
theorem Lx(T:de K mg t):bi P w K mg base cT 2 t.a_Q3 t.d_Q3 ["windows","amounts","count"] (jS K):=by
 refine T.F_Q3.ok iN χ ψ
 ·obtain⟨_,_,_,_,_,_,rfl,_⟩:=h;rfl
 obtain⟨l,a,xs,os,as,n,rfl,hS,al,hn,ha,hlen,hb,n1,n24,k⟩:=h;refine cJ.ok (ah (bL 3 iN.nd (bD (af aj (af aj ai aG) aG))) (ah (bL 4 iN.nd (kG hX aj)) (ah (bL 5 iN.nd aj) (ah (bR Q8 Z (db Z T.z_range (af (qv 2) ai ag)) (ay (i:=6) iN.nd Z θ) (ap (bR Q8 Z (yj Z T.z_range (af (aK fU (qv 2) aj) (af (aK fU (qv 6) aj) (af (kG hX aj) ai qI) ba) ba)) (ay (i:=7) iN.nd Z θ) (ah (bL 8 iN.nd (aH (yY Z) (by rfl) T.z_sum boot_sum (af (bP (N':=["number","amounts"]) (src:=[none,some 1]) Z (by exact(di (bE (Ck T) hr T.m_Q78 T.F_Q78.kp T.b_Q78 (af (qv 0) (af (qv 6) (af (qv 7) ai ag) ag) ag)))) (λ_ _ _ _ _=>(by exact(by exact ay (i:=0) (by show Ru (["number","amounts"]:List Rr);decide +kernel) ν θ))) (λ_ _ _ _ _=>cG) (λ_ _ _ _ _=>(by exact(by exact(bH (dy (K:=K) ν) (by exact(qv 1)) (by exact(qv 0)) (by exact λ_ _=>Z))))) (by exact⟨Z,Z,Z,Z,trivial⟩) Z (by decide +kernel) Z (by decide +kernel) (by exact bj Z ⟨Z,trivial⟩)) ai cU))) (ah (bL 9 iN.nd (aK bJ (aK fU (qv 7) (qv 6)) aj)) (ap (bA (aT jz (aK ii (qv 8) (qv 5)) (aK ii (qv 4) (qv 9)) (aV _)) (ah (bL 3 iN.nd (bD (af (qv 6) (af (qv 7) ai ag) ag))) (ah (bL 4 iN.nd (qv 8)) (ap (bL 5 iN.nd (qv 9))))) aQ))))))) (ap (aC (qv 3))))))) ?_
 nofun
 have hxl:=al.len;have LB:=λq=>E8 hb hn q
 generalize hL:dq os (js as)=L at LB k;refine⟨ma,λp0 h0=>?_⟩;have s0:=au h0 (.tup [.int 0,.int 0]);let Iv1:Nat->L2.St->Hp->Prop:=λi σ H'=>∃(vb:Addr) (ld ln:Int) (x7 x8 x9 x10:Option V),σ=[some (.ref l),some (.ref a),some (.int n),some (.ref vb),some (.int ld),some (.int ln),x7,x8,x9,x10]/\aL H H'/\oX K H' (gT n i n) L vb ld ln
 refine⟨_,Z,_,Z,n,Z,ω,ω,d7 (lo:=0) (n:=(n:Int).toNat) Iv1 ⟨p0,-1,1,none,none,none,none,Z,s0,.inl ⟨Z,Z,λr hr=>?_⟩⟩ ?_ ?_⟩
 ·unfold gT jt at hr;omega
 ·rintro i σ H1 hi ⟨vb,ld,ln,x7,x8,x9,x10,rfl,s1,best⟩;have hin:i<n:=ω
  rw[VN];refine⟨_,Z,_,_,Z,Z,_,Z,_,_,Z,Z,_,Z,_,_,Z,⟨ω,ω,ω,ω⟩,C2 (hi:=(n:Int)-1) (n:=((n:Int)-1-((i:Int)-1)).toNat) (λj σ H'=>∃(vb:Addr) (ld ln:Int) (x8 x9 x10:Option V),σ=[some (.ref l),some (.ref a),some (.int n),some (.ref vb),some (.int ld),some (.int ln),some (.int i),x8,x9,x10]/\aL H H'/\oX K H' (gT n i (n-j)) L vb ld ln) ⟨vb,ld,ln,x8,x9,x10,Z,s1,best⟩ ?_ ?_⟩
  ·rintro j σ H2 hj ⟨vb,ld,ln,x8,x9,x10,rfl,s2,best⟩;obtain⟨e,he⟩:∃e:Nat,n-j=e+1:=⟨n-j-1,ω⟩;rw[he] at best;rw[show(n:Int)-1-(j:Int)=(e:Nat) by omega,show n-(j+1)=e by omega];have t2:=aI.same (K:=K) s2;refine⟨_,Z,_,Z,_,Z,l,xs,os,(i,e),Z,s2.seq hS,al.mono (λ_ _ m=>m.mono t2),hn,λD H3 s3 hD h3=>?_⟩;refine⟨D,Z,⟨_,aZ.of h3⟩,λE hE=>cw (fF (aZ.of h3)) (λ_=>true) (λm=>V.int (js as ((cI os (i,e)).getD m 0))) hE ?_ (λm x H' hm s' hx R E kR kE=>?_) λH4 s4 h4=>?_⟩
   ·unfold bF cI;rw[Qz];have:=RU (λi_1=>ix i e (os.getD i_1 none)) (Qv os.length);rw[RL] at this;exact Rm this ω
   ·unfold bF at hx;rw[QJ] at hx;obtain⟨z,hz,rfl⟩:=RI.mp hx;have q:=kR Z _ (aL.refl _);rw[aB 0 hz] at q;have hzl:z<os.length:=by
     have:=QC hz;unfold cI at this;exact QH.mp (Q3.mp this).1
    obtain⟨y,hy⟩:∃y,as[z]?=some y:=⟨_,Qw ω⟩;rw[show js as z=y from aB 0 hy] at q;exact⟨gf.set Z,_,Z,_,Z,a,_,_,_,Z,Z,((s2.trans s3).trans s').seq ha,bh (by rw[QJ,hy];rfl),q⟩
   have e4:H4 E=some (.lst (((cI os (i,e)).map (js as)).map V.int)):=by
    rw[h4,show(bF (cI os (i,e))).length=(cI os (i,e)).length from Qz _,eB 0 (λk=>V.int (js as k)),S0];rfl
   have s24:=s3.trans s4;have sH:=s2.trans s24;refine⟨E,_,Z,aZ.of e4,?_⟩;have eL:((cI os (i,e)).map (js as)).sum=L (i,e):=by rw[←hL];rfl
   rw[eL];have lb:=LB (i,e);have elen:(e:Int)-(i:Int)+1=bV (i,e):=Z;refine⟨_,Z,_,Z,_,_,Z,Z,_,_,Z,Z,?_⟩;have lp:1≤bV (i,e)/\bV (i,e)≤24:=by rw[←elen];omega
   have bl:(ld=-1∨(0≤ld/\ld≤745308665313160620672000000000))/\0<ln/\ln≤24:=by
    rcases best with⟨r1,r2,_⟩ | ⟨q,_,r1,r2,b⟩
    ·exact⟨.inl r1,ω,ω⟩
    ·exact⟨.inr (by rw[r1];exact LB q),by rw[r2];exact(show jt n q from b.inn.1).pos,by
      have z:=(show jt n q from b.inn.1);unfold jt at z;rw[r2];unfold bV;omega⟩
   refine⟨_,Z,_,Z,_,_,Z,Z,.inr ⟨ω,ω⟩,_,Z,_,Z,_,_,Z,Z,.inr ⟨ω,ω⟩,_,_,Z,Z,_,Z,?_⟩;have st:=λr=>u7 (n:=n) (b:=i) (e:=e) ω ω r
   by_cases c:ld*bV (i,e)<L (i,e)*ln
   ·refine dz c ?_;refine⟨_,Z,_,Z,ma,λpt hpt=>?_⟩;have s5:=au hpt (.tup [.int (i:Nat),.int (e:Nat)]);refine⟨_,Z,_,Z,?_⟩;refine⟨pt,L (i,e),bV (i,e),_,_,_,Z,sH.trans s5,.inr ⟨(i,e),bz.of ao,Z,Z,?_⟩⟩;rcases best with⟨_,_,r3⟩ | ⟨q,_,r1,r2,b⟩
    ·exact zg λr=>⟨λh=>((st r).mp h).elim (λz=>absurd z (r3 r)) id,λh=>(st r).mpr (.inr h)⟩
    ·subst r1 r2;exact b.more (n:=n) (λr hr=>hr.1) st c
   ·refine dA c ?_;refine⟨vb,ld,ln,_,_,_,Z,sH,?_⟩;rcases best with⟨r1,r2,r3⟩ | ⟨q,hq,r1,r2,b⟩
    ·exfalso;subst r1 r2;apply c;omega
    ·subst r1 r2;refine .inr ⟨q,aI.same s24 _ _ hq,Z,Z,b.stay st ω (.inl ?_)⟩;have:=b.inn;unfold gT at this;unfold sx;show q.1<i∨q.1=i/\e≤q.2;omega
  ·rintro σ H2 ⟨vb,ld,ln,x8,x9,x10,rfl,s2,best⟩;refine⟨vb,ld,ln,_,_,_,_,Z,s2,best.mono (λ_ _ h=>h) λr=>?_⟩;rw[show n-((n:Int)-1-((i:Int)-1)).toNat=i by omega];exact u8 r
 ·rintro σ H1 ⟨vb,ld,ln,x7,x8,x9,x10,rfl,s1,best⟩;rw[show(n:Int).toNat=n by omega] at best;refine⟨_,Z,?_⟩;rcases best with⟨_,_,r3⟩ | ⟨q,hq,_,_,b⟩
  ·exact absurd (show gT n n n (0,0) from⟨⟨QB _,by show 0<n;omega⟩,.inl (by show 0<n;omega)⟩) (r3 _)
  ·exact k vb q H1 s1 hq (b.congr yf)
theorem IV(T:de K mg t):bi P w K mg base cT 3 t.a_Q46 t.d_Q46 ["works","left"] (tw K):=by
 refine T.F_Q46.ok vh χ ψ
 ·obtain⟨_,_,_,_,rfl,_⟩:=h;rfl
 obtain⟨v,q,ws,ls,rfl,⟨p,xs,rfl,hS,al⟩,hw,ok,hq,l1,l24,k⟩:=h;refine cJ.ok (ah (bL 2 vh.nd (bE (Jk T) hr T.m_Q17 T.F_Q17.kp T.b_Q17 (af (qv 0) (af (qv 1) ai ag) ag))) (ah (bL 3 vh.nd (bE (Lx T) hr T.m_Q3 T.F_Q3.kp T.b_Q3 (af (qv 2) (af (bE (Jg T) hr T.m_Q23 T.F_Q23.kp T.b_Q23 (af (bP (N':=["work"]) (src:=[none]) Z (by exact(dm (qv 0))) (λ_ _ _ _ _=>(by exact(by exact ay (i:=0) (by show Ru (["work"]:List Rr);decide +kernel) ν θ))) (λ_ _ _ _ _=>cG) (λ_ _ _ _ _=>(by exact(by exact(bH (bB (K:=K) ν) (by exact(qv 0)) aj (by exact λ_ _=>Z))))) (by exact trivial) Z (by decide +kernel) Z (by decide +kernel) (by exact bj Z trivial)) ai cU)) (af (aH aN (by rfl) T.z_len R4 (af (qv 1) ai ag)) ai aD) aD) ag))) (ap (aC (bD (af (ef h8 (qv 1) (eU (bM az (qv 3) aj)) (eU (aK bJ (bM az (qv 3) aj) aj))) (af (bT bK (by rfl) T.z_tuple Sy (af (bE (Ck T) hr T.m_Q78 T.F_Q78.kp T.b_Q78 (af (qv 2) (af (bM az (qv 3) aj) (af (bM az (qv 3) aj) ai aM) aM) ag)) ai aD)) ai aD) aM)))))) ?_
 nofun
 have nl:(bF ls).length=ls.length:=Qz _;refine⟨_,Z,_,Z,.ref p,q,ws,ls,Z,⟨p,xs,Z,hS,al⟩,hw,hq,l24,λl ys H1 s1 hl0 hl1 al1=>?_⟩;have t1:=aI.same (K:=K) s1;refine⟨_,Z,_,Z,p,Z,⟨_,t1 _ _ hS⟩,λD hD=>dE (K:=K) (P:=RV K) (ds:=ws) (f:=λw:Wk=>w.2.2) (λ_ _ _ _ t p=>p.mono t) hD (t1 _ _ hS) al.len ω (λi x d H' hx hd s' R E kR=>?_) λH2 ys2 s2 hD2 al2=>?_⟩
 ·obtain⟨d',hd',pw,xw,rfl,hSw,rx⟩:=al.at hx;rw[hd] at hd'
  cases hd'
  have t':=aI.same (K:=K) (s1.trans s');exact⟨gf.set Z,_,Z,pw,_,_,_,Z,Z,t' _ _ hSw,Z,kR _ _ (aL.refl _) (rx.mono t')⟩
 refine⟨D,ys2,ws,Z,aZ.of hD2,al2,hw,ok,λl2 B H3 s3 hl2 b0 bd dv hl3=>?_⟩;have s13:=s2.trans s3;have t13:=aI.same (K:=K) s13;have sH3:=s1.trans s13;refine⟨_,Z,q,_,Z,.inr (aI.same (K:=K) sH3 _ _ hq),?_⟩;refine⟨l,l2,ys,ws.map (bI ls),fo B ws,ls.length,(by rw[nl];rfl),s13.seq (aZ.of hl1),al1.mono (λ_ _ m=>m.mono t13),by rw[Qz];exact hw,aZ.of hl3,by unfold fo;rw[Qz,Qz],Ce ok b0 bd,l1,l24,λpp pl H4 s4 hpp bst=>?_⟩;have sec:=bst.inn;have c1:pl.1≤pl.2:=sec.1;have c2:pl.2<ls.length:=sec.2;have sH4:=sH3.trans s4;refine⟨_,Z,_,Z,pp,_,_,_,Z,Z,hpp,Z,_,Z,_,Z,pp,_,_,_,Z,Z,hpp,Z,_,_,Z,Z,_,Z,q,_,Z,aI.same (K:=K) sH4 _ _ hq,λpc H5 s5 hpc=>?_⟩;rw[show(pl.2:Int)+1=((pl.2+1:Nat):Int) by omega,Fz ω ω] at hpc;have t5:=aI.same (K:=K) s5;have t45:=aI.same (K:=K) (s13.trans (s4.trans s5));refine⟨_,Z,_,Z,pp,_,_,_,Z,Z,t5 _ _ hpp,Z,_,Z,pp,_,_,_,Z,Z,t5 _ _ hpp,Z,l,ys,ws.map (bI ls),pl,Z,(s13.trans (s4.trans s5)).seq (aZ.of hl1),al1.mono (λ_ _ m=>m.mono t45),by rw[Qz];exact hw,λE H6 s6 hE hE6=>?_⟩;refine⟨E,_,Z,.inl ⟨aZ.of hE6,λpe hpe=>?_⟩⟩;have s7:=au hpe (.tup (bF (cI (ws.map (bI ls)) pl)));refine⟨ma,λpr hpr=>?_⟩;have s8:=au hpr (.tup [.ref pc,.ref pe]);refine k (.ref pr) B pl _ ((((sH4.trans s5).trans s6).trans s7).trans s8) b0 bd dv bst ?_;exact⟨pr,pc,pe,Z,bz.of ao,aI.same (K:=K) ((s6.trans s7).trans s8) _ _ hpc,aI.same (K:=K) s8 _ _ (bz.of ao)⟩
theorem Cn(T:de K mg t):bi P w K mg base cT 4 t.a_Q67 t.d_Q67 ["works"] (yb K):=by
 refine T.F_Q67.ok j4 χ ψ
 ·obtain⟨_,_,rfl,_⟩:=h;rfl
 obtain⟨v,ws,rfl,⟨p,xs,rfl,hS,al⟩,hw,ok,k⟩:=h;refine cJ.ok (ah (bL 1 j4.nd (cC ai)) (ah (bL 2 j4.nd (bT (uG Z) (by rfl) T.z_tuple Sy (af (rE Z T.z_range (af (cW (v:=.int (24)) Z T.m_TURNS ⟨_,Z⟩) ai ag)) ai aD))) (ah (bL 3 j4.nd (aH aN (by rfl) T.z_len R4 (af (qv 0) ai ag))) (ah (iT Q8 (aT jz (qv 3) aj (aV _)) (ah (bL 4 j4.nd (bE (IV T) hr T.m_Q46 T.F_Q46.kp T.b_Q46 (af (qv 0) (af (qv 2) ai ag) ag))) (ah (cH (gl Rv RS RT cQ (qv 1) (af (qv 4) ai ag))) (ah (bL 2 j4.nd (bT bK (by rfl) T.z_tuple Sy (af (bP (N':=["turn","layer"]) (src:=[none,some 4]) Z (by exact(dm (qv 2))) (λ_ _ _ _ _=>(by exact(by exact ay (i:=0) (by show Ru (["turn","layer"]:List Rr);decide +kernel) ν θ))) (λ_ _ _ _ _=>(dD (aT (pd (K:=K) ν) (by exact(qv 0)) (by exact(bH (bB (K:=K) ν) (by exact(qv 1)) aj (by exact λ_ _=>Z))) (by with_unfolding_all rfl)))) (λ_ _ _ _ _=>(by exact(by exact(qv 0)))) (by exact⟨Z,Z,Z,Z,trivial⟩) Z (by decide +kernel) Z (by decide +kernel) (by exact bj Z ⟨Z,trivial⟩)) ai cU))) (ap (BJ (i:=3) j4.nd Z θ (aH aN (by rfl) T.z_len R4 (af (bM az (qv 4) aj) ai aM)) CT)))))) (ap (aC (bT bK (by rfl) T.z_tuple Sy (af (qv 1) ai ag)))))))) ?_
 nofun
 have hlen:=al.len;refine⟨(by show 0≤sizeLine;exact Re _),λl h0=>?_⟩;have s0:=au h0 (.lst []);have hl0:upd H l (.lst []) l=some (.lst []):=ao;refine⟨_,Z,λpr hpr=>?_⟩;have s1:=au hpr (.rng 0 24);refine⟨pr,24,Z,ao,δ,λq0 hq0=>?_⟩;have s2:=au hq0 (.tup ((B.upTo 24).map V.int));have hq0':bz K (upd (upd (upd H l (.lst [])) pr (.rng 0 24)) q0 (.tup ((B.upTo 24).map V.int))) q0 (bF (Qv 24)):=by
  have e:bF (Qv 24)=(B.upTo 24).map V.int:=by unfold bF B.upTo;rw[S0];rfl
  rw[e];exact bz.of (ao (H:=upd (upd H l (.lst [])) pr (.rng 0 24)) (a:=q0) (o:=.tup ((B.upTo 24).map V.int)))
 have s02:=(s0.trans s1).trans s2;have hl2:=s2 _ _ (s1 _ _ hl0);refine⟨_,Z,p,_,Z,.inr (aI.same (K:=K) s02 _ _ hS),?_⟩;have nf:=EX ok;let Iv1:Nat->L2.St->Hp->Prop:=λm σ H'=>∃(acc:List (List Nat×List Nat)) (ys:List V) (q:Addr) (ls:List Nat) (x5:Option V),σ=[some (.ref p),some (.ref l),some (.ref q),some (.int (vN ws ls)),x5]/\aL H H'/\H' l=some (.lst ys)/\Als (Gv K H') ys acc/\bz K H' q (bF ls)/\ls.Nodup/\(∀t∈ls,t<24)/\ls.length≤24/\acc.length+vN ws ls≤ws.length/\(∀y∈acc,mV ws.length y)/\(∀r,gU ws ls r->gU ws (Qv 24) (acc++r))/\m=vN ws ls
 refine⟨Iv1,⟨_,[],[],q0,Qv 24,none,(by rw[nf,hlen];rfl),s02,hl2,.nil,hq0',Xr,(λt ht=>QH.mp ht),δ,(by rw[nf];exact VI (Wp _)),(λy hy=>by cases hy),(λr h=>h),Z⟩,?_⟩;rintro m σ H1 ⟨acc,ys,q,ls,x5,rfl,sm,hl1,al1,hq,nd,lt,l24,few,lok,con,rfl⟩;refine⟨_,Z,_,_,Z,Z,_,Z,?_⟩;by_cases c:vN ws ls=0
 ·refine dA ω ?_;have ly:=con [] (.nil c);rw[R6] at ly;refine⟨_,Z,l,_,Z,.inl ⟨aZ.of hl1,λpt hpt=>?_⟩⟩;have s5:=au hpt (.tup ys);exact k (.ref pt) acc _ (sm.trans s5) ⟨pt,ys,Z,bz.of ao,al1.mono λ_ _ m=>m.mono (aI.same s5)⟩ ly lok ω
 ·refine dz ω ?_;refine⟨_,λ_ _ z=>z,?_⟩;have ln1:1≤ls.length:=by
   cases ls with
   |nil=>exact absurd (Jp ws) c
   |cons a r=>exact VY (Re _)
  refine⟨_,Z,_,Z,.ref p,q,ws,ls,Z,⟨p,xs,Z,aI.same (K:=K) sm _ _ hS,al.mono λ_ _ m=>m.mono (aI.same sm)⟩,hw,ok,hq,ln1,l24,λx B pl H2 s2 b0 bd dv bst lv=>?_⟩;have it:zF ws ls pl:=JF ok (bst.scale b0 δ λq=>pO _ λi _=>sS ok dv i) c;have sec:=Fb it;have hl2:=s2 _ _ hl1;have hy:=al1.len;have sm2:=sm.trans s2;have lyo:mV ws.length (eJ ws ls pl):=CJ sec l24 lt;refine⟨_,Z,.inl ⟨Z,_,aZ.of hl2⟩,_,Z,l,_,_,Z,Z,hl2,be ω,?_⟩;have t3:aI K H2 (upd H2 l (.lst (ys++[x]))):=aI.up hl2 _;have sm3:aL H (upd H2 l (.lst (ys++[x]))):=λb o e=>by rw[aJ (aX e h0)];exact sm2 _ _ e
  have hl3:upd H2 l (.lst (ys++[x])) l=some (.lst (ys++[x])):=ao;have al3:Als (Gv K (upd H2 l (.lst (ys++[x])))) (ys++[x]) (acc++[eJ ws ls pl]):=(al1.mono λ_ _ m=>m.mono ((aI.same s2).trans t3)).snoc (lv.mono t3);have lv3:=lv.mono t3;have hq3:=t3 _ _ (aI.same (K:=K) s2 _ _ hq);generalize upd H2 l (.lst (ys++[x]))=H3 at sm3 hl3 al3 lv3 hq3 ⊢;obtain⟨pL,a,b,rfl,hpL,ha,hb⟩:=lv3;have nl:(bF ls).length=ls.length:=Qz _;refine⟨_,Z,q,Z,⟨_,hq3⟩,λD hD=>cw (wo hq3) (λi=>!(cD ls pl).contains (ls.getD i 0)) (λi=>V.int (ls.getD i 0:Nat)) hD ω (λi x H' hi s' hx R E kR kE=>?_) λH4 s4 h4=>?_⟩
  ·unfold bF at hx;rw[QJ] at hx;obtain⟨z,hz,rfl⟩:=RI.mp hx;rw[aB 0 hz] at kR kE;have t':=aI.same (K:=K) s';refine⟨gf.set Z,_,Z,_,Z,pL,_,_,_,Z,Z,t' _ _ hpL,Z,a,_,Z,.inr (t' _ _ ha),Z,C4 _,_,Z,?_⟩;have e:Ff (.int (z:Nat)) (bF (eJ ws ls pl).1)=(cD ls pl).contains z:=Fe z (cD ls pl)
   cases cz:(cD ls pl).contains z with
   |true=>exact ur (by show(!Ff (.int (z:Nat)) (bF (eJ ws ls pl).1))=false;rw[e,cz];rfl) (kE (by rw[cz];rfl) _ (aL.refl _))
   |false=>exact uo (by show(!Ff (.int (z:Nat)) (bF (eJ ws ls pl).1))=true;rw[e,cz];rfl) ⟨_,Z,kR (by rw[cz];rfl) _ (aL.refl _)⟩
  rw[nl,fg 0 (λt=>!(cD ls pl).contains t) (λt:Nat=>V.int t)] at h4
  replace h4:H4 D=some (.lst (bF (dZ ls pl))):=h4
  refine⟨D,_,Z,.inl ⟨aZ.of h4,λqn hqn=>?_⟩⟩;have s5:=au hqn (.tup (bF (dZ ls pl)));have hqn5:bz K _ qn (bF (dZ ls pl)):=bz.of (ao (H:=H4) (a:=qn) (o:=.tup (bF (dZ ls pl))));have s35:=s4.trans s5;generalize upd H4 qn (.tup (bF (dZ ls pl)))=H5 at s35 hqn5 ⊢;have t5:=aI.same (K:=K) s35;have rst:=EW (ws:=ws) nd sec;have hp:=it.held;have lb:(bF (eJ ws ls pl).2).length=(cI (ws.map (bI ls)) pl).length:=Qz _;refine⟨_,Z,_,Z,pL,_,_,_,Z,Z,t5 _ _ hpL,Z,b,_,Z,.inr (t5 _ _ hb),_,_,Z,Z,?_⟩;have ew:((vN ws ls:Nat):Int)-((bF (eJ ws ls pl).2).length:Int)=((vN ws (dZ ls pl):Nat):Int):=by rw[lb];omega
  have rl:(dZ ls pl).length≤ls.length:=RU _ _;refine⟨_,?_,acc++[eJ ws ls pl],ys++[.ref pL],qn,dZ ls pl,_,(by rw[←ew];rfl),sm3.trans s35,s35 _ _ hl3,al3.mono (λ_ _ m=>m.mono t5),hqn5,D9 nd pl,(λt ht=>lt t (Q3.mp ht).1),ω,(by rw[Q2];show acc.length+1+_≤_;omega),(λy hy=>?_),(λr hr=>?_),Z⟩
  ·omega
  ·rcases Q6.mp hy with h|h
   ·exact lok y h
   ·rw[QK.mp h];exact lyo
  ·have:=con _ (gU.cons it hr);rw[VO];exact this
theorem Cz(T:de K mg t):bi P w K mg base cT 4 t.a_Q10 t.d_Q10 ["works","layer"] (lJ K):=by
 refine T.F_Q10.ok G9 χ ψ
 ·obtain⟨_,_,_,_,rfl,_⟩:=h;rfl
 obtain⟨v,x,ws,y,rfl,⟨p,xs,rfl,hS,al⟩,hw,ok,lv,lok,k⟩:=h;refine cJ.ok (ap (aC (bE (IF T) hr T.m_Q77 T.F_Q77.kp T.b_Q77 (af (bE (ou T) hr T.m_Q74 T.F_Q74.kp T.b_Q74 (af (bP (N':=["number","works"]) (src:=[none,some 0]) Z (by exact(dm (bH az (qv 1) aj (λ_ _=>Z)))) (λ_ _ _ _ _=>(by exact(by exact ay (i:=0) (by show Ru (["number","works"]:List Rr);decide +kernel) ν θ))) (λ_ _ _ _ _=>cG) (λ_ _ _ _ _=>(by exact(by exact(bH (bB (K:=K) ν) (by exact(bH (bB (K:=K) ν) (by exact(qv 1)) (by exact(qv 0)) (by exact λ_ _=>Z))) aj (by exact λ_ _=>Z))))) (by exact⟨Z,Z,Z,Z,trivial⟩) Z (by decide +kernel) Z (by decide +kernel) (by exact bj Z ⟨Z,trivial⟩)) ai cU)) (af (bD (af (aH aN (by rfl) T.z_len R4 (af (bH az (qv 1) aj (λ_ _=>Z)) ai aM)) (af aj ai aG) aD)) ai cb) aD)))) ?_;nofun
 have hSl:=al.len;obtain⟨pL,a,b,rfl,hpL,ha,hb⟩:=lv;have nb:(bF y.2).length=y.2.length:=Qz _;have na:(bF y.1).length=y.1.length:=Qz _;have len:=lok.len;refine⟨_,Z,pL,_,_,_,Z,Z,hpL,Z,b,Z,⟨_,hb⟩,λD hD=>dE (K:=K) (P:=RV K) (ds:=y.2) (f:=λi=>(ws.getD i b9).2.2) (λ_ _ _ _ t p=>p.mono t) hD hb nb ω (λi x d H' hx hd s' R E kR=>?_) λH2 ys2 s2 hD2 al2=>?_⟩
 ·have hx':(bF y.2)[i]?=some (V.int (d:Nat)):=by unfold bF;rw[QJ,hd];rfl
  rw[hx] at hx'
  cases hx'
  have hdl:=lok.num d (QC hd);obtain⟨xw,hxw⟩:∃xw,xs[d]?=some xw:=⟨_,Qw ω⟩;obtain⟨w,hwd,pw,xa,rfl,hSw,rx⟩:=al.at hxw;rw[aB b9 hwd] at kR;have t':=aI.same (K:=K) s';exact⟨gf.set Z,_,Z,_,Z,p,_,_,_,Z,Z,t' _ _ hS,bh hxw,pw,_,_,_,Z,Z,t' _ _ hSw,Z,kR _ _ (aL.refl _) (rx.mono t')⟩
 have wf:=JX (n:=ws.length) ok lok;have la:(jy ws y).length=y.2.length:=Qz _;have am:∀r∈jy ws y,Bq 5822723907000000000 2000000014 r:=λr hr=>by
  obtain⟨i,hi,rfl⟩:=QU.mp hr;have hl:=lok.num i hi;rw[aB b9 (Qw hl)];exact xI (ok _ (RA hl)).am
 have sq:=((qH δ am).mono (Sz _) (show 2000000014*(jy ws y).length≤128000000896 by omega)).wf (n:=130) δ δ δ;refine⟨D,ys2,jy ws y,96,5822723907000000000,Z,.inl (aZ.of hD2),kQ al2,λr hr=>⟨wf r hr,(am r hr).dvd⟩,δ,δ,ω,δ,λv' H3 s3 rv3=>?_⟩;have t23:=aI.same (K:=K) (s2.trans s3);refine⟨_,Z,pL,_,_,_,Z,Z,t23 _ _ hpL,Z,a,_,Z,.inr (t23 _ _ ha),ma,λpt hpt=>?_⟩;rw[na];have s4:=au hpt (.tup [.int (y.1.length:Int),.int 1]);have pos:=lok.pos;have few:=lok.few;refine⟨v',.ref pt,fQ (jy ws y),130,y.1.length,Z,rv3.mono (aI.same s4),RV.of ao,sq,pos,few,ω,λu H5 s5 r5=>?_⟩;exact k u H5 (((s2.trans s3).trans s4).trans s5) r5
theorem lS(T:de K mg t):bi P w K mg base cT 5 t.a_Q18 t.d_Q18 ["works"] (mL K):=by
 refine T.F_Q18.ok nZ χ ψ
 ·obtain⟨_,_,rfl,_⟩:=h;rfl
 obtain⟨v,ws,rfl,⟨p,xs,rfl,hS,al⟩,hw,ok,k⟩:=h;refine cJ.ok (ah (bL 1 nZ.nd (aK wM (cC (af (cW (v:=.ref t.c_NOUGHT) Z T.m_NOUGHT Z) ai ag)) (cW (v:=.int (24)) Z T.m_TURNS ⟨_,Z⟩))) (ah (bR Q8 Z (dm (bE (Cn T) hr T.m_Q67 T.F_Q67.kp T.b_Q67 (af (qv 0) ai ag))) (ay (i:=2) nZ.nd Z θ) (ah (bL 3 nZ.nd (bE (Cz T) hr T.m_Q10 T.F_Q10.kp T.b_Q10 (af (qv 0) (af (qv 2) ai ag) ag))) (ap (bR Q8 Z (dm (bM az (qv 2) aj)) (ay (i:=4) nZ.nd Z θ) (ap (gC (qv 3) (j9 (qv 1) (qv 4) fS))))))) (ap (aC (bT bK (by rfl) T.z_tuple Sy (af (qv 1) ai ag)))))) ?_
 nofun
 refine⟨DK,λl0 h0=>?_⟩;have s0:=au h0 (.lst [.ref t.c_NOUGHT]);refine⟨l0,.ref t.c_NOUGHT,24,Z,Z,ao,δ,λl hl=>?_⟩;have s1:=au hl (.lst (Rf 24 (.ref t.c_NOUGHT)));have s01:=s0.trans s1;have hln:H l=none:=by
  cases e:H l with
  |none=>rfl
  |some o=>rw[s0 _ _ e] at hl;cases hl
 have hl1:upd (upd H l0 (.lst [.ref t.c_NOUGHT])) l (.lst (Rf 24 (.ref t.c_NOUGHT))) l=some (.lst (Rf 24 (.ref t.c_NOUGHT))):=ao;generalize upd (upd H l0 (.lst [.ref t.c_NOUGHT])) l (.lst (Rf 24 (.ref t.c_NOUGHT)))=H1 at hl1 s01 ⊢;refine⟨_,Z,.ref p,ws,Z,⟨p,xs,Z,aI.same (K:=K) s01 _ _ hS,al.mono λ_ _ m=>m.mono (aI.same s01)⟩,hw,ok,λx lys H2 s2 lv ly lok ll=>?_⟩;obtain⟨pl,xl,rfl,hpl,all⟩:=lv;have hl2:=s2 _ _ hl1;have s02:=s01.trans s2;have wvS:∀H',aL H H'->eC K H' (.ref p) ws:=λH' s=>⟨p,xs,Z,aI.same (K:=K) s _ _ hS,al.mono λ_ _ m=>m.mono (aI.same s)⟩
 have smS:∀H',aY l H2 H'->aL H H':=λH' S b o e=>S.keep b o (λz=>by subst z;rw[hln] at e;cases e) (s02 _ _ e)
 let Iv1:Nat->L2.St->Hp->Prop:=λi σ H'=>∃(ys:List V) (x3 x4 x5:Option V),σ=[some (.ref p),some (.ref l),x3,x4,x5]/\aY l H2 H'/\H' l=some (.lst ys)/\Als (RV K H') ys (aU ws (lys.take i))
 refine⟨pl,Z,⟨_,hpl⟩,gr (K:=K) (a:=pl) (xs:=xl) Iv1 ⟨_,none,none,none,Z,aY.refl ⟨_,hl2⟩,hl2,Als.rep ⟨_,Z,T.q_NOUGHT _⟩ 24⟩ (λi σ H' _ ⟨_,_,_,_,_,S,_⟩=>aI.step (K:=K) S _ _ hpl) ?_ ?_⟩
 ·rintro i x σ H3 hx ⟨ys,x3,x4,x5,rfl,S3,hl3,al3⟩;obtain⟨y,hy,lvy⟩:=all.at hx;have lyo:=lok y (QC hy);have sm3:=smS _ S3;have lv3:=lvy.mono (aI.step (K:=K) S3);refine⟨_,Z,_,Z,.ref p,x,ws,y,Z,wvS _ sm3,hw,ok,lv3,lyo,λsv H4 s4 rv4=>?_⟩;have hl4:=s4 _ _ hl3;have lv4:=lv3.mono (aI.same s4);obtain⟨pL,a,b,rfl,hpL,ha,hb⟩:=lv4;have S4:=S3.trans (aY.same s4 ⟨_,hl3⟩);have al4:=al3.mono λ_ _ m=>m.mono (aI.same s4)
  have ly24:=al4.len;rw[show(aU ws (lys.take i)).length=24 by unfold aU;rw[gi];rfl] at ly24;let Iv2:Nat->L2.St->Hp->Prop:=λj σ H'=>∃(zs:List V) (x5:Option V),σ=[some (.ref p),some (.ref l),some (.ref pL),some sv,x5]/\aY l H4 H'/\H' l=some (.lst zs)/\zs.length=24/\Als (RV K H') zs (kC (cc ws y) (aU ws (lys.take i)) (y.1.take j))
  refine⟨_,Z,pL,_,_,_,Z,Z,hpL,Z,a,Z,⟨_,ha⟩,gr (K:=K) (a:=a) (xs:=bF y.1) Iv2 ⟨ys,_,Z,aY.refl ⟨_,hl4⟩,hl4,ly24,al4⟩ (λj σ H' _ ⟨_,_,_,S,_⟩=>aI.step (K:=K) S _ _ ha) ?_ ?_⟩
  ·rintro j tv σ H5 ht ⟨zs,x5,rfl,S5,hl5,zl,al5⟩;unfold bF at ht;rw[QJ] at ht;obtain⟨tt,htt,rfl⟩:=RI.mp ht;have lt:=lyo.lt tt (QC htt);refine⟨_,Z,_,Z,_,Z,l,zs,_,tt,Z,Z,hl5,rS ω,?_⟩;have t6:aI K H5 (upd H5 l (.lst (zs.set tt sv))):=aI.up hl5 _;refine⟨_,_,Z,S5.trans (aY.up hl5),ao,by rw[TY];exact zl,?_⟩;have e:kC (cc ws y) (aU ws (lys.take i)) (y.1.take (j+1))=(kC (cc ws y) (aU ws (lys.take i)) (y.1.take j)).set tt (cc ws y):=by
    unfold kC;rw[Rn,htt,VP];rfl
   rw[e];exact Als.setI (rv4.mono ((aI.step (K:=K) S5).trans t6)) tt (al5.mono λ_ _ m=>m.mono t6)
  ·rintro σ H5 ⟨zs,x5,rfl,S5,hl5,zl,al5⟩;rw[show(bF y.1).length=y.1.length from Qz _,RB] at al5;refine⟨zs,_,_,_,Z,S4.trans S5,hl5,?_⟩;have e:aU ws (lys.take (i+1))=kC (cc ws y) (aU ws (lys.take i)) y.1:=by
    unfold aU;rw[Rn,hy,VP];rfl
   rw[e];exact al5
 ·rintro σ H3 ⟨ys,x3,x4,x5,rfl,S3,hl3,al3⟩;rw[all.len,RB] at al3;refine⟨_,Z,l,_,Z,.inl ⟨aZ.of hl3,λpt hpt=>?_⟩⟩;have s5:=au hpt (.tup ys);exact k pt ys lys _ ((smS _ S3).trans s5) (bz.of ao) (al3.mono λ_ _ m=>m.mono (aI.same s5)) ly
theorem Jo(T:de K mg t):bi P w K mg base cT 1 t.a_Q11 t.d_Q11 ["works","leanings","waiting"] (lL K):=by
 refine T.F_Q11.ok rh χ ψ
 ·obtain⟨_,_,_,_,_,_,_,_,rfl,_⟩:=h;rfl
 obtain⟨v,l,wl,ws,es,rows,L,ls,rfl,⟨p,xs,rfl,hS,al⟩,w8,m0,cl,hwl,lt,ne,l8,rk,k⟩:=h;refine cJ.ok (ah (bL 3 rh.nd (aH (qg Z) (by rfl) T.z_min boot_min (af (bP (N':=["number","works"]) (src:=[none,some 0]) Z (by exact(di (qv 2))) (λ_ _ _ _ _=>(by exact(by exact ay (i:=0) (by show Ru (["number","works"]:List Rr);decide +kernel) ν θ))) (λ_ _ _ _ _=>cG) (λ_ _ _ _ _=>(by exact(by exact(bH (bB (K:=K) ν) (by exact(bH (bB (K:=K) ν) (by exact(qv 1)) (by exact(qv 0)) (by exact λ_ _=>Z))) aj (by exact λ_ _=>Z))))) (by exact⟨Z,Z,Z,Z,trivial⟩) Z (by decide +kernel) Z (by decide +kernel) (by exact bj Z ⟨Z,trivial⟩)) ai cU))) (ah (bL 4 rh.nd (bP (N':=["number","earliest","works"]) (src:=[none,some 3,some 0]) Z (by exact(di (qv 2))) (λ_ _ _ _ _=>(by exact(by exact ay (i:=0) (by show Ru (["number","earliest","works"]:List Rr);decide +kernel) ν θ))) (λ_ _ _ _ _=>(dD (aT eZ (by exact(bH (bB (K:=K) ν) (by exact(bH (bB (K:=K) ν) (by exact(qv 2)) (by exact(qv 0)) (by exact λ_ _=>Z))) aj (by exact λ_ _=>Z))) (by exact(qv 1)) (aV _)))) (λ_ _ _ _ _=>(by exact(by exact(qv 0)))) (by exact⟨Z,Z,Z,Z,⟨Z,Z,Z,Z,trivial⟩⟩) Z (by decide +kernel) Z (by decide +kernel) (by exact bj Z ⟨Z,⟨Z,trivial⟩⟩))) (ah (BI (i:=5) (N':=["number","like","leanings"]) (y := "number") (src:=[none,some 4,some 1]) rh.nd Z θ Z (by exact(di (qv 4))) (λ_ _ _ _ _=>(by exact(by exact ay (i:=0) (by show Ru (["number","like","leanings"]:List Rr);decide +kernel) ν θ))) (λ_ _ _ _ _=>(dD (cf (bC (by exact(aH (v6 (K:=K) ν ν) ν T.z_any boot_any (af (by exact(yk (N':=["base","leanings","number"]) (src:=[none,some 2,some 0]) ν ν (by exact(BK (K:=K) ν (by exact(qv 1)))) (by exact λ_ _ _ _ _=>(by exact(by exact ay (i:=0) (by show Ru (["base","leanings","number"]:List Rr);decide +kernel) ν θ))) (by exact λ_ _ _ _ _=>cG) (by exact λ_ _ _ _ _=>(by exact(by exact(bH (dy (K:=K) ν) (by exact(bH (dy (K:=K) ν) (by exact(qv 1)) (by exact(qv 2)) (by exact λ_ _=>Z))) (by exact(qv 0)) (by exact λ_ _=>Z))))) (by exact⟨Z,Z,Z,Z,⟨Z,Z,Z,Z,trivial⟩⟩) (by decide +kernel) ν (by decide +kernel) (by exact bj Z ⟨Z,⟨Z,trivial⟩⟩))) ai cU))))))) (λ_ _ _ _ _=>(by exact(by exact(qv 0)))) (by exact⟨Z,Z,Z,Z,⟨Z,Z,Z,Z,trivial⟩⟩) Z (λ_=>Z) (λ_=>Z) Z (by decide +kernel) (by exact yX Z ⟨Z,⟨Z,trivial⟩⟩ Z)) (ap (aC (bM bv (qv 5) aj)))))) ?_
 nofun
 have lx:xs.length=ws.length:=al.len;have lv:(bF ls).length=ls.length:=Qz _;have pos:0<ls.length:=SL.mpr ne;have at_:∀{H':Hp},aL H H'->∀i,i<ws.length->∃pw x,xs[i]?=some (.ref pw)/\bz K H' pw [.int (ws.getD i b9).1,.int (bo ws i:Nat),x]:=λ{H'} s i hi=>by
  have e:xs[i]?=some (xs[i]' ω):=Qw _;obtain⟨w,hw,pw,x,ex,hSw,_⟩:=al.at e;refine⟨pw,x,by rw[e,ex],?_⟩;have g:ws.getD i b9=w:=aB b9 hw;unfold bo;rw[g];exact aI.same s _ _ hSw
 have nat_:∀{zs:List Nat} {i:Nat} {x:V},(bF zs)[i]?=some x->∃n,zs[i]?=some n/\x=.int (n:Nat):=λ{zs i x} h=>by
  unfold bF at h;rw[QJ] at h;obtain⟨n,hn,rfl⟩:=RI.mp h;exact⟨n,hn,Z⟩
 refine⟨_,Z,wl,Z,⟨_,hwl⟩,λD1 hD1=>cw (fF hwl) (λ_=>true) (λi=>V.int (bo ws (ls.getD i 0):Nat)) hD1 ω (λi x H' hi sm hx Rk E kR _=>?_) λH1 s1 h1=>?_⟩
 ·obtain⟨n,hn,rfl⟩:=nat_ hx;obtain⟨pw,y,ex,hSw⟩:=at_ sm n (lt n (QC hn));rw[aB 0 hn] at kR;exact⟨gf.set Z,_,Z,_,Z,p,_,_,_,Z,Z,aI.same sm _ _ hS,bh ex,pw,_,_,_,Z,Z,hSw,Z,kR Z _ (aL.refl _)⟩
 have e1:((Qv (bF ls).length).filter λ_=>true).map (λi=>V.int (bo ws (ls.getD i 0):Nat))=(ls.map λi=>((bo ws i:Nat):Int)).map V.int:=by
  rw[lv,S0];exact eB 0 (λn=>V.int (bo ws n:Nat)) ls
 rw[e1] at h1;refine⟨D1,_,Z,aZ.of h1,by rw[Qz];exact pos,λM hM hle=>?_⟩;have key:∀i,i∈ls->(((bo ws i:Nat):Int)=M↔∀j∈ls,bo ws i≤bo ws j):=λi hi=>by
  constructor
  ·intro e j hj;have:=hle _ (QU.mpr ⟨j,hj,Z⟩);omega
  ·intro h;obtain⟨j,hj,e⟩:=QU.mp hM;have a:=h j hj;have b:=hle _ (QU.mpr ⟨i,hi,Z⟩);omega
 have hw1:aZ K H1 wl (bF ls):=s1.seq hwl;refine⟨_,Z,wl,Z,⟨_,hw1⟩,λD2 hD2=>cw (fF hw1) (λi=>ls.all λj=>decide (bo ws (ls.getD i 0)≤bo ws j)) (λi=>V.int (ls.getD i 0:Nat)) hD2 ω (λi x H' hi sm hx Rk E kR kE=>?_) λH2 s2 h2=>?_⟩
 ·obtain⟨n,hn,rfl⟩:=nat_ hx;have sm':=s1.trans sm;have mn:=QC hn;obtain⟨pw,y,ex,hSw⟩:=at_ sm' n (lt n mn);rw[aB 0 hn] at kR kE;refine⟨gf.set Z,_,Z,_,Z,p,_,_,_,Z,Z,aI.same sm' _ _ hS,bh ex,pw,_,_,_,Z,Z,hSw,Z,_,Z,Z,_,Z,?_⟩;by_cases c:((bo ws n:Nat):Int)=M
  ·refine dz (by rw[c]) ⟨_,Z,kR ?_ _ (aL.refl _)⟩;rw[Sk];exact λj hj=>decide_eq_true ((key n mn).mp c j hj)
  ·refine dA (λz=>c (by injection z)) (kE ?_ _ (aL.refl _))
   cases q:ls.all λj=>decide (bo ws n≤bo ws j) with
   |false=>rfl
   |true=>
    rw[Sk] at q;exact absurd ((key n mn).mpr λj hj=>of_decide_eq_true (q j hj)) c
 have e2:((Qv (bF ls).length).filter λi=>ls.all λj=>decide (bo ws (ls.getD i 0)≤bo ws j)).map (λi=>V.int (ls.getD i 0:Nat))=bF (gO ws ls):=by
  rw[lv];exact fg 0 (λn=>ls.all λj=>decide (bo ws n≤bo ws j)) (λn=>V.int (n:Nat)) ls
 rw[e2] at h2;have s12:=s1.trans s2;have lkl:∀i∈gO ws ls,i<ws.length:=λi hi=>lt i (gN.mp hi).1
 have ll:(gO ws ls).length≤ls.length:=RU _ _;have lk:(bF (gO ws ls)).length=(gO ws ls).length:=Qz _;have hl2:aZ K H2 D2 (bF (gO ws ls)):=aZ.of h2;generalize hlk:gO ws ls=lk_ at h2 hl2 lkl ll lk;refine⟨_,Z,D2,Z,⟨_,hl2⟩,λD3 hD3=>cw (fF hl2) (λi=>!lk_.any (gm es (lk_.getD i 0))) (λi=>V.int (lk_.getD i 0:Nat)) hD3 ω (λi x H' hi sm hx Rk E kR kE=>?_) λH3 s3 h3=>?_⟩
 ·obtain⟨n,hn,rfl⟩:=nat_ hx;have mn:=QC hn;have nl:=lkl n mn;have sm':=s12.trans sm;have hl3:aZ K H' D2 (bF lk_):=sm.seq hl2;have mm:=m0.same sm';rw[aB 0 hn] at kR kE;refine⟨gf.set Z,_,Z,D2,Z,⟨_,hl3⟩,λD4 hD4=>cw (fF hl3) (λ_=>true) (λj=>V.bl (gm es n (lk_.getD j 0))) hD4 ω (λj y H5 hj sm5 hy Rk2 E2 kR2 _=>?_) λH6 s6 h6=>?_⟩
  ·obtain⟨b,hb,rfl⟩:=nat_ hy;have bl:=lkl b (QC hb);have m5:=mm.same sm5;obtain⟨rr,hrr⟩:∃r,rows[n]?=some r:=⟨_,Qw (by rw[mm.len];exact nl)⟩;have hrow:=m5.row n rr hrr;rw[aB 0 hb] at kR2;have ev:L n b=gm es n b:=by rw[Su,lV];exact cl n b nl bl
   refine⟨gf.set Z,_,Z,_,Z,l,_,_,_,Z,Z,aZ.of m5.top,bh (show(rows.map V.ref)[n]?=some (V.ref rr) by rw[QJ,hrr];rfl),_,Z,rr,_,_,_,Z,Z,aZ.of hrow,bh (gj bl),?_⟩;rw[ev];exact kR2 Z _ (aL.refl _)
  ·have e6:((Qv (bF lk_).length).filter λ_=>true).map (λj=>V.bl (gm es n (lk_.getD j 0)))=(lk_.map (gm es n)).map V.bl:=by
    rw[lk,S0];exact eB 0 (λb=>V.bl (gm es n b)) lk_
   rw[e6] at h6;refine⟨D4,_,Z,aZ.of h6,_,Z,?_⟩;rw[Zh];have ea:lk_.any (id∘gm es n)=lk_.any (gm es n):=Z;rw[ea]
   cases c:lk_.any (gm es n) with
   |false=>exact uo (b:=!false) Z ⟨_,Z,kR (by rw[c];rfl) _ s6⟩
   |true=>exact ur (b:=!true) Z (kE (by rw[c];rfl) _ s6)
 have e3:((Qv (bF lk_).length).filter λi=>!lk_.any (gm es (lk_.getD i 0))).map (λi=>V.int (lk_.getD i 0:Nat))=bF (kM ws es ls):=by
  rw[lk];unfold kM;rw[hlk];exact fg 0 (λn=>!lk_.any (gm es n)) (λn=>V.int (n:Nat)) lk_
 rw[e3] at h3;have nx:=m8 (ws:=ws) rk ne;refine⟨_,Z,D3,_,_,_,Z,Z,aZ.of h3,bh (j:=0) (show(bF (kM ws es ls))[0]?=some (V.int (iU ws es ls:Nat)) by unfold bF;rw[QJ,nx];rfl),k _ (s12.trans s3)⟩
theorem IU(T:de K mg t):bi P w K mg base cT 3 t.a_Q47 t.d_Q47 ["works","leans"] (tG K):=by
 refine T.F_Q47.ok nX χ ψ
 ·obtain⟨_,_,_,_,rfl,_⟩:=h;rfl
 obtain⟨v,u,ws,es,rfl,ak,k⟩:=h;refine cJ.ok (ah (bL 2 nX.nd (bE (Cy T) hr T.m_Q16 T.F_Q16.kp T.b_Q16 (af (aH aN (by rfl) T.z_len R4 (af (qv 0) ai ag)) (af (qv 1) ai ag) aD))) (ah (bL 3 nX.nd (bT (oM Z) (by rfl) T.z_list boot_list (af (rE Z T.z_range (af (aH aN (by rfl) T.z_len R4 (af (qv 0) ai ag)) ai aD)) ai aD))) (ah (bL 4 nX.nd (cC ai)) (ah (iT Q8 (aT jz (aH aN (by rfl) T.z_len R4 (af (qv 3) ai ag)) aj (aV _)) (ah (bL 5 nX.nd (bE (Jo T) hr T.m_Q11 T.F_Q11.kp T.b_Q11 (af (qv 0) (af (qv 2) (af (qv 3) ai ag) ag) ag))) (ah (cH (gl Rv PySem.F.slot_list_remove PySem.F.type_list_remove E3 (qv 3) (af (qv 5) ai ag))) (ap (cH (gl Rv RS RT cQ (qv 4) (af (qv 5) ai ag))))))) (ap (aC (qv 4))))))) ?_
 nofun
 obtain⟨p,xs,rfl,hS,al⟩:=id ak.wv;have lx:xs.length=ws.length:=al.len;have w8:=ak.w8;refine⟨_,Z,p,_,Z,.inr hS,_,Z,ws.length,u,es,(by rw[←lx];rfl),ak.lv,ak.eok,ω,λlm rows L H1 s1 m1 c1=>?_⟩;have hS1:=aI.same (K:=K) s1 _ _ hS;refine⟨_,Z,p,_,Z,.inr hS1,_,Z,λpr hpr=>?_⟩;rw[lx];have s2:=au hpr (.rng 0 ws.length);refine⟨pr,ws.length,Z,ao,ω,λwl hwl=>?_⟩;have s3:=au hwl (.lst ((B.upTo ws.length).map V.int));have s23:=s2.trans s3;have hw3:upd (upd H1 pr (.rng 0 ws.length)) wl (.lst ((B.upTo ws.length).map V.int)) wl=some (.lst ((B.upTo ws.length).map V.int)):=ao;have wl0:H1 wl=none:=by
  cases e:H1 wl with
  |none=>rfl
  |some o=>rw[s2 _ _ e] at hwl;cases hwl
 generalize upd (upd H1 pr (.rng 0 ws.length)) wl (.lst ((B.upTo ws.length).map V.int))=H3 at s23 hw3 ⊢;refine⟨(by show 0≤sizeLine;exact Re _),λlo hlo=>?_⟩;have s4:=au hlo (.lst []);have nlw:lo≠wl:=λz=>by subst z;rw[hw3] at hlo;cases hlo
 have hw4:=s4 _ _ hw3;have ho4:upd H3 lo (.lst []) lo=some (.lst []):=ao;have s14:=s23.trans s4;have lo0:H1 lo=none:=by
  cases e:H1 lo with
  |none=>rfl
  |some o=>rw[s23 _ _ e] at hlo;cases hlo
 have eup:(B.upTo ws.length).map V.int=bF (ck ws.length (aS ws es 0)):=by
  show _=bF ((Qv ws.length).filter λi=>!([]:List Nat).contains i);have e:(Qv ws.length).filter (λi=>!([]:List Nat).contains i)=Qv ws.length:=RP.mpr λi _=>Z
  rw[e];unfold B.upTo bF;rw[S0];rfl
 rw[eup] at hw4;generalize upd H3 lo (.lst [])=H4 at s14 hw4 ho4 ⊢;have keep:∀H',(∀b o,b≠wl->b≠lo->H4 b=some o->H' b=some o)->aL H1 H':=λH' kp b o e=>kp b o (λz=>by subst z;rw[wl0] at e;cases e) (λz=>by subst z;rw[lo0] at e;cases e) (s14 _ _ e)
 let Iv1:Nat->L2.St->Hp->Prop:=λm σ H'=>∃(i:Nat) (x5:Option V),σ=[some (.ref p),some u,some (.ref lm),some (.ref wl),some (.ref lo),x5]/\(∀b o,b≠wl->b≠lo->H4 b=some o->H' b=some o)/\H' wl=some (.lst (bF (ck ws.length (aS ws es i))))/\H' lo=some (.lst (bF (aS ws es i)))/\i≤ws.length/\m=ws.length-i
 refine⟨Iv1,⟨_,0,none,Z,λ_ _ _ _ e=>e,hw4,ho4,Re _,Z⟩,?_⟩;rintro m σ H5 ⟨i,x5,rfl,kp,hw5,ho5,hi,rfl⟩;have oi:=dS (es:=es) ak.rk i hi;have s5:=keep H5 kp;have wl_:=oi.wl;refine⟨_,Z,wl,_,Z,.inl (aZ.of hw5),_,_,Z,Z,_,Z,?_⟩;have lnv:(bF (ck ws.length (aS ws es i))).length=(ck ws.length (aS ws es i)).length:=Qz _;by_cases c:i<ws.length
 ·refine dz ω ⟨_,λ_ _ z=>z,?_⟩;obtain⟨oi1,j,hj,ej⟩:=oi.step ak.rk c;refine⟨_,Z,_,Z,_,Z,.ref p,lm,wl,ws,es,rows,L,ck ws.length (aS ws es i),Z,⟨p,xs,Z,aI.same s5 _ _ hS1,(al.mono λ_ _ z=>z.mono (aI.same s1)).mono λ_ _ z=>z.mono (aI.same s5)⟩,w8,m1.same s5,c1,aZ.of hw5,(λn hn=>(fe.mp hn).1),oi.ne c,ω,ak.rk,λH6 s6=>?_⟩;refine⟨_,Z,.inl ⟨Z,_,aZ.of (s6 _ _ hw5)⟩,_,Z,wl,_,j,_,Z,Z,s6 _ _ hw5,hj,C6 (wu _ _) hj,?_⟩;rw[ej];have ho6:=s6 _ _ ho5;have ho7:upd H6 wl (.lst ((ck ws.length (aS ws es (i+1))).map λi:Nat=>V.int i)) lo=some (.lst (bF (aS ws es i))):=by rw[aJ nlw];exact ho6
  refine⟨_,Z,.inl ⟨Z,_,aZ.of ho7⟩,_,Z,lo,_,_,Z,Z,ho7,be (by unfold bF;rw[Qz,oi.len];omega),?_⟩;refine⟨_,ω,i+1,_,Z,λb o n1 n2 e=>?_,?_,?_,c,Z⟩
  ·rw[aJ n2,aJ n1];exact s6 _ _ (kp b o n1 n2 e)
  ·rw[aJ (Tt nlw),ao];rfl
  ·rw[ao];show some (HO.lst (bF (aS ws es i)++[_]))=some (HO.lst (bF (aS ws es i++[_])));unfold bF;rw[RW];rfl
 ·refine dA ω ?_;have e:i=ws.length:=ω
  subst e;exact⟨_,Z,k lo H5 (s1.trans s5) (by
   cases e:H lo with
   |none=>rfl
   |some o=>rw[s1 _ _ e] at lo0;cases lo0) ho5⟩
theorem Ja(T:de K mg t):bi P w K mg base cT 4 t.a_Q32 t.d_Q32 ["works","order","left","turn","speed"] (qV K):=by
 refine T.F_Q32.ok lN χ ψ
 ·obtain⟨_,_,_,_,_,_,_,_,_,_,rfl,_⟩:=h;rfl
 obtain⟨v,u,o,lf,ws,ord,xs,rs,t_,sp,rfl,⟨p,xw,rfl,hS,al⟩,ho,hlf,nol,alr,lr,okr,hu,asp,olt,o8,k⟩:=h;refine cJ.ok (ah (bL 5 lN.nd (cC ai)) (ah (bL 6 lN.nd (qv 4)) (ah (bR Q8 Z (di (qv 1)) (ay (i:=7) lN.nd Z θ) (ah (bA (cf (bC (bE (vM T) hr T.m_Q31 T.F_Q31.kp T.b_Q31 (af (bM az (qv 0) (qv 7)) (af (qv 3) ai ag) aM)))) (ap tU) aQ) (ah (bL 8 lN.nd (bE (II T) hr T.m_Q66 T.F_Q66.kp T.b_Q66 (af (bM bv (qv 2) (qv 7)) (af (qv 6) ai ag) aM))) (ap (bA (aT (kf hr) (qv 8) (cW (v:=.ref t.c_NOUGHT) Z T.m_NOUGHT Z) (aV _)) (ah (cH (gl Rv RS RT cQ (qv 5) (af (bD (af (qv 7) (af (qv 8) ai ag) ag)) ai cb))) (ah (gC (bE (vH T) hr T.m_Q72 T.F_Q72.kp T.b_Q72 (af (bM bv (qv 2) (qv 7)) (af (qv 8) ai ag) aM)) (j9 (qv 2) (qv 7) fS)) (ap (bL 6 lN.nd (bE (vH T) hr T.m_Q72 T.F_Q72.kp T.b_Q72 (af (qv 6) (af (qv 8) ai ag) ag)))))) aQ))))) (ap (aC (bT bK (by rfl) T.z_tuple Sy (af (qv 5) ai ag))))))) ?_
 nofun
 refine⟨(by show 0≤sizeLine;exact Re _),λdl hdl=>?_⟩;have s1:=au hdl (.lst []);have hd1:upd H dl (.lst []) dl=some (.lst []):=ao;have ndf:dl≠lf:=λz=>by subst z;rw[hlf] at hdl;cases hdl
 have ndo:dl≠o:=λz=>by subst z;rw[ho] at hdl;cases hdl
 have hlf1:=s1 _ _ hlf;have ho1:=s1 _ _ ho;generalize upd H dl (.lst [])=H1 at s1 hd1 hlf1 ho1 ⊢;have l12:∀r∈[dl,lf],∃xs,H1 r=some (.lst xs):=λr m=>by
  rcases QR.mp m with z|z
  ·exact⟨_,by rw[z];exact hd1⟩
  ·exact⟨_,by rw[QK.mp z];exact hlf1⟩
 have t1:=aI.same (K:=K) s1;have onot:o∉[dl,lf]:=λm=>by
  rcases QR.mp m with z|z
  ·exact ndo z.symm
  ·exact nol (QK.mp z)
 have md:dl∈[dl,lf]:=QL;have ml:lf∈[dl,lf]:=QP _ QL;let Iv1:Nat->L2.St->Hp->Prop:=λi σ H'=>∃(rv:V) (zs ys:List V) (st:zG) (x8 x9:Option V),σ=[some (.ref p),some (.ref o),some (.ref lf),some (.int (t_:Nat)),some u,some (.ref dl),some rv,x8,x9]/\st=(ord.take i).foldl (cE ws t_) (rs,sp,[])/\Kp [dl,lf] H1 H'/\H' lf=some (.lst zs)/\Als (RV K H') zs st.1/\RV K H' rv st.2.1/\H' dl=some (.lst ys)/\Als (zq K H') ys st.2.2/\xQ ws.length st/\st.2.2.length≤i
 refine⟨_,Z,_,Z,o,Z,⟨_,aZ.of ho1⟩,iX (K:=K) (a:=o) (xs:=bF ord) Iv1 ⟨u,xs,[],(rs,sp,[]),none,none,Z,Z,Kp.same (aL.refl _) l12,hlf1,alr.mono λ_ _ z=>z.mono t1,hu.mono t1,hd1,.nil,⟨lr,okr,asp,λp hp=>by cases hp⟩,QB _⟩ (λi σ H' _ ⟨_,_,_,_,_,_,_,_,kp,_⟩=>aZ.of (kp.keep _ _ onot ho1)) ?_ ?_⟩
 ·rintro i x σ H3 hx ⟨rv,zs,ys,st,x8,x9,rfl,est,kp,hl3,alz,hrv,hd3,aly,dok,few⟩;obtain⟨n,hn,rfl⟩:=EZ hx;have nl:=olt n (QC hn);have i8:i<ord.length:=(QM.mp hn).1;have t3:=t1.trans (aI.kp kp);have es:(ord.take (i+1)).foldl (cE ws t_) (rs,sp,[])=cE ws t_ st n:=by rw[Rn,hn,VP,est];rfl
  obtain⟨wv,hwv⟩:∃wv,xw[n]?=some wv:=⟨_,Qw (by rw[al.len];exact nl)⟩;obtain⟨w,hw,hwk⟩:=al.at hwv;have ew:ws.getD n b9=w:=aB b9 hw;obtain⟨zv,hzv⟩:∃zv,zs[n]?=some zv:=⟨_,Qw (by rw[alz.len,dok.len];exact nl)⟩;obtain⟨r,hr_,hrz⟩:=alz.at hzv;have er:st.1.getD n (0,1)=r:=aB (0,1) hr_;have ar:eT r:=dok.lf r (QC hr_);refine⟨_,Z,_,Z,p,_,_,_,Z,Z,t3 _ _ hS,bh hwv,_,Z,_,w,t_,Z,hwk.mono t3,_,Z,?_⟩;obtain⟨dk1,fw1⟩:=dok.step (ws:=ws) (t:=t_) nl
  cases c:gE w t_ with
  |false=>
   refine uo (b:=!false) Z ?_;have e0:cE ws t_ st n=st:=by
    unfold cE;rw[if_neg];rintro⟨z,_⟩;rw[ew,c] at z
    cases z
   exact⟨rv,zs,ys,st,_,_,Z,(es.trans e0).symm,kp,hl3,alz,hrv,hd3,aly,dok,ω⟩
  |true=>
   refine ur (b:=!true) Z ?_;refine⟨_,Z,_,Z,lf,_,_,_,Z,Z,aZ.of hl3,bh hzv,_,Z,_,rv,r,st.2.1,Z,hrz,hrv,ar,dok.rm,λa ha=>?_⟩;have aa:=rR ar dok.rm;generalize ea:fL r st.2.1=am at ha aa;refine⟨_,Z,dR am,dR (0,1),ha.deep,RV.deep ⟨_,Z,T.q_NOUGHT _⟩,Z,Z,kO _,_,Z,?_⟩;rw[xj];by_cases cz:am=(0,1)
   ·refine ur (b:=!decide (am=(0,1))) (by rw[decide_eq_true cz];rfl) ?_;have e0:cE ws t_ st n=st:=by
     unfold cE;rw[if_neg];rintro⟨_,z⟩;rw[er,ea] at z;exact z cz
    exact⟨rv,zs,ys,st,_,_,Z,(es.trans e0).symm,kp,hl3,alz,hrv,hd3,aly,dok,ω⟩
   ·refine uo (b:=!decide (am=(0,1))) (by rw[decide_eq_false cz];rfl) ?_;have e1:cE ws t_ st n=(st.1.set n (cY r am),cY st.2.1 am,st.2.2++[(n,am)]):=by
     unfold cE;rw[if_pos ⟨by rw[ew];exact c,by rw[er,ea];exact cz⟩,er,ea]
    refine⟨_,Z,.inl ⟨Z,_,aZ.of hd3⟩,_,Z,_,Z,ma,λpn hpn=>?_⟩;have s4:=au hpn (.tup [.int (n:Nat),a]);have hp4:upd H3 pn (.tup [.int (n:Nat),a]) pn=some (.tup [.int (n:Nat),a]):=ao;generalize upd H3 pn (.tup [.int (n:Nat),a])=H4 at s4 hp4 ⊢;have hd4:=s4 _ _ hd3;have kp4:=kp.trans (Kp.same s4 kp.ls');refine⟨dl,ys,_,Z,Z,hd4,be (by rw[aly.len];omega),?_⟩;have kp5:=Kp.up md kp4.ls' (ys++[.ref pn]);have hd5:upd H4 dl (.lst (ys++[.ref pn])) dl=some (.lst (ys++[.ref pn])):=ao;have hl5:upd H4 dl (.lst (ys++[.ref pn])) lf=some (.lst zs):=by rw[aJ (Tt ndf)];exact s4 _ _ hl3
    generalize upd H4 dl (.lst (ys++[.ref pn]))=H5 at kp5 hd5 hl5 ⊢;have t35:=(aI.same (K:=K) s4).trans (aI.kp kp5);have kq5:=kp4.trans kp5;refine⟨_,Z,_,Z,lf,_,_,_,Z,Z,aZ.of hl5,bh hzv,_,Z,_,a,r,am,130,130,Z,hrz.mono t35,ha.mono t35,ar.wf,aa.wf,δ,λmv H6 s6 hmv=>?_⟩;have hl6:=s6 _ _ hl5;have hd6:=s6 _ _ hd5;have kq6:=kq5.trans (Kp.same s6 kq5.ls');have t36:=t35.trans (aI.same s6);refine⟨_,Z,_,Z,lf,zs,_,n,Z,Z,hl6,rS (by rw[alz.len,dok.len];exact nl),?_⟩;have kp7:=Kp.up ml kq6.ls' (zs.set n mv);have hl7:upd H6 lf (.lst (zs.set n mv)) lf=some (.lst (zs.set n mv)):=ao;have hd7:upd H6 lf (.lst (zs.set n mv)) dl=some (.lst (ys++[.ref pn])):=by rw[aJ ndf];exact hd6
    generalize upd H6 lf (.lst (zs.set n mv))=H7 at kp7 hl7 hd7 ⊢;have t67:=aI.kp (K:=K) kp7;have t37:=t36.trans t67;have kq7:=kq6.trans kp7;refine⟨_,Z,_,Z,rv,a,st.2.1,am,130,130,Z,hrv.mono t37,ha.mono t37,dok.rm.wf,aa.wf,δ,λrv2 H8 s8 hrv2=>?_⟩;have t78:=aI.same (K:=K) s8;have t38:=t37.trans t78;have est':cE ws t_ st n=(ord.take (i+1)).foldl (cE ws t_) (rs,sp,[]):=es.symm;rw[e1] at est' dk1 fw1;exact⟨rv2,_,_,_,_,_,Z,est',kq7.trans (Kp.same s8 kq7.ls'),s8 _ _ hl7,Als.setI (hmv.mono (t67.trans t78)) n (alz.mono λ_ _ z=>z.mono t38),hrv2,s8 _ _ hd7,Als.snoc ⟨pn,a,Z,(((aI.kp kp5).trans (aI.same s6)).trans (t67.trans t78)) _ _ (bz.of hp4),ha.mono t38⟩ (aly.mono λ_ _ z=>z.mono t38),dk1,ω⟩
 ·rintro σ H3 ⟨rv,zs,ys,st,x8,x9,rfl,est,kp,hl3,alz,hrv,hd3,aly,dok,few⟩;rw[show(bF ord).length=ord.length from Qz _,RB] at est;refine⟨_,Z,dl,_,Z,.inl ⟨aZ.of hd3,λpt hpt=>?_⟩⟩;have s4:=au hpt (.tup ys);have t34:=aI.same (K:=K) s4;have e:d9 ws ord t_ rs sp=st:=est.symm;refine k (.ref pt) zs _ ⟨λb o' nb e=>s4 _ _ (kp.keep b o' (λm=>?_) (s1 _ _ e)),⟨_,hlf⟩,⟨_,s4 _ _ hl3⟩⟩ (s4 _ _ hl3) (by rw[e];exact alz.mono λ_ _ z=>z.mono t34) (by rw[e];exact⟨pt,ys,Z,bz.of ao,aly.mono λ_ _ z=>z.mono t34⟩);rcases QR.mp m with z|z
  ·rw[z,hdl] at e;cases e
  ·exact nb (QK.mp z)
theorem IG(T:de K mg t):bi P w K mg base cT 5 t.a_Q75 t.d_Q75 ["works","leans","speeds"] (Ai K):=by
 refine T.F_Q75.ok jY χ ψ
 ·obtain⟨_,_,_,_,_,_,rfl,_⟩:=h;rfl
 obtain⟨v,u,s_,ws,es,ss,rfl,ak,⟨q,qs,rfl,hq,alq⟩,l24,oks,nl_,k⟩:=h;refine cJ.ok (ah (bL 3 jY.nd (bE (IU T) hr T.m_Q47 T.F_Q47.kp T.b_Q47 (af (qv 0) (af (qv 1) ai ag) ag))) (ah (fH (i:=4) (N':=["work"]) (src:=[none]) jY.nd Z θ Z (by exact(dm (qv 0))) (λ_ _ _ _ _=>(by exact(by exact ay (i:=0) (by show Ru (["work"]:List Rr);decide +kernel) ν θ))) (λ_ _ _ _ _=>cG) (λ_ _ _ _ _=>(by exact(by exact(bH (bB (K:=K) ν) (by exact(qv 0)) aj (by exact λ_ _=>Z))))) (by exact trivial) Z (by decide +kernel) Z (by decide +kernel) (by exact bj Z trivial)) (ah (bL 5 jY.nd (cC ai)) (ah (bR Q8 Z (db Z T.z_range (af (cW (v:=.int (24)) Z T.m_TURNS ⟨_,Z⟩) ai ag)) (ay (i:=6) jY.nd Z θ) (ap (cH (gl Rv RS RT cQ (qv 5) (af (bE (Ja T) hr T.m_Q32 T.F_Q32.kp T.b_Q32 (af (qv 0) (af (qv 3) (af (qv 4) (af (qv 6) (af (bM az (qv 2) (qv 6)) ai aM) ag) ag) ag) ag)) ai aD))))) (ah (bR Q8 Z (kF Z T.z_enumerate (af (qv 4) ai ag)) (eP Z (aR (ay (i:=7) jY.nd Z θ) (aR (ay (i:=8) jY.nd Z θ) ca))) (ap (bA (aT (kf hr) (qv 8) (cW (v:=.ref t.c_NOUGHT) Z T.m_NOUGHT Z) (aV _)) (ap dH) aQ))) (ap (aC (bT bK (by rfl) T.z_tuple Sy (af (qv 5) ai ag))))))))) ?_
 nofun
 obtain⟨p,xs,rfl,hS,al⟩:=id ak.wv;have w8:=ak.w8;have lx:xs.length=ws.length:=al.len;refine⟨_,Z,_,Z,_,u,ws,es,Z,ak,λo H1 s1 _ ho=>?_⟩;have hS1:=aI.same (K:=K) s1 _ _ hS;refine⟨_,Z,p,Z,⟨_,hS1⟩,λlf hlf0=>dE (K:=K) (P:=RV K) (ds:=ws) (f:=λw=>w.2.2) (λ_ _ _ _ t z=>z.mono t) hlf0 hS1 lx ω (λi x d H' hx hd sm Rk E kR=>?_) λH2 ys s2 hlf al2=>?_⟩
 ·obtain⟨d',hd',pw,xa,rfl,hSw,rx⟩:=al.at hx;rw[hd] at hd'
  cases hd'
  have t':=aI.same (K:=K) (s1.trans sm);exact⟨gf.set Z,_,Z,pw,_,_,_,Z,Z,t' _ _ hSw,Z,kR _ _ (aL.refl _) (rx.mono t')⟩
 have ho2:=s2 _ _ ho;have nol:o≠lf:=λz=>by subst z;rw[ho] at hlf0;cases hlf0
 have lfN:H lf=none:=by
  cases e:H lf with
  |none=>rfl
  |some o'=>rw[s1 _ _ e] at hlf0;cases hlf0
 refine⟨(by show 0≤sizeLine;exact Re _),λpl hpl=>?_⟩;have s3:=au hpl (.lst []);have hp3:upd H2 pl (.lst []) pl=some (.lst []):=ao;have npf:pl≠lf:=λz=>by subst z;rw[hlf] at hpl;cases hpl
 have npo:pl≠o:=λz=>by subst z;rw[ho2] at hpl;cases hpl
 have hl3:=s3 _ _ hlf;have ho3:=s3 _ _ ho2;have al3:=al2.mono λ_ _ z=>z.mono (aI.same s3)
 have s03:=(s1.trans s2).trans s3;have plN:H pl=none:=by
  cases e:H pl with
  |none=>rfl
  |some o'=>rw[s2 _ _ (s1 _ _ e)] at hpl;cases hpl
 generalize upd H2 pl (.lst [])=H3 at s03 hp3 hl3 ho3 al3 ⊢;have t03:=aI.same (K:=K) s03;have oi:=dS (es:=es) ak.rk ws.length (QB _);have pk:=fJ (ord:=aS ws es ws.length) ak.ok oi.lt oks;have md:pl∈[pl,lf]:=QL;have l12:∀r∈[pl,lf],∃xs,H3 r=some (.lst xs):=λr m=>by
  rcases QR.mp m with z|z
  ·exact⟨_,by rw[z];exact hp3⟩
  ·exact⟨_,by rw[QK.mp z];exact hl3⟩
 have onot:o∉[pl,lf]:=λm=>by
  rcases QR.mp m with z|z
  ·exact npo z.symm
  ·exact nol (QK.mp z)
 have sk:∀H',Kp [pl,lf] H3 H'->aL H H':=λH' kp b o' e=>kp.keep b o' (λm=>by
  rcases QR.mp m with z|z
  ·rw[z,plN] at e;cases e
  ·rw[QK.mp z,lfN] at e;cases e) (s03 _ _ e)
 have olt:=oi.lt;have olen:=oi.len;generalize hod:aS ws es ws.length=od at ho3 pk olt olen;let Iv1:Nat->L2.St->Hp->Prop:=λi σ H'=>∃(zs ys:List V) (x7 x8 x9:Option V),σ=[some (.ref p),some u,some (.ref q),some (.ref o),some (.ref lf),some (.ref pl),x7,x8,x9]/\Kp [pl,lf] H3 H'/\H' lf=some (.lst zs)/\Als (RV K H') zs (bg ws od ss i).1/\H' pl=some (.lst ys)/\Als (zo K H') ys (bg ws od ss i).2
 refine⟨24,Z,δ,δ,d7 (lo:=0) (n:=24) Iv1 ⟨_,[],none,none,none,Z,Kp.same (aL.refl _) l12,hl3,al3,hp3,.nil⟩ ?_ ?_⟩
 ·rintro i σ H4 hi ⟨zs,ys,x7,x8,x9,rfl,kp,hl4,alz,hp4,aly⟩;obtain⟨po,pl_⟩:=pk i;have t4:=t03.trans (aI.kp kp);obtain⟨sv,hsv⟩:∃sv,qs[i]?=some sv:=⟨_,Qw (by rw[alq.len,l24];exact hi)⟩;obtain⟨sp,hsp,rsp⟩:=alq.at hsv;have esp:ss.getD i (0,1)=sp:=aB (0,1) hsp;have z0:(0:Int)+(i:Int)=(i:Int):=VN _;refine⟨_,Z,.inl ⟨Z,_,aZ.of hp4⟩,_,Z,_,Z,_,Z,_,Z,_,Z,_,Z,q,_,_,_,Z,Z,t4 _ _ hq,(by rw[z0];exact bh hsv),.ref p,sv,o,lf,ws,od,zs,(bg ws od ss i).1,i,sp,(by rw[z0];rfl),⟨p,xs,Z,t4 _ _ hS,al.mono λ_ _ z=>z.mono t4⟩,kp.keep _ _ onot ho3,hl4,nol,alz,po.len,po.lf,rsp.mono t4,oks _ (QC hsp),olt,by rw[olen];omega,λw ys' H5 S5 hl5 al5 tn5=>?_⟩;have hp5:=S5.keep _ _ npf hp4;have t45:=aI.step (K:=K) S5;have kp5:Kp [pl,lf] H4 H5:=⟨λb o' nb e=>S5.keep b o' (λz=>nb (by rw[z];exact QP _ QL)) e,kp.ls',λr m=>by
   rcases QR.mp m with z|z
   ·exact⟨_,by rw[z];exact hp5⟩
   ·exact⟨_,by rw[QK.mp z];exact hl5⟩⟩
  have kq5:=kp.trans kp5;refine⟨pl,ys,_,Z,Z,hp5,be (by rw[aly.len,pl_];omega),?_⟩;have kp6:=Kp.up md kq5.ls' (ys++[w]);have t56:=aI.kp (K:=K) kp6;rw[←esp] at al5 tn5;exact⟨ys',_,_,_,_,Z,kq5.trans kp6,by rw[aJ (Tt npf)];exact hl5,al5.mono λ_ _ z=>z.mono t56,ao,Als.snoc (tn5.mono t56) (aly.mono λ_ _ z=>(z.mono t45).mono t56)⟩
 rintro σ H4 ⟨zs,ys,x7,x8,x9,rfl,kp,hl4,alz,hp4,aly⟩;obtain⟨po,pl_⟩:=pk 24;have ed:dM ws es ss=bg ws od ss 24:=by unfold dM;rw[hod]
 rw[ed] at k nl_;have s04:=sk H4 kp;generalize bg ws od ss 24=pm at k nl_ alz aly po pl_;have lz:zs.length=ws.length:=by rw[alz.len,po.len]
 let Iv2:Nat->L2.St->Hp->Prop:=λi σ H'=>∃(x8 x9:Option V),σ=[some (.ref p),some u,some (.ref q),some (.ref o),some (.ref lf),some (.ref pl),x7,x8,x9]/\aL H4 H'/\∀j,j<i->pm.1.getD j (0,1)=(0,1)
 refine⟨_,Z,lf,Z,⟨_,aZ.of hl4⟩,yP (K:=K) (a:=lf) (xs:=zs) Iv2 ⟨_,_,Z,aL.refl _,λj hj=>absurd hj (Ta _)⟩ (λi σ H' _ ⟨_,_,_,sm,_⟩=>aZ.of (sm _ _ hl4)) ?_ ?_⟩
 ·rintro i x pe σ H5 hx ⟨x8,x9,rfl,s5,le⟩ hpe;obtain⟨r,hr_,hrz⟩:=alz.at hx;have er:pm.1.getD i (0,1)=r:=aB (0,1) hr_;have il:i<pm.1.length:=(QM.mp hr_).1;have s6:=au hpe (.tup [.int i,x]);have hpe6:upd H5 pe (.tup [.int i,x]) pe=some (.tup [.int i,x]):=ao;generalize upd H5 pe (.tup [.int i,x])=H6 at s6 hpe6 ⊢;have s46:=s5.trans s6;have t46:=aI.same (K:=K) s46;refine⟨pe,_,Z,bz.of hpe6,Z,_,_,Z,_,_,Z,Z,?_⟩;refine⟨_,Z,dR r,dR (0,1),(hrz.mono t46).deep,RV.deep ⟨_,Z,T.q_NOUGHT _⟩,Z,Z,kO _,_,Z,?_⟩;rw[xj];by_cases cz:r=(0,1)
  ·refine ur (b:=!decide (r=(0,1))) (by rw[decide_eq_true cz];rfl) ?_;refine⟨_,_,Z,s46,λj hj=>?_⟩;by_cases z:j<i
   ·exact le j z
   ·rw[show j=i by omega,er];exact cz
  ·refine uo (b:=!decide (r=(0,1))) (by rw[decide_eq_false cz];rfl) ?_;exact absurd nl_ (by rw[yC il (by rw[er];exact cz) le];exact λz=>nomatch z)
 ·rintro σ H5 ⟨x8,x9,rfl,s5,le⟩;refine⟨_,Z,pl,_,Z,.inl ⟨aZ.of (s5 _ _ hp4),λpt hpt=>?_⟩⟩;have s6:=au hpt (.tup ys);have t46:=(aI.same (K:=K) s5).trans (aI.same s6);refine k (.ref pt) _ ((s04.trans s5).trans s6) ?_;exact .tup (bz.of ao) ((aly.mono λ_ _ z=>z.mono t46).deep λ_ _ z=>z.deep)
theorem Jn(T:de K mg t):bi P w K mg base cT 4 t.a_Q12 t.d_Q12 ["low","high"] (lI K):=by
 exact T.F_Q12.ok G8 (λvs H Q E h=>h.elim) (λcdv A outer s H vs Q E hr h=>h.elim)
theorem I0(T:de K mg t):bi P w K mg base cT 2 t.a_Q33 t.d_Q33 ["rule","speed"] (qT K):=by
 exact T.F_Q33.ok G2 (λvs H Q E h=>h.elim) (λcdv A outer s H vs Q E hr h=>h.elim)
theorem IT(T:de K mg t):bi P w K mg base cT 2 t.a_Q48 t.d_Q48 ["rows","speed"] (tF K):=by
 exact T.F_Q48.ok GZ (λvs H Q E h=>h.elim) (λcdv A outer s H vs Q E hr h=>h.elim)
theorem vJ(T:de K mg t):bi P w K mg base cT 5 t.a_Q49 t.d_Q49 ["rule","speed"] (tE K):=by
 refine T.F_Q49.ok nW χ ψ
 ·obtain⟨_,_,_,_,rfl,_⟩:=h;rfl
 obtain⟨v,w,s,kk,rfl,⟨p,rfl,hS⟩,hk,hw,hs,k⟩:=h;refine cJ.ok (ah (bA (aT eZ (bM az (qv 0) aj) (cW (v:=.str "power") Z T.m_POWER ⟨_,Z⟩) (aV _)) (ap (aC (bE (IJ T) hr T.m_Q65 T.F_Q65.kp T.b_Q65 (af (qv 1) (af (bM az (qv 0) aj) ai aM) ag)))) aQ) (ah (bA (bC (bE (I0 T) hr T.m_Q33 T.F_Q33.kp T.b_Q33 (af (qv 0) (af (qv 1) ai ag) ag))) (ap dH) aQ) (ah (bL 2 nW.nd (bM az (qv 0) aj)) (ah (bL 3 nW.nd (bE (IT T) hr T.m_Q48 T.F_Q48.kp T.b_Q48 (af (qv 2) (af (qv 1) ai ag) ag))) (ah (bL 4 nW.nd (bM az (qv 2) (qv 3))) (ah (bA (aT (vC hr) (bM az (qv 4) aj) (qv 1) (aV _)) (ap (aC (bM az (qv 4) aj))) aQ) (ah (bL 5 nW.nd (bM az (qv 2) (aK fU (qv 3) aj))) (ap (aC (bE (vG T) hr T.m_Q76 T.F_Q76.kp T.b_Q76 (af (bM az (qv 5) aj) (af (bE (rK T) hr T.m_Q73 T.F_Q73.kp T.b_Q73 (af (bE (Jn T) hr T.m_Q12 T.F_Q12.kp T.b_Q12 (af (qv 5) (af (qv 4) ai ag) ag)) (af (bE (vH T) hr T.m_Q72 T.F_Q72.kp T.b_Q72 (af (qv 1) (af (bM az (qv 5) aj) ai aM) ag)) ai aD) aD)) ai aD) aM))))))))))) ?_
 nofun
 refine⟨_,Z,p,_,_,_,Z,Z,hS,Z,Z,_,Z,dz Z ?_⟩;exact⟨_,Z,_,Z,p,_,_,_,Z,Z,hS,Z,w,s,(kk:Nat),Z,hw,hs,ω,ω,k⟩
theorem IS(T:de K mg t):bi P w K mg base cT 4 t.a_Q50 t.d_Q50 ["thing","count"] (tP K):=by
 refine T.F_Q50.ok GY χ ψ
 ·obtain⟨_,_,_,rfl,_⟩:=h;rfl
 obtain⟨v,n,c,rfl,⟨p,y,rfl,hS,ry⟩,⟨g1,g2,g3⟩,k⟩:=h;refine cJ.ok (ap (aC (eQ (bE (lR T) hr T.m_Q22 T.F_Q22.kp T.b_Q22 (af (qv 0) (af aj ai aG) ag)) (eQ (bE (oy T) hr T.m_Q15 T.F_Q15.kp T.b_Q15 (af (bM az (qv 0) aj) (af (qv 1) ai ag) aM)) (fm (bE (Ge T) hr T.m_Q1 T.F_Q1.kp T.b_Q1 (af (bM az (qv 0) aj) ai aM))))))) ?_;nofun
 refine⟨_,Z,p,_,_,2,Z,hS,.cons (.int _) (.cons ry.deep .nil),Z,_,Z,?_⟩;refine⟨_,Z,p,_,_,_,Z,Z,hS,Z,_,Z,c.1,n,Z,g1,_,Z,?_⟩;exact⟨_,Z,p,_,_,_,Z,Z,hS,Z,y,c.2,Z,ry,g2.red,g3,k⟩
theorem Jb(T:de K mg t):bi P w K mg base cT 5 t.a_Q29 t.d_Q29 ["thing","count"] (o7 K):=by
 refine T.F_Q29.ok G4 χ ψ
 ·obtain⟨_,_,_,rfl,_⟩:=h;rfl
 obtain⟨v,n,q,rfl,hv,l10,g,k⟩:=h;refine cJ.ok (ap (aC (eQ (aH d8 (by rfl) T.z_isinstance Tb (af (qv 0) (af (eW (v:=V.ty "tuple") Z T.z_tuple Sy Z) ai ag) ag)) (fm (aH (l4 Z) (by rfl) T.z_all boot_all (af (bP (N':=["piece","count"]) (src:=[none,some 1]) Z (by exact(dm (qv 0))) (λ_ _ _ _ _=>(by exact(by exact ay (i:=0) (by show Ru (["piece","count"]:List Rr);decide +kernel) ν θ))) (λ_ _ _ _ _=>cG) (λ_ _ _ _ _=>(by exact(by exact(dQ (IS T) (by exact hr.mono δ) ν T.m_Q50 T.F_Q50.kp T.b_Q50 (by exact .nil) (by exact me) (af (by exact(qv 0)) (af (by exact(qv 1)) ai ag) ag))))) (by exact⟨Z,Z,Z,Z,trivial⟩) Z (by decide +kernel) Z (by decide +kernel) (by exact bj Z ⟨Z,trivial⟩)) ai cU)))))) ?_;nofun
 obtain⟨p,xs,rfl,hS,al⟩:=id hv;have len:=al.len;refine⟨_,Z,_,_,_,_,Z,hv.deep,Z,_,Z,?_⟩;refine⟨_,Z,p,Z,⟨_,hS⟩,λD hDn=>cw (wo hS) (λ_=>true) (λ_=>V.bl true) hDn ω (λi x H' hi s' hx R E kR kE=>?_) λH1 s1 h1=>?_⟩
 ·obtain⟨c,hc,pv⟩:=al.at hx;exact⟨gf.set Z,_,Z,_,Z,x,n,c,Z,pv.mono (aI.same s'),g c (QC hc),kR Z _ (aL.refl _)⟩
 rw[Dq] at h1;refine⟨D,_,Z,aZ.of h1,?_⟩;rw[wH];exact k _ s1
theorem Lr(T:de K mg t):bi P w K mg base cT 6 t.a_Q7 t.d_Q7 ["thing","count"] (kA K):=by
 refine T.F_Q7.ok KU χ ψ
 ·obtain⟨_,_,_,rfl,_⟩:=h;rfl
 obtain⟨v,n,pl,rfl,⟨p,xs,rfl,hS,al⟩,l24,g,k⟩:=h;refine cJ.ok (ap (aC (eQ (bE (lR T) hr T.m_Q22 T.F_Q22.kp T.b_Q22 (af (qv 0) (af (cW (v:=.int (24)) Z T.m_TURNS ⟨_,Z⟩) ai ag) ag)) (fm (aH (l4 Z) (by rfl) T.z_all boot_all (af (bP (N':=["pieces","count"]) (src:=[none,some 1]) Z (by exact(dm (qv 0))) (λ_ _ _ _ _=>(by exact(by exact ay (i:=0) (by show Ru (["pieces","count"]:List Rr);decide +kernel) ν θ))) (λ_ _ _ _ _=>cG) (λ_ _ _ _ _=>(by exact(by exact(dQ (Jb T) (by exact hr.mono δ) ν T.m_Q29 T.F_Q29.kp T.b_Q29 (by exact .nil) (by exact me) (af (by exact(qv 0)) (af (by exact(qv 1)) ai ag) ag))))) (by exact⟨Z,Z,Z,Z,trivial⟩) Z (by decide +kernel) Z (by decide +kernel) (by exact bj Z ⟨Z,trivial⟩)) ai cU)))))) ?_;nofun
 have len:=al.len;refine⟨_,Z,p,_,_,24,Z,hS,al.deep λ_ _ z=>z.deep,ω,_,Z,?_⟩;refine⟨_,Z,p,Z,⟨_,hS⟩,λD hDn=>dE (K:=K) (a:=p) (xs:=xs) (ds:=pl) (P:=λ_ v b=>v=V.bl b) (f:=λ_=>true) (λ_ _ _ _ _ z=>z) hDn hS len ω (λi x q H' hx hd s' R E kR=>?_) λH1 ys s1 h1 al1=>?_⟩
 ·obtain⟨q',hq,tv⟩:=al.at hx;rw[hd] at hq
  cases hq
  obtain⟨g1,g2⟩:=g q (QC hd);exact⟨gf.set Z,_,Z,_,Z,x,n,q,Z,tv.mono (aI.same s'),g1,g2,λH'' s''=>kR _ _ s'' Z⟩
 have ey:∀(us:List V) (bs:List Bool),Als (λv b=>v=V.bl b) us bs->us=bs.map V.bl:=λus bs h=>by
  induction h with
  |nil=>rfl
  |cons e _ ih=>rw[RC,e,ih]
 rw[ey _ _ al1] at h1;refine⟨D,_,Z,aZ.of h1,?_⟩;rw[show(pl.map λ_=>true).all id=true from Sk.mpr λb hb=>by obtain⟨_,_,rfl⟩:=QU.mp hb;rfl];exact k _ s1
theorem Jj(T:de K mg t):bi P w K mg base cT 2 t.a_Q19 t.d_Q19 ["works","turn","pieces"] (mQ K):=by
 refine T.F_Q19.ok As χ ψ
 ·obtain⟨_,_,_,_,_,rfl,_⟩:=h;rfl
 obtain⟨v,x,t₁,ws,q,rfl,hw,⟨p,xs,rfl,hS,al⟩,l10,g,wn,nd,k⟩:=h;refine cJ.ok (ah (fH (i:=3) (N':=["piece"]) (src:=[none]) As.nd Z θ Z (by exact(dm (qv 2))) (λ_ _ _ _ _=>(by exact(by exact ay (i:=0) (by show Ru (["piece"]:List Rr);decide +kernel) ν θ))) (λ_ _ _ _ _=>cG) (λ_ _ _ _ _=>(by exact(by exact(bH (bB (K:=K) ν) (by exact(qv 0)) aj (by exact λ_ _=>Z))))) (by exact trivial) Z (by decide +kernel) Z (by decide +kernel) (by exact bj Z trivial)) (ah (bA (aT kK (aH zb (by rfl) T.z_len R4 (af (bT (yZ Z) (by rfl) T.z_set zh (af (qv 3) ai ag)) ai aD)) (aH aN (by rfl) T.z_len R4 (af (qv 3) ai ag)) (aV _)) (ap (aC cP)) aQ) (ap (aC (aH (l4 Z) (by rfl) T.z_all boot_all (af (bP (N':=["number","turn","works"]) (src:=[none,some 1,some 0]) Z (by exact(di (qv 3))) (λ_ _ _ _ _=>(by exact(by exact ay (i:=0) (by show Ru (["number","turn","works"]:List Rr);decide +kernel) ν θ))) (λ_ _ _ _ _=>cG) (λ_ _ _ _ _=>(by exact(by exact(dQ (vM T) (by exact hr.mono δ) ν T.m_Q31 T.F_Q31.kp T.b_Q31 (by exact .nil) (by exact me) (af (by exact(bH (bB (K:=K) ν) (by exact(qv 2)) (by exact(qv 0)) (by exact λ_ _=>Z))) (af (by exact(qv 1)) ai ag) aM))))) (by exact⟨Z,Z,Z,Z,⟨Z,Z,Z,Z,trivial⟩⟩) Z (by decide +kernel) Z (by decide +kernel) (by exact bj Z ⟨Z,⟨Z,trivial⟩⟩)) ai cU)))))) ?_
 nofun
 have len:=al.len;refine⟨_,Z,p,Z,⟨_,hS⟩,λD hDn=>dE (K:=K) (a:=p) (xs:=xs) (ds:=q) (P:=λ_ v (k:Nat)=>v=V.int (k:Nat)) (f:=λc=>c.1) (λ_ _ _ _ _ z=>z) hDn hS al.len ω (λi x c H' hx hc s' R E kR=>?_) λH1 ys s1 h1 al1=>?_⟩
 ·obtain⟨c',hc',pv⟩:=al.at hx;rw[hc] at hc'
  cases hc'
  obtain⟨pc,y,rfl,hSc,_⟩:=pv.mono (aI.same s');exact⟨gf.set Z,_,Z,pc,_,_,_,Z,Z,hSc,Z,kR _ _ (aL.refl _) Z⟩
 rw[Fc al1] at h1;obtain⟨ns,en⟩:∃ns:List Int,ns=(q.map λc=>c.1).map λi:Nat=>(i:Int):=⟨_,Z⟩
 have h1':H1 D=some (.lst (ns.map V.int)):=by rw[h1,en,S0,S0,S0];rfl
 have ln:ns.length=q.length:=by rw[en,Qz,Qz]
 have nn:ns.Nodup:=by rw[en];exact FA nd
 refine⟨_,Z,D,ns,Z,aZ.of h1',ω,λy hy=>?_⟩;have s2:=au hy (.set (λk=>(cX ns).any (·==k)) (cX ns).length);refine⟨y,_,_,Z,ao,?_⟩;refine⟨_,Z,D,_,Z,.inl (aZ.of (s2 _ _ h1')),_,_,Z,Z,_,Z,?_⟩;rw[Qz];have s12:=s1.trans s2;refine dA (by intro z;exact(vD ns).mp ω nn) ?_;have hlD:=s2 _ _ h1';generalize upd H1 y (.set (λk=>(cX ns).any (·==k)) (cX ns).length)=H2 at s12 hlD ⊢;obtain⟨pw,xw,rfl,hSw,alw⟩:=hw.mono (aI.same s12);have lw:=alw.len;refine⟨_,Z,D,Z,⟨_,aZ.of hlD⟩,λD2 hD2=>cw (fF (aZ.of hlD)) (λ_=>true) (λ_=>V.bl true) hD2 (by rw[Qz];omega) (λi x H' hi s' hx R E kR kE=>?_) λH3 s3 h3=>?_⟩
 ·rw[Qz] at hi;obtain⟨c,hc⟩:∃c,q[i]?=some c:=⟨_,Qw ω⟩;have mc:=QC hc;have hk:ns[i]?=some ((c.1:Nat):Int):=by rw[en,QJ,QJ,hc];rfl
  rw[QJ,hk] at hx
  cases hx
  have gc:=(g c mc).1;obtain⟨xv,hxv⟩:∃x,xw[c.1]?=some x:=⟨_,Qw ω⟩;obtain⟨w2,hw2,wv⟩:=alw.at hxv;have iw:=wn c mc;rw[aB b9 hw2] at iw;refine⟨gf.set Z,_,Z,_,Z,pw,_,_,_,Z,Z,aI.same (K:=K) s' _ _ hSw,bh hxv,_,Z,xv,w2,t₁,Z,wv.mono (aI.same s'),?_⟩;rw[iw];exact kR Z _ (aL.refl _)
 rw[Dq] at h3;refine⟨D2,_,Z,aZ.of h3,?_⟩;rw[wH];exact k _ (s12.trans s3)
theorem Lw(T:de K mg t):bi P w K mg base cT 1 t.a_Q4 t.d_Q4 ["plan"] (jT K):=by
 refine T.F_Q4.ok Ap χ ψ
 ·obtain⟨_,_,rfl,_⟩:=h;rfl
 obtain⟨v,pl,rfl,⟨p,xs,rfl,hS,al⟩,p24,few,k⟩:=h;refine cJ.ok (ah (bL 1 Ap.nd (cC ai)) (ah (bR Q8 Z (dm (qv 0)) (ay (i:=2) Ap.nd Z θ) (ap (cH (gl Rv Xa Xb E4 (qv 1) (af (qv 2) ai ag))))) (ap (aC (qv 1))))) ?_
 nofun
 have len:=al.len;refine⟨(by show 0≤sizeLine;exact Re _),λl hl=>?_⟩;have nl:∀b o,H b=some o->b≠l:=λb o q=>aX q hl
 let Iv1:Nat->L2.St->Hp->Prop:=λi σ H'=>∃(x2:Option V) (ys:List V),σ=[some (.ref p),some (.ref l),x2]/\aL H H'/\H' l=some (.lst ys)/\Als (zq K H') ys (pl.take i).flatten
 refine⟨_,Z,p,Z,⟨_,aI.same (au hl _) _ _ hS⟩,gr (K:=K) (a:=p) (xs:=xs) Iv1 ⟨none,[],Z,au hl _,ao,.nil⟩ (λi σ H1 _ ⟨_,_,_,sm,_⟩=>aI.same sm _ _ hS) ?_ ?_⟩
 ·rintro i x σ H1 hx ⟨x2,ys,rfl,sm,hl1,al1⟩;obtain⟨q,ht,tv⟩:=al.at hx;obtain⟨pt,zs,rfl,hSt,alt⟩:=tv.mono (aI.same sm);have lt:zs.length≤10:=by rw[alt.len];exact few q (QC ht)
  have ly:ys.length≤240:=by
   rw[al1.len];have:=xg (pl:=pl.take i) λq hq=>few q (RZ hq)
   have:(pl.take i).length≤pl.length:=by rw[Rs];omega
   omega
  refine⟨_,Z,.inl ⟨Z,_,aZ.of hl1⟩,_,Z,l,pt,ys,zs,Z,Z,hl1,hSt,ω,?_⟩;have tm:=aI.up (K:=K) hl1 (ys++zs);refine⟨_,ys++zs,Z,λb o q=>?_,ao,?_⟩
  ·rw[aJ (nl b o q)];exact sm _ _ q
  ·rw[Rn,ht,show(some q).toList=[q] from Z,Vj,WU,List.flatten_nil,R6];exact My.Als.app (al1.mono λ_ _ z=>z.mono tm) (alt.mono λ_ _ z=>z.mono tm)
 ·rintro σ H1 ⟨x2,ys,rfl,sm,hl1,al1⟩;rw[len,RB] at al1;exact⟨_,Z,k l ys H1 sm hl1 al1⟩
theorem Ji(T:de K mg t):bi P w K mg base cT 1 t.a_Q20 t.d_Q20 ["row","lean"] (mP K):=by
 refine T.F_Q20.ok vq χ ψ
 ·obtain⟨_,_,_,_,_,_,rfl,_⟩:=h;rfl
 obtain⟨l,xs,row,v,a,b,rfl,hl,al,l400,⟨pe,rfl,hSe⟩,n1,n2,od,k⟩:=h;refine cJ.ok (ah (fH (i:=2) (N':=["place","piece","lean"]) (src:=[none,none,some 1]) vq.nd Z θ Z (by exact(kF Z T.z_enumerate (af (qv 0) ai ag))) (λ_ _ _ _ _=>(by exact(by exact ic (K:=K) (n:=2) ν ν (by exact aR (by exact ay (i:=0) (by show Ru (["place","piece","lean"]:List Rr);decide +kernel) ν θ) (by exact aR (by exact ay (i:=1) (by show Ru (["place","piece","lean"]:List Rr);decide +kernel) ν θ) ca))))) (λ_ _ _ _ _=>(dD (aT eZ (by exact(bH (bB (K:=K) ν) (by exact(qv 1)) aj (by exact λ_ _=>Z))) (by exact(bH (bB (K:=K) ν) (by exact(qv 2)) aj (by exact λ_ _=>Z))) (aV _)))) (λ_ _ _ _ _=>(by exact(by exact(qv 0)))) (by exact⟨Z,Z,Z,Z,trivial⟩) Z (by decide +kernel) Z (by decide +kernel) (by exact bj Z ⟨Z,trivial⟩)) (ah (fH (i:=3) (N':=["place","piece","lean"]) (src:=[none,none,some 1]) vq.nd Z θ Z (by exact(kF Z T.z_enumerate (af (qv 0) ai ag))) (λ_ _ _ _ _=>(by exact(by exact ic (K:=K) (n:=2) ν ν (by exact aR (by exact ay (i:=0) (by show Ru (["place","piece","lean"]:List Rr);decide +kernel) ν θ) (by exact aR (by exact ay (i:=1) (by show Ru (["place","piece","lean"]:List Rr);decide +kernel) ν θ) ca))))) (λ_ _ _ _ _=>(dD (aT eZ (by exact(bH (bB (K:=K) ν) (by exact(qv 1)) aj (by exact λ_ _=>Z))) (by exact(bH (bB (K:=K) ν) (by exact(qv 2)) aj (by exact λ_ _=>Z))) (aV _)))) (λ_ _ _ _ _=>(by exact(by exact(qv 0)))) (by exact⟨Z,Z,Z,Z,trivial⟩) Z (by decide +kernel) Z (by decide +kernel) (by exact bj Z ⟨Z,trivial⟩)) (ap (aC (dP kK (bM bv (qv 2) (kG hX aj)) (bM bv (qv 3) aj) (aV _)))))) ?_
 nofun
 have len:=al.len;refine⟨_,Z,l,Z,⟨_,aZ.of hl⟩,λD1 hDD1=>cw (qC (aZ.of hl)) (λj=>decide ((row.getD j EM).1=a)) (λj=>V.int (j:Nat)) hDD1 ω (λi x H' hi s' hx R E kR kE=>?_) λH1 s1 h1=>?_⟩
 ·obtain⟨pp,y,rfl,hy,hpp⟩:=hx;obtain⟨c,hc,pv⟩:=al.at hy;rw[aB EM hc] at kR kE;obtain⟨pc,z,rfl,hSc,_⟩:=pv.mono (aI.same s');refine⟨pp,_,Z,bz.of hpp,Z,_,_,Z,_,_,Z,Z,gf.set' (gf.set Z) Z,?_⟩;refine⟨_,Z,pc,_,_,_,Z,Z,hSc,Z,_,Z,pe,_,_,_,Z,Z,aI.same (K:=K) s' _ _ hSe,Z,Z,_,Z,?_⟩;by_cases ce:c.1=a
  ·refine dz (by rw[ce]) ⟨_,Z,kR (decide_eq_true ce) _ (aL.refl _)⟩
  ·exact dA (λz=>ce (by injection z with z;omega)) (kE (decide_eq_false ce) _ (aL.refl _))
 rw[len] at h1;have h1':H1 D1=some (.lst ((jx row a).map λj=>V.int (j:Nat))):=h1;have hl1:=s1 _ _ hl;have al1:=al.mono λ_ _ z=>z.mono (aI.same s1)
 have hSe1:=aI.same (K:=K) s1 _ _ hSe;refine⟨_,Z,l,Z,⟨_,aZ.of hl1⟩,λD2 hDD2=>cw (qC (aZ.of hl1)) (λj=>decide ((row.getD j EM).1=b)) (λj=>V.int (j:Nat)) hDD2 ω (λi x H' hi s' hx R E kR kE=>?_) λH2 s2 h2=>?_⟩
 ·obtain⟨pp,y,rfl,hy,hpp⟩:=hx;obtain⟨c,hc,pv⟩:=al1.at hy;rw[aB EM hc] at kR kE;obtain⟨pc,z,rfl,hSc,_⟩:=pv.mono (aI.same s');refine⟨pp,_,Z,bz.of hpp,Z,_,_,Z,_,_,Z,Z,gf.set' (gf.set Z) Z,?_⟩;refine⟨_,Z,pc,_,_,_,Z,Z,hSc,Z,_,Z,pe,_,_,_,Z,Z,aI.same (K:=K) s' _ _ hSe1,Z,Z,_,Z,?_⟩;by_cases ce:c.1=b
  ·refine dz (by rw[ce]) ⟨_,Z,kR (decide_eq_true ce) _ (aL.refl _)⟩
  ·exact dA (λz=>ce (by injection z with z;omega)) (kE (decide_eq_false ce) _ (aL.refl _))
 rw[len] at h2;have h2':H2 D2=some (.lst ((jx row b).map λj=>V.int (j:Nat))):=h2;have h12:=s2 _ _ h1';have p1:=SL.mpr n1;have p2:=SL.mpr n2;obtain⟨x1,e1⟩:∃x,(jx row a)[(jx row a).length-1]?=some x:=⟨_,Qw ω⟩;obtain⟨x2,e2⟩:∃x,(jx row b)[0]?=some x:=⟨_,Qw p2⟩;have at1:sj ((jx row a).map λj=>V.int (j:Nat)) (-1)=some (.int (x1:Nat)):=by rw[mB (by rw[Qz];exact p1),Qz,QJ,e1];rfl
 have at2:sj ((jx row b).map λj=>V.int (j:Nat)) 0=some (.int (x2:Nat)):=bh (j:=0) (by rw[QJ,e2];rfl);have lt:=od x1 (QC e1) x2 (QC e2);refine⟨_,Z,_,Z,D1,_,_,_,Z,Z,aZ.of h12,at1,_,Z,D2,_,_,_,Z,Z,aZ.of h2',at2,_,_,Z,Z,?_⟩;dsimp only;rw[show decide ((x1:Int)<(x2:Int))=true from decide_eq_true ω];exact k _ (s1.trans s2)
theorem Cv(T:de K mg t):bi P w K mg base cT 7 t.a_Q30 t.d_Q30 ["sheet","thing"] (oY K):=by
 refine T.F_Q30.ok ia χ ψ
 ·obtain⟨_,_,_,_,_,rfl,_⟩:=h;rfl
 obtain⟨v,x,ws,es,pl,rfl,hv,w10,e40,pv,g,k⟩:=h;refine cJ.ok (ah (bL 2 ia.nd (bM az (qv 0) aj)) (ah (bA (cf (bC (bE (Lr T) hr T.m_Q7 T.F_Q7.kp T.b_Q7 (af (qv 1) (af (aH aN (by rfl) T.z_len R4 (af (qv 2) ai ag)) ai aD) ag)))) (ap dH) aQ) (ah (bR Q8 Z (eV Z T.z_enumerate (af (qv 1) ai ag)) (eP Z (aR (ay (i:=3) ia.nd Z θ) (aR (ay (i:=4) ia.nd Z θ) ca))) (ap (bA (cf (bC (bE (Jj T) hr T.m_Q19 T.F_Q19.kp T.b_Q19 (af (qv 2) (af (qv 3) (af (qv 4) ai ag) ag) ag)))) (ap dH) aQ))) (ah (bL 5 ia.nd (bE (Lw T) hr T.m_Q4 T.F_Q4.kp T.b_Q4 (af (qv 1) ai ag))) (ah (bR Q8 Z (eV Z T.z_enumerate (af (qv 2) ai ag)) (eP Z (aR (ay (i:=6) ia.nd Z θ) (aR (ay (i:=7) ia.nd Z θ) ca))) (ap (bA (aT (kf hr) (bE (ou T) hr T.m_Q74 T.F_Q74.kp T.b_Q74 (af (bP (N':=["piece","number"]) (src:=[none,some 6]) Z (by exact(di (qv 5))) (λ_ _ _ _ _=>(by exact(by exact ay (i:=0) (by show Ru (["piece","number"]:List Rr);decide +kernel) ν θ))) (λ_ _ _ _ _=>(dD (aT eZ (by exact(bH (bB (K:=K) ν) (by exact(qv 0)) aj (by exact λ_ _=>Z))) (by exact(qv 1)) (aV _)))) (λ_ _ _ _ _=>(by exact(by exact(bH (bB (K:=K) ν) (by exact(qv 0)) aj (by exact λ_ _=>Z))))) (by exact⟨Z,Z,Z,Z,trivial⟩) Z (by decide +kernel) Z (by decide +kernel) (by exact bj Z ⟨Z,trivial⟩)) ai cU)) (bH az (qv 7) aj (λ_ _=>Z)) (aV _)) (ap dH) aQ))) (ah (bR Q8 Z (eV Z T.z_enumerate (af (bM az (qv 0) aj) ai aM)) (eP Z (aR (ay (i:=6) ia.nd Z θ) (aR (ay (i:=8) ia.nd Z θ) ca))) (ap (bA (cf (bC (bE (Ji T) hr T.m_Q20 T.F_Q20.kp T.b_Q20 (af (qv 5) (af (qv 8) ai ag) ag)))) (ap dH) aQ))) (ap (aC cP)))))))) ?_
 nofun
 obtain⟨ps,a,b,rfl,hS,hw,hb⟩:=id hv;obtain⟨pw,xw,rfl,hSw,alw⟩:=id hw;obtain⟨pb,xb,rfl,hSb,alb⟩:=id hb;have lw:=alw.len;have lb:=alb.len;have l24:=g.len;refine⟨_,Z,ps,_,_,_,Z,Z,hS,Z,?_⟩;refine⟨_,Z,_,Z,pw,xw,Z,.inr hSw,x,ws.length,pl,by rw[lw];rfl,pv,l24,λq hq=>⟨g.few q hq,g.pc q hq⟩,λH1 s1=>⟨_,Z,bW ?_⟩⟩;obtain⟨pp,xp,rfl,hSp,alp⟩:=pv.mono (aI.same s1);have pv1:=pv.mono (aI.same s1);have lp:=alp.len;have t1:=aI.same (K:=K) s1;let Iv1:Nat->L2.St->Hp->Prop:=λi σ H'=>∃(x3 x4:Option V),σ=[some (.ref ps),some (.ref pp),some (.ref pw),x3,x4,none,none,none,none]/\aL H1 H'
 refine⟨_,Z,pp,Z,⟨_,hSp⟩,fZ (K:=K) (a:=pp) (xs:=xp) Iv1 ⟨none,none,Z,aL.refl _⟩ (λi σ H' _ ⟨_,_,_,sm⟩=>aI.same sm _ _ hSp) ?_ ?_⟩
 ·rintro i x pt σ H2 hx' ⟨x3,x4,rfl,sm⟩ hpt;obtain⟨q,ht,tv⟩:=alp.at hx';have mt:=QC ht;have e1:=au hpt (.tup [.int i,x]);refine⟨pt,_,Z,bz.of ao,Z,_,_,Z,_,_,Z,Z,?_⟩;have sm1:=sm.trans e1;clear e1 hpt;generalize upd H2 pt (.tup [.int i,x])=H3 at sm1 ⊢;refine⟨_,Z,_,Z,_,Z,.ref pw,x,i,ws,q,Z,hw.mono (aI.same (s1.trans sm1)),tv.mono (aI.same sm1),g.few q mt,g.pc q mt,g.win i q ht,g.nd q mt,λH4 s4=>⟨_,Z,bW ⟨_,_,Z,sm1.trans s4⟩⟩⟩
 rintro σ H2 ⟨x3,x4,rfl,sm⟩;refine⟨_,Z,.ref pp,pl,Z,pv1.mono (aI.same sm),l24,g.few,λl xs H3 s3 hl3 al3=>?_⟩;have s13:=(s1.trans sm).trans s3;have t13:=aI.same (K:=K) s13;have fl:=xg g.few;let Iv2:Nat->L2.St->Hp->Prop:=λi σ H'=>∃(x6 x7:Option V),σ=[some (.ref ps),some (.ref pp),some (.ref pw),x3,x4,some (.ref l),x6,x7,none]/\aL H3 H'
 refine⟨_,Z,pw,Z,⟨_,t13 _ _ hSw⟩,fZ (K:=K) (a:=pw) (xs:=xw) Iv2 ⟨none,none,Z,aL.refl _⟩ (λi σ H' _ ⟨_,_,_,sm⟩=>aI.same sm _ _ (t13 _ _ hSw)) ?_ ?_⟩
 ·rintro i x pt σ H4 hx' ⟨x6,x7,rfl,sm4⟩ hpt;obtain⟨w,hw',wv⟩:=alw.at hx';have il:=(QM.mp hw').1;have e1:=au hpt (.tup [.int i,x]);refine⟨pt,_,Z,bz.of ao,Z,_,_,Z,_,_,Z,Z,?_⟩;have sm1:=sm4.trans e1;clear e1 hpt sm4;generalize upd H4 pt (.tup [.int i,x])=H5 at sm1 ⊢;have hl5:=sm1 _ _ hl3;have al5:=al3.mono λ_ _ z=>z.mono (aI.same sm1)
  refine⟨_,Z,l,Z,⟨_,aZ.of hl5⟩,λD hD=>Do (K:=K) (a:=l) (xs:=xs) (ds:=pl.flatten) (P:=RV K) (p:=λc=>decide (c.1=i)) (f:=λc=>c.2) (λ_ _ _ _ t z=>z.mono t) hD (aZ.of hl5) al5.len ω (λj y c H' hy hc s' R E kR kE=>?_) λH6 ys s6 h6 al6=>?_⟩
  ·obtain⟨c',hc',pv'⟩:=al5.at hy;rw[hc] at hc'
   cases hc'
   obtain⟨pc,z,rfl,hSc,rz⟩:=pv'.mono (aI.same s');refine⟨gf.set Z,_,Z,pc,_,_,_,Z,Z,hSc,Z,_,Z,Z,_,Z,?_⟩;by_cases ce:c.1=i
   ·exact dz (by rw[ce]) ⟨_,Z,pc,_,_,_,Z,Z,hSc,Z,kR (decide_eq_true ce) _ _ (aL.refl _) rz⟩
   ·exact dA (λz=>ce (by injection z with z;omega)) (kE (decide_eq_false ce) _ (aL.refl _))
  have al6':Als (RV K H6) ys ((pl.flatten.filter λc=>decide (c.1=i)).map λc=>c.2):=al6;refine⟨D,ys,(pl.flatten.filter λc:Pc=>decide (c.1=i)).map (λc:Pc=>c.2),130,31176196503125834160000000000,Z,.inl (aZ.of h6),kQ al6',(λr hr=>?_),δ,δ,(by rw[Qz];exact Rm (g.one i) δ),δ,λw5 H7 s7 rv7=>?_⟩
  ·obtain⟨c,hc,rfl⟩:=QU.mp hr;obtain⟨q,hq,hc'⟩:=Xs.mp (Q3.mp hc).1;have am:=(g.pc q hq c hc').2.1;exact⟨am.wf,am.bq.dvd⟩
  have s17:=(s13.trans sm1).trans (s6.trans s7);obtain⟨pk,xk,rfl,hSk,rk⟩:=wv.mono (aI.same s17);have ea:=g.am i il;rw[aB b9 hw'] at ea;rw[ea] at rv7;refine⟨_,Z,pk,_,_,_,Z,Z,hSk,Z,dR w.2.2,dR w.2.2,rv7.deep,rk.deep,si _,si _,kO _,_,Z,?_⟩;rw[iY];exact bW ⟨_,_,Z,sm1.trans (s6.trans s7)⟩
 rintro σ H4 ⟨x6,x7,rfl,sm4⟩;have s14:=s13.trans sm4;have t14:=aI.same (K:=K) s14;have hl4:=sm4 _ _ hl3;have al4:=al3.mono λ_ _ z=>z.mono (aI.same sm4)
 let Iv3:Nat->L2.St->Hp->Prop:=λi σ H'=>∃(x6 x7 x8:Option V),σ=[some (.ref ps),some (.ref pp),some (.ref pw),x3,x4,some (.ref l),x6,x7,x8]/\aL H4 H'
 refine⟨_,Z,ps,_,_,_,Z,Z,t14 _ _ hS,Z,pb,Z,⟨_,t14 _ _ hSb⟩,fZ (K:=K) (a:=pb) (xs:=xb) Iv3 ⟨_,_,none,Z,aL.refl _⟩ (λi σ H' _ ⟨_,_,_,_,sm⟩=>aI.same sm _ _ (t14 _ _ hSb)) ?_ ?_⟩
 ·rintro i x pt σ H5 hx' ⟨y6,y7,y8,rfl,sm5⟩ hpt;obtain⟨⟨ea,eb⟩,he,ev⟩:=alb.at hx';obtain⟨q1,q2,q3⟩:=g.ln ea eb (QC he);have e1:=au hpt (.tup [.int i,x]);refine⟨pt,_,Z,bz.of ao,Z,_,_,Z,_,_,Z,Z,?_⟩;have sm1:=sm5.trans e1;clear e1 hpt sm5;generalize upd H5 pt (.tup [.int i,x])=H6 at sm1 ⊢;have s16:=s14.trans sm1;exact⟨_,Z,_,Z,l,xs,pl.flatten,x,ea,eb,Z,sm1 _ _ hl4,al4.mono λ_ _ z=>z.mono (aI.same sm1),ω,ev.mono (aI.same s16),g.ne ea q1,g.ne eb q2,q3,λH7 s7=>⟨_,Z,bW ⟨_,_,_,Z,sm1.trans s7⟩⟩⟩
 rintro σ H5 ⟨y6,y7,y8,rfl,sm5⟩;exact k _ (s14.trans sm5)
theorem IZ(T:de K mg t):bi P w K mg base cT 4 t.a_Q34 t.d_Q34 ["plan"] (qL K):=by
 refine T.F_Q34.ok G1 χ ψ
 ·obtain⟨_,_,rfl,_⟩:=h;rfl
 obtain⟨v,pl,rfl,⟨p,xs,rfl,hp,al⟩,l24,ok,k⟩:=h;refine cJ.ok (ap (aC (bT bK (by rfl) T.z_tuple Sy (af (bP (N':=["pieces"]) (src:=[none]) Z (by exact(dm (qv 0))) (λ_ _ _ _ _=>(by exact(by exact ay (i:=0) (by show Ru (["pieces"]:List Rr);decide +kernel) ν θ))) (λ_ _ _ _ _=>cG) (λ_ _ _ _ _=>(by exact(by exact(dQ (ou T) (by exact hr.mono δ) ν T.m_Q74 T.F_Q74.kp T.b_Q74 (by exact .nil) (by exact me) (af (by exact(bP (N':=["piece"]) (src:=[none]) ν (by exact(Eh (K:=K) ν (by exact(qv 0)))) (by exact λ_ _ _ _ _=>(by exact(by exact ay (i:=0) (by show Ru (["piece"]:List Rr);decide +kernel) ν θ))) (by exact λ_ _ _ _ _=>cG) (by exact λ_ _ _ _ _=>(by exact(by exact(bH (bB (K:=K) ν) (by exact(qv 0)) aj (by exact λ_ _=>Z))))) (by exact trivial) ν (by decide +kernel) ν (by decide +kernel) (by exact bj Z trivial))) ai cU))))) (by exact trivial) Z (by decide +kernel) Z (by decide +kernel) (by exact bj Z trivial)) ai cU)))) ?_;nofun
 refine⟨_,Z,p,Z,⟨_,hp⟩,λD hD=>dE (K:=K) (P:=RV K) (ds:=pl) (f:=λq=>fQ (q.map (·.2))) (λ_ _ _ _ t z=>z.mono t) hD hp al.len ω (λi x d H' hx hd sm Rk E kR=>?_) λHA ms sA hmA amA=>?_⟩
 ·obtain⟨d',hd',pq,yq,rfl,hpq,aq⟩:=al.at hx;rw[hd] at hd'
  cases hd'
  have t':=aI.same (K:=K) sm;obtain⟨d10,dok⟩:=ok d (QC hd);refine⟨gf.set Z,_,Z,pq,Z,⟨_,t' _ _ hpq⟩,λD3 hD3=>dE (K:=K) (P:=RV K) (ds:=d) (f:=λc=>c.2) (λ_ _ _ _ t z=>z.mono t) hD3 (t' _ _ hpq) aq.len ω (λj y c H'' hy hc sm2 Rk2 E2 kR2=>?_) λHB qs sB hqB aqB=>?_⟩
  ·obtain⟨c',hc',pc_,rv_,rfl,hpc,rrv⟩:=aq.at hy;rw[hc] at hc'
   cases hc'
   have t'':=t'.trans (aI.same (K:=K) sm2);exact⟨gf.set Z,_,Z,pc_,_,_,_,Z,Z,t'' _ _ hpc,Z,kR2 _ _ (aL.refl _) (rrv.mono t'')⟩
  refine⟨D3,qs,d.map (λc:Pc=>c.2),130,31176196503125834160000000000,Z,.inl (aZ.of hqB),kQ aqB,(λr hr=>?_),δ,δ,(by rw[Qz];omega),δ,λw HE' sE' rw_=>kR w _ (sB.trans sE') rw_⟩;obtain⟨c,hc,rfl⟩:=QU.mp hr;exact⟨(dok c hc).wf,(dok c hc).bq.dvd⟩
 refine⟨D,_,Z,.inl ⟨aZ.of hmA,λl hl=>?_⟩⟩;have sl:=au hl (.tup ms);exact k _ _ (sA.trans sl) ⟨l,ms,Z,bz.of ao,amA.mono λ_ _ z=>z.mono (aI.same sl)⟩
theorem Cp(T:de K mg t):bi P w K mg base cT 6 t.a_Q51 t.d_Q51 ["rule","speeds"] (tD K):=by
 refine T.F_Q51.ok GX χ ψ
 ·obtain⟨_,_,_,_,rfl,_⟩:=h;rfl
 obtain⟨v,w,ss,kk,rfl,hv,hk,⟨p,xs,rfl,hp,al⟩,l24,oks,k⟩:=h;refine cJ.ok (ap (aC (bE (ou T) hr T.m_Q74 T.F_Q74.kp T.b_Q74 (af (bP (N':=["speed","rule"]) (src:=[none,some 0]) Z (by exact(dm (qv 1))) (λ_ _ _ _ _=>(by exact(by exact ay (i:=0) (by show Ru (["speed","rule"]:List Rr);decide +kernel) ν θ))) (λ_ _ _ _ _=>cG) (λ_ _ _ _ _=>(by exact(by exact(dQ (vJ T) (by exact hr.mono δ) ν T.m_Q49 T.F_Q49.kp T.b_Q49 (by exact .nil) (by exact me) (af (by exact(qv 1)) (af (by exact(qv 0)) ai ag) ag))))) (by exact⟨Z,Z,Z,Z,trivial⟩) Z (by decide +kernel) Z (by decide +kernel) (by exact bj Z ⟨Z,trivial⟩)) ai cU)))) ?_;nofun
 refine⟨_,Z,p,Z,⟨_,hp⟩,λD hD=>dE (K:=K) (P:=RV K) (ds:=ss) (f:=λs=>dX s kk) (λ_ _ _ _ t z=>z.mono t) hD hp al.len ω (λi x d H' hx hd sm Rk E kR=>?_) λHA ms sA hmA amA=>?_⟩
 ·obtain⟨d',hd',rvd⟩:=al.at hx;rw[hd] at hd'
  cases hd'
  have t':=aI.same (K:=K) sm;exact⟨gf.set Z,_,Z,_,Z,v,x,d,kk,Z,hv.mono t',hk,rvd.mono t',(oks d (QC hd)).wf.mono δ,λu H3 s3 r3=>kR u H3 s3 r3⟩
 refine⟨D,ms,ss.map (λs=>dX s kk),530,31176196503125834160000000000^4,Z,.inl (aZ.of hmA),kQ amA,(λr hr=>?_),δ,δ,(by rw[Qz];omega),δ,λv' H' s' rv=>k v' H' (sA.trans s') rv⟩;obtain⟨s,hs,rfl⟩:=QU.mp hr;have b:=tX (oks s hs) hk;exact⟨ud (b.mono (Sz _) δ),b.dvd⟩
theorem Jm(T:de K mg t):bi P w K mg base cT 6 t.a_Q13 t.d_Q13 ["works","rule","paper"] (lH K):=by
 refine T.F_Q13.ok n5 χ ψ
 ·obtain⟨_,_,_,_,_,_,rfl,_⟩:=h;rfl
 obtain⟨v,w,x,ws,kk,lys,rfl,wv,w10,ok,hv,hk,lv,lok,l24,k⟩:=h;refine cJ.ok (ah (bL 3 n5.nd (cW (v:=.int (24)) Z T.m_TURNS ⟨_,Z⟩)) (ah (bL 4 n5.nd (cC ai)) (ah (bR Q8 Z (dm (qv 2)) (ay (i:=5) n5.nd Z θ) (ah (BJ (i:=3) n5.nd Z θ (aH aN (by rfl) T.z_len R4 (af (bM az (qv 5) aj) ai aM)) CT) (ap (cH (gl Rv RS RT cQ (qv 4) (af (bE (rK T) hr T.m_Q73 T.F_Q73.kp T.b_Q73 (af (bD (af (aH aN (by rfl) T.z_len R4 (af (bM az (qv 5) aj) ai aM)) (af aj ai aG) aD)) (af (bE (vJ T) hr T.m_Q49 T.F_Q49.kp T.b_Q49 (af (qv 1) (af (bE (Cz T) hr T.m_Q10 T.F_Q10.kp T.b_Q10 (af (qv 0) (af (qv 5) ai ag) ag)) ai aD) ag)) ai aD) cb)) ai aD)))))) (ah (cH (gl Rv RS RT cQ (qv 4) (af (bE (rK T) hr T.m_Q73 T.F_Q73.kp T.b_Q73 (af (bD (af (qv 3) (af aj ai aG) ag)) (af (bE (vJ T) hr T.m_Q49 T.F_Q49.kp T.b_Q49 (af (qv 1) (af (cW (v:=.ref t.c_NOUGHT) Z T.m_NOUGHT Z) ai ag) ag)) ai aD) cb)) ai aD))) (ap (aC (bE (ou T) hr T.m_Q74 T.F_Q74.kp T.b_Q74 (af (qv 4) ai ag)))))))) ?_
 nofun
 obtain⟨pq,xs,rfl,hq,al⟩:=lv;have lxs:=al.len;refine⟨(by show 0≤sizeLine;exact Re _),λl0 h0=>?_⟩;have s0:=au h0 (.lst []);have hl0:upd H l0 (.lst []) l0=some (.lst []):=ao;generalize upd H l0 (.lst [])=H0 at s0 hl0 ⊢;have lsm:∀i,i<lys.length->dY (lys.take (i+1))=dY (lys.take i)+(lys.getD i ([],[])).1.length/\dY (lys.take (i+1))≤dY lys:=λi hi=>by
  have e:lys=lys.take (i+1)++lys.drop (i+1):=(List.take_append_drop _ _).symm;refine ⟨?_,by have q:=congrArg dY e;rw[show dY (lys.take (i+1)++lys.drop (i+1))=dY (lys.take (i+1))+dY (lys.drop (i+1)) from by unfold dY;rw[RW,Z2]] at q;omega⟩
  rw[Rn,Qw hi];show dY (_++[_])=_;rw[yA,QQ,Qw hi];rfl
 have few:lys.length≤24:=by
  have:∀l:List Ly,(∀y∈l,0<y.1.length)->l.length≤dY l:=λl=>by
   induction l with
   |nil=>intro _;exact QB _
   |cons y l ih=>intro h;have:=ih λz hz=>h z (QP _ hz);have:=h y QL;show l.length+1≤y.1.length+dY l;omega
  exact Rm (this lys λy hy=>(lok y hy).pos) l24
 let Iv1:Nat->L2.St->Hp->Prop:=λi σ H'=>∃(x5:Option V) (ys:List V),σ=[some v,some w,some (.ref pq),some (.int ((24-dY (lys.take i):Nat):Int)),some (.ref l0),x5]/\aL H H'/\H' l0=some (.lst ys)/\Als (RV K H') ys ((lys.take i).map (Ek ws kk))
 refine⟨_,Z,pq,Z,⟨_,aI.same (K:=K) s0 _ _ hq⟩,gr (K:=K) (a:=pq) (xs:=xs) Iv1 ⟨none,[],Z,s0,hl0,.nil⟩ (λi σ H1 _ ⟨_,_,_,sm,_⟩=>aI.same sm _ _ hq) ?_ ?_⟩
 ·rintro i u σ H1 hu ⟨x5,ys,rfl,sm,hl,alP⟩;obtain⟨y,hy,ly⟩:=al.at hu;have hil:=(QM.mp hy).1;have lo:=lok y (QC hy);have t1:=aI.same (K:=K) sm;obtain⟨pL,a,b,rfl,hpL,ha,hb⟩:=id (ly.mono t1);have na:(bF y.1).length=y.1.length:=Qz _;have tk:lys.take (i+1)=lys.take i++[y]:=by rw[Rn,hy];rfl
  have ls:=lsm i hil;rw[aB _ hy] at ls;have rs:((24-dY (lys.take i):Nat):Int)-(y.1.length:Int)=((24-dY (lys.take (i+1)):Nat):Int):=ω
  refine⟨_,Z,_,Z,pL,_,_,_,Z,Z,hpL,Z,a,_,Z,.inr ha,_,_,Z,Z,?_⟩;rw[na];dsimp only;rw[rs];refine⟨_,Z,.inl ⟨Z,_,aZ.of hl⟩,_,Z,pL,_,_,_,Z,Z,hpL,Z,a,_,Z,.inr ha,ma,λp2 g2=>?_⟩;rw[na];have s2:=au g2 (.tup [.int (y.1.length:Int),.int 1]);have r2:RV K (upd H1 p2 (.tup [.int (y.1.length:Int),.int 1])) (.ref p2) ((y.1.length:Int),1):=RV.of ao;generalize upd H1 p2 (.tup [.int (y.1.length:Int),.int 1])=H2 at s2 r2 ⊢;have t12:=t1.trans (aI.same (K:=K) s2);have rt:=(qJ ok w10 lo).am δ;refine⟨_,Z,_,Z,_,Z,v,.ref pL,ws,y,Z,wv.mono t12,ω,ok,ly.mono t12,lo,λu3 H3 s3 r3=>?_⟩;have s13:=s2.trans s3;have t13:=t1.trans (aI.same (K:=K) s13);refine⟨w,u3,cc ws y,kk,Z,hv.mono t13,hk,r3,rt.wf.mono δ,λu4 H4 s4 r4=>?_⟩;have few2:=lo.few;refine⟨.ref p2,u4,((y.1.length:Int),1),dX (cc ws y) kk,530,530,Z,r2.mono (aI.same (s3.trans s4)),r4,?_,ud ((tX rt hk).mono (Sz _) δ),δ,λp5 g5=>?_⟩
  ·exact⟨by show(0:Int)<1;decide,by show((y.1.length:Int)).natAbs<2^530;exact RN (show _≤24 by omega) δ,by show(1:Int).natAbs<2^530;decide,by show Q1 (y.1.length:Int) 1=1;simp⟩
  have s5:=au g5 (.tup [.int (Ek ws kk y).1,.int (Ek ws kk y).2]);have r5:RV K (upd H4 p5 (.tup [.int (Ek ws kk y).1,.int (Ek ws kk y).2])) (.ref p5) (Ek ws kk y):=RV.of ao;show _;have s15:=(s13.trans s4).trans s5;have lys_:=alP.len;rw[Qz,Rs] at lys_;refine⟨l0,ys,_,Z,Z,s15 _ _ hl,be ω,?_⟩;have tu:=aI.up (K:=K) (s15 _ _ hl) (ys++[.ref p5]);refine⟨_,_,Z,λb_ o_ q_=>?_,ao,?_⟩
  ·rw[aJ (aX q_ h0)];exact s15 _ _ (sm _ _ q_)
  ·rw[tk,RW];exact(alP.mono λ_ _ q=>q.mono ((aI.same s15).trans tu)).snoc (r5.mono tu)
 ·rintro σ H1 ⟨x5,ys,rfl,sm,hl,alP⟩;rw[lxs,RB] at alP;have lys_:=alP.len;rw[Qz] at lys_;have e24:lys.take xs.length=lys:=by rw[lxs,RB]
  have t1:=aI.same (K:=K) sm;refine⟨_,Z,.inl ⟨Z,_,aZ.of hl⟩,_,Z,ma,λp2 g2=>?_⟩;rw[e24];have s2:=au g2 (.tup [.int ((24-dY lys:Nat):Int),.int 1]);have r2:RV K (upd H1 p2 (.tup [.int ((24-dY lys:Nat):Int),.int 1])) (.ref p2) (((24-dY lys:Nat):Int),1):=RV.of ao;generalize upd H1 p2 (.tup [.int ((24-dY lys:Nat):Int),.int 1])=H2 at s2 r2 ⊢;refine⟨_,Z,w,.ref t.c_NOUGHT,(0,1),kk,Z,(hv.mono t1).mono (aI.same s2),hk,⟨_,Z,T.q_NOUGHT _⟩,im.wf.mono δ,λu4 H4 s4 r4=>?_⟩;have s24:=s2.trans s4;refine⟨.ref p2,u4,(((24-dY lys:Nat):Int),1),dX (0,1) kk,530,530,Z,r2.mono (aI.same s4),r4,?_,ud ((tX im hk).mono (Sz _) δ),δ,λp5 g5=>?_⟩
  ·exact⟨by show(0:Int)<1;decide,by show(((24-dY lys:Nat):Int)).natAbs<2^530;exact RN (show _≤24 by omega) δ,by show(1:Int).natAbs<2^530;decide,by show Q1 ((24-dY lys:Nat):Int) 1=1;simp⟩
  have s5:=au g5 (.tup [.int (cA (((24-dY lys:Nat):Int),1) (dX (0,1) kk)).1,.int (cA (((24-dY lys:Nat):Int),1) (dX (0,1) kk)).2]);have r5:RV K (upd H4 p5 (.tup [.int (cA (((24-dY lys:Nat):Int),1) (dX (0,1) kk)).1,.int (cA (((24-dY lys:Nat):Int),1) (dX (0,1) kk)).2])) (.ref p5) (cA (((24-dY lys:Nat):Int),1) (dX (0,1) kk)):=RV.of ao;have s15:=s24.trans s5;refine⟨l0,ys,_,Z,Z,s15 _ _ hl,be ω,?_⟩;have tu:=aI.up (K:=K) (s15 _ _ hl) (ys++[.ref p5]);have aF:=(alP.mono λ_ _ q=>q.mono ((aI.same (K:=K) s15).trans tu)).snoc (r5.mono tu);refine⟨_,Z,l0,_,zi ws kk lys,530,31176196503125834160000000000^4,Z,.inl (aZ.of ao),kQ aF,λr hr=>?_,δ,δ,by unfold zi;rw[Q2,Qz];show lys.length+1≤64;omega,δ,λv' H6 s6 r6=>?_⟩
  ·have:Bq (31176196503125834160000000000^4) (24*34359738368^4) r:=by
    rcases Q6.mp hr with h|h
    ·obtain⟨y,hy,rfl⟩:=QU.mp h;exact Gg ((qJ ok w10 (lok y hy)).am δ) hk (lok y hy).few
    ·rw[QK.mp h];exact Gg im hk ω
   exact⟨ud this,this.dvd⟩
  ·refine k v' H6 (λb_ o_ q_=>s6 _ _ ?_) r6;rw[aJ (aX q_ h0)];exact s15 _ _ (sm _ _ q_)
theorem IR(T:de K mg t):bi P w K mg base cT 1 t.a_Q52 t.d_Q52 ["_law_script"] (tH K):=by
 refine T.F_Q52.ok GW χ ψ
 ·obtain⟨_,_,rfl,_⟩:=h;rfl
 obtain⟨a,ns,rfl,hS,k⟩:=h;refine cJ.ok (ap (aC (cC (af (ef wE (qv 0) gk (eU aj)) (af aj (af aj (af aj ai aG) aG) aG) aM)))) ?_;nofun
 refine⟨_,Z,63,Z,a,_,Z,hS,λp hp=>⟨ON,λt ht=>?_⟩⟩;have npt:p≠t:=λz=>by subst z;rw[ao] at ht;cases ht
 have h0:H t=none:=by rw[aJ npt.symm] at ht;exact ht
 refine k t p _ ((au hp _).trans (au ht _)) h0 hp ⟨ns.take (ZW 63 ns.length),0,0,0,ao,?_,npt,?_,δ,δ,δ⟩
 ·rw[aJ npt,ao,LW]
 ·rw[Rs];omega
theorem bZ(T:de K mg t):bi P w K mg base cT 1 t.a_Q53 t.d_Q53 ["_law_tape_here","_law_many"] (tM K):=by
 refine T.F_Q53.ok iK χ ψ
 ·obtain⟨_,_,_,rfl,_⟩:=h;rfl
 obtain⟨t₁,s₁,m,rfl,tp,hm0,hm1,k⟩:=h;obtain⟨ns,p,q₀,r₀,ht,hs,hne,hlen,hp0,hq0,hr0⟩:=tp.ex;refine cJ.ok (ah (bL 2 iK.nd (bM bv (qv 0) aj)) (ah (bL 3 iK.nd (bM bv (qv 0) aj)) (ah (gC (aK bJ (qv 3) aj) (j9 (qv 0) aj fS)) (ah (iT Q8 (gL (rB (aT eZ (bM bv (qv 0) aj) aj (aV _)) (rA (aT kK (bM bv (qv 0) aj) (aH aN (by rfl) T.z_len R4 (af (qv 2) ai ag)) (aV _))))) (ah (bA (aT Lp (aH gS (by rfl) T.z_abs Yd (af (bM bv (qv 2) (bM bv (qv 0) aj)) ai aM)) (aK vB aj aj) (aV _)) (ap (gC (aH gS (by rfl) T.z_abs Yd (af (bM bv (qv 2) (bM bv (qv 0) aj)) ai aM)) (j9 (qv 0) aj fS))) aQ) (ap (gC (aK bJ (bM bv (qv 0) aj) aj) (j9 (qv 0) aj fS))))) (ah (bA (aT jz (bM bv (qv 0) aj) aj (aV _)) (ah (bL 4 iK.nd (bM bv (qv 0) aj)) (ah (gC (aK wQ (qv 4) (qv 1)) (j9 (qv 0) aj fS)) (ap (aC (aK fV (qv 4) (qv 1)))))) aQ) (ah (bL 5 iK.nd aj) (ah (bA (aT jz (aH aN (by rfl) T.z_len R4 (af (qv 2) ai ag)) aj (aV _)) (ap (bL 5 iK.nd (bM bv (qv 2) (aK fV (qv 3) (aH aN (by rfl) T.z_len R4 (af (qv 2) ai ag)))))) aQ) (ah (bL 6 iK.nd (aK fV (aK ii (aK bJ (aK fV (qv 5) aj) aj) (aK bJ (aK bJ (aK ii (aK fV (qv 3) aj) aj) aj) (qv 3))) aj)) (ah (bL 6 iK.nd (aK fV (aK bJ (aK bJ (aK ii (qv 6) (qv 6)) (aK ii aj (qv 6))) (qv 3)) aj)) (ap (aC (aK fV (aK fV (aK ii (qv 6) aj) aj) (qv 1))))))))))))) ?_
 nofun
 have tap:∀(q r:Int),0≤q->0≤r->cR (upd H t₁ (.lst [.ref s₁,.int (p+1),.int q,.int r])) t₁ s₁:=λq r hq hr=>⟨ns,p+1,q,r,ao,by rw[aJ hne];exact hs,hne,hlen,ω,hq,hr⟩
 have hs':∀o,(upd H t₁ o) s₁=some (.lst (ns.map V.int)):=λo=>by rw[aJ hne];exact hs
 have hl:((ns.map V.int).length:Int)=(ns.length:Int):=by rw[Qz]
 refine⟨_,Z,t₁,_,_,_,Z,Z,aZ.of ht,Z,?_⟩;refine⟨_,Z,t₁,_,_,_,Z,Z,aZ.of ht,Z,?_⟩;refine⟨_,Z,_,_,Z,Z,_,Z,t₁,_,_,_,Z,Z,ht,Z,?_⟩;let Iv1:Nat->L2.St->Hp->Prop:=λμ σ H'=>∃q r:Int,σ=[some (.ref t₁),some (.int m),some (.ref s₁),some (.int p),none,none,none]/\H'=upd H t₁ (.lst [.ref s₁,.int (p+1),.int q,.int r])/\0≤q/\0≤r/\μ=ns.length-r.toNat
 refine⟨Iv1,⟨_,q₀,r₀,Z,Z,hq0,hr0,Z⟩,?_⟩;rintro μ σ H' ⟨q,r,rfl,rfl,hq,hr',rfl⟩;refine⟨_,Z,t₁,_,_,_,Z,Z,aZ.of ao,Z,Z,_,Z,?_⟩;by_cases c:q=0/\r<(ns.length:Int)
 ·obtain⟨c1,c2⟩:=c;subst c1;refine dz Z ?_;refine⟨_,Z,t₁,_,_,_,Z,Z,aZ.of ao,Z,_,Z,s₁,_,Z,.inl (aZ.of (hs' _)),_,_,Z,Z,_,Z,?_⟩;refine dz (by rw[hl];exact c2) ?_;refine⟨_,λ_ _ z=>z,?_⟩;obtain⟨z,hz⟩:=BZ (ns:=ns) hr' c2;refine⟨_,Z,_,Z,t₁,_,_,_,Z,Z,aZ.of ao,Z,s₁,_,_,_,Z,Z,aZ.of (hs' _),hz,_,Z,_,_,Z,Z,⟨δ,δ,δ⟩,_,_,Z,Z,_,Z,?_⟩;refine rT (λ_=>?_) (λ_=>?_)
  ·refine⟨_,Z,_,Z,t₁,_,_,_,Z,Z,aZ.of ao,Z,s₁,_,_,_,Z,Z,aZ.of (hs' _),hz,_,Z,_,Z,t₁,_,_,_,Z,Z,ao,Z,?_⟩;rw[kq];refine⟨_,Z,t₁,_,_,_,Z,Z,aZ.of ao,Z,_,_,Z,Z,_,Z,t₁,_,_,_,Z,Z,ao,Z,?_⟩;rw[kq];exact⟨_,ω,_,r+1,Z,Z,by split<;>omega,ω,Z⟩
  ·refine⟨_,Z,t₁,_,_,_,Z,Z,aZ.of ao,Z,_,_,Z,Z,_,Z,t₁,_,_,_,Z,Z,ao,Z,?_⟩;rw[kq];exact⟨_,ω,0,r+1,Z,Z,ω,ω,Z⟩
 by_cases c1:q=0
 ·refine dz (by rw[c1]) ?_;refine⟨_,Z,t₁,_,_,_,Z,Z,aZ.of ao,Z,_,Z,s₁,_,Z,.inl (aZ.of (hs' _)),_,_,Z,Z,_,Z,?_⟩;refine dA (by rw[hl];exact λz=>c ⟨c1,z⟩) ?_;refine⟨_,Z,t₁,_,_,_,Z,Z,aZ.of ao,Z,_,_,Z,Z,_,Z,?_⟩;refine rT (λ_=>?_) (λ_=>?_)
  ·refine⟨_,Z,t₁,_,_,_,Z,Z,aZ.of ao,Z,?_⟩;refine⟨_,Z,_,Z,_,_,Z,Z,⟨hm0,hm1⟩,_,Z,t₁,_,_,_,Z,Z,ao,Z,?_⟩;refine⟨_,Z,_,Z,_,_,Z,Z,hm0,?_⟩;rw[kq];exact k _ _ (Sg _ ω) (Sb _ hm0) (tap (q/m) r (Ts hq ω) hr')
  ·refine⟨_,Z,s₁,_,Z,.inl (aZ.of (hs' _)),_,_,Z,Z,_,Z,?_⟩;refine rT (λc9=>?_) (λ_=>?_)
   ·have c8:(0:Int)<(ns.length:Int):=by
     have c7:(0:Int)<((ns.map V.int).length:Int):=of_decide_eq_true c9;rw[hl] at c7;exact c7
    obtain⟨z,hz⟩:=BZ (ns:=ns) (r:=p%(ns.length:Int)) (Sg _ ω) (Sb _ c8);rw[←hl] at hz c8;refine⟨_,Z,_,Z,_,Z,s₁,_,Z,.inl (aZ.of (hs' _)),_,_,Z,Z,c8,s₁,_,_,_,Z,Z,aZ.of (hs' _),hz,?_⟩;refine⟨_,Z,_,_,Z,Z,(by show(0:Int)<_;decide),_,_,Z,Z,_,Z,_,_,Z,Z,(by show(0:Int)<_;decide),_,_,Z,Z,.inl ⟨ω,ω⟩,_,_,Z,Z,_,Z,_,_,Z,Z,_,_,Z,Z,.inl ⟨ω,ω⟩,_,_,Z,Z,(by show(0:Int)<_;decide),?_⟩;refine⟨_,Z,_,Z,_,_,Z,Z,.inl ⟨ω,ω⟩,_,Z,_,_,Z,Z,.inl ⟨ω,ω⟩,_,_,Z,Z,_,Z,_,_,Z,Z,_,_,Z,Z,(by show(0:Int)<_;decide),?_⟩;refine⟨_,Z,_,_,Z,Z,.inl ⟨ω,ω⟩,_,_,Z,Z,(by show(0:Int)<_;decide),_,Z,_,_,Z,Z,hm0,?_⟩;exact k _ _ (Sg _ ω) (Sb _ hm0) (tap q r hq hr')
   ·refine⟨_,Z,_,_,Z,Z,(by show(0:Int)<_;decide),_,_,Z,Z,_,Z,_,_,Z,Z,(by show(0:Int)<_;decide),_,_,Z,Z,.inl ⟨ω,ω⟩,_,_,Z,Z,_,Z,_,_,Z,Z,_,_,Z,Z,.inl ⟨ω,ω⟩,_,_,Z,Z,(by show(0:Int)<_;decide),?_⟩;refine⟨_,Z,_,Z,_,_,Z,Z,.inl ⟨ω,ω⟩,_,Z,_,_,Z,Z,.inl ⟨ω,ω⟩,_,_,Z,Z,_,Z,_,_,Z,Z,_,_,Z,Z,(by show(0:Int)<_;decide),?_⟩;refine⟨_,Z,_,_,Z,Z,.inl ⟨ω,ω⟩,_,_,Z,Z,(by show(0:Int)<_;decide),_,Z,_,_,Z,Z,hm0,?_⟩;exact k _ _ (Sg _ ω) (Sb _ hm0) (tap q r hq hr')
 ·refine dA (λz=>c1 (by injection z)) (bW ?_);refine⟨_,Z,t₁,_,_,_,Z,Z,aZ.of ao,Z,_,_,Z,Z,_,Z,?_⟩;refine rT (λ_=>?_) (λ_=>?_)
  ·refine⟨_,Z,t₁,_,_,_,Z,Z,aZ.of ao,Z,?_⟩;refine⟨_,Z,_,Z,_,_,Z,Z,⟨hm0,hm1⟩,_,Z,t₁,_,_,_,Z,Z,ao,Z,?_⟩;refine⟨_,Z,_,Z,_,_,Z,Z,hm0,?_⟩;rw[kq];exact k _ _ (Sg _ ω) (Sb _ hm0) (tap (q/m) r (Ts hq ω) hr')
  ·refine⟨_,Z,s₁,_,Z,.inl (aZ.of (hs' _)),_,_,Z,Z,_,Z,?_⟩;refine rT (λc9=>?_) (λ_=>?_)
   ·have c8:(0:Int)<(ns.length:Int):=by
     have c7:(0:Int)<((ns.map V.int).length:Int):=of_decide_eq_true c9;rw[hl] at c7;exact c7
    obtain⟨z,hz⟩:=BZ (ns:=ns) (r:=p%(ns.length:Int)) (Sg _ ω) (Sb _ c8);rw[←hl] at hz c8;refine⟨_,Z,_,Z,_,Z,s₁,_,Z,.inl (aZ.of (hs' _)),_,_,Z,Z,c8,s₁,_,_,_,Z,Z,aZ.of (hs' _),hz,?_⟩;refine⟨_,Z,_,_,Z,Z,(by show(0:Int)<_;decide),_,_,Z,Z,_,Z,_,_,Z,Z,(by show(0:Int)<_;decide),_,_,Z,Z,.inl ⟨ω,ω⟩,_,_,Z,Z,_,Z,_,_,Z,Z,_,_,Z,Z,.inl ⟨ω,ω⟩,_,_,Z,Z,(by show(0:Int)<_;decide),?_⟩;refine⟨_,Z,_,Z,_,_,Z,Z,.inl ⟨ω,ω⟩,_,Z,_,_,Z,Z,.inl ⟨ω,ω⟩,_,_,Z,Z,_,Z,_,_,Z,Z,_,_,Z,Z,(by show(0:Int)<_;decide),?_⟩;refine⟨_,Z,_,_,Z,Z,.inl ⟨ω,ω⟩,_,_,Z,Z,(by show(0:Int)<_;decide),_,Z,_,_,Z,Z,hm0,?_⟩;exact k _ _ (Sg _ ω) (Sb _ hm0) (tap q r hq hr')
   ·refine⟨_,Z,_,_,Z,Z,(by show(0:Int)<_;decide),_,_,Z,Z,_,Z,_,_,Z,Z,(by show(0:Int)<_;decide),_,_,Z,Z,.inl ⟨ω,ω⟩,_,_,Z,Z,_,Z,_,_,Z,Z,_,_,Z,Z,.inl ⟨ω,ω⟩,_,_,Z,Z,(by show(0:Int)<_;decide),?_⟩;refine⟨_,Z,_,Z,_,_,Z,Z,.inl ⟨ω,ω⟩,_,Z,_,_,Z,Z,.inl ⟨ω,ω⟩,_,_,Z,Z,_,Z,_,_,Z,Z,_,_,Z,Z,(by show(0:Int)<_;decide),?_⟩;refine⟨_,Z,_,_,Z,Z,.inl ⟨ω,ω⟩,_,_,Z,Z,(by show(0:Int)<_;decide),_,Z,_,_,Z,Z,hm0,?_⟩;exact k _ _ (Sg _ ω) (Sb _ hm0) (tap q r hq hr')
theorem IK(T:de K mg t):bi P w K mg base cT 1 t.a_Q60 t.d_Q60 ["_law_one","_law_other"] (uW K):=by
 refine T.F_Q60.ok An χ ψ
 ·obtain⟨_,_,rfl,_⟩:=h;rfl
 obtain⟨a,b,rfl,ha,hb,k⟩:=h;refine cJ.ok (ah (iT Q8 (aT Ci (qv 1) aj (aV _)) (ap (HH (i:=0) (j:=1) Z An.nd Z Z δ Z Z (af (qv 1) (af (aK fV (qv 0) (qv 1)) ai ba) ag) Z))) (ap (aC (qv 0)))) ?_
 nofun
 let Iv1:Nat->L2.St->Hp->Prop:=λm σ H'=>∃(x y:Int),σ=[some (.int x),some (.int y)]/\H'=H/\0≤x/\0≤y/\Q1 x y=Q1 a b/\m=y.toNat
 refine⟨Iv1,⟨_,_,_,Z,Z,ha,hb,Z,Z⟩,?_⟩;rintro m σ H' ⟨x,y,rfl,rfl,hx,hy,hg,rfl⟩;refine⟨_,Z,Z,_,Z,?_⟩;by_cases c:y=0
 ·subst c;refine Gi Z ?_;rw[←hg] at k;refine⟨_,Z,?_⟩;have e:(x:Int)=(Q1 x 0:Nat):=by simp[Q1];omega
  rw[←e] at k;exact k
 ·refine CQ (λz=>c (by injection z)) ?_;refine⟨_,λ_ _ z=>z,?_⟩;refine⟨_,Z,_,Z,_,Z,_,_,Z,Z,ω,_,_,Z,?_⟩;refine⟨_,?_,y,x%y,Z,Z,hy,Sg _ c,?_,Z⟩
  ·have:=Sb x (show 0<y by omega);have:=Sg x c;omega
  ·rw[ut hx ω,hg]
theorem Cu(T:de K mg t):bi P w K mg base cT 2 t.a_Q35 t.d_Q35 ["_law_top","_law_bottom"] (qP K):=by
 refine T.F_Q35.ok vo χ ψ
 ·obtain⟨_,_,rfl,_⟩:=h;rfl
 obtain⟨a,b,rfl,hb,hz,k⟩:=h;refine cJ.ok (ah (bL 2 vo.nd (bE (IK T) hr T.m_Q60 T.F_Q60.kp T.b_Q60 (af (aH gS (by rfl) T.z_abs Yd (af (qv 0) ai ag)) (af (aH gS (by rfl) T.z_abs Yd (af (qv 1) ai ag)) ai aD) aD))) (ah (bA (aT kK (qv 1) aj (aV _)) (ap (bL 2 vo.nd (kG hX (qv 2)))) aQ) (ap (aC (bD (af (aK wN (qv 0) (qv 2)) (af (aK wN (qv 1) (qv 2)) ai ba) ba)))))) ?_
 nofun
 have gp:=C1 (a:=a) (show b≠0 by omega);have gb:=Fh (a:=a) (show b≠0 by omega) hz;refine⟨_,Z,_,Z,_,Z,_,Z,_,_,Z,(by split<;>omega),(by split<;>omega),?_⟩;rw[sr,sr];have eg:Q1 (a.natAbs:Int) (b.natAbs:Int)=Q1 a b:=by simp[Q1]
 rw[eg];refine⟨_,Z,_,_,Z,Z,_,Z,?_⟩;refine dA (show ¬b<0 by omega) ?_;refine⟨_,Z,_,Z,_,_,Z,Z,⟨ω,gb⟩,_,Z,_,Z,_,_,Z,Z,⟨ω,gb⟩,ma,λp hp=>?_⟩;have e:(a.fdiv (Q1 a b:Int),b.fdiv (Q1 a b:Int))=fj a b:=(CG hb).trans (wU hb);rw[←e] at k;exact k p hp
theorem IQ(T:de K mg t):bi P w K mg base cT 3 t.a_Q54 t.d_Q54 ["_law_one","_law_other"] (tJ K):=by
 refine T.F_Q54.ok GV χ ψ
 ·obtain⟨_,_,_,_,_,_,rfl,_⟩:=h;rfl
 obtain⟨v,w,r,q,n,m,rfl,hv,hw,wr,wq,hz,k⟩:=h;refine cJ.ok (ap (aC (bE (Cu T) hr T.m_Q35 T.F_Q35.kp T.b_Q35 (af (aK bJ (aK cO (bM az (qv 0) aj) (bM az (qv 1) aj)) (aK cO (bM az (qv 1) aj) (bM az (qv 0) aj))) (af (aK cO (bM az (qv 0) aj) (bM az (qv 1) aj)) ai ba) ba)))) ?_;nofun
 obtain⟨p,rfl,hv⟩:=hv;obtain⟨p',rfl,hw⟩:=hw;have c1:=bU wr.top (show n≤8990 by omega);have c2:=bU wr.bot (show n≤8990 by omega);have c3:=bU wq.top (show m≤8990 by omega);have c4:=bU wq.bot (show m≤8990 by omega);have bp:=Sx wr.pos wq.pos;refine⟨_,Z,p,_,_,_,Z,Z,hv,Z,_,Z,p',_,_,_,Z,Z,hw,Z,_,_,Z,Z,⟨c1,c4⟩,_,Z,p',_,_,_,Z,Z,hw,Z,_,Z,p,_,_,_,Z,Z,hv,Z,_,_,Z,Z,⟨c3,c2⟩,_,_,Z,Z,_,Z,p,_,_,_,Z,Z,hv,Z,_,Z,p',_,_,_,Z,Z,hw,Z,_,_,Z,Z,⟨c2,c4⟩,_,_,Z,bp,bU (Js wr.bot wq.bot) ω,k⟩
theorem Co(T:de K mg t):bi P w K mg base cT 1 t.a_Q55 t.d_Q55 ["_law_one","_law_other"] (tL K):=by
 refine T.F_Q55.ok GU χ ψ
 ·obtain⟨_,_,_,_,_,_,rfl,_⟩:=h;rfl
 obtain⟨v,w,r,q,n,m,rfl,hv,hw,wr,wq,hz,k⟩:=h;refine cJ.ok (ap (aC (dP kK (aK cO (bM az (qv 0) aj) (bM az (qv 1) aj)) (aK cO (bM az (qv 1) aj) (bM az (qv 0) aj)) (aV _)))) ?_;nofun
 obtain⟨p,rfl,hv⟩:=hv;obtain⟨p',rfl,hw⟩:=hw;have c1:=bU wr.top (show n≤8990 by omega);have c2:=bU wr.bot (show n≤8990 by omega);have c3:=bU wq.top (show m≤8990 by omega);have c4:=bU wq.bot (show m≤8990 by omega);refine⟨_,Z,p,_,_,_,Z,Z,hv,Z,_,Z,p',_,_,_,Z,Z,hw,Z,_,_,Z,Z,⟨c1,c4⟩,_,Z,p',_,_,_,Z,Z,hw,Z,_,Z,p,_,_,_,Z,Z,hv,Z,_,_,Z,Z,⟨c3,c2⟩,_,_,Z,Z,k⟩
theorem IP(T:de K mg t):bi P w K mg base cT 3 t.a_Q56 t.d_Q56 ["_law_tape_here"] (tK K):=by
 refine T.F_Q56.ok vg χ ψ
 ·obtain⟨_,_,rfl,_⟩:=h;rfl
 obtain⟨t₁,s₀,rfl,T0,k⟩:=h;refine cJ.ok (ah (bL 1 vg.nd (cC (af aj (af aj (af aj (af aj (af (aK bJ aj (bE (bZ T) hr T.m_Q53 T.F_Q53.kp T.b_Q53 (af (qv 0) (af aj ai aG) ag))) (af (aK bJ aj (bE (bZ T) hr T.m_Q53 T.F_Q53.kp T.b_Q53 (af (qv 0) (af aj ai aG) ag))) (af (aK bJ (aK vB aj aj) aj) ai ba) ba) ba) aG) aG) aG) aG))) (ah (bL 2 vg.nd (cC (af aj (af aj (af aj (af aj (af aj (af aj (af (aK bJ aj (bE (bZ T) hr T.m_Q53 T.F_Q53.kp T.b_Q53 (af (qv 0) (af aj ai aG) ag))) (af (aK vB aj aj) ai ba) ba) aG) aG) aG) aG) aG) aG))) (ap (aC (bE (Cu T) hr T.m_Q35 T.F_Q35.kp T.b_Q35 (af (bM bv (qv 1) (bE (bZ T) hr T.m_Q53 T.F_Q53.kp T.b_Q53 (af (qv 0) (af aj ai aG) ag))) (af (bM bv (qv 2) (bE (bZ T) hr T.m_Q53 T.F_Q53.kp T.b_Q53 (af (qv 0) (af aj ai aG) ag))) ai aM) aM)))))) ?_
 nofun
 refine⟨_,Z,t₁,s₀,40,Z,T0,δ,δ,λr1 x1 a1 b1 T1=>⟨_,_,Z,Z,_,Z,t₁,s₀,60000,Z,T1,δ,δ,λr2 x2 a2 b2 T2=>⟨_,_,Z,Z,_,_,Z,Z,⟨δ,δ,δ⟩,_,_,Z,Z,OM,λl1 g1=>?_⟩⟩⟩;have T3:=T2.new g1 (.lst [.int 1,.int 2,.int 3,.int 5,.int (1+r1),.int (1+r2),.int (10^9+7)]);refine⟨_,Z,t₁,s₀,30,Z,T3,δ,δ,λr3 x3 a3 b3 T4=>⟨_,_,Z,Z,_,_,Z,Z,⟨δ,δ,δ⟩,OL,λl2 g2=>?_⟩⟩;have T5:=T4.new g2 (.lst [.int 1,.int 1,.int 1,.int 2,.int 3,.int 6,.int (1+r3),.int (10^9)]);have n1:l1≠t₁:=λz=>by subst z;obtain⟨_,e⟩:=T2.lst;rw[g1] at e;cases e
 have n2:l2≠t₁:=λz=>by subst z;obtain⟨_,e⟩:=T4.lst;rw[g2] at e;cases e
 have n3:l1≠l2:=λz=>by subst z;rw[aJ n1,ao] at g2;cases g2
 refine⟨_,Z,_,Z,t₁,s₀,7,Z,T5,δ,δ,λr4 x4 a4 b4 T6=>?_⟩;obtain⟨v1,hv1,m1⟩:=Ii (xs:=[.int 1,.int 2,.int 3,.int 5,.int (1+r1),.int (1+r2),.int (10^9+7)]) a4 b4;refine⟨l1,_,_,v1,Z,Z,aZ.of (by rw[aJ n1,aJ n3,aJ n1,ao]<;>rfl),hv1,?_⟩;refine⟨_,Z,_,Z,t₁,s₀,8,Z,T6,δ,δ,λr5 x5 a5 b5 T7=>?_⟩;obtain⟨v2,hv2,m2⟩:=Ii (xs:=[.int 1,.int 1,.int 1,.int 2,.int 3,.int 6,.int (1+r3),.int (10^9)]) a5 b5;refine⟨l2,_,_,v2,Z,Z,aZ.of (by rw[aJ n2,aJ n2,ao]<;>rfl),hv2,?_⟩;obtain⟨z1,rfl,p1,q1⟩:∃z:Int,v1=.int z/\0<z/\z≤1000000007:=by
  simp only[QR,RG,or_false] at m1;rcases m1 with e|e|e|e|e|e|e
  all_goals exact⟨_,e,ω,ω⟩
 obtain⟨z2,rfl,p2,q2,d2⟩:∃z:Int,v2=.int z/\0<z/\z<2^31/\z∣(D0:Int):=by
  simp only[QR,RG,or_false] at m2;rcases m2 with e|e|e|e|e|e|e|e
  ·exact⟨_,e,δ,δ,δ⟩
  ·exact⟨_,e,δ,δ,δ⟩
  ·exact⟨_,e,δ,δ,δ⟩
  ·exact⟨_,e,δ,δ,δ⟩
  ·exact⟨_,e,δ,δ,δ⟩
  ·exact⟨_,e,δ,δ,δ⟩
  ·exact⟨_,e,ω,ω,LU a3 b3⟩
  ·exact⟨_,e,δ,δ,δ⟩
 have w2:z2.natAbs<2^31:=ω
 refine⟨z1,z2,Z,ω,bU w2 δ,?_⟩;intro p hp;have S:=(((((((aY.up (ys:=x1) T0.lst.choose_spec).trans (aY.up (ys:=x2) ao)).trans (aY.new ⟨_,ao⟩ g1 _)).trans (aY.up (ys:=x3) T3.lst.choose_spec)).trans (aY.new T4.lst g2 _)).trans (aY.up (ys:=x4) T5.lst.choose_spec)).trans (aY.up (ys:=x5) T6.lst.choose_spec)).trans (aY.new T7.lst hp (.tup [.int (fj z1 z2).1,.int (fj z1 z2).2]));exact k _ (fj z1 z2) _ (EN p1 q1 p2 d2) S (T7.new hp _) (RV.of ao)
theorem Ct(T:de K mg t):bi P w K mg base cT 4 t.a_Q36 t.d_Q36 ["_law_tape_here","_law_most","_law_end"] (qM K):=by
 refine T.F_Q36.ok iM χ ψ
 ·obtain⟨_,_,_,_,rfl,_⟩:=h;rfl
 obtain⟨t₁,s₁,m,en,rfl,tp,hm,he1,he2,k⟩:=h;refine cJ.ok (ah (bL 3 iM.nd (cC ai)) (ah (bR Q8 Z (db Z T.z_range (af (bE (bZ T) hr T.m_Q53 T.F_Q53.kp T.b_Q53 (af (qv 0) (af (aK bJ (qv 1) aj) ai ba) ag)) ai aD)) (ay (i:=4) iM.nd Z θ) (ah (bL 5 iM.nd (bE (bZ T) hr T.m_Q53 T.F_Q53.kp T.b_Q53 (af (qv 0) (af (qv 2) ai ag) ag))) (ah (bL 6 iM.nd (aK bJ (qv 5) (bE (bZ T) hr T.m_Q53 T.F_Q53.kp T.b_Q53 (af (qv 0) (af (aK fU (qv 2) (qv 5)) ai ba) ag)))) (ah (rD (bA (gL (rB (aT (kf hr) (qv 3) (cC ai) (aV _)) (rA (aT eZ (bE (bZ T) hr T.m_Q53 T.F_Q53.kp T.b_Q53 (af (qv 0) (af aj ai aG) ag)) aj (aV _))))) (ap (gC (ef h8 (bM bv (qv 3) (bE (bZ T) hr T.m_Q53 T.F_Q53.kp T.b_Q53 (af (qv 0) (af (aH aN (by rfl) T.z_len R4 (af (qv 3) ai ag)) ai aD) ag))) gk (eU aj)) (eP Z (aR (ay (i:=5) iM.nd Z θ) (aR (ay (i:=6) iM.nd Z θ) ca))))) aQ)) (ah (rD (bA (aT eZ (bE (bZ T) hr T.m_Q53 T.F_Q53.kp T.b_Q53 (af (qv 0) (af aj ai aG) ag)) aj (aV _)) (ap (bL 6 iM.nd (qv 5))) aQ)) (ap (cH (gl Rv RS RT cQ (qv 3) (af (bD (af (qv 5) (af (qv 6) (af (bE (IP T) hr T.m_Q56 T.F_Q56.kp T.b_Q56 (af (qv 0) ai ag)) ai aD) ag) ag)) ai cb))))))))) (ap (aC (bT bK (by rfl) T.z_tuple Sy (af (qv 3) ai ag)))))) ?_
 nofun
 refine⟨(by show 0≤sizeLine;exact Re _),λls h0=>?_⟩;obtain⟨y0,e0⟩:=tp.lst;obtain⟨y0',e0'⟩:=tp.scr;have nt:ls≠t₁:=λz=>by subst z;rw[e0] at h0;cases h0
 have ns:ls≠s₁:=λz=>by subst z;rw[e0'] at h0;cases h0
 have s0:=au h0 (.lst []);have hl0:upd H ls (.lst []) ls=some (.lst []):=ao;have T0:=tp.new h0 (.lst []);generalize upd H ls (.lst [])=H0 at s0 hl0 T0 ⊢;obtain⟨y1,e1⟩:=T0.lst;refine⟨_,Z,_,Z,_,_,Z,Z,t₁,s₁,_,Z,T0,ω,ω,λr1 z1 a1 b1 T1=>?_⟩;have S1:aY t₁ H0 _:=aY.up (ys:=z1) e1;generalize upd H0 t₁ (.lst z1)=H1 at T1 S1 ⊢;have hl1:=S1.keep _ _ nt hl0;let Iv1:Nat->L2.St->Hp->Prop:=λi σ H'=>∃(xs:List V) (ws:List Wk) (x5 x6 x7:Option V),σ=[some (.ref t₁),some (.int m),some (.int en),some (.ref ls),x5,x6,x7]/\cR H' t₁ s₁/\(∀b o,b≠t₁->H b=some o->H' b=some o)/\H' ls=some (.lst xs)/\Als (zk K H') xs ws/\ws.length=i/\∀w∈ws,DH w
 refine⟨r1,Z,ω,ω,d7 (lo:=0) (n:=r1.toNat) Iv1 ⟨[],[],none,none,none,Z,T1,(λb o nb q=>S1.keep _ _ nb (s0 _ _ q)),hl1,.nil,Z,λw hw=>by cases hw⟩ ?_ ?_⟩
 ·rintro i σ HI hi ⟨xs,ws,x5,x6,x7,rfl,TI,kp,hlI,alw,hlen,okw⟩;have hxl:=alw.len;obtain⟨y2,e2⟩:=TI.lst;refine⟨_,Z,_,Z,t₁,s₁,_,Z,TI,ω,ω,λr2 z2 a2 b2 T2=>?_⟩;have S2:aY t₁ HI _:=aY.up (ys:=z2) e2;generalize upd HI t₁ (.lst z2)=H2 at T2 S2 ⊢;obtain⟨ff,rfl⟩:=RK a2;obtain⟨y3,e3⟩:=T2.lst;refine⟨_,Z,_,Z,_,Z,_,Z,_,_,Z,Z,t₁,s₁,_,Z,T2,ω,ω,λr3 z3 a3 b3 T3=>?_⟩;have S3:aY t₁ H2 _:=aY.up (ys:=z3) e3;generalize upd H2 t₁ (.lst z3)=H3 at T3 S3 ⊢;have S23:=S2.trans S3;refine⟨_,_,Z,Z,?_⟩;obtain⟨la,hla⟩:∃la:Nat,(ff:Int)+r3=(la:Nat):=⟨((ff:Int)+r3).toNat,ω⟩;dsimp only;rw[hla];have bf:ff≤la:=ω
  have bl:la<24:=ω
  have hl3:=S23.keep _ _ nt hlI;refine⟨λσ H'=>∃ff la:Nat,σ=[some (.ref t₁),some (.int m),some (.int en),some (.ref ls),some (.int (0+(i:Int))),some (.int (ff:Nat)),some (.int (la:Nat))]/\aY t₁ HI H'/\cR H' t₁ s₁/\ff≤la/\la<24,?_,?_⟩
  ·refine⟨_,Z,(by show 0≤sizeLine;exact Re _),λq hq=>?_⟩;have sq:=au hq (.lst []);have TQ:=T3.new hq (.lst []);have hqq:upd H3 q (.lst []) q=some (.lst []):=ao;generalize upd H3 q (.lst [])=HQ at sq TQ hqq ⊢;have SQ:=S23.trans (aY.same sq T3.lst);refine⟨.list (ws.map Fx),.list [],.lst (aZ.of (sq _ _ hl3)) ((alw.mono λ_ _ z=>z.mono (aI.step (K:=K) SQ)).deep λ_ _ z=>z.deep),.lst (aZ.of hqq) .nil,Gz ws,Z,sy ws,_,Z,?_⟩
   cases ws with
   |nil=>exact bW (bW ⟨ff,la,Z,SQ,TQ,bf,bl⟩)
   |cons w0 wr=>
    refine iD ?_;have lp:0<xs.length:=by rw[hxl];exact XT _
    obtain⟨y4,e4⟩:=TQ.lst;refine⟨_,Z,t₁,s₁,_,Z,TQ,ω,ω,λr4 z4 a4 b4 T4=>?_⟩;have S4:aY t₁ HQ _:=aY.up (ys:=z4) e4;generalize upd HQ t₁ (.lst z4)=H4 at T4 S4 ⊢;have S4':=SQ.trans S4;refine⟨Z,_,Z,rT (λ_=>?_) (λ_=>⟨ff,la,Z,S4',T4,bf,bl⟩)⟩;have hl4:=S4'.keep _ _ nt hlI;obtain⟨y5,e5⟩:=T4.lst;refine⟨_,Z,_,Z,_,Z,ls,_,Z,.inl (aZ.of hl4),t₁,s₁,_,Z,T4,ω,ω,λr5 z5 a5 b5 T5=>?_⟩;have S5:=S4'.trans (aY.up (ys:=z5) e5);generalize upd H4 t₁ (.lst z5)=H5 at T5 S5 ⊢;obtain⟨j,rfl⟩:=RK a5;obtain⟨xw,hxw⟩:∃xw,xs[j]?=some xw:=⟨_,Qw ω⟩;obtain⟨w,hw,pw0,xa,rfl,hSw,ra⟩:=alw.at hxw;have wb:=okw w (QC hw);refine⟨ls,_,_,_,Z,Z,aZ.of (S5.keep _ _ nt hlI),bh hxw,?_⟩;refine⟨_,Z,pw0,_,Z,aI.step (K:=K) S5 _ _ hSw,λpc HP sP hpc=>?_⟩;rw[show gQ [V.int (w.1:Nat),V.int (w.2.1:Nat),xa] none (some 2)=[V.int (w.1:Nat),V.int (w.2.1:Nat)] from vZ (n:=2) (by show 2≤3;decide)] at hpc;refine⟨pc,_,Z,hpc,Z,_,_,Z,_,_,Z,Z,?_⟩;exact⟨w.1,w.2.1,Z,S5.trans (aY.same sP T5.lst),T5.same sP,wb.le,wb.l2⟩
  ·rintro σ H6 ⟨ff,la,rfl,S6,T6,bf,bl⟩;refine⟨λσ H'=>∃la:Nat,σ=[some (.ref t₁),some (.int m),some (.int en),some (.ref ls),some (.int (0+(i:Int))),some (.int (ff:Nat)),some (.int (la:Nat))]/\aY t₁ HI H'/\cR H' t₁ s₁/\ff≤la/\la<24,?_,?_⟩
   ·obtain⟨y7,e7⟩:=T6.lst;refine⟨_,Z,t₁,s₁,_,Z,T6,ω,ω,λr7 z7 a7 b7 T7=>?_⟩;have S7:aY t₁ H6 _:=aY.up (ys:=z7) e7;generalize upd H6 t₁ (.lst z7)=H7 at T7 S7 ⊢;refine⟨Z,_,Z,rT (λ_=>?_) (λ_=>?_)⟩
    ·exact⟨_,Z,ff,Z,S6.trans S7,T7,QB _,ω⟩
    ·exact⟨la,Z,S6.trans S7,T7,bf,bl⟩
   ·rintro σ H8 ⟨la,rfl,S8,T8,bf,bl⟩;have hl8:=S8.keep _ _ nt hlI;refine⟨_,Z,.inl ⟨Z,_,aZ.of hl8⟩,_,Z,_,Z,_,Z,t₁,s₁,Z,T8,λva ra H9 po S9 T9 rv=>?_⟩;refine⟨FU,λpw hpw=>?_⟩;have sA:=au hpw (.tup [.int (ff:Nat),.int (la:Nat),va]);have hA:bz K (upd H9 pw (.tup [.int (ff:Nat),.int (la:Nat),va])) pw [.int (ff:Nat),.int (la:Nat),va]:=bz.of ao;have TA:=T9.same sA;generalize upd H9 pw (.tup [.int (ff:Nat),.int (la:Nat),va])=HA at sA hA TA ⊢;have SA:=(S8.trans S9).trans (aY.same sA T9.lst);have hlA:=SA.keep _ _ nt hlI;refine⟨ls,xs,_,Z,Z,hlA,be ω,?_⟩;have tB:aI K HA (upd HA ls (.lst (xs++[.ref pw]))):=aI.up hlA _;refine⟨_,ws++[(ff,la,ra)],_,_,_,Z,TA.upl nt ns _,λb o nb q=>?_,ao,(alw.mono λv d q=>q.mono ((aI.step (K:=K) SA).trans tB)).snoc ⟨pw,va,Z,tB _ _ hA,(rv.mono (aI.same sA)).mono tB⟩,by rw[Q2,hlen];rfl,λz hz=>?_⟩
    ·rw[aJ (aX q h0)];exact SA.keep _ _ nb (kp b o nb q)
    ·rcases Q6.mp hz with h|h
     ·exact okw z h
     ·rw[QK.mp h];exact⟨bf,bl,po⟩
 ·rintro σ HI ⟨xs,ws,x5,x6,x7,rfl,TI,kp,hlI,alw,hlen,okw⟩;refine⟨_,Z,ls,_,Z,.inl ⟨aZ.of hlI,λp hp=>?_⟩⟩;have s5:=au hp (.tup xs);exact k (.ref p) ws _ (aY.trans ⟨kp,⟨_,e0⟩,TI.lst⟩ (aY.same s5 TI.lst)) (TI.same s5) ⟨p,xs,Z,bz.of ao,alw.mono λ_ _ q=>q.mono (aI.same s5)⟩ (by rw[hlen];omega) okw
theorem IY(T:de K mg t):bi P w K mg base cT 2 t.a_Q37 t.d_Q37 ["_law_tape_here","_law_many"] (qQ K):=by
 refine T.F_Q37.ok j6 χ ψ
 ·obtain⟨_,_,_,rfl,_⟩:=h;rfl
 obtain⟨t₁,s₁,n,rfl,tp,hn,k⟩:=h;refine cJ.ok (ah (bL 2 j6.nd (cC ai)) (ah (bR Q8 Z (db Z T.z_range (af (qv 1) ai ag)) (ay (i:=3) j6.nd Z θ) (ap (cH (gl Rv W7 PySem.F.type_list_insert yy (qv 2) (af (bE (bZ T) hr T.m_Q53 T.F_Q53.kp T.b_Q53 (af (qv 0) (af (aK bJ (aH aN (by rfl) T.z_len R4 (af (qv 2) ai ag)) aj) ai ba) ag)) (af (qv 3) ai ag) aD))))) (ah (bL 4 j6.nd (cC ai)) (ah (bR Q8 Z (db Z T.z_range (af (aK ii (bE (bZ T) hr T.m_Q53 T.F_Q53.kp T.b_Q53 (af (qv 0) (af (aK bJ (aK ii aj (qv 1)) aj) ai ba) ag)) (bT ze (by rfl) T.z_int boot_int (af (dP jz (qv 1) aj (aV _)) ai Ac))) ai ba)) (ay (i:=5) j6.nd Z θ) (ah (bL 6 j6.nd (bE (bZ T) hr T.m_Q53 T.F_Q53.kp T.b_Q53 (af (qv 0) (af (aK fU (qv 1) aj) ai ba) ag))) (ah (bL 7 j6.nd (aK bJ (aK bJ (qv 6) aj) (bE (bZ T) hr T.m_Q53 T.F_Q53.kp T.b_Q53 (af (qv 0) (af (aK fU (aK fU (qv 1) aj) (qv 6)) ai ba) ag)))) (ap (cH (gl Rv RS RT cQ (qv 4) (af (bD (af (bM bv (qv 2) (qv 6)) (af (bM bv (qv 2) (qv 7)) ai aM) aM)) ai cb))))))) (ap (aC (bT bK (by rfl) T.z_tuple Sy (af (ef wE (qv 4) gk (eU aj)) ai aM)))))))) ?_
 nofun
 refine⟨(by show 0≤sizeLine;exact Re _),λlo h0=>?_⟩;obtain⟨y0,e0⟩:=tp.lst;obtain⟨y0',e0'⟩:=tp.scr;have nt:lo≠t₁:=λz=>by subst z;rw[e0] at h0;cases h0
 have ns:lo≠s₁:=λz=>by subst z;rw[e0'] at h0;cases h0
 have s0:=au h0 (.lst []);have hl0:upd H lo (.lst []) lo=some (.lst []):=ao;have T0:=tp.new h0 (.lst []);generalize upd H lo (.lst [])=H0 at s0 hl0 T0 ⊢;let Iv1:Nat->L2.St->Hp->Prop:=λi σ H'=>∃(os:List Nat) (x4:Option V),σ=[some (.ref t₁),some (.int n),some (.ref lo),x4,none,none,none,none]/\cR H' t₁ s₁/\(∀b o,b≠t₁->H b=some o->H' b=some o)/\H' lo=some (.lst (rO os))/\os.length=i/\os.Nodup/\∀x,x∈os↔x<i
 refine⟨_,Z,n,Z,ω,ω,d7 (lo:=0) (n:=(n:Int).toNat) Iv1 ⟨[],none,Z,T0,(λb o _ q=>s0 _ _ q),hl0,Z,UD,λx=>⟨(λh=>by cases h),λh=>absurd h (Ta _)⟩⟩ ?_ ?_⟩
 ·rintro i σ HI hi ⟨os,x4,rfl,TI,kp,hlI,hlen,nd,all⟩;rw[VN];have hnl:(rO os).length=os.length:=Qz _;obtain⟨y1,e1⟩:=TI.lst;refine⟨_,Z,.inl ⟨Z,_,aZ.of hlI⟩,_,Z,_,Z,lo,_,Z,.inl (aZ.of hlI),_,_,Z,Z,t₁,s₁,_,Z,TI,ω,ω,λr1 z1 a1 b1 T1=>?_⟩;have S1:aY t₁ HI _:=aY.up (ys:=z1) e1;generalize upd HI t₁ (.lst z1)=H1 at T1 S1 ⊢;obtain⟨j,rfl⟩:=RK a1;have hl1:=S1.keep _ _ nt hlI;refine⟨_,Z,lo,rO os,j,.int (i:Nat),Z,Z,hl1,ω,be ω,?_⟩;have ei:(rO os).take j++V.int (i:Nat)::(rO os).drop j=rO (os.take j++i::os.drop j):=by
   unfold rO;rw[RW,RC,Yw,aas]
  rw[ei];have ni:i∉os:=λz=>by have:=(all i).mp z;omega
  have pm:(os.take j++i::os.drop j).Perm (i::os):=by
   have:=List.perm_middle (a:=i) (l₁:=os.take j) (l₂:=os.drop j);rw[VS] at this;exact this
  refine⟨_,_,Z,T1.upl nt ns _,λb o nb q=>?_,ao,by rw[pm.length_eq,Rh,hlen],pm.nodup_iff.mpr (RO.mpr ⟨ni,nd⟩),λx=>?_⟩
  ·rw[aJ (aX q h0)];exact S1.keep _ _ nb (kp b o nb q)
  ·rw[pm.mem_iff,QR,all];omega
 ·rintro σ HI ⟨os,x4,rfl,TI,kp,hlI,hlen,nd,all⟩;rw[show(n:Int).toNat=n by omega] at hlen all;obtain⟨ps,ps1,ps2⟩:=Ht nd hlen all;refine⟨(by show 0≤sizeLine;exact Re _),λlf hf0=>?_⟩;obtain⟨yI,eI⟩:=TI.lst;obtain⟨yI',eI'⟩:=TI.scr;have ntf:lf≠t₁:=λz=>by subst z;rw[eI] at hf0;cases hf0
  have nsf:lf≠s₁:=λz=>by subst z;rw[eI'] at hf0;cases hf0
  have nlf:lo≠lf:=λz=>by subst z;rw[hlI] at hf0;cases hf0
  have hfN:∀b o,b≠t₁->H b=some o->b≠lf:=λb o nb q z=>by subst z;rw[kp b o nb q] at hf0;cases hf0
  have sF:=au hf0 (.lst []);have hf1:upd HI lf (.lst []) lf=some (.lst []):=ao;have TF:=TI.new hf0 (.lst []);have hlF:=sF _ _ hlI;generalize upd HI lf (.lst [])=HF at sF hf1 TF hlF ⊢;obtain⟨yF,eF⟩:=TF.lst;refine⟨_,Z,_,Z,_,_,Z,Z,.inl ⟨ω,ω⟩,_,_,Z,Z,t₁,s₁,_,Z,TF,ω,ω,λrc zc ac bc TC=>?_⟩;have SC:aY t₁ HF _:=aY.up (ys:=zc) eF;generalize upd HF t₁ (.lst zc)=HC at TC SC ⊢;refine⟨_,Z,_,_,Z,Z,.inr ⟨_,Z,?_⟩⟩;refine⟨_,_,Z,Z,.inl ⟨ω,ω⟩,?_⟩;have cn:∃c:Nat,rc*(if decide ((n:Int)>1)=true then 1 else 0)=(c:Int)/\(0<c->1<n)/\c≤41:=by
   by_cases z:(n:Int)>1
   ·rw[decide_eq_true z,if_pos Z];exact⟨rc.toNat,ω,λ_=>ω,ω⟩
   ·rw[decide_eq_false z,if_neg (by simp)];exact⟨0,ω,λh=>absurd h (RY _),ω⟩
  obtain⟨c,ec,cn,c41⟩:=cn;let Iv2:Nat->L2.St->Hp->Prop:=λi σ H'=>∃(xs:List V) (es:List Ln) (x4 x6 x7 x8:Option V),σ=[some (.ref t₁),some (.int n),some (.ref lo),x4,some (.ref lf),x6,x7,x8]/\cR H' t₁ s₁/\(∀b o,b≠t₁->b≠lf->HF b=some o->H' b=some o)/\H' lf=some (.lst xs)/\Als (Gw K H') xs es/\es.length=i/\gg n es/\∀a b,(a,b)∈es->ps a<ps b
  refine⟨(c:Int),by rw[←ec],ω,ω,d7 (lo:=0) (n:=(c:Int).toNat) Iv2 ⟨[],[],_,none,none,none,Z,TC,(λb o nb _ q=>SC.keep _ _ nb q),SC.keep _ _ ntf hf1,.nil,Z,(λe he=>by cases he),λa b h=>by cases h⟩ ?_ ?_⟩
  ·rintro i σ H1 hi ⟨xs,es,x4',x6,x7,x8,rfl,T1,kp1,hf,al,hlen1,ok,rk⟩;have n1:=cn ω;have hl1:=kp1 _ _ nt nlf hlF;obtain⟨y2,e2⟩:=T1.lst;refine⟨_,Z,_,Z,_,_,Z,Z,t₁,s₁,_,Z,T1,ω,ω,λr2 z2 a2 b2 T2=>?_⟩;have S2:aY t₁ H1 _:=aY.up (ys:=z2) e2;generalize upd H1 t₁ (.lst z2)=H2 at T2 S2 ⊢;obtain⟨at_,rfl⟩:=RK a2;obtain⟨y3,e3⟩:=T2.lst;refine⟨_,Z,_,_,Z,Z,_,Z,_,Z,_,_,Z,Z,_,Z,_,_,Z,Z,t₁,s₁,_,Z,T2,ω,ω,λr3 z3 a3 b3 T3=>?_⟩;have S3:=S2.trans (aY.up (ys:=z3) e3);generalize upd H2 t₁ (.lst z3)=H3 at T3 S3 ⊢;refine⟨_,_,Z,Z,?_⟩;obtain⟨to,hto⟩:∃to:Nat,(at_:Int)+1+r3=(to:Nat):=⟨((at_:Int)+1+r3).toNat,ω⟩;dsimp only;rw[hto];obtain⟨u,hu⟩:∃u,os[at_]?=some u:=⟨_,Qw ω⟩;obtain⟨w,hw⟩:∃u,os[to]?=some u:=⟨_,Qw ω⟩;have hl3:=S3.keep _ _ nt hl1;have hf3:=S3.keep _ _ ntf hf;refine⟨_,Z,.inl ⟨Z,_,aZ.of hf3⟩,_,Z,_,Z,lo,_,_,_,Z,Z,aZ.of hl3,bh (v:=V.int (u:Nat)) (by unfold rO;rw[QJ,hu];rfl),_,Z,_,Z,lo,_,_,_,Z,Z,aZ.of hl3,bh (v:=V.int (w:Nat)) (by unfold rO;rw[QJ,hw];rfl),ma,λpe hpe=>?_⟩;have s4:=au hpe (.tup [.int (u:Nat),.int (w:Nat)]);have h4:bz K (upd H3 pe (.tup [.int (u:Nat),.int (w:Nat)])) pe [.int (u:Nat),.int (w:Nat)]:=bz.of ao;have T4:=T3.same s4;generalize upd H3 pe (.tup [.int (u:Nat),.int (w:Nat)])=H4 at s4 h4 T4 ⊢;have S4:=S3.trans (aY.same s4 T3.lst);have hf4:=S4.keep _ _ ntf hf;have hxl:=al.len;refine⟨lf,xs,_,Z,Z,hf4,be ω,?_⟩;have t5:aI K H4 (upd H4 lf (.lst (xs++[.ref pe]))):=aI.up hf4 _;refine⟨_,es++[(u,w)],_,_,_,_,Z,T4.upl ntf nsf _,λb o nb nf q=>?_,ao,(al.mono λ_ _ q=>q.mono ((aI.step (K:=K) S4).trans t5)).snoc ⟨pe,Z,t5 _ _ h4⟩,by rw[Q2,hlen1];rfl,λe he=>?_,λa b h=>?_⟩
   ·rw[aJ nf];exact S4.keep _ _ nb (kp1 b o nb nf q)
   ·rcases Q6.mp he with z|z
    ·exact ok e z
    ·rw[QK.mp z];exact⟨(all u).mp (QC hu),(all w).mp (QC hw)⟩
   ·rcases Q6.mp h with z|z
    ·exact rk a b z
    ·cases QK.mp z
     rw[ps2 _ _ hu,ps2 _ _ hw];omega
  ·rintro σ H1 ⟨xs,es,x4',x6,x7,x8,rfl,T1,kp1,hf,al,hlen1,ok,rk⟩;refine⟨_,Z,_,Z,lf,_,Z,aZ.of hf,λpc hpc=>?_⟩;rw[show(40:Int)=((40:Nat):Int) from Z,uB];have s5:=au hpc (.lst (xs.take (ZW 40 xs.length)));refine⟨pc,_,Z,.inl ⟨aZ.of ao,λp hp=>?_⟩⟩;have s6:=au hp (.tup (xs.take (ZW 40 xs.length)));have s56:=s5.trans s6;have kpH:∀b o,b≠t₁->H b=some o->H1 b=some o:=λb o nb q=>kp1 b o nb (hfN b o nb q) (sF _ _ (kp b o nb q))
   refine k (.ref p) (es.take (ZW 40 xs.length)) _ (aY.trans ⟨kpH,⟨_,e0⟩,T1.lst⟩ (aY.same s56 T1.lst)) (T1.same s56) ⟨p,_,Z,bz.of ao,Als.takeI _ (al.mono λ_ _ q=>q.mono (aI.same s56))⟩ (λe he=>ok e (RZ he)) ⟨ps,ps1,λa b h=>rk a b (RZ h)⟩ (by rw[Rs];omega)
theorem Cs(T:de K mg t):bi P w K mg base cT 1 t.a_Q38 t.d_Q38 ["_law_plan","_law_number"] (qN K):=by
 refine T.F_Q38.ok vm χ ψ
 ·obtain⟨_,_,_,rfl,_⟩:=h;rfl
 obtain⟨v,pl,k,rfl,⟨p,xs,rfl,hS,al⟩,l24,wd,kk⟩:=h;refine cJ.ok (ah (bL 2 vm.nd (cC ai)) (ah (bR Q8 Z (db Z T.z_range (af (aH aN (by rfl) T.z_len R4 (af (qv 0) ai ag)) ai aD)) (ay (i:=3) vm.nd Z θ) (ap (cH (gl Rv Xa Xb yz (qv 2) (af (bP (N':=["_law_place","_law_t","_law_number","_law_plan"]) (src:=[none,some 3,some 1,some 0]) Z (by exact(db Z T.z_range (af (aH aN (by rfl) T.z_len R4 (af (bH az (qv 0) (qv 3) (λ_ _=>Z)) ai aM)) ai aD))) (λ_ _ _ _ _=>(by exact(by exact ay (i:=0) (by show Ru (["_law_place","_law_t","_law_number","_law_plan"]:List Rr);decide +kernel) ν θ))) (λ_ _ _ _ _=>(dD (aT eZ (by exact(bH (bB (K:=K) ν) (by exact(bH (bB (K:=K) ν) (by exact(bH (bB (K:=K) ν) (by exact(qv 3)) (by exact(qv 1)) (by exact λ_ _=>Z))) (by exact(qv 0)) (by exact λ_ _=>Z))) aj (by exact λ_ _=>Z))) (by exact(qv 2)) (aV _)))) (λ_ _ _ _ _=>(by exact(by exact(bD (af (by exact(qv 1)) (af (by exact(qv 0)) ai ag) ag))))) (by exact⟨Z,Z,Z,Z,⟨Z,Z,Z,Z,⟨Z,Z,Z,Z,trivial⟩⟩⟩) Z (by decide +kernel) Z (by decide +kernel) (by exact bj Z ⟨Z,⟨Z,⟨Z,trivial⟩⟩⟩)) ai cU))))) (ap (aC (qv 2))))) ?_
 nofun
 have len:=al.len;refine⟨(by show 0≤sizeLine;exact Re _),λl hl=>?_⟩;have nl:∀b o,H b=some o->b≠l:=λb o q=>aX q hl
 have s0:=au hl (.lst []);let Iv1:Nat->L2.St->Hp->Prop:=λi σ H'=>∃(x3:Option V) (ys:List V),σ=[some (.ref p),some (.int (k:Nat)),some (.ref l),x3]/\aL H H'/\H' l=some (.lst ys)/\Als (Nz K H') ys (pQ pl i k)
 refine⟨_,Z,p,_,Z,.inr (aI.same s0 _ _ hS),_,Z,ω,ω,d7 (lo:=0) (n:=xs.length) Iv1 ⟨none,[],Z,s0,ao,.nil⟩ ?_ ?_⟩
 ·rintro i σ H1 hi ⟨x3,ys,rfl,sm,hl1,al1⟩;rw[VN];obtain⟨x,hx⟩:∃x,xs[i]?=some x:=⟨_,Qw hi⟩;obtain⟨q,ht,tv⟩:=al.at hx;have t1:=aI.same (K:=K) sm;obtain⟨pt,zs,rfl,hSt,alt⟩:=tv.mono t1;have lt:=wd q (QC ht);have lz:=alt.len;have hS1:=t1 _ _ hS;have eq:pl.getD i []=q:=aB [] ht;refine⟨_,Z,.inl ⟨Z,_,aZ.of hl1⟩,_,Z,_,Z,p,_,_,_,Z,Z,hS1,bh hx,pt,_,Z,.inr hSt,_,Z,ω,ω,λD hD=>Dn (K:=K) (P:=Nz K) (p:=λj=>decide ((q.getD j (0,(0,1))).1=k)) (f:=λj:Nat=>(i,j)) (λ_ _ _ _ t z=>z.mono t) hD ω (λj H' hj s' R E kR kE=>?_) λH2 us s2 h2 al2=>?_⟩
  ·rw[VN];have hj':j<zs.length:=ω
   obtain⟨y,hy⟩:∃y,zs[j]?=some y:=⟨_,Qw hj'⟩;obtain⟨c,hc,pv⟩:=alt.at hy;rw[aB (0,(0,1)) hc] at kR kE;have t':=aI.same (K:=K) s';obtain⟨pc,z,rfl,hSc,_⟩:=pv.mono t';refine⟨gf.set Z,_,Z,_,Z,p,_,_,_,Z,Z,t' _ _ hS1,bh hx,_,Z,pt,_,_,_,Z,Z,t' _ _ hSt,bh hy,pc,_,_,_,Z,Z,hSc,Z,_,Z,Z,_,Z,?_⟩;by_cases ce:c.1=k
   ·refine dz (by rw[ce]) ⟨_,Z,_,Z,ma,λq hq=>?_⟩;exact kR (decide_eq_true ce) _ _ (au hq _) ⟨q,Z,bz.of ao⟩
   ·exact dA (λz=>ce (by injection z with z;omega)) (kE (decide_eq_false ce) _ (aL.refl _))
  have e2:(((Qv (zs.length:Int).toNat).filter λj=>decide ((q.getD j (0,(0,1))).1=k)).map λj:Nat=>(i,j))=DG pl i (pl.getD i []).length k:=by
   unfold DG bY;rw[eq,show(zs.length:Int).toNat=q.length by omega]
  rw[e2] at al2;have hl2:=s2 _ _ hl1;have ly:ys.length≤240:=by
   rw[al1.len];have:=tS wd k i ω;omega
  have lu:us.length≤10:=by
   rw[al2.len];exact Rm wD (by rw[eq];exact lt)
  refine⟨l,D,ys,us,Z,Z,hl2,h2,Rm (show ys.length+us.length≤1000 by omega) δ,?_⟩;have tm:=aI.up (K:=K) hl2 (ys++us);refine⟨_,ys++us,Z,λb o q=>?_,ao,?_⟩
  ·rw[aJ (nl b o q)];exact s2 _ _ (sm _ _ q)
  ·exact My.Als.app (al1.mono λ_ _ z=>(z.mono (aI.same s2)).mono tm) (al2.mono λ_ _ z=>z.mono tm)
 ·rintro σ H1 ⟨x3,ys,rfl,sm,hl1,al1⟩;rw[len,l24] at al1;exact⟨_,Z,kk l ys H1 sm hl1 al1⟩
theorem Lv(T:de K mg t):bi P w K mg base cT 2 t.a_Q5 t.d_Q5 ["_law_one","_law_other"] (jV K):=by
 refine T.F_Q5.ok KW χ ψ
 ·obtain⟨_,_,_,_,rfl,_⟩:=h;rfl
 obtain⟨v,w,ss,ss2,rfl,⟨p,xs,rfl,hp,al⟩,⟨p2,xs2,rfl,hp2,al2⟩,l24,m24,am,am2,le,k⟩:=h;refine cJ.ok (ap (aC (dP kJ cP (bP (N':=["_law_here","_law_there"]) (src:=[none,none]) Z (by exact(HK Z T.z_zip (af (qv 0) (af (qv 1) ai ag) ag))) (λ_ _ _ _ _=>(by exact(by exact ic (K:=K) (n:=2) ν ν (by exact aR (by exact ay (i:=0) (by show Ru (["_law_here","_law_there"]:List Rr);decide +kernel) ν θ) (by exact aR (by exact ay (i:=1) (by show Ru (["_law_here","_law_there"]:List Rr);decide +kernel) ν θ) ca))))) (λ_ _ _ _ _=>cG) (λ_ _ _ _ _=>(by exact(by exact(dQ (Co T) (by exact hr.mono δ) ν T.m_Q55 T.F_Q55.kp T.b_Q55 (by exact .nil) (by exact me) (af (by exact(qv 0)) (af (by exact(qv 1)) ai ag) ag))))) (by exact trivial) Z (by decide +kernel) Z (by decide +kernel) (by exact bj Z trivial)) (by with_unfolding_all rfl)))) ?_;nofun
 have l1:=al.len;have l2:=al2.len;refine⟨_,Z,_,Z,p,p2,Z,⟨_,hp⟩,⟨_,hp2⟩,λD hD=>cw (DM hp hp2 ω) (λ_=>true) (λ_=>V.bl false) hD ω (λi x H' hi s' hx R E kR kE=>?_) λH1 s1 h1=>?_⟩
 ·obtain⟨pp,x,y,rfl,hx1,hx2,hpp⟩:=hx;obtain⟨r,hr1,rv⟩:=al.at hx1;obtain⟨q,hq1,qv⟩:=al2.at hx2;have t':=aI.same (K:=K) s';have lt:=le i ω;rw[aB (0,1) hr1,aB (0,1) hq1] at lt;refine⟨pp,_,Z,bz.of hpp,Z,_,_,Z,_,_,Z,Z,gf.set' (gf.set Z) Z,?_⟩;refine⟨_,Z,_,Z,x,y,r,q,130,130,Z,rv.mono t',qv.mono t',(am r (QC hr1)).wf,(am2 q (QC hq1)).wf,δ,?_⟩;rw[lt];exact kR Z _ (aL.refl _)
 have e:(((Qv xs.length).filter λ_=>true).map λ_=>V.bl false)=(Rf xs.length false).map V.bl:=by
  rw[RP.mpr (λ_ _=>Z),YT];refine UV λi=>?_
  rw[QJ,Te];by_cases c:i<xs.length
  ·rw[Tr c,if_pos c];rfl
  ·rw[R5 (by rw[RL];omega),if_neg c];rfl
 rw[e] at h1;refine⟨D,_,Z,.inl (aZ.of h1),Z,Fk _,?_⟩;rw[LI λb hb=>Vt hb];exact k _ s1
theorem Lu(T:de K mg t):bi P w K mg base cT 2 t.a_Q6 t.d_Q6 ["_law_sheet","_law_plan"] (jU K):=by
 refine T.F_Q6.ok Ao χ ψ
 ·obtain⟨_,_,_,_,_,rfl,_⟩:=h;rfl
 obtain⟨v,u,ws,es,pl,rfl,⟨ps,a,b,rfl,hS,wv,⟨pb,xb,rfl,hSb,alb⟩⟩,eok,pv,pr,k⟩:=h;refine cJ.ok (ah (bR Q8 Z (dm (bM az (qv 0) aj)) (eP Z (aR (ay (i:=2) Ao.nd Z θ) (aR (ay (i:=3) Ao.nd Z θ) ca))) (ap (bA (aT (IA hr) (bM bv (bE (Cs T) hr T.m_Q38 T.F_Q38.kp T.b_Q38 (af (qv 1) (af (qv 2) ai ag) ag)) (kG hX aj)) (bM bv (bE (Cs T) hr T.m_Q38 T.F_Q38.kp T.b_Q38 (af (qv 1) (af (qv 3) ai ag) ag)) aj) (aV _)) (ap (aC cP)) aQ))) (ap (aC cP))) ?_
 nofun
 have l24:=pr.len;have few:∀q∈pl,q.length≤10:=λq hq=>by
  obtain⟨t,e⟩:=Va hq;have:=pr.few t;rw[aB [] e] at this;exact this
 let Iv1:Nat->L2.St->Hp->Prop:=λi σ H'=>∃(x3 x4:Option V),σ=[some (.ref ps),some u,x3,x4]/\aL H H'
 refine⟨_,Z,ps,_,_,_,Z,Z,hS,Z,pb,Z,⟨_,hSb⟩,gr (K:=K) (a:=pb) (xs:=xb) Iv1 ⟨_,_,Z,aL.refl _⟩ (λi σ H' _ ⟨_,_,_,sm⟩=>aI.same sm _ _ hSb) ?_ ?_⟩
 ·rintro i x σ H1 hx ⟨x3,x4,rfl,sm⟩;obtain⟨⟨ea,eb⟩,he,pe,rfl,hSe⟩:=alb.at hx;have m:=QC he;obtain⟨q1,q2⟩:=eok _ m;have t1:=aI.same (K:=K) sm;obtain⟨x1,e1⟩:∃x,(pQ pl 24 ea)[(pQ pl 24 ea).length-1]?=some x:=⟨_,Qw (by have:=SL.mpr (pr.ne ea q1);omega)⟩;obtain⟨x2,e2⟩:∃x,(pQ pl 24 eb)[0]?=some x:=⟨_,Qw (SL.mpr (pr.ne eb q2))⟩;have lt:=pr.lean ea eb m x1 (QC e1) x2 (QC e2);refine⟨pe,_,Z,t1 _ _ hSe,Z,_,_,Z,_,_,Z,Z,?_⟩;refine⟨_,Z,_,Z,u,pl,ea,Z,pv.mono t1,l24,few,λl1 xs1 H2 s2 hl1 al1=>?_⟩;have n1:=al1.len;obtain⟨v1,hv1⟩:∃v,xs1[xs1.length-1]?=some v:=⟨_,Qw (by have:=SL.mpr (pr.ne ea q1);omega)⟩;obtain⟨y1,hy1,p1⟩:=al1.at hv1;rw[n1,e1] at hy1
  cases hy1
  refine⟨_,Z,l1,_,_,v1,Z,Z,aZ.of hl1,(by rw[mB (by have:=SL.mpr (pr.ne ea q1);omega)];exact hv1),_,Z,_,Z,u,pl,eb,Z,(pv.mono t1).mono (aI.same s2),l24,few,λl2 xs2 H3 s3 hl2 al2=>?_⟩;have n2:=al2.len;obtain⟨v2,hv2⟩:∃v,xs2[0]?=some v:=⟨_,Qw (by have:=SL.mpr (pr.ne eb q2);omega)⟩;obtain⟨y2,hy2,p2⟩:=al2.at hv2;rw[e2] at hy2
  cases hy2
  refine⟨l2,_,_,v2,Z,Z,aZ.of hl2,bh (j:=0) hv2,_,_,p1.mono (aI.same s3),p2,_,Z,?_⟩;rw[show Ki (((x1.1:Nat):Int),((x1.2:Nat):Int)) (((x2.1:Nat):Int),((x2.2:Nat):Int))=false from by
   unfold Ki;rw[decide_eq_false (show ¬((x1.1:Nat):Int)>((x2.1:Nat):Int) by omega),Vq,Bool.and_eq_false_iff];rcases lt with l | ⟨_,l⟩
   ·exact .inl (decide_eq_false (by show ¬((x1.1:Nat):Int)=((x2.1:Nat):Int);omega))
   ·exact .inr (decide_eq_false (by show ¬((x1.2:Nat):Int)>((x2.2:Nat):Int);omega))]
  exact bW ⟨_,_,Z,(sm.trans s2).trans s3⟩
 ·rintro σ H1 ⟨x3,x4,rfl,sm⟩;exact k _ sm
theorem Je(T:de K mg t):bi P w K mg base cT 5 t.a_Q26 t.d_Q26 ["_law_tape_here","_law_works_here"] (nP K):=by
 refine T.F_Q26.ok lO χ ψ
 ·obtain⟨_,_,_,_,rfl,_⟩:=h;rfl
 obtain⟨t₁,s₁,v,ws,rfl,tp,wv,w9,ok,k⟩:=h;refine cJ.ok (ah (rD (bL 2 lO.nd (HM (bE (Ct T) hr T.m_Q36 T.F_Q36.kp T.b_Q36 (af (qv 0) (af aj (af aj ai aG) aG) ag)) (fm (bD (af (bD (af aj (af aj (af (bD (af aj (af aj ai aG) aG)) ai cb) aG) aG)) ai cb)))))) (ah (bA (gL (iS (aT (vC hr) (qv 1) (bD ai) (aV _)) (gA (aT eZ (bE (bZ T) hr T.m_Q53 T.F_Q53.kp T.b_Q53 (af (qv 0) (af aj ai aG) ag)) aj (aV _))))) (ap (aC (aK jh (qv 1) (qv 2)))) aQ) (ah (bL 3 lO.nd (bE (bZ T) hr T.m_Q53 T.F_Q53.kp T.b_Q53 (af (qv 0) (af (aH aN (by rfl) T.z_len R4 (af (qv 1) ai ag)) ai aD) ag))) (ah (gC (bM az (qv 1) (qv 3)) (eP Z (aR (ay (i:=4) lO.nd Z θ) (aR (ay (i:=5) lO.nd Z θ) (aR (ay (i:=6) lO.nd Z θ) ca))))) (ap (aC (aK jh (aK jh (ef h8 (qv 1) gk (eU (qv 3))) (bD (af (bD (af (qv 4) (af (qv 5) (af (bE (IQ T) hr T.m_Q54 T.F_Q54.kp T.b_Q54 (af (qv 6) (af (bM az (bM az (qv 2) aj) aj) ai aM) ag)) ai aD) ag) ag)) ai cb))) (ef h8 (qv 1) (eU (aK bJ (qv 3) aj)) gk)))))))) ?_
 nofun
 refine⟨λσ H'=>∃(u:V) (w0:Wk),σ=[some (.ref t₁),some v,some u,none,none,none,none]/\aY t₁ H H'/\cR H' t₁ s₁/\eC K H' u [w0]/\DH w0,?_,?_⟩
 ·refine⟨_,Z,t₁,s₁,1,24,Z,tp,δ,δ,δ,λv1 wf H1 S1 T1 wv1 l1 ok1=>?_⟩;obtain⟨p1,xs1,rfl,hp1,al1⟩:=id wv1;have e1:=al1.len;refine⟨p1,xs1,Z,hp1,λz=>?_,λz=>?_⟩
  ·refine⟨ma,λa1 h1=>⟨FU,λa2 h2=>⟨DK,λa3 h3=>?_⟩⟩⟩;have s1:=au h1 (.tup [.int 3,.int 2]);have s2:=au h2 (.tup [.int 2,.int 5,.ref a1]);have s3:=au h3 (.tup [.ref a2]);exact⟨_,(2,5,(3,2)),Z,S1.trans (aY.same ((s1.trans s2).trans s3) T1.lst),((T1.same s1).same s2).same s3,⟨a3,[.ref a2],Z,bz.of ao,.cons ⟨a2,.ref a1,Z,aI.same s3 _ _ (bz.of ao),(RV.of ao:RV K _ (.ref a1) (3,2)).mono (aI.same (s2.trans s3))⟩ .nil⟩,Kx⟩
  ·match wf,l1 with
   | [],_=>exact absurd (V4 e1) z
   | [w0],_=>exact⟨_,w0,Z,S1,T1,wv1,ok1 w0 QL⟩
   |_::_::_,l=>exact absurd l (by simp)
 ·rintro σ' H1 ⟨u,w0,rfl,S1,T1,fv,wp0⟩;obtain⟨p,xs,rfl,hp,al⟩:=id wv;obtain⟨p2,xs2,rfl,hp2,al2⟩:=id fv;have len:=al.len;have t1:=aI.step (K:=K) S1;have fin:∀(H2 H3:Hp) (q:Addr),aY t₁ H1 H2->cR H2 t₁ s₁->aL H2 H3->bz K H3 q (xs++xs2)->Q (.ref q) H3:=λH2 H3 q S2 T2 s3 hq=>by
   have t13:=(aI.step (K:=K) S2).trans (aI.same (K:=K) s3);have t3:=t1.trans t13;refine k _ (ws++[w0]) _ (S1.trans (S2.trans (aY.same s3 T2.lst))) (T2.same s3) ⟨q,_,Z,hq,My.Als.app (al.mono λ_ _ z=>z.mono t3) (al2.mono λ_ _ z=>z.mono t13)⟩ (by rw[Q2];show _+1≤10;omega) (λw hw=>?_) (λX Y h=>?_)
   ·rcases Q6.mp hw with z|z
    ·exact(ok w z).ok
    ·rw[QK.mp z];exact wp0.ok
   ·have:=Kc (a:=ws) (b:=[]) (w:=w0) wp0.ok X Y h;rw[R6] at this;exact this
  refine⟨_,Z,(by show 0≤sizeLine;exact Re _),λpe he=>?_⟩;have s2:=au he (.tup []);have he2:upd H1 pe (.tup []) pe=some (.tup []):=ao;generalize upd H1 pe (.tup [])=H2 at s2 he2 ⊢;have T2:=T1.same s2;have S2:=aY.same s2 T1.lst;have t2:=t1.trans (aI.same (K:=K) s2);refine⟨_,_,(wv.mono t2).deep,.tup (bz.of he2) .nil,mW _,Z,lA _,_,Z,?_⟩;have ee:R3 (uA ws) (.tuple [])=ws.isEmpty:=by cases ws<;>rfl
  rw[ee];have sml:xs.length+xs2.length≤1000:=by rw[al2.len,len];show _+1≤1000;omega
  cases c0:ws.isEmpty with
  |true=>exact iD (iD ⟨_,Z,_,Z,p,p2,_,_,Z,Z,t2 _ _ hp,aI.same s2 _ _ hp2,Ss (be sml),λq3 H3 s3 hq3=>fin H2 H3 q3 S2 T2 s3 hq3⟩)
  |false=>
   refine bW ?_;refine⟨_,Z,t₁,s₁,2,Z,T2,ω,ω,λr1 x_r1 a_r1 b_r1 T3=>?_⟩;have S_r1:aY t₁ H2 _:=aY.up (ys:=x_r1) T2.lst.choose_spec;generalize upd H2 t₁ (.lst x_r1)=H3 at S_r1 T3 ⊢;have S3:=S2.trans S_r1;have t13:=aI.step (K:=K) S3;refine⟨Z,_,Z,rT (λ_=>⟨_,Z,_,Z,p,p2,_,_,Z,Z,t13 _ _ (t1 _ _ hp),t13 _ _ hp2,Ss (be sml),λq3 H4 s4 hq4=>fin H3 H4 q3 S3 T3 s4 hq4⟩) (λ_=>?_)⟩;have lp:0<ws.length:=by cases ws with|nil=>cases c0|cons _ _=>exact XT _
   refine⟨_,Z,_,Z,p,_,Z,.inr (t13 _ _ (t1 _ _ hp)),t₁,s₁,_,Z,T3,ω,ω,λr2 x_r2 a_r2 b_r2 T4=>?_⟩;have S_r2:aY t₁ H3 _:=aY.up (ys:=x_r2) T3.lst.choose_spec;generalize upd H3 t₁ (.lst x_r2)=H4 at S_r2 T4 ⊢;have S4:=S3.trans S_r2;have t14:=aI.step (K:=K) S4;obtain⟨n,rfl⟩:=RK a_r2;obtain⟨x,hx⟩:∃x,xs[n]?=some x:=⟨_,Qw ω⟩;obtain⟨w1,hw1,pw0,am,rfl,hpw0,ram⟩:=al.at hx;have okw:=(ok w1 (QC hw1)).ok;refine⟨_,Z,_,Z,p,_,_,_,Z,Z,t14 _ _ (t1 _ _ hp),bh hx,?_⟩;refine⟨pw0,_,Z,t14 _ _ (t1 _ _ hpw0),Z,_,_,Z,_,_,Z,_,_,Z,Z,?_⟩;have hpN:=t14 _ _ (t1 _ _ hp);refine⟨_,Z,_,Z,_,Z,p,xs,Z,hpN,λq1 Ha sa hq1=>?_⟩;rw[vZ (n:=n) ω] at hq1;obtain⟨x0,hx0⟩:∃x,xs2[0]?=some x:=⟨_,Qw (by rw[al2.len];exact Nat.zero_lt_one)⟩;obtain⟨w0',hw0,pf,fa,rfl,hpf,rfa⟩:=al2.at hx0
   cases hw0
   have t17:=t14.trans (aI.same (K:=K) sa);have wa:=(ok w1 (QC hw1)).po;refine⟨_,Z,_,Z,_,Z,_,Z,p2,_,_,_,Z,Z,t17 _ _ hp2,bh (j:=0) hx0,pf,_,_,_,Z,Z,t17 _ _ hpf,Z,am,fa,w1.2.2,w0.2.2,98,98,Z,ram.mono (t1.trans t17),rfa.mono t17,wa.wf,wp0.po.wf,δ,λpa hpa=>⟨FU,λpg hpg=>?_⟩⟩;have sz1:=au hpa (.tup [.int (bQ w1.2.2 w0.2.2).1,.int (bQ w1.2.2 w0.2.2).2]);have sz2:=au hpg (.tup [.int (w1.1:Nat),.int (w1.2.1:Nat),.ref pa]);have sz:=sz1.trans sz2;have wg:zk K _ (.ref pg) (w1.1,w1.2.1,bQ w1.2.2 w0.2.2):=⟨pg,.ref pa,Z,bz.of ao,(RV.of ao:RV K _ (.ref pa) (bQ w1.2.2 w0.2.2)).mono (aI.same sz2)⟩;clear sz1 sz2;generalize upd (upd Ha pa (.tup [.int (bQ w1.2.2 w0.2.2).1,.int (bQ w1.2.2 w0.2.2).2])) pg (.tup [.int (w1.1:Nat),.int (w1.2.1:Nat),.ref pa])=Hz at sz wg ⊢;refine⟨DK,λq2 hq2=>?_⟩;have sb:=au hq2 (.tup [.ref pg]);have hq2':bz K (upd Hz q2 (.tup [.ref pg])) q2 [.ref pg]:=bz.of ao;generalize upd Hz q2 (.tup [.ref pg])=Hb at sb hq2' ⊢;refine⟨q1,q2,_,_,Z,Z,aI.same (K:=K) (sz.trans sb) _ _ hq1,hq2',Ss (be (by rw[Rs];show _+1≤1000;omega)),λq3 Hc sc hq3=>?_⟩;have sab:=sa.trans ((sz.trans sb).trans sc);refine⟨_,Z,_,Z,_,_,Z,Z,_,Z,p,xs,Z,aI.same (K:=K) sab _ _ hpN,λq4 Hd sd hq4=>?_⟩;rw[show(n:Int)+1=((n+1:Nat):Int) from Z,uC (n:=n+1) ω] at hq4;refine⟨q3,q4,_,_,Z,Z,aI.same (K:=K) sd _ _ hq3,hq4,Ss (be (by rw[Q2,Rs,Sj];show _+1+_≤1000;omega)),λq5 H5 se hq5=>?_⟩;have sN:=sab.trans (sd.trans se);have e5:xs.take n++[.ref pg]++xs.drop (n+1)=xs.take n++.ref pg::xs.drop (n+1):=by rw[VO];rfl
   rw[e5] at hq5;have t15:=t1.trans (t14.trans (aI.same (K:=K) sN));obtain⟨okg,leg⟩:=Cf wa wp0.po;have sp:=tj hw1;refine k _ (ws.take n++(w1.1,w1.2.1,bQ w1.2.2 w0.2.2)::ws.drop (n+1)) _ (S1.trans (S4.trans (aY.same sN T4.lst))) (T4.same sN) ⟨q5,_,Z,hq5,My.Als.app (Als.takeI n (al.mono λ_ _ z=>z.mono t15)) (.cons (wg.mono (aI.same (sb.trans (sc.trans (sd.trans se))))) (Als.dropI (n+1) (al.mono λ_ _ z=>z.mono t15)))⟩ (by rw[Q2,Rs,Rh,Sj];omega) (CI (λw hw=>(ok w hw).ok) ⟨okw.le,okw.lt,okg⟩) λX Y h=>?_
   have d:=FR (a:=ws.take n) (b:=ws.drop (n+1)) (w:=w1) (w':=(w1.1,w1.2.1,bQ w1.2.2 w0.2.2)) Z Z leg X Y h;rw[←sp] at d;exact d
theorem Jh(T:de K mg t):bi P w K mg base cT 2 t.a_Q21 t.d_Q21 ["_law_tape_here","_law_works_here"] (mM K):=by
 refine T.F_Q21.ok j7 χ ψ
 ·obtain⟨_,_,_,_,rfl,_⟩:=h;rfl
 obtain⟨t₁,s₁,v,ws,rfl,tp,wv,w9,ok,k⟩:=h;refine cJ.ok (ah (bA (aT (vC hr) (qv 1) (bD ai) (aV _)) (ap (aC (qv 1))) aQ) (ah (bL 2 j7.nd (bE (bZ T) hr T.m_Q53 T.F_Q53.kp T.b_Q53 (af (qv 0) (af (aH aN (by rfl) T.z_len R4 (af (qv 1) ai ag)) ai aD) ag))) (ah (gC (bM az (qv 1) (qv 2)) (eP Z (aR (ay (i:=3) j7.nd Z θ) (aR (ay (i:=4) j7.nd Z θ) (aR (ay (i:=5) j7.nd Z θ) ca))))) (ah (bL 6 j7.nd (aK bJ (qv 3) (bE (bZ T) hr T.m_Q53 T.F_Q53.kp T.b_Q53 (af (qv 0) (af (aK bJ (aK fU (qv 4) (qv 3)) aj) ai ba) ag)))) (ah (bL 7 j7.nd (aK bJ (qv 6) (bE (bZ T) hr T.m_Q53 T.F_Q53.kp T.b_Q53 (af (qv 0) (af (aK bJ (aK fU (qv 4) (qv 6)) aj) ai ba) ag)))) (ap (aC (aK jh (aK jh (ef h8 (qv 1) gk (eU (qv 2))) (bD (af (bD (af (qv 6) (af (qv 7) (af (qv 5) ai ag) ag) ag)) ai cb))) (ef h8 (qv 1) (eU (aK bJ (qv 2) aj)) gk))))))))) ?_
 nofun
 obtain⟨p,xs,rfl,hp,al⟩:=id wv;have len:=al.len;refine⟨_,Z,(by show 0≤sizeLine;exact Re _),λpe he=>?_⟩;have s2:=au he (.tup []);have he2:upd H pe (.tup []) pe=some (.tup []):=ao;generalize upd H pe (.tup [])=H2 at s2 he2 ⊢;have T2:=tp.same s2;have S2:=aY.same s2 tp.lst;have t2:=aI.same (K:=K) s2;refine⟨_,_,(wv.mono t2).deep,.tup (bz.of he2) .nil,mW _,Z,lA _,_,Z,?_⟩;have ee:R3 (uA ws) (.tuple [])=ws.isEmpty:=by cases ws<;>rfl
 rw[ee]
 cases c0:ws.isEmpty with
 |true=>exact iD ⟨_,Z,k _ ws _ S2 T2 (wv.mono t2) ω (λw hw=>(ok w hw).ok) λ_=>RM⟩
 |false=>
   refine bW ?_;have lp:0<ws.length:=by cases ws with|nil=>cases c0|cons _ _=>exact XT _
   refine⟨_,Z,_,Z,p,_,Z,.inr (t2 _ _ hp),t₁,s₁,_,Z,T2,ω,ω,λr2 x_r2 a_r2 b_r2 T4=>?_⟩;have S_r2:aY t₁ H2 _:=aY.up (ys:=x_r2) T2.lst.choose_spec;generalize upd H2 t₁ (.lst x_r2)=H4 at S_r2 T4 ⊢;have S4:=S2.trans S_r2;have t14:=aI.step (K:=K) S4;obtain⟨n,rfl⟩:=RK a_r2;obtain⟨x,hx⟩:∃x,xs[n]?=some x:=⟨_,Qw ω⟩;obtain⟨w1,hw1,pw0,am,rfl,hpw0,ram⟩:=al.at hx;have okw:=(ok w1 (QC hw1)).ok;have l1:=okw.le;have l2:=okw.lt;refine⟨_,Z,_,Z,p,_,_,_,Z,Z,t14 _ _ hp,bh hx,?_⟩;refine⟨pw0,_,Z,t14 _ _ hpw0,Z,_,_,Z,_,_,Z,_,_,Z,Z,?_⟩;refine⟨_,Z,_,Z,_,Z,_,Z,_,_,Z,Z,_,_,Z,Z,t₁,s₁,_,Z,T4,ω,ω,λr3 x_r3 a_r3 b_r3 T5=>?_⟩;have S_r3:aY t₁ H4 _:=aY.up (ys:=x_r3) T4.lst.choose_spec;generalize upd H4 t₁ (.lst x_r3)=H5 at S_r3 T5 ⊢;have S5:=S4.trans S_r3;refine⟨_,_,Z,Z,?_⟩;dsimp only at b_r3 ⊢;obtain⟨bb,hbb⟩:∃bb:Nat,(w1.1:Int)+r3=(bb:Nat):=⟨((w1.1:Int)+r3).toNat,ω⟩;rw[hbb];refine⟨_,Z,_,Z,_,Z,_,Z,_,_,Z,Z,_,_,Z,Z,t₁,s₁,_,Z,T5,ω,ω,λr4 x_r4 a_r4 b_r4 T7=>?_⟩;have S_r4:aY t₁ H5 _:=aY.up (ys:=x_r4) T5.lst.choose_spec;generalize upd H5 t₁ (.lst x_r4)=H7 at S_r4 T7 ⊢;have S7:=S5.trans S_r4;refine⟨_,_,Z,Z,?_⟩;dsimp only at b_r4 ⊢;obtain⟨ee,hee⟩:∃ee:Nat,(bb:Int)+r4=(ee:Nat):=⟨((bb:Int)+r4).toNat,ω⟩;rw[hee];have t17:=aI.step (K:=K) S7;have hpN:=t17 _ _ hp;refine⟨_,Z,_,Z,_,Z,p,xs,Z,hpN,λq1 Ha sa hq1=>?_⟩;rw[vZ (n:=n) ω] at hq1;refine⟨_,Z,_,Z,_,Z,FU,λpg hpg=>?_⟩;have sz:=au hpg (.tup [.int (bb:Nat),.int (ee:Nat),am]);have wg:zk K _ (.ref pg) (bb,ee,w1.2.2):=⟨pg,am,Z,bz.of ao,ram.mono ((t17.trans (aI.same (K:=K) sa)).trans (aI.same sz))⟩;generalize upd Ha pg (.tup [.int (bb:Nat),.int (ee:Nat),am])=Hz at sz wg ⊢;refine⟨DK,λq2 hq2=>?_⟩;have sb:=au hq2 (.tup [.ref pg]);have hq2':bz K (upd Hz q2 (.tup [.ref pg])) q2 [.ref pg]:=bz.of ao;generalize upd Hz q2 (.tup [.ref pg])=Hb at sb hq2' ⊢;refine⟨q1,q2,_,_,Z,Z,aI.same (K:=K) (sz.trans sb) _ _ hq1,hq2',Ss (be (by rw[Rs];show _+1≤1000;omega)),λq3 Hc sc hq3=>?_⟩;have sab:=sa.trans ((sz.trans sb).trans sc);refine⟨_,Z,_,Z,_,_,Z,Z,_,Z,p,xs,Z,aI.same (K:=K) sab _ _ hpN,λq4 Hd sd hq4=>?_⟩;rw[show(n:Int)+1=((n+1:Nat):Int) from Z,uC (n:=n+1) ω] at hq4;refine⟨q3,q4,_,_,Z,Z,aI.same (K:=K) sd _ _ hq3,hq4,Ss (be (by rw[Q2,Rs,Sj];show _+1+_≤1000;omega)),λq5 H5 se hq5=>?_⟩;have sN:=sab.trans (sd.trans se);have e5:xs.take n++[.ref pg]++xs.drop (n+1)=xs.take n++.ref pg::xs.drop (n+1):=by rw[VO];rfl
   rw[e5] at hq5;have t15:=t17.trans (aI.same (K:=K) sN);have okg:bn (bb,ee,w1.2.2):=⟨by show bb≤ee;omega,by show ee<24;omega,okw.am⟩;have sp:=tj hw1;refine k _ (ws.take n++(bb,ee,w1.2.2)::ws.drop (n+1)) _ (S7.trans (aY.same sN T7.lst)) (T7.same sN) ⟨q5,_,Z,hq5,My.Als.app (Als.takeI n (al.mono λ_ _ z=>z.mono t15)) (.cons (wg.mono (aI.same (sb.trans (sc.trans (sd.trans se))))) (Als.dropI (n+1) (al.mono λ_ _ z=>z.mono t15)))⟩ (by rw[Q2,Rs,Rh,Sj];omega) (CI (λw hw=>(ok w hw).ok) okg) λX=>?_
   have d:=Kb (a:=ws.take n) (b:=ws.drop (n+1)) (w:=(bb,ee,w1.2.2)) (w':=w1) okg (by show w1.1≤bb;omega) (by show ee≤w1.2.1;omega) Z X;rw[←sp] at d;exact d
theorem wR(T:de K mg t):bi P w K mg base cT 7 t.a_Q9 t.d_Q9 ["_law_works_here","_law_other","_law_power"] (kx K):=by
 refine T.F_Q9.ok Al χ ψ
 ·obtain⟨_,_,_,_,_,rfl,_⟩:=h;rfl
 obtain⟨v,w,ws,ws2,kk,rfl,wv,wv2,w10,w10',ok,ok2,k2,k4,D,k⟩:=h;refine cJ.ok (ah (bL 3 Al.nd (bD (af og (af (qv 2) ai ag) aG))) (ah (bL 4 Al.nd (bE (Cp T) hr T.m_Q51 T.F_Q51.kp T.b_Q51 (af (qv 3) (af (bE (lS T) hr T.m_Q18 T.F_Q18.kp T.b_Q18 (af (qv 0) ai ag)) ai aD) ag))) (ah (bA (aT (kf hr) (bE (Jm T) hr T.m_Q13 T.F_Q13.kp T.b_Q13 (af (qv 0) (af (qv 3) (af (bE (Cn T) hr T.m_Q67 T.F_Q67.kp T.b_Q67 (af (qv 0) ai ag)) ai aD) ag) ag)) (qv 4) (aV _)) (ap (aC cP)) aQ) (ap (aC (BM (bE (Co T) hr T.m_Q55 T.F_Q55.kp T.b_Q55 (af (bE (Cp T) hr T.m_Q51 T.F_Q51.kp T.b_Q51 (af (qv 3) (af (bE (lS T) hr T.m_Q18 T.F_Q18.kp T.b_Q18 (af (qv 1) ai ag)) ai aD) ag)) (af (qv 4) ai ag) aD)))))))) ?_
 nofun
 refine⟨_,Z,ma,λp0 hp0=>?_⟩;have s0:=au hp0 (.tup [.str (TH "power"),.int (kk:Nat)]);have rv:J1 K (upd H p0 (.tup [.str (TH "power"),.int (kk:Nat)])) (.ref p0) kk:=⟨p0,Z,bz.of ao⟩;generalize upd H p0 (.tup [.str (TH "power"),.int (kk:Nat)])=H0 at s0 rv ⊢;have l24:∀(zs:List Wk) (ly:List Ly),(aU zs ly).length=24:=λzs ly=>by unfold aU;rw[gi];rfl
 have t0:=aI.same (K:=K) s0;refine⟨_,Z,_,Z,v,ws,Z,wv.mono t0,ω,ok,λq xs lys H1 s1 hq al ly=>?_⟩;have lok:=iV ly δ λt ht=>QH.mp ht
 have ams:=iJ ok w10 lok;have t1:=t0.trans (aI.same (K:=K) s1);refine⟨.ref p0,.ref q,aU ws lys,kk,Z,rv.mono (aI.same s1),k4,⟨q,xs,Z,hq,al⟩,by rw[l24];decide,ams,λu1 H2 s2 r1=>?_⟩;have t2:=t1.trans (aI.same (K:=K) s2);have rv2:=(rv.mono (aI.same s1)).mono (aI.same s2);refine⟨_,Z,_,Z,_,Z,v,ws,Z,wv.mono t2,ω,ok,λx lys2 H3 s3 lv ly2 lok2 _=>?_⟩;have el:=gU.uniq ly2 ly;subst el;have t3:=t2.trans (aI.same (K:=K) s3);refine⟨v,.ref p0,x,ws,kk,lys2,Z,wv.mono t3,w10,ok,rv2.mono (aI.same s3),k4,lv,lok2,Fa ok ly,λu2 H4 s4 r2=>?_⟩;obtain⟨m,rfl⟩:∃m,kk=m+1:=⟨kk-1,ω⟩;rw[JU ok ams ly λy hy=>((qJ ok w10 (lok2 y hy)).am δ).red] at r2;refine⟨_,Z,_,_,r2.deep,(r1.mono (aI.same (s3.trans s4))).deep,si _,si _,kO _,_,Z,?_⟩;rw[iY];refine bW ?_;have t4:=t3.trans (aI.same (K:=K) s4);refine⟨_,Z,_,Z,w,ws2,Z,wv2.mono t4,ω,ok2,λq5 xs5 lys5 H5 s5 hq5 al5 ly5=>?_⟩;have ams5:=iJ ok2 w10' (iV ly5 δ λt ht=>QH.mp ht);refine⟨.ref p0,.ref q5,aU ws2 lys5,m+1,Z,rv2.mono (aI.same ((s3.trans s4).trans s5)),k4,⟨q5,xs5,Z,hq5,al5⟩,by rw[l24];decide,ams5,λu6 H6 s6 r6=>?_⟩;have wf:∀{ss:List R},(∀s∈ss,eT s)->ss.length=24->Wf 530 (fQ (ss.map λs=>dX s (m+1))):=λ{ss} a l=>ud ((qH δ λr hr=>by
  obtain⟨s,hs,rfl⟩:=QU.mp hr;exact tX (a s hs) k4).mono (Sz _) (by rw[Qz,l,Nat.mul_comm];exact QB _))
 obtain⟨d1,v1⟩:=rF (k:=m+1) ams ly;obtain⟨d5,v5⟩:=rF (k:=m+1) ams5 ly5;have up:=Ld ok ok2 ly ly5 D (k:=m+1) ω;refine⟨_,Z,u6,u1,_,_,530,530,Z,r6,r1.mono (aI.same (((s3.trans s4).trans s5).trans s6)),wf ams5 (l24 _ _),wf ams (l24 _ _),δ,_,Z,?_⟩;rw[show dI (fQ ((aU ws2 lys5).map λs=>dX s (m+1))) (fQ ((aU ws lys2).map λs=>dX s (m+1)))=false from(jg d5.pos d1.pos).mpr (by rw[v1,v5];exact up)];exact k _ ((((((s0.trans s1).trans s2).trans s3).trans s4).trans s5).trans s6)
theorem IX(T:de K mg t):bi P w K mg base cT 8 t.a_Q40 t.d_Q40 ["_law_tape_here","_law_works_here"] (qO K):=by
 refine T.F_Q40.ok qZ χ ψ
 ·obtain⟨_,_,_,_,rfl,_⟩:=h;rfl
 obtain⟨t₁,s₁,v,ws,rfl,tp,wv,w9,ok,k⟩:=h;refine cJ.ok (ah (bL 2 qZ.nd (bE (Je T) hr T.m_Q26 T.F_Q26.kp T.b_Q26 (af (qv 0) (af (qv 1) ai ag) ag))) (ah (bA (cf (bC (bE (Lv T) hr T.m_Q5 T.F_Q5.kp T.b_Q5 (af (bE (lS T) hr T.m_Q18 T.F_Q18.kp T.b_Q18 (af (qv 2) ai ag)) (af (bE (lS T) hr T.m_Q18 T.F_Q18.kp T.b_Q18 (af (qv 1) ai ag)) ai aD) aD)))) (ap (aC cP)) aQ) (ah (bL 3 qZ.nd (aK bJ aj (bE (bZ T) hr T.m_Q53 T.F_Q53.kp T.b_Q53 (af (qv 0) (af aj ai aG) ag)))) (ah (bL 4 qZ.nd (bE (Jh T) hr T.m_Q21 T.F_Q21.kp T.b_Q21 (af (qv 0) (af (qv 1) ai ag) ag))) (ap (aC (eQ (bE (wR T) hr T.m_Q9 T.F_Q9.kp T.b_Q9 (af (qv 1) (af (qv 2) (af (qv 3) ai ag) ag) ag)) (fm (bE (wR T) hr T.m_Q9 T.F_Q9.kp T.b_Q9 (af (qv 1) (af (qv 4) (af (qv 3) ai ag) ag) ag)))))))))) ?_
 nofun
 have okw:∀w∈ws,bn w:=λw hw=>(ok w hw).ok
 refine⟨_,Z,_,Z,t₁,s₁,v,ws,Z,tp,wv,w9,ok,λu wg H1 S1 T1 gv lg okg D=>?_⟩;have wv1:=wv.mono (aI.step (K:=K) S1);refine⟨_,Z,u,wg,Z,gv,ω,okg,λq1 x1 ly1 H2 s2 hq1 al1 l1=>?_⟩;refine⟨_,Z,v,ws,Z,wv1.mono (aI.same s2),ω,okw,λq2 x2 ly2 H3 s3 hq2 al2 l2=>?_⟩;have lk1:=iV l1 δ λt ht=>QH.mp ht
 have lk2:=iV l2 δ λt ht=>QH.mp ht
 have am1:=iJ okg lg lk1;have am2:=iJ okw ω lk2;have l24:∀(zs:List Wk) (ly:List Ly),(aU zs ly).length=24:=λzs ly=>by unfold aU;rw[gi];rfl
 have gd:∀(zs:List Wk) (ly:List Ly),(∀r∈aU zs ly,eT r)->∀i,i<24->0<((aU zs ly).getD i (0,1)).2:=λzs ly a i hi=>by
  rw[aB (0,1) (Qw (by rw[l24];exact hi))];exact(a _ (RA _)).bq.pos
 refine⟨_,_,_,_,Z,zx.mono ⟨q1,x1,Z,hq1,al1⟩ (aI.same s3),⟨q2,x2,Z,hq2,al2⟩,l24 _ _,l24 _ _,am1,am2,λi hi=>(jg (gd _ _ am1 i hi) (gd _ _ am2 i hi)).mpr ?_,λH4 s4=>?_⟩
 ·rw[gh l1 hi,gh l2 hi];exact KO okw okg l2 l1 D hi
 refine⟨_,Z,bW ?_⟩;have s14:=(s2.trans s3).trans s4;have S4:=S1.trans (aY.same s14 T1.lst);have T4:=T1.same s14;have gv4:=gv.mono (aI.same s14);have wv4:=wv1.mono (aI.same s14);have le:∀X,FM ws X≤FM wg X:=λX=>by
  have d:=D (λ_=>false) X λ_ _ e=>by cases e
  rw[ju okw,ju okg] at d;grind
 refine⟨_,Z,t₁,s₁,3,Z,T4,ω,ω,λr1 x_r1 a_r1 b_r1 T5=>?_⟩;have S_r1:aY t₁ H4 _:=aY.up (ys:=x_r1) T4.lst.choose_spec;generalize upd H4 t₁ (.lst x_r1)=H5 at S_r1 T5 ⊢;have S5:=S4.trans S_r1;have t5:=aI.step (K:=K) S_r1;refine⟨_,_,Z,Z,?_⟩;dsimp only;obtain⟨m,hm⟩:∃m:Nat,(2:Int)+r1=(m:Nat):=⟨(2+r1).toNat,ω⟩;rw[hm];refine⟨_,Z,_,Z,t₁,s₁,v,ws,Z,T5,wv4.mono t5,w9,ok,λu6 wn H6 S6 T6 nv ln okn dn=>?_⟩;have t6:=aI.step (K:=K) S6;have t46:=t5.trans t6;refine⟨_,Z,_,Z,_,Z,v,u,ws,wg,m,Z,wv4.mono t46,gv4.mono t46,ω,lg,okw,okg,ω,ω,le,λH7 s7=>?_⟩;have t7:=t46.trans (aI.same (K:=K) s7);refine⟨_,Z,?_⟩;refine⟨_,Z,_,Z,_,Z,v,u6,ws,wn,m,Z,wv4.mono t7,nv.mono (aI.same s7),ω,ln,okw,okn,ω,ω,dn,λH8 s8=>?_⟩;have s78:=s7.trans s8;exact k _ (S5.trans (S6.trans (aY.same s78 T6.lst))) (T6.same s78)
theorem rL(T:de K mg t):bi P w K mg base cT 2 t.a_Q61 t.d_Q61 ["self","word","number"] (uZ K t.c_Q61):=by
 refine T.F_Q61.ok GS χ ψ
 ·obtain⟨_,_,_,rfl,_⟩:=h;rfl
 obtain⟨a,x,n,rfl,ha,k⟩:=h;refine cJ.ok (ah (rC Z (qv 0) (bE (vI T) hr T.m_Q64 T.F_Q64.kp T.b_Q64 (af (qv 1) ai ag)) Z) (ap (rC Z (qv 0) (bE (vI T) hr T.m_Q64 T.F_Q64.kp T.b_Q64 (af (qv 2) ai ag)) Z))) ?_
 nofun
 refine⟨_,Z,_,Z,.inr ⟨x,Z⟩,_,Z,a,_,_,Z,T.X_Q61.cl,T.n_Q61_word,.inl ⟨ha,λd hd nd=>?_⟩⟩;have ha2:upd (upd H a (jC a t.c_Q61 (some d))) d (dO d [("word",.str x)]) a=some (jC a t.c_Q61 (some d)):=by rw[aJ nd.symm,ao]
 refine⟨_,Z,_,Z,.inl ⟨n,Z⟩,_,Z,a,_,_,Z,T.X_Q61.cl,T.n_Q61_number,.inr ⟨d,_,ha2,ao,by show 1≤100;decide,?_⟩⟩;have hd0:H d=none:=hd;refine k d _ hd0 nd (λb o nb q=>?_) (by rw[aJ nd.symm];exact ha2) ao;have nbd:b≠d:=aX q hd0;rw[aJ nbd,aJ nbd,aJ nb];exact q
theorem IH(T:de K mg t):bi P w K mg base cT 2 t.a_Q69 t.d_Q69 ["self","work"] (yd K t.c_Q69):=by
 refine T.F_Q69.ok GP χ ψ
 ·obtain⟨_,_,rfl,_⟩:=h;rfl
 obtain⟨a,n,rfl,ha,k⟩:=h;refine cJ.ok (ap (rC Z (qv 0) (bE (vI T) hr T.m_Q64 T.F_Q64.kp T.b_Q64 (af (qv 1) ai ag)) Z)) ?_;nofun
 exact⟨_,Z,_,Z,.inl ⟨n,Z⟩,_,Z,a,_,_,Z,T.X_Q69.cl,T.n_Q69_work,.inl ⟨ha,λd hd nd=>k d hd nd⟩⟩
theorem Jf(T:de K mg t):bi P w K mg base (FT P w) 5 t.a_Q25 t.d_Q25 ["thing"] (nN K t.c_Q61):=by
 refine B.Fun.okD T.F_Q25 iO χ ψ
 ·obtain⟨_,_,_,rfl,_⟩:=h;rfl
 obtain⟨v,ws,es,rfl,hv,h20,h40,ok,eok,ne,k,ke⟩:=h;refine cJ.ok (ah (bA (cf (bC (bE (Lz T) hr T.m_Q2 T.F_Q2.kp T.b_Q2 (af (qv 0) ai ag)))) (ap (gM T.X_Q61 (nh _) Z nH (rL T) (hr.mono δ) T.b_Q61 Z T.m_Q61 (af og (af (kG hX aj) ai qI) aG))) aQ) (ah (bL 1 iO.nd (bM az (qv 0) aj)) (ah (bL 2 iO.nd (bM az (qv 0) aj)) (ah (bR WV Z (eV Z T.z_enumerate (af (qv 1) ai ag)) (eP Z (aR (ay (i:=3) iO.nd Z θ) (aR (ay (i:=4) iO.nd Z θ) ca))) (ap (bA (cf (bC (bE (IM T) hr T.m_Q58 T.F_Q58.kp T.b_Q58 (af (qv 4) ai ag)))) (ap (gM T.X_Q61 (nh _) Z nH (rL T) (hr.mono δ) T.b_Q61 Z T.m_Q61 (af og (af (qv 3) ai ag) aG))) aQ))) (ah (bR WV Z (eV Z T.z_enumerate (af (qv 2) ai ag)) (eP Z (aR (ay (i:=3) iO.nd Z θ) (aR (ay (i:=5) iO.nd Z θ) ca))) (ap (bA (cf (bC (bE (IL T) hr T.m_Q59 T.F_Q59.kp T.b_Q59 (af (qv 5) (af (aH aN (by rfl) T.z_len R4 (af (qv 1) ai ag)) ai aD) ag)))) (ap (gM T.X_Q61 (nh _) Z nH (rL T) (hr.mono δ) T.b_Q61 Z T.m_Q61 (af og (af (qv 3) ai ag) aG))) aQ))) (ah (bL 6 iO.nd (bE (Jd T) hr T.m_Q27 T.F_Q27.kp T.b_Q27 (af (aH aN (by rfl) T.z_len R4 (af (qv 1) ai ag)) (af (qv 2) ai ag) aD))) (ah (bA (aT wO (qv 6) oh (aV _)) (ap (gM T.X_Q61 (nh _) Z nH (rL T) (hr.mono δ) T.b_Q61 Z T.m_Q61 (af og (af (qv 6) ai ag) aG))) aQ) (ap (aC cP))))))))) ?_
 nofun
 obtain⟨p,x,y,rfl,hS,wv,lv⟩:=id hv;obtain⟨px,xs,rfl,hSx,ax_⟩:=id wv;obtain⟨py,ys,rfl,hSy,ay_⟩:=id lv;have lx:=ax_.len;refine⟨_,Z,_,ws,es,Z,hv,h20,h40,⟨_,Z,bW ?_⟩⟩;refine⟨_,Z,p,_,_,_,Z,Z,hS,Z,_,Z,p,_,_,_,Z,Z,hS,Z,?_⟩;let Iv1:Nat->L2.St->Hp->Prop:=λi σ H'=>∃(x4 x5:Option V),σ=[some (.ref p),some (.ref px),some (.ref py),x4,x5,none,none]/\aL H H'
 refine⟨_,Z,px,Z,⟨_,hSx⟩,fZ (K:=K) (a:=px) (xs:=xs) Iv1 ⟨none,none,Z,aL.refl H⟩ (λi σ H1 _ ⟨_,_,_,sm⟩=>aI.same sm _ _ hSx) ?_ ?_⟩
 ·rintro i x pt σ H1 hx ⟨x4,x5,rfl,sm⟩ hpt;have e1:=au hpt (.tup [.int i,x]);refine⟨pt,_,Z,bz.of ao,Z,_,_,Z,_,_,Z,Z,?_⟩;have sm1:=sm.trans e1;obtain⟨w,hw,wv1⟩:=ax_.at hx;generalize upd H1 pt (.tup [.int i,x])=H2 at sm1 ⊢;refine⟨_,Z,x,w,Z,wv1.mono (aI.same sm1),ok w (QC hw),⟨_,Z,bW ⟨_,_,Z,sm1⟩⟩⟩
 ·rintro σ H1 ⟨x4,x5,rfl,sm⟩;let Iv2:Nat->L2.St->Hp->Prop:=λi σ H'=>∃(x4 x5 x6:Option V),σ=[some (.ref p),some (.ref px),some (.ref py),x4,x5,x6,none]/\aL H H'
  refine⟨_,Z,py,Z,⟨_,aI.same sm _ _ hSy⟩,fZ (K:=K) (a:=py) (xs:=ys) Iv2 ⟨_,_,_,Z,sm⟩ (λi σ H1 _ ⟨_,_,_,_,sm⟩=>aI.same sm _ _ hSy) ?_ ?_⟩
  ·rintro i x pt σ H2 hx ⟨x4,x5,x6,rfl,sm2⟩ hpt;have e1:=au hpt (.tup [.int i,x]);refine⟨pt,_,Z,bz.of ao,Z,_,_,Z,_,_,Z,Z,?_⟩;have sm3:=sm2.trans e1;obtain⟨⟨a,b⟩,hw,wv1⟩:=ay_.at hx;have m:=QC hw;generalize upd H2 pt (.tup [.int i,x])=H3 at sm3 ⊢;refine⟨_,Z,_,Z,px,_,Z,.inr (aI.same sm3 _ _ hSx),x,a,b,ws.length,(by rw[lx];rfl),wv1.mono (aI.same sm3),(eok _ m).1,(eok _ m).2,ne _ m,⟨_,Z,bW ⟨_,_,_,Z,sm3⟩⟩⟩
  ·rintro σ H2 ⟨x4,x5,x6,rfl,sm2⟩;refine⟨_,Z,px,_,Z,.inr (aI.same sm2 _ _ hSx),_,Z,ws.length,.ref py,es,(by rw[lx];rfl),lv.mono (aI.same sm2),eok,ω,λr H3 ri s3=>?_⟩;have sm3:=sm2.trans s3
   cases r with
   |none=>
    refine⟨_,Z,Z,_,Z,bW ?_⟩;exact k _ ri sm3
   |some q=>
    refine⟨_,Z,Z,_,Z,CQ (by intro z;cases z) ?_⟩;refine⟨_,Z,⟨ma,λx hx=>⟨x,_,_,Z,ao,λd H' hd nd kp ha hd'=>⟨Z,some d,ha,?_⟩⟩⟩⟩;exact ke d _ (sm3.trans (gP hx kp))
theorem rM(T:de K mg t):bi P w K mg base (FT P w) 4 t.a_Q45 t.d_Q45 ["sheet"] (tQ K t.c_Q69):=by
 refine B.Fun.okD T.F_Q45 gz χ ψ
 ·obtain⟨_,_,_,rfl,_⟩:=h;rfl
 obtain⟨v,ws,es,rfl,⟨p,a,b,rfl,hS,wv,lv⟩,ok,k,ke⟩:=h;refine cJ.ok (ah (bL 1 gz.nd (bM az (qv 0) aj)) (ah (bL 2 gz.nd (bE (Cy T) hr T.m_Q16 T.F_Q16.kp T.b_Q16 (af (aH aN (by rfl) T.z_len R4 (af (qv 1) ai ag)) (af (bM az (qv 0) aj) ai aM) aD))) (ah (bL 3 gz.nd (cC ai)) (ah (bR WV Z (eV Z T.z_enumerate (af (qv 1) ai ag)) (eP Z (aR (ay (i:=4) gz.nd Z θ) (aR (ay (i:=5) gz.nd Z θ) ca))) (ah (fH (i:=6) (N':=["base","other","leanings","number"]) (src:=[none,none,some 2,some 4]) gz.nd Z θ Z (by exact(eV Z T.z_enumerate (af (qv 1) ai ag))) (λ_ _ _ _ _=>(by exact(by exact ic (K:=K) (n:=2) ν ν (by exact aR (by exact ay (i:=0) (by show Ru (["base","other","leanings","number"]:List Rr);decide +kernel) ν θ) (by exact aR (by exact ay (i:=1) (by show Ru (["base","other","leanings","number"]:List Rr);decide +kernel) ν θ) ca))))) (λ_ _ _ _ _=>(dD (bC (by exact(bH (dy (K:=K) ν) (by exact(bH (dy (K:=K) ν) (by exact(qv 2)) (by exact(qv 3)) (by exact λ_ _=>Z))) (by exact(qv 0)) (by exact λ_ _=>Z)))))) (λ_ _ _ _ _=>(by exact(by exact(bH (bB (K:=K) ν) (by exact(qv 1)) aj (by exact λ_ _=>Z))))) (by exact⟨Z,Z,Z,Z,⟨Z,Z,Z,Z,trivial⟩⟩) Z (by decide +kernel) Z (by decide +kernel) (by exact bj Z ⟨Z,⟨Z,trivial⟩⟩)) (ah (fH (i:=7) (N':=["leaner","other","number","leanings"]) (src:=[none,none,some 4,some 2]) gz.nd Z θ Z (by exact(eV Z T.z_enumerate (af (qv 1) ai ag))) (λ_ _ _ _ _=>(by exact(by exact ic (K:=K) (n:=2) ν ν (by exact aR (by exact ay (i:=0) (by show Ru (["leaner","other","number","leanings"]:List Rr);decide +kernel) ν θ) (by exact aR (by exact ay (i:=1) (by show Ru (["leaner","other","number","leanings"]:List Rr);decide +kernel) ν θ) ca))))) (λ_ _ _ _ _=>(dD (bC (by exact(bH (dy (K:=K) ν) (by exact(bH (dy (K:=K) ν) (by exact(qv 3)) (by exact(qv 0)) (by exact λ_ _=>Z))) (by exact(qv 2)) (by exact λ_ _=>Z)))))) (λ_ _ _ _ _=>(by exact(by exact(bH (bB (K:=K) ν) (by exact(qv 1)) aj (by exact λ_ _=>Z))))) (by exact⟨Z,Z,Z,Z,⟨Z,Z,Z,Z,trivial⟩⟩) Z (by decide +kernel) Z (by decide +kernel) (by exact bj Z ⟨Z,⟨Z,trivial⟩⟩)) (ah (bL 8 gz.nd (aH (za Z) (by rfl) T.z_max boot_max (af (aK Cj (cC (af (bM az (qv 5) aj) ai aM)) (qv 6)) ai ba))) (ah (bL 9 gz.nd (aH (qg Z) (by rfl) T.z_min boot_min (af (aK Cj (cC (af (bM az (qv 5) aj) ai aM)) (qv 7)) ai ba))) (ah (bA (aT jz (qv 8) (qv 9) (aV _)) (ap (gM T.X_Q69 (nh _) Z nH (IH T) (hr.mono δ) T.b_Q69 Z T.m_Q69 (af (qv 4) ai ag))) aQ) (ap (cH (gl Rv RS RT cQ (qv 3) (af (bD (af (qv 8) (af (qv 9) (af (bM az (qv 5) aj) ai aM) ag) ag)) ai cb)))))))))) (ap (aC (bT bK (by rfl) T.z_tuple Sy (af (qv 3) ai ag)))))))) ?_
 nofun
 obtain⟨pa,xs,rfl,hpa,al⟩:=id wv;have hxl:=al.len;have few:=ok.few;obtain⟨f,l_,win⟩:=eD.ex ws es;refine⟨_,Z,p,_,_,_,Z,Z,hS,Z,?_⟩;refine⟨_,Z,pa,_,Z,.inr hpa,_,Z,p,_,_,_,Z,Z,hS,Z,ws.length,b,es,(by rw[hxl];rfl),lv,ok.es,ω,λl rows L H1 s1 MX1 clo=>?_⟩;refine⟨(by show 0≤sizeLine;exact Re _),λdl hdl=>?_⟩;have s2:=au hdl (.lst []);have hd2:upd H1 dl (.lst []) dl=some (.lst []):=ao;have MX2:=MX1.same s2;have s02:=s1.trans s2;generalize upd H1 dl (.lst [])=H2 at s2 hd2 MX2 s02 ⊢;have hdN:H dl=none:=by
  cases e:H dl with
  |none=>rfl
  |some o=>rw[s1 _ _ e] at hdl;cases hdl
 have ndl:dl≠l:=λz=>by subst z;rw[MX1.top] at hdl;cases hdl
 have ndr:dl∉rows:=λz=>by obtain⟨ys,e⟩:=MX1.ls _ z;rw[hdl] at e;cases e
 have t02:=aI.same (K:=K) s02;have mst:∀H',aY dl H2 H'->pE H' l rows ws.length L:=λH' S=>⟨S.keep _ _ (λz=>ndl z.symm) MX2.top,MX2.len,MX2.nd,MX2.ne,λi r e=>S.keep _ _ (λz=>ndr (by rw[←z];exact QC e)) (MX2.row i r e)⟩
 have sst:∀H',aY dl H2 H'->aL H H':=λH' S b' o e=>S.keep b' o (λz=>by subst z;rw[hdN] at e;cases e) (s02 _ _ e)
 let Iv1:Nat->L2.St->Hp->Prop:=λi σ H'=>∃(ys:List V) (x5 x6 x7 x8 x9 x10:Option V),σ=[some (.ref p),some (.ref pa),some (.ref l),some (.ref dl),x5,x6,x7,x8,x9,x10]/\aY dl H2 H'/\H' dl=some (.lst ys)/\ys.length=i/\bx K H' ys ((Qv i).map (uO ws f l_))/\∀j,j<i->f j≤l_ j
 refine⟨_,Z,pa,Z,⟨_,t02 _ _ hpa⟩,fZ (K:=K) (a:=pa) (xs:=xs) Iv1 ⟨[],none,none,none,none,none,none,Z,aY.refl ⟨_,hd2⟩,hd2,Z,.nil,λj hj=>absurd hj (Ta _)⟩ (λi σ H' _ ⟨_,_,_,_,_,_,_,_,S,_⟩=>aI.step (K:=K) S _ _ (t02 _ _ hpa)) ?_ ?_⟩
 ·rintro i x pe σ H3 hx ⟨ys,x5,x6,x7,x8,x9,x10,rfl,S3,hd3,hys,dp,le⟩ hpe;have hi:i<ws.length:=by have:=(QM.mp hx).1;omega
  obtain⟨w,hw,pw,am,rfl,hpw,ram⟩:=al.at hx;have ewi:ws.getD i b9=w:=aB b9 hw;have wok:=ok.ok w (QC hw);have s4:=au hpe (.tup [.int i,.ref pw]);have hpe4:upd H3 pe (.tup [.int i,.ref pw]) pe=some (.tup [.int i,.ref pw]):=ao;generalize upd H3 pe (.tup [.int i,.ref pw])=H4 at s4 hpe4 ⊢;have S4:=S3.trans (aY.same s4 ⟨_,hd3⟩);have t4:=t02.trans (aI.step (K:=K) S4);refine⟨pe,_,Z,bz.of hpe4,Z,_,_,Z,_,_,Z,Z,?_⟩;have MX:=mst _ S4;have SM:=t4;refine⟨_,Z,pa,Z,⟨_,(SM _ _ hpa)⟩,λD1 hD1=>cw (qA ((SM _ _ hpa))) (λj=>L i j) (λj=>V.int ((ws.getD j b9).1:Nat)) hD1 ω (λj y H' hj s' hy R E kR kE=>?_) λH5 s5 h5=>?_⟩
  ·obtain⟨pt,x',rfl,hx',hpt⟩:=hy;obtain⟨w',hw',pw',am',rfl,hpw',_⟩:=al.at hx';have ew:ws.getD j b9=w':=aB b9 hw';rw[ew] at kR;have Ms:=MX.same s';obtain⟨rr,hrr⟩:∃r,rows[i]?=some r:=⟨_,Qw (by rw[MX.len];omega)⟩;refine⟨pt,_,Z,bz.of hpt,Z,_,_,Z,_,_,Z,Z,(gf.set Z).set' Z,?_⟩;refine⟨_,Z,_,Z,l,_,_,_,Z,Z,aZ.of Ms.top,bh (v:=V.ref rr) (by rw[QJ,hrr];rfl),_,Z,rr,_,_,_,Z,Z,aZ.of (Ms.row _ _ hrr),bh (gj ω),_,Z,?_⟩
   cases cl:L i j with
   |true=>
    exact iD ⟨_,Z,pw',_,_,_,Z,Z,SM.trans (aI.same (K:=K) s') _ _ hpw',Z,kR cl _ (aL.refl _)⟩
   |false=>exact bW (kE cl _ (aL.refl _))
  rw[show xs.length=ws.length from hxl] at h5;have MX5:=MX.same s5;have SM5:=SM.trans (aI.same (K:=K) s5);refine⟨_,Z,pa,Z,⟨_,(SM5 _ _ hpa)⟩,λD2 hD2=>cw (qA ((SM5 _ _ hpa))) (λj=>L j i) (λj=>V.int ((ws.getD j b9).2.1:Nat)) hD2 ω (λj y H' hj s' hy R E kR kE=>?_) λH6 s6 h6=>?_⟩
  ·obtain⟨pt,x',rfl,hx',hpt⟩:=hy;obtain⟨w',hw',pw',am',rfl,hpw',_⟩:=al.at hx';have ew:ws.getD j b9=w':=aB b9 hw';rw[ew] at kR;have Ms:=MX5.same s';obtain⟨rr,hrr⟩:∃r,rows[j]?=some r:=⟨_,Qw (by rw[MX5.len];omega)⟩;refine⟨pt,_,Z,bz.of hpt,Z,_,_,Z,_,_,Z,Z,(gf.set Z).set' Z,?_⟩;refine⟨_,Z,_,Z,l,_,_,_,Z,Z,aZ.of Ms.top,bh (v:=V.ref rr) (by rw[QJ,hrr];rfl),_,Z,rr,_,_,_,Z,Z,aZ.of (Ms.row _ _ hrr),bh (gj ω),_,Z,?_⟩
   cases cl:L j i with
   |true=>
    exact iD ⟨_,Z,pw',_,_,_,Z,Z,SM5.trans (aI.same (K:=K) s') _ _ hpw',Z,kR cl _ (aL.refl _)⟩
   |false=>exact bW (kE cl _ (aL.refl _))
  rw[show xs.length=ws.length from hxl] at h6;have s46:=s5.trans s6;have h5':=s6 _ _ h5;have t6:=SM5.trans (aI.same (K:=K) s6);refine⟨_,Z,pw,_,_,_,Z,Z,t6 _ _ hpw,Z,DK,λq1 hq1=>?_⟩;have s7:=au hq1 (.lst [.int (w.1:Nat)]);have l1:((Qv ws.length).filter λj=>L i j).length≤ws.length:=Rm (RU _ _) (by rw[RL];exact QB _);have l2:((Qv ws.length).filter λj=>L j i).length≤ws.length:=Rm (RU _ _) (by rw[RL];exact QB _);refine⟨_,Z,q1,D1,_,_,Z,Z,ao,s7 _ _ h5',Ss (be (by rw[Qz];show 1+_≤1000;omega)),λq2 hq2=>?_⟩;have s8:=au hq2 (.lst ([.int (w.1:Nat)]++((Qv ws.length).filter λj=>L i j).map λj=>V.int ((ws.getD j b9).1:Nat)));have e8:[V.int (w.1:Nat)]++(((Qv ws.length).filter λj=>L i j).map λj=>V.int ((ws.getD j b9).1:Nat))=((w.1:Int)::((Qv ws.length).filter λj=>L i j).map λj=>((ws.getD j b9).1:Int)).map V.int:=by rw[RC,S0];rfl
  refine⟨q2,_,Z,aZ.of (by rw[←e8];exact ao),by rw[Rh];omega,λM hM hB=>?_⟩;have eM:M=f i:=by
   obtain⟨j0,hj0,z0,q0⟩:=win.a.att i hi;have u1:f i≤M:=by
    rw[q0];refine hB _ ?_;rcases z0 with z0|z0
    ·subst z0;unfold vF;rw[ewi];exact QL
    ·exact QP _ (QU.mpr ⟨j0,Q3.mpr ⟨QH.mpr hj0,(clo i j0 hi hj0).mpr z0⟩,Z⟩)
   have u2:M≤f i:=by
    rcases QR.mp hM with z|z
    ·have:=win.a.up i i hi hi (.inl Z);unfold vF at this;rw[ewi] at this;omega
    ·obtain⟨j,hj,rfl⟩:=QU.mp z;obtain⟨hj1,hj2⟩:=Q3.mp hj;exact win.a.up i j hi (QH.mp hj1) (.inr ((clo i j hi (QH.mp hj1)).mp hj2))
   omega
  rw[eM];have s78:=s7.trans s8;clear hM hB eM;have h6':=s78 _ _ h6;have t8:=t6.trans (aI.same (K:=K) s78);refine⟨_,Z,pw,_,_,_,Z,Z,t8 _ _ hpw,Z,DK,λq3 hq3=>?_⟩;have s9:=au hq3 (.lst [.int (w.2.1:Nat)]);refine⟨_,Z,q3,D2,_,_,Z,Z,ao,s9 _ _ h6',Ss (be (by rw[Qz];show 1+_≤1000;omega)),λq4 hq4=>?_⟩;have sA:=au hq4 (.lst ([.int (w.2.1:Nat)]++((Qv ws.length).filter λj=>L j i).map λj=>V.int ((ws.getD j b9).2.1:Nat)));have eA:[V.int (w.2.1:Nat)]++(((Qv ws.length).filter λj=>L j i).map λj=>V.int ((ws.getD j b9).2.1:Nat))=((w.2.1:Int)::((Qv ws.length).filter λj=>L j i).map λj=>((ws.getD j b9).2.1:Int)).map V.int:=by rw[RC,S0];rfl
  refine⟨q4,_,Z,aZ.of (by rw[←eA];exact ao),by rw[Rh];omega,λM hM hB=>?_⟩;have eM:M=l_ i:=by
   obtain⟨j0,hj0,z0,q0⟩:=win.b.att i hi;have u1:M≤l_ i:=by
    have q0':- l_ i=-((ws.getD j0 b9).2.1:Int):=q0;have:l_ i=((ws.getD j0 b9).2.1:Int):=ω
    rw[this];refine hB _ ?_;rcases z0 with z0|z0
    ·subst z0;rw[ewi];exact QL
    ·exact QP _ (QU.mpr ⟨j0,Q3.mpr ⟨QH.mpr hj0,(clo j0 i hj0 hi).mpr (qG.mp z0)⟩,Z⟩)
   have u2:l_ i≤M:=by
    rcases QR.mp hM with z|z
    ·have:=win.b.up i i hi hi (.inl Z);unfold vL at this;rw[ewi] at this;have:-(w.2.1:Int)≤- l_ i:=this;omega
    ·obtain⟨j,hj,rfl⟩:=QU.mp z;obtain⟨hj1,hj2⟩:=Q3.mp hj;have:=win.b.up i j hi (QH.mp hj1) (.inr (qG.mpr ((clo j i (QH.mp hj1) hi).mp hj2)));have:-((ws.getD j b9).2.1:Int)≤- l_ i:=this;omega
   omega
  rw[eM];clear hM hB eM;have s9A:=s9.trans sA;have s4A:=(s46.trans s78).trans s9A;generalize upd (upd (upd (upd H6 q1 _) q2 _) q3 _) q4 _=HA at s9A s4A ⊢;have SA:=S4.trans (aY.same s4A ⟨_,s4 _ _ hd3⟩);refine⟨_,Z,_,Z,_,_,Z,Z,_,Z,?_⟩;by_cases c:l_ i<f i
  ·refine dz c ?_;have rs:f6 ws.length f l_=some i:=Dr hi c le;refine⟨_,Z,DK,λxx hxx=>⟨xx,_,Z,ao,λd hd nd=>⟨Z,some d,by rw[aJ nd.symm,ao],?_⟩⟩⟩;refine ke f l_ i d _ ((sst _ SA).trans (gP (o0:=jC xx t.c_Q69 none) hxx λb' o nb q=>?_)) win rs (by rw[JO nd,ao]);have hd':upd HA xx (jC xx t.c_Q69 none) d=none:=hd;rw[aJ (aX q hd'),aJ nb];exact q
  ·refine dA c ?_;have hdA:=s4A _ _ (s4 _ _ hd3);refine⟨_,Z,.inl ⟨Z,_,aZ.of hdA⟩,_,Z,_,Z,_,Z,pw,_,_,_,Z,Z,(t02.trans (aI.step (K:=K) SA)) _ _ hpw,Z,FU,λpn hpn=>?_⟩;have sB:=au hpn (.tup [.int (f i),.int (l_ i),am]);have hpB:upd HA pn (.tup [.int (f i),.int (l_ i),am]) pn=some (.tup [.int (f i),.int (l_ i),am]):=ao;generalize upd HA pn (.tup [.int (f i),.int (l_ i),am])=HB at sB hpB ⊢;have hdB:=sB _ _ hdA;have SB:=SA.trans (aY.same sB ⟨_,hdA⟩);refine⟨dl,ys,_,Z,Z,hdB,be ω,?_⟩;have tC:aI K HB (upd HB dl (.lst (ys++[.ref pn]))):=aI.up hdB _;refine⟨_,_,_,_,_,_,_,Z,SB.trans (aY.up hdB),ao,by rw[Q2,hys];rfl,?_,λj hj=>?_⟩
   ·rw[Sf,RW];have dn:bX K (upd HB dl (.lst (ys++[.ref pn]))) (.ref pn) (uO ws f l_ i):=by
     unfold uO;rw[ewi];exact .tup (tC _ _ (bz.of hpB)) (.cons (.int _) (.cons (.int _) (.cons (((ram.mono t02).mono (aI.step (K:=K) SB)).mono tC).deep .nil)))
    have dd:bx K (upd HB dl (.lst (ys++[.ref pn]))) ys ((Qv i).map (uO ws f l_)):=by
     refine uS (K:=K) ?_ dp;exact(((aI.same (K:=K) s4).trans (aI.same s4A)).trans (aI.same sB)).trans tC
    exact mw dd (.cons dn .nil)
   ·by_cases z:j<i
    ·exact le j z
    ·have:j=i:=ω
     subst this;omega
 ·rintro σ H3 ⟨ys,x5,x6,x7,x8,x9,x10,rfl,S3,hd3,hys,dp,le⟩;refine⟨_,Z,dl,_,Z,.inl ⟨aZ.of hd3,λpt hpt=>?_⟩⟩;have s4:=au hpt (.tup ys);refine k f l_ (.ref pt) _ ((sst _ S3).trans s4) win (Ds (λj hj=>le j ω)) ?_;rw[hxl] at dp;exact .tup (bz.of ao) (uS (aI.same s4) dp)
theorem Jc(T:de K mg t):bi P w K mg base cT 6 t.a_Q28 t.d_Q28 ["sheet"] (oZ K):=by
 refine T.F_Q28.ok Aq χ ψ
 ·obtain⟨_,_,_,rfl,_⟩:=h;rfl
 obtain⟨v,ws,es,rfl,sa,nb_,k⟩:=h;refine cJ.ok (ah (bL 1 Aq.nd (dQ (E:=EF) (rM T) (hr.mono δ) Z T.m_Q45 T.F_Q45.kp T.b_Q45 .nil Cd (af (qv 0) ai ag))) (ap (aC (bE (IG T) hr T.m_Q75 T.F_Q75.kp T.b_Q75 (af (qv 1) (af (bM az (qv 0) aj) (af (bE (lS T) hr T.m_Q18 T.F_Q18.kp T.b_Q18 (af (qv 1) ai ag)) ai aD) aM) ag))))) ?_
 nofun
 obtain⟨p,a,b,rfl,hS,wv,lv⟩:=id sa.sv;refine⟨_,Z,.ref p,ws,es,Z,sa.sv,sa.sh,λf l u H1 s1 win nb d1=>?_,λf l i d H' s' win nb hd=>absurd (nb_ f l win) (by rw[nb];exact λz=>nomatch z)⟩;have ok':=oJ sa.ok win nb;have wv':=r9 sa.ok win d1;have w8:=sa.w8;have len:=eh ws f l;have t1:=aI.same (K:=K) s1;refine⟨_,Z,_,Z,p,_,_,_,Z,Z,t1 _ _ hS,Z,_,Z,u,eN ws f l,Z,wv',ω,ok',λq xs lys H2 s2 hq al ly=>?_⟩;have lok:=iV ly δ (λt ht=>QH.mp ht);have ams:=iJ ok' ω lok;have ak:NU K H2 u b (eN ws f l) es:=⟨wv'.mono (aI.same s2),ω,ok',(lv.mono t1).mono (aI.same s2),by rw[len];exact sa.eok,by rw[len];exact sa.rk,sa.e8⟩;have nl:=yx (es:=es) ok' (by rw[len];exact sa.rk) ly ams;have l24:(aU (eN ws f l) lys).length=24:=by unfold aU;rw[gi];rfl
 refine⟨u,b,.ref q,eN ws f l,es,aU (eN ws f l) lys,Z,ak,⟨q,xs,Z,hq,al⟩,l24,ams,nl,λw H3 s3 dw=>?_⟩;exact k f l lys w H3 ((s1.trans s2).trans s3) win nb ly dw
theorem Cr(T:de K mg t):bi P w K mg base cT 5 t.a_Q39 t.d_Q39 ["_law_sheet"] (qR K):=by
 refine T.F_Q39.ok nY χ ψ
 ·obtain⟨_,_,_,rfl,_⟩:=h;rfl
 obtain⟨v,ws,es,rfl,hv,ok,k⟩:=h;refine cJ.ok (ah (bL 1 nY.nd oh) (ah (BH (i:=2) (R:=(λC dx H'=>C=t.c_Q69/\aL H H'/\∃(d:Addr) (n:Int),dx=some d/\H' d=some (dO d [("work",.int n)])/\∃f l,eD ws es f l/\rq ws f l=.int n)) Z Z Z Z T.m_Q69 nY.nd Z Z (λ_=>(ap (bL 1 nY.nd (dQ (rM T) (hr.mono δ) Z T.m_Q45 T.F_Q45.kp T.b_Q45 .nil (Iy Z) (af (qv 0) ai ag))))) (λ_=>(ap (bL 1 nY.nd (Ei (K:=K) Z (qv 2) Z))))) (ap (aC (qv 1))))) ?_
 nofun
 refine⟨⟨_,Z,v,ws,es,Z,hv,ok,λf l u H1 s1 win nb dp=>⟨_,Z,k f l u H1 s1 win (by unfold rq;rw[nb];exact dp)⟩,λf l i d H1 s1 win rs hd=>⟨_,Z,Z,s1,d,i,Z,hd,f,l,win,by unfold rq;rw[rs]⟩⟩,?_⟩;rintro C dx H' ⟨rfl,s1,d,n,rfl,hd,f,l,win,rs⟩;refine⟨T.x_catch,d,Z,λx hx=>?_⟩;have s2:=au hx (JJ x t.c_Q69 d);refine⟨_,Z,x,t.c_Q69,d,_,_,.int n,Z,.inl ao,s2 _ _ hd,T.X_Q69.cl,T.g_Q69,T.n_Q69_work,Z,?_⟩;refine⟨_,Z,k f l _ _ (s1.trans s2) win ?_⟩;rw[rs];exact .int n
theorem Gc(T:de K mg t):bi P w K mg base cT 8 t.a_Q8 t.d_Q8 ["_law_sheet"] (ky K):=by
 refine T.F_Q8.ok Am χ ψ
 ·obtain⟨_,_,_,rfl,_⟩:=h;rfl
 obtain⟨v,ws,es,rfl,sa,nb_,k⟩:=h;refine cJ.ok (ah (bL 1 Am.nd (bE (Jc T) hr T.m_Q28 T.F_Q28.kp T.b_Q28 (af (qv 0) ai ag))) (ah (bL 2 Am.nd (dQ (E:=EF) (rM T) (hr.mono δ) Z T.m_Q45 T.F_Q45.kp T.b_Q45 .nil Cd (af (qv 0) ai ag))) (ah (bA (gL (iS (aT wP (bE (Cv T) hr T.m_Q30 T.F_Q30.kp T.b_Q30 (af (qv 0) (af (qv 1) ai ag) ag)) cP (aV _)) (gA (aT wP (bE (Cv T) hr T.m_Q30 T.F_Q30.kp T.b_Q30 (af (bD (af (qv 2) (af (bD ai) ai cb) ag)) (af (qv 1) ai ag) cb)) cP (aV _))))) (ap (aC cP)) aQ) (ah (bA (gL (iS (aT (kf hr) (dQ (E:=EF) (rM T) (hr.mono δ) Z T.m_Q45 T.F_Q45.kp T.b_Q45 .nil Cd (af (bD (af (qv 2) (af (bM az (qv 0) aj) ai aM) ag)) ai cb)) (qv 2) (aV _)) (gA (aT (kf hr) (bE (IZ T) hr T.m_Q34 T.F_Q34.kp T.b_Q34 (af (qv 1) ai ag)) (bE (lS T) hr T.m_Q18 T.F_Q18.kp T.b_Q18 (af (qv 2) ai ag)) (aV _))))) (ap (aC cP)) aQ) (ap (aC (bE (Lu T) hr T.m_Q6 T.F_Q6.kp T.b_Q6 (af (qv 0) (af (qv 1) ai ag) ag)))))))) ?_
 nofun
 obtain⟨ps,a,b,rfl,hS,wv,lv⟩:=id sa.sv;have w10:=sa.w8;refine⟨_,Z,_,ws,es,Z,sa,nb_,λf l lys u H1 s1 win nb ly dp=>?_⟩;have t1:=aI.same (K:=K) s1;refine⟨_,Z,_,ws,es,Z,sa.sv.mono t1,sa.sh,λf2 l2 u2 H2 s2 win2 nb2 d2=>?_,λf2 l2 i2 d2 H2 s2 win2 nb2 _=>absurd (nb_ f2 l2 win2) (by rw[nb2];exact λz=>nomatch z)⟩;have wv2:=r9 sa.ok win2 d2;rw[Fq win win2] at wv2;have ok':=oJ sa.ok win nb;have len:=eh ws f l;have pr:=Dd sa.ok w10 sa.eok sa.rk win nb ly;have pr':=yR sa.ok w10 sa.eok sa.rk win nb ly;have lok:=iV ly δ λt ht=>QH.mp ht
 have ams:=iJ ok' ω lok;have su:=zX (es:=es) ok' (by rw[len];exact sa.rk) ly ams;have pv:pD K H1 u (dM (eN ws f l) es (aU (eN ws f l) lys)).2:=Fv dp;generalize (dM (eN ws f l) es (aU (eN ws f l) lys)).2=pl at pr pr' su pv;clear dp d2;have t2:=t1.trans (aI.same (K:=K) s2);have e40:=sa.e8;have sv2:=(sa.sv.mono t1).mono (aI.same s2);have pv2:=pv.mono (aI.same s2);refine⟨_,Z,_,Z,.ref ps,u,ws,es,pl,Z,sv2,w10,e40,pv2,pr.good sa.ok sa.eok,λH3 s3=>?_⟩;refine⟨true,true,Z,Z,_,Z,bW ?_⟩;have l10:(eN ws f l).length≤10:=ω
 have eok':gg (eN ws f l).length es:=by rw[len];exact sa.eok
 refine⟨_,Z,(by show 0≤sizeLine;exact Re _),λpe he=>⟨ma,λpq hq=>?_⟩⟩;have s4:=(au he (.tup [])).trans (au hq (.tup [u2,.ref pe]));have he4:=(au hq (.tup [u2,.ref pe])) _ _ (ao (H:=H3) (a:=pe) (o:=.tup []));have hq4:upd (upd H3 pe (.tup [])) pq (.tup [u2,.ref pe]) pq=some (.tup [u2,.ref pe]):=ao;generalize upd (upd H3 pe (.tup [])) pq (.tup [u2,.ref pe])=H4 at s4 he4 hq4 ⊢;have s34:=s3.trans s4;have t34:=aI.same (K:=K) s34;have wv4:=wv2.mono t34;have pv4:=pv2.mono t34;refine⟨_,Z,.ref pq,u,eN ws f l,[],pl,Z,⟨pq,u2,.ref pe,Z,bz.of hq4,wv4,⟨pe,[],Z,bz.of he4,.nil⟩⟩,l10,Re _,pv4,pr'.bare.good ok' (λ_ z=>nomatch z),λH5 s5=>⟨true,true,Z,Z,_,Z,bW ?_⟩⟩;have t5:=aI.same (K:=K) s5;have hS5:=t5 _ _ (t34 _ _ (aI.same (K:=K) s2 _ _ (t1 _ _ hS)));have lv5:=(((lv.mono t1).mono (aI.same s2)).mono t34).mono t5;have wv5:=wv4.mono t5;refine⟨_,Z,_,Z,ps,_,_,_,Z,Z,hS5,Z,ma,λpz hz=>?_⟩;have s6:=au hz (.tup [u2,b]);have hz6:upd H5 pz (.tup [u2,b]) pz=some (.tup [u2,b]):=ao;generalize upd H5 pz (.tup [u2,b])=H6 at s6 hz6 ⊢;have t6:=aI.same (K:=K) s6;refine⟨.ref pz,eN ws f l,es,Z,⟨pz,u2,b,Z,bz.of hz6,wv5.mono t6,lv5.mono t6⟩,⟨ω,λw hw=>⟨by have:=(ok' w hw).le;have:=(ok' w hw).lt;omega,(ok' w hw).lt,(ok' w hw).am.wf.mono δ⟩,eok'⟩,λf3 l3 u3 H7 s7 win3 nb3 d3=>?_,λf3 l3 i3 d3 H7 s7 win3 nb3 _=>absurd nb3 (by rw[oN (λi hi=>iG (pI sa.ok win) win3 hi) (by rw[len];exact nb)];exact λz=>nomatch z)⟩;rw[JR sa.ok win win3] at d3;have d3':bX K H7 u3 (uA (eN ws f l)):=d3;have t67:=t6.trans (aI.same (K:=K) s7);refine⟨_,Z,_,_,d3',(wv5.mono t67).deep,mW _,mW _,lA _,_,Z,?_⟩;rw[Fo];refine bW ?_;have t57:=t5.trans t67;refine⟨_,Z,u,pl,Z,pv4.mono t57,pr.len,λq hq=>⟨(pr.good sa.ok sa.eok).few q hq,λc hc=>((pr.good sa.ok sa.eok).pc q hq c hc).2.1⟩,λv8 H8 s8 rs8=>?_⟩;have t8:=t57.trans (aI.same (K:=K) s8);refine⟨_,Z,u2,eN ws f l,Z,wv4.mono t8,ω,ok',λq9 xs9 lys9 H9 s9 hq9 al9 ly9=>?_⟩;have el:=gU.uniq ly9 ly;subst el;rw[su] at rs8;have rs9:zx K H9 (.ref q9) (aU (eN ws f l) lys9):=⟨q9,xs9,Z,hq9,al9⟩;refine⟨_,_,(rs8.mono (aI.same s9)).deep,rs9.deep,Bz _,Bz _,BB _,_,Z,?_⟩;rw[xi iY];refine bW ?_;have s59:=((s5.trans (s6.trans s7)).trans s8).trans s9;have t9:=t34.trans (aI.same (K:=K) s59);exact⟨_,Z,_,Z,.ref ps,u,ws,es,pl,Z,sv2.mono t9,sa.eok,pv2.mono t9,pr,λH10 s10=>k _ ((((s1.trans s2).trans s34).trans s59).trans s10)⟩
theorem Jl(T:de K mg t):bi P w K mg base cT 6 t.a_Q14 t.d_Q14 ["_law_tape_here","_law_sheet"] (lK K):=by
 refine T.F_Q14.ok j8 χ ψ
 ·obtain⟨_,_,_,_,_,rfl,_⟩:=h;rfl
 obtain⟨t₁,s₁,v,ws,es,rfl,tp,sv,n2,n9,ok,eok,rk,e12,k⟩:=h;refine cJ.ok (ah (bL 2 j8.nd (aH aN (by rfl) T.z_len R4 (af (bM az (qv 1) aj) ai aM))) (ah (bL 3 j8.nd (bE (bZ T) hr T.m_Q53 T.F_Q53.kp T.b_Q53 (af (qv 0) (af (qv 2) ai ag) ag))) (ah (bL 4 j8.nd (aK fV (aK bJ (aK bJ (qv 3) aj) (bE (bZ T) hr T.m_Q53 T.F_Q53.kp T.b_Q53 (af (qv 0) (af (aK fU (qv 2) aj) ai ba) ag))) (qv 2))) (ah (bL 5 j8.nd (bD (af (bM az (qv 1) aj) (af (aK jh (bM az (qv 1) aj) (bD (af (bD (af (qv 3) (af (qv 4) ai ag) ag)) ai cb))) ai ba) aM))) (ah (bL 6 j8.nd cP) (ah (Ef (R:=(λC dx H'=>C=t.c_Q61/\aY t₁ H H'/\cR H' t₁ s₁)) Z Z Z Z T.m_Q61 (λ_ _=>(ap (cH (BP Z (Jf T) (hr.mono δ) Z T.m_Q25 T.F_Q25.kp T.b_Q25 .nil (af (qv 5) ai ag))))) (λ_=>(ap (bL 6 j8.nd cP)))) (ap (aC (tV (bC (qv 6)) (qv 5) (qv 1)))))))))) ?_
 nofun
 obtain⟨ps,a,b,rfl,hS,⟨pw,xw,rfl,hSw,alw⟩,⟨pb,xb,rfl,hSb,alb⟩⟩:=id sv;have lw:=alw.len;have lb:=alb.len;refine⟨_,Z,ps,_,_,_,Z,Z,hS,Z,pw,_,Z,.inr hSw,?_⟩;refine⟨_,Z,_,Z,t₁,s₁,_,Z,tp,ω,ω,λr1 x_r1 a_r1 b_r1 T1=>?_⟩;have S_r1:aY t₁ H _:=aY.up (ys:=x_r1) tp.lst.choose_spec;generalize upd H t₁ (.lst x_r1)=H1 at S_r1 T1 ⊢;refine⟨_,Z,_,_,Z,Z,_,Z,_,Z,_,_,Z,Z,t₁,s₁,_,Z,T1,ω,ω,λr2 x_r2 a_r2 b_r2 T2=>?_⟩;have S_r2:aY t₁ H1 _:=aY.up (ys:=x_r2) T1.lst.choose_spec;generalize upd H1 t₁ (.lst x_r2)=H2 at S_r2 T2 ⊢;have S2:=S_r1.trans S_r2;have t2:=aI.step (K:=K) S2;refine⟨_,_,Z,Z,?_⟩;obtain⟨oo,ho,ho1,ho2⟩:=Cg (n:=(xw.length:Int)) a_r1 b_r1 a_r2 ω;obtain⟨aa,rfl⟩:=RK a_r1;refine⟨_,Z,_,_,Z,Z,ω,?_⟩;dsimp only;rw[ho];refine⟨_,Z,ps,_,_,_,Z,Z,t2 _ _ hS,Z,_,Z,ps,_,_,_,Z,Z,t2 _ _ hS,Z,_,Z,_,Z,ma,λpl hl=>⟨DK,λpt ht=>?_⟩⟩;have s3:=(au hl (.tup [.int (aa:Nat),.int (oo:Nat)])).trans (au ht (.tup [.ref pl]));have hl3:=(au ht (.tup [.ref pl])) _ _ (ao (H:=H2) (a:=pl) (o:=.tup [.int (aa:Nat),.int (oo:Nat)]));have ht3:upd (upd H2 pl (.tup [.int (aa:Nat),.int (oo:Nat)])) pt (.tup [.ref pl]) pt=some (.tup [.ref pl]):=ao;generalize upd (upd H2 pl (.tup [.int (aa:Nat),.int (oo:Nat)])) pt (.tup [.ref pl])=H3 at s3 hl3 ht3 ⊢;have t3:=t2.trans (aI.same (K:=K) s3);refine⟨pb,pt,_,_,Z,Z,t3 _ _ hSb,bz.of ht3,Ss (be (by show xb.length+1≤1000;omega)),λpq H4 s4 hq4=>⟨ma,λpm hm=>?_⟩⟩;have s5:=au hm (.tup [.ref pw,.ref pq]);have hm5:upd H4 pm (.tup [.ref pw,.ref pq]) pm=some (.tup [.ref pw,.ref pq]):=ao;generalize upd H4 pm (.tup [.ref pw,.ref pq])=H5 at s5 hm5 ⊢;have s45:=s4.trans s5;have t5:=t3.trans (aI.same (K:=K) s45);have s25:=s3.trans s45;have S5:=S2.trans (aY.same s25 T2.lst);have T5:=T2.same s25;have sv5:xN K H5 (.ref pm) ws (es++[(aa,oo)]):=⟨pm,.ref pw,.ref pq,Z,bz.of hm5,⟨pw,xw,Z,t5 _ _ hSw,alw.mono λ_ _ z=>z.mono t5⟩,⟨pq,_,Z,aI.same (K:=K) s5 _ _ hq4,My.Als.app (alb.mono λ_ _ z=>z.mono t5) (.cons ⟨pl,Z,aI.same (K:=K) s45 _ _ (bz.of hl3)⟩ .nil)⟩⟩;have eok':gg ws.length (es++[(aa,oo)]):=λe he=>by
  rcases Q6.mp he with z|z
  ·exact eok e z
  ·rw[QK.mp z];exact⟨by show aa<_;omega,by show oo<_;omega⟩
 have ne':∀e∈es++[(aa,oo)],e.1≠e.2:=λe he=>by
  rcases Q6.mp he with z|z
  ·obtain⟨f,_,hf⟩:=rk;intro q;have:=hf e.1 e.2 z;rw[q] at this;exact RY _ this
  ·rw[QK.mp z];show aa≠oo;omega
 have l13:(es++[(aa,oo)]).length≤13:=by rw[Q2];show _+1≤13;omega
 refine⟨?_,?_⟩
 ·refine⟨Z,_,Z,.ref pm,ws,es++[(aa,oo)],Z,sv5,ω,ω,ok,eok',ne',λH6 nr s6=>?_,λd H6 s6=>⟨_,Z,Z,S5.trans (aY.same s6 T5.lst),T5.same s6⟩⟩;exact⟨_,Z,_,Z,iD ⟨_,Z,k _ _ _ (S5.trans (aY.same s6 T5.lst)) (T5.same s6) (sv5.mono (aI.same s6)) eok' (BD eok' nr) l13 λe he=>Rt _ he⟩⟩
 ·rintro C dx H6 ⟨rfl,S6,T6⟩;refine⟨T.x_catch2,?_⟩;exact⟨_,Z,_,Z,bW ⟨_,Z,k _ _ _ S6 T6 (sv.mono (aI.step S6)) eok rk ω λ_ he=>he⟩⟩
theorem IE(T:de K mg t):bi P w K mg base cT 9 t.a_Q79 t.d_Q79 ["_law_script"] (qS K):=by
 refine T.F_Q79.ok h9 χ ψ
 ·obtain⟨_,_,rfl,_⟩:=h;rfl
 obtain⟨a,ns,rfl,hS,hl,k⟩:=h;refine cJ.ok (ah (bL 1 h9.nd (bE (IR T) hr T.m_Q52 T.F_Q52.kp T.b_Q52 (af (qv 0) ai ag))) (ah (bR Q8 Z (db Z T.z_range (af aj ai aG)) (ay (i:=2) h9.nd Z θ) (ah (bL 3 h9.nd (bE (Ct T) hr T.m_Q36 T.F_Q36.kp T.b_Q36 (af (qv 1) (af (bM bv (cC (af aj (af aj (af aj ai aG) aG) aG)) (bE (bZ T) hr T.m_Q53 T.F_Q53.kp T.b_Q53 (af (qv 1) (af aj ai aG) ag))) (af (bM bv (cC (af aj (af aj (af aj ai aG) aG) aG)) (bE (bZ T) hr T.m_Q53 T.F_Q53.kp T.b_Q53 (af (qv 1) (af aj ai aG) ag))) ai aM) aM) ag))) (ah (rD (bA (aT eZ (bE (bZ T) hr T.m_Q53 T.F_Q53.kp T.b_Q53 (af (qv 1) (af aj ai aG) ag)) aj (aV _)) (ap (bL 3 h9.nd (bT bK (by rfl) T.z_tuple Sy (af (bP (N':=["_law_work"]) (src:=[none]) Z (by exact(dm (qv 3))) (λ_ _ _ _ _=>(by exact(by exact ay (i:=0) (by show Ru (["_law_work"]:List Rr);decide +kernel) ν θ))) (λ_ _ _ _ _=>cG) (λ_ _ _ _ _=>(by exact(by exact(bD (af (by exact(aK wQ (by exact(bH (bB (K:=K) ν) (by exact(qv 0)) aj (by exact λ_ _=>Z))) aj)) (af (by exact(aH (y9 Z) ν T.z_min boot_min (af aj (af (by exact(aK bJ (by exact(bH (bB (K:=K) ν) (by exact(qv 0)) aj (by exact λ_ _=>Z))) aj)) ai ba) aG))) (af (by exact(bH (bB (K:=K) ν) (by exact(qv 0)) aj (by exact λ_ _=>Z))) ai aM) aD) ba))))) (by exact trivial) Z (by decide +kernel) Z (by decide +kernel) (by exact bj Z trivial)) ai cU)))) aQ)) (ah (bL 4 h9.nd (bD (af (qv 3) (af (ef h8 (bE (IY T) hr T.m_Q37 T.F_Q37.kp T.b_Q37 (af (qv 1) (af (aH aN (by rfl) T.z_len R4 (af (qv 3) ai ag)) ai aD) ag)) gk (eU aj)) ai aM) ag))) (ah (bA (cf (bC (bE (IX T) hr T.m_Q40 T.F_Q40.kp T.b_Q40 (af (qv 1) (af (qv 3) ai ag) ag)))) (ap (aC cP)) aQ) (ah (bL 5 h9.nd (bE (Cr T) hr T.m_Q39 T.F_Q39.kp T.b_Q39 (af (qv 4) ai ag))) (ap (bA (bC (aH d8 (by rfl) T.z_isinstance Tb (af (qv 5) (af (eW (v:=V.ty "tuple") Z T.z_tuple Sy Z) ai ag) ag))) (ah (bA (gL (iS (cf (bC (bE (Gc T) hr T.m_Q8 T.F_Q8.kp T.b_Q8 (af (qv 4) ai ag)))) (gA (cf (bC (bE (wR T) hr T.m_Q9 T.F_Q9.kp T.b_Q9 (af (qv 3) (af (qv 5) (af aj ai aG) ag) ag))))))) (ap (aC cP)) aQ) (ap (bA (aT jz (aH aN (by rfl) T.z_len R4 (af (qv 3) ai ag)) aj (aV _)) (ah (bL 6 h9.nd (bE (Jl T) hr T.m_Q14 T.F_Q14.kp T.b_Q14 (af (qv 1) (af (qv 4) ai ag) ag))) (ah (bL 7 h9.nd (bE (Cr T) hr T.m_Q39 T.F_Q39.kp T.b_Q39 (af (qv 6) ai ag))) (ap (bA (bC (aH d8 (by rfl) T.z_isinstance Tb (af (qv 7) (af (eW (v:=V.ty "tuple") Z T.z_tuple Sy Z) ai ag) ag))) (ap (bA (gL (iS (cf (bC (bE (Gc T) hr T.m_Q8 T.F_Q8.kp T.b_Q8 (af (qv 6) ai ag)))) (gA (cf (bC (bE (wR T) hr T.m_Q9 T.F_Q9.kp T.b_Q9 (af (qv 5) (af (qv 7) (af aj ai aG) ag) ag))))))) (ap (aC cP)) aQ)) aQ)))) aQ))) aQ)))))))) (ap (aC cP)))) ?_
 nofun
 refine⟨_,Z,a,ns,Z,hS,λt₁ s₁ H1 s1 ht hs T1=>?_⟩;let Iv1:Nat->L2.St->Hp->Prop:=λi σ H'=>∃(x3 x4 x5 x6 x7 x8:Option V),σ=[some (.ref a),some (.ref t₁),x3,x4,x5,x6,x7,x8]/\cR H' t₁ s₁
 refine⟨3,Z,δ,δ,d7 (lo:=0) (n:=3) Iv1 ⟨none,none,none,none,none,none,Z,T1⟩ ?_ ?_⟩
 ·rintro i σ H2 hi ⟨x3,x4,x5,x6,x7,x8,rfl,T2⟩;refine⟨_,Z,FU,λl3 h_l3=>?_⟩;have s_l3:=au h_l3 (.lst [.int 3,.int 6,.int 9]);have g_l3:upd H2 l3 (.lst [.int 3,.int 6,.int 9]) l3=some (.lst [.int 3,.int 6,.int 9]):=ao;have T2a:=T2.same s_l3;generalize upd H2 l3 (.lst [.int 3,.int 6,.int 9])=H2a at s_l3 g_l3 T2a ⊢;obtain⟨y_l3,e_l3⟩:=T2a.lst;refine⟨_,Z,t₁,s₁,3,Z,T2a,δ,δ,λr4 z_r4 a_r4 b_r4 T4=>?_⟩;have S_r4:aY t₁ H2a _:=aY.up (ys:=z_r4) e_l3;generalize upd H2a t₁ (.lst z_r4)=H4 at T4 S_r4 ⊢;have n_l3:l3≠t₁:=λz=>by subst z;rw[g_l3] at e_l3;obtain⟨_,_,_,_,q,_⟩:=T2a.ex;rw[g_l3] at q;cases q
  have k_l3:=S_r4.keep _ _ n_l3 g_l3;obtain⟨em,h_em,em1,em2⟩:∃e:Nat,sj [V.int 3,.int 6,.int 9] r4=some (.int e)/\1≤e/\e≤9:=by
   rcases(show r4=0∨r4=1∨r4=2 by omega) with rfl|rfl|rfl
   ·exact⟨3,Z,δ,δ⟩
   ·exact⟨6,Z,δ,δ⟩
   ·exact⟨9,Z,δ,δ⟩
  refine⟨l3,_,_,_,Z,Z,aZ.of k_l3,h_em,?_⟩;refine⟨FU,λl5 h_l5=>?_⟩;have s_l5:=au h_l5 (.lst [.int 4,.int 9,.int 24]);have g_l5:upd H4 l5 (.lst [.int 4,.int 9,.int 24]) l5=some (.lst [.int 4,.int 9,.int 24]):=ao;have T4a:=T4.same s_l5;generalize upd H4 l5 (.lst [.int 4,.int 9,.int 24])=H4a at s_l5 g_l5 T4a ⊢;obtain⟨y_l5,e_l5⟩:=T4a.lst;refine⟨_,Z,t₁,s₁,3,Z,T4a,δ,δ,λr6 z_r6 a_r6 b_r6 T6=>?_⟩;have S_r6:aY t₁ H4a _:=aY.up (ys:=z_r6) e_l5;generalize upd H4a t₁ (.lst z_r6)=H6 at T6 S_r6 ⊢;have n_l5:l5≠t₁:=λz=>by subst z;rw[g_l5] at e_l5;obtain⟨_,_,_,_,q,_⟩:=T4a.ex;rw[g_l5] at q;cases q
  have k_l5:=S_r6.keep _ _ n_l5 g_l5;obtain⟨en,h_en,en1,en2⟩:∃e:Nat,sj [V.int 4,.int 9,.int 24] r6=some (.int e)/\1≤e/\e≤24:=by
   rcases(show r6=0∨r6=1∨r6=2 by omega) with rfl|rfl|rfl
   ·exact⟨4,Z,δ,δ⟩
   ·exact⟨9,Z,δ,δ⟩
   ·exact⟨24,Z,δ,δ⟩
  refine⟨l5,_,_,_,Z,Z,aZ.of k_l5,h_en,t₁,s₁,em,en,Z,T6,ω,en1,en2,λv ws H7 S7 T7 wv hw okw=>?_⟩;refine⟨λσ H'=>∃(v:V) (ws:List Wk) (x5 x6 x7 x8:Option V),σ=[some (.ref a),some (.ref t₁),some (.int (0+(i:Int))),some v,x5,x6,x7,x8]/\cR H' t₁ s₁/\eC K H' v ws/\ws.length≤9/\∀w∈ws,DH w,?_,?_⟩
  ·obtain⟨y8,e8⟩:=T7.lst;refine⟨_,Z,t₁,s₁,2,Z,T7,δ,δ,λr8 z8 a8 b8 T8=>?_⟩;have S8:aY t₁ H7 _:=aY.up (ys:=z8) e8;generalize upd H7 t₁ (.lst z8)=H8 at T8 S8 ⊢;have wv8:=wv.mono (aI.step (K:=K) S8);refine⟨Z,_,Z,rT (λ_=>?_) (λ_=>⟨v,ws,_,_,_,_,Z,T8,wv8,ω,okw⟩)⟩;obtain⟨p,xs,rfl,hp,al⟩:=wv8;refine⟨_,Z,p,Z,⟨_,hp⟩,λD hD=>dE (K:=K) (P:=zk K) (ds:=ws) (f:=λw:Wk=>(w.1/3,ZW 23 (w.2.1+6),w.2.2)) (λ_ _ _ _ t p=>p.mono t) hD hp al.len (by have:=al.len;omega) (λi x d H' hx hd s' R E kR=>?_) λH9 ys s9 hD9 al9=>?_⟩
   ·obtain⟨d',hd',pw,am,rfl,hpw,ram⟩:=al.at hx;rw[hd] at hd'
    cases hd'
    have t':=aI.same (K:=K) s';refine⟨gf.set Z,?_⟩;refine⟨_,Z,pw,_,_,_,Z,Z,t' _ _ hpw,Z,_,_,Z,Z,⟨δ,δ⟩,_,Z,pw,_,_,_,Z,Z,t' _ _ hpw,Z,_,_,Z,Z,_,_,Z,_,Z,pw,_,_,_,Z,Z,t' _ _ hpw,Z,?_⟩;dsimp only;rw[show(if(d.2.1:Int)+6<23 then(d.2.1:Int)+6 else 23)=((ZW 23 (d.2.1+6):Nat):Int) by split<;>omega,show(d.1:Int)/3=((d.1/3:Nat):Int) by omega];refine⟨FU,λpn hpn=>?_⟩;have sn:=au hpn (.tup [.int ((d.1/3:Nat):Int),.int ((ZW 23 (d.2.1+6):Nat):Int),am]);exact kR _ _ sn ⟨pn,am,Z,bz.of ao,(ram.mono t').mono (aI.same sn)⟩
   ·refine⟨D,_,Z,.inl ⟨aZ.of hD9,λp7 hp7=>?_⟩⟩;have sA:=au hp7 (.tup ys);refine⟨.ref p7,_,_,_,_,_,Z,T8.same (s9.trans sA),⟨p7,ys,Z,bz.of ao,al9.mono λ_ _ q=>q.mono (aI.same sA)⟩,by rw[Qz];omega,λw hw'=>?_⟩;obtain⟨z,hz,rfl⟩:=QU.mp hw';have o:=okw z hz;have o1:=o.le;have o2:=o.l2;exact⟨by show z.1/3≤ZW 23 (z.2.1+6);omega,by show ZW 23 (z.2.1+6)<24;omega,o.po⟩
  rintro σ H7 ⟨v,ws,x5,x6,x7,x8,rfl,T7,wv,hw,okp⟩;have okw:∀w∈ws,bn w:=λw hw=>(okp w hw).ok
  obtain⟨p,xs,rfl,hp,al⟩:=id wv;have lx:=al.len;refine⟨_,Z,_,Z,_,Z,p,_,Z,.inr hp,t₁,s₁,ws.length,(by rw[al.len];rfl),T7,ω,λvl es0 H8 S8 T8 lv eok0 rk0 e40=>?_⟩;obtain⟨pe,xe,rfl,hpe,ae⟩:=lv;refine⟨_,Z,pe,xe,Z,hpe,λq1 H9 s9 hq1=>⟨ma,λps hps=>?_⟩⟩;have hq2:bz K H9 q1 (xe.take (ZW 12 xe.length)):=by have e:=uB (xs:=xe) 12;rw[←e];exact hq1
  obtain⟨m12,hm⟩:∃m,m=ZW 12 xe.length:=⟨_,Z⟩;rw[←hm] at hq2;obtain⟨es,hes⟩:∃es,es=es0.take m12:=⟨_,Z⟩;have e12:es.length≤12:=by rw[hes,Rs];omega
  have eok:gg ws.length es:=λe he=>eok0 e (by rw[hes] at he;exact RZ he)
  have rk:mD ws.length es:=let ⟨g,g1,g2⟩:=rk0;⟨g,g1,λa b hab=>g2 a b (by rw[hes] at hab;exact RZ hab)⟩;have sA:=au hps (.tup [.ref p,.ref q1]);have s89:=s9.trans sA;have S9:=S8.trans (aY.same s89 T8.lst);have sv:xN K (upd H9 ps (.tup [.ref p,.ref q1])) (.ref ps) ws es:=⟨ps,.ref p,.ref q1,Z,bz.of ao,wv.mono (aI.step (K:=K) S9),⟨q1,_,Z,aI.same sA _ _ hq2,by rw[hes];exact Als.takeI m12 (ae.mono λ_ _ z=>z.mono (aI.same s89))⟩⟩;have T9:=T8.same s89;have wv9:=wv.mono (aI.step (K:=K) S9);generalize upd H9 ps (.tup [.ref p,.ref q1])=HA at s89 S9 sv T9 wv9 ⊢;clear sA hps hq1 hq2 hpe ae;have sa:FI K HA (.ref ps) ws es:=⟨sv,ω,okw,eok,rk,ω⟩;refine⟨_,Z,_,Z,t₁,s₁,.ref p,ws,Z,T9,wv9,hw,okp,λHB SB TB=>⟨_,Z,bW ?_⟩⟩;have saB:=sa.mono (aI.step (K:=K) SB);have wvB:=wv9.mono (aI.step (K:=K) SB);refine⟨_,Z,.ref ps,ws,es,Z,saB.sv,saB.sh,λf l u HC sC win dC=>?_⟩;have saC:=saB.mono (aI.same sC);have wvC:=wvB.mono (aI.same sC);have TC:=TB.same sC;rcases pX okw win dC with⟨z,rfl⟩ | ⟨nb,dv⟩
  ·exact⟨_,Z,_,_,_,_,Z,.int z,Z,_,Z,bW ⟨_,_,_,_,_,_,Z,TC⟩⟩
  refine⟨_,Z,_,_,_,_,Z,dv.deep,Z,_,Z,iD ?_⟩;have nba:∀f' l':Nat->Int,eD ws es f' l'->f6 ws.length f' l'=none:=λf' l' w'=>oN (λi hi=>iG win w' hi) nb
  refine⟨_,Z,.ref ps,ws,es,Z,saC,nba,λHD sD=>⟨_,Z,bW ?_⟩⟩;have wvD:=wvC.mono (aI.same sD);have dvD:=dv.mono (aI.same sD);have okd:=oJ okw win nb;refine⟨_,Z,_,Z,.ref p,u,ws,eN ws f l,2,Z,wvD,dvD,ω,by rw[eh];omega,okw,okd,δ,δ,yS okw win,λHE sE=>⟨_,Z,bW ?_⟩⟩;have sCE:=sD.trans sE;have TE:=TC.same sCE;have saE:=saC.mono (aI.same sCE);have dvE:=dvD.mono (aI.same sE);obtain⟨_,xE,ep,hpE,aE⟩:=wvD.mono (aI.same sE)
  cases ep
  have lE:=aE.len;refine⟨_,Z,p,_,Z,.inr hpE,_,_,Z,Z,_,Z,?_⟩;by_cases c1:(xE.length:Int)>1
  rotate_left
  ·exact dA c1 ⟨_,_,_,_,_,_,Z,TE⟩
  refine dz c1 ?_;refine⟨_,Z,_,Z,t₁,s₁,.ref ps,ws,es,Z,TE,saE.sv,ω,hw,okw,eok,rk,e12,λum es' HF SF TF svF eokF rkF e13 sub=>?_⟩;have saF:FI K HF um ws es':=⟨svF,ω,okw,eokF,rkF,ω⟩;have dvF:=dvE.mono (aI.step (K:=K) SF);refine⟨_,Z,um,ws,es',Z,svF,saF.sh,λf' l' u' HG sG win' dG=>?_⟩;have saG:=saF.mono (aI.same sG);have dvG:=dvF.mono (aI.same sG);have TG:=TF.same sG;rcases pX okw win' dG with⟨z,rfl⟩ | ⟨nb',dv'⟩
  ·exact⟨_,Z,_,_,_,_,Z,.int z,Z,_,Z,bW ⟨_,_,_,_,_,_,Z,TG⟩⟩
  refine⟨_,Z,_,_,_,_,Z,dv'.deep,Z,_,Z,iD ?_⟩;refine⟨_,Z,um,ws,es',Z,saG,λf2 l2 w2=>oN (λi hi=>iG win' w2 hi) nb',λHI sI=>⟨_,Z,bW ?_⟩⟩;have tI:=aI.same (K:=K) sI;exact⟨_,Z,_,Z,u,u',eN ws f l,eN ws f' l',3,Z,dvG.mono tI,dv'.mono tI,by rw[eh];omega,by rw[eh];omega,okd,oJ okw win' nb',δ,δ,Fs okw win nb win' sub,λHJ sJ=>⟨_,Z,bW ⟨_,_,_,_,_,_,Z,TG.same (sI.trans sJ)⟩⟩⟩
 ·rintro σ H2 ⟨x3,x4,x5,x6,x7,x8,rfl,T2⟩;exact k H2
end
set_option autoImplicit true in
set_option relaxedAutoImplicit true in
open PySem.W in
theorem all_mk{l:OpenLaw}{w:RF}{K:Frag}{h:QN}{mg:Rr->Option Value}{fa:Addr}(X:K.In h)(G:h.Ns Rg mg)(hfa:mg "law"=some (.ref fa))
  (h0:cS K "is_whole" A0 f_Q42 d_Q42)
  (h1:cS K "is_tuple_of" Bl f_Q22 d_Q22)
  (h2:cS K "is_number_of" Bt f_Q15 d_Q15)
  (h3:cS K "copied" AG f_Q64 d_Q64)
  (h4:cS K "greatest_divisor" Hn f_Q0 d_Q0)
  (h5:cS K "is_ratio" AZ f_Q43 d_Q43)
  (h6:cS K "is_above_nought" Hm f_Q1 d_Q1)
  (h7:cS K "ratio" AC f_Q71 d_Q71)
  (h8:cS K "plus" Ax f_Q76 d_Q76)
  (h9:cS K "minus" AB f_Q72 d_Q72)
  (h10:cS K "times" AA f_Q73 d_Q73)
  (h11:cS K "over" Aw f_Q77 d_Q77)
  (h12:cS K "raised" AF f_Q65 d_Q65)
  (h13:cS K "is_less" AK f_Q57 d_Q57)
  (h14:cS K "lesser" AE f_Q66 d_Q66)
  (h15:cS K "total" Az f_Q74 d_Q74)
  (h16:cS K "whole_parts" Bk f_Q23 d_Q23)
  (h17:cS K "is_sheet_shaped" Hl f_Q2 d_Q2)
  (h18:cS K "is_work" AJ f_Q58 d_Q58)
  (h19:cS K "in_window" Bc f_Q31 d_Q31)
  (h20:cS K "is_lean" AI f_Q59 d_Q59)
  (h21:cS K "no_leanings" Bj f_Q24 d_Q24)
  (h22:cS K "add_lean" AY f_Q44 d_Q44)
  (h23:cS K "all_leanings" Bs f_Q16 d_Q16)
  (h24:cS K "first_ring" Bg f_Q27 d_Q27)
  (h25:cS K "right_sheet" Bi f_Q25 d_Q25)
  (h26:cS K "drawn_in" AX f_Q45 d_Q45)
  (h27:cS K "kept_windows" Br f_Q17 d_Q17)
  (h28:cS K "held" Av f_Q78 d_Q78)
  (h29:cS K "tightest_places" Hk f_Q3 d_Q3)
  (h30:cS K "tightest" AW f_Q46 d_Q46)
  (h31:cS K "layers" AD f_Q67 d_Q67)
  (h32:cS K "layer_density" By f_Q10 d_Q10)
  (h33:cS K "layer_speeds" Bp f_Q18 d_Q18)
  (h34:cS K "first_to_come" Bx f_Q11 d_Q11)
  (h35:cS K "order_of" AV f_Q47 d_Q47)
  (h36:cS K "deal_turn" Bb f_Q32 d_Q32)
  (h37:cS K "dealt" Ay f_Q75 d_Q75)
  (h38:cS K "least_plan" Bf f_Q28 d_Q28)
  (h39:cS K "slope_between" Bw f_Q12 d_Q12)
  (h40:cS K "top_of" F7 f_Q68 d_Q68)
  (h41:cS K "is_beyond" Ba f_Q33 d_Q33)
  (h42:cS K "place_of" AU f_Q48 d_Q48)
  (h43:cS K "power_at" AT f_Q49 d_Q49)
  (h44:cS K "is_piece" AS f_Q50 d_Q50)
  (h45:cS K "are_pieces" Be f_Q29 d_Q29)
  (h46:cS K "is_plan_shaped" Hg f_Q7 d_Q7)
  (h47:cS K "are_in_place" Bo f_Q19 d_Q19)
  (h48:cS K "pieces_in_order" Hj f_Q4 d_Q4)
  (h49:cS K "is_lean_kept" Bn f_Q20 d_Q20)
  (h50:cS K "right_plan" Bd f_Q30 d_Q30)
  (h51:cS K "speeds_of" A9 f_Q34 d_Q34)
  (h52:cS K "power_of" AR f_Q51 d_Q51)
  (h53:cS K "stretch_bound" Bv f_Q13 d_Q13)
  (h54:cS K "_law_tape" AQ f_Q52 d_Q52)
  (h55:cS K "_law_draw" AO f_Q53 d_Q53)
  (h56:cS K "_law_gcd" AH f_Q60 d_Q60)
  (h57:cS K "_law_ratio" A8 f_Q35 d_Q35)
  (h58:cS K "_law_plus" AN f_Q54 d_Q54)
  (h59:cS K "_law_less" AM f_Q55 d_Q55)
  (h60:cS K "_law_part" AL f_Q56 d_Q56)
  (h61:cS K "_law_works" A7 f_Q36 d_Q36)
  (h62:cS K "_law_leans" A6 f_Q37 d_Q37)
  (h63:cS K "_law_spots" A5 f_Q38 d_Q38)
  (h64:cS K "_law_drawn" A4 f_Q39 d_Q39)
  (h65:cS K "_law_is_not_less" Hi f_Q5 d_Q5)
  (h66:cS K "_law_keeps_leans" Hh f_Q6 d_Q6)
  (h67:cS K "_law_plan_right" Hf f_Q8 d_Q8)
  (h68:cS K "_law_greater" Bh f_Q26 d_Q26)
  (h69:cS K "_law_narrower" Bm f_Q21 d_Q21)
  (h70:cS K "_law_wants_more" He f_Q9 d_Q9)
  (h71:cS K "_law_rises" A3 f_Q40 d_Q40)
  (h72:cS K "_law_lean_more" Bu f_Q14 d_Q14)
  {f_Q79:Addr} {d_Q79:QF} (h73:cS K "law" Au f_Q79 d_Q79)
  {f_NOUGHT:Addr} {od_NOUGHT:Option Addr} {sl_NOUGHT:Array (Option Value)} {tkNOUGHT0 tkNOUGHT1:Tok} {n_NOUGHT:Nat} (p_NOUGHT:nsIn K Rg "NOUGHT"=some (some (.ref f_NOUGHT))) (l_NOUGHT:K.lookup f_NOUGHT=some ⟨.type "tuple",od_NOUGHT,.seq #[.int (0) tkNOUGHT0,.int (1) tkNOUGHT1] n_NOUGHT,sl_NOUGHT⟩)
  {tkTURNS:Tok} (p_TURNS:nsIn K Rg "TURNS"=some (some (.int (24) tkTURNS)))
  {tkMOST_WORKS:Tok} (p_MOST_WORKS:nsIn K Rg "MOST_WORKS"=some (some (.int (20) tkMOST_WORKS)))
  {tkMOST_LEANS:Tok} (p_MOST_LEANS:nsIn K Rg "MOST_LEANS"=some (some (.int (40) tkMOST_LEANS)))
  {tkPOWER:Tok} (p_POWER:nsIn K Rg "POWER"=some (some (.str "power" tkPOWER)))
  {cB NB:Addr} {nmB qB:Rr} {bsB:List Value} {hdB:Bool} {snB:List Rr} {suB:List Value} {abB:Bool} {coB:Option Bool} {ddB:Option Addr} {j0 j1 j2 j3 j5:Option Value} {ocB:Value} {odB:Option Addr} {esB:Array Yh} {nB:Nat} {slB:Array (Option Value)}
  (pB:nsIn K Rg "PaceError"=some (some (.ref cB))) (lB:K.lookup cB=some (Uj nmB qB cB NB bsB [.type "ValueError",.type "Exception",.type "BaseException",.type "object"] hdB snB suB abB coB ddB j0 j1 j2 j3 j5 "ValueError.__new__")) (lnB:K.lookup NB=some ⟨ocB,odB,.dict esB nB,slB⟩) (hsB:nK esB=true) (hnB:(nsFind esB "__init__").isNone=true)
  (cgB:specialIn K (.builtin "object.__class__") "__get__"=some (some (.builtin "getset_descriptor.__get__"))) (ctB:takesIn K (.builtin "object.__class__")=some true)
  {c_Q61 N_Q61 i_Q61:Addr} {nm_Q61 q_Q61:Rr} {bs_Q61:List Value} {hd_Q61:Bool} {sn_Q61:List Rr} {su_Q61:List Value} {ab_Q61:Bool} {co_Q61:Option Bool} {dd_Q61:Option Addr} {k0_Q61 k1_Q61 k2_Q61 k3_Q61 k5_Q61:Option Value} {od_Q61 an_Q61:Option Addr} {sl_Q61:Array (Option Value)} {oc_Q61 kV_Q61 dc_Q61 pm_Q61 cd_Q61 ct_Q61:Value}
  (p_Q61:nsIn K Rg "NoSheet"=some (some (.ref c_Q61))) (lc_Q61:K.lookup c_Q61=some (Uj nm_Q61 q_Q61 c_Q61 N_Q61 bs_Q61 (.ref cB::[.type "ValueError",.type "Exception",.type "BaseException",.type "object"]) hd_Q61 sn_Q61 su_Q61 ab_Q61 co_Q61 dd_Q61 k0_Q61 k1_Q61 k2_Q61 k3_Q61 k5_Q61 "ValueError.__new__")) (fi_Q61:findIn K (.ref c_Q61) "__init__"=some (some (.ref i_Q61)))
  (l_Q61:K.lookup i_Q61=some ⟨oc_Q61,od_Q61,.func (fnOf "__init__" "NoSheet.__init__" (eX pU) (dU pU) (ax pU) .none kV_Q61 dc_Q61 pm_Q61 an_Q61 cd_Q61 ct_Q61),sl_Q61⟩) (cd_Q61_:codeIn K cd_Q61 "NoSheet.__init__"=true) (ki_Q61:keepIn K (.ref i_Q61)=true) (ti_Q61:typeIn K (.ref i_Q61)=some (.type "function")) (kc_Q61:keepIn K (.ref c_Q61)=true)
  (hh_Q61:hasDictIn K c_Q61=true) (sa_Q61:findIn K (.ref c_Q61) "__setattr__"=some (some (.builtin "object.__setattr__")))
  (na_Q61_word:findIn K (.ref c_Q61) "word"=some none) (na_Q61_number:findIn K (.ref c_Q61) "number"=some none) (ga_Q61:findIn K (.ref c_Q61) "__getattribute__"=some (some (.builtin "BaseException.__getattribute__"))) (gn_Q61:findIn K (.ref c_Q61) "__getattr__"=some none) (cl_Q61:findIn K (.ref c_Q61) "__class__"=some (some (.builtin "object.__class__")))
  {c_Q69 N_Q69 i_Q69:Addr} {nm_Q69 q_Q69:Rr} {bs_Q69:List Value} {hd_Q69:Bool} {sn_Q69:List Rr} {su_Q69:List Value} {ab_Q69:Bool} {co_Q69:Option Bool} {dd_Q69:Option Addr} {k0_Q69 k1_Q69 k2_Q69 k3_Q69 k5_Q69:Option Value} {od_Q69 an_Q69:Option Addr} {sl_Q69:Array (Option Value)} {oc_Q69 kV_Q69 dc_Q69 pm_Q69 cd_Q69 ct_Q69:Value}
  (p_Q69:nsIn K Rg "NoRoom"=some (some (.ref c_Q69))) (lc_Q69:K.lookup c_Q69=some (Uj nm_Q69 q_Q69 c_Q69 N_Q69 bs_Q69 (.ref cB::[.type "ValueError",.type "Exception",.type "BaseException",.type "object"]) hd_Q69 sn_Q69 su_Q69 ab_Q69 co_Q69 dd_Q69 k0_Q69 k1_Q69 k2_Q69 k3_Q69 k5_Q69 "ValueError.__new__")) (fi_Q69:findIn K (.ref c_Q69) "__init__"=some (some (.ref i_Q69)))
  (l_Q69:K.lookup i_Q69=some ⟨oc_Q69,od_Q69,.func (fnOf "__init__" "NoRoom.__init__" (eX pT) (dU pT) (ax pT) .none kV_Q69 dc_Q69 pm_Q69 an_Q69 cd_Q69 ct_Q69),sl_Q69⟩) (cd_Q69_:codeIn K cd_Q69 "NoRoom.__init__"=true) (ki_Q69:keepIn K (.ref i_Q69)=true) (ti_Q69:typeIn K (.ref i_Q69)=some (.type "function")) (kc_Q69:keepIn K (.ref c_Q69)=true)
  (hh_Q69:hasDictIn K c_Q69=true) (sa_Q69:findIn K (.ref c_Q69) "__setattr__"=some (some (.builtin "object.__setattr__")))
  (na_Q69_work:findIn K (.ref c_Q69) "work"=some none) (ga_Q69:findIn K (.ref c_Q69) "__getattribute__"=some (some (.builtin "BaseException.__getattribute__"))) (gn_Q69:findIn K (.ref c_Q69) "__getattr__"=some none) (cl_Q69:findIn K (.ref c_Q69) "__class__"=some (some (.builtin "object.__class__")))
  {c_Q41:Addr} (p_Q41:nsIn K Rg "PaceError"=some (some (.ref c_Q41)))
  {c_Q70:Addr} (p_Q70:nsIn K Rg "NoPlan"=some (some (.ref c_Q70)))
  {c_Q62:Addr} (p_Q62:nsIn K Rg "NoSpeed"=some (some (.ref c_Q62)))
  {c_Q63:Addr} (p_Q63:nsIn K Rg "NoRatio"=some (some (.ref c_Q63)))
  (w_x_catch:exmOne K (.ref c_Q69) (.ref c_Q69)=some true)
  (w_x_catch2:exmOne K (.ref c_Q61) (.ref c_Q61)=some true)
  (z_abs:nsIn K Rg "abs"=some none)
  (z_all:nsIn K Rg "all"=some none)
  (z_any:nsIn K Rg "any"=some none)
  (z_bool:nsIn K Rg "bool"=some none)
  (z_enumerate:nsIn K Rg "enumerate"=some none)
  (z_int:nsIn K Rg "int"=some none)
  (z_isinstance:nsIn K Rg "isinstance"=some none)
  (z_len:nsIn K Rg "len"=some none)
  (z_list:nsIn K Rg "list"=some none)
  (z_max:nsIn K Rg "max"=some none)
  (z_min:nsIn K Rg "min"=some none)
  (z_range:nsIn K Rg "range"=some none)
  (z_set:nsIn K Rg "set"=some none)
  (z_sum:nsIn K Rg "sum"=some none)
  (z_tuple:nsIn K Rg "tuple"=some none)
  (z_zip:nsIn K Rg "zip"=some none)
  : ∃fd:QF,(∀(s:QD) (v:Value),Xz s fd ⟨[v],[]⟩ [("_law_script",v)])/\∀base:QN,K.In base->base.Ns Rg mg->bi l.prog w K mg base cT 9 fa fd ["_law_script"] (qS K):=by
 have e:=hfa.symm.trans (mg_of X G h73.p)
 cases e
 have μ:=fun(n:Str) (v:Value) (e:nsIn K Rg n=some (some v))=>mg_of X G e
 obtain⟨_,_,_,_,_,_,_,_,_,rfl,_,_⟩:=h73.F.ex;have F_Q61:=vW (st:=pU) l_Q61 cd_Q61_ ki_Q61;have F_Q69:=vW (st:=pT) l_Q69 cd_Q69_ ki_Q69;have T:de K mg ⟨f_Q42,_,f_Q22,_,f_Q15,_,f_Q64,_,f_Q0,_,f_Q43,_,f_Q1,_,f_Q71,_,f_Q76,_,f_Q72,_,f_Q73,_,f_Q77,_,f_Q65,_,f_Q57,_,f_Q66,_,f_Q74,_,f_Q23,_,f_Q2,_,f_Q58,_,f_Q31,_,f_Q59,_,f_Q24,_,f_Q44,_,f_Q16,_,f_Q27,_,f_Q25,_,f_Q45,_,f_Q17,_,f_Q78,_,f_Q3,_,f_Q46,_,f_Q67,_,f_Q10,_,f_Q18,_,f_Q11,_,f_Q47,_,f_Q32,_,f_Q75,_,f_Q28,_,f_Q12,_,f_Q68,_,f_Q33,_,f_Q48,_,f_Q49,_,f_Q50,_,f_Q29,_,f_Q7,_,f_Q19,_,f_Q4,_,f_Q20,_,f_Q30,_,f_Q34,_,f_Q51,_,f_Q13,_,f_Q52,_,f_Q53,_,f_Q60,_,f_Q35,_,f_Q54,_,f_Q55,_,f_Q56,_,f_Q36,_,f_Q37,_,f_Q38,_,f_Q39,_,f_Q5,_,f_Q6,_,f_Q8,_,f_Q26,_,f_Q21,_,f_Q9,_,f_Q40,_,f_Q14,_,fa,_,f_NOUGHT,tkTURNS,tkMOST_WORKS,tkMOST_LEANS,tkPOWER,cB,c_Q61,i_Q61,_,c_Q69,i_Q69,_,c_Q41,c_Q70,c_Q62,c_Q63⟩:=⟨h0.F,h0.b1,μ _ _ h0.p,h1.F,h1.b2,μ _ _ h1.p,h2.F,h2.b2,μ _ _ h2.p,h3.F,h3.b1,μ _ _ h3.p,h4.F,h4.b2,μ _ _ h4.p,h5.F,h5.b1,μ _ _ h5.p,h6.F,h6.b1,μ _ _ h6.p,h7.F,h7.b2,μ _ _ h7.p,h8.F,h8.b2,μ _ _ h8.p,h9.F,h9.b2,μ _ _ h9.p,h10.F,h10.b2,μ _ _ h10.p,h11.F,h11.b2,μ _ _ h11.p,h12.F,h12.b2,μ _ _ h12.p,h13.F,h13.b2,μ _ _ h13.p,h14.F,h14.b2,μ _ _ h14.p,h15.F,h15.b1,μ _ _ h15.p,h16.F,h16.b1,μ _ _ h16.p,h17.F,h17.b1,μ _ _ h17.p,h18.F,h18.b1,μ _ _ h18.p,h19.F,h19.b2,μ _ _ h19.p,h20.F,h20.b2,μ _ _ h20.p,h21.F,h21.b1,μ _ _ h21.p,h22.F,h22.b2,μ _ _ h22.p,h23.F,h23.b2,μ _ _ h23.p,h24.F,h24.b2,μ _ _ h24.p,h25.F,h25.b1,μ _ _ h25.p,h26.F,h26.b1,μ _ _ h26.p,h27.F,h27.b2,μ _ _ h27.p,h28.F,h28.b3,μ _ _ h28.p,h29.F,h29.b3,μ _ _ h29.p,h30.F,h30.b2,μ _ _ h30.p,h31.F,h31.b1,μ _ _ h31.p,h32.F,h32.b2,μ _ _ h32.p,h33.F,h33.b1,μ _ _ h33.p,h34.F,h34.b3,μ _ _ h34.p,h35.F,h35.b2,μ _ _ h35.p,h36.F,h36.b5,μ _ _ h36.p,h37.F,h37.b3,μ _ _ h37.p,h38.F,h38.b1,μ _ _ h38.p,h39.F,h39.b2,μ _ _ h39.p,h40.F,h40.b1,μ _ _ h40.p,h41.F,h41.b2,μ _ _ h41.p,h42.F,h42.b2,μ _ _ h42.p,h43.F,h43.b2,μ _ _ h43.p,h44.F,h44.b2,μ _ _ h44.p,h45.F,h45.b2,μ _ _ h45.p,h46.F,h46.b2,μ _ _ h46.p,h47.F,h47.b3,μ _ _ h47.p,h48.F,h48.b1,μ _ _ h48.p,h49.F,h49.b2,μ _ _ h49.p,h50.F,h50.b2,μ _ _ h50.p,h51.F,h51.b1,μ _ _ h51.p,h52.F,h52.b2,μ _ _ h52.p,h53.F,h53.b3,μ _ _ h53.p,h54.F,h54.b1,μ _ _ h54.p,h55.F,h55.b2,μ _ _ h55.p,h56.F,h56.b2,μ _ _ h56.p,h57.F,h57.b2,μ _ _ h57.p,h58.F,h58.b2,μ _ _ h58.p,h59.F,h59.b2,μ _ _ h59.p,h60.F,h60.b1,μ _ _ h60.p,h61.F,h61.b3,μ _ _ h61.p,h62.F,h62.b2,μ _ _ h62.p,h63.F,h63.b2,μ _ _ h63.p,h64.F,h64.b1,μ _ _ h64.p,h65.F,h65.b2,μ _ _ h65.p,h66.F,h66.b2,μ _ _ h66.p,h67.F,h67.b1,μ _ _ h67.p,h68.F,h68.b2,μ _ _ h68.p,h69.F,h69.b2,μ _ _ h69.p,h70.F,h70.b3,μ _ _ h70.p,h71.F,h71.b2,μ _ _ h71.p,h72.F,h72.b2,μ _ _ h72.p,h73.F,h73.b1,μ _ _ h73.p,μ _ _ p_NOUGHT,λH=>.inr ⟨_,_,_,l_NOUGHT,Z,Z,ma,(.cons ⟨_,Z⟩ (.cons ⟨_,Z⟩ .nil))⟩,μ _ _ p_TURNS,μ _ _ p_MOST_WORKS,μ _ _ p_MOST_LEANS,μ _ _ p_POWER,FV lc_Q61 lB lnB hsB hnB fi_Q61 ti_Q61 kc_Q61 hh_Q61 sa_Q61,F_Q61,Ox F_Q61,μ _ _ p_Q61,na_Q61_word,na_Q61_number,⟨ga_Q61,gn_Q61,cl_Q61,cgB,ctB⟩,FV lc_Q69 lB lnB hsB hnB fi_Q69 ti_Q69 kc_Q69 hh_Q69 sa_Q69,F_Q69,Ox F_Q69,μ _ _ p_Q69,na_Q69_work,⟨ga_Q69,gn_Q69,cl_Q69,cgB,ctB⟩,μ _ _ p_Q41,μ _ _ p_Q70,μ _ _ p_Q62,μ _ _ p_Q63,w_x_catch,w_x_catch2,mg_none_of X G z_abs,mg_none_of X G z_all,mg_none_of X G z_any,mg_none_of X G z_bool,mg_none_of X G z_enumerate,mg_none_of X G z_int,mg_none_of X G z_isinstance,mg_none_of X G z_len,mg_none_of X G z_list,mg_none_of X G z_max,mg_none_of X G z_min,mg_none_of X G z_range,mg_none_of X G z_set,mg_none_of X G z_sum,mg_none_of X G z_tuple,mg_none_of X G z_zip⟩
 exact⟨_,λs v=>.of_eq Z,λbase _ _=>IE T⟩
theorem walk{l:ZX}{loose:List Rr}{XP:(Rr->Option Value)->QN->Prop}{YP:RF->QN->Prop}{d:DefRec}{K:Params->Qu}(hn:l.most=some 63)(hdf:d.params.defaults=[])
  (hY:∀(w:RF) (h:QN),YP w h->(K w.params).In h)
  (F:∀(w:RF) (mg:Rr->Option Value) (fa:Addr) (h:QN),(K w.params).In h->h.Ns Rg mg->mg d.name=some (.ref fa)→
   ∃fd:QF,(∀(s:QD) (u:Value),Xz s fd ⟨[u],[]⟩ [("_law_script",u)])/\∀base:QN,(K w.params).In base->base.Ns Rg mg->bi l.prog w (K w.params) mg base cT 9 fa fd ["_law_script"] (qS (K w.params))):
  aam q loose XP YP l.row.toRowW d [] (λf vs=>aab f vs):=
 L2.walk_of (n:=63) (k:=9) (x := "_law_script") (CX:=λ_=>cT) (sp:=λw=>qS (K w.params)) hn δ hdf ⟨Z,δ,δ,Z⟩ hY F (λ_ _ a ns hl _ hS=>⟨a,ns,Z,hS,hl,λ_=>Z⟩) λ_ _ _ _ _ z=>z
end My
open PySem PySem.W PyProof.Rows
set_option maxRecDepth 100000 in
set_option maxHeartbeats 0 in
theorem PySem.Challenge.cw_paceplan_k92_whole_leaning_and_a_work_mo_holds : PySem.Challenge.rw_paceplan_k92_whole_leaning_and_a_work_mo.Holds := by
 w_on;refine HWtop ?_
 k_fill
 refine My.walk (l:=PySem.Challenge.rw_paceplan_k92_whole_leaning_and_a_work_mo) rfl rfl (fun w h Y=>PySem.W.kIn_of Y) ?F
 case F=>
  intro w mg fa h KX G hmg
  refine' My.all_mk KX G hmg ?q0 ?q1 ?q2 ?q3 ?q4 ?q5 ?q6 ?q7 ?q8 ?q9 ?q10 ?q11 ?q12 ?q13 ?q14 ?q15 ?q16 ?q17 ?q18 ?q19 ?q20 ?q21 ?q22 ?q23 ?q24 ?q25 ?q26 ?q27 ?q28 ?q29 ?q30 ?q31 ?q32 ?q33 ?q34 ?q35 ?q36 ?q37 ?q38 ?q39 ?q40 ?q41 ?q42 ?q43 ?q44 ?q45 ?q46 ?q47 ?q48 ?q49 ?q50 ?q51 ?q52 ?q53 ?q54 ?q55 ?q56 ?q57 ?q58 ?q59 ?q60 ?q61 ?q62 ?q63 ?q64 ?q65 ?q66 ?q67 ?q68 ?q69 ?q70 ?q71 ?q72 ?q73 ?q74 ?q75 ?q76 ?q77 ?q78 ?q79 ?q80 ?q81 ?q82 ?q83 ?q84 ?q85 ?q86 ?q87 ?q88 ?q89 ?q90 ?q91 ?q92 ?q93 ?q94 ?q95 ?q96 ?q97 ?q98 ?q99 ?q100 ?q101 ?q102 ?q103 ?q104 ?q105 ?q106 ?q107 ?q108 ?q109 ?q110 ?q111 ?q112 ?q113 ?q114 ?q115 ?q116 ?q117 ?q118 ?q119 ?q120 ?q121 ?q122 ?q123 ?q124 ?q125 ?q126 ?q127 ?q128 ?q129 ?q130 ?q131 ?q132 ?q133 ?q134 ?q135 ?q136 ?q137
  (case q0|q1|q2|q3|q4|q5|q6|q7|q8|q9|q10|q11|q12|q13|q14|q15|q16|q17|q18|q19|q20|q21|q22|q23|q24|q25|q26|q27|q28|q29|q30|q31|q32|q33|q34|q35|q36|q37|q38|q39|q40|q41|q42|q43|q44|q45|q46|q47|q48|q49|q50|q51|q52|q53|q54|q55|q56|q57|q58|q59|q60|q61|q62|q63|q64|q65|q66|q67|q68|q69|q70|q71|q72|q73=>refine' B.isF ?a ?b ?c ?d;(case a=>k_is);(case b=>k_is);(case c=>k_is);(case d=>k_is))
  (case q74|q75|q76|q77|q78|q79|q80|q81|q82=>k_is)
  (case q83|q84=>rfl)
  (case q85|q86|q87|q88|q89|q90|q91|q92|q93|q94|q95|q96|q97|q98|q99|q100|q101|q102|q103|q104|q105|q106|q107|q108|q109|q110|q111|q112|q113|q114|q115|q116|q117|q118|q119=>k_is)
  (case q120|q121=>kts_exm)
  (case q122|q123|q124|q125|q126|q127|q128|q129|q130|q131|q132|q133|q134|q135|q136|q137=>k_is)
