import PyProof.Rows.All
import KE.RegKIsAll
import KE.RegKTryMore
import KE.KItem
import PySem.Challenge.RW_paceplan_k70_whole_bills_of_keepers
set_option Elab.async false
set_option linter.all false
set_option maxRecDepth 100000
set_option autoImplicit true
set_option relaxedAutoImplicit true
namespace HP
open PySem
abbrev S:=Stmt
noncomputable def b:=PySem.Challenge.pw_paceplan_k70_whole_bills_of_keepers.main.body
local macro_rules
 | `(tactic| o_head $n:term)=>`(tactic| (refine (?f:∀ s,b[$n]?=some s->_) _ rfl;exact fun s _=>s))
noncomputable def c0:S:=by o_head 0
noncomputable def c1:S:=by o_head 1
noncomputable def c2:S:=by o_head 2
noncomputable def c3:S:=by o_head 3
noncomputable def c4:S:=by o_head 4
noncomputable def c5:S:=by o_head 5
noncomputable def c6:S:=by o_head 6
noncomputable def c7:S:=by o_head 7
noncomputable def c8:S:=by o_head 8
noncomputable def c9:S:=by o_head 9
noncomputable def c10:S:=by o_head 10
noncomputable def c11:S:=by o_head 11
noncomputable def c12:S:=by o_head 12
noncomputable def c13:S:=by o_head 13
noncomputable def c14:S:=by o_head 14
noncomputable def c15:S:=by o_head 15
noncomputable def c16:S:=by o_head 16
noncomputable def c17:S:=by o_head 17
noncomputable def c18:S:=by o_head 18
noncomputable def c19:S:=by o_head 19
noncomputable def c20:S:=by o_head 20
noncomputable def c21:S:=by o_head 21
noncomputable def c22:S:=by o_head 22
noncomputable def c23:S:=by o_head 23
noncomputable def c24:S:=by o_head 24
noncomputable def c25:S:=by o_head 25
noncomputable def c26:S:=by o_head 26
noncomputable def c27:S:=by o_head 27
noncomputable def c28:S:=by o_head 28
noncomputable def c29:S:=by o_head 29
noncomputable def c30:S:=by o_head 30
noncomputable def c31:S:=by o_head 31
noncomputable def c32:S:=by o_head 32
noncomputable def c33:S:=by o_head 33
noncomputable def c34:S:=by o_head 34
noncomputable def c35:S:=by o_head 35
noncomputable def c36:S:=by o_head 36
noncomputable def c37:S:=by o_head 37
noncomputable def c38:S:=by o_head 38
noncomputable def c39:S:=by o_head 39
noncomputable def c40:S:=by o_head 40
noncomputable def c41:S:=by o_head 41
noncomputable def c42:S:=by o_head 42
noncomputable def c43:S:=by o_head 43
noncomputable def c44:S:=by o_head 44
noncomputable def c45:S:=by o_head 45
noncomputable def c46:S:=by o_head 46
noncomputable def c47:S:=by o_head 47
noncomputable def c48:S:=by o_head 48
noncomputable def c49:S:=by o_head 49
noncomputable def c50:S:=by o_head 50
noncomputable def c51:S:=by o_head 51
noncomputable def c52:S:=by o_head 52
noncomputable def c53:S:=by o_head 53
noncomputable def c54:S:=by o_head 54
noncomputable def c55:S:=by o_head 55
noncomputable def c56:S:=by o_head 56
noncomputable def c57:S:=by o_head 57
noncomputable def c58:S:=by o_head 58
noncomputable def c59:S:=by o_head 59
noncomputable def c60:S:=by o_head 60
noncomputable def c61:S:=by o_head 61
noncomputable def c62:S:=by o_head 62
noncomputable def c63:S:=by o_head 63
noncomputable def c64:S:=by o_head 64
noncomputable def c65:S:=by o_head 65
noncomputable def c66:S:=by o_head 66
noncomputable def c67:S:=by o_head 67
noncomputable def c68:S:=by o_head 68
noncomputable def c69:S:=by o_head 69
noncomputable def c70:S:=by o_head 70
noncomputable def c71:S:=by o_head 71
noncomputable def c72:S:=by o_head 72
noncomputable def c73:S:=by o_head 73
noncomputable def c74:S:=by o_head 74
noncomputable def c75:S:=by o_head 75
noncomputable def c76:S:=by o_head 76
noncomputable def c77:S:=by o_head 77
noncomputable def c78:S:=by o_head 78
noncomputable def c79:S:=by o_head 79
noncomputable def c80:S:=by o_head 80
noncomputable def t72:List S:=c72::c73::c74::c75::c76::c77::c78::c79::c80::[]
noncomputable def t63:List S:=c63::c64::c65::c66::c67::c68::c69::c70::c71::t72
noncomputable def t54:List S:=c54::c55::c56::c57::c58::c59::c60::c61::c62::t63
noncomputable def t45:List S:=c45::c46::c47::c48::c49::c50::c51::c52::c53::t54
noncomputable def t36:List S:=c36::c37::c38::c39::c40::c41::c42::c43::c44::t45
noncomputable def t27:List S:=c27::c28::c29::c30::c31::c32::c33::c34::c35::t36
noncomputable def t18:List S:=c18::c19::c20::c21::c22::c23::c24::c25::c26::t27
noncomputable def t9:List S:=c9::c10::c11::c12::c13::c14::c15::c16::c17::t18
noncomputable def t0:List S:=c0::c1::c2::c3::c4::c5::c6::c7::c8::t9
noncomputable def s:Scope:=by refine (?f:∀ s,PySem.Challenge.pw_paceplan_k70_whole_bills_of_keepers.main=⟨_,s,_,_,_⟩->_) _ rfl;exact fun s _=>s
noncomputable def p:Program:=by
 refine (?f:∀ l s a f m ms ps ab h g,PySem.Challenge.pw_paceplan_k70_whole_bills_of_keepers=Program.mk ⟨l,s,a,f,m⟩ ms ps ab h g->_) _ _ _ _ _ _ _ _ _ _ rfl
 exact fun _ _ a f m ms ps ab h g _=>⟨⟨t0,s,a,f,m⟩,ms,ps,ab,h,g⟩
theorem e:PySem.Challenge.pw_paceplan_k70_whole_bills_of_keepers=p:=by kernel_rfl
end HP
name_quick tw2299388654243268579 for HP.p by HP.e
theorem PySem.W.Fast.te2299388654243268579:PySem.Challenge.pw_paceplan_k70_whole_bills_of_keepers=PySem.W.Fast.tw2299388654243268579:=PySem.W.Fast.tw2299388654243268579_eq
theorem F7 {α β γ:Type} {o:Option α} {f:α->β} {g:α->γ} {a:β} {b:γ} (h1:o.map f=some a) (h2:o.map g=some b):o.map (fun s=>(f s,g s))=some (a,b):=by
 cases o with
 | none=>cases h1
 | some x=>cases h1;cases h2;rfl
namespace HW
open PySem
def keep:List Nat:=[1,2,3,4,6,7,8,9,10,11,13,14,15,16,17,18,19,20,21,22,23,24,25,26,28,29,30,31,32,33,34,35,37,38,39,40,41,42,43,45,46,47,48,49,51,52,53,54,56,58,59,60,61,63,64,65,66,67,68,69,70,71,72,73,74,75,76,77,78,79,80]
def V:Program:=PySem.W.view PySem.Challenge.pw_paceplan_k70_whole_bills_of_keepers keep
end HW
section HWs
open PySem PySem.W PyProof.Rows
set_option maxHeartbeats 0
abbrev HWe(w:World):=openEnds treeTable PySem.Challenge.rw_paceplan_k70_whole_bills_of_keepers.row.prog w 7648
abbrev HWo:=fun s:Shared=>openSeen HW.V [] (importedModules PySem.Challenge.rw_paceplan_k70_whole_bills_of_keepers.row.prog.main.body) (fun s=>xlAt HW.V [] s && recOk PySem.Challenge.rw_paceplan_k70_whole_bills_of_keepers.row.records s) true s
local macro_rules
 | `(tactic| nofun)=>`(tactic| (intro w;delta HWe HWo openEnds fencedOpening topFrom;rw [PySem.W.Fast.te14364793385576792824,PySem.W.Fast.te14082659384304107361,PySem.W.Fast.te10274390034422433532,PySem.W.Fast.te1435165496053646825,PySem.W.Fast.te14289696077712309145,PySem.W.Fast.te4187177175401517315];kernel_rfl))
theorem HW9 {β γ δ ε ζ η θ:Type}{z x:β×γ×δ×ε×ζ×η×θ}(h1:(match z with|(a,_)=>a)=x.1)(h2:(match z with|(_,a,_)=>a)=x.2.1)(h3:(match z with|(_,_,a,_)=>a)=x.2.2.1)(h4:(match z with|(_,_,_,a,_)=>a)=x.2.2.2.1)(h5:(match z with|(_,_,_,_,a,b,_)=>(a,b))=(x.2.2.2.2.1,x.2.2.2.2.2.1))(h6:(match z with|(_,_,_,_,_,_,a)=>a)=x.2.2.2.2.2.2):z=x:=by
 obtain ⟨a,b,c,d,e,g,h⟩:=z
 obtain ⟨a',b',c',d',e',g',h'⟩:=x
 cases h1;cases h2;cases h3;cases h4;cases h5;cases h6;rfl
theorem HW0 {α β γ δ ε ζ η θ:Type}{o:Option α}{f:α->β×γ×δ×ε×ζ×η×θ}{x:β×γ×δ×ε×ζ×η×θ}(h1:o.map (fun s=>match f s with|(a,_)=>a)=some x.1)(h2:o.map (fun s=>match f s with|(_,a,_)=>a)=some x.2.1)(h3:o.map (fun s=>match f s with|(_,_,a,_)=>a)=some x.2.2.1)(h4:o.map (fun s=>match f s with|(_,_,_,a,_)=>a)=some x.2.2.2.1)(h5:o.map (fun s=>match f s with|(_,_,_,_,a,b,_)=>(a,b))=some (x.2.2.2.2.1,x.2.2.2.2.2.1))(h6:o.map (fun s=>match f s with|(_,_,_,_,_,_,a)=>a)=some x.2.2.2.2.2.2):o.map f=some x:=by
 cases o with
 | none=>cases h1
 | some y=>exact congrArg some (HW9 (Option.some.inj h1) (Option.some.inj h2) (Option.some.inj h3) (Option.some.inj h4) (Option.some.inj h5) (Option.some.inj h6))
theorem HW5:∀ w,(HWe w).map (fun s=>match HWo s with|(_,_,_,_,a,b,_)=>(a,b))=some ((openGood HW.V []).2.2.2.2.1,(openGood HW.V []).2.2.2.2.2.1):=by nofun
theorem HW1:∀ w,(HWe w).map (fun s=>match HWo s with|(a,_)=>a)=some (openGood HW.V []).1:=by nofun
theorem HW4:∀ w,(HWe w).map (fun s=>match HWo s with|(_,_,_,a,_)=>a)=some (openGood HW.V []).2.2.2.1:=by nofun
theorem HW3:∀ w,(HWe w).map (fun s=>match HWo s with|(_,_,a,_)=>a)=some (openGood HW.V []).2.2.1:=by nofun
theorem HW2:∀ w,(HWe w).map (fun s=>match HWo s with|(_,a,_)=>a)=some (openGood HW.V []).2.1:=by nofun
theorem HW6:∀ w,(HWe w).map (fun s=>match HWo s with|(_,_,_,_,_,_,a)=>a)=some (openGood HW.V []).2.2.2.2.2.2:=by nofun
theorem HWa:∀ w,(HWe w).map HWo=some (openGood HW.V []):=fun w=>HW0 (HW1 w) (HW2 w) (HW3 w) (HW4 w) (HW5 w) (HW6 w)
local macro_rules
 | `(tactic| o_head $H:term) => `(tactic| (
   refine holds_open (q:=HW.V) (loose:=[]) (N:=7648)
    (Xt:=fun s=>xlAt HW.V [] s && recOk (RowW.records (OpenRow.toRowW (OpenLaw.row PySem.Challenge.rw_paceplan_k70_whole_bills_of_keepers))) s)
    (XP:=XL HW.V []) (Yf:=Hook.obs $H) (Ya:=Hook.val $H) (YP:=Hook.says $H)
    ?hl (Hook.of $H) (Hook.keeps $H)
    (fun s e=>xl_of s (Bool.and_eq_true_iff.mp e).1) XL.keeps
    (by rfl) (by rfl) (by rfl)
    (fun s e=>recFacts_of (Bool.and_eq_true_iff.mp e).2) (by rfl) (by assumption) (by decide +kernel)
    ⟨rfl,rfl,rfl,rfl,rfl,by decide +kernel⟩ ?hw ?hc
   (case hl=>
    intro w;refine F7 (HWa w) ?_;delta openEnds fencedOpening topFrom;rw [PySem.W.Fast.te14364793385576792824,PySem.W.Fast.te14082659384304107361,PySem.W.Fast.te10274390034422433532,PySem.W.Fast.te1435165496053646825,PySem.W.Fast.te14289696077712309145]
    kernel_rfl)))
open_top HWtop for PySem.Challenge.rw_paceplan_k70_whole_bills_of_keepers
end HWs
open Array renaming length_toList→Va
open Bool renaming and_eq_true→Ta,false_ne_true→Tb,eq_iff_iff→UG,and_false→UY,and_eq_true_iff→U4,false_and→VE,true_and→Wm,not_eq_true'→Wp,false_eq_true→WS,eq_false_iff→Yi,not_true→Yo,false_or→Yp,and_true→Yr,or_true→Y0,not_false→Zp,noConfusion→aav,or_eq_true→aaP,or_false→abe
open Classical renaming byContradiction→SS,choose→YC,choose_spec→Y9
open False renaming elim→Vw
open ForInStep renaming yield→XG
open Int renaming gcd→S7,mul_ediv_cancel_left→Tt,eq_ofNat_of_zero_le→Uc,mul_pos→Ut,natCast_dvd_natCast→UC,le_of_lt→UQ,emod_nonneg→U2,emod_lt_of_pos→U3,mul_right_comm→Vj,zero_add→Vm,natAbs_mul→Vn,gcd_comm→Vx,gcd_dvd_right→VP,mul_comm→VQ,dvd_trans→VS,le_of_dvd→VU,mul_le_mul_of_nonneg_left→V6,ediv_nonneg→Wd,toNat_natCast→Wo,ediv_pos_of_pos_of_dvd→Wv,eq_of_mul_eq_mul_right→Ww,gcd_ediv_gcd_ediv_gcd→WB,natAbs_natCast→WP,mul_left_comm→Xe,dvd_refl→Xf,natAbs_dvd_natAbs→Xl,mul_le_mul_of_nonneg_right→Xr,le_refl→Xy,natCast_mul→XH,gcd_add_mul_right_right→XV,mul_lt_mul_of_pos_right→XW,fdiv_eq_ediv_of_nonneg→X0,lt_of_mul_lt_mul_right→X8,ediv_le_self→YA,ediv_one→YN,pow_zero→YU,pow_succ→YV,natAbs_of_nonneg→Zh,add_mul→Zi,mul_nonneg→Zk,mul_assoc→ZE,gcd_eq_one_iff→ZQ,gcd_mul_right→aab,gcd_dvd_left→aau,mul_one→aaB,neg_mul→aaE,natCast_add→aaR,natAbs_neg→aa8
open LawfulBEq renaming eq_of_beq→WW
open List renaming getElem?_eq_getElem→Sz,range→SC,length_map→SE,mem_of_getElem?→SF,getD_eq_getElem?_getD→SG,mem_singleton→SJ,getElem?_eq_some_iff→SN,mem_cons_self→SO,mem_cons_of_mem→SQ,mem_map→SR,getElem?_map→SU,mem_range→SW,length_append→SZ,getElem_mem→S2,mem_cons→S6,mem_append→Ti,replicate→Tq,size_toArray→Tr,length_cons→Tv,mem_filter→Tw,Nodup→Tz,mem_append_right→TD,length_range→TJ,take_add_one→TY,map_cons→TZ,mem_iff_getElem→T0,range_succ→Ua,map_append→Ub,take_length→Ud,nodup_cons→Uf,getElem?_set_ne→Ug,getElem?_of_mem→Ui,length_take→Uk,getElem?_append_left→Ul,getElem?_append_right→Uo,mem_or_eq_of_mem_set→Us,mem_of_mem_take→Uv,foldl_cons→Uz,not_mem_nil→UB,getElem?_set_self→UF,length_set→UH,length_singleton→UL,length_filter_le→UN,filter_eq_self→UR,append_nil→UZ,foldl_append→U9,countP_eq_zero→Vb,pairwise_iff_getElem→Vf,getElem?_eq_none→Vg,all_eq_true→Vi,nodup_nil→Vp,nodup_append→Vt,any_cons→VB,length_replicate→VG,contains_iff_mem→VH,mem_append_left→VO,map_map→VR,getElem?_range→VY,getElem_inj→V0,getElem?_replicate→V2,length_drop→V3,find?_cons→We,Pairwise→Wi,sum_cons→Wj,nodup_range→Wz,map_congr_left→WH,filter_append→WR,lookup→WV,getElem?_cons_zero→WX,getElem?_cons_succ→WY,filter_cons_of_neg→WZ,filter_cons_of_pos→W0,range_succ_eq_map→Xh,append_assoc→Xk,lookup_cons→Xp,getElem_map→Xs,pairwise_append→Xz,mem_of_mem_drop→XA,contains_eq_mem→XB,dropLast_concat_getLast→XM,filterMap_cons→XN,length_pos_iff→XQ,isEmpty_eq_false_iff→X9,getElem_take→Yh,all_cons→Yn,eraseIdx_cons_succ→Yy,countP_cons→YB,take_of_length_le→YX,pairwise_lt_range→YY,of_mem_zip→Y2,length_nil→Y4,take_zero→Zm,replicate_succ→Zz,flatten_append→ZA,mem_filterMap→ZM,contains_cons→ZT,filter_filter→ZU,mem_replicate→ZV,any_eq_false→ZZ,map_nil→Z8,any_map→aae,getElem_drop→aag,filter_congr→aai,Sublist→aak,pairwise_map→aam,flatten_cons→aao,filter_cons→aax,mem_flatten→aaz,filter_nil→aaQ,drop_zero→aa9,foldl→aba
open List.Pairwise renaming filter→Vq
open List.Sublist renaming refl→aal
open Nat renaming le_refl→SD,dvd_refl→SV,zero_le→S8,lt_of_lt_of_le→Td,le_trans→Tu,lt_of_le_of_lt→TX,ne_of_lt→Uj,pow_le_pow_right→UD,lt_irrefl→UJ,not_lt_zero→U1,mul_le_mul_right→Vo,le_succ→VA,le_of_lt→VN,dvd_mul_right→Wq,add_le_add_left→WC,mul_le_mul_left→WD,pow_dvd_pow→WM,le_of_eq→Xc,mul_succ→Xg,sub_self→Xi,lt_succ_self→Xo,succ_le_succ→Xq,one_mul→Xx,mul_dvd_mul_left→XD,ne_of_gt→XR,le_mul_of_pos_right→Yz,zero_add→YZ,min_eq_left→Y5,pow_add→Zf,log2_lt→Zg,mul_le_mul→Zj,mul_pos→Zo,mul_assoc→ZF,le_of_dvd→ZG,lt_succ_of_lt→aaa,add_zero→aah,pow_succ→aan,succ_ne_self→aaw,add_mul→aaF,pow_pos→aaI,zero_lt_one→aaS
open Ne renaming symm→V9
open Option renaming map_eq_some_iff→TQ,isSome_iff_exists→UV,isSome_some→WQ
open Option.some renaming inj→Um
open Or renaming inr→Tn,inl→To
open Prod renaming ext→Z5
open Pure renaming pure→Vd
open PyProof renaming noPylong_small→YI
open PyProof.Rows renaming callWith_type1→Uw,slot_tuple_getitem→Ux,boot_tuple→UO,boot_isinstance→VM,AllBare→Xu,assignInOrder_cons→XZ,subscriptTail_builtinR→YR,envOfC→Ze,IntsAre→Zr,entry_tuple_getitem→Zw,subscriptTail→ZC,boot_range→ZL,args_tuple_getitem→ZP,assignInOrder_nil→ZY
open PyProof.Rows.IsTup renaming new→aaq
open PySem renaming Shared→SH,FuncData→SI,wpAny_bind→SL,starEach→SX,Heap→SY,wpAny→Tj,model→Tp,Program→Tx,Str→TB,mainGlobals→TC,PassesOwn→TK,Builtin→TN,Around→TV,Expr→TW,World→T9,boot_len→UI,compareOp→UK,wpAny_newObj_type→UP,Obj→UU,assignEach→U6,foldedSetIterable→U7,bootBuiltins→Vk,wpAny_truthy_bool→Vr,wpAny_callSpecial?_slot→Vs,wpAny_mono→Vv,attributeBase→Vz,backTo→VD,wpAny_passesOwn→VJ,mem_of_lookup→VW,swapsWith→V1,wpAny_call_entry→V4,keywordEach→V5,sysModules→V8,wpAny_pyIter_tuple→Wb,binaryOp→Wc,Pos→Wh,Scope→Wr,wpAny_field→Wu,behindInMarks→WI,NameKind→WJ,compEnvC→WK,wpAny_Call_Name_kw→WO,sizeLine_eq→WU,getItem→W4,wpAny_pyIter_list→Xa,backToKw→Xw,wpAny_execs_nil→XE,letOwnedTupleGo→XF,codeAny→XT,Keyword→XU,sizeLine→XY,newFunctionEnv→X5,closureFor→X6,tupleKind_room_in1→X7,subscripted→Yc,wpAny_pyIter_enum→Yg,assign→Yj,wpAny_standAt→Yk,swapsWithSole→Yl,swappedStores→Ym,wpAny_comprehension_free→Yq,tupleKind→Ys,getMethod→Yt,cellsFrom→Yu,Within→YE,standAt→YF,wpAny_pyNext_range_end→YG,wpAny_pyIter_rangeiter→YH,BindsTo→YK,codeAny_mono→YL,IsPart→YO,wpAny_typeOf→YQ,call_meets→YT,wpAny_loadName_local→Za,Operator→Zb,IsRangeIter→Zc,IsRange→Zq,callerA→Zs,valueAt→Zt,wpAny_loadName_cell→Zu,assignInOrder→ZB,nums_intItems→ZH,wpAny_pyIter_range→ZK,setItem→ZW,wpAny_assign_Name→ZX,bindArgs→Z3,callWith→Z4,wpAny_sequenceKey→Z6,seqIndex_neg→Z7,relabel→Z9,DictEntry→aas,seqIndex_of→aaD,atKey→aaG,bindName→aaW,Result→aaZ,call→aa4,IsPair→aa7,numAt_eq→abb
open PySem.Around renaming under→YJ,under_plainId→Zl
open PySem.AutoSeq1 renaming wpAny_loadPart'→VT
open PySem.Builtin.Int renaming intBits→Zx
open PySem.Builtin.List renaming listTooLong→Vl
open PySem.Builtin.Range renaming rangeSize→UA,small→VX
open PySem.Builtin.Slice renaming slicePlaces→VI,sliceAdjust→WA,sliceApplied→X2
open PySem.Builtin.SmallTypes renaming nextOf→Ve
open PySem.Builtin.Tuple renaming tupleExact→UW,tupleItemsOf→X3
open PySem.Code renaming isFrame→Z2
open PySem.Data renaming fields→Zd,cell→aar
open PySem.F renaming plainAttrs_list→Te,slot_list_append→Tk,type_list_append→Tl,slot_dict_itemiterator_iter→WL,slot_dict_get→Xm,args_dict_get_3→Yv,plainAttrs_dict→Yw,slot_dict_items→Yx,entry_dict_get→YW
open PySem.Flow renaming next→abk
open PySem.Heap renaming get?_push_of_some→SK,lt_size→Tc,get?_push_size→Tg,size_push→VF,SameBut→Wa,get?_none_of_le→Xv,get?_update_other→YS,get?_update_self→Y8
open PySem.Heap.SameBut renaming update→Zy
open PySem.MeetsSeq renaming EqGives→aay
open PySem.NameKind renaming cell→ZD,free→abg
open PySem.Obj renaming mapSeq→X4,data_mapFields→ZR
open PySem.PassesOwn renaming never→S9
open PySem.PyData renaming eqv→UM,shownAll→Wg,depthAll→XJ,showableAll→ZS,hasDictAll→aad,canLayAll0→aaf,int→aa5
open PySem.SeqAt renaming EqAt→UE
open PySem.SeqAt.EqAt renaming int_str→ZI,str_int→ZJ
open PySem.Str renaming ofString→Wy
open PySem.Value renaming ref→TF,none→VC,int→VZ,bool→V7,type→WN,str→XX,float→aaA,isStrOf→abc
open PySem.W renaming Frag→Sy,findIn→Uh,kia_one→Uy,emptyDict→UT,fnOf→U0,keepIn→U8,instObj→Vu,kitOne→Ws,hasDictIn→Xb,codeIn→Xd,plainGet→Xn,plainGet_of→XO,isFn→XS,lookIn→X1,methodObj→Yb,specialIn→Yd,kitx_list→Ye,cellsFrom_some→YM,takerIn→Y1,methodCall_KW→Y7,callWith_K0→Zv,kitx_tuple→ZN,callWith_K→ZO,plainOver→Z0,kitx_dict→Z1,handedIn→aat,makesIn→aaL,takesIn→aaM,OpenLaw→aaO,typeIn→aaY,kitAny→aa6,WalkO→abf
open Rat renaming le_refl→Ts,intCast_mul→T7,mul_le_mul_of_nonneg_right→Ue,le_of_lt→Up,mul_le_mul_of_nonneg_left→Ur,intCast_lt_intCast→Uu,mul_nonneg→UX,mul_lt_mul_of_pos_right→U5,intCast_natCast→Vc,pow_succ→Vy,le_antisymm→VL,not_le→Wx,not_lt→WT,pow_zero→Xj,intCast_add→XI,intCast_inj→Y3,natCast_add→Y6,mul_pos→Zn,le_trans→aaj,div_def→aaH,mul_add→aaJ
open Sum renaming inl→TL,inr→YD
open True renaming intro→Vh
local macro_rules
 | `(Z)=>`(rfl)
theorem LR:1≤XY:=by decide
theorem jz:2≤XY:=by decide
theorem N4:3≤XY:=by decide
theorem QU:6≤XY:=by decide
namespace L2
open PySem PySem.Spec PyProof.Rows
abbrev cW:=Sum Int TB
def oP:cW->Value->Bool
 | .inl k,v=>Value.isInt k v
 | .inr x,v=>abc x v
def OY(w:T9):cW->Int
 | .inl k=>hashInt k
 | .inr x=>hashStr w x
theorem cZ:∀{k:cW} {v:Value},oP k v=true->(∃i t,k=TL i/\v=VZ i t)∨(∃x t,k=YD x/\v=XX x t)
 | .inl i,v,h=>by
  obtain⟨t,e⟩:=Value.isInt_shape (k:=i) (v:=v) h;exact .inl ⟨i,t,Z,e⟩
 | .inr x,v,h=>by
  obtain⟨t,e⟩:=Value.isStrOf_shape (x:=x) (v:=v) h;exact .inr ⟨x,t,Z,e⟩
theorem Am(i:Int)(t:Tok):oP (.inl i) (.int i t)=true:=by simp[oP,Value.isInt]
theorem Al(x:TB)(t:Tok):oP (.inr x) (.str x t)=true:=by simp[oP,abc]
theorem KL(a b:Int):decide ((TL a:cW)=TL b)=(a==b):=by
 by_cases e:a=b
 ·subst e;simp
 ·have h:¬(TL a:cW)=TL b:=λq=>e (TL.inj q)
  rw[decide_eq_false h];exact(beq_eq_false_iff_ne.mpr e).symm
theorem KG(a b:TB):decide ((YD a:cW)=YD b)=decide (a=b):=by
 by_cases e:a=b
 ·subst e;simp
 ·have h:¬(YD a:cW)=YD b:=λq=>e (YD.inj q)
  rw[decide_eq_false h,decide_eq_false e]
theorem KJ(a:Int)(b:TB):decide ((TL a:cW)=YD b)=false:=decide_eq_false (λq=>nomatch q)
theorem KH(a:TB)(b:Int):decide ((YD a:cW)=TL b)=false:=decide_eq_false (λq=>nomatch q)
def cK(prog:Tx)(w:T9):PySem.KeyKind prog w cW where
 is:=oP
 hash:=OY w
 inj:=λv a b ha hb=>by
  rcases cZ ha with⟨i,t,rfl,rfl⟩ | ⟨x,t,rfl,rfl⟩
  ·rcases cZ hb with⟨j,u,rfl,e⟩ | ⟨y,u,rfl,e⟩
   ·injection e with e1 _;rw[e1]
   ·exact nomatch e
  ·rcases cZ hb with⟨j,u,rfl,e⟩ | ⟨y,u,rfl,e⟩
   ·exact nomatch e
   ·injection e with e1 _;rw[e1]
 byValue:=λk v h=>by
  rcases cZ h with⟨i,t,rfl,rfl⟩ | ⟨x,t,rfl,rfl⟩<;>rfl
 pyHash:=λhv h=>by
  rcases cZ hv with⟨i,t,rfl,rfl⟩ | ⟨x,t,rfl,rfl⟩
  ·exact wpAny_pyHash_int h
  ·exact wpAny_pyHash_str h
 eqBool:=λhu hv h=>by
  rcases cZ hu with⟨i,t,rfl,rfl⟩ | ⟨x,t,rfl,rfl⟩
  ·rcases cZ hv with⟨j,u,rfl,rfl⟩ | ⟨y,u,rfl,rfl⟩
   ·rw[KL] at h;exact wpAny_eqBool_int h
   ·rw[KJ] at h;exact ZI i t y u _ _ _ _ h
  ·rcases cZ hv with⟨j,u,rfl,rfl⟩ | ⟨y,u,rfl,rfl⟩
   ·rw[KH] at h;exact ZJ x t j u _ _ _ _ h
   ·rw[KG] at h;exact wpAny_eqBool_str h
 «strs»:=λk x t v h=>by
  rcases cZ h with⟨i,u,rfl,e⟩ | ⟨y,u,rfl,e⟩
  ·exact nomatch e
  ·injection e with e1 _;subst e1
   cases v<;>rfl
theorem uZ(prog:Tx)(w:T9)(i:Int)(t:Tok):(cK prog w).is (.inl i) (.int i t)=true:=Am i t
theorem uY(prog:Tx)(w:T9)(x:TB)(t:Tok):(cK prog w).is (.inr x) (.str x t)=true:=Al x t
end L2
namespace L2
open PySem PySem.Spec PyProof.Rows
inductive V where
 |non|bl (b:Bool)|int (i:Int)|str (x:TB)|byt (b:Array UInt8)|flt (b:UInt64)|ref (a:Addr)|ty (n:String)
 deriving DecidableEq
def bK:V->Value->Prop
 | .non,u=>u=VC
 | .bl b,u=>u=V7 b
 | .int i,u=>∃t,u=VZ i t
 | .str x,u=>∃t,u=XX x t
 | .byt b,u=>∃t,u=Value.bytes b t
 | .flt b,u=>∃t,u=aaA b t
 | .ref a,u=>u=TF a
 | .ty n,u=>u=WN n
abbrev bP:List V->List Value->Prop:=Paired bK
theorem bP.length(r:bP xs us):xs.length=us.length:=Paired.length r
theorem bP.get:∀{xs:List V} {us:List Value} {i:Nat} {x:V},bP xs us->xs[i]?=some x->∃u,us[i]?=some u/\bK x u
 |_,_,_,_,.nil,e=>by simp at e
 |_,_,0,_,.cons r _,e=>by simp at e;subst e;exact⟨_,Z,r⟩
 |_,_,i+1,x,.cons _ t,e=>by
  obtain⟨u,h1,h2⟩:=bP.get (i:=i) (x:=x) t (by simpa using e);exact⟨u,by simpa using h1,h2⟩
theorem bP.set{x:V}{u:Value}(r:bK x u):∀{xs:List V} {us:List Value} (i:Nat),bP xs us->bP (xs.set i x) (us.set i u)
 |_,_,_,.nil=>.nil
 |_,_,0,.cons _ t=>.cons r t
 |_,_,i+1,.cons q t=>.cons q (bP.set r i t)
theorem bP.append:∀{xs ys:List V} {us ws:List Value},bP xs us->bP ys ws->bP (xs++ys) (us++ws)
 |_,_,_,_,.nil,s=>s
 |_,_,_,_,.cons r t,s=>.cons r (bP.append t s)
theorem bP.take:∀{xs:List V} {us:List Value} (n:Nat),bP xs us->bP (xs.take n) (us.take n)
 |_,_,0,_=>.nil
 |_,_,_+1,.nil=>.nil
 |_,_,n+1,.cons r t=>.cons r (bP.take n t)
theorem bP.drop:∀{xs:List V} {us:List Value} (n:Nat),bP xs us->bP (xs.drop n) (us.drop n)
 |_,_,0,r=>r
 |_,_,_+1,.nil=>.nil
 |_,_,n+1,.cons _ t=>bP.drop n t
def ie:Option V->Option Value->Prop
 |some v,some u=>bK v u
 |none,none=>True
 |_,_=>False
def KV{κ:Type}:List (κ×V)->List (κ×Value)->Prop:=Paired λ(p:κ×V) (q:κ×Value)=>p.1=q.1/\bK p.2 q.2
def kV:cW->V
 | .inl i=>.int i
 | .inr x=>.str x
inductive HO where
 |lst (xs:List V)
 |tup (xs:List V)
 |dK (kvs:List (cW×V))|dT (kvs:List (List cW×V))
 |set (S:Int->Bool) (n:Nat)
 |ins (C dx:Addr) (fs:List (TB×V))
 |own (x:Addr)
 |xd (fs:List (TB×V))
 |met (f x:Addr)
 |rng (lo hi:Int)
 |frz (o:UU) (u:HO)
 |tbl (ps:Array Value)
 |ext (φ:SY->Prop)
abbrev Hp:=Addr->Option HO
def aO(H:Hp)(a:Addr)(o:HO):Hp:=λb=>if b=a then some o else H b
theorem ai:aO H a o a=some o:=by unfold aO;rw[if_pos Z]
theorem aA(h:b≠a):aO H a o b=H b:=by unfold aO;rw[if_neg h]
theorem xY:aO (aO H a o) a u=aO H a u:=by
 funext b;unfold aO;split<;>rfl
theorem Nb{H:Hp}{a b:Addr}{o u:HO}(h:H a=some o)(h':H b=some u)(d:o≠u):a≠b:=by
 intro e;subst e;rw[h] at h';exact d (Um h')
theorem aU{H:Hp}{a b:Addr}{o:HO}(h:H a=some o)(h':H b=none):a≠b:=by
 intro e;subst e;rw[h] at h';cases h'
section
variable (P:Tx) (w:T9)
def cG(H:Hp)(h:SY)(a:Addr):HO->Prop
 | .lst xs=>xs.length≤sizeLine/\∃(its:List Value) (n:Nat),bP xs its/\h.get? a=some { cls:=.type "list",data:=.seq its.toArray n}
 | .tup xs=>xs.length≤sizeLine/\∃its:List Value,bP xs its/\IsTup h a its.toArray
 | .dK kvs=>kvs.length≤sizeLine/\(a==V8)=false/\∃vs,KV kvs vs/\h.DictOf (cK P w) a vs
 | .dT kvs=>kvs.length≤sizeLine/\(a==V8)=false/\∃xs:List (List cW×Addr×Value),
   Paired (λ(p:List cW×V) (q:List cW×Addr×Value)=>p.1=q.1/\H q.2.1=some (.tup (p.1.map kV))/\bK p.2 q.2.2) kvs xs∧
   ∃o es ep,h.get? a=some o/\o.ExactDict/\o.data=.dict es ep/\es.toList=xs.map (entryOfKey (Ys (cK P w)))/\(xs.map (·.1)).Nodup
 | .set S n=>h.SetOf (intKind P w) a S n
 | .ins C dx fs=>H dx=some (.own a)/\fs.length≤1000/\dx≠a/\h.get? a=some (Vu C dx)∧
   ∃mA,h.Ns1 dx mA/\(∀f,ie (fs.lookup f) (mA f))/\YE mA (fs.map (·.1))
 | .own _=>∃o,h.get? a=some o
 | .xd fs=>∃mA,h.Ns1 a mA/\∀f,ie (fs.lookup f) (mA f)
 | .rng lo hi=>∃t u v,h.get? a=some { cls:=.type "range",data:=.fields #[.int lo t,.int hi u,.int 1 v]}
 | .frz o u=>h.get? a=some o/\cG H h a u
 | .tbl ps=>h.get? a=some { cls:=.none,data:=.fields ps}
 | .met f x=>h.get? a=some (Yb (.ref f) (.ref x))
 | .ext φ=>φ h/\(∃o,h.get? a=some o)/\∀h1 h2:SY,φ h1->(∀o,h1.get? a=some o->h2.get? a=some o)->φ h2
def jT(H:Hp)(h:SY):Prop:=∀a o,H a=some o->cG P w H h a o
end
section
variable {P:Tx}{w:T9}{H H':Hp}{h h':SY}{a:Addr}{o:HO}
theorem cG.lt(x:cG P w H h a o):a<h.objs.size:=by
 cases o with
 |lst xs=>obtain⟨_,_,_,_,e⟩:=x;exact Tc e
 |tup xs=>obtain⟨_,_,_,p⟩:=x;exact p.lt
 |dK kvs=>obtain⟨_,_,_,_,o,_,_,e,_⟩:=x;exact Tc e
 |dT kvs=>obtain⟨_,_,_,_,o,_,_,e,_⟩:=x;exact Tc e
 |set S n=>obtain⟨o,_,_,_,e,_⟩:=x;exact Tc e
 |ins C dx fs=>obtain⟨_,_,_,e,_⟩:=x;exact Tc e
 |own y=>obtain⟨_,e⟩:=x;exact Tc e
 |xd fs=>obtain⟨_,⟨_,_,_,e,_⟩,_⟩:=x;exact Tc e
 |rng lo hi=>obtain⟨_,_,_,e⟩:=x;exact Tc e
 |frz ob u=>obtain⟨e,_⟩:=x;exact Tc e
 |tbl ps=>exact Tc (show h.get? a=some _ from x)
 |met f y=>exact Tc (show h.get? a=some _ from x)
 |ext φ=>obtain⟨_,⟨_,e⟩,_⟩:=x;exact Tc e
theorem Paired.mapP{α β:Type}{F G:α->β->Prop}:∀{l₁:List α} {l₂:List β},Paired F l₁ l₂->(∀a b,F a b->G a b)->Paired G l₁ l₂
 |_,_,.nil,_=>.nil
 |_,_,.cons r t,f=>.cons (f _ _ r) (Paired.mapP t f)
theorem cG.stay(x:cG P w H h a o)(k:∀b u,(b=a∨H b=some (.own a))->h.get? b=some u->h'.get? b=some u)
  (ho:∀b,H b=some (.own a)->H' b=some (.own a)) (ht:∀b xs,H b=some (.tup xs)->H' b=some (.tup xs)):cG P w H' h' a o:=by
 induction o with
 |lst xs=>obtain⟨z,its,n,r,e⟩:=x;exact⟨z,its,n,r,k _ _ (.inl Z) e⟩
 |tup xs=>obtain⟨z,its,r,ob,e,c⟩:=x;exact⟨z,its,r,ob,k _ _ (.inl Z) e,c⟩
 |dK kvs=>obtain⟨z,y,vs,r,ob,es,ep,e,c⟩:=x;exact⟨z,y,vs,r,ob,es,ep,k _ _ (.inl Z) e,c⟩
 |dT kvs=>
  obtain⟨z,y,xs,r,ob,es,ep,e,c⟩:=x;exact⟨z,y,xs,Paired.mapP r λp q z=>⟨z.1,ht _ _ z.2.1,z.2.2⟩,ob,es,ep,k _ _ (.inl Z) e,c⟩
 |set S n=>obtain⟨ob,es,ep,t,e,c⟩:=x;exact⟨ob,es,ep,t,k _ _ (.inl Z) e,c⟩
 |ins C dx fs=>
  obtain⟨d,z,ne,e,mA,⟨od,es,ep,e2,c⟩,r⟩:=x;exact⟨ho _ d,z,ne,k _ _ (.inl Z) e,mA,⟨od,es,ep,k _ _ (.inr d) e2,c⟩,r⟩
 |own y=>obtain⟨ob,e⟩:=x;exact⟨ob,k _ _ (.inl Z) e⟩
 |xd fs=>obtain⟨mA,⟨od,es,ep,e,c⟩,r⟩:=x;exact⟨mA,⟨od,es,ep,k _ _ (.inl Z) e,c⟩,r⟩
 |rng lo hi=>obtain⟨t,u,v,e⟩:=x;exact⟨t,u,v,k _ _ (.inl Z) e⟩
 |frz ob u ih=>obtain⟨e,q⟩:=x;exact⟨k _ _ (.inl Z) e,ih q⟩
 |tbl ps=>
  have e:h.get? a=some { cls:=.none,data:=.fields ps}:=x;show h'.get? a=some { cls:=.none,data:=.fields ps};exact k a _ (.inl Z) e
 |met f y=>
  have e:h.get? a=some (Yb (.ref f) (.ref y)):=x;show h'.get? a=some (Yb (.ref f) (.ref y));exact k a _ (.inl Z) e
 |ext φ=>obtain⟨p,⟨o,e⟩,st⟩:=x;exact⟨st _ _ p λo q=>k _ _ (.inl Z) q,⟨o,k _ _ (.inl Z) e⟩,st⟩
theorem jT.lt(x:jT P w H h)(e:H a=some o):a<h.objs.size:=(x a o e).lt
theorem jT.fresh(x:jT P w H h)(e:h.objs.size≤a):H a=none:=by
 cases q:H a with
 |none=>rfl
 |some u=>exact absurd (Td (x.lt q) e) (UJ _)
theorem jT.kept(x:jT P w H h)(k:∀b u,h.get? b=some u->h'.get? b=some u):jT P w H h':=λa o e=>
 (x a o e).stay (λb u _ q=>k b u q) (λ_ q=>q) λ_ _ q=>q
theorem jT.laid(x:jT P w H h)(k:∀b u,h.get? b=some u->h'.get? b=some u)(hp:h.objs.size≤a)(new:cG P w (aO H a o) h' a o):jT P w (aO H a o) h':=λb u e=>by
 have hn:=x.fresh hp;by_cases hb:b=a
 ·subst hb;rw[ai] at e;cases e;exact new
 ·rw[aA hb] at e;exact(x b u e).stay (λc v _ q=>k c v q) (λc q=>by rw[aA (aU q hn)];exact q) λc xs q=>by rw[aA (aU q hn)];exact q
end
def Rd(H:Hp)(a:Addr)(u:HO):Prop:=H a=some u∨∃o,H a=some (.frz o u)
theorem Rd.ok(r:Rd H a u)(x:jT P w H h):cG P w H h a u:=by
 rcases r with r | ⟨o,r⟩
 ·exact x a u r
 ·obtain⟨_,q⟩:=x a _ r;exact q
def NL:Option HO->Prop
 |some (.lst _)=>True
 |some (.dK _)=>True
 |some (.dT _)=>True
 |some (.set _ _)=>True
 |some (.ins _ _ _)=>True
 |some (.ext _)=>True
 |_=>False
section
variable {P:Tx}{w:T9}{H:Hp}{h h':SY}{x e:Addr}{o':HO}
theorem jT.write(ok:jT P w H h)(mu:NL (H x))(he:e=x∨H e=some (.own x))(k:∀b u,b≠e->h.get? b=some u->h'.get? b=some u)(heo:∃u,h'.get? e=some u)
  (new:cG P w (aO H x o') h' x o'):jT P w (aO H x o') h':=λb u q=>by
 have nown:∀c y,H c=some (.own y)->c≠x:=λc y r z=>by subst z;rw[r] at mu;exact mu
 have ntup:∀c xs,H c=some (.tup xs)->c≠x:=λc xs r z=>by subst z;rw[r] at mu;exact mu
 by_cases hb:b=x
 ·subst hb;rw[ai] at q;cases q;exact new
 ·rw[aA hb] at q;by_cases hbe:b=e
  ·have q':H b=some (.own x):=by
    rcases he with z|z
    ·exact absurd (hbe.trans z) hb
    ·rw[hbe];exact z
   rw[q] at q';cases q';obtain⟨v,hv⟩:=heo;exact⟨v,by rw[hbe];exact hv⟩
  ·refine(ok b u q).stay (λc v hc r=>k c v ?_ r) (λc r=>by rw[aA (nown c b r)];exact r) λc xs r=>by rw[aA (ntup c xs r)];exact r
   rcases hc with rfl|hc
   ·exact hbe
   ·rintro rfl;rcases he with z|z
    ·exact nown c b hc z
    ·rw[hc] at z;cases z;exact hb Z
end
structure Un(fs ex:List Addr)(H H':Hp)(h h':SY):Prop where
 keep:∀b o,h.get? b=some o->H b=none->b∉fs->b∉ex->h'.get? b=some o
 slot:∀b o,h.get? b=some o->H b=none->b∈fs->b∉ex->∃sl,h'.get? b=some { o with slots:=sl}
 free:∀b o,h.get? b=some o->H b=none->b∉ex->H' b=none
 there:∀b o,h.get? b=some o->b∉ex->∃o',h'.get? b=some o'
 tups:∀b xs,H b=some (.tup xs)->H' b=some (.tup xs)
 frzs:∀b o u,H b=some (.frz o u)->H' b=some (.frz o u)
 tbls:∀b ps,H b=some (.tbl ps)->∃more,H' b=some (.tbl (ps++more))
section
variable {fs fs' ex ex':List Addr}{H H1 H2:Hp}{h h1 h2 h':SY}{a x e:Addr}{o:HO}
theorem Un.any(u:Un fs ex H H1 h h1)(q:h.get? b=some ob)(n:H b=none)(hx:b∉ex):∃sl,h1.get? b=some { ob with slots:=sl}:=by
 by_cases hb:b∈fs
 ·exact u.slot b ob q n hb hx
 ·exact⟨ob.slots,u.keep b ob q n hb hx⟩
theorem Un.kept(k:∀b u,h.get? b=some u->h'.get? b=some u):Un fs ex H H h h':=
 ⟨λb ob q _ _ _=>k b ob q,λb ob q _ _ _=>⟨ob.slots,k b ob q⟩,λ_ _ _ n _=>n,λb ob q _=>⟨ob,k b ob q⟩,λ_ _ q=>q,λ_ _ _ q=>q,λ_ ps q=>⟨#[],by rw[q];simp⟩⟩
theorem Un.refl:Un fs ex H H h h:=Un.kept λ_ _ q=>q
theorem Un.laid(k:∀b u,h.get? b=some u->h'.get? b=some u)(hp:h.objs.size≤a)(hn:H a=none):Un fs ex H (aO H a o) h h' where
 keep:=λb u q _ _ _=>k b u q
 slot:=λb u q _ _ _=>⟨u.slots,k b u q⟩
 free:=λb u q n _=>by rw[aA (Uj (Td (Tc q) hp))];exact n
 there:=λb u q _=>⟨u,k b u q⟩
 tups:=λb xs q=>by rw[aA (aU q hn)];exact q
 frzs:=λb u xs q=>by rw[aA (aU q hn)];exact q
 tbls:=λb ps q=>⟨#[],by rw[aA (aU q hn),q];simp⟩
theorem Un.write(mu:NL (H x))(he:e=x∨H e=some (.own x))(k:∀b u,b≠e->h.get? b=some u->h'.get? b=some u)(heo:∃u,h'.get? e=some u):Un fs ex H (aO H x o) h h':=by
 have hx:∀b,H b=none->b≠x:=λb n z=>by subst z;rw[n] at mu;exact mu
 have hb:∀b,H b=none->b≠e:=λb n z=>by
  subst z;rcases he with r|r
  ·exact hx b n r
  ·rw[n] at r;cases r
 have hm:∀b u,H b=some u->¬NL (some u)->b≠x:=λb u q nm z=>by subst z;rw[q] at mu;exact nm mu
 refine⟨λb u q n _ _=>k b u (hb b n) q,λb u q n _ _=>⟨u.slots,k b u (hb b n) q⟩,λb u q n _=>by rw[aA (hx b n)];exact n,λb u q _=>?_,
  λb xs q=>by rw[aA (hm b _ q λz=>z)];exact q,λb u xs q=>by rw[aA (hm b _ q λz=>z)];exact q,λb ps q=>⟨#[],by rw[aA (hm b _ q λz=>z),q];simp⟩⟩
 by_cases hbe:b=e
 ·subst hbe;exact heo
 ·exact⟨u,k b u hbe q⟩
end
def N5(h:SY)(H:Hp):List Addr:=(SC h.objs.size).filter λa=>(H a).isSome
def tV(h:SY)(H:Hp):SY:=PySem.W.hideAll h (N5 h H)
theorem Ar(h:SY)(H:Hp):(tV h H).objs.size=h.objs.size:=PySem.W.hideAll_size _ _
theorem Eb(e:h.get? b=some o)(n:H b=none):(tV h H).get? b=some o:=
 PySem.W.hideAll_get _ e λhm=>by
  have q:(H b).isSome=true:=(Tw.mp hm).2;rw[n] at q;simp at q
theorem Gb(e:(tV h H).get? b=some o):h.get? b=some o/\H b=none:=by
 have e':h.get? b=some o:=PySem.W.of_hideAll (N5 h H) e;refine⟨e',?_⟩
 cases q:H b with
 |none=>rfl
 |some x=>
  have hm:b∈N5 h H:=Tw.mpr ⟨SW.mpr (Tc e'),by simp[q]⟩;have z:(tV h H).get? b=none:=PySem.W.hideAll_none (N5 h H) hm;rw[z] at e;cases e
def GU(g h:SY)(L:Addr):List (Addr×UU):=(SC h.objs.size).filterMap λa=>if a=L∨(g.get? a).isSome=true then none else(h.get? a).map λo=>(a,o)
def rest(g h:SY)(L d:Addr):List (Addr×UU):=(GU g h L).filter λp=>decide (p.1≠d)
end L2
namespace L2
open PySem PySem.Spec PyProof.Rows
structure Mod(K:Sy)(mg:TB->Option Value)(base:SY):Prop where
 kin:K.In base
 glob:base.Ns TC mg
 blt:∃mb,base.Ns builtinsNs mb/\∀x:TB,x ≠ "__name__"->mb x=Vk x
 nolimit:base.NoLimit
structure Cx where
 prog:Tx
 w:T9
 K:Sy
 mg:TB->Option Value
 base:SY
 A:TV
 N:List TB
 s₀:SH
 H₀:Hp
 env:Env
 outer:List Env
 stack:List Env
 ex:List Addr
 fn:TB->Bool
 calm:Bool
 pn:List (Addr×UU)
 xe:Value->SH->Prop
def yR(l:List Env):List Addr:=l.filterMap (·.frame)
abbrev Cx.fs(X:Cx):List Addr:=yR X.outer
def NE(sc:Wr)(x:TB):Prop:=sc.names.lookup x=some .local∨sc.names.lookup x=some .cell∨sc.names.lookup x=some .free
def AT(sc:Wr)(x:TB):Prop:=sc.names.lookup x=some .local∨sc.names.lookup x=some .cell
def Pq(env:Env)(h:SY)(m:TB->Option Value)(x:TB)(u:Value):Prop:=
 (env.kindOf x=some .local/\m x=some u)∨((env.kindOf x=some .cell∨env.kindOf x=some .free)/\∃c,env.cells.lookup x=some c/\h.IsCell c (some u))
structure Cx.Ok(X:Cx):Prop where
 mod:Mod X.K X.mg X.base
 kind:X.env.scope.kind=.function
 glob:X.env.globals=TC
 blt:X.env.builtins=builtinsNs
 above:X.s₀.heap.objs.size≤X.env.locals
 inj:∀x y c,X.env.cells.lookup x=some c->X.env.cells.lookup y=some c->x=y
 has:∀x,(X.env.kindOf x=some .cell∨X.env.kindOf x=some .free)->∃c,X.env.cells.lookup x=some c
 cab:∀x c,X.fn x=true->X.env.cells.lookup x=some c->X.s₀.heap.objs.size≤c
 hd:X.calm=true->X.A.handled=none
 frames:X.A.frames=some X.stack
 stk:X.stack=X.outer∨(X.stack=X.env::X.outer/\X.env.frame=some X.env.locals)
 exf:∀b∈X.ex,b≠X.env.locals/\∀x c,X.env.cells.lookup x=some c->c≠b
 bs:∀b o,X.base.get? b=some o->X.s₀.heap.get? b=some o/\X.H₀ b=none
 bsz:X.base.objs.size≤X.s₀.heap.objs.size
 noex:∀b o,X.base.get? b=some o->b∉X.ex
 exfs:∀b∈X.ex,b∉X.fs
 funs:X.s₀.heap.FunFrames X.base X.outer
 frf:∀b∈X.fs,X.H₀ b=none
structure Inv(X:Cx)(pins:List (Addr×UU))(σ:List (Option V))(H:Hp)(s:SH):Prop where
 ok:X.Ok
 os:s.os=X.s₀.os
 bare:Xu s.gens
 base:Un X.fs X.ex X.H₀ H X.s₀.heap s.heap
 loc:∃m,s.heap.Ns X.env.locals m/\∀(i:Nat) (x:TB) (v:V),X.N[i]?=some x->σ[i]?=some (some v)->NE X.env.scope x->∃u,bK v u/\Pq X.env s.heap m x u
 cell:∀x c,X.env.cells.lookup x=some c->∃v,s.heap.IsCell c v
 free:H X.env.locals=none
 freeC:∀x c,X.env.cells.lookup x=some c->H c=none
 pin:∀p∈X.pn++pins,s.heap.get? p.1=some p.2/\H p.1=none/\p.1≠X.env.locals/\p.1∉X.fs/\∀v,p.2.data≠.cell v
 hok:jT X.prog X.w H s.heap
 len:σ.length=X.N.length
section
variable {X:Cx}{pins:List (Addr×UU)}{σ:List (Option V)}{H H':Hp}{s:SH}{h':SY}
theorem Cx.Ok.nofr(ok:X.Ok)(e:X.base.get? b=some o):b∉X.fs:=λhb=>by
 have:=(ok.funs.mem hb).1;rw[e] at this;cases this
theorem Inv.bs(I:Inv X pins σ H s):∀b o,X.base.get? b=some o->s.heap.get? b=some o/\H b=none:=λb o e=>
 ⟨I.base.keep b o (I.ok.bs b o e).1 (I.ok.bs b o e).2 (I.ok.nofr e) (I.ok.noex b o e),I.base.free b o (I.ok.bs b o e).1 (I.ok.bs b o e).2 (I.ok.noex b o e)⟩
theorem Inv.bk(I:Inv X pins σ H s):∀b o,X.base.get? b=some o->s.heap.get? b=some o:=λb o e=>(I.bs b o e).1
theorem Inv.mod(I:Inv X pins σ H s):Mod X.K X.mg X.base:=I.ok.mod
theorem Inv.kIn(I:Inv X pins σ H s):X.K.In s.heap:=I.ok.mod.kin.keeps I.bk
theorem Inv.lt(I:Inv X pins σ H s):X.env.locals<s.heap.objs.size:=let ⟨_,hn,_⟩:=I.loc;hn.lt
theorem Inv.sz(I:Inv X pins σ H s):X.s₀.heap.objs.size≤s.heap.objs.size:=Tu I.ok.above (VN I.lt)
theorem Inv.nofs(I:Inv X pins σ H s){a:Addr}(h:s.heap.objs.size≤a):a∉X.fs:=λhb=>by
 obtain⟨_,o,ho,_⟩:=I.ok.funs.mem hb;exact absurd (Td (Tc ho) (Tu I.sz h)) (UJ _)
theorem Inv.cne(I:Inv X pins σ H s):∀x c,X.env.cells.lookup x=some c->c≠X.env.locals:=λx c e z=>by
 obtain⟨v,o,ho,hd⟩:=I.cell x c e;obtain⟨m,⟨o',es,ep,ho',hd',_⟩,_⟩:=I.loc;rw[z,ho'] at ho;cases ho;rw[hd'] at hd;cases hd
theorem Inv.funs(I:Inv X pins σ H s):s.heap.FunFrames X.base X.outer:=by
 have all:∀(l:List Env),(∀b∈yR l,b∈X.fs)->X.s₀.heap.FunFrames X.base l->s.heap.FunFrames X.base l:=by
  intro l
  induction l with
  |nil=>intro _ _;trivial
  |cons env r ih=>
   intro hs hl;obtain⟨hk,⟨L,o,hf,hn,ho,hd⟩,hr⟩:=hl;have hL:L∈X.fs:=hs L (by unfold yR;rw[XN,hf];exact SO);obtain⟨sl,e⟩:=I.base.slot L o ho (I.ok.frf L hL) hL λz=>I.ok.exfs L z hL
   exact⟨hk,⟨L,_,hf,hn,e,hd⟩,ih (λb hb=>hs b (by unfold yR;rw[XN,hf];exact SQ _ hb)) hr⟩
 exact all X.outer (λ_ hb=>hb) I.ok.funs
theorem Inv.stack(I:Inv X pins σ H s):s.heap.FunFrames X.base X.stack:=by
 rcases I.ok.stk with e | ⟨e,hf⟩
 ·rw[e];exact I.funs
 ·rw[e];obtain⟨m,hn,_⟩:=I.loc;refine .cons (by rw[I.ok.kind];decide) hf hn ?_ I.funs;exact Xv (Tu I.ok.bsz I.ok.above)
theorem Inv.stkSub(I:Inv X pins σ H s):∀b∈yR X.stack,b∈X.env.locals::X.fs:=λb hb=>by
 rcases I.ok.stk with e | ⟨e,hf⟩
 ·rw[e] at hb;exact SQ _ hb
 ·rw[e] at hb;unfold yR at hb;rw[XN,hf] at hb;exact hb
theorem Inv.stkFree(I:Inv X pins σ H s):∀b∈yR X.stack,H b=none:=λb hb=>by
 rcases S6.mp (I.stkSub b hb) with e|hb
 ·rw[e];exact I.free
 ·obtain⟨_,o,ho,_⟩:=I.ok.funs.mem hb;exact I.base.free b o ho (I.ok.frf b hb) λz=>I.ok.exfs b z hb
theorem Inv.step{ch:List Addr}(I:Inv X pins σ H s)
  (hch:∀b∈ch,(b∈X.ex∨X.s₀.heap.get? b=none)/\b≠X.env.locals/\(∀x c,X.env.cells.lookup x=some c->c≠b)/\∀p∈X.pn++pins,p.1≠b)
  (keep:∀b o,b≠X.env.locals->b∉X.fs->b∉ch->s.heap.get? b=some o->H b=none->h'.get? b=some o)
  (slot:∀b o,b≠X.env.locals->b∈X.fs->b∉ch->s.heap.get? b=some o->H b=none->∃sl,h'.get? b=some { o with slots:=sl}) (free:∀b o,b∉ch->s.heap.get? b=some o->H b=none->H' b=none)
  (there:∀b o,b∉ch->s.heap.get? b=some o->∃o',h'.get? b=some o')
  (tups:∀b xs,H b=some (.tup xs)->H' b=some (.tup xs)) (frzs:∀b o u,H b=some (.frz o u)->H' b=some (.frz o u)) (tbls:∀b ps,H b=some (.tbl ps)->∃more,H' b=some (.tbl (ps++more)))
  (ns:∀m,s.heap.Ns X.env.locals m->h'.Ns X.env.locals m) (hok:jT X.prog X.w H' h') (hg:Xu g'):
  Inv X pins σ H' { s with heap:=h',gens:=g',drawn:=d',toks:=t'}:=by
 have neL:∀b o,X.s₀.heap.get? b=some o->b≠X.env.locals:=λb o e=>Uj (Td (Tc e) I.ok.above)
 have neC:∀b o,X.s₀.heap.get? b=some o->b∉X.ex->b∉ch:=λb o e hx hb=>by
  rcases(hch b hb).1 with z|z
  ·exact hx z
  ·rw[e] at z;cases z
 have cellK:∀x c,X.env.cells.lookup x=some c->∀v,s.heap.IsCell c v->h'.IsCell c v:=λx c e v ⟨o,ho,hd⟩=>by
  have nch:c∉ch:=λz=>(hch c z).2.2.1 x c e Z
  by_cases hc:c∈X.fs
  ·obtain⟨sl,q⟩:=slot c o (I.cne x c e) hc nch ho (I.freeC x c e);exact⟨_,q,hd⟩
  ·exact⟨o,keep c o (I.cne x c e) hc nch ho (I.freeC x c e),hd⟩
 refine⟨I.ok,I.os,hg,⟨λb o e n hb hx=>?_,λb o e n hb hx=>?_,λb o e n hx=>?_,λb o e hx=>?_,λb xs e=>tups b xs (I.base.tups b xs e),λb o xs e=>frzs b o xs (I.base.frzs b o xs e),λb ps e=>?_⟩,?_,λx c e=>?_,?_,λx c e=>?_,λp hp=>?_,hok,I.len⟩
 ·exact keep b o (neL b o e) hb (neC b o e hx) (I.base.keep b o e n hb hx) (I.base.free b o e n hx)
 ·obtain⟨sl,e1⟩:=I.base.slot b o e n hb hx;obtain⟨sl',e2⟩:=slot b _ (neL b o e) hb (neC b o e hx) e1 (I.base.free b o e n hx);exact⟨sl',e2⟩
 ·obtain⟨o',e1⟩:=I.base.there b o e hx;exact free b o' (neC b o e hx) e1 (I.base.free b o e n hx)
 ·obtain⟨o',e1⟩:=I.base.there b o e hx;exact there b o' (neC b o e hx) e1
 ·obtain⟨m1,e1⟩:=I.base.tbls b ps e;obtain⟨m2,e2⟩:=tbls b _ e1;exact⟨m1++m2,by rw[e2,Array.append_assoc]⟩
 ·obtain⟨m,hn,hl⟩:=I.loc;refine⟨m,ns m hn,λi x v e1 e2 e3=>?_⟩;obtain⟨u,r,l⟩:=hl i x v e1 e2 e3;refine⟨u,r,?_⟩;rcases l with l | ⟨k,c,e,z⟩
  ·exact .inl l
  ·exact .inr ⟨k,c,e,cellK x c e _ z⟩
 ·obtain⟨v,z⟩:=I.cell x c e;exact⟨v,cellK x c e v z⟩
 ·obtain⟨m,⟨o,_,_,ho,_⟩,_⟩:=I.loc;exact free _ o (λz=>(hch _ z).2.1 Z) ho I.free
 ·obtain⟨v,o,ho,hd⟩:=I.cell x c e;exact free c o (λz=>(hch c z).2.2.1 x c e Z) ho (I.freeC x c e)
 ·obtain⟨e,n,ne,nf,d⟩:=I.pin p hp;have nch:p.1∉ch:=λz=>(hch p.1 z).2.2.2 p hp Z
  exact⟨keep p.1 p.2 ne nf nch e n,free p.1 p.2 nch e n,ne,nf,d⟩
theorem Inv.un(I:Inv X pins σ H s)(u:Un X.fs [] H H' s.heap h')(hok:jT X.prog X.w H' h'):Inv X pins σ H' { s with heap:=h',toks:=t'}:=by
 obtain⟨m,⟨o,es,ep,ho,r⟩,_⟩:=id I.loc;obtain⟨sl,hL⟩:=u.any ho I.free (by simp);exact I.step (g':=s.gens) (d':=s.drawn) (ch:=[]) (λ_ z=>nomatch z) (λb o _ hb _ e n=>u.keep b o e n hb (by simp)) (λb o _ hb _ e n=>u.slot b o e n hb (by simp)) (λb o _ e n=>u.free b o e n (by simp)) (λb o _ e=>u.there b o e (by simp)) u.tups u.frzs u.tbls (λm' hm=>by
  obtain⟨o',es',ep',ho',r'⟩:=hm;rw[ho] at ho';cases ho';exact⟨_,es',ep',hL,r'⟩) hok I.bare
theorem Inv.call(I:Inv X pins σ H s)(u:Un (yR X.stack) ch H H' s.heap h')(hok:jT X.prog X.w H' h')(hg:Xu g')
  (hch:∀b∈ch,(b∈X.ex∨X.s₀.heap.get? b=none)/\b≠X.env.locals/\(∀x c,X.env.cells.lookup x=some c->c≠b)/\∀p∈X.pn++pins,p.1≠b):
  Inv X pins σ H' { s with heap:=h',gens:=g',drawn:=d',toks:=t'}:=by
 obtain⟨m,⟨o,es,ep,ho,r⟩,_⟩:=id I.loc;obtain⟨sl,hL⟩:=u.any ho I.free λz=>(hch _ z).2.1 Z
 exact I.step (ch:=ch) hch (λb o hL hb hc e n=>u.keep b o e n (λz=>(S6.mp (I.stkSub b z)).elim hL hb) hc) (λb o _ _ hc e n=>u.any e n hc) (λb o hc e n=>u.free b o e n hc) (λb o hc e=>u.there b o e hc) u.tups u.frzs u.tbls (λm' hm=>by
  obtain⟨o',es',ep',ho',r'⟩:=hm;rw[ho] at ho';cases ho';exact⟨_,es',ep',hL,r'⟩) hok hg
theorem Inv.turned(I:Inv X pins σ H s)(k:∀b o,b≠it->s.heap.get? b=some o->h'.get? b=some o)(hn:H it=none)(hL:it≠X.env.locals)
  (h1:it∈X.ex∨X.s₀.heap.get? it=none) (h2:∀x c,X.env.cells.lookup x=some c->c≠it) (h3:∀p∈X.pn++pins,p.1≠it):Inv X pins σ H { s with heap:=h',toks:=t'}:=by
 have nit:∀b u,H b=some u->b≠it:=λb u e z=>by rw[z,hn] at e;cases e
 refine I.step (g':=s.gens) (d':=s.drawn) (ch:=[it]) (λb hb=>?_) (λb o _ _ hc e _=>k b o (λz=>hc (by simp[z])) e) (λb o _ _ hc e _=>⟨o.slots,k b o (λz=>hc (by simp[z])) e⟩) (λ_ _ _ _ n=>n)
  (λb o hc e=>⟨o,k b o (λz=>hc (by simp[z])) e⟩) (λ_ _ e=>e) (λ_ _ _ e=>e) (λb ps e=>⟨#[],by rw[e];simp⟩) (λm hm=>?_) (λb u e=>?_) I.bare
 ·have e:b=it:=by simpa using hb
  subst e;exact⟨h1,hL,h2,h3⟩
 ·obtain⟨o,es,ep,ho,r⟩:=hm;exact⟨o,es,ep,k _ o (V9 hL) ho,r⟩
 ·refine(I.hok b u e).stay (λc v hc q=>k c v ?_ q) (λ_ q=>q) λ_ _ q=>q
  rcases hc with z|z
  ·rw[z];exact nit b u e
  ·exact nit c _ z
theorem Inv.tok(I:Inv X pins σ H s)(t:Nat):Inv X pins σ H { s with toks:=t}:=I.un (h':=s.heap) (t':=t) Un.refl I.hok
theorem Inv.kept(I:Inv X pins σ H s)(k:∀b u,s.heap.get? b=some u->h'.get? b=some u):Inv X pins σ H { s with heap:=h',toks:=t'}:=I.un (Un.kept k) (I.hok.kept k)
theorem Inv.laid{a:Addr}{o:HO}{t':Nat}(I:Inv X pins σ H s)(k:∀b u,s.heap.get? b=some u->h'.get? b=some u)(hp:s.heap.objs.size≤a)(new:cG X.prog X.w (aO H a o) h' a o) :
  Inv X pins σ (aO H a o) { s with heap:=h',toks:=t'}:=I.un (Un.laid k hp (I.hok.fresh hp)) (I.hok.laid k hp new)
theorem Inv.write(I:Inv X pins σ H s)(mu:NL (H x))(he:e=x∨H e=some (.own x))(k:∀b u,b≠e->s.heap.get? b=some u->h'.get? b=some u)(heo:∃u,h'.get? e=some u)
  (new:cG X.prog X.w (aO H x o) h' x o):Inv X pins σ (aO H x o) { s with heap:=h',toks:=t'}:=I.un (Un.write mu he k heo) (I.hok.write mu he k heo new)
theorem Inv.weak(I:Inv X pins σ H s)(hl:σ'.length=σ.length)(w:∀(i:Nat) v,σ'[i]?=some (some v)->σ[i]?=some (some v)):Inv X pins σ' H s:=
 ⟨I.ok,I.os,I.bare,I.base,let ⟨m,hn,hl'⟩:=I.loc;⟨m,hn,λi x v e1 e2 e3=>hl' i x v e1 (w i v e2) e3⟩,I.cell,I.free,I.freeC,I.pin,I.hok,hl.trans I.len⟩
theorem Inv.pins_of(I:Inv X pins σ H s)(h:∀p∈pins',s.heap.get? p.1=some p.2/\H p.1=none/\p.1≠X.env.locals/\p.1∉X.fs/\∀v,p.2.data≠.cell v):Inv X pins' σ H s:=
 ⟨I.ok,I.os,I.bare,I.base,I.loc,I.cell,I.free,I.freeC,λp hp=>(Ti.mp hp).elim (λz=>I.pin p (VO _ z)) (h p),I.hok,I.len⟩
theorem uX{N:List TB}(hN:N.Nodup){i j:Nat}(a:N[i]?=some x)(b:N[j]?=some x):i=j:=by
 obtain⟨h1,e1⟩:=SN.mp a;obtain⟨h2,e2⟩:=SN.mp b;exact(V0 hN).mp (e1.trans e2.symm)
theorem zJ{M:Model}{A:TV}{E:Value->SH->Prop}{i:Nat}{x:TB}{v:V}{u:Value}{Q:Unit->SH->Prop}(I:Inv X pins σ H s)(hN:X.N.Nodup)(hi:X.N[i]?=some x)(hx:AT X.env.scope x)(r:bK v u)
  (h:∀s',Inv X pins (σ.set i (some v)) H s'->(∃a,Wa a s.heap s'.heap/\(a=X.env.locals∨X.env.cells.lookup x=some a))->Q () s') (hf:X.fn x=true∨X.env.scope.names.lookup x=some .local:=by first|exact .inl Z|exact .inr Z|assumption):Tj M A (storeName X.env x u) Q E s:=by
 obtain⟨m,hn,hl⟩:=id I.loc;have hcls:(X.env.scope.kind==.class||(X.env.scope.kind==.module&&X.env.locals != X.env.globals))=false:=by rw[I.ok.kind];rfl
 have hiσ:i<σ.length:=by rw[I.len];exact(SN.mp hi).1
 have cne:=I.cne;have tracked:∀{a:Addr} {h':SY},(∃o,s.heap.get? a=some o/\H a=none)->Wa a s.heap h'->jT X.prog X.w H h':=λ{a h'} ha hs b ob e=>by
  obtain⟨_,_,hfree⟩:=ha;refine(I.hok b ob e).stay (λc w' hc q=>(hs.2 c ?_).trans q) (λ_ q=>q) λ_ _ q=>q
  rintro rfl;rcases hc with rfl|hc
  ·rw[hfree] at e;cases e
  ·rw[hfree] at hc;cases hc
 rcases hx with hk|hk
 ·refine wpAny_storeName_local hk hn (λh' hn' hs=>?_) hcls;obtain⟨oL,_,_,hoL,_⟩:=id hn;refine h _ ⟨I.ok,I.os,I.bare,⟨λb o e n hb hx=>?_,λb o e n hb hx=>?_,I.base.free,λb o e hx=>?_,I.base.tups,I.base.frzs,I.base.tbls⟩,⟨_,hn',λj y v' e1 e2 e3=>?_⟩,λy c e=>?_,I.free,I.freeC,λp hp=>?_,tracked ⟨oL,hoL,I.free⟩ hs,by simpa using I.len⟩ ⟨_,hs,.inl Z⟩
  ·exact(hs.2 b (Uj (Td (Tc e) I.ok.above))).trans (I.base.keep b o e n hb hx)
  ·obtain⟨sl,e1⟩:=I.base.slot b o e n hb hx;exact⟨sl,(hs.2 b (Uj (Td (Tc e) I.ok.above))).trans e1⟩
  ·obtain⟨o',e1⟩:=I.base.there b o e hx;exact⟨o',(hs.2 b (Uj (Td (Tc e) I.ok.above))).trans e1⟩
  ·by_cases hj:j=i
   ·subst hj;rw[hi] at e1;cases e1;rw[UF hiσ] at e2
    cases e2
    exact⟨u,r,.inl ⟨hk,by simp⟩⟩
   ·rw[Ug (V9 hj)] at e2;obtain⟨u',r',q⟩:=hl j y v' e1 e2 e3;refine⟨u',r',?_⟩;rcases q with⟨k,e⟩ | ⟨k,c,e,z⟩
    ·refine .inl ⟨k,?_⟩;have:y≠x:=λe=>hj (uX hN e1 (e▸hi))
     simp[this,e]
    ·exact .inr ⟨k,c,e,z.sameBut hs (cne y c e)⟩
  ·obtain⟨w',z⟩:=I.cell y c e;exact⟨w',z.sameBut hs (cne y c e)⟩
  ·obtain⟨e,n,ne,nf,d⟩:=I.pin p hp;exact⟨(hs.2 p.1 ne).trans e,n,ne,nf,d⟩
 ·have hfn:X.fn x=true:=by
   rcases hf with z|z
   ·exact z
   ·rw[z] at hk;cases hk
  obtain⟨c,hc⟩:=I.ok.has x (.inl hk);obtain⟨w',z⟩:=I.cell x c hc;refine wpAny_storeName_cell I.ok.kind hk hc z (λh' hc' hs=>?_);obtain⟨oc,hoc,hocd⟩:=id z;refine h { s with heap:=h'} ⟨I.ok,I.os,I.bare,⟨λb o e n hb hx=>?_,λb o e n hb hx=>?_,I.base.free,λb o e hx=>?_,I.base.tups,I.base.frzs,I.base.tbls⟩,⟨m,hn.sameBut hs (V9 (cne x c hc)),λj y v' e1 e2 e3=>?_⟩,λy c' e=>?_,I.free,I.freeC,λp hp=>?_,tracked ⟨oc,hoc,I.freeC x c hc⟩ hs,by simpa using I.len⟩ ⟨c,hs,.inr hc⟩
  ·exact(hs.2 b (Uj (Td (Tc e) (I.ok.cab x c hfn hc)))).trans (I.base.keep b o e n hb hx)
  ·obtain⟨sl,e1⟩:=I.base.slot b o e n hb hx;exact⟨sl,(hs.2 b (Uj (Td (Tc e) (I.ok.cab x c hfn hc)))).trans e1⟩
  ·obtain⟨o',e1⟩:=I.base.there b o e hx;exact⟨o',(hs.2 b (Uj (Td (Tc e) (I.ok.cab x c hfn hc)))).trans e1⟩
  ·by_cases hj:j=i
   ·subst hj;rw[hi] at e1;cases e1;rw[UF hiσ] at e2
    cases e2
    exact⟨u,r,.inr ⟨.inl hk,c,hc,hc'⟩⟩
   ·rw[Ug (V9 hj)] at e2;obtain⟨u',r',q⟩:=hl j y v' e1 e2 e3;refine⟨u',r',?_⟩;rcases q with q | ⟨k,c',e,z'⟩
    ·exact .inl q
    ·refine .inr ⟨k,c',e,z'.sameBut hs ?_⟩;rintro rfl;exact hj (uX hN e1 (I.ok.inj _ _ _ e hc▸hi))
  ·by_cases hcc:c'=c
   ·subst hcc;exact⟨_,hc'⟩
   ·obtain⟨w2,z2⟩:=I.cell y c' e;exact⟨w2,z2.sameBut hs hcc⟩
  ·obtain⟨e,n,ne,nf,d⟩:=I.pin p hp;refine⟨(hs.2 p.1 ?_).trans e,n,ne,nf,d⟩;intro q;rw[q,hoc] at e;have q':oc=p.2:=Um e;exact d w' (by rw[←q'];exact hocd)
theorem gD{M:Model}{A:TV}{E:Value->SH->Prop}{i:Nat}{x:TB}{v:V}{u:Value}{Q:Unit->SH->Prop}(I:Inv X pins σ H s)(hN:X.N.Nodup)(hi:X.N[i]?=some x)(hx:AT X.env.scope x)(r:bK v u)
  (h:∀s',Inv X pins (σ.set i (some v)) H s'->Q () s') (hf:X.fn x=true∨X.env.scope.names.lookup x=some .local:=by first|exact .inl Z|exact .inr Z|assumption):Tj M A (storeName X.env x u) Q E s:=
 zJ I hN hi hx r (λs' I' _=>h s' I') hf
theorem Inv.call'(I:Inv X pins σ H s)(ho:s'.os=s.os)(u:Un (yR X.stack) ch H H' s.heap s'.heap)(hok:jT X.prog X.w H' s'.heap)(hg:Xu s'.gens)
  (hch:∀b∈ch,(b∈X.ex∨X.s₀.heap.get? b=none)/\b≠X.env.locals/\(∀x c,X.env.cells.lookup x=some c->c≠b)/\∀p∈X.pn++pins,p.1≠b):Inv X pins σ H' s':=by
 obtain⟨h',g',d',t',o'⟩:=s';have e:o'=s.os:=ho;subst e;exact I.call (g':=g') (t':=t') (d':=d') u hok hg hch
end
abbrev XK:=Value->Option Addr->Hp->Prop
abbrev St:=List (Option V)
abbrev VK:=V->Hp->Prop
abbrev TE:=St->Hp->VK->Prop
abbrev TT:=St->Hp->(Bool->Hp->Prop)->Prop
abbrev TA:=St->Hp->(List V->Hp->Prop)->Prop
structure lM where
 nx:St->Hp->Prop
 rt:VK
 bk:St->Hp->Prop:=λ_ _=>False
 ct:St->Hp->Prop:=λ_ _=>False
abbrev TS:=lM->St->Hp->Prop
def EP(X:Cx)(pins:List (Addr×UU))(σ:St)(Q:VK)(u:Value)(s':SH):Prop:=∃v H',Inv X pins σ H' s'/\bK v u/\Q v H'
def TP(X:Cx)(pins:List (Addr×UU))(σ:St)(Q:Bool->Hp->Prop)(b:Bool)(s':SH):Prop:=∃H',Inv X pins σ H' s'/\Q b H'
def AP(X:Cx)(pins:List (Addr×UU))(σ:St)(Q:List V->Hp->Prop)(us:List Value)(s':SH):Prop:=∃vs H',Inv X pins σ H' s'/\bP vs us/\Q vs H'
def SP(X:Cx)(pins:List (Addr×UU))(D:lM)(f:Flow)(s':SH):Prop:=
 match f with
 | .next=>∃σ' H',Inv X pins σ' H' s'/\D.nx σ' H'
 | .brk=>∃σ' H',Inv X pins σ' H' s'/\D.bk σ' H'
 | .cont=>∃σ' H',Inv X pins σ' H' s'/\D.ct σ' H'
 | .ret u=>∃v σ' H',Inv X pins σ' H' s'/\bK v u/\D.rt v H'
def PE(X:Cx)(e:TW)(t:TE):Prop:=
 ∀(pins:List (Addr×UU)) (s:SH) (σ:St) (H:Hp) (Q:VK),Inv X pins σ H s->t σ H Q->Tj (Tp X.prog X.w) X.A (eval e X.env) (EP X pins σ Q) X.xe s
def PT(X:Cx)(e:TW)(t:TT):Prop:=
 ∀(pins:List (Addr×UU)) (s:SH) (σ:St) (H:Hp) (Q:Bool->Hp->Prop),Inv X pins σ H s->t σ H Q->Tj (Tp X.prog X.w) X.A (isTrue e X.env (eval e X.env)) (TP X pins σ Q) X.xe s
def PW(X:Cx)(e:TW)(t:TT):Prop:=
 ∀(whole:Sem Value) (pins:List (Addr×UU)) (s:SH) (σ:St) (H:Hp) (Q:Bool->Hp->Prop),Inv X pins σ H s->t σ H Q->Tj (Tp X.prog X.w) X.A (isTrue e X.env whole) (TP X pins σ Q) X.xe s
theorem PW.pt(h:PW X e t):PT X e t:=h _
def PA(X:Cx)(es:List TW)(t:TA):Prop:=
 ∀(pos:Wh) (pins:List (Addr×UU)) (s:SH) (σ:St) (H:Hp) (Q:List V->Hp->Prop),Inv X pins σ H s->t σ H Q->Tj (Tp X.prog X.w) X.A (spliced (VD pos (SX es X.env))) (AP X pins σ Q) X.xe s
def PS(X:Cx)(st:Stmt)(t:TS):Prop:=
 ∀(pins:List (Addr×UU)) (s:SH) (σ:St) (H:Hp) (D:lM),Inv X pins σ H s->t D σ H->Tj (Tp X.prog X.w) X.A (exec st X.env) (SP X pins D) X.xe s
def xG(X:Cx)(st:List Stmt)(t:TS):Prop:=
 ∀(pins:List (Addr×UU)) (s:SH) (σ:St) (H:Hp) (D:lM),Inv X pins σ H s->t D σ H->Tj (Tp X.prog X.w) X.A (execs st X.env) (SP X pins D) X.xe s
theorem cT{Q Q':α->SH->Prop}{E:Value->SH->Prop}(h:Tj M A t Q E s)(hQ:∀a s,Q a s->Q' a s):Tj M A t Q' E s:=Vv h hQ λ_ _ x=>x
end L2
namespace L2
open PySem PySem.Spec PyProof.Rows
section
variable {X:Cx}
inductive NT(σ:St)(i:Nat)(Q:V->Prop):Prop where
 |mk (v:V) (e:σ[i]?=some (some v)) (k:Q v):NT σ i Q
inductive LQ(x:V)(Q:Bool->Prop):Prop where
 |mk (c:Bool) (e:x=.bl c) (k:Q c):LQ x Q
inductive Pw(x:V)(Q:Int->Prop):Prop where
 |mk (i:Int) (e:x=.int i) (k:Q i):Pw x Q
inductive NV(x y:V)(Q:Int->Int->Prop):Prop where
 |mk (i j:Int) (e:x=.int i) (f:y=.int j) (k:Q i j):NV x y Q
inductive QK(x y:V)(C Q:Int->Int->Prop):Prop where
 |mk (i j:Int) (e:x=.int i) (f:y=.int j) (c:C i j) (k:Q i j):QK x y C Q
def Iw(i:Nat):TE:=λσ H Q=>NT σ i λv=>Q v H
def tC(v:V):TE:=λ_ H Q=>Q v H
theorem JN{i:Nat}{x:TB}{pos:Wh}(hN:X.N[i]?=some x)(hv:NE X.env.scope x)(hd:(x==("__debug__" : TB))=false:=by decide)(hcd:(x==("__classdict__" : TB))=false:=by decide):PE X (.Name x pos) (Iw i):=by
 intro pins s σ H Q I h;obtain⟨v,e,h⟩:=h;obtain⟨m,hn,hl⟩:=I.loc;obtain⟨u,r,l⟩:=hl i x v hN e hv;have fin:EP X pins σ Q u s:=⟨v,H,I,r,h⟩;rcases l with⟨hk,hm⟩ | ⟨hk,c,hc,hcell⟩
 ·exact wpAny_Name (Za I.ok.kind hk hn hm fin) hd
 ·rcases hk with hk|hk
  ·exact wpAny_Name (Zu I.ok.kind hk hc hcell fin) hd
  ·exact wpAny_Name (wpAny_loadName_free I.ok.kind hk hc hcell fin hcd) hd
theorem kx{i j pos}:PE X (.Constant (.int i) j pos) (tC (.int i)):=λ_ _ _ H _ I h=>wpAny_Constant_int ⟨.int i,H,I.tok _,⟨_,Z⟩,h⟩
theorem MW{b j pos}:PE X (.Constant (.bool b) j pos) (tC (.bl b)):=λ_ _ _ H _ I h=>Constant_bool ⟨.bl b,H,I,Z,h⟩
theorem JS{j pos}:PE X (.Constant .none j pos) (tC .non):=λ_ _ _ H _ I h=>Constant_none ⟨.non,H,I,Z,h⟩
theorem JP{x j pos}:PE X (.Constant (.str x) j pos) (tC (.str x)):=λ_ _ _ H _ I h=>Calls.Constant_str ⟨.str x,H,I.tok _,⟨_,Z⟩,h⟩
def Gl(X:Cx)(x:TB):Prop:=X.env.kindOf x=some .globalImplicit
theorem tK{E:Value->SH->Prop}{pins:List (Addr×UU)}{s:SH}{σ:St}{H:Hp}{x:TB}{u:Value}{pos:Wh}{Q:Value->SH->Prop}(I:Inv X pins σ H s)(hg:Gl X x)(hm:X.mg x=some u)(h:Q u s)
  (hd:(x==("__debug__" : TB))=false:=by decide):Tj (Tp X.prog X.w) X.A (eval (.Name x pos) X.env) Q E s:=
 Calls.Name_function_global I.ok.kind hg (Calls.loadGlobal_global (by rw[I.ok.glob];exact I.mod.glob.keeps I.bk) hm h) hd
theorem ib{E:Value->SH->Prop}{pins:List (Addr×UU)}{s:SH}{σ:St}{H:Hp}{x:TB}{u:Value}{pos:Wh}{Q:Value->SH->Prop}(I:Inv X pins σ H s)(hg:Gl X x)(hm:X.mg x=none)(hv:Vk x=some u)(h:Q u s)
  (hn:x ≠ "__name__" := by decide) (hd:(x==("__debug__" : TB))=false:=by decide):Tj (Tp X.prog X.w) X.A (eval (.Name x pos) X.env) Q E s:=by
 obtain⟨mb,h1,h2⟩:=I.mod.blt;exact Calls.Name_function_global I.ok.kind hg (Calls.loadGlobal_builtin (by rw[I.ok.glob];exact I.mod.glob.keeps I.bk) hm (by rw[I.ok.blt];exact h1.keeps I.bk) ((h2 x hn).trans hv) h) hd
theorem FY{x:TB}{v:V}{u:Value}{pos:Wh}(hg:Gl X x)(hm:X.mg x=some u)(r:bK v u)(hd:(x==("__debug__" : TB))=false:=by decide):PE X (.Name x pos) (tC v):=
 λ_ _ _ H _ I h=>tK I hg hm ⟨v,H,I,r,h⟩ hd
theorem F3{x:TB}{v:V}{u:Value}{pos:Wh}(hg:Gl X x)(hm:X.mg x=none)(hv:Vk x=some u)(r:bK v u)(hn:x ≠ "__name__" := by decide)(hd:(x==("__debug__" : TB))=false:=by decide):PE X (.Name x pos) (tC v):=
 λ_ _ _ H _ I h=>ib I hg hm hv ⟨v,H,I,r,h⟩ hn hd
def Ob(ta tb:TE)(k:Int->Int->Hp->Prop):St->Hp->Prop:=λσ H=>ta σ H λx H1=>tb σ H1 λy H2=>∃i j,x=.int i/\y=.int j/\k i j H2
def Re(ta tb:TE):TE:=λσ H Q=>Ob ta tb (λi j H2=>Q (.int (i+j)) H2) σ H
def Q3(ta tb:TE):TE:=λσ H Q=>Ob ta tb (λi j H2=>Q (.int (i-j)) H2) σ H
def Q7(ta tb:TE):TE:=λσ H Q=>Ob ta tb (λi j H2=>(-(2^64)<i/\i<2^64)/\Q (.int (i*j)) H2) σ H
variable {a b:TW}{ta tb:TE}{pos:Wh}
def PC(X:Cx)(op:CmpOp)(a b:TW)(t:TE):Prop:=
 ∀(pins:List (Addr×UU)) (s:SH) (σ:St) (H:Hp) (Q:VK),Inv X pins σ H s->t σ H Q→
  Tj (Tp X.prog X.w) X.A (eval a X.env) (λv s₁=>Tj (Tp X.prog X.w) X.A (eval b X.env) (λu s₂=>Tj (Tp X.prog X.w) X.A (UK op v u) (EP X pins σ Q) X.xe s₂) X.xe s₁) X.xe s
def zH(p:Int->Int->Bool)(ta tb:TE):TE:=λσ H Q=>Ob ta tb (λi j H2=>Q (.bl (p i j)) H2) σ H
abbrev R6:TE->TE->TE:=zH λi j=>decide (i<j)
abbrev R7:TE->TE->TE:=zH λi j=>decide (i≤j)
abbrev R8:TE->TE->TE:=zH λi j=>decide (j<i)
abbrev R9:TE->TE->TE:=zH λi j=>decide (j≤i)
abbrev Q9:TE->TE->TE:=zH λi j=>decide (i=j)
abbrev Q6:TE->TE->TE:=zH λi j=>!decide (i=j)
def Q8(ta:TE):TE:=λσ H Q=>ta σ H λx H1=>Q (.bl (decide (x=.non))) H1
def PX(ta:TE):TE:=λσ H Q=>ta σ H λx H1=>Q (.bl (!decide (x=.non))) H1
def tB(t:TE):TT:=λσ H Q=>t σ H λx H1=>LQ x λc=>Q c H1
theorem Jz{e:TW}{t:TE}(h:PE X e t)(he:∀whole,isTrue e X.env whole=(do let v ←whole;YF e.pos;holding [v] (truthy v)):=by intro _;rfl):PT X e (tB t):=by
 intro pins s σ H Q I hw;refine isTrue_plain (cT (h pins s σ H _ I hw) λv s1 ⟨x,H1,I1,r1,q1⟩=>?_) (he _);obtain⟨d,rfl,q⟩:=q1
 cases r1
 exact Vr ⟨H1,I1,q⟩
variable {tA tB':TT}{rest:List TW}
def Mg(t u:TT):TT:=λσ H Q=>t σ H λc H1=>if c=true then u σ H1 Q else Q false H1
def PV(t u:TT):TT:=λσ H Q=>t σ H λc H1=>if c=true then Q true H1 else u σ H1 Q
def Ma(t:TT):TT:=λσ H Q=>t σ H λc H1=>Q (!c) H1
theorem Fx(ha:PT X a tA):PW X (.BoolOp .And [a] pos) tA:=by
 intro wh pins s σ H Q I h;refine isTrue_and (cT (ha pins s σ H Q I h) λc s1 e=>?_)
 cases c with
 |true=>exact isTrue_and_nil e
 |false=>exact e
theorem Jx(ha:PT X a tA):PW X (.BoolOp .Or [a] pos) tA:=by
 intro wh pins s σ H Q I h;refine isTrue_or (cT (ha pins s σ H Q I h) λc s1 e=>?_)
 cases c with
 |false=>exact isTrue_or_nil e
 |true=>exact e
theorem Jy(ha:PT X a tA)(hb:PW X (.BoolOp .And (b::rest) pos) tB'):PW X (.BoolOp .And (a::b::rest) pos) (Mg tA tB'):=by
 intro wh pins s σ H Q I h;refine isTrue_and (cT (ha pins s σ H _ I h) λc s1 ⟨H1,I1,q1⟩=>?_)
 cases c with
 |true=>exact hb wh pins s1 σ H1 Q I1 q1
 |false=>exact⟨H1,I1,q1⟩
theorem MO(ha:PT X a tA)(hb:PW X (.BoolOp .Or (b::rest) pos) tB'):PW X (.BoolOp .Or (a::b::rest) pos) (PV tA tB'):=by
 intro wh pins s σ H Q I h;refine isTrue_or (cT (ha pins s σ H _ I h) λc s1 ⟨H1,I1,q1⟩=>?_)
 cases c with
 |true=>exact⟨H1,I1,q1⟩
 |false=>exact hb wh pins s1 σ H1 Q I1 q1
theorem JB(ha:PT X a tA):PT X (.UnaryOp .Not a pos) (Ma tA):=by
 intro pins s σ H Q I h;exact isTrue_not (ha pins s σ H (λc H1=>Q (!c) H1) I h)
def Hn(ta tb:TE):TE:=λσ H Q=>ta σ H λx H1=>LQ x λc=>if c=true then tb σ H1 Q else Q (.bl false) H1
def Q5(ta tb:TE):TE:=λσ H Q=>ta σ H λx H1=>LQ x λc=>if c=true then Q (.bl true) H1 else tb σ H1 Q
def He(ta:TE):TE:=λσ H Q=>ta σ H λx H1=>LQ x λc=>Q (.bl (!c)) H1
theorem JQ{op}(h:PE X a t):PE X (.BoolOp op [a] pos) t:=λpins s σ H Q I hw=>BoolOp_one (h pins s σ H Q I hw)
theorem JV(ha:PE X a ta)(hb:PE X (.BoolOp .And (b::rest) pos) tb):PE X (.BoolOp .And (a::b::rest) pos) (Hn ta tb):=by
 intro pins s σ H Q I h;refine BoolOp_and (cT (ha pins s σ H _ I h) λv s1 ⟨x,H1,I1,r1,q1⟩=>?_);obtain⟨c,rfl,q1⟩:=q1
 cases r1
 refine Vr ?_
 cases c with
 |true=>exact hb pins s1 σ H1 Q I1 q1
 |false=>exact⟨.bl false,H1,I1,Z,q1⟩
theorem JR(ha:PE X a ta):PE X (.UnaryOp .Not a pos) (He ta):=by
 intro pins s σ H Q I h;refine UnaryOp_ (cT (ha pins s σ H _ I h) λv s1 ⟨x,H1,I1,r1,q1⟩=>?_);obtain⟨c,rfl,q1⟩:=q1
 cases r1
 exact not_of (Vr ⟨.bl (!c),H1,I1,Z,q1⟩)
def PY(t:TT)(ta tb:TE):TE:=λσ H Q=>t σ H λc H1=>if c=true then ta σ H1 Q else tb σ H1 Q
theorem Di(hc:PT X c tA)(ha:PE X a ta)(hb:PE X b tb):PE X (.IfExp c a b pos) (PY tA ta tb):=by
 intro pins s σ H Q I h;refine wpAny_IfExp (cT (hc pins s σ H _ I h) λd s1 ⟨H1,I1,q1⟩=>?_)
 cases d with
 |true=>exact ha pins s1 σ H1 Q I1 q1
 |false=>exact hb pins s1 σ H1 Q I1 q1
end
end L2
namespace L2
open PySem PySem.Spec PyProof.Rows
def bu(K:Sy)(H:Hp)(a:Addr)(xs:List V):Prop:=
 Rd H a (.lst xs)∨
  ∃(o:UU) (its:Array Value) (n:Nat),K.lookup a=some o/\o.cls=.type "list"/\o.dict=none/\o.data=.seq its n/\its.size≤sizeLine/\bP xs its.toList
def bV(K:Sy)(H:Hp)(a:Addr)(xs:List V):Prop:=
 Rd H a (.tup xs)∨
  ∃(o:UU) (its:Array Value) (n:Nat),K.lookup a=some o/\o.cls=.type "tuple"/\o.data=.seq its n/\its.size≤sizeLine/\bP xs its.toList
def Pg:Value->Option V
 | .none=>some .non
 | .bool b=>some (.bl b)
 | .int i _=>some (.int i)
 | .str x _=>some (.str x)
 | .bytes b _=>some (.byt b)
 | .float b _=>some (.flt b)
 | .ref a=>some (.ref a)
 | .type n=>some (.ty n)
 |_=>none
theorem bK.abs(r:bK x u):Pg u=some x:=by
 cases x with
 |non=>cases r;rfl
 |bl _=>cases r;rfl
 |int _=>obtain⟨t,rfl⟩:=r;rfl
 |str _=>obtain⟨t,rfl⟩:=r;rfl
 |byt _=>obtain⟨t,rfl⟩:=r;rfl
 |flt _=>obtain⟨t,rfl⟩:=r;rfl
 |ref _=>cases r;rfl
 |ty _=>cases r;rfl
theorem bK.inj(r:bK x u)(q:bK y u):x=y:=Um (r.abs.symm.trans q.abs)
theorem bP.inj:∀{xs ys:List V} {us:List Value},bP xs us->bP ys us->xs=ys
 |_,_,_,.nil,.nil=>rfl
 |_,_,_,.cons r t,.cons r' t'=>by rw[r.inj r',bP.inj t t']
section
variable {X:Cx}{pins:List (Addr×UU)}{σ:St}{H:Hp}{s:SH}{a:Addr}{xs ys:List V}
theorem bu.of{K:Sy}(h:H a=some (.lst xs)):bu K H a xs:=.inl (.inl h)
theorem bV.of{K:Sy}(h:H a=some (.tup xs)):bV K H a xs:=.inl (.inl h)
theorem Inv.list(I:Inv X pins σ H s)(h:bu X.K H a xs):∃its:List Value,bP xs its/\PlainL s.heap a its.toArray/\xs.length≤sizeLine:=by
 rcases h with h | ⟨o,its,n,hk,hc,hd,hs,hz,r⟩
 ·obtain⟨z,its,n,r,e⟩:=h.ok I.hok;exact⟨its,r,⟨_,n,e,Z,Z,Z⟩,z⟩
 ·refine⟨its.toList,r,⟨o,n,I.kIn a o hk,hc,hd,by simpa using hs⟩,?_⟩;have e:=r.length;simp only[Va] at e;omega
theorem Inv.tuple(I:Inv X pins σ H s)(h:bV X.K H a xs):∃its:List Value,bP xs its/\IsTup s.heap a its.toArray/\xs.length≤sizeLine:=by
 rcases h with h | ⟨o,its,n,hk,hc,hs,hz,r⟩
 ·obtain⟨z,its,r,p⟩:=h.ok I.hok;exact⟨its,r,p,z⟩
 ·refine⟨its.toList,r,⟨o,I.kIn a o hk,hc,n,by simpa using hs⟩,?_⟩;have e:=r.length;simp only[Va] at e;omega
theorem Inv.list_inj(I:Inv X pins σ H s)(h:bu X.K H a xs)(h':bu X.K H a ys):xs=ys:=by
 obtain⟨its,r,⟨o,n,e,_,_,d⟩,_⟩:=I.list h;obtain⟨its',r',⟨o',n',e',_,_,d'⟩,_⟩:=I.list h';rw[e] at e';cases e';rw[d] at d';injection d' with d1 _;have:its=its':=by simpa using congrArg Array.toList d1
 subst this;exact r.inj r'
theorem Inv.tuple_inj(I:Inv X pins σ H s)(h:bV X.K H a xs)(h':bV X.K H a ys):xs=ys:=by
 obtain⟨its,r,⟨o,e,_,n,d⟩,_⟩:=I.tuple h;obtain⟨its',r',⟨o',e',_,n',d'⟩,_⟩:=I.tuple h';rw[e] at e';cases e';rw[d] at d';injection d' with d1 _;have:its=its':=by simpa using congrArg Array.toList d1
 subst this;exact r.inj r'
end
abbrev Cx.wish(X:Cx)(E:Value->SH->Prop):Cx:={ X with xe:=E}
abbrev Cx.nox(X:Cx):Cx:=X.wish λ_ _=>False
theorem Cx.Ok.wish{X:Cx}(ok:X.Ok)(E:Value->SH->Prop):(X.wish E).Ok:=
 ⟨ok.mod,ok.kind,ok.glob,ok.blt,ok.above,ok.inj,ok.has,ok.cab,ok.hd,ok.frames,ok.stk,ok.exf,ok.bs,ok.bsz,ok.noex,ok.exfs,ok.funs,ok.frf⟩
theorem Cx.Ok.unwish{X:Cx}(ok:(X.wish E).Ok):X.Ok:=
 ⟨ok.mod,ok.kind,ok.glob,ok.blt,ok.above,ok.inj,ok.has,ok.cab,ok.hd,ok.frames,ok.stk,ok.exf,ok.bs,ok.bsz,ok.noex,ok.exfs,ok.funs,ok.frf⟩
section
variable {X:Cx}{pins:List (Addr×UU)}{σ:St}{H:Hp}{s:SH}{E:Value->SH->Prop}
theorem Inv.wish(I:Inv X pins σ H s)(E:Value->SH->Prop):Inv (X.wish E) pins σ H s:=⟨I.ok.wish E,I.os,I.bare,I.base,I.loc,I.cell,I.free,I.freeC,I.pin,I.hok,I.len⟩
theorem Inv.unwish(I:Inv (X.wish E) pins σ H s):Inv X pins σ H s:=⟨I.ok.unwish,I.os,I.bare,I.base,I.loc,I.cell,I.free,I.freeC,I.pin,I.hok,I.len⟩
theorem SP.unwish(h:SP (X.wish E) pins D f s'):SP X pins D f s':=by
 cases f with
 |next=>obtain⟨σ',H',I,q⟩:=h;exact⟨σ',H',I.unwish,q⟩
 |brk=>obtain⟨σ',H',I,q⟩:=h;exact⟨σ',H',I.unwish,q⟩
 |cont=>obtain⟨σ',H',I,q⟩:=h;exact⟨σ',H',I.unwish,q⟩
 |ret u=>obtain⟨v,σ',H',I,r,q⟩:=h;exact⟨v,σ',H',I.unwish,r,q⟩
theorem xG.nox{st:List Stmt}(h:xG X.nox st t):xG X st t:=λpins s σ H D I hw=>
 Vv (h pins s σ H D (I.wish _) hw) (λ_ _ q=>q.unwish) λ_ _ z=>Vw z
end
section
variable {X:Cx}{st:Stmt}{rest:List Stmt}{t u:TS}{e:TW}{te:TE}{pos:Wh}
def Hf:TS:=λD σ H=>D.nx σ H
def Ix(t u:TS):TS:=λD σ H=>t { D with nx:=u D} σ H
theorem FE:xG X [] Hf:=λ_ _ σ H _ I h=>XE ⟨σ,H,I,h⟩
theorem C3(h1:PS X st t)(h2:xG X rest u):xG X (st::rest) (Ix t u):=by
 intro pins s σ H D I h;refine wpAny_execs_cons (cT (h1 pins s σ H { D with nx:=u D} I h) λf s1 q=>?_)
 cases f with
 |next=>
  obtain⟨σ',H',I',q⟩:=q;exact h2 pins s1 σ' H' D I' q
 |ret v=>exact q
 |brk=>exact q
 |cont=>exact q
theorem FD(h1:PS X st t):xG X [st] t:=by
 intro pins s σ H D I h;refine wpAny_execs_cons (cT (h1 pins s σ H D I h) λf s1 q=>?_)
 cases f with
 |next=>exact XE q
 |ret v=>exact q
 |brk=>exact q
 |cont=>exact q
def OH:TS:=λD σ H=>D.bk σ H
def Hk:TS:=λD σ H=>D.ct σ H
theorem uT:PS X (.Continue pos) Hk:=λ_ _ σ H _ I h=>wpAny_Continue ⟨σ,H,I,h⟩
theorem Inv.quiet{pins:List (Addr×UU)}{σ:St}{H:Hp}{s:SH}(I:Inv X pins σ H s):interactive X.env=false:=by simp[interactive,I.ok.kind]
def Hh(te:TE):TS:=λD σ H=>te σ H λ_ H1=>D.nx σ H1
theorem FG(he:PE X e te)(hs:V1 e none pos.line X.env=Vd false:=by rfl):PS X (.Expr e pos) (Hh te):=by
 intro pins s σ H D I h;exact wpAny_Expr_any (cT (he pins s σ H _ I h) λv s1 ⟨x,H1,I1,r1,q1⟩=>⟨σ,H1,I1,q1⟩) I.quiet hs
def L8(te:TE):TS:=λD σ H=>te σ H D.rt
theorem JD(he:PE X e te):PS X (.Return (some e) pos) (L8 te):=by
 intro pins s σ H D I h;exact wpAny_Return_some (cT (he pins s σ H _ I h) λv s1 ⟨x,H1,I1,r1,q1⟩=>⟨x,σ,H1,I1,r1,q1⟩)
def PU:TS:=λD _ H=>D.rt .non H
def Mc(c:TT)(t u:TS):TS:=λD σ H=>c σ H λb H1=>if b=true then t D σ H1 else u D σ H1
theorem MP(hc:PT X c tc)(ha:xG X a t)(hb:xG X b u):PS X (.If c a b pos) (Mc tc t u):=by
 intro pins s σ H D I h;refine wpAny_If (cT (hc pins s σ H _ I h) λd s1 ⟨H1,I1,q1⟩=>?_)
 cases d with
 |true=>exact ha pins s1 σ H1 D I1 q1
 |false=>exact hb pins s1 σ H1 D I1 q1
def A7:TS:=λ_ _ _=>False
theorem C5:PS X st A7:=λ_ _ _ _ _ _ h=>h.elim
end
abbrev TG:=V->St->Hp->(St->Hp->Prop)->Prop
abbrev AL:=List V->St->Hp->(St->Hp->Prop)->Prop
def PG(X:Cx)(target:TW)(t:TG):Prop:=
 ∀(pins:List (Addr×UU)) (s:SH) (σ:St) (H:Hp) (v:V) (u:Value) (Q:St->Hp->Prop),Inv X pins σ H s->bK v u->t v σ H Q→
  Tj (Tp X.prog X.w) X.A (Yj target X.env u) (λ_ s'=>∃σ' H',Inv X pins σ' H' s'/\Q σ' H') X.xe s
def LP(X:Cx)(ts:List TW)(t:AL):Prop:=
 ∀(pins:List (Addr×UU)) (s:SH) (σ:St) (H:Hp) (vs:List V) (us:List Value) (Q:St->Hp->Prop),Inv X pins σ H s->bP vs us->t vs σ H Q→
  Tj (Tp X.prog X.w) X.A (ZB ((U6 ts X.env).map (·.2)) us) (λ_ s'=>∃σ' H',Inv X pins σ' H' s'/\Q σ' H') X.xe s
abbrev xB:=V->V->V->Hp->(Hp->Prop)->Prop
def EJ(X:Cx)(t:xB):Prop:=
 ∀(pins:List (Addr×UU)) (s:SH) (σ:St) (H:Hp) (o i v:V) (ov iv u:Value) (Q:Hp->Prop),Inv X pins σ H s->bK o ov->bK i iv->bK v u->t o i v H Q→
  Tj (Tp X.prog X.w) X.A (ZW ov iv u) (λ_ s'=>∃H',Inv X pins σ H' s'/\Q H') X.xe s
abbrev Ip:=V->V->Hp->VK->Prop
def LO(X:Cx)(op:Zb)(t:Ip):Prop:=
 ∀(pins:List (Addr×UU)) (s:SH) (σ:St) (H:Hp) (x y:V) (v u:Value) (Q:VK),Inv X pins σ H s->bK x v->bK y u->t x y H Q→
  Tj (Tp X.prog X.w) X.A (inplaceOp op v u) (EP X pins σ Q) X.xe s
section
variable {X:Cx}{pos:Wh}
def mM(i:Nat):TG:=λv σ H Q=>Q (σ.set i (some v)) H
theorem FV{i:Nat}{x:TB}(hN:X.N.Nodup)(hi:X.N[i]?=some x)(hx:AT X.env.scope x)(hf:X.fn x=true∨X.env.scope.names.lookup x=some .local:=by first|exact .inl Z|exact .inr Z|assumption):PG X (.Name x pos) (mM i):=by
 intro pins s σ H v u Q I r h;exact ZX (gD I hN hi hx r (λs' I'=>⟨_,H,I',h⟩) hf)
def Nt:AL:=λvs σ H Q=>vs=[]/\Q σ H
def Ii(t:TG)(u:AL):AL:=λvs σ H Q=>∃v r,vs=v::r/\t v σ H λσ' H'=>u r σ' H' Q
theorem FT:LP X [] Nt:=by
 intro pins s σ H vs us Q I r h;obtain⟨e,h⟩:=h;subst e
 cases r
 exact ZY ⟨σ,H,I,h⟩
theorem Dd{e:TW}{es:List TW}{t:TG}{u:AL}(h1:PG X e t)(h2:LP X es u)
  (hs:(U6 (e::es) X.env).map (·.2)=Yj e X.env::(U6 es X.env).map (·.2):=by rfl):LP X (e::es) (Ii t u):=by
 intro pins s σ H vs us Q I r h;obtain⟨v,vr,e1,h⟩:=h;subst e1
 cases r with
 |cons r rr=>
  rw[hs];refine XZ (cT (h1 pins s σ H _ _ _ I r h) λ_ s1 ⟨σ1,H1,I1,q1⟩=>?_);exact h2 pins s1 σ1 H1 _ _ Q I1 rr q1
def GC(K:Sy)(n:Nat)(t:AL):TG:=λv σ H Q=>∃a xs,v=.ref a/\bV K H a xs/\xs.length=n/\t xs σ H Q
theorem De{es:List TW}{k:Nat}{t:AL}{n:Nat}(hc:X.calm=true)(h:LP X es t)
  (hn:(U6 es X.env).length=n:=by rfl) (hst:(U6 es X.env).findIdx? (·.1)=none:=by rfl):PG X (.Tuple es k pos) (GC X.K n t):=by
 intro pins s σ H v u Q I r hw;obtain⟨a,xs,e1,hq,hl,hw⟩:=hw;subst e1
 cases r
 obtain⟨its,rv,ht,hz⟩:=I.tuple hq;refine assign_Tuple_tuple (I.ok.hd hc) ht (by simp[hn,←hl,rv.length]) hst λh' hx=>?_
 have I1:Inv X pins σ H { s with heap:=h'}:=I.kept (t':=s.toks) λb o e=>hx b o (Uj (Tc e)) e
 exact h pins _ σ H xs _ Q I1 (by simpa using rv) hw
def Nr(to ti:TE)(t:xB):TG:=λv σ H Q=>to σ H λo H1=>ti σ H1 λi H2=>t o i v H2 λH3=>Q σ H3
theorem JM{o i:TW}{to ti:TE}{t:xB}(ho:PE X o to)(hi:PE X i ti)(hs:EJ X t)
  (ha:∀v,Yj (.Subscript o i pos) X.env v=(do
   let ov ←holding [v] (eval o X.env);let iv ←holding [v,ov] (eval i X.env)
   YF pos
   holding [v,ov,iv] (ZW ov iv v)
   release [v,ov,iv] []):=by intro _;rfl):PG X (.Subscript o i pos) (Nr to ti t):=by
 intro pins s σ H v u Q I r h;rw[ha];refine SL (wpAny_holding (cT (ho pins s σ H _ I h) λov s1 ⟨x,H1,I1,r1,q1⟩=>?_));refine SL (wpAny_holding (cT (hi pins s1 σ H1 _ I1 q1) λiv s2 ⟨y,H2,I2,r2,q2⟩=>?_));refine SL (Yk (SL (wpAny_holding (cT (hs pins s2 σ H2 x y v ov iv u _ I2 r1 r2 r q2) λ_ s3 ⟨H3,I3,q3⟩=>?_))));exact wpAny_release ⟨σ,H3,I3,q3⟩
def uy(te:TE)(g:TG):TS:=λD σ H=>te σ H λx H1=>g x σ H1 D.nx
theorem JI{tg e:TW}{te:TE}{g:TG}(he:PE X e te)(hg:PG X tg g)(hs:Yl [tg] e pos.line X.env=Vd false:=by rfl)(hw:Ym [tg] e X.env=Vd none:=by rfl)
  (h1:(U6 [tg] X.env).map (·.2)=[Yj tg X.env]:=by rfl):PS X (.Assign [tg] e pos) (uy te g):=by
 intro pins s σ H D I h;refine wpAny_Assign_stores (cT (he pins s σ H _ I h) λv s1 ⟨x,H1,I1,r1,q1⟩=>?_) hs hw;rw[h1];exact cT (hg pins s1 σ H1 x v _ I1 r1 q1) λ_ s2 q=>q
theorem JC{i:Nat}{x:TB}{e:TW}{te:TE}{pos':Wh}(hN:X.N.Nodup)(hi:X.N[i]?=some x)(hx:AT X.env.scope x)(he:PE X e te)(hs:V1 e (some (.Name x pos')) pos.line X.env=Vd false:=by rfl)(hf:X.fn x=true∨X.env.scope.names.lookup x=some .local:=by first|exact .inl Z|exact .inr Z|assumption) :
  PS X (.Assign [.Name x pos'] e pos) (uy te (mM i)):=by
 intro pins s σ H D I h;refine wpAny_Assign_Name (cT (he pins s σ H _ I h) λv s1 ⟨y,H1,I1,r1,q1⟩=>?_) hs;exact gD I1 hN hi hx r1 (λs2 I2=>⟨_,H1,I2,q1⟩) hf
def L9(i j:Nat)(ta:TA):TS:=λD σ H=>ta σ H λvs H1=>∃v w,vs=[v,w]/\D.nx ((σ.set i (some v)).set j (some w)) H1
theorem JE{i j:Nat}{x y:TB}{a b:TW}{ta:TA}{px py pt:Wh}{kt k2 pt2}(hc:X.calm=true)(hN:X.N.Nodup)(hi:X.N[i]?=some x)(hj:X.N[j]?=some y)(hij:i≠j)
  (hx:X.env.scope.names.lookup x=some .local) (hy:X.env.scope.names.lookup y=some .local) (ha:PA X [a,b] ta)
  (hw:Ym [.Tuple [.Name x px,.Name y py] kt pt] (.Tuple [a,b] k2 pt2) X.env=Vd (some [x,y]))
  (hs:Yl [.Tuple [.Name x px,.Name y py] kt pt] (.Tuple [a,b] k2 pt2) pos.line X.env=Vd false:=by rfl) :
  PS X (.Assign [.Tuple [.Name x px,.Name y py] kt pt] (.Tuple [a,b] k2 pt2) pos) (L9 i j ta):=by
 intro pins s σ H D I h;rw[exec_Assign_arm];refine SL (Yk ?_);rw[hs];refine SL (wpAny_pure ?_);rw[if_neg (by decide)];refine SL (Tuple_ (cT (ha _ pins s σ H _ I h) λus s1 ⟨vs,H1,I1,r1,q1⟩=>?_));obtain⟨v,w,e1,q1⟩:=q1;subst e1;obtain⟨u1,u2,rfl,rv,rw'⟩:∃u1 u2,us=[u1,u2]/\bK v u1/\bK w u2:=by
  cases r1 with
  |cons p q=>
   cases q with
   |cons p' q'=>
    cases q'
    exact⟨_,_,Z,p,p'⟩
 refine UP ?_ jz;have I2:Inv X pins σ H1 { s1 with heap:=s1.heap.push { cls:=.type "tuple",data:=.seq [u1,u2].toArray} }:=I1.kept (t':=s1.toks) λb o e=>SK _ e
 rw[hw];refine SL (wpAny_pure ?_);show Tj (Tp X.prog X.w) X.A (do rule "assign.swapped-stores";let items ←unpackItems (.ref s1.heap.objs.size) 2 none;ZB [λv=>aaW X.env y v,λv=>aaW X.env x v] items.reverse;Vd abk) _ _ _;refine SL (wpAny_rule (SL (unpackItems_tuple (items:=#[u1,u2]) (I.ok.hd hc) (aaq s1.heap _) λh' hx'=>?_)));have I3:=I2.kept (h':=h') (t':=s1.toks) λb o e=>hx' b o (Uj (Tc e)) e
 show Tj _ _ (ZB [λv=>aaW X.env y v,λv=>aaW X.env x v] [u2,u1] >>= λ_=>Vd abk) _ _ _;refine SL (XZ (wpAny_bindName (gD I3 hN hj (.inl hy) rw' (λs2 I4=>?_) (.inr hy))));refine XZ (wpAny_bindName (gD I4 hN hi (.inl hx) rv (λs3 I5=>ZY (wpAny_pure ?_)) (.inr hx)));rw[List.set_comm _ _ (V9 hij)] at I5;exact⟨_,H1,I5,q1⟩
def Mf(i:Nat)(te:TE)(ti:Ip):TS:=λD σ H=>∃x,σ[i]?=some (some x)/\te σ H λy H1=>ti x y H1 λz H2=>D.nx (σ.set i (some z)) H2
theorem JH{i:Nat}{x:TB}{e:TW}{te:TE}{op:Zb}{ti:Ip}{pos':Wh}(hN:X.N.Nodup)(hi:X.N[i]?=some x)(hx:AT X.env.scope x)(he:PE X e te)(ho:LO X op ti)(hf:X.fn x=true∨X.env.scope.names.lookup x=some .local:=by first|exact .inl Z|exact .inr Z|assumption) :
  PS X (.AugAssign (.Name x pos') op e pos) (Mf i te ti):=by
 intro pins s σ H D I h;obtain⟨v,e1,h⟩:=h;obtain⟨m,hn,hl⟩:=I.loc;have vis:NE X.env.scope x:=by rcases hx with k|k;exact .inl k;exact .inr (.inl k)
 obtain⟨u,r,l⟩:=hl i x v hi e1 vis;refine wpAny_AugAssign_Name ?_;have go:Tj (Tp X.prog X.w) X.A (eval e X.env) (λw s₂=>Tj (Tp X.prog X.w) X.A (inplaceOp op u w) (λr s₃=>Tj (Tp X.prog X.w) X.A (storeName X.env x r) (λ_=>SP X pins D .next) X.xe s₃) X.xe s₂) X.xe s:=by
  refine cT (he pins s σ H _ I h) λw s1 ⟨y,H1,I1,r1,q1⟩=>?_
  refine cT (ho pins s1 σ H1 v y u w _ I1 r r1 q1) λz s2 ⟨zv,H2,I2,r2,q2⟩=>?_
  exact gD I2 hN hi hx r2 (λs3 I3=>⟨_,H2,I3,q2⟩) hf
 rcases l with⟨hk,hm⟩ | ⟨hk,c,hc,hcell⟩
 ·exact Za I.ok.kind hk hn hm go
 ·rcases hk with hk|hk
  ·exact Zu I.ok.kind hk hc hcell go
  ·rcases hx with k|k
   ·have:X.env.scope.names.lookup x=some .free:=hk;rw[k] at this;cases this
   ·have:X.env.scope.names.lookup x=some .free:=hk;rw[k] at this;cases this
def Hm(to ti te:TE)(tget:V->V->Hp->VK->Prop)(tip:Ip)(tset:xB):TS:=λD σ H=>to σ H λo H1=>ti σ H1 λi H2=>tget o i H2 λx H3=>te σ H3 λy H4=>tip x y H4 λz H5=>tset o i z H5 λH6=>D.nx σ H6
def Li(X:Cx)(t:V->V->Hp->VK->Prop):Prop:=
 ∀(pins:List (Addr×UU)) (s:SH) (σ:St) (H:Hp) (o i:V) (ov iv:Value) (Q:VK),Inv X pins σ H s->bK o ov->bK i iv->t o i H Q→
  Tj (Tp X.prog X.w) X.A (W4 ov iv) (EP X pins σ Q) X.xe s
theorem FI{o i e:TW}{to ti te:TE}{tget:V->V->Hp->VK->Prop}{tip:Ip}{tset:xB}{op:Zb}{tpos:Wh}(ho:PE X o to)(hi:PE X i ti)(hg:Li X tget)(he:PE X e te)(hp:LO X op tip)(hs:EJ X tset)
  (ha:∀ov iv new,augStore i ov iv new=(do holding [new,ov,iv] (ZW ov iv new);release [new,ov,iv] [];Vd .next):=by intros;rfl):PS X (.AugAssign (.Subscript o i tpos) op e pos) (Hm to ti te tget tip tset):=by
 intro pins s σ H D I h;refine wpAny_AugAssign_SubscriptAny (cT (ho pins s σ H _ I h) λov s1 ⟨x1,H1,I1,r1,q1⟩=>?_) ha;refine cT (hi pins s1 σ H1 _ I1 q1) λiv s2 ⟨x2,H2,I2,r2,q2⟩=>?_
 refine cT (hg pins s2 σ H2 x1 x2 ov iv _ I2 r1 r2 q2) λold s3 ⟨x3,H3,I3,r3,q3⟩=>?_
 refine cT (he pins s3 σ H3 _ I3 q3) λv s4 ⟨x4,H4,I4,r4,q4⟩=>?_
 refine cT (hp pins s4 σ H4 x3 x4 old v _ I4 r3 r4 q4) λnew s5 ⟨x5,H5,I5,r5,q5⟩=>?_
 exact cT (hs pins s5 σ H5 x1 x2 x5 ov iv new _ I5 r1 r2 r5 q5) λ_ s6 ⟨H6,I6,q6⟩=>⟨σ,H6,I6,q6⟩
def Qn(f:Int->Int->Int):Ip:=λx y H Q=>NV x y λi j=>Q (.int (f i j)) H
theorem KR:LO X .Add (Qn λi j=>i+j):=by
 intro pins s σ H x y v u Q I r1 r2 h;obtain⟨i,j,e1,e2,q⟩:=h;subst e1;subst e2;obtain⟨t,rfl⟩:=r1;obtain⟨t',rfl⟩:=r2;exact iadd_int ⟨.int _,H,I.tok _,⟨_,Z⟩,q⟩
theorem KQ:LO X .Sub (Qn λi j=>i-j):=by
 intro pins s σ H x y v u Q I r1 r2 h;obtain⟨i,j,e1,e2,q⟩:=h;subst e1;subst e2;obtain⟨t,rfl⟩:=r1;obtain⟨t',rfl⟩:=r2;exact isub_int ⟨.int _,H,I.tok _,⟨_,Z⟩,q⟩
end
section
variable {X:Cx}{pos:Wh}
def A6(c:TT)(tb:TS):TS:=λD σ H=>∃W:Nat->St->Hp->Prop,(∃m,W m σ H)/\∀m σ H,W m σ H→
 c σ H λb H1=>if b=true then ∃N:St->Hp->Prop,(∀σ' H',N σ' H'->∃m',m'<m/\W m' σ' H')/\tb { D with nx:=N,ct:=N,bk:=D.nx} σ H1 else D.nx σ H1
theorem C4(hp:TK (Tp X.prog X.w) X.A X.env X.xe)(hc:PT X c tc)(hb:xG X body tb):PS X (.While c body [] pos) (A6 tc tb):=by
 intro pins s σ H D I h;obtain⟨W,⟨m0,w0⟩,turn⟩:=h;refine wpAny_While (codeAny_whileLoop (λn s'=>∃σ' H',Inv X pins σ' H' s'/\W n σ' H') ?_ m0 ⟨σ,H,I,w0⟩);rintro n s1 ⟨σ1,H1,I1,w1⟩;refine VJ hp (cT (hc pins s1 σ1 H1 _ I1 (turn n σ1 H1 w1)) λb s2 ⟨H2,I2,q2⟩=>?_)
 cases b with
 |true=>
  obtain⟨N,hN,q2⟩:=q2;rw[if_pos Z];refine VJ hp (cT (hb pins s2 σ1 H2 _ I2 q2) λf s3 q3=>?_)
  cases f with
  |next=>
   obtain⟨σ3,H3,I3,n3⟩:=q3;obtain⟨m',hm,w3⟩:=hN σ3 H3 n3;exact⟨m',hm,σ3,H3,I3,w3⟩
  |cont=>
   obtain⟨σ3,H3,I3,n3⟩:=q3;obtain⟨m',hm,w3⟩:=hN σ3 H3 n3;exact⟨m',hm,σ3,H3,I3,w3⟩
  |brk=>exact q3
  |ret v=>exact q3
 |false=>
  rw[if_neg Tb];exact XE ⟨σ1,H2,I2,q2⟩
end
structure It where
 go:Nat->Hp->Prop
 yld:Nat->Hp->V->Hp->Prop
 stop:Nat->Hp->Prop
def kF(X:Cx)(pins:List (Addr×UU))(H:Hp)(b:Addr):Prop:=
 H b=none/\b≠X.env.locals/\b∉X.fs/\(b∈X.ex∨X.s₀.heap.get? b=none)/\(∀x c,X.env.cells.lookup x=some c->c≠b)/\∀p∈X.pn++pins,p.1≠b
theorem Inv.fpOk{X:Cx}{pins:List (Addr×UU)}{σ:St}{H H':Hp}{s:SH}{b:Addr}(I:Inv X pins σ H s)(hb:s.heap.objs.size≤b)(hn:H' b=none):kF X pins H' b:=by
 refine⟨hn,XR (Td I.lt hb),I.nofs hb,.inr (Xv (Tu I.sz hb)),λx c e z=>?_,λp hp z=>?_⟩
 ·obtain⟨v,q⟩:=I.cell x c e;exact absurd (Td q.lt (by rw[z];exact hb)) (UJ _)
 ·exact absurd (Td (Tc (I.pin p hp).1) (by rw[z];exact hb)) (UJ _)
structure xA(P:Tx)(w:T9)(K:Sy)(tg:TW)(J:It)(fp:List Addr)(it:Addr)(tn:Nat->SY->Prop):Prop where
 mem:it∈fp
 obj:∀i h,tn i h->∀b∈fp,∃o,h.get? b=some o/\∀v,o.data≠.cell v
 keep:∀i h h',tn i h->(∀b∈fp,∀o,h.get? b=some o->h'.get? b=some o)->tn i h'
 item:∀(X:Cx),X.prog=P->X.w=w->X.K=K->X.calm=true->∀(i:Nat) (pins:List (Addr×UU)) (s:SH) (σ:St) (H:Hp) (E:Value->SH->Prop),Inv X pins σ H s->(∀b∈fp,kF X pins H b)->tn i s.heap->J.go i H→
  Tj (Tp P w) X.A (pyNext (.ref it)) (λr s1=>∃u,r=some u∧
   Tj (Tp P w) X.A (XF tg (.ref it) u) (λ_ s2=>∃x H',Inv X pins σ H' s2/\bK x u/\J.yld i H x H'/\tn (i+1) s2.heap/\∀b∈fp,H' b=none) E s1) E s
 done:∀(X:Cx),X.prog=P->X.w=w->X.K=K->X.calm=true->∀(i:Nat) (pins:List (Addr×UU)) (s:SH) (σ:St) (H:Hp) (E:Value->SH->Prop),Inv X pins σ H s->(∀b∈fp,kF X pins H b)->tn i s.heap->J.stop i H→
  Tj (Tp P w) X.A (pyNext (.ref it)) (λr s1=>r=none/\Inv X pins σ H s1) E s
 self:∀(A:TV) (i:Nat) (s:SH) (Q:Value->SH->Prop) (E:Value->SH->Prop),tn i s.heap->Q (.ref it) s->Tj (Tp P w) A (pyIter (.ref it)) Q E s
abbrev TI:=St->Hp->(It->Hp->Prop)->Prop
def QH(X:Cx)(pins:List (Addr×UU))(σ:St)(tg:TW)(R:It->Hp->Prop)(itv:Value)(s2:SH):Prop:=
 ∃(it:Addr) (fp:List Addr) (tn:Nat->SY->Prop) (J:It) (H':Hp),itv=.ref it/\Inv X pins σ H' s2/\xA X.prog X.w X.K tg J fp it tn/\tn 0 s2.heap/\(∀b∈fp,kF X pins H' b)/\R J H'
def PI(X:Cx)(tg iter:TW)(wi:TI):Prop:=
 ∀(pins:List (Addr×UU)) (s:SH) (σ:St) (H:Hp) (R:It->Hp->Prop),Inv X pins σ H s->wi σ H R→
  Tj (Tp X.prog X.w) X.A (eval iter X.env) (λv s1=>Tj (Tp X.prog X.w) X.A (pyIter v) (QH X pins σ tg R) X.xe s1) X.xe s
theorem yQ(ho:s.heap.get? it=some o)(hc:o.cls=.type n)(hd:o.data=.fields vs)
  (hn:["enumerate","zip","dict_itemiterator","dict_reverseitemiterator","odict_iterator","itertools.zip_longest","itertools.pairwise"].contains n=false) (hQ:Q () s):Tj M A (XF tg (.ref it) u) Q E s:=by
 unfold XF
 cases tg<;>first
  |exact wpAny_pure hQ
  | (cases u<;>first
    |exact wpAny_pure hQ
    | (refine SL (wpAny_load ho ?_)
       rw[hc,hd];show Tj M A (if(["enumerate","zip","dict_itemiterator","dict_reverseitemiterator","odict_iterator","itertools.zip_longest","itertools.pairwise"].contains n&&vs[0]?==some (rawInt _))=true then _ else _) Q E s;rw[if_neg (by intro h;rw[hn,VE] at h;cases h)];exact wpAny_pure hQ))
def Lp(K:Sy)(a:Addr):It:=
 ⟨λi H=>∃xs x,bu K H a xs/\xs[i]?=some x,λi H x H'=>H'=H/\∀xs,bu K H a xs->xs[i]?=some x,λi H=>∃xs,bu K H a xs/\xs.length≤i⟩
def Lo(K:Sy)(a:Addr):It:=
 ⟨λi H=>∃xs x,bV K H a xs/\xs[i]?=some x,λi H x H'=>H'=H/\∀xs,bV K H a xs->xs[i]?=some x,λi H=>∃xs,bV K H a xs/\xs.length≤i⟩
def EK(lo:Int)(n:Nat):It:=⟨λi _=>i<n,λi H x H'=>H'=H/\x=.int (lo+i),λi _=>n≤i⟩
theorem qg{P:Tx}{w:T9}{K:Sy}{tg:TW}(a it:Addr):xA P w K tg (Lp K a) [it] it (λi h=>h.IsListIter it a i) where
 mem:=by simp
 obj:=λi h st b hb=>by
  have e:b=it:=by simpa using hb
  subst e;obtain⟨o,e,c,d⟩:=st;exact⟨o,e,λv z=>by rw[d] at z;cases z⟩
 keep:=λi h h' st k=>st.at λo e=>k it (by simp) o e
 item:=by
  intro X hP hw hK hc i pins s σ H E I hf st hg;subst hP hw hK;obtain⟨xs,x,hq,hx⟩:=hg;obtain⟨its,rv,p,hz⟩:=I.list hq;obtain⟨u,hu,ru⟩:=rv.get hx;obtain⟨f0,f1,f2,f3,f4,f5⟩:=hf it (by simp);refine wpAny_pyNext_list_item st p.isList (x:=u) (by simpa using hu) λh' st' sb=>?_
  have I1:Inv X pins σ H { s with heap:=h'}:=I.turned (t':=s.toks) (λb o hb e=>(sb.2 b hb).trans e) f0 f1 f3 f4 f5;obtain⟨o,e,c,d⟩:=id st';exact⟨u,Z,yQ (s:={ s with heap:=h'}) e c d (by decide) ⟨x,H,I1,ru,⟨rfl,λys hy=>by rw[I.list_inj hy hq];exact hx⟩,st',λb hb=>(hf b hb).1⟩⟩
 done:=by
  intro X hP hw hK hc i pins s σ H E I hf st hg;subst hP hw hK;obtain⟨xs,hq,hx⟩:=hg;obtain⟨its,rv,p,hz⟩:=I.list hq;obtain⟨f0,f1,f2,f3,f4,f5⟩:=hf it (by simp);have hl:=rv.length;exact wpAny_pyNext_list_end (I.ok.hd hc) st p.isList (by simp;omega) λh' eb=>⟨Z,I.turned (t':=s.toks) (λb o hb e=>eb b o hb e) f0 f1 f3 f4 f5⟩
 self:=λ_ _ _ _ _ st h=>wpAny_pyIter_listiter st h
theorem nK{P:Tx}{w:T9}{K:Sy}{tg:TW}(a it:Addr):xA P w K tg (Lo K a) [it] it (λi h=>h.IsTupleIter it a i) where
 mem:=by simp
 obj:=λi h st b hb=>by
  have e:b=it:=by simpa using hb
  subst e;obtain⟨o,e,c,d⟩:=st;exact⟨o,e,λv z=>by rw[d] at z;cases z⟩
 keep:=λi h h' st k=>st.at λo e=>k it (by simp) o e
 item:=by
  intro X hP hw hK hc i pins s σ H E I hf st hg;subst hP hw hK;obtain⟨xs,x,hq,hx⟩:=hg;obtain⟨its,rv,p,hz⟩:=I.tuple hq;obtain⟨u,hu,ru⟩:=rv.get hx;obtain⟨f0,f1,f2,f3,f4,f5⟩:=hf it (by simp);refine wpAny_pyNext_tuple_item st (show s.heap.IsTuple a its.toArray from p) (x:=u) (by simpa using hu) λh' st' sb=>?_
  have I1:Inv X pins σ H { s with heap:=h'}:=I.turned (t':=s.toks) (λb o hb e=>(sb.2 b hb).trans e) f0 f1 f3 f4 f5;obtain⟨o,e,c,d⟩:=id st';exact⟨u,Z,yQ (s:={ s with heap:=h'}) e c d (by decide) ⟨x,H,I1,ru,⟨rfl,λys hy=>by rw[I.tuple_inj hy hq];exact hx⟩,st',λb hb=>(hf b hb).1⟩⟩
 done:=by
  intro X hP hw hK hc i pins s σ H E I hf st hg;subst hP hw hK;obtain⟨xs,hq,hx⟩:=hg;obtain⟨its,rv,p,hz⟩:=I.tuple hq;obtain⟨f0,f1,f2,f3,f4,f5⟩:=hf it (by simp);have hl:=rv.length;exact wpAny_pyNext_tuple_end (I.ok.hd hc) st (show s.heap.IsTuple a its.toArray from p) (by simp;omega) λh' eb=>⟨Z,I.turned (t':=s.toks) (λb o hb e=>eb b o hb e) f0 f1 f3 f4 f5⟩
 self:=λ_ _ _ _ _ st h=>wpAny_pyIter_tupleiter st h
theorem vS{P:Tx}{w:T9}{K:Sy}{tg:TW}(it:Addr)(lo:Int)(n:Nat):xA P w K tg (EK lo n) [it] it (λi h=>Zc h it (lo+(i:Nat)*1) ((n:Int)-(i:Nat)) 1) where
 mem:=by simp
 obj:=λi h st b hb=>by
  have e:b=it:=by simpa using hb
  subst e;exact⟨_,st,λv z=>by
   have z':Zd _=aar v:=z
   cases z'⟩
 keep:=λi h h' st k=>k it (by simp) _ st
 item:=by
  intro X hP hw hK hc i pins s σ H E I hf st hg;subst hP hw hK;obtain⟨f0,f1,f2,f3,f4,f5⟩:=hf it (by simp);have W:=Walks.range (prog:=X.prog) (w:=X.w) (I.ok.hd hc) it lo 1 n;refine W.item i s _ _ hg st λv h' tk hv st' kk=>?_
  obtain⟨t,rfl⟩:=hv;have I1:Inv X pins σ H { s with heap:=h',toks:=tk}:=I.turned (λb o hb e=>kk b o (by simpa using hb) e) f0 f1 f3 f4 f5;refine⟨_,rfl,yQ (s:={ s with heap:=h',toks:=tk}) (n := "range_iterator") st' rfl rfl (by decide) ⟨.int (lo+i),H,I1,⟨t,?_⟩,⟨rfl,rfl⟩,st',λb hb=>(hf b hb).1⟩⟩;rw[aaB]
 done:=by
  intro X hP hw hK hc i pins s σ H E I hf st hg;subst hP hw hK;obtain⟨f0,f1,f2,f3,f4,f5⟩:=hf it (by simp);exact YG (I.ok.hd hc) st (by have:n≤i:=hg;omega) λh' eb=>⟨Z,I.turned (t':=s.toks) (λb o hb e=>eb b o hb e) f0 f1 f3 f4 f5⟩
 self:=λ_ _ _ _ _ st h=>YH st h
end L2
namespace L2
open PySem PySem.Spec PyProof.Rows
section
variable {X:Cx}{tg:TW}
inductive Pu(x:V)(P Q:Addr->Prop):Prop where
 |mk (a:Addr) (e:x=.ref a) (h:P a) (k:Q a):Pu x P Q
def D8(K:Sy)(tl:TE):TI:=λσ H R=>tl σ H λx H1=>Pu x (λa=>∃xs,bu K H1 a xs) λa=>R (Lp K a) H1
def GA(K:Sy)(tl:TE):TI:=λσ H R=>tl σ H λx H1=>Pu x (λa=>∃xs,bV K H1 a xs) λa=>R (Lo K a) H1
theorem FQ(hl:PE X l tl):PI X tg l (D8 X.K tl):=by
 intro pins s σ H R I h;refine cT (hl pins s σ H _ I h) λv s1 ⟨x,H1,I1,r1,q1⟩=>?_
 obtain⟨a,e,⟨xs,hq⟩,q⟩:=q1;subst e
 cases r1
 obtain⟨its,rv,p,hz⟩:=I1.list hq;refine Xa p.isList ?_;refine⟨s1.heap.objs.size,[s1.heap.objs.size],_,_,H1,Z,I1.kept (t':=s1.toks) λb o e=>SK _ e,qg a _,⟨_,Tg _ Z,Z,Z⟩,λb hb=>?_,q⟩;have e:b=s1.heap.objs.size:=by simpa using hb
 subst e;exact I1.fpOk (SD _) (I1.hok.fresh (SD _))
theorem Da(hl:PE X l tl):PI X tg l (GA X.K tl):=by
 intro pins s σ H R I h;refine cT (hl pins s σ H _ I h) λv s1 ⟨x,H1,I1,r1,q1⟩=>?_
 obtain⟨a,e,⟨xs,hq⟩,q⟩:=q1;subst e
 cases r1
 obtain⟨its,rv,p,hz⟩:=I1.tuple hq;refine Wb (show s1.heap.IsTuple a its.toArray from p) ?_;refine⟨s1.heap.objs.size,[s1.heap.objs.size],_,_,H1,Z,I1.kept (t':=s1.toks) λb o e=>SK _ e,nK a _,⟨_,Tg _ Z,Z,Z⟩,λb hb=>?_,q⟩;have e:b=s1.heap.objs.size:=by simpa using hb
 subst e;exact I1.fpOk (SD _) (I1.hok.fresh (SD _))
theorem uO{pins:List (Addr×UU)}{σ:St}{H:Hp}{s:SH}{R:It->Hp->Prop}{E:Value->SH->Prop}{lo hi:Int}{t u v:Tok}{tk:Nat}(I:Inv X pins σ H s)(h1:-(2^62)≤lo)(h2:lo<2^62)(h3:-(2^62)≤hi)(h4:hi<2^62)
  (q:R (EK lo (hi-lo).toNat) H):Tj (Tp X.prog X.w) X.A (pyIter (.ref s.heap.objs.size)) (QH X pins σ tg R) E { s with heap:=s.heap.push { cls:=.type "range",data:=.fields #[.int lo t,.int hi u,.int 1 v]},toks:=tk}:=by
 refine ZK (Zq.new ..) (small_one h1 h2 h3 h4) ?_;have I1:Inv X pins σ H { s with heap:=s.heap.push { cls:=.type "range",data:=.fields #[.int lo t,.int hi u,.int 1 v]},toks:=tk}:=I.kept λb o e=>SK _ e
 refine⟨(s.heap.push { cls:=.type "range",data:=.fields #[.int lo t,.int hi u,.int 1 v]}).objs.size,[(s.heap.push { cls:=.type "range",data:=.fields #[.int lo t,.int hi u,.int 1 v]}).objs.size],_,_,H,Z,
  I1.kept (t':=tk) λb o e=>SK _ e,vS _ lo (hi-lo).toNat,?_,λb hb=>?_,q⟩
 ·have e1:lo+((0:Nat):Int)*1=lo:=by simp
  have e2:(((hi-lo).toNat:Nat):Int)-((0:Nat):Int)=UA lo hi 1:=by rw[rangeSize_one];split<;>omega
  show Zc _ _ (lo+((0:Nat):Int)*1) ((((hi-lo).toNat:Nat):Int)-((0:Nat):Int)) 1;rw[e1,e2];exact Tg _ Z
 ·have e:b=(s.heap.push { cls:=.type "range",data:=.fields #[.int lo t,.int hi u,.int 1 v]}).objs.size:=by simpa using hb
  subst e;exact I1.fpOk (SD _) (I1.hok.fresh (SD _))
def Ih(ta:TA):TI:=λσ H R=>ta σ H λvs H1=>∃j:Int,vs=[.int j]/\-(2^62)≤j/\j<2^62/\R (EK 0 j.toNat) H1
def Ig(ta:TA):TI:=λσ H R=>ta σ H λvs H1=>∃i j:Int,vs=[.int i,.int j]/\(-(2^62)≤i/\i<2^62/\-(2^62)≤j/\j<2^62)/\R (EK i (j-i).toNat) H1
theorem z9{a:TW}{ta:TA}{p pos:Wh}(hg:Gl X "range")(hm:X.mg "range"=none)(ha:PA X [a] ta)(hs:SX [a] X.env=[(false,eval a X.env)]:=by rfl):PI X tg (.Call (.Name "range" p) [a] [] pos) (Ih ta):=by
 intro pins s σ H R I h;refine Call_ (ib I hg hm ZL (Uw (cT (ha pos pins s σ H _ I h) λus s1 ⟨vs,H1,I1,r1,q1⟩=>?_) hs Z));obtain⟨j,e,q1,q2,q⟩:=q1;subst e
 cases r1 with
 |cons r rr=>
  cases rr
  obtain⟨t,rfl⟩:=r;exact call_range_1 (uO I1 (by omega) (by omega) q1 q2 (by simpa using q))
theorem z7{a b:TW}{ta:TA}{p pos:Wh}(hg:Gl X "range")(hm:X.mg "range"=none)(ha:PA X [a,b] ta)(hs:SX [a,b] X.env=[(false,eval a X.env),(false,eval b X.env)]:=by rfl)(hs2:SX [b] X.env=[(false,eval b X.env)]:=by rfl) :
  PI X tg (.Call (.Name "range" p) [a,b] [] pos) (Ig ta):=by
 intro pins s σ H R I h;refine Call_ (ib I hg hm ZL (Uw (cT (ha pos pins s σ H _ I h) λus s1 ⟨vs,H1,I1,r1,q1⟩=>?_) (by rw[hs,hs2]) (by rw[hs2];rfl)));obtain⟨i,j,e,⟨q1,q2,q3,q4⟩,q⟩:=q1;subst e
 cases r1 with
 |cons r rr=>
  cases rr with
  |cons r' rr=>
   cases rr
   obtain⟨t,rfl⟩:=r;obtain⟨t',rfl⟩:=r';exact call_range_2 (uO I1 q1 q2 q3 q4 q)
def Md(wi:TI)(g:TG)(tb:TS):TS:=λD σ H=>wi σ H λJ H1=>∃W:Nat->Nat->St->Hp->Prop,(∃m,W 0 m σ H1)/\∀i m σ H,W i m σ H→
 (J.stop i H/\D.nx σ H)∨(J.go i H/\∃N:St->Hp->Prop,(∀σ' H',N σ' H'->∃m',m'<m/\W (i+1) m' σ' H')/\∀x H',J.yld i H x H'->g x σ H' λσ2 H2=>tb { D with nx:=N,ct:=N,bk:=D.nx} σ2 H2)
def oE(fp:List Addr)(h:SY):List (Addr×UU):=fp.filterMap λb=>(h.get? b).map λo=>(b,o)
theorem h9(hb:b∈fp)(e:h.get? b=some o):(b,o)∈oE fp h:=ZM.mpr ⟨b,hb,by rw[e];rfl⟩
theorem Ae(hp:p∈oE fp h):p.1∈fp/\h.get? p.1=some p.2:=by
 obtain⟨b,hb,e⟩:=ZM.mp hp
 cases q:h.get? b with
 |none=>rw[q] at e;cases e
 |some o=>
  rw[q] at e;have e':(b,o)=p:=Um e;subst e';exact⟨hb,q⟩
theorem Inv.pinned{pins:List (Addr×UU)}{σ:St}{H:Hp}{s:SH}{fp:List Addr}(I:Inv X pins σ H s)(hf:∀b∈fp,kF X pins H b)(ho:∀b∈fp,∃o,s.heap.get? b=some o/\∀v,o.data≠.cell v):Inv X (pins++oE fp s.heap) σ H s:=
 I.pins_of λp hp=>(Ti.mp hp).elim (λz=>I.pin p (TD _ z)) λz=>by
  obtain⟨hb,e⟩:=Ae z;obtain⟨f0,f1,f2,_⟩:=hf p.1 hb;obtain⟨o,e',d⟩:=ho p.1 hb;rw[e] at e';cases e';exact⟨e,f0,f1,f2,d⟩
theorem Inv.unpinned{pins pl:List (Addr×UU)}{σ:St}{H:Hp}{s:SH}(I:Inv X (pins++pl) σ H s):Inv X pins σ H s:=I.pins_of λp hp=>I.pin p (TD _ (VO _ hp))
theorem JF{iter:TW}{body:List Stmt}{wi:TI}{g:TG}{tb:TS}{pos:Wh}(hp:TK (Tp X.prog X.w) X.A X.env X.xe)(hc:X.calm=true)(hi:PI X tg iter wi)(hg:PG X tg g)(hb:xG X body tb)
  (hs:∀x,U7 iter X.env x=Vd x:=by intro _;rfl):PS X (.For tg iter body [] pos) (Md wi g tb):=by
 intro pins s σ H D I h;refine wpAny_For (cT (hi pins s σ H _ I h) λv s1 h1=>cT h1 λitv s2 h2=>?_) hs;obtain⟨it,fp,tn,J,H2,e,I2,T,st2,f2,W,⟨m0,w0⟩,turn⟩:=h2;subst e;have stat:∀{H':Hp},(∀b∈fp,H' b=none)->∀b∈fp,kF X pins H' b:=λhn b hb=>⟨hn b hb,(f2 b hb).2⟩
 refine codeAny_forLoop_any (λn s'=>∃i σ' H',Inv X pins σ' H' s'/\tn i s'.heap/\(∀b∈fp,H' b=none)/\W i n σ' H') ?_ m0 ⟨0,σ,H2,I2,st2,λb hb=>(f2 b hb).1,w0⟩;rintro n s3 ⟨i,σ3,H3,I3,st3,fr3,w3⟩;rcases turn i n σ3 H3 w3 with⟨stop,qn⟩ | ⟨go,N,hN,step⟩
 ·refine VJ hp (cT (T.done X Z Z Z hc i pins s3 σ3 H3 X.xe I3 (stat fr3) st3 stop) λr s4 ⟨hr,I4⟩=>?_);subst hr;exact XE ⟨σ3,H3,I4,qn⟩
 ·refine VJ hp (cT (T.item X Z Z Z hc i pins s3 σ3 H3 X.xe I3 (stat fr3) st3 go) λr s4 ⟨u,hr,h4⟩=>?_);subst hr;refine VJ hp (cT h4 λ_ s5 ⟨x,H5,I5,r5,y5,st5,fr5⟩=>?_);have I5':=I5.pinned (stat fr5) (T.obj _ _ st5);refine VJ hp (cT (hg _ s5 σ3 H5 x u _ I5' r5 (step x H5 y5)) λ_ s6 ⟨σ6,H6,I6,q6⟩=>?_);refine VJ hp (cT (hb _ s6 σ6 H6 _ I6 q6) λf s7 q7=>?_);have again:∀{σ7:St} {H7:Hp},Inv X (pins++oE fp s5.heap) σ7 H7 s7->N σ7 H7->∃m,m<n/\∃i σ' H',Inv X pins σ' H' s7/\tn i s7.heap/\(∀b∈fp,H' b=none)/\W i m σ' H':=λ{σ7 H7} I7 n7=>by
   obtain⟨m',hm,w7⟩:=hN σ7 H7 n7;refine⟨m',hm,i+1,σ7,H7,I7.unpinned,T.keep _ _ _ st5 λb hb o e=>(I7.pin (b,o) (TD _ (TD _ (h9 hb e)))).1,λb hb=>?_,w7⟩;obtain⟨o,e,d⟩:=T.obj _ _ st5 b hb;exact(I7.pin (b,o) (TD _ (TD _ (h9 hb e)))).2.1
  cases f with
  |next=>obtain⟨σ7,H7,I7,n7⟩:=q7;exact again I7 n7
  |cont=>obtain⟨σ7,H7,I7,n7⟩:=q7;exact again I7 n7
  |brk=>obtain⟨σ7,H7,I7,q7⟩:=q7;exact⟨σ7,H7,I7.unpinned,q7⟩
  |ret v=>obtain⟨x7,σ7,H7,I7,r7,q7⟩:=q7;exact⟨x7,σ7,H7,I7.unpinned,r7,q7⟩
end
theorem iX{K:Sy}{a:Addr}{xs:List V}{g:TG}{tb:TS}{D:lM}{σ:St}{H:Hp}(Pv:Nat->St->Hp->Prop)(h0:Pv 0 σ H)(hl:∀i σ H,i≤xs.length->Pv i σ H->bu K H a xs)
  (hs:∀i x σ H,xs[i]?=some x->Pv i σ H->g x σ H λσ2 H2=>tb { D with nx:=Pv (i+1),ct:=Pv (i+1),bk:=D.nx} σ2 H2) (hd:∀σ H,Pv xs.length σ H->D.nx σ H) :
  ∃W:Nat->Nat->St->Hp->Prop,(∃m,W 0 m σ H)/\∀i m σ H,W i m σ H→
   ((Lp K a).stop i H/\D.nx σ H)∨((Lp K a).go i H/\∃N:St->Hp->Prop,(∀σ' H',N σ' H'->∃m',m'<m/\W (i+1) m' σ' H')/\∀x H',(Lp K a).yld i H x H'->g x σ H' λσ2 H2=>tb { D with nx:=N,ct:=N,bk:=D.nx} σ2 H2):=by
 refine⟨λi m σ H=>m=xs.length-i/\i≤xs.length/\Pv i σ H,⟨xs.length,by simp,S8 _,h0⟩,?_⟩;rintro i m σ H ⟨rfl,hi,p⟩;have q:=hl i σ H hi p;by_cases hlt:i<xs.length
 ·refine .inr ⟨⟨xs,xs[i],q,by simp[hlt]⟩,Pv (i+1),λσ' H' p'=>⟨xs.length-(i+1),by omega,Z,hlt,p'⟩,λx H' y=>?_⟩;obtain⟨e,y⟩:=y;subst e;exact hs i x σ _ (y xs q) p
 ·have e:i=xs.length:=by omega
  subst e;exact .inl ⟨⟨xs,q,SD _⟩,hd σ H p⟩
theorem ic{K:Sy}{a:Addr}{xs:List V}{g:TG}{tb:TS}{D:lM}{σ:St}{H:Hp}(Pv:Nat->St->Hp->Prop)(h0:Pv 0 σ H)(hl:∀i σ H,i≤xs.length->Pv i σ H->bV K H a xs)
  (hs:∀i x σ H,xs[i]?=some x->Pv i σ H->g x σ H λσ2 H2=>tb { D with nx:=Pv (i+1),ct:=Pv (i+1),bk:=D.nx} σ2 H2) (hd:∀σ H,Pv xs.length σ H->D.nx σ H) :
  ∃W:Nat->Nat->St->Hp->Prop,(∃m,W 0 m σ H)/\∀i m σ H,W i m σ H→
   ((Lo K a).stop i H/\D.nx σ H)∨((Lo K a).go i H/\∃N:St->Hp->Prop,(∀σ' H',N σ' H'->∃m',m'<m/\W (i+1) m' σ' H')/\∀x H',(Lo K a).yld i H x H'->g x σ H' λσ2 H2=>tb { D with nx:=N,ct:=N,bk:=D.nx} σ2 H2):=by
 refine⟨λi m σ H=>m=xs.length-i/\i≤xs.length/\Pv i σ H,⟨xs.length,by simp,S8 _,h0⟩,?_⟩;rintro i m σ H ⟨rfl,hi,p⟩;have q:=hl i σ H hi p;by_cases hlt:i<xs.length
 ·refine .inr ⟨⟨xs,xs[i],q,by simp[hlt]⟩,Pv (i+1),λσ' H' p'=>⟨xs.length-(i+1),by omega,Z,hlt,p'⟩,λx H' y=>?_⟩;obtain⟨e,y⟩:=y;subst e;exact hs i x σ _ (y xs q) p
 ·have e:i=xs.length:=by omega
  subst e;exact .inl ⟨⟨xs,q,SD _⟩,hd σ H p⟩
theorem cR{lo:Int}{n:Nat}{g:TG}{tb:TS}{D:lM}{σ:St}{H:Hp}(Pv:Nat->St->Hp->Prop)(h0:Pv 0 σ H)
  (hs:∀i σ H,i<n->Pv i σ H->g (.int (lo+i)) σ H λσ2 H2=>tb { D with nx:=Pv (i+1),ct:=Pv (i+1),bk:=D.nx} σ2 H2) (hd:∀σ H,Pv n σ H->D.nx σ H) :
  ∃W:Nat->Nat->St->Hp->Prop,(∃m,W 0 m σ H)/\∀i m σ H,W i m σ H→
   ((EK lo n).stop i H/\D.nx σ H)∨((EK lo n).go i H/\∃N:St->Hp->Prop,(∀σ' H',N σ' H'->∃m',m'<m/\W (i+1) m' σ' H')/\∀x H',(EK lo n).yld i H x H'->g x σ H' λσ2 H2=>tb { D with nx:=N,ct:=N,bk:=D.nx} σ2 H2):=by
 refine⟨λi m σ H=>m=n-i/\i≤n/\Pv i σ H,⟨n,by simp,S8 _,h0⟩,?_⟩;rintro i m σ H ⟨rfl,hi,p⟩;by_cases hlt:i<n
 ·refine .inr ⟨hlt,Pv (i+1),λσ' H' p'=>⟨n-(i+1),by omega,Z,hlt,p'⟩,λx H' y=>?_⟩;obtain⟨e,y⟩:=y;subst e y;exact hs i σ _ hlt p
 ·have e:i=n:=by omega
  subst e;exact .inl ⟨SD _,hd σ H p⟩
end L2
namespace L2
open PySem PySem.Spec PyProof.Rows
abbrev R2:=V->V->Hp->VK->Prop
def iF(X:Cx)(f:Value->Value->Sem Value)(r:R2):Prop:=
 ∀(pins:List (Addr×UU)) (s:SH) (σ:St) (H:Hp) (x y:V) (v u:Value) (Q:VK),Inv X pins σ H s->bK x v->bK y u->r x y H Q→
  Tj (Tp X.prog X.w) X.A (f v u) (EP X pins σ Q) X.xe s
def Op(X:Cx)(f:Value->Sem Value)(r:V->Hp->VK->Prop):Prop:=
 ∀(pins:List (Addr×UU)) (s:SH) (σ:St) (H:Hp) (x:V) (v:Value) (Q:VK),Inv X pins σ H s->bK x v->r x H Q→
  Tj (Tp X.prog X.w) X.A (f v) (EP X pins σ Q) X.xe s
def eM(X:Cx)(f:Value)(r:List V->Hp->VK->Prop):Prop:=
 ∀(pins:List (Addr×UU)) (s:SH) (σ:St) (H:Hp) (xs:List V) (us:List Value) (Q:VK),Inv X pins σ H s->bP xs us->r xs H Q→
  Tj (Tp X.prog X.w) X.A (call f us) (EP X pins σ Q) X.xe s
def RJ(X:Cx)(r:V->Hp->(Bool->Hp->Prop)->Prop):Prop:=
 ∀(pins:List (Addr×UU)) (s:SH) (σ:St) (H:Hp) (x:V) (v:Value) (Q:Bool->Hp->Prop),Inv X pins σ H s->bK x v->r x H Q→
  Tj (Tp X.prog X.w) X.A (truthy v) (TP X pins σ Q) X.xe s
def E4(r:R2)(ta tb:TE):TE:=λσ H Q=>ta σ H λx H1=>tb σ H1 λy H2=>r x y H2 Q
def PN(r:V->Hp->VK->Prop)(ta:TE):TE:=λσ H Q=>ta σ H λx H1=>r x H1 Q
def rI(C:Int->Int->Prop)(g:Int->Int->V):R2:=λx y H Q=>QK x y C λi j=>Q (g i j) H
def Hu(g:Int->Int->V):R2:=λx y H Q=>NV x y λi j=>Q (g i j) H
def rU(g:Int->V):V->Hp->VK->Prop:=λx H Q=>Pw x λi=>Q (g i) H
section
variable {X:Cx}{a b c:TW}{ta tb tc:TE}{pos:Wh}
theorem K8(ha:PE X a ta)(hb:PE X b tb){pins:List (Addr×UU)}{s:SH}{σ:St}{H:Hp}{R:V->V->Hp->Prop}(I:Inv X pins σ H s)
  (h:ta σ H λx H1=>tb σ H1 λy H2=>R x y H2) {Q:Value->SH->Prop} {f:Value->Value->Sem Value}
  (hf:∀v u s2 x y H2,Inv X pins σ H2 s2->bK x v->bK y u->R x y H2->Tj (Tp X.prog X.w) X.A (f v u) Q X.xe s2) :
  Tj (Tp X.prog X.w) X.A (eval a X.env) (λv s₁=>Tj (Tp X.prog X.w) X.A (eval b X.env) (λu s₂=>Tj (Tp X.prog X.w) X.A (f v u) Q X.xe s₂) X.xe s₁) X.xe s:=by
 refine cT (ha pins s σ H _ I h) λv s1 ⟨x,H1,I1,r1,q1⟩=>?_
 refine cT (hb pins s1 σ H1 _ I1 q1) λu s2 ⟨y,H2,I2,r2,q2⟩=>?_
 exact hf v u s2 x y H2 I2 r1 r2 q2
theorem MT(ho:iF X (Wc op) r)(ha:PE X a ta)(hb:PE X b tb):PE X (.BinOp a op b pos) (E4 r ta tb):=by
 intro pins s σ H Q I h;exact wpAny_BinOp (K8 ha hb I h λv u s2 x y H2 I2 rx ry q=>ho pins s2 σ H2 x y v u Q I2 rx ry q)
theorem MS(ho:Op X (unaryOp op) r)(ha:PE X a ta):PE X (.UnaryOp op a pos) (PN r ta):=by
 intro pins s σ H Q I h;exact UnaryOp_ (cT (ha pins s σ H _ I h) λv s1 ⟨x,H1,I1,r1,q1⟩=>ho pins s1 σ H1 x v Q I1 r1 q1)
theorem LK{f:Value->Value->Sem Value}{C:Int->Int->Prop}{g:Int->Int->Int}
  (rule:∀(i j:Int) (t u:Tok) (s:SH) (Q:Value->SH->Prop) (E:Value->SH->Prop),C i j->Q (.int (g i j) s.toks) { s with toks:=s.toks+1}->Tj (Tp X.prog X.w) X.A (f (.int i t) (.int j u)) Q E s) :
  iF X f (rI C λi j=>.int (g i j)):=by
 intro pins s σ H x y v u Q I rx ry h;obtain⟨i,j,rfl,rfl,hc,q⟩:=h;obtain⟨t,rfl⟩:=rx;obtain⟨t',rfl⟩:=ry;exact rule i j t t' s _ _ hc ⟨.int (g i j),H,I.tok _,⟨_,Z⟩,q⟩
theorem M4{f:Value->Value->Sem Value}{g:Int->Int->Int}
  (rule:∀(i j:Int) (t u:Tok) (s:SH) (Q:Value->SH->Prop) (E:Value->SH->Prop),Q (.int (g i j) s.toks) { s with toks:=s.toks+1}->Tj (Tp X.prog X.w) X.A (f (.int i t) (.int j u)) Q E s) :
  iF X f (Hu λi j=>.int (g i j)):=by
 intro pins s σ H x y v u Q I rx ry h;obtain⟨i,j,rfl,rfl,q⟩:=h;obtain⟨t,rfl⟩:=rx;obtain⟨t',rfl⟩:=ry;exact rule i j t t' s _ _ ⟨.int (g i j),H,I.tok _,⟨_,Z⟩,q⟩
theorem Ga{f:Value->Value->Sem Value}{g:Int->Int->Bool}
  (rule:∀(i j:Int) (t u:Tok) (s:SH) (Q:Value->SH->Prop) (E:Value->SH->Prop),Q (.bool (g i j)) s->Tj (Tp X.prog X.w) X.A (f (.int i t) (.int j u)) Q E s) :
  iF X f (Hu λi j=>.bl (g i j)):=by
 intro pins s σ H x y v u Q I rx ry h;obtain⟨i,j,rfl,rfl,q⟩:=h;obtain⟨t,rfl⟩:=rx;obtain⟨t',rfl⟩:=ry;exact rule i j t t' s _ _ ⟨.bl (g i j),H,I,Z,q⟩
def PL(i j:Int):Prop:=0<j/\j<1073741824
def QN(i j:Int):Prop:=j≠0/\j.natAbs<1073741824
def PJ(i j:Int):Prop:=0≤j/\j≤1000000/\i.natAbs<2^64
def Lw(i j:Int):Prop:=(-(2^64)<i/\i<2^64)∨(-(2^64)<j/\j<2^64)
theorem Lw.ok(h:Lw i j):IntMulOk i j:=by
 rcases h with⟨h1,h2⟩ | ⟨h1,h2⟩
 ·exact .of_left (intBits_le_64 h1 h2)
 ·exact .of_right (intBits_le_64 h1 h2)
theorem cX:iF X (Wc .Add) (Hu λi j=>.int (i+j)):=M4 λ_ _ _ _ _ _ _ q=>add_int q
theorem iR:iF X (Wc .Sub) (Hu λi j=>.int (i-j)):=M4 λ_ _ _ _ _ _ _ q=>sub_int q
theorem iS:iF X (Wc .Mult) (rI Lw λi j=>.int (i*j)):=LK λ_ _ _ _ _ _ _ hc q=>mul_int q hc.ok
theorem yG:iF X (Wc .FloorDiv) (rI PL λi j=>.int (i/j)):=LK λi j _ _ _ _ _ hc q=>by
 have h1:(0:Int)<j:=hc.1;have h2:j<1073741824:=hc.2;exact floordiv_int (by omega) (by rw[X0 i (by omega)];exact q) (.inl (YI (by omega)))
theorem hZ:iF X (Wc .Mod) (rI (λ_ j=>0<j) λi j=>.int (i%j)):=LK λi j _ _ _ _ _ hc q=>by
 have h1:(0:Int)<j:=hc;exact mod_int' (by omega) (by rw[Int.fmod_eq_emod_of_nonneg i (by omega)];exact q)
theorem JX:iF X (Wc .Pow) (rI PJ λi j=>.int (i^j.toNat)):=LK λ_ _ _ _ _ _ _ hc q=>pow_int_small hc.1 hc.2.1 hc.2.2 q
theorem QZ{f:Value->Sem Value}{g:Int->Int}
  (rule:∀(i:Int) (t:Tok) (s:SH) (Q:Value->SH->Prop) (E:Value->SH->Prop),Q (.int (g i) s.toks) { s with toks:=s.toks+1}->Tj (Tp X.prog X.w) X.A (f (.int i t)) Q E s) :
  Op X f (rU λi=>.int (g i)):=by
 intro pins s σ H x v Q I rx h;obtain⟨i,rfl,q⟩:=h;obtain⟨t,rfl⟩:=rx;exact rule i t s _ _ ⟨.int (g i),H,I.tok _,⟨_,Z⟩,q⟩
theorem jZ:Op X (unaryOp .USub) (rU λi=>.int (-i)):=QZ λ_ _ _ _ _ q=>neg_int q
end
def Mq:V->V->Bool
 | .non,.non=>true | .non,.int _=>true | .int _,.non=>true | .non,.bl _=>true | .bl _,.non=>true | .non,.str _=>true | .str _,.non=>true
 | .int _,.int _=>true | .bl _,.bl _=>true | .str _,.str _=>true | .byt _,.byt _=>true
 | .int _,.str _=>true | .str _,.int _=>true | .bl _,.str _=>true | .str _,.bl _=>true
 |_,_=>false
def Rw:R2:=λx y H Q=>Mq x y=true/\Q (.bl (decide (x=y))) H
def Rp:R2:=λx y H Q=>Mq x y=true/\Q (.bl (!decide (x=y))) H
theorem yW:decide (V.int i=V.int j)=(i==j):=by
 rw[UG];simp
theorem Es:decide (V.bl i=V.bl j)=(i==j):=by
 rw[UG];simp
theorem yV:decide (V.str i=V.str j)=(i==j):=by
 rw[UG];simp
theorem yX:decide (V.byt i=V.byt j)=(i.toList==j.toList):=by
 rw[UG]
 cases i
 cases j
 simp
section
variable {X:Cx}{a b c:TW}{ta tb tc:TE}{pos:Wh}
theorem ci{pins:List (Addr×UU)}{σ:St}{H:Hp}{s:SH}{Q:VK}{k k':Bool}(I:Inv X pins σ H s)(q:Q (.bl k) H)(e:k=k'):EP X pins σ Q (.bool k') s:=by
 subst e;exact⟨.bl k,H,I,Z,q⟩
theorem jD:iF X (UK .Eq) Rw:=by
 intro pins s σ H x y v u Q I rx ry h;obtain⟨hs,q⟩:=h
 cases x with
 |non=>
  cases rx
  cases y with
  |non=>cases ry;exact PySem.EqNone.eq_none_none (ci I q (by simp))
  |bl j=>cases ry;exact PySem.EqNone.eq_none_bool (ci I q (by simp))
  |int j=>obtain⟨t',rfl⟩:=ry;exact PySem.EqNone.eq_none_int (ci I q (by simp))
  |str j=>obtain⟨t',rfl⟩:=ry;exact PySem.EqNone.eq_none_str (ci I q (by simp))
  |_=>exact absurd (show false=true from hs) Tb
 |bl i=>
  cases rx
  cases y with
  |non=>cases ry;exact PySem.EqNone.eq_bool_none (ci I q (by simp))
  |bl j=>cases ry;exact eq_bool (ci I q Es)
  |str j=>obtain⟨t',rfl⟩:=ry;exact PySem.EqMixed.eq_bool_str (ci I q (by simp))
  |_=>exact absurd (show false=true from hs) Tb
 |int i=>
  obtain⟨t,rfl⟩:=rx
  cases y with
  |non=>cases ry;exact PySem.EqNone.eq_int_none (ci I q (by simp))
  |int j=>obtain⟨t',rfl⟩:=ry;exact eq_int (ci I q yW)
  |str j=>obtain⟨t',rfl⟩:=ry;exact PySem.EqMixed.eq_int_str (ci I q (by simp))
  |_=>exact absurd (show false=true from hs) Tb
 |str i=>
  obtain⟨t,rfl⟩:=rx
  cases y with
  |non=>cases ry;exact PySem.EqNone.eq_str_none (ci I q (by simp))
  |bl j=>cases ry;exact PySem.EqMixed.eq_str_bool (ci I q (by simp))
  |int j=>obtain⟨t',rfl⟩:=ry;exact PySem.EqMixed.eq_str_int (ci I q (by simp))
  |str j=>obtain⟨t',rfl⟩:=ry;exact eq_str (ci I q yV)
  |_=>exact absurd (show false=true from hs) Tb
 |byt i=>
  obtain⟨t,rfl⟩:=rx
  cases y with
  |byt j=>obtain⟨t',rfl⟩:=ry;exact PySem.W.eq_bytes (ci I q yX)
  |_=>exact absurd (show false=true from hs) Tb
 |_=>cases y<;>exact absurd (show false=true from hs) Tb
theorem yF:iF X (UK .NotEq) Rp:=by
 intro pins s σ H x y v u Q I rx ry h;obtain⟨hs,q⟩:=h
 cases x with
 |non=>
  cases rx
  cases y with
  |non=>cases ry;exact PySem.EqNone.ne_none_none (ci I q (by simp))
  |bl j=>cases ry;exact PySem.EqNone.ne_none_bool (ci I q (by simp))
  |int j=>obtain⟨t',rfl⟩:=ry;exact PySem.EqNone.ne_none_int (ci I q (by simp))
  |str j=>obtain⟨t',rfl⟩:=ry;exact PySem.EqNone.ne_none_str (ci I q (by simp))
  |_=>exact absurd (show false=true from hs) Tb
 |bl i=>
  cases rx
  cases y with
  |non=>cases ry;exact PySem.EqNone.ne_bool_none (ci I q (by simp))
  |bl j=>cases ry;exact ne_bool (ci I q (congrArg not Es))
  |str j=>obtain⟨t',rfl⟩:=ry;exact PySem.EqMixed.ne_bool_str (ci I q (by simp))
  |_=>exact absurd (show false=true from hs) Tb
 |int i=>
  obtain⟨t,rfl⟩:=rx
  cases y with
  |non=>cases ry;exact PySem.EqNone.ne_int_none (ci I q (by simp))
  |int j=>obtain⟨t',rfl⟩:=ry;exact ne_int (ci I q (congrArg not yW))
  |str j=>obtain⟨t',rfl⟩:=ry;exact PySem.EqMixed.ne_int_str (ci I q (by simp))
  |_=>exact absurd (show false=true from hs) Tb
 |str i=>
  obtain⟨t,rfl⟩:=rx
  cases y with
  |non=>cases ry;exact PySem.EqNone.ne_str_none (ci I q (by simp))
  |bl j=>cases ry;exact PySem.EqMixed.ne_str_bool (ci I q (by simp))
  |int j=>obtain⟨t',rfl⟩:=ry;exact PySem.EqMixed.ne_str_int (ci I q (by simp))
  |str j=>obtain⟨t',rfl⟩:=ry;exact ne_str (ci I q (congrArg not yV))
  |_=>exact absurd (show false=true from hs) Tb
 |byt i=>
  obtain⟨t,rfl⟩:=rx
  cases y with
  |byt j=>obtain⟨t',rfl⟩:=ry;exact PySem.W.ne_bytes (ci I q (congrArg not yX))
  |_=>exact absurd (show false=true from hs) Tb
 |_=>cases y<;>exact absurd (show false=true from hs) Tb
theorem mG:iF X (UK .Lt) (Hu λi j=>.bl (decide (i<j))):=Ga λ_ _ _ _ _ _ _ q=>lt_int q
theorem qo:iF X (UK .LtE) (Hu λi j=>.bl (decide (i≤j))):=Ga λ_ _ _ _ _ _ _ q=>le_int q
theorem iT:iF X (UK .Gt) (Hu λi j=>.bl (decide (j<i))):=Ga λ_ _ _ _ _ _ _ q=>gt_int q
theorem Dp:iF X (UK .GtE) (Hu λi j=>.bl (decide (j≤i))):=Ga λ_ _ _ _ _ _ _ q=>ge_int q
theorem yE:iF X (UK .IsNot) (λx y H Q=>y=.non/\Q (.bl (!decide (x=.non))) H):=by
 intro pins s σ H x y v u Q I rx ry h;obtain⟨rfl,q⟩:=h
 cases ry
 refine isnot_none_gen (ci I q ?_)
 cases x<;>first
  | (cases rx;rfl)
  | (obtain⟨t,rfl⟩:=rx;rfl)
def Qm:HO->Bool
 | .lst _=>true
 | .ins _ _ _=>true
 |_=>false
theorem bB(b:TW){op:CmpOp}(h:op≠.In:=by decide)(h2:op≠.NotIn:=by decide):WI op b=false:=by
 have e1:(op==CmpOp.In)=false:=by cases op<;>first|rfl|exact absurd Z h
 have e2:(op==CmpOp.NotIn)=false:=by cases op<;>first|rfl|exact absurd Z h2
 cases b<;>simp[WI,e1,e2]
theorem F1(ho:iF X (UK op) r)(ha:PE X a ta)(hb:PE X b tb)(hm:WI op b=false):PE X (.Compare a [op] [b] pos) (E4 r ta tb):=by
 intro pins s σ H Q I h;exact wpAny_Compare1 (K8 ha hb I h λv u s2 x y H2 I2 rx ry q=>ho pins s2 σ H2 x y v u Q I2 rx ry q) hm
def Hb(t:TE):TT:=λσ H Q=>t σ H λx H'=>LQ x λk=>Q k H'
theorem FC(ho:iF X (UK op) r)(ha:PE X a ta)(hb:PE X b tb)(hm:WI op b=false):PT X (.Compare a [op] [b] pos) (Hb (E4 r ta tb)):=by
 intro pins s σ H Q I h;refine wpAny_isTrue_Compare1 (cT (ha pins s σ H _ I h) λv s1 ⟨x,H1,I1,r1,q1⟩=>cT (hb pins s1 σ H1 _ I1 q1) λu s2 ⟨y,H2,I2,r2,q2⟩=>
  cT (ho pins s2 σ H2 x y v u _ I2 r1 r2 q2) λc s3 ⟨z,H3,I3,r3,k,e,q3⟩=>?_) hm
 subst e
 cases r3
 exact Vr ⟨H3,I3,q3⟩
def Ba(r r':R2)(ta tb tc:TE):TE:=λσ H Q=>ta σ H λx H1=>tb σ H1 λy H2=>r x y H2 λz H3=>∃k,z=.bl k∧
 (if k=true then tc σ H3 λw' H4=>r' y w' H4 Q else Q (.bl false) H3)
theorem Dl{op op':CmpOp}{r r':R2}(ho:iF X (UK op) r)(ho':iF X (UK op') r')(ha:PE X a ta)(hb:PE X b tb)(hc:PE X c tc)
  (hm:lastMarks [op,op'] [b,c]=false:=by with_unfolding_all rfl):PE X (.Compare a [op,op'] [b,c] pos) (Ba r r' ta tb tc):=by
 intro pins s σ H Q I h;refine Compare_chain (cT (ha pins s σ H _ I h) λv s1 ⟨x,H1,I1,r1,q1⟩=>chain_link (cT (hb pins s1 σ H1 _ I1 q1) λu s2 ⟨y,H2,I2,r2,q2⟩=>
  cT (ho pins s2 σ H2 x y v u _ I2 r1 r2 q2) λd s3 ⟨z,H3,I3,r3,k,e,q3⟩=>?_)) hm
 subst e
 cases r3
 refine Vr ?_
 cases k with
 |false=>exact ite_ff ⟨.bl false,H3,I3,Z,q3⟩
 |true=>exact ite_tt (chain_last (cT (hc pins s3 σ H3 _ I3 q3) λw' s4 ⟨z',H4,I4,r4,q4⟩=>ho' pins s4 σ H4 y z' u w' Q I4 r2 r4 q4))
def RI(K:Sy)(x:V)(H:Hp)(k:Bool):Prop:=
 match x with
 | .non=>k=false
 | .bl b=>k=b
 | .int i=>k=(i != 0)
 | .str y=>y.length≤sizeLine/\k=((y.length:Int) != 0)
 | .byt y=>y.size≤sizeLine/\k=((y.size:Int) != 0)
 | .ref p=>(∃xs,bu K H p xs/\k=!xs.isEmpty)∨(∃xs,bV K H p xs/\k=!xs.isEmpty)∨∃kvs,H p=some (.dK kvs)/\k=!kvs.isEmpty
 |_=>False
theorem ma:(sizeLine:Nat)<2^63:=by rw[WU];decide
def NK(b:TW):Prop:=∀o i,Yc b false o i=operate [o,i] (W4 o i)
theorem ij(r:bP [x] us):∃u,us=[u]/\bK x u:=by
 cases r with
 |cons r1 r2=>cases r2;exact⟨_,Z,r1⟩
theorem AX(r:bP [x,y] us):∃u w',us=[u,w']/\bK x u/\bK y w':=by
 cases r with
 |cons r1 r2=>
  cases r2 with
  |cons r3 r4=>cases r4;exact⟨_,_,Z,r1,r3⟩
theorem o9:eM X (.builtin "abs") (λxs H Q=>∃i,xs=[.int i]/\Q (.int (if i<0 then -i else i)) H):=by
 intro pins s σ H xs us Q I r h;obtain⟨i,rfl,q⟩:=h;obtain⟨u,rfl,t,rfl⟩:=ij r;exact call_abs_int λu tk=>⟨.int (if i<0 then -i else i),H,I.tok _,⟨_,Z⟩,q⟩
def RQ(K:Sy)(x:V)(H:Hp)(n:Nat):Prop:=
 match x with
 | .str y=>y.length≤sizeLine/\n=y.length
 | .byt y=>y.size≤sizeLine/\n=y.size
 | .ref p=>(∃xs,bu K H p xs/\n=xs.length)∨∃xs,bV K H p xs/\n=xs.length
 |_=>False
end
end L2
namespace L2
open PySem PySem.Spec PyProof.Rows
structure xJ(h:SY)(x dx C:Addr)(mA:TB->Option Value):Prop where
 obj:h.get? x=some (Vu C dx)
 ns:h.Ns1 dx mA
 ne:dx≠x
theorem Ag{h:SY}(n:h.Ns1 dx mA):∃od,h.get? dx=some od/\∀name,X1 name od=some (mA name):=by
 obtain⟨o,es,ep,ho,hd,hk,_,hm⟩:=n;refine⟨o,ho,λname=>?_⟩;have e:=hm name;unfold nsFind findBy at e;rw[←Array.find?_toList] at e;unfold X1;rw[hd];dsimp only
 split
 ·rename_i y q;rw[q] at e;exact congrArg some e
 ·rename_i q;rw[q] at e;have a:es.toList.any (·.refKey)=false:=by
   rw[ZZ];intro y hy;obtain⟨z,t,hkey⟩:=hk y (Array.mem_toList_iff.mp hy);simp[aas.refKey,hkey]
  have a':¬es.toList.any (·.refKey)=true:=by rw[a];exact Tb
  rw[if_neg a'];exact congrArg some e
theorem xJ.look(I:xJ h x dx C mA):∃od,PySem.W.InstAt h x (Vu C dx) C (some od)/\∀name,X1 name od=some (mA name):=
 let ⟨od,ho,hl⟩:=Ag I.ns
 ⟨od,⟨I.obj,Z,Z,ho⟩,hl⟩
section
variable {prog:Tx}{w:T9}{A:TV}{E:Value->SH->Prop}{s:SH}{K:Sy}{x dx C f:Addr}{mA:TB->Option Value}{name:TB}{v:Value}
theorem GB(X:K.In s.heap)(I:xJ s.heap x dx C mA)(hg:Xn K C name=true)(hh:Xb K C=true)
  (ha:Uh K (.ref C) name=some none) (hv:mA name=some v) (hv':aat v=true) (h:Q v { s with toks:=s.toks+1}):
  Tj (Tp prog w) A (getAttr (.ref x) name expr) Q E s:=by
 obtain⟨od,J,hl⟩:=I.look;exact PySem.W.get_value X J (XO hg).1 (PySem.W.findObj_own hh ha Z (by rw[hl,hv])) hv' h
theorem Ed(X:K.In s.heap)(I:xJ s.heap x dx C mA)(hg:Xn K C name=true)
  (hf:Uh K (.ref C) name=some (some (.ref f))) (ht:XS K (.ref f)=true) (hv:mA name=none) (h:Q (.ref f,[.ref x]) s):
  Tj (Tp prog w) A (Yt (.ref x) name pl) Q E s:=by
 obtain⟨od,J,hl⟩:=I.look;exact PySem.W.method_fn X J (XO hg).1 (XO hg).2 hf (beq_iff_eq.mp ht) (by show(X1 name od).map (·.isSome)=some false;rw[hl,hv];rfl) h
theorem Fj(X:K.In s.heap)(I:xJ s.heap x dx C mA)
  (hs:Uh K (.ref C) "__setattr__"=some (some (.builtin "object.__setattr__"))) (hp:Z0 K C=true) (ht:Y1 K C name=some none) (hh:Xb K C=true)
  (hw:YE mA ns) (hsz:ns.length≤sizeLine)
  (h:∀h',xJ h' x dx C (λy=>if y=name then some v else mA y)->Wa dx s.heap h'->Q () { s with heap:=h',toks:=s.toks+2}):
  Tj (Tp prog w) A (setAttr (.ref x) name v) Q E s:=by
 obtain⟨od,J,hl⟩:=I.look;refine PySem.W.set_plain X J hs (PySem.W.osa_open (s:={ s with toks:=s.toks+1}) (r:=none) X J hp ht λb=>?_);obtain⟨cd,hc,hd'⟩:=PySem.W.any_some hh;have hx:s.heap.get? x=some ⟨.ref C,some dx,.plain,#[]⟩:=I.obj;refine SL (wpAny_pure (SL (SL (wpAny_loadPart hx (SL (PySem.W.Looks.here (s:={ s with toks:=s.toks+1}) (PySem.W.looks_clsIn X hc) ?_))))));rw[hd'];refine wpAny_pure (a:=some dx) (SL (wpAny_pure (SL ?_)));refine wpAny_nsSet1 (s:={ s with toks:=s.toks+1}) I.ns λh' hn2 hs2=>?_
 obtain⟨oD,esD,epD,hoD,hdD,hcD⟩:=hn2.count (YE.cons name v hw);refine SL (wpAny_lookBehind hoD (by rw[hdD];exact pastItsLine_dict (Tu hcD (by rw[Tv];omega))) ?_);exact wpAny_pure (h _ ⟨(hs2.2 _ (V9 I.ne)).trans I.obj,hn2,I.ne⟩ hs2)
theorem DO(X:K.In s.heap)(hm:aaL K C=true)
  (hi:Uh K (.ref C) "__init__"=some (some (.ref f))) (hf:aaY K (.ref f)=some (.type "function"))
  (h:XT (Tp prog w) (A.under (.builtin "type.__call__" ⟨.ref C:: vs,kw⟩)) (.call (.ref f) ⟨.ref (s.heap.objs.size+1):: vs,kw⟩) (PySem.W.InitBack (s.heap.objs.size+1) R)
   { s with heap:=(s.heap.push UT).push (Vu C s.heap.objs.size)}):
  XT (Tp prog w) A (.call (.ref C) ⟨vs,kw⟩) R s:=by
 obtain⟨hh,g,d,t,os⟩:=s;exact PySem.W.make_core (PySem.W.makes_of X hm) (PySem.W.looks_findIn X hi) (λself=>PySem.W.bind_fn X self hf) (.inl Z) h
end
def iE(f:TB)(v:V):List (TB×V)->List (TB×V)
 | []=>[(f,v)]
 | (g,x)::r=>if g=f then(g,v)::r else(g,x)::iE f v r
theorem mI(f g:TB)(v:V):∀fs:List (TB×V),(iE f v fs).lookup g=if g=f then some v else fs.lookup g
 | []=>by
  show WV g [(f,v)]=_;by_cases h:g=f
  ·have hb:(g==f)=true:=beq_iff_eq.mpr h;simp only[WV,hb,if_pos h]
  ·have hb:(g==f)=false:=beq_eq_false_iff_ne.mpr h;simp only[WV,hb,if_neg h]
 | (k,x)::r=>by
  have ih:=mI f g v r;rw[show iE f v ((k,x)::r)=(if k=f then(k,v)::r else(k,x)::iE f v r) from Z];by_cases hk:k=f
  ·rw[if_pos hk];by_cases h:g=k
   ·have hb:(g==k)=true:=beq_iff_eq.mpr h;simp only[WV,hb,if_pos (h.trans hk)]
   ·have hb:(g==k)=false:=beq_eq_false_iff_ne.mpr h;simp only[WV,hb,if_neg (λe:g=f=>h (e.trans hk.symm))]
  ·rw[if_neg hk];by_cases h:g=k
   ·have hb:(g==k)=true:=beq_iff_eq.mpr h;simp only[WV,hb,if_neg (λe:g=f=>hk (h.symm.trans e))]
   ·have hb:(g==k)=false:=beq_eq_false_iff_ne.mpr h;simp only[WV,hb];exact ih
theorem mf(f:TB)(v:V):∀fs:List (TB×V),f∈(iE f v fs).map (·.1)/\∀g,g∈fs.map (·.1)->g∈(iE f v fs).map (·.1)
 | []=>⟨by simp[iE],λg h=>by simp at h⟩
 | (k,x)::r=>by
  obtain⟨i1,i2⟩:=mf f v r;rw[show iE f v ((k,x)::r)=(if k=f then(k,v)::r else(k,x)::iE f v r) from Z];by_cases hk:k=f
  ·rw[if_pos hk];subst hk;exact⟨by simp,λg h=>by simpa using h⟩
  ·rw[if_neg hk];refine⟨?_,λg h=>?_⟩
   ·rw[TZ];exact SQ _ i1
   ·rw[TZ] at h ⊢;rcases S6.mp h with e|e
    ·exact S6.mpr (.inl e)
    ·exact SQ _ (i2 g e)
theorem mJ(f:TB)(v:V):∀fs:List (TB×V),(iE f v fs).length≤fs.length+1
 | []=>by simp[iE]
 | (k,x)::r=>by
  have ih:=mJ f v r;rw[show iE f v ((k,x)::r)=(if k=f then(k,v)::r else(k,x)::iE f v r) from Z];by_cases hk:k=f
  ·rw[if_pos hk,Tv,Tv];omega
  ·rw[if_neg hk,Tv,Tv];omega
theorem ie.some_of(r:ie (some v) o):∃u,o=some u/\bK v u:=by
 cases o with
 |none=>exact(show False from r).elim
 |some u=>exact⟨u,Z,r⟩
theorem ie.none_of(r:ie none o):o=none:=by
 cases o with
 |none=>rfl
 |some u=>exact(show False from r).elim
theorem As(r:bK v u):aat u=true:=by
 cases v with
 |non=>cases(show u=VC from r);rfl
 |bl b=>cases(show u=V7 b from r);rfl
 |int i=>obtain⟨t,e⟩:=(show ∃t,u=VZ i t from r);cases e;rfl
 |str x=>obtain⟨t,e⟩:=(show ∃t,u=XX x t from r);cases e;rfl
 |byt b=>obtain⟨t,e⟩:=(show ∃t,u=Value.bytes b t from r);cases e;rfl
 |flt b=>obtain⟨t,e⟩:=(show ∃t,u=aaA b t from r);cases e;rfl
 |ref a=>cases(show u=TF a from r);rfl
 |ty n=>cases(show u=WN n from r);rfl
section
variable {P:Tx}{w:T9}{H H':Hp}{h h':SY}{a C dx:Addr}{fs fs':List (TB×V)}
theorem nA(hok:jT P w H h)(e:H a=some (.ins C dx fs)):∃mA,xJ h a dx C mA/\(∀f,ie (fs.lookup f) (mA f))/\YE mA (fs.map (·.1))/\fs.length≤1000/\H dx=some (.own a):=by
 obtain⟨d,z,ne,ob,mA,n,r,q⟩:=(show cG P w H h a (.ins C dx fs) from hok a _ e);exact⟨mA,⟨ob,n,ne⟩,r,q,z,d⟩
end
structure xP(K:Sy)(C:Addr):Prop where
 pg:Xn K C TB.empty=true
 hd:Xb K C=true
 po:Z0 K C=true
 sa:Uh K (.ref C) "__setattr__"=some (some (.builtin "object.__setattr__"))
theorem xP.get{K:Sy}{C:Addr}(c:xP K C)(f:TB):Xn K C f=true:=c.pg
def eY(K:Sy)(C:Addr)(f:TB):Prop:=Uh K (.ref C) f=some none
theorem eY.taker{K:Sy}{C:Addr}{f:TB}(n:eY K C f):Y1 K C f=some none:=by
 unfold Y1;rw[show Uh K (.ref C) f=some none from n];rfl
structure R4(K:Sy)(C:Addr)(f:TB)(v:V)(u:Value):Prop where
 at_:Uh K (.ref C) f=some (some u)
 rel:bK v u
 get:Yd K u "__get__"=some none
 cp:PySem.W.copiedNames.contains f=false
structure vH(K:Sy)(C:Addr)(m:TB)(f:Addr):Prop where
 at_:Uh K (.ref C) m=some (some (.ref f))
 fn:XS K (.ref f)=true
 kp:U8 K (.ref f)=true
section
variable {X:Cx}{pins:List (Addr×UU)}{σ:St}{H:Hp}{s:SH}{a C dx:Addr}{fs:List (TB×V)}{f:TB}{v:V}{A:TV}{E:Value->SH->Prop}
theorem oU(I:Inv X pins σ H s)(e:H a=some (.ins C dx fs))(c:xP X.K C)(n:eY X.K C f)(l:fs.lookup f=some v)
  (h:∀u s',Inv X pins σ H s'->bK v u->Q u s'):Tj (Tp X.prog X.w) A (getAttr (.ref a) f b) Q E s:=by
 obtain⟨mA,O,r,_,_,_⟩:=nA I.hok e;obtain⟨u,hu,ru⟩:=ie.some_of (v:=v) (o:=mA f) (by rw[←l];exact r f);exact GB I.kIn O (c.get f) c.hd n hu (As ru) (h u _ (I.tok _) ru)
theorem oS(I:Inv X pins σ H s)(e:H a=some (.ins C dx fs))(c:xP X.K C)(k:vH X.K C m g)(l:fs.lookup m=none)
  (h:Q (.ref g,[.ref a]) s):Tj (Tp X.prog X.w) A (Yt (.ref a) m pl) Q E s:=by
 obtain⟨mA,O,r,_,_,_⟩:=nA I.hok e;have hn:mA m=none:=ie.none_of (by rw[←l];exact r m);exact Ed I.kIn O (c.get m) k.at_ k.fn hn h
theorem n9(I:Inv X pins σ H s)(e:H a=some (.ins C dx fs))(c:xP X.K C)(n:eY X.K C f)(hl:fs.length<1000)(ry:bK y u)
  (h:∀s',Inv X pins σ (aO H a (.ins C dx (iE f y fs))) s'->Q () s'):Tj (Tp X.prog X.w) A (setAttr (.ref a) f u) Q E s:=by
 obtain⟨mA,O,r,wi,_,ho⟩:=nA I.hok e;have hz:(fs.map (·.1)).length≤sizeLine:=by rw[SE,WU];omega
 refine Fj I.kIn O c.sa c.po n.taker c.hd wi hz λh' O' sb=>h _ ?_
 have hd:∃o,h'.get? dx=some o:=let ⟨o,_,_,e',_⟩:=O'.ns;⟨o,e'⟩;refine I.write (x:=a) (e:=dx) (by rw[e];exact Vh) (.inr ho) (λb q hb z=>(sb.2 b hb).trans z) hd ?_;refine⟨by rw[aA O.ne];exact ho,?_,O.ne,O'.obj,_,O'.ns,λg=>?_,λg hg=>?_⟩
 ·have:=mJ f y fs;omega
 ·show ie ((iE f y fs).lookup g) (if g=f then some u else mA g);rw[mI];by_cases q:g=f
  ·rw[if_pos q,if_pos q];exact ry
  ·rw[if_neg q,if_neg q];exact r g
 ·by_cases q:g=f
  ·rw[q];exact(mf f y fs).1
  ·refine(mf f y fs).2 g (wi g λz=>hg ?_);show(if g=f then some u else mA g)=none;rw[if_neg q];exact z
theorem Inv.made(I:Inv X pins σ H s):Inv X pins σ (aO (aO H s.heap.objs.size (.own (s.heap.objs.size+1))) (s.heap.objs.size+1) (.ins C s.heap.objs.size []))
  { s with heap:=(s.heap.push UT).push (Vu C s.heap.objs.size)}:=by
 have e1:(s.heap.push UT).get? s.heap.objs.size=some UT:=Tg s.heap Z;have e2:((s.heap.push UT).push (Vu C s.heap.objs.size)).get? (s.heap.objs.size+1)=some (Vu C s.heap.objs.size):=by
  have:=Tg (s.heap.push UT) (o:=Vu C s.heap.objs.size) Z
  rwa [VF] at this
 have e3:(s.heap.push UT).Ns s.heap.objs.size (λ_=>none):=⟨UT,#[],_,e1,Z,(λe he=>absurd he (by simp)),λ_=>Z⟩;have I1:=I.laid (a:=s.heap.objs.size) (o:=.own (s.heap.objs.size+1)) (h':=s.heap.push UT) (t':=s.toks) (λb u q=>SK _ q) (SD _) ⟨_,e1⟩;refine I1.laid (a:=s.heap.objs.size+1) (o:=.ins C s.heap.objs.size []) (t':=s.toks) (λb u q=>SK _ q) (Xc (VF _ _)) ?_;have ne:s.heap.objs.size≠s.heap.objs.size+1:=Uj (Xo _);refine⟨by rw[aA ne,ai],S8 _,ne,e2,λ_=>none,(SY.Ns1.of_empty e3).at λo q=>SK _ q,λ_=>Vh,λy hy=>absurd Z hy⟩
theorem GQ(hb:Vz e f env (eval e env)=eval e env)
  (h:Tj (Tp prog w) A (eval e env) (λo s₁=>Tj (Tp prog w) A (getAttr o f true) Q E s₁) E s):Tj (Tp prog w) A (eval (.Attribute e f pos) env) Q E s:=
 Attribute_any_ h (by rw[arm_eval_Attribute,hb])
end
inductive NW(K:Sy)(H:Hp)(x:V)(f:TB)(Q:V->Prop):Prop where
 |mk (a C dx:Addr) (fs:List (TB×V)) (v:V) (e:x=.ref a) (h:H a=some (.ins C dx fs)) (c:xP K C) (n:eY K C f) (l:fs.lookup f=some v) (k:Q v):NW K H x f Q
def Me(K:Sy)(ta:TE)(f:TB):TE:=λσ H Q=>ta σ H λx H1=>NW K H1 x f λv=>Q v H1
def Rb(K:Sy)(ta:TE)(f:TB):TE:=λσ H Q=>ta σ H λx H1=>∃a C dx fs v u,x=.ref a/\H1 a=some (.ins C dx fs)/\xP K C/\R4 K C f v u/\fs.lookup f=none/\Q v H1
def Mx(K:Sy)(ta tv:TE)(f:TB):TS:=λD σ H=>tv σ H λy H1=>ta σ H1 λx H2=>∃a C dx fs,x=.ref a/\H2 a=some (.ins C dx fs)/\xP K C/\eY K C f/\fs.length<1000∧
 D.nx σ (aO H2 a (.ins C dx (iE f y fs)))
def Lr(X:Cx)(op:Zb)(rd:V->V->Hp->VK->Prop):Prop:=
 ∀(pins:List (Addr×UU)) (s:SH) (σ:St) (H:Hp) (x y:V) (u v:Value) (Q:VK),Inv X pins σ H s->bK x u->bK y v->rd x y H Q->Tj (Tp X.prog X.w) X.A (inplaceOp op u v) (EP X pins σ Q) X.xe s
def yk(K:Sy)(ta tv:TE)(rd:V->V->Hp->VK->Prop)(f:TB):TS:=λD σ H=>ta σ H λx H1=>∃a C dx fs v,x=.ref a/\H1 a=some (.ins C dx fs)/\xP K C/\eY K C f/\fs.lookup f=some v∧
 tv σ H1 λy H2=>rd v y H2 λz H3=>∃dx' fs',H3 a=some (.ins C dx' fs')/\fs'.length<1000/\D.nx σ (aO H3 a (.ins C dx' (iE f z fs')))
section
variable {X:Cx}{o e value:TW}{f:TB}{pos pos' tpos:Wh}{ta tv:TE}
theorem JU(he:PE X e ta)(hb:Vz e f X.env (eval e X.env)=eval e X.env):PE X (.Attribute e f pos) (Me X.K ta f):=by
 intro pins s σ H Q I h;refine GQ hb (cT (he pins s σ H _ I h) λu s1 ⟨x,H1,I1,rx,a,C,dx,fs,v,ex,ea,c,n,l,q⟩=>?_);subst ex;obtain rfl:u=TF a:=rx;exact oU I1 ea c n l λu' s2 I2 ru=>⟨v,H1,I2,ru,q⟩
theorem JG(ha:PE X o ta)(hv:PE X value tv)(hs:V1 value (some (.Attribute o f pos')) pos.line X.env=Vd false):PS X (.Assign [.Attribute o f pos'] value pos) (Mx X.K ta tv f):=by
 intro pins s σ H D I h;refine plainObj_wpAny_Assign_Attribute (cT (hv pins s σ H _ I h) λu s1 ⟨y,H1,I1,ry,q⟩=>cT (ha pins s1 σ H1 _ I1 q) λov s2 ⟨x,H2,I2,rx,a,C,dx,fs,ex,ea,c,n,l,q2⟩=>?_) hs;subst ex;obtain rfl:ov=TF a:=rx;exact n9 I2 ea c n l ry λs3 I3=>⟨σ,_,I3,q2⟩
theorem zY(ha:PE X o ta)(hv:PE X value tv)(hop:Lr X op rd):PS X (.AugAssign (.Attribute o f tpos) op value pos) (yk X.K ta tv rd f):=by
 intro pins s σ H D I h;refine wpAny_AugAssign_AttributeAny (cT (ha pins s σ H _ I h) λov s1 ⟨x,H1,I1,rx,a,C,dx,fs,v,ex,ea,c,n,l,q⟩=>?_);subst ex;obtain rfl:ov=TF a:=rx;refine oU I1 ea c n l λu s2 I2 ru=>cT (hv pins s2 σ H1 _ I2 q) λw3 s3 ⟨y,H2,I3,ry,q3⟩=>cT (hop pins s3 σ H2 v y u w3 _ I3 ru ry q3) λw4 s4 ⟨z,H3,I4,rz,dx',fs',ea',l',q4⟩=>?_
 exact n9 I4 ea' c n l' rz λs5 I5=>⟨σ,_,I5,q4⟩
def OR:V->V->Hp->VK->Prop:=λx y H Q=>NV x y λi j=>Q (.int (i+j)) H
def Rj:V->V->Hp->VK->Prop:=λx y H Q=>NV x y λi j=>Q (.int (i-j)) H
theorem KU:Lr X .Add OR:=by
 rintro pins s σ H x y u v Q I rx ry ⟨i,j,rfl,rfl,q⟩;obtain⟨t,rfl⟩:=(show ∃t,u=VZ i t from rx);obtain⟨t',rfl⟩:=(show ∃t',v=VZ j t' from ry);exact PyProof.Rows.iadd_int ⟨.int (i+j),H,I.tok _,⟨_,Z⟩,q⟩
end
section
variable {X:Cx}{pins:List (Addr×UU)}{σ:St}{H:Hp}{s:SH}{A:TV}{E:Value->SH->Prop}{Q:Value->SH->Prop}{c:Value}{b:Bool}
inductive mD(K:Sy)(H:Hp):V->Value->Prop where
 |non:mD K H .non (.type "NoneType")
 |bl (x:Bool):mD K H (.bl x) (.type "bool")
 |int (i:Int):mD K H (.int i) (.type "int")
 |str (x:TB):mD K H (.str x) (.type "str")
 |flt (x:UInt64):mD K H (.flt x) (.type "float")
 |lst {a:Addr} {xs:List V} (e:H a=some (.lst xs)):mD K H (.ref a) (.type "list")
 |frz {a:Addr} {o:UU} {xs:List V} (e:H a=some (.frz o (.lst xs))):mD K H (.ref a) (.type "list")
 |tup {a:Addr} {xs:List V} (e:H a=some (.tup xs)):mD K H (.ref a) (.type "tuple")
 |dK {a:Addr} {kvs:List (cW×V)} (e:H a=some (.dK kvs)):mD K H (.ref a) (.type "dict")
 |dT {a:Addr} {kvs:List (List cW×V)} (e:H a=some (.dT kvs)):mD K H (.ref a) (.type "dict")
 |ins {a C dx:Addr} {fs:List (TB×V)} (e:H a=some (.ins C dx fs)) (cl:xP K C) (ha:Uh K (.ref C) "__class__"=some (some (.builtin "object.__class__")))
   (hn:Yd K (.builtin "object.__class__") "__get__"=some (some (.builtin "getset_descriptor.__get__"))) (htk:aaM K (.builtin "object.__class__")=some true)
   (hm:PySem.W.mroIn K C (.type "object")=some true):mD K H (.ref a) (.ref C)
theorem Ao(I:Inv X pins σ H s)(rx:bK x u)(ty:mD X.K H x t)(e:Ws X.K t c=some b)(h:∀tk,Q (.bool b) { s with toks:=tk}):
  Tj (Tp X.prog X.w) A (call (.builtin "isinstance") [u,c]) Q E s:=by
 cases ty with
 |non=>cases(show u=VC from rx);exact Uy PySem.W.kitx_none I.kIn Vh e (λz=>nomatch z) h
 |bl y=>cases(show u=V7 y from rx);exact Uy PySem.W.kitx_bool I.kIn Vh e (λz=>nomatch z) h
 |int i=>obtain⟨t,q⟩:=(show ∃t,u=VZ i t from rx);cases q;exact Uy PySem.W.kitx_int I.kIn Vh e (λz=>nomatch z) h
 |str y=>obtain⟨t,q⟩:=(show ∃t,u=XX y t from rx);cases q;exact Uy PySem.W.kitx_str I.kIn Vh e (λz=>nomatch z) h
 |flt y=>obtain⟨t,q⟩:=(show ∃t,u=aaA y t from rx);cases q;exact Uy PySem.W.kitx_float I.kIn Vh e (λz=>nomatch z) h
 | @lst a xs ea=>
  cases(show u=TF a from rx)
  obtain⟨_,_,n,_,h1⟩:=(show cG X.prog X.w H s.heap a (.lst xs) from I.hok a _ ea);exact Uy Ye I.kIn ⟨_,h1,Z⟩ e (λz=>nomatch z) h
 | @frz a ob xs ea=>
  cases(show u=TF a from rx)
  obtain⟨_,_,_,n,_,h1⟩:=(show cG X.prog X.w H s.heap a (.frz ob (.lst xs)) from I.hok a _ ea);exact Uy Ye I.kIn ⟨_,h1,Z⟩ e (λz=>nomatch z) h
 | @tup a xs ea=>
  cases(show u=TF a from rx)
  obtain⟨_,_,_,p⟩:=(show cG X.prog X.w H s.heap a (.tup xs) from I.hok a _ ea);obtain⟨o,h1,h2,_⟩:=p;exact Uy ZN I.kIn ⟨o,h1,h2⟩ e (λz=>nomatch z) h
 | @dK a kvs ea=>
  cases(show u=TF a from rx)
  obtain⟨_,_,vs,_,p⟩:=(show cG X.prog X.w H s.heap a (.dK kvs) from I.hok a _ ea);obtain⟨o,es,ep,h1,h2,_⟩:=p;exact Uy Z1 I.kIn ⟨o,h1,h2.1⟩ e (λz=>nomatch z) h
 | @dT a kvs ea=>
  cases(show u=TF a from rx)
  obtain⟨_,_,xs,_,o,es,ep,h1,h2,_⟩:=(show cG X.prog X.w H s.heap a (.dT kvs) from I.hok a _ ea);exact Uy Z1 I.kIn ⟨o,h1,h2.1⟩ e (λz=>nomatch z) h
 | @ins a C dx fs ea cl ha hn htk hm=>
  cases(show u=TF a from rx)
  obtain⟨mA,O,_⟩:=nA I.hok ea;obtain⟨od,J,_⟩:=O.look;exact Uy (PySem.W.kitx_own (cl.get _) cl.hd ha hn htk hm) I.kIn J e (λz=>nomatch z) h
end
end L2
namespace L2
open PySem PySem.Spec PyProof.Rows
structure dX(k:Nat)(A:TV):Prop where
 hd:A.handled=none
 dp:A.depth+3*k+5<recursionLimit
 un:A.units+16*k+200<cLine
 gd:A.guards=some []
theorem dX.mono(r:dX k A)(h:j≤k):dX j A:=⟨r.hd,by have:=r.dp;omega,by have:=r.un;omega,r.gd⟩
theorem dX.deeper(r:dX (k+1) A)(env:Env):dX k (A.deeper env):=
 ⟨r.hd,by have:=r.dp;show A.depth+1+3*k+5<_;omega,by have:=r.un;show A.units+3+16*k+200<_;omega,r.gd⟩
theorem wS{A:TV}:(A.under (.builtin "type.__call__" ⟨.ref C:: us,kw⟩)).depth=A.depth+1:=by
 first|rfl|simp[YJ,Code.weight,Code.isCreation,Code.isGuard,Code.isCaller,Code.frames,Z2,guardIds]
theorem wR{A:TV}:(A.under (.builtin "type.__call__" ⟨.ref C:: us,kw⟩)).units=A.units+1:=by
 first|rfl|simp[YJ,Code.cUnits,Code.frames,Z2]
theorem u4{A:TV}:(A.under (.builtin "type.__call__" ⟨.ref C:: us,kw⟩)).guards=A.guards:=by
 first|rfl|simp[YJ,Code.guards,Code.isGuard,guardIds,pushGuards]
theorem dX.make(r:dX (k+1) A)(C:Addr)(us:List Value)(kw:List (TB×Value)):dX k (A.under (.builtin "type.__call__" ⟨.ref C:: us,kw⟩)):=
 ⟨r.hd,by have:=r.dp;rw[wS];omega,by have:=r.un;rw[wR];omega,by rw[u4];exact r.gd⟩
theorem dX.depth(r:dX k A):A.depth<recursionLimit:=by have:=r.dp;omega
theorem dX.units(r:dX k A):A.units+64<cLine:=by have:=r.un;omega
def zF:TA:=λ_ H Q=>Q [] H
def Hl(ta:TE)(tr:TA):TA:=λσ H Q=>ta σ H λx H1=>tr σ H1 λxs H2=>Q (x::xs) H2
section
variable {X:Cx}{e:TW}{es:List TW}{te:TE}{t:TA}{pos:Wh}
theorem JW:PA X [] zF:=λ_ _ _ _ H Q I h=>Calls.spliced_nil ⟨[],H,I,.nil,h⟩
theorem F5(ha:PE X e te)(hr:PA X es t)(hs:SX (e::es) X.env=(false,eval e X.env)::SX es X.env:=by rfl):PA X (e::es) (Hl te t):=by
 intro pos pins s σ H Q I h;rw[hs];show Tj _ _ (spliced ((false,eval e X.env)::VD pos (SX es X.env))) _ _ s;refine Calls.spliced_cons (cT (ha pins s σ H _ I h) λu s1 ⟨x,H1,I1,r1,q1⟩=>?_);exact cT (hr pos pins s1 σ H1 _ I1 q1) λus s2 ⟨xs,H2,I2,r2,q2⟩=>⟨x::xs,H2,I2,.cons r1 r2,q2⟩
def L7(t:TA):TE:=λσ H Q=>t σ H λxs H1=>xs.length≤sizeLine/\∀p,H1 p=none->Q (.ref p) (aO H1 p (.tup xs))
def Mb(t:TA):TE:=λσ H Q=>t σ H λxs H1=>xs.length≤sizeLine/\∀p,H1 p=none->Q (.ref p) (aO H1 p (.lst xs))
theorem JO{x1}(h:PA X es t):PE X (.Tuple es x1 pos) (L7 t):=by
 intro pins s σ H Q I hq;refine wpAny_Tuple_spliced (cT (h pos pins s σ H _ I hq) λus s1 ⟨xs,H1,I1,r,z,q⟩=>⟨by rw[←r.length];exact z,?_⟩);have hf:H1 s1.heap.objs.size=none:=I1.hok.fresh (SD _);refine⟨.ref s1.heap.objs.size,aO H1 s1.heap.objs.size (.tup xs),I1.laid (t':=s1.toks) (λb u e=>SK _ e) (SD _) ?_,Z,q _ hf⟩;exact⟨z,us,r,⟨_,Tg _ Z,Z,_,Z⟩⟩
theorem JT(h:PA X es t):PE X (.List es pos) (Mb t):=by
 intro pins s σ H Q I hq;refine wpAny_List_spliced (cT (h pos pins s σ H _ I hq) λus s1 ⟨xs,H1,I1,r,z,q⟩=>⟨by rw[←r.length];exact z,?_⟩);have hf:H1 s1.heap.objs.size=none:=I1.hok.fresh (SD _);refine⟨.ref s1.heap.objs.size,aO H1 s1.heap.objs.size (.lst xs),I1.laid (t':=s1.toks) (λb u e=>SK _ e) (SD _) ?_,Z,q _ hf⟩;exact⟨z,us,0,r,Tg _ Z⟩
end
abbrev Sp:=List V->Hp->VK->XK->Prop
abbrev vR:=List Env->Hp->SH->XK->Value->SH->Prop
structure vN(P:Tx)(w:T9)(K:Sy)(mg:TB->Option Value)(base:SY)(A:TV)(outer:List Env)(s:SH)(H:Hp):Prop where
 frames:A.frames=some outer
 mod:Mod K mg base
 bs:∀b o,base.get? b=some o->s.heap.get? b=some o/\H b=none
 bsz:base.objs.size≤s.heap.objs.size
 funs:s.heap.FunFrames base outer
 frf:∀b∈yR outer,H b=none
 hok:jT P w H s.heap
 bare:Xu s.gens
def CE(outer:List Env)(P:Tx)(w:T9)(H:Hp)(s:SH)(Q:VK)(u:Value)(s':SH):Prop:=
 ∃v H',s'.os=s.os/\Xu s'.gens/\Un (yR outer) [] H H' s.heap s'.heap/\jT P w H' s'.heap/\bK v u/\Q v H'
def CR(CX:vR)(outer:List Env)(P:Tx)(w:T9)(H:Hp)(s:SH)(Q:VK)(E:XK)(r:aaZ)(s':SH):Prop:=
 match r with
 | .ok (.ret u)=>CE outer P w H s Q u s'
 | .ok _=>False
 | .error e=>CX outer H s E e s'
structure bQ(P:Tx)(w:T9)(K:Sy)(mg:TB->Option Value)(base:SY)(CX:vR)(k:Nat)(f:Addr)(fd:SI)(ps:List TB)(sp:Sp):Prop where
 len:∀vs H Q E,sp vs H Q E->vs.length=ps.length
 run:∀(A:TV) (outer:List Env) (s:SH) (H:Hp) (args:Args) (us:List Value) (vs:List V) (Q:VK) (E:XK),dX k A->vN P w K mg base A outer s H->YK s fd args (ps.zip us)->bP vs us->sp vs H Q E→
  XT (Tp P w) A (.call (.ref f) args) (CR CX outer P w H s Q E) s
theorem vN.make{P:Tx}{w:T9}{K:Sy}{mg:TB->Option Value}{base:SY}{A:TV}{outer:List Env}{s:SH}{H:Hp}(e:vN P w K mg base A outer s H)(C:Addr)(us:List Value)(kw:List (TB×Value)) :
  vN P w K mg base (A.under (.builtin "type.__call__" ⟨.ref C::us,kw⟩)) outer s H:=⟨by first|exact e.frames | (simpa [YJ,Code.envs,Z2,pushEnvs] using e.frames),e.mod,e.bs,e.bsz,e.funs,e.frf,e.hok,e.bare⟩
section
variable {X:Cx}{pins:List (Addr×UU)}{σ:St}{H:Hp}{s s':SH}
theorem Inv.env0(I:Inv X pins σ H s):vN X.prog X.w X.K X.mg X.base X.A X.stack s H:=
 ⟨I.ok.frames,I.ok.mod,I.bs,Tu I.ok.bsz I.sz,I.stack,I.stkFree,I.hok,I.bare⟩
theorem Inv.after(I:Inv X pins σ H s)(h:CE X.stack X.prog X.w H s Q u s'):EP X pins σ Q u s':=by
 obtain⟨v,H',os,bare,un,hok,r,q⟩:=h;obtain⟨hh,g,d,t,os'⟩:=s';obtain rfl:os'=s.os:=os;exact⟨v,H',I.call (h':=hh) (g':=g) (d':=d) (t':=t) (ch:=[]) un hok bare (λb z=>absurd z (by simp)),r,q⟩
end
def Bb(sp:Sp)(dvs:List V)(E:XK)(t:TA):TE:=λσ H Q=>t σ H λvs H1=>sp (vs++dvs) H1 Q E
def yc(C:Addr)(m:TB)(sp:Sp)(dvs:List V)(E:XK)(ta:TE)(t:TA):TE:=λσ H Q=>ta σ H λx H1=>∃a dx fs,x=.ref a/\H1 a=some (.ins C dx fs)/\fs.lookup m=none∧
 t σ H1 λvs H2=>sp (x::(vs++dvs)) H2 Q E
def Hg(C:Addr)(sp:Sp)(dvs:List V)(E:XK)(t:TA):TE:=λσ H Q=>t σ H λvs H1=>∀x dx,H1 x=none->H1 dx=none->dx≠x→
 sp (.ref x::(vs++dvs)) (aO (aO H1 dx (.own x)) x (.ins C dx [])) (λv H2=>v=.non/\Q (.ref x) H2) E
def bc(K:Sy)(fd:SI)(ps:List TB)(ds:List Value):Prop:=
 ∀(s:SH) (us:List Value),K.In s.heap->(us++ds).length=ps.length->YK s fd ⟨us,[]⟩ (ps.zip (us++ds))
theorem bc.all{K:Sy}{fd:SI}{ps:List TB}(h:∀us:List Value,us.length=ps.length->Z3 fd ⟨us,[]⟩=Vd (ps.zip us)):bc K fd ps []:=λs us _ hl=>by
 rw[UZ] at hl ⊢;exact .of_eq (h us hl)
def fZ(CX:vR)(X:Cx)(E:XK):Prop:=∀(pins:List (Addr×UU)) (σ:St) (H:Hp) (s:SH) (e:Value) (s':SH),Inv X pins σ H s->CX X.stack H s E e s'->X.xe e s'
section
variable {X:Cx}{CX:vR}{k:Nat}{f C:Addr}{fd:SI}{ps:List TB}{sp:Sp}{dvs:List V}{ds:List Value}{E:XK}{x m:TB}{p pos apos:Wh}{e o:TW}{es:List TW}{ta:TE}{t:TA}
theorem wB{pins:List (Addr×UU)}{σ:St}{H:Hp}{s:SH}{Q:VK}{us:List Value}{vs:List V}(F:bQ X.prog X.w X.K X.mg X.base CX k f fd ps sp)(hr:dX k X.A)(hb:bc X.K fd ps ds)(hd:bP dvs ds)(hx:fZ CX X E)
  (I:Inv X pins σ H s) (r:bP vs us) (h:sp (vs++dvs) H Q E):Tj (Tp X.prog X.w) X.A (call (.ref f) us) (EP X pins σ Q) X.xe s:=by
 have r2:bP (vs++dvs) (us++ds):=r.append hd;have hl:(us++ds).length=ps.length:=by rw[←r2.length];exact F.len _ _ _ _ h
 refine wpAny_call (YL (F.run X.A X.stack s H ⟨us,[]⟩ (us++ds) (vs++dvs) Q E hr I.env0 (hb s us I.kIn hl) r2 h) λr s' hq=>?_)
 cases r with
 |error e=>exact hx pins σ H s e s' I hq
 |ok fl=>
  cases fl with
  |ret u=>exact I.after hq
  |next=>exact Vw hq
  |brk=>exact Vw hq
  |cont=>exact Vw hq
theorem F2(F:bQ X.prog X.w X.K X.mg X.base CX k f fd ps sp)(hr:dX k X.A)(hg:Gl X x)(hm:X.mg x=some (.ref f))(hk:U8 X.K (.ref f)=true)(hb:bc X.K fd ps ds)(hd:bP dvs ds)(hx:fZ CX X E)
  (ha:PA X (e::es) t) (hdb:(x==("__debug__" : TB))=false:=by decide) (he:SX (e::es) X.env=(false,eval e X.env)::SX es X.env:=by rfl) (hpl:(VD pos (SX es X.env)).any (·.1)=false:=by rfl) :
  PE X (.Call (.Name x p) (e::es) [] pos) (Bb sp dvs E t):=by
 intro pins s σ H Q I h;refine WO (tK I hg hm ?_ hdb);refine ZO (h₀:=X.base) I.ok.mod.kin hk (cT (ha pos pins s σ H _ I h) λus s1 ⟨vs,H1,I1,r,q⟩=>⟨I1.kIn,?_⟩) he hpl;exact wB F hr hb hd hx I1 r q
theorem FX{pl:Sem Bool}(he:PE X o ta)(c:xP X.K C)(hm:vH X.K C m f)(F:bQ X.prog X.w X.K X.mg X.base CX k f fd ps sp)(hr:dX k X.A)(hb:bc X.K fd ps ds)(hd:bP dvs ds)(hx:fZ CX X E)(ha:PA X (e::es) t)
  (hst:SX (e::es) X.env=(false,eval e X.env)::SX es X.env:=by rfl) (hpl:(VD pos (SX es X.env)).any (·.1)=false:=by rfl)
  (ht:eval (.Call (.Attribute o m apos) (e::es) [] pos) X.env=(do
   let ov ←eval o X.env
   YF apos.atName
   let (f,first) ←holding [ov] (Yt ov m pl)
   Z4 pos f first (VD pos (SX (e::es) X.env)) (Xw pos (V5 [] X.env))):=by rfl) :
  PE X (.Call (.Attribute o m apos) (e::es) [] pos) (yc C m sp dvs E ta t):=by
 intro pins s σ H Q I h;refine Y7 (pl:=pl) (cT (he pins s σ H _ I h) λu s1 ⟨x,H1,I1,rx,a,dx,fs,ex,ea,l,q⟩=>?_) ht;subst ex;obtain rfl:u=TF a:=rx;refine oS I1 ea c hm l ?_;refine ZO (first:=[.ref a]) (h₀:=X.base) I.ok.mod.kin hm.kp (cT (ha pos pins s1 σ H1 _ I1 q) λus s2 ⟨vs,H2,I2,r,q2⟩=>⟨I2.kIn,?_⟩) hst hpl;exact wB (us:=.ref a::us) (vs:=.ref a::vs) F hr hb hd hx I2 (.cons Z r) q2
theorem Dg{pl:Sem Bool}(he:PE X o ta)(c:xP X.K C)(hm:vH X.K C m f)(F:bQ X.prog X.w X.K X.mg X.base CX k f fd ps sp)(hr:dX k X.A)(hb:bc X.K fd ps ds)(hd:bP dvs ds)(hx:fZ CX X E)
  (ht:eval (.Call (.Attribute o m apos) [] [] pos) X.env=(do
   let ov ←eval o X.env
   YF apos.atName
   let (f,first) ←holding [ov] (Yt ov m pl)
   Z4 pos f first (VD pos (SX [] X.env)) (Xw pos (V5 [] X.env))):=by rfl) :
  PE X (.Call (.Attribute o m apos) [] [] pos) (yc C m sp dvs E ta zF):=by
 intro pins s σ H Q I h;refine Y7 (pl:=pl) (cT (he pins s σ H _ I h) λu s1 ⟨x,H1,I1,rx,a,dx,fs,ex,ea,l,q⟩=>?_) ht;subst ex;obtain rfl:u=TF a:=rx;refine oS I1 ea c hm l ?_;exact Zv (first:=[.ref a]) I1.kIn hm.kp (wB (us:=[.ref a]) (vs:=[.ref a]) F hr hb hd hx I1 (.cons Z .nil) q)
structure Mk(K:Sy)(C f:Addr):Prop where
 makes:aaL K C=true
 init:Uh K (.ref C) "__init__"=some (some (.ref f))
 fn:XS K (.ref f)=true
 kp:U8 K (.ref C)=true
theorem CJ{pins:List (Addr×UU)}{σ:St}{H:Hp}{s:SH}{Q:VK}{us:List Value}{vs:List V}(M:Mk X.K C f)(F:bQ X.prog X.w X.K X.mg X.base CX k f fd ps sp)(hr:dX (k+1) X.A)(hb:bc X.K fd ps ds)(hd:bP dvs ds)
  (hx:fZ CX X E) (I:Inv X pins σ H s) (r:bP vs us)
  (h:∀x dx,H x=none->H dx=none->dx≠x->sp (.ref x::(vs++dvs)) (aO (aO H dx (.own x)) x (.ins C dx [])) (λv H2=>v=.non/\Q (.ref x) H2) E) :
  Tj (Tp X.prog X.w) X.A (call (.ref C) us) (EP X pins σ Q) X.xe s:=by
 have hq:=h (s.heap.objs.size+1) s.heap.objs.size (I.hok.fresh (VA _)) (I.hok.fresh (SD _)) (Uj (Xo _));have I2:=Inv.made (C:=C) I;have r2:bP (V.ref (s.heap.objs.size+1)::(vs++dvs)) (TF (s.heap.objs.size+1)::(us++ds)):=.cons Z (r.append hd);have hl:(TF (s.heap.objs.size+1)::us++ds).length=ps.length:=by
  have e:=r2.length;rw[F.len _ _ _ _ hq] at e;exact e.symm
 refine wpAny_call (DO (f:=f) I.kIn M.makes M.init (beq_iff_eq.mp M.fn) (YL (F.run _ X.stack _ _ ⟨TF (s.heap.objs.size+1)::us,[]⟩ (TF (s.heap.objs.size+1)::(us++ds)) _ _ E (hr.make C us []) (I2.env0.make C us []) (hb _ (TF (s.heap.objs.size+1)::us) I2.kIn hl) r2 hq) λr s' hq'=>?_))
 cases r with
 |error e=>exact hx pins σ _ _ e s' I2 hq'
 |ok fl=>
  cases fl with
  |ret u=>
   obtain⟨v,H',I3,rv,ev,q3⟩:=I2.after hq';subst ev;exact⟨rv,⟨V.ref (s.heap.objs.size+1),H',I3,Z,q3⟩⟩
  |next=>exact Vw hq'
  |brk=>exact Vw hq'
  |cont=>exact Vw hq'
theorem Dh(M:Mk X.K C f)(F:bQ X.prog X.w X.K X.mg X.base CX k f fd ps sp)(hr:dX (k+1) X.A)(hg:Gl X x)(hm:X.mg x=some (.ref C))(hb:bc X.K fd ps ds)(hd:bP dvs ds)(hx:fZ CX X E)
  (hdb:(x==("__debug__" : TB))=false:=by decide):PE X (.Call (.Name x p) [] [] pos) (Hg C sp dvs E zF):=by
 intro pins s σ H Q I h;refine WO (tK I hg hm ?_ hdb);exact Zv I.kIn M.kp (CJ (us:=[]) M F hr hb hd hx I .nil h)
end
def PK(X:Cx)(kws:List XU)(t:TA):Prop:=
 ∀(pos:Wh) (pins:List (Addr×UU)) (s:SH) (σ:St) (H:Hp) (Q:List V->Hp->Prop),Inv X pins σ H s->t σ H Q->Tj (Tp X.prog X.w) X.A (evalAll ((Xw pos (V5 kws X.env)).map (·.2))) (AP X pins σ Q) X.xe s
section
variable {X:Cx}{CX:vR}{k:Nat}{f C:Addr}{fd:SI}{ps ks:List TB}{sp:Sp}{E:XK}{x m:TB}{p pos apos kpos:Wh}{e o:TW}{es:List TW}{kws:List XU}{te ta:TE}{t tk:TA}{nm:Option TB}
structure Pr(K:Sy)(fd:SI)(ps ks:List TB)(g:List Value->List Value->List Value)(gV:List V->List V->List V):Prop where
 to:∀(s:SH) (us ws:List Value),K.In s.heap->(g us ws).length=ps.length->YK s fd ⟨us,ks.zip ws⟩ (ps.zip (g us ws))
 rel:∀{vs:List V} {us:List Value} {zs:List V} {ws:List Value},bP vs us->bP zs ws->bP (gV vs zs) (g us ws)
def OG(sp:Sp)(gV:List V->List V->List V)(E:XK)(t tk:TA):TE:=λσ H Q=>t σ H λvs H1=>tk σ H1 λzs H2=>sp (gV vs zs) H2 Q E
variable {g:List Value->List Value->List Value}{gV:List V->List V->List V}
end
structure aL(N P:List TB)(sc:Wr):Prop where
 kind:sc.kind=.function
 co:sc.isCoroutine=false
 gen:sc.isGenerator=false
 nd:N.Nodup
 pre:N.take P.length=P
 par:∀x∈P,sc.names.lookup x=some .local∨sc.names.lookup x=some .cell
 nofree:∀y∈sc.names,y.2≠.free
theorem qK{kindOf:TB->Option WJ}{x:TB}:∀{binds:List (TB×Value)} {m:TB->Option Value},(∀v,(x,v)∉binds)->bindL kindOf binds m x=m x
 | [],_,_=>rfl
 | (n,v)::r,m,h=>by
  unfold bindL;rw[qK λw hw=>h w (SQ _ hw)]
  split
  ·have:x≠n:=by rintro rfl;exact h v SO
   simp[this]
  ·rfl
theorem qM{kindOf:TB->Option WJ}{x:TB}:∀{binds:List (TB×Value)} {m:TB->Option Value},(∀v,(x,v)∉binds)->bindC kindOf binds m x=m x
 | [],_,_=>rfl
 | (n,v)::r,m,h=>by
  unfold bindC;rw[qM λw hw=>h w (SQ _ hw)]
  split
  ·rfl
  ·have:x≠n:=by rintro rfl;exact h v SO
   simp[this]
theorem qL{kindOf:TB->Option WJ}{x:TB}{v:Value}:∀{P:List TB} {vs:List Value} {i:Nat} {m:TB->Option Value},P.Nodup->P[i]?=some x->vs[i]?=some v->kindOf x=some .local→
  bindL kindOf (P.zip vs) m x=some v
 | [],_,_,_,_,h,_,_=>by simp at h
 |_::_,[],_,_,_,_,h,_=>by simp at h
 |p::P,w::vs,0,m,nd,h1,h2,hk=>by
  simp at h1 h2;subst h1;subst h2;show bindL kindOf ((p,w)::P.zip vs) m p=_;unfold bindL;rw[qK λv hv=>(Uf.mp nd).1 (Y2 hv).1,if_pos hk];simp
 |p::P,w::vs,i+1,m,nd,h1,h2,hk=>by
  show bindL kindOf ((p,w)::P.zip vs) m x=_;unfold bindL;exact qL (i:=i) (Uf.mp nd).2 (by simpa using h1) (by simpa using h2) hk
theorem qN{kindOf:TB->Option WJ}{x:TB}{v:Value}:∀{P:List TB} {vs:List Value} {i:Nat} {m:TB->Option Value},P.Nodup->P[i]?=some x->vs[i]?=some v->kindOf x≠some .local→
  bindC kindOf (P.zip vs) m x=some v
 | [],_,_,_,_,h,_,_=>by simp at h
 |_::_,[],_,_,_,_,h,_=>by simp at h
 |p::P,w::vs,0,m,nd,h1,h2,hk=>by
  simp at h1 h2;subst h1;subst h2;show bindC kindOf ((p,w)::P.zip vs) m p=_;unfold bindC;rw[qM λv hv=>(Uf.mp nd).1 (Y2 hv).1,if_neg hk];simp
 |p::P,w::vs,i+1,m,nd,h1,h2,hk=>by
  show bindC kindOf ((p,w)::P.zip vs) m x=_;unfold bindC;exact qN (i:=i) (Uf.mp nd).2 (by simpa using h1) (by simpa using h2) hk
def start(N:List TB)(vs:List V):St:=vs.map some++Tq (N.length-vs.length) none
def bY(CX:vR)(P:Tx)(w:T9)(K:Sy)(mg:TB->Option Value)(base:SY)(N:List TB)(qual:TB)(scope:Wr)(f:Addr)(cd:Value)(A:TV)(outer:List Env)(s:SH)(H:Hp)(E:XK):Cx where
 prog:=P
 w:=w
 K:=K
 mg:=mg
 base:=base
 A:=A.deeper (Ze qual scope s.heap.objs.size f cd)
 N:=N
 s₀:=s
 H₀:=H
 env:=Ze qual scope s.heap.objs.size f cd
 outer:=outer
 stack:=Ze qual scope s.heap.objs.size f cd::outer
 ex:=[]
 calm:=true
 fn:=λ_=>true
 pn:=[]
 xe:=λe s'=>Tj (Tp P w) (A.deeper (Ze qual scope s.heap.objs.size f cd)) (leaving (Ze qual scope s.heap.objs.size f cd) e) (λ_ s''=>CX outer H s E e s'') (λe' s''=>CX outer H s E e' s'') s'
theorem vy{sc:Wr}(h:sc.names.lookup x=some .cell):∃c,(Yu n sc.names []).lookup x=some c:=by
 have q:=YM sc.names n [] (.inl h);exact UV.mp q
theorem Ap{CX:vR}{P:Tx}{w:T9}{K:Sy}{mg:TB->Option Value}{base:SY}{N ps:List TB}{qual:TB}{scope:Wr}{f:Addr}{cd:Value}{A:TV}{outer:List Env}{s s1:SH}{H:Hp}{E:XK}{us:List Value}{vs:List V}
  (S:aL N ps scope) (hd:A.handled=none) (e0:vN P w K mg base A outer s H) (hl:vs.length=ps.length) (r:bP vs us)
  (x:InCallC s s.heap.objs.size (bindL (Ze qual scope s.heap.objs.size f cd).kindOf (ps.zip us) λ_=>none) (Yu (s.heap.objs.size+1) scope.names []) (bindC (Ze qual scope s.heap.objs.size f cd).kindOf (ps.zip us) λ_=>none) s1) :
  Inv (bY CX P w K mg base N qual scope f cd A outer s H E) [] (start N vs) H s1:=by
 have hpl:ps.length≤N.length:=by have:=congrArg List.length S.pre;rw[Uk] at this;omega
 obtain⟨h1,tk,rfl,hk⟩:=x.done;have noA:∀b:Addr,b∉(bY CX P w K mg base N qual scope f cd A outer s H E).ex:=λb z=>absurd (show b∈([]:List Addr) from z) (by simp)
 refine⟨⟨e0.mod,S.kind,Z,Z,SD _,λy z c h1 h2=>?_,λy hy=>?_,λy c _ h=>?_,λ_=>hd,TV.frames_deeper e0.frames,.inr ⟨Z,Z⟩,λb z=>absurd z (noA b),e0.bs,e0.bsz,λb _ _=>noA b,λb z=>absurd z (noA b),e0.funs,e0.frf⟩,
  rfl,e0.bare,Un.kept hk,⟨_,x.toInCall.ns,λi y v h1 h2 h3=>?_⟩,λy c h=>⟨_,x.cell y c h⟩,e0.hok.fresh (SD _),λy c h=>?_,λp hp=>absurd (show p∈([]:List (Addr×UU)) from hp) (by simp),e0.hok.kept hk,?_⟩
 ·exact name_of_addr x.apart (VW h1) (VW h2)
 ·have hy:scope.names.lookup y=some .cell∨scope.names.lookup y=some .free:=hy;rcases hy with hy|hy
  ·exact vy hy
  ·exact absurd Z (S.nofree _ (VW hy))
 ·exact VN (x.above y c (VW h))
 ·have hi:i<vs.length:=by
   unfold start at h2;by_cases hi:i<vs.length
   ·exact hi
   ·rw[Uo (by simpa using hi)] at h2;rw[V2] at h2
    split at h2<;>cases h2
  have ha:vs[i]?=some v:=by
   unfold start at h2;rw[Ul (by simpa using hi),SU] at h2
   cases e:vs[i]? with
   |none=>rw[e] at h2;cases h2
   |some a=>rw[e] at h2;cases h2;rfl
  obtain⟨u,hu,rv⟩:=r.get ha;have hp:ps[i]?=some y:=by
   rw[←S.pre,List.getElem?_take_of_lt (by omega)];exact h1
  have ndP:ps.Nodup:=by rw[←S.pre];exact S.nd.sublist (List.take_sublist _ _)
  refine⟨u,rv,?_⟩;rcases S.par y (SF hp) with k|k
  ·exact .inl ⟨k,qL ndP hp hu k⟩
  ·obtain⟨c,e⟩:=vy (n:=s.heap.objs.size+1) k;refine .inr ⟨.inl k,c,e,?_⟩;have q:=x.cell y c e;rw[qN ndP hp hu (by show scope.names.lookup y≠_;rw[k];decide)] at q;exact q
 ·exact e0.hok.fresh (VN (x.above y c (VW h)))
 ·unfold start;show _=N.length;rw[SZ,SE,VG];omega
theorem Nv{CX:vR}{P:Tx}{w:T9}{K:Sy}{mg:TB->Option Value}{base:SY}{k:Nat}{f:Addr}{name qual:TB}{params:Arguments}{body:List Stmt}{scope:Wr}{dV kV doc pm cdv ct oc:Value}{an od:Option Addr}
  {osl:Array (Option Value)} {N ps:List TB} {sp:Sp} (lk:K.lookup f=some ⟨oc,od,.func (U0 name qual params body scope dV kV doc pm an cdv ct),osl⟩) (hcd:Xd K cdv qual=true) (S:aL N ps scope)
  (len:∀vs H Q E,sp vs H Q E->vs.length=ps.length)
  (hbody:∀(A:TV) (outer:List Env) (s:SH) (H:Hp) (vs:List V) (Q:VK) (E:XK),dX k (A.deeper (Ze qual scope s.heap.objs.size f cdv))->sp vs H Q E→
   ∃t,xG (bY CX P w K mg base N qual scope f cdv A outer s H E) body t/\t { nx:=λ_ H'=>Q .non H',rt:=Q} (start N vs) H) :
  bQ P w K mg base CX (k+1) f (U0 name qual params body scope dV kV doc pm an cdv ct) ps sp:=by
 refine⟨len,λA outer s H args us vs Q E hr e0 hb r hsp=>?_⟩;have hl:=len _ _ _ _ hsp;have KX:K.In s.heap:=e0.mod.kin.keeps λb o e=>(e0.bs b o e).1
 have lim:s.heap.NoLimit:=e0.mod.nolimit.keeps λb o e=>(e0.bs b o e).1
 have hkind:∀y∈ps.zip us,scope.names.lookup y.1=some .local∨(scope.names.lookup y.1=some .cell/\((Yu (s.heap.objs.size+1) scope.names []).lookup y.1).isSome=true):=λ⟨n,v⟩ hy=>by
  rcases S.par n (Y2 hy).1 with q|q
  ·exact .inl q
  ·exact .inr ⟨q,YM _ _ _ (.inl q)⟩
 refine codeAny_call_function hr.depth (KX _ _ lk) Z S.co S.gen Z (PySem.W.codeRec_of KX hcd) (hb _ _ _ _ ?_);refine wpAny_newFunctionEnv_cells S.kind hkind λenv he s1 x=>?_
 subst he;refine⟨lim.keeps x.toInCall.keep,codeAny_func ?_⟩;obtain⟨t,ht,hq⟩:=hbody A outer s H vs Q E (hr.deeper _) hsp;have I:Inv (bY CX P w K mg base N qual scope f cdv A outer s H E) [] (start N vs) H s1:=Ap S hr.hd e0 hl r x;refine Vv (ht [] s1 (start N vs) H _ I hq) (λfl s' hs=>?_) λe s' hs=>hs
 have fin:∀{σ':St} {H':Hp} {v:V} {u:Value},Inv (bY CX P w K mg base N qual scope f cdv A outer s H E) [] σ' H' s'->bK v u->Q v H'->CE outer P w H s Q u s':=
  λ{σ' H' v u} J rv q=>⟨v,H',J.os,J.bare,J.base,J.hok,rv,q⟩
 cases fl with
 |ret u=>
  obtain⟨v,σ',H',J,rv,q⟩:=hs;exact fin J rv q
 |next=>
  obtain⟨σ',H',J,q⟩:=hs;exact fin (v:=V.non) (u:=VC) J Z q
 |brk=>
  obtain⟨_,_,_,q⟩:=hs;exact Vw q
 |cont=>
  obtain⟨_,_,_,q⟩:=hs;exact Vw q
end L2
namespace L2
open PySem PySem.Spec PyProof.Rows
section
variable {X:Cx}{x:TB}{p pos:Wh}{e:TW}{es:List TW}{t:TA}{id T:String}{r:List V->Hp->VK->Prop}
def N9(r:List V->Hp->VK->Prop)(t:TA):TE:=λσ H Q=>t σ H λvs H1=>r vs H1 Q
theorem Dm(hc:eM X (.builtin id) r)(hg:Gl X x)(hm:X.mg x=none)(hv:Vk x=some (.builtin id))(ha:PA X (e::es) t)(hn:x ≠ "__name__" := by decide)(hdb:(x==("__debug__" : TB))=false:=by decide)
  (he:SX (e::es) X.env=(false,eval e X.env)::SX es X.env:=by rfl) (hpl:(VD pos (SX es X.env)).any (·.1)=false:=by rfl):PE X (.Call (.Name x p) (e::es) [] pos) (N9 r t):=by
 intro pins s σ H Q I h;refine WO (ib I hg hm hv ?_ hn hdb);exact PyProof.Rows.callWith_builtin1 (cT (ha pos pins s σ H _ I h) λus s1 ⟨vs,H1,I1,r1,q1⟩=>hc pins s1 σ H1 vs us Q I1 r1 q1) he hpl
theorem Ac(hc:eM X (.type T) r)(hg:Gl X x)(hm:X.mg x=none)(hv:Vk x=some (.type T))(ha:PA X (e::es) t)(hn:x ≠ "__name__" := by decide)(hdb:(x==("__debug__" : TB))=false:=by decide)
  (he:SX (e::es) X.env=(false,eval e X.env)::SX es X.env:=by rfl) (hpl:(VD pos (SX es X.env)).any (·.1)=false:=by rfl):PE X (.Call (.Name x p) (e::es) [] pos) (N9 r t):=by
 intro pins s σ H Q I h;refine WO (ib I hg hm hv ?_ hn hdb);exact Uw (cT (ha pos pins s σ H _ I h) λus s1 ⟨vs,H1,I1,r1,q1⟩=>hc pins s1 σ H1 vs us Q I1 r1 q1) he hpl
end
end L2
namespace HT
open PySem PyProof.Rows
def lexLt:List Int->List Int->Bool
 | [],[]=>false
 | [],_::_=>true
 |_::_,[]=>false
 |x::xs,y::ys=>if x=y then lexLt xs ys else decide (x<y)
section
open PySem.SeqAt
open PySem.AutoSeq1 (wpAny_loadPart')
open PySem.MeetsSeq PySem.MeetsSeq2 PySem.MeetsSeq3
end
section
variable {prog:Tx}{w:T9}{A:TV}{E:Value->SH->Prop}{s:SH}
def sIx(n d:Nat):Option Int->Nat
 |none=>d
 |some v=>if v<0 then(v+(n:Int)).toNat else min v.toNat n
theorem sIx_none(n d:Nat):sIx n d none=d:=Z
theorem sIx_nat(n d k:Nat):sIx n d (some (k:Int))=min k n:=by
 show(if(k:Int)<0 then((k:Int)+(n:Int)).toNat else min (k:Int).toNat n)=min k n;rw[if_neg (by omega),Wo]
theorem Jm(n d:Nat)(hd:d≤n)(o:Option Int):sIx n d o≤n:=by
 cases o with
 |none=>exact hd
 |some v=>
  show(if v<0 then(v+(n:Int)).toNat else min v.toNat n)≤n;by_cases hv:v<0
  ·rw[if_pos hv];omega
  ·rw[if_neg hv];exact Nat.min_le_right _ _
theorem yZ(v:Int)(n d:Nat):(if v<0 then max (v+(n:Int)) 0 else min v (n:Int))=((sIx n d (some v):Nat):Int):=by
 show(if v<0 then max (v+(n:Int)) 0 else min v (n:Int))=(((if v<0 then(v+(n:Int)).toNat else min v.toNat n):Nat):Int);by_cases hv:v<0
 ·simp only[if_pos hv];omega
 ·simp only[if_neg hv];omega
theorem xj(lo hi:Option Int)(n:Nat):WA lo hi 1 (n:Int)=(((sIx n 0 lo:Nat):Int),((sIx n n hi:Nat):Int)):=by
 have h1:¬((1:Int)<0):=by omega
 unfold WA;simp only[h1,if_false];refine Z5 ?_ ?_
 ·cases lo with
  |none=>rfl
  |some v=>exact yZ v n 0
 ·cases hi with
  |none=>rfl
  |some v=>exact yZ v n n
theorem wF(i j:Nat):VI (i:Int) (j:Int) 1=j-i:=by
 unfold VI;have h1:(1:Int)>0:=by omega
 simp only[h1,if_true,YN]
 split<;>omega
theorem n6(p:YO v o)(h:Q o s):Tj (Tp prog w) A (TN.Slice.slicePartIndex v) Q E s:=by
 cases p with
 |none=>exact slicePart_none h
 |int i t=>exact slicePart_int h
theorem gF{sl:Addr}{vl vu:Value}{lo hi:Option Int}{n:Nat}{Q:Int×Int×Nat->SH->Prop}(hs:s.heap.IsSliceOf sl vl vu .none)(pl:YO vl lo)(pu:YO vu hi)
  (h:Q (((sIx n 0 lo:Nat):Int),1,sIx n n hi-sIx n 0 lo) s):Tj (Tp prog w) A (X2 (.ref sl) (Vd (n:Int))) Q E s:=by
 obtain⟨os,hos,hcs,hds⟩:=id hs;unfold X2 TN.Slice.sliceFields;refine SL (SL (Wu hos hds (x:=vl) Z (SL (Wu hos hds (x:=vu) Z (SL (Wu hos hds (x:=.none) Z (wpAny_pure ?_)))))));refine SL (slicePart_none ?_);show Tj _ _ (if((1:Int)==0)=true then _ else _) _ _ s;rw[if_neg (by decide)];refine SL (n6 pl (SL (n6 pu (SL (wpAny_pure ?_)))));show Tj _ _ (match WA lo hi 1 (n:Int) with | (lo,hi)=>Vd (lo,(1:Int),VI lo hi 1)) _ _ s;rw[xj lo hi n];show Tj _ _ (Vd (((sIx n 0 lo:Nat):Int),(1:Int),VI ((sIx n 0 lo:Nat):Int) ((sIx n n hi:Nat):Int) 1)) _ _ s;rw[wF];exact wpAny_pure h
theorem C9(xs:Array Value)(i k:Nat):((SC k).filterMap λ(m:Nat)=>xs[((i:Int)+(m:Int)*1).toNat]?).toArray=((xs.toList.drop i).take k).toArray:=by
 have e:(λ(m:Nat)=>xs[((i:Int)+(m:Int)*1).toNat]?)=λm=>xs[i+m]?:=by
  funext m
  have:((i:Int)+(m:Int)*1).toNat=i+m:=by omega
  rw[this]
 rw[e];have:=pick_run xs i k;rw[List.filterMap_map] at this;have e2:((λx=>xs[x]?)∘λx=>i+x)=λm=>xs[i+m]?:=Z
 rw[e2] at this;rw[this]
theorem getItem_tuple_cut{t sl:Addr}{items:Array Value}{vl vu:Value}{lo hi:Option Int}{Q:Value->SH->Prop}(ht:IsTup s.heap t items)(hs:s.heap.IsSliceOf sl vl vu .none)(pl:YO vl lo)(pu:YO vu hi)
  (hw:¬(sIx items.size 0 lo=0/\sIx items.size items.size hi=items.size))
  (h:Q (.ref s.heap.objs.size) { s with heap:=s.heap.push { cls:=.type "tuple",data:=.seq ((items.toList.drop (sIx items.size 0 lo)).take (sIx items.size items.size hi-sIx items.size 0 lo)).toArray} })
  (hsz:items.size≤sizeLine):Tj (Tp prog w) A (W4 (.ref t) (.ref sl)) Q E s:=by
 have htake:sizeOk (.seq ((items.toList.drop (sIx items.size 0 lo)).take (sIx items.size items.size hi-sIx items.size 0 lo)).toArray):=by
  show((items.toList.drop (sIx items.size 0 lo)).take (sIx items.size items.size hi-sIx items.size 0 lo)).toArray.size≤sizeLine;rw[Tr,Uk,V3,Va];omega
 have hj:sIx items.size items.size hi≤items.size:=Jm _ _ (SD _) hi;obtain⟨os,hos,hcs,hds⟩:=id hs;have hTs:s.TypeIs (.ref sl) "slice" := ⟨os,hos,hcs⟩;unfold W4
 try with_reducible refine wpAny_holding ?_
 first|refine SL (wpAny_pure ?_)|skip
 refine SL (Z6 ht.typeIs (by decide) ?_);refine SL (Vs (name:=Wy "__getitem__") ht.typeIs Ux (V4 Ux ht.typeIs Zw ?_ (ZP _ _)))
 show Tj _ _ (X3 (.ref t) >>= _) _ _ s;refine SL (tupleItemsOf_ ht ?_);refine SL (YQ hTs ?_);rw[if_pos (by decide)];refine SL (gF hs pl pu ?_);have hno:¬((((sIx items.size 0 lo:Nat):Int)==0&&(1:Int)==1&&(sIx items.size items.size hi-sIx items.size 0 lo)==items.size)=true):=by
  intro q;rw[Ta,Ta] at q;have q1:((sIx items.size 0 lo:Nat):Int)=0:=WW q.1.1;have q2:sIx items.size items.size hi-sIx items.size 0 lo=items.size:=WW q.2;exact hw ⟨by omega,by omega⟩
 show Tj _ _ (if(((sIx items.size 0 lo:Nat):Int)==0&&(1:Int)==1&&(sIx items.size items.size hi-sIx items.size 0 lo)==items.size)=true then _ else _) _ _ s;rw[if_neg hno,C9]
 first
  |exact SL (m:=UW _) (UP (wpAny_pure ⟨_,rfl,wpAny_pure h⟩) htake)
  |exact SL (m:=UW _) (UP (SL (wpAny_pure (wpAny_pure ⟨_,rfl,wpAny_pure h⟩))) htake)
  |exact SL (SL (m:=UW _) (UP (wpAny_pure (wpAny_pure ⟨_,rfl,wpAny_pure h⟩)) htake))
  |exact SL (SL (m:=UW _) (UP (wpAny_pure ⟨_,rfl,wpAny_pure h⟩) htake))
end
end HT
namespace L2
open PySem PySem.Spec PyProof.Rows
abbrev TO:=St->Hp->(Option Int->Hp->Prop)->Prop
def PO(X:Cx)(e:Option TW)(t:TO):Prop:=
 ∀(pins:List (Addr×UU)) (s:SH) (σ:St) (H:Hp) (Q:Option Int->Hp->Prop),Inv X pins σ H s->t σ H Q→
  Tj (Tp X.prog X.w) X.A (evalPart e X.env) (λu s'=>∃o H',Inv X pins σ H' s'/\YO u o/\Q o H') X.xe s
def yb:TO:=λ_ H Q=>Q none H
def Hd(t:TE):TO:=λσ H Q=>t σ H λx H1=>Pw x λi=>Q (some i) H1
section
variable {X:Cx}{e:TW}{te:TE}{lo hi:Option TW}{tl th:TO}{pos p2:Wh}
theorem FL:PO X none yb:=by
 intro pins s σ H Q I h;rw[evalPart_none];exact wpAny_pure ⟨none,H,I,.none,h⟩
theorem FK(h:PE X e te):PO X (some e) (Hd te):=by
 intro pins s σ H Q I hw;rw[evalPart_some];refine cT (h pins s σ H _ I hw) λu s1 ⟨x,H1,I1,r1,q1⟩=>?_
 obtain⟨i,rfl,q⟩:=q1;obtain⟨t,rfl⟩:=r1;exact⟨some i,H1,I1,.int i t,q⟩
def EH(X:Cx)(r:V->Option Int->Option Int->Hp->VK->Prop):Prop:=
 ∀(pins:List (Addr×UU)) (s:SH) (σ:St) (H:Hp) (x:V) (v vl vu:Value) (lo hi:Option Int) (sl:Addr) (Q:VK),Inv X pins σ H s->bK x v->s.heap.IsSliceOf sl vl vu .none->YO vl lo->YO vu hi->r x lo hi H Q→
  ∃T id,typeLookup (.type T) "__getitem__"=Vd (some (.builtin id))/\s.TypeIs v T/\Tj (Tp X.prog X.w) X.A (W4 v (.ref sl)) (EP X pins σ Q) X.xe s
theorem EH.or(h:EH X r)(h':EH X r'):EH X (λx lo hi H Q=>r x lo hi H Q∨r' x lo hi H Q):=by
 intro pins s σ H x v vl vu lo hi sl Q I rx hs pl pu q;rcases q with q|q
 ·exact h pins s σ H x v vl vu lo hi sl Q I rx hs pl pu q
 ·exact h' pins s σ H x v vl vu lo hi sl Q I rx hs pl pu q
def PQ(r:V->Option Int->Option Int->Hp->VK->Prop)(te:TE)(tl th:TO):TE:=λσ H Q=>te σ H λx H1=>tl σ H1 λl H2=>th σ H2 λu H3=>r x l u H3 Q
theorem Df(hr:EH X r)(he:PE X e te)(hl:PO X lo tl)(hu:PO X hi th):PE X (.Subscript e (.Slice lo hi none p2) pos) (PQ r te tl th):=by
 intro pins s σ H Q I h;refine Subscript_ (cT (he pins s σ H _ I h) λv s1 ⟨x,H1,I1,r1,q1⟩=>?_);refine wpAny_Slice (cT (hl pins s1 σ H1 _ I1 q1) λvl s2 ⟨l,H2,I2,pl,q2⟩=>cT (hu pins s2 σ H2 _ I2 q2) λvu s3 ⟨u,H3,I3,pu,q3⟩=>?_);rw[evalPart_none];refine wpAny_pure ?_;have I4:Inv X pins σ H3 { s3 with heap:=s3.heap.push { cls:=.type "slice",data:=.fields #[vl,vu,.none]} }:=I3.kept (t':=s3.toks) λb ob q=>SK _ q
 obtain⟨T,id,hT,ht,hg⟩:=hr pins { s3 with heap:=s3.heap.push { cls:=.type "slice",data:=.fields #[vl,vu,.none]} } σ H3 x v vl vu l u s3.heap.objs.size Q I4 r1 (SY.IsSliceOf.new ..) pl pu q3;show Tj (Tp X.prog X.w) X.A (ZC e (.Slice lo hi none p2) v (.ref s3.heap.objs.size)) (EP X pins σ Q) X.xe { s3 with heap:=s3.heap.push { cls:=.type "slice",data:=.fields #[vl,vu,.none]} };exact tail_any (ops:=[.ref s3.heap.objs.size,v]) ht hT hg (by with_unfolding_all rfl)
def mj(xs:List V)(lo hi:Option Int):List V:=(xs.drop (HT.sIx xs.length 0 lo)).take (HT.sIx xs.length xs.length hi-HT.sIx xs.length 0 lo)
theorem vt(xs:List V)(lo hi:Option Int):(mj xs lo hi).length≤xs.length:=by
 unfold mj;rw[Uk,V3];omega
def MC(K:Sy):V->Option Int->Option Int->Hp->VK->Prop:=λx lo hi H Q=>∃a xs,x=.ref a/\bV K H a xs∧
 ¬(HT.sIx xs.length 0 lo=0/\HT.sIx xs.length xs.length hi=xs.length)/\∀p,H p=none->Q (.ref p) (aO H p (.tup (mj xs lo hi)))
theorem BE:EH X (MC X.K):=by
 intro pins s σ H x v vl vu lo hi sl Q I rx hs pl pu h;obtain⟨a,xs,rfl,hx,hw,q⟩:=h
 cases rx
 obtain⟨its,r,ht,hz⟩:=I.tuple hx;have hlen:its.toArray.size=xs.length:=by rw[Tr];exact r.length.symm
 refine⟨"tuple",_,Ux.lookup,ht.typeIs,?_⟩;refine HT.getItem_tuple_cut ht hs pl pu (by rw[hlen];exact hw) ?_ (by rw[hlen];exact hz);rw[hlen];refine⟨.ref s.heap.objs.size,_,I.laid (t':=s.toks) (o:=.tup (mj xs lo hi)) (λb ob q=>SK _ q) (SD _) ?_,Z,q _ (I.hok.fresh (SD _))⟩;exact⟨Tu (vt xs lo hi) hz,_,(r.drop (HT.sIx xs.length 0 lo)).take (HT.sIx xs.length xs.length hi-HT.sIx xs.length 0 lo),aaq _ _⟩
def Rq(K:Sy):R2:=λx y H Q=>∃a b ns ms,x=.ref a/\y=.ref b/\bV K H a (ns.map V.int)/\bV K H b (ms.map V.int)/\Q (.bl (HT.lexLt ns ms)) H
def Qh(K:Sy):R2:=λx y H Q=>∃a b xs ys,x=.ref a/\y=.ref b/\bV K H a xs/\bV K H b ys/\xs≠[]/\xs.length+ys.length≤sizeLine∧
 (ys=[]->Q (.ref a) H)/\(ys≠[]->∀p,H p=none->Q (.ref p) (aO H p (.tup (xs++ys))))
end
end L2
namespace L2
open PySem PySem.Spec PyProof.Rows
def DY(n:Nat)(i:Int):Option Nat:=if 0≤i then(if i<n then some i.toNat else none) else if -(n:Int)≤i then some (i+n).toNat else none
def ug{α:Type}(xs:List α)(i:Int):Option α:=(DY xs.length i).bind λj=>xs[j]?
theorem yM(h:DY n i=some j):seqIndex? i n=some j/\j<n/\-(n:Int)≤i/\i<n:=by
 unfold DY at h;by_cases h0:0≤i
 ·rw[if_pos h0] at h;by_cases h1:i<n
  ·rw[if_pos h1] at h;have e:i.toNat=j:=Um h;exact⟨by rw[aaD h0 h1,e],by omega,by omega,h1⟩
  ·rw[if_neg h1] at h;cases h
 ·rw[if_neg h0] at h;by_cases h1:-(n:Int)≤i
  ·rw[if_pos h1] at h;have e:(i+n).toNat=j:=Um h;exact⟨by rw[Z7 (by omega) h1,e],by omega,h1,by omega⟩
  ·rw[if_neg h1] at h;cases h
theorem ua{xs:List α}(h:ug xs i=some v):∃j,seqIndex? i xs.length=some j/\xs[j]?=some v/\j<xs.length/\-(xs.length:Int)≤i/\i<xs.length:=by
 unfold ug at h
 cases e:DY xs.length i with
 |none=>rw[e] at h;cases h
 |some j=>
  rw[e] at h;obtain⟨h1,h2,h3,h4⟩:=yM e;exact⟨j,h1,h,h2,h3,h4⟩
theorem be{α:Type}{xs:List α}{j:Nat}{v:α}(h:xs[j]?=some v):ug xs (j:Int)=some v:=by
 have hj:j<xs.length:=(SN.mp h).1;have e:DY xs.length (j:Int)=some j:=by
  unfold DY;rw[if_pos (by omega),if_pos (by omega)];simp
 unfold ug;rw[e];exact h
theorem vE(xs:List α)(v:α):ug (xs++[v]) (-1)=some v:=by
 have hl:(xs++[v]).length=xs.length+1:=by simp
 have e:DY (xs++[v]).length (-1)=some xs.length:=by
  unfold DY;rw[hl,if_neg (by decide),if_pos (by omega)]
  congr 1
  omega
 unfold ug;rw[e];show(xs++[v])[xs.length]?=some v;simp
def ud(b:TW):Prop:=∀o i,Yc b false o i=operate [o,i] (W4 o i)
def zn(X:Cx)(r:R2):Prop:=
 ∀(value slice:TW) (pins:List (Addr×UU)) (s:SH) (σ:St) (H:Hp) (x y:V) (v u:Value) (Q:VK),Inv X pins σ H s->bK x v->bK y u->r x y H Q→
  Yc slice false v u=operate [v,u] (W4 v u)->Tj (Tp X.prog X.w) X.A (ZC value slice v u) (EP X pins σ Q) X.xe s
def QJ(X:Cx)(id:String)(r:V->List V->Hp->VK->Prop):Prop:=
 ∀(pins:List (Addr×UU)) (s:SH) (σ:St) (H:Hp) (x:V) (xs:List V) (v:Value) (us:List Value) (Q:VK),Inv X pins σ H s->bK x v->bP xs us->r x xs H Q→
  Tj (Tp X.prog X.w) X.A (call (.builtin id) (v::us)) (EP X pins σ Q) X.xe s
section
variable {X:Cx}{a b:TW}{ta tb:TE}{pos:Wh}
theorem zn.or(h:zn X r)(h':zn X r'):zn X (λx y H Q=>r x y H Q∨r' x y H Q):=by
 intro value slice pins s σ H x y v u Q I rx ry q hs;rcases q with q|q
 ·exact h value slice pins s σ H x y v u Q I rx ry q hs
 ·exact h' value slice pins s σ H x y v u Q I rx ry q hs
theorem MU(hr:zn X r)(ha:PE X a ta)(hb:PE X b tb)(hs:ud b):PE X (.Subscript a b pos) (E4 r ta tb):=by
 intro pins s σ H Q I h;exact Subscript_ (K8 ha hb I h λv u s2 x y H2 I2 rx ry q=>hr a b pins s2 σ H2 x y v u Q I2 rx ry q (hs _ _))
inductive Pt(S:Addr->List V->Prop)(x y:V)(Q:V->Prop):Prop where
 |mk (p:Addr) (xs:List V) (i:Int) (v:V) (e:x=.ref p) (f:y=.int i) (s:S p xs) (a:ug xs i=some v) (k:Q v):Pt S x y Q
def Jt(K:Sy):R2:=λx y H Q=>Pt (bu K H) x y λv=>Q v H
def Js(K:Sy):R2:=λx y H Q=>Pt (bV K H) x y λv=>Q v H
def MI:R2:=λx y H Q=>∃z i c,x=.str z/\y=.int i/\z.length≤sizeLine/\ug z.cps.toList i=some c/\Q (.str ⟨#[c]⟩) H
theorem cc:zn X (Jt X.K):=by
 intro value slice pins s σ H x y v u Q I rx ry h hs;obtain⟨p,xs,i,z,rfl,rfl,hq,he,q⟩:=h
 cases rx
 obtain⟨t,rfl⟩:=ry;obtain⟨its,r,pl,hz⟩:=I.list hq;obtain⟨j,h1,h2,h3,h4,h5⟩:=ua he;obtain⟨w,ew,rw'⟩:=r.get h2;have hl:=r.length;have hn:=ma;have fin:EP X pins σ Q w s:=⟨z,H,I,rw',q⟩;by_cases h0:0≤i
 ·have hj:i.toNat=j:=by
   rw[aaD h0 h5] at h1;exact Um h1
  exact item_listR pl.isList h0 (by omega) (by rw[hj];simpa using ew) fin hs
 ·have hj:(i+(its.toArray.size:Int)).toNat=j:=by
   rw[Z7 (by omega) h4] at h1;rw[Tr,←hl];exact Um h1
  exact YR (x:=w) pl.isList.typeIs slot_list_getitem.lookup
   (wpAny_getItem_list_neg (Q:=λr s'=>r=w/\EP X pins σ Q r s') pl.isList (by omega) (by rw[Tr]<;>omega) (by omega) (by rw[hj];simpa using ew) ⟨Z,fin⟩) hs
theorem aD:zn X (Js X.K):=by
 intro value slice pins s σ H x y v u Q I rx ry h hs;obtain⟨p,xs,i,z,rfl,rfl,hq,he,q⟩:=h
 cases rx
 obtain⟨t,rfl⟩:=ry;obtain⟨its,r,pl,hz⟩:=I.tuple hq;obtain⟨j,h1,h2,h3,h4,h5⟩:=ua he;obtain⟨w,ew,rw'⟩:=r.get h2;have hl:=r.length;have hn:=ma;have fin:EP X pins σ Q w s:=⟨z,H,I,rw',q⟩;exact YR (x:=w) pl.typeIs slot_tuple_getitem.lookup
  (getItem_tuple (j:=j) (Q:=λr s'=>r=w/\EP X pins σ Q r s') pl (by omega) (by omega) (by rw[Tr,←hl];exact h1) (by simpa using ew) ⟨Z,fin⟩) hs
theorem KM:zn X MI:=by
 intro value slice pins s σ H x y v u Q I rx ry h hs;obtain⟨z,i,c,rfl,rfl,hz,he,q⟩:=h;obtain⟨t,rfl⟩:=rx;obtain⟨t',rfl⟩:=ry;obtain⟨j,h1,h2,h3,h4,h5⟩:=ua he;have hl:z.cps.toList.length=z.length:=by simp[TB.length]
 rw[hl] at h1 h4 h5;have hn:=ma;exact tail_any (typeIs_str s z t) slot_str_getitem.lookup (getItem_str (c:=c) (by
  have e1:decide (i < -(2^63:Int))=false:=decide_eq_false (by omega);have e2:decide (i≥2^63)=false:=decide_eq_false (by omega);rw[e1,e2,abe]) (by rw[h1];simpa using h2) ⟨.str ⟨#[c]⟩,H,I.tok _,⟨_,Z⟩,q⟩) hs
def OL(K:Sy):R2:=λx y H Q=>Jt K x y H Q∨Js K x y H Q∨MI x y H Q
theorem KN:zn X (OL X.K):=cc.or (aD.or KM)
theorem wQ(its:List Value)(n j:Nat)(u:Value):X4 (·.setIfInBounds j u) { cls:=.type "list",data:=.seq its.toArray n}={ cls:=.type "list",data:=.seq (its.set j u).toArray n}:=by
 simp[X4]
theorem Inv.lst{pins:List (Addr×UU)}{σ:St}{H:Hp}{s:SH}{p:Addr}{xs:List V}(I:Inv X pins σ H s)(h:H p=some (.lst xs)) :
  ∃(its:List Value) (n:Nat),bP xs its/\s.heap.get? p=some { cls:=.type "list",data:=.seq its.toArray n}/\xs.length≤sizeLine:=by
 obtain⟨z,its,n,r,e⟩:=I.hok p _ h;exact⟨its,n,r,e,z⟩
theorem Inv.lstUpd{pins:List (Addr×UU)}{σ:St}{H:Hp}{s:SH}{p:Addr}{xs ys:List V}{its its':List Value}{n n':Nat}{f:UU->UU}(I:Inv X pins σ H s)(h:H p=some (.lst xs))
  (ho:s.heap.get? p=some { cls:=.type "list",data:=.seq its.toArray n}) (hf:f { cls:=.type "list",data:=.seq its.toArray n}={ cls:=.type "list",data:=.seq its'.toArray n'}) (r:bP ys its') (hz:ys.length≤sizeLine) (t:Nat) :
  Inv X pins σ (aO H p (.lst ys)) { s with heap:=s.heap.update p f,toks:=t}:=by
 have e:(s.heap.update p f).get? p=some { cls:=.type "list",data:=.seq its'.toArray n'}:=by
  rw[Y8 f ho (by rw[hf]<;>rfl),hf]
 refine I.write (x:=p) (e:=p) (by rw[h];trivial) (.inl Z) (λb u hb q=>(YS _ _ (V9 hb)).trans q) ⟨_,e⟩ ?_;exact⟨hz,its',n',r,e⟩
inductive NU(o i v:V)(H:Hp)(Q:Hp->Prop):Prop where
 |mk (p:Addr) (xs:List V) (k:Int) (j:Nat) (e:o=.ref p) (f:i=.int k) (h:H p=some (.lst xs)) (n:DY xs.length k=some j) (q:Q (aO H p (.lst (xs.set j v)))):NU o i v H Q
def MD:V->V->V->Hp->(Hp->Prop)->Prop:=λo i v H Q=>NU o i v H Q
theorem gG:EJ X MD:=by
 intro pins s σ H o i v ov iv u Q I ro ri rv h;obtain⟨p,xs,k,j,rfl,rfl,hp,hj,q⟩:=h
 cases ro
 obtain⟨t,rfl⟩:=ri;obtain⟨its,n,r,ho,hz⟩:=I.lst hp;obtain⟨h1,h2,h3,h4⟩:=yM hj;have hl:=r.length;have hn:=ma;have I':Inv X pins σ (aO H p (.lst (xs.set j v))) { s with heap:=s.heap.update p (X4 (·.setIfInBounds j u))}:=
  I.lstUpd hp ho (wQ its n j u) (r.set rv j) (by rw[UH];exact hz) s.toks
 by_cases h0:0≤k
 ·have hk:k.toNat=j:=by
   rw[aaD h0 h4] at h1;exact Um h1
  exact PySem.W.ki_setAt ho h0 (by omega) (by rw[Tr,←hl];exact h4) (by rw[hk];exact⟨_,I',q⟩)
 ·have hk:(k+(its.toArray.size:Int)).toNat=j:=by
   rw[Z7 (by omega) h3] at h1;rw[Tr,←hl];exact Um h1
  exact PySem.W.ki_setBack ho (by omega) (by rw[Tr,←hl];exact h3) (by omega) (by rw[hk];exact⟨_,I',q⟩)
def Rm(K:Sy):V->Option Int->Option Int->Hp->VK->Prop:=λx lo hi H Q=>∃a xs,x=.ref a/\bu K H a xs/\∀p,H p=none->Q (.ref p) (aO H p (.lst (mj xs lo hi)))
def lh:V->Bool
 | .non=>true
 | .bl _=>true
 | .int _=>true
 | .str _=>true
 |_=>false
def Ij:V->V->Bool
 | .non,.non=>true
 | .bl a,.bl b=>a==b
 | .bl a,.int b=>(if a then 1 else 0)==b
 | .int a,.bl b=>a==(if b then 1 else 0)
 | .int a,.int b=>a==b
 | .str a,.str b=>a==b
 |_,_=>false
theorem K1(ry:bK y u)(rx:bK x v)(fy:lh y=true)(fx:lh x=true):UE A s u v (Ij y x):=by
 cases y with
 |non=>
  cases ry
  cases x with
  |non=>cases rx;exact UE.same _
  |bl b=>cases rx;exact UE.none_bool b
  |int b=>obtain⟨t,rfl⟩:=rx;exact UE.none_int b t
  |str b=>obtain⟨t,rfl⟩:=rx;exact UE.none_str b t
  |_=>exact absurd (show false=true from fx) Tb
 |bl a=>
  cases ry
  cases x with
  |non=>cases rx;exact UE.bool_none a
  |bl b=>cases rx;exact UE.bool_bool a b
  |int b=>obtain⟨t,rfl⟩:=rx;exact UE.bool_int a b t
  |str b=>obtain⟨t,rfl⟩:=rx;exact UE.bool_str a b t
  |_=>exact absurd (show false=true from fx) Tb
 |int a=>
  obtain⟨t',rfl⟩:=ry
  cases x with
  |non=>cases rx;exact UE.int_none a t'
  |bl b=>cases rx;exact UE.int_bool a t' b
  |int b=>obtain⟨t,rfl⟩:=rx;exact UE.int_int a t' b t
  |str b=>obtain⟨t,rfl⟩:=rx;exact ZI a t' b t
  |_=>exact absurd (show false=true from fx) Tb
 |str a=>
  obtain⟨t',rfl⟩:=ry
  cases x with
  |non=>cases rx;exact UE.str_none a t'
  |bl b=>cases rx;exact UE.str_bool a t' b
  |int b=>obtain⟨t,rfl⟩:=rx;exact ZJ a t' b t
  |str b=>obtain⟨t,rfl⟩:=rx;exact UE.str_str a t' b t
  |_=>exact absurd (show false=true from fx) Tb
 |_=>exact absurd (show false=true from fy) Tb
def GE(x:V)(u:Value):Bool:=match u with
 | .none=>Ij .non x
 | .bool b=>Ij (.bl b) x
 | .int i _=>Ij (.int i) x
 | .str z _=>Ij (.str z) x
 |_=>false
theorem Ei(r:bK y u)(f:lh y=true):GE x u=Ij y x:=by
 cases y with
 |non=>cases r;rfl
 |bl b=>cases r;rfl
 |int i=>obtain⟨t,rfl⟩:=r;rfl
 |str z=>obtain⟨t,rfl⟩:=r;rfl
 |_=>exact absurd (show false=true from f) Tb
theorem ub{x:V}:∀{xs:List V} {us:List Value},bP xs us->xs.all lh=true->us.any (GE x)=xs.any λy=>Ij y x
 |_,_,.nil,_=>rfl
 |y::xs,u::us,.cons r t,f=>by
  rw[Yn,Ta] at f;rw[VB,VB,Ei r f.1,ub t f.2]
theorem oN{A:TV}{s:SH}{x:V}{v:Value}(rx:bK x v)(fx:lh x=true):∀{xs:List V} {us:List Value},bP xs us->xs.all lh=true->∀u∈us,UE A s u v (GE x u)
 |_,_,.nil,_=>λu hu=>by cases hu
 |y::xs,u::us,.cons r t,f=>λu' hu=>by
  rw[Yn,Ta] at f;rcases S6.mp hu with rfl|hu
  ·rw[Ei r f.1];exact K1 r rx f.1 fx
  ·exact oN rx fx t f.2 u' hu
def KW(x:V)(xs:List V):Bool:=xs.any λy=>Ij y x
def Qf(K:Sy)(neg:Bool):R2:=λx y H Q=>∃p xs,y=.ref p/\(bu K H p xs∨bV K H p xs)/\lh x=true/\xs.all lh=true/\Q (.bl (if neg then !KW x xs else KW x xs)) H
theorem sX:iF X (UK .NotIn) (Qf X.K true):=by
 intro pins s σ H x y v u Q I rx ry h;obtain⟨p,xs,rfl,hq,fx,fs,q⟩:=h
 cases ry
 rcases hq with hq|hq
 ·obtain⟨its,r,pl,hz⟩:=I.list hq;refine SeqAt.notIn_listAt (GE x) pl.isList (λw hw=>oN rx fx r fs w (by simpa using hw)) ⟨.bl _,H,I,Z,?_⟩;rw[show its.toArray.any (GE x)=its.any (GE x) by simp,ub r fs];exact q
 ·obtain⟨its,r,pl,hz⟩:=I.tuple hq;refine SeqAt.notIn_tupleAt (GE x) pl (λw hw=>oN rx fx r fs w (by simpa using hw)) ⟨.bl _,H,I,Z,?_⟩;rw[show its.toArray.any (GE x)=its.any (GE x) by simp,ub r fs];exact q
inductive Lu(K:Sy)(H:Hp)(xs:List V)(Q:Int->Prop):Prop where
 |mk (p:Addr) (ys:List V) (e:xs=[.ref p]) (h:bu K H p ys∨bV K H p ys) (k:Q ys.length):Lu K H xs Q
theorem ba:eM X (.builtin "len") (λxs H Q=>Lu X.K H xs λn=>Q (.int n) H):=by
 intro pins s σ H xs us Q I r h;obtain⟨p,ys,rfl,hq,q⟩:=h;obtain⟨u,rfl,rx⟩:=ij r
 cases rx
 have hn:=ma;rcases hq with hq|hq
 ·obtain⟨its,r',pl,hz⟩:=I.list hq;have hlen:=r'.length;exact Calls.call_len_list pl.isList (by simp only[Tr]<;>omega) ⟨.int ys.length,H,I.tok _,⟨s.toks+1,by rw[Tr,hlen]⟩,q⟩
 ·obtain⟨its,r',pl,hz⟩:=I.tuple hq;have hlen:=r'.length;exact len_tuple pl (by simp only[Tr]<;>omega) ⟨.int ys.length,H,I.tok _,⟨s.toks+1,by rw[Tr,hlen]⟩,q⟩
theorem bG:eM X (.type "tuple") (λxs H Q=>∃p ys,xs=[.ref p]/\((bu X.K H p ys/\∀l,H l=none->Q (.ref l) (aO H l (.tup ys)))∨(bV X.K H p ys/\Q (.ref p) H))):=by
 intro pins s σ H xs us Q I r h;obtain⟨p,ys,rfl,h⟩:=h;obtain⟨u,rfl,rx⟩:=ij r
 cases rx
 rcases h with⟨hq,q⟩ | ⟨hq,q⟩
 ·obtain⟨its,r',pl,hz⟩:=I.list hq;have hlen:=r'.length;refine call_tuple_list pl.isList (λh' kp=>?_) (by simp only[Tr]<;>omega);have I1:Inv X pins σ H { s with heap:=h'}:=I.kept (t':=s.toks) kp;have I2:Inv X pins σ (aO H h'.objs.size (.tup ys)) { s with heap:=h'.push { cls:=.type "tuple",data:=.seq its.toArray} }:=
   I1.laid (t':=s.toks) (λb o e=>SK _ e) (SD _) (show cG X.prog X.w _ _ _ (.tup ys) from⟨hz,its,r',aaq _ _⟩)
  exact⟨.ref h'.objs.size,_,I2,Z,q _ (I1.hok.fresh (SD _))⟩
 ·obtain⟨its,r',pl,hz⟩:=I.tuple hq;exact call_tuple_same pl ⟨.ref p,H,I,Z,q⟩
def Oy(K:Sy)(T:String)(x:V)(H:Hp):Prop:=match x with
 | .str _=>T = "str"
 | .int _=>T = "int"
 | .ref p=>(T = "list"/\∃xs,bu K H p xs)∨(T = "tuple"/\∃o,K.lookup p=some o/\o.cls=.type "tuple"/\o.dict=none)∨
   (T = "dict"/\((∃kvs,H p=some (.dK kvs))∨∃kvs,H p=some (.dT kvs)))∨(T = "set"/\∃S n,H p=some (.set S n))
 |_=>False
theorem Iv{pins:List (Addr×UU)}{σ:St}{H:Hp}{s:SH}{T:String}{x:V}{v:Value}(I:Inv X pins σ H s)(r:bK x v)(ty:Oy X.K T x H) :
  s.TypeIs v T/\∀a,v=.ref a->∃ob,s.heap.get? a=some ob/\ob.dict=none:=by
 cases x with
 |str z=>
  obtain⟨t,rfl⟩:=r
  cases(show T = "str" from ty)
  exact⟨typeIs_str s z t,λ_ e=>nomatch e⟩
 |int i=>
  obtain⟨t,rfl⟩:=r
  cases(show T = "int" from ty)
  exact⟨typeIs_int s i t,λ_ e=>nomatch e⟩
 |ref p=>
  cases r
  rcases ty with⟨rfl,xs,hq⟩ | ⟨rfl,o,hk,hc,hd⟩ | ⟨rfl,hk⟩ | ⟨rfl,S,n,hk⟩
  ·obtain⟨its,_,pl,_⟩:=I.list hq;refine⟨pl.isList.typeIs,λa e=>?_⟩
   cases e
   obtain⟨o,n,e,c,hd,_⟩:=pl;exact⟨o,e,hd⟩
  ·refine⟨⟨o,I.kIn p o hk,hc⟩,λa e=>?_⟩
   cases e
   exact⟨o,I.kIn _ o hk,hd⟩
  ·have z:∃o,s.heap.get? p=some o/\o.ExactDict:=by
    rcases hk with⟨kvs,hk⟩ | ⟨kvs,hk⟩
    ·obtain⟨_,_,_,_,o,_,_,e,ex,_⟩:=I.hok p _ hk;exact⟨o,e,ex⟩
    ·obtain⟨_,_,_,_,o,_,_,e,ex,_⟩:=I.hok p _ hk;exact⟨o,e,ex⟩
   obtain⟨o,e,ex⟩:=z;refine⟨⟨o,e,ex.1⟩,λa e2=>?_⟩
   cases e2
   exact⟨o,e,ex.2.1⟩
  ·obtain⟨o,_,_,_,e,ex,_⟩:=I.hok p _ hk;refine⟨⟨o,e,ex.1⟩,λa e2=>?_⟩
   cases e2
   exact⟨o,e,ex.2.1⟩
 |_=>exact Vw ty
def Rc(K:Sy)(T:String)(r:V->List V->Hp->VK->Prop)(to:TE):TE:=λσ H Q=>to σ H λx H1=>Oy K T x H1/\r x [] H1 Q
def P0(K:Sy)(T:String)(r:V->List V->Hp->VK->Prop)(to:TE)(t:TA):TE:=λσ H Q=>to σ H λx H1=>Oy K T x H1/\t σ H1 λxs H2=>r x xs H2 Q
variable {o e:TW}{es:List TW}{to:TE}{t:TA}{name:TB}{apos cpos:Wh}{T id:String}{r:V->List V->Hp->VK->Prop}
theorem MV(pa:PlainAttrs T)(slot:Slot T name id)(hty:typeOf (.builtin id)=Vd (.type "method_descriptor"))(hm:QJ X id r)(ho:PE X o to)(ha:PA X (e::es) t)
  (hbase:Vz o name X.env (eval o X.env)=eval o X.env:=by rfl)
  (hfew:((VD cpos (SX (e::es) X.env)).all (λx=>!x.1)&&(Xw cpos (V5 [] X.env)).all (λx=>x.1.isSome)
  &&decide ((e::es).length+([]:List XU).length+(if([]:List XU).isEmpty then 0 else 1)<30))=true:=by rfl)
  (hline:(apos.endLine==cpos.line)=true:=by rfl) (hs:SX (e::es) X.env=(false,eval e X.env)::SX es X.env:=by rfl) (hplain:(VD cpos (SX es X.env)).any (·.1)=false:=by rfl) :
  PE X (.Call (.Attribute o name apos) (e::es) [] cpos) (P0 X.K T r to t):=by
 intro pins s σ H Q I h;refine wpAny_Call_method_late hbase hfew hline Z (cT (ho pins s σ H _ I h) λv s1 ⟨x,H1,I1,r1,ty,q1⟩=>?_);obtain⟨h1,h2⟩:=Iv I1 r1 ty;refine⟨T,id,pa,slot,hty,h1,h2,?_⟩;have hA:=ha cpos pins s1 σ H1 _ I1 q1;rw[hs] at hA ⊢;refine Calls.callWith_builtin (by show(false||(VD cpos (SX es X.env)).any (·.1))=false;rw[hplain]<;>rfl) (Calls.evalArgs_plain ?_);exact cT hA λus s2 ⟨vs,H2,I2,r2,q2⟩=>hm pins s2 σ H2 x vs v us Q I2 r1 r2 q2
end
end L2
namespace L2
open PySem PySem.Spec PyProof.Rows
def Po(X:Cx)(id:String)(r:V->List V->Hp->VK->Prop):Prop:=
 ∀(pins:List (Addr×UU)) (s:SH) (σ:St) (H:Hp) (x:V) (xs:List V) (v:Value) (us:List Value) (Q:VK),Inv X pins σ H s->bK x v->bP xs us->r x xs H Q→
  Tj (Tp X.prog X.w) X.A (call (.builtin id) (v::us)) (EP X pins σ Q) X.xe s
theorem bP.one:∀{x:V} {us:List Value},bP [x] us->∃u,us=[u]/\bK x u
 |_,_,.cons r .nil=>⟨_,Z,r⟩
theorem bP.eraseIdx:∀{xs:List V} {us:List Value} (i:Nat),bP xs us->bP (xs.eraseIdx i) (us.eraseIdx i)
 |_,_,_,.nil=>.nil
 |_,_,0,.cons _ t=>t
 |_,_,i+1,.cons r t=>.cons r (bP.eraseIdx i t)
section
variable {X:Cx}{pins:List (Addr×UU)}{σ:St}{H:Hp}{s:SH}{l b:Addr}{xs ys zs:List V}
theorem Inv.lset{its its':List Value}(I:Inv X pins σ H s)(hH:H l=some (.lst xs))
  (e:s.heap.get? l=some { cls:=.type "list",data:=.seq its.toArray n}) (hf:f its.toArray=its'.toArray) (hv:bP ys its') (hz:ys.length≤sizeLine):
  Inv X pins σ (aO H l (.lst ys)) { s with heap:=s.heap.update l (X4 f),toks:=t'}:=by
 have q:=PySem.IsL.update e f;rw[hf] at q;refine I.write (x:=l) (e:=l) (by rw[hH];exact trivial) (.inl Z) (λb' u hb hu=>(YS s.heap (X4 f) (V9 hb)).trans hu) ⟨_,q⟩ ?_;exact⟨hz,its',_,hv,q⟩
theorem Inv.lnew(I:Inv X pins σ H s)(hv:bP ys its)(hz:ys.length≤sizeLine):
  Inv X pins σ (aO H s.heap.objs.size (.lst ys)) { s with heap:=s.heap.push { cls:=.type "list",data:=.seq its.toArray},toks:=t'}:=
 I.laid (λ_ _ q=>SK _ q) (SD _) ⟨hz,its,0,hv,Tg _ Z⟩
theorem Inv.fresh(I:Inv X pins σ H s):H s.heap.objs.size=none:=I.hok.fresh (SD _)
theorem Inv.lstM(I:Inv X pins σ H s)(hH:H l=some (.lst xs)):xs.length≤sizeLine/\∃(its:List Value) (n:Nat),bP xs its/\xs.length=its.length/\s.heap.get? l=some { cls:=.type "list",data:=.seq its.toArray n}:=by
 obtain⟨z,its,n,r,e⟩:=I.hok l _ hH;exact⟨z,its,n,r,r.length,e⟩
theorem DI(h:n≤sizeLine):Vl n=false:=by
 unfold Vl;exact decide_eq_false (by omega)
end
section
variable {X:Cx}
inductive NX(x:V)(vs:List V)(H:Hp)(Q:Hp->Prop):Prop where
 |mk (l:Addr) (xs:List V) (y:V) (e:x=.ref l) (f:vs=[y]) (h:H l=some (.lst xs)) (n:xs.length<sizeLine) (q:Q (aO H l (.lst (xs++[y])))):NX x vs H Q
def Fs:V->List V->Hp->VK->Prop:=λx vs H Q=>NX x vs H λH'=>Q .non H'
theorem ca:Po X "list.append" Fs:=by
 intro pins s σ H x vs v us Q I rx rv h;obtain⟨l,xs,y,rfl,rfl,hH,hz,q⟩:=h
 cases rx
 obtain⟨u,rfl,ru⟩:=rv.one;obtain⟨z,its,n,r,hl,e⟩:=I.lstM hH;refine YT F.slot_list_append ⟨_,e,Z⟩ F.entry_list_append (F.args_list_append_2 _ _) (PySem.list_append l its.toArray n u (by rw[Tr];omega)) ⟨e,?_⟩;refine⟨.non,_,I.lset (its':=its++[u]) hH e (by simp) (r.append (.cons ru .nil)) ?_,Z,q⟩;rw[SZ,UL];omega
def Oo:V->List V->Hp->VK->Prop:=λx vs H Q=>∃l b xs zs,x=.ref l/\vs=[.ref b]/\H l=some (.lst xs)/\H b=some (.lst zs)/\xs.length+zs.length≤sizeLine/\Q .non (aO H l (.lst (xs++zs)))
def Ro:V->List V->Hp->VK->Prop:=λx vs H Q=>∃l xs y,x=.ref l/\vs=[]/\H l=some (.lst xs)/\xs[xs.length-1]?=some y/\Q y (aO H l (.lst xs.dropLast))
def OK:V->List V->Hp->VK->Prop:=λx vs H Q=>∃l xs i k y,x=.ref l/\vs=[.int i]/\H l=some (.lst xs)/\-(2^63)≤i/\i<2^63/\seqIndex? i xs.length=some k/\xs[k]?=some y/\Q y (aO H l (.lst (xs.eraseIdx k)))
def ME:V->List V->Hp->VK->Prop:=λx vs H Q=>∃l xs,x=.ref l/\vs=[]/\H l=some (.lst xs)/\Q .non (aO H l (.lst xs.reverse))
def OP:V->List V->Hp->VK->Prop:=λx vs H Q=>∃l xs,x=.ref l/\vs=[]/\H l=some (.lst xs)/\Q .non (aO H l (.lst []))
def OQ:R2:=λx y H Q=>∃l b xs zs,x=.ref l/\y=.ref b/\H l=some (.lst xs)/\H b=some (.lst zs)/\xs.length+zs.length≤sizeLine/\∀p,H p=none->Q (.ref p) (aO H p (.lst (xs++zs)))
theorem wG:iF X (Wc .Add) OQ:=by
 intro pins s σ H x y v u Q I rx ry h;obtain⟨l,b,xs,zs,rfl,rfl,hH,hB,hz,q⟩:=h
 cases rx
 cases ry
 obtain⟨z,its,n,r,hl,e⟩:=I.lstM hH;obtain⟨z2,its2,n2,r2,hl2,e2⟩:=I.lstM hB;refine PySem.P.add_list e e2 ?_ (by rw[Tr,Tr];omega);have ea:its.toArray++its2.toArray=(its++its2).toArray:=by simp
 rw[ea];exact⟨.ref _,_,I.lnew (t':=s.toks) (r.append r2) (by rw[SZ];omega),Z,q _ I.fresh⟩
def Rn:R2:=λx y H Q=>∃l k xs,x=.ref l/\y=.int k/\H l=some (.lst xs)/\-(2^63)≤k/\k<2^63/\xs.length*k.toNat≤sizeLine∧
 ∀p,H p=none->Q (.ref p) (aO H p (.lst (Tq k.toNat xs).flatten))
end
section
variable {prog:Tx}{w:T9}{A:TV}{E:Value->SH->Prop}{s:SH}
end
section
variable {X:Cx}
end
end L2
namespace Att
open PySem PySem.W PySem.Calls PyProof.Rows
theorem mY:∀(ns:List Int) (vs:List Value),WellAll P h vs (ns.map WData.int)->Zr vs ns:=by
 intro ns
 induction ns with
 |nil=>
  intro vs w;rw[Z8] at w
  cases w
  exact .nil
 |cons n ns ih=>
  intro vs w;rw[TZ] at w
  cases w with
  |cons a b=>
   cases a
   exact .cons _ _ (ih _ b)
theorem zQ{l:OpenLaw}(hn:l.most=some n){h:SY} 
  (hpre:l.row.toRowW.claim.pre args=true) (hwl:WellAll P h vals args):
  ∃a vs ns,vals=[TF a]/\args=[WData.list (ns.map WData.int)]/\h.get? a=some { cls:=.type "list",data:=.seq vs.toArray}/\Zr vs ns/\ns.length≤n:=by
 have hsh:WShape.hasAll [] args [.list .int]=true:=(pre_splitW hpre).1;have hc:l.pre.holds [] { args:=args}=true:=(pre_splitW hpre).2;obtain⟨d,r,rfl,h1,h2⟩:=hasAllW_cons hsh;obtain rfl:=hasAllW_nil h2;obtain⟨xs,rfl,h3⟩:=hasW_list h1;obtain⟨ns,rfl⟩:=items_int h3;have hlen:ns.length≤n:=by
  unfold OpenLaw.pre at hc;have h4:(WTm.not (.lt (.lit (.int (n:Int))) (.len (.arg 0)))).holds [] { args:=[.list (ns.map .int)]}=true:=by
   have h4:=(holds_andW hc).1;rw[hn] at h4;exact h4
  have h5:=condW_of h4 (w_not (w_lt w_lit (w_len_list (w_arg Z))));rw[SE] at h5;refine Nat.le_of_not_lt λq=>?_
  have q':(n:Int)<((ns.length:Nat):Int):=by omega
  first
   | (rw[decide_eq_true q'] at h5;exact absurd h5 (by decide))
   | (simp at h5;omega)
 cases hwl with
 |cons w1 w2=>
  cases w2
  cases w1 with
  |list ho hall=>exact⟨_,_,ns,Z,Z,ho,mY ns _ hall,hlen⟩
theorem zZ(l:OpenLaw)(args:List WData):l.row.toRowW.claim.post args (.bool true) args=true:=
 postW_of (r:=l.row.toRowW) (X:=(true==true))
  (show WShape.has [] (.bool true) .bool=true by first|rfl|decide|simp[WShape.has,WShape.arms,WShape.armsAll])
  (show(WTm.eq .res (.lit (.bool true))).value [] { args:=args,res:=some (.bool true),after:=args}=some (.bool (true==true)) from w_eq_bool (w_res Z) w_lit) Z
theorem attach_call{l:OpenLaw}{d:DefRec}
  (hn:l.most=some n) (hdf:d.params.defaults=[])
  (call:∀(w:T9) (s₀ s₁:SH) (mg mb:TB->Option Value) (fa:Addr) (o:UU) (pm cd doc:Value) (a:Addr) (vs:List Value) (ns:List Int),
   Ground q loose [] XP w s₀ mg mb s₁.heap->YP w s₁.heap→
   s₁.heap.get? fa=some o->o.data=.func (docDef d.name d.params d.body d.scope pm cd doc)->s₁.heap.CodeRec cd d.name->mg d.name=some (.ref fa)→
   s₁.heap.get? a=some { cls:=.type "list",data:=.seq vs.toArray}->Zr vs ns->ns.length≤n->s₁.gens=#[]→
   XT (Tp l.prog w) Zs (.call (.ref fa) ⟨[.ref a],[]⟩) (λr s'=>r=.ok (.ret (.bool true))/\OldK s₁.heap s'.heap/\s'.os=s₁.os/\Xu s'.gens) s₁):
  WalkO q loose XP YP l.row.toRowW d [] (λf vs=>aa4 f vs):=by
 intro w s₀ s₁ mg mb G Y fa o pm cd doc dV kV ho hd hcd hD hmg hg args vals as hpre hlay hrd hwl hlo;obtain rfl:dV=.none:=Dflts.none hD hdf;obtain rfl:kV=.none:=Dflts.noKw hD;obtain⟨a,vs,ns,rfl,rfl,hobj,hints,hlen⟩:=zQ hn hpre hwl;refine enter_call (YL (call w s₀ s₁ mg mb fa o pm cd doc a vs ns G Y ho (fd_plain hd) hcd hmg hobj hints hlen hg) λr s' hq=>?_);obtain⟨rfl,h2,h3,h4⟩:=hq;exact⟨.inl ⟨.bool true,.bool true,[],Z,λ_=>Z,.bool true,zZ l _,λ_=>⟨Wi.nil,λ_ hm=>(nomatch hm)⟩⟩,h2,h3,h4⟩
section
variable {prog:Tx}{w:T9}{A:TV}{E:Value->SH->Prop}{s:SH}{K:Frag}
def OT(h:SY):SY:={ h with objs:=#[]}
def OW(h:SY)(L d:Addr):List (Addr×UU):=(SC h.objs.size).filterMap λa=>if a=L∨a=d then none else(h.get? a).map λo=>(a,o)
end
end Att
namespace L2
open PySem PySem.Spec PyProof.Rows
theorem qc:∀{vs:List Value} {ns:List Int},Zr vs ns->bP (ns.map V.int) vs
 |_,_,.nil=>.nil
 |_,_,.cons n t h=>.cons ⟨t,Z⟩ (qc h)
def Lj(H:Hp):Prop:=∀b,H b=none∨∃o xs,H b=some (.frz o (.lst xs))
theorem DW{K:Sy}{s₁:SH}{vs:List Value}{ns:List Int}
  (KX:K.In s₁.heap) (hns:s₁.heap.Ns TC mg) (hb:s₁.heap.Ns builtinsNs mb) (hbb:∀x:TB,x ≠ "__name__"->mb x=Vk x) (hlim:s₁.heap.NoLimit) (hg:s₁.gens=#[])
  (ha:s₁.heap.get? a=some { cls:=.type "list",data:=.seq vs.toArray}) (hi:Zr vs ns) (hl:ns.length≤sizeLine) (hr:dX k Zs)
  (F:∀base:SY,K.In base->base.Ns TC mg->bQ P w K mg base CX k fa fd [x] sp) (hbind:∀(s:SH) (u:Value),YK s fd ⟨[u],[]⟩ [(x,u)])
  (hsp:∀H:Hp,Lj H->bu K H a (ns.map V.int)->sp [.ref a] H (λv _=>v=.bl true) λ_ _ _=>False)
  (hCX:∀H e s',CX [] H s₁ (λ_ _ _=>False) e s'->False):
  XT (Tp P w) Zs (.call (.ref fa) ⟨[.ref a],[]⟩) (λr s'=>r=.ok (.ret (.bool true))/\OldK s₁.heap s'.heap/\s'.os=s₁.os/\Xu s'.gens) s₁:=by
 have rv:=qc hi;have lenV:=hi.length;have core:∀H:Hp,Lj H->bu K H a (ns.map V.int)->jT P w H s₁.heap->(∀b,H b≠none->b=a)->(H a≠none->K.lookup a=none)→
   XT (Tp P w) Zs (.call (.ref fa) ⟨[.ref a],[]⟩) (λr s'=>r=.ok (.ret (.bool true))/\OldK s₁.heap s'.heap/\s'.os=s₁.os/\Xu s'.gens) s₁:=by
  intro H hO hS hok hA hK;have base_of:∀{b:Addr} {o:UU},s₁.heap.get? b=some o->H b=none->(tV s₁.heap H).get? b=some o:=λe n=>Eb e n
  have noA:∀{b:Addr} {o:UU} {es:Array aas} {ep:Nat},s₁.heap.get? b=some o->o.data=.dict es ep->H b=none:=λ{b o es ep} e d=>by
   cases q:H b with
   |none=>rfl
   |some u=>
    have e':b=a:=hA b (by rw[q];simp);subst e';rw[ha] at e;cases e;have d':Data.seq vs.toArray _=Data.dict es ep:=d
    cases d'
  have nsK:∀{b:Addr} {m:TB->Option Value},s₁.heap.Ns b m->(tV s₁.heap H).Ns b m:=λ{b m} ⟨o,es,ep,e,d,r⟩=>⟨o,es,ep,base_of e (noA e d),d,r⟩
  have hKb:K.In (tV s₁.heap H):=λb o e=>base_of (KX b o e) (by
   cases q:H b with
   |none=>rfl
   |some u=>
    have e':b=a:=hA b (by rw[q];simp);subst e';rw[hK (by rw[q];simp)] at e;cases e)
  have hM:Mod K mg (tV s₁.heap H):=⟨hKb,nsK hns,⟨mb,nsK hb,hbb⟩,let ⟨mc,h1,h2⟩:=hlim;⟨mc,nsK h1,h2⟩⟩;have e0:vN P w K mg (tV s₁.heap H) Zs [] s₁ H:=⟨Z,hM,λb o e=>Gb e,Xc (Ar _ _),trivial,λb hb=>absurd (show b∈([]:List Addr) from hb) (by simp),hok,.of_eq hg⟩;refine YL ((F _ hKb (nsK hns)).run Zs [] s₁ H ⟨[.ref a],[]⟩ [.ref a] [.ref a] _ _ hr e0 (hbind s₁ (.ref a)) (.cons Z .nil) (hsp H hO hS)) λr s' h=>?_
  cases r with
  |error e=>exact(hCX H e s' h).elim
  |ok fl=>
   cases fl with
   |next=>exact Vw h
   |brk=>exact Vw h
   |cont=>exact Vw h
   |ret u=>
    obtain⟨v,H',os,bare,un,hok',r',q⟩:=h;have q':v=.bl true:=q;subst q';obtain rfl:u=V7 true:=r';refine⟨Z,OldK.of_keep λb o e=>?_,os,bare⟩
    cases q:H b with
    |none=>exact un.keep b o e q (by intro z;exact absurd (show b∈([]:List Addr) from z) (by simp)) (by simp)
    |some u=>
     rcases hO b with z | ⟨ob,xs,z⟩
     ·rw[q] at z;cases z
     ·have z2:=un.frzs b ob _ z;obtain⟨e1,_⟩:=hok b _ z;obtain⟨e2,_⟩:=hok' b _ z2;rw[e] at e1;cases e1;exact e2
 cases hk:K.lookup a with
 |some o=>
  have e:=KX a o hk;rw[ha] at e
  cases e
  refine core (λ_=>none) (λ_=>.inl Z) (.inr ⟨_,vs.toArray,_,hk,Z,Z,Z,by rw[Tr,lenV];exact hl,by simpa using rv⟩) (λb u z=>by have z':(none:Option HO)=some u:=z;cases z') (λb z=>absurd Z z) λz=>absurd Z z
 |none=>
  refine core (λb=>if b=a then some (.frz { cls:=.type "list",data:=.seq vs.toArray} (.lst (ns.map V.int))) else none) (λb=>?_) (.inl (.inr ⟨{ cls:=.type "list",data:=.seq vs.toArray},if_pos Z⟩)) (λb u z=>?_) (λb z=>?_) λ_=>hk
  ·by_cases hb:b=a
   ·exact .inr ⟨_,_,if_pos hb⟩
   ·exact .inl (if_neg hb)
  ·by_cases hb:b=a
   ·have z':=(if_pos hb).symm.trans z
    cases z'
    subst hb;exact⟨ha,by rw[SE];exact hl,vs,_,rv,ha⟩
   ·have z':=(if_neg hb).symm.trans z
    cases z'
  ·by_cases hb:b=a
   ·exact hb
   ·exact absurd (if_neg hb) z
end L2
namespace L2
open PySem PySem.Spec PyProof.Rows
abbrev Su{K:Sy}{h:SY}(_:K.In h):Sy:=K
theorem walk_of{l:aaO}{loose:List TB}{XP:(TB->Option Value)->SY->Prop}{YP:T9->SY->Prop}{d:DefRec}{K:Params->Sy}{CX:T9->vR}{sp:T9->Sp} 
  (hn:l.most=some n) (hn2:n≤sizeLine) (hdf:d.params.defaults=[]) (hr:dX k Zs)
  (hY:∀(w:T9) (h:SY),YP w h->(K w.params).In h)
  (F:∀(w:T9) (mg:TB->Option Value) (fa:Addr) (h:SY),(K w.params).In h->h.Ns TC mg->mg d.name=some (.ref fa)→
   ∃fd:SI,(∀(s:SH) (u:Value),YK s fd ⟨[u],[]⟩ [(x,u)])∧
    ∀base:SY,(K w.params).In base->base.Ns TC mg->bQ l.prog w (K w.params) mg base (CX w) k fa fd [x] (sp w))
  (hsp:∀(w:T9) (H:Hp) (a:Addr) (ns:List Int),ns.length≤n->Lj H->bu (K w.params) H a (ns.map V.int)->sp w [.ref a] H (λv _=>v=.bl true) λ_ _ _=>False)
  (hCX:∀(w:T9) (H:Hp) (s:SH) (e:Value) (s':SH),CX w [] H s (λ_ _ _=>False) e s'->False):
  abf q loose XP YP l.row.toRowW d [] (λf vs=>aa4 f vs):=by
 refine Att.attach_call hn hdf λw s₀ s₁ mg mb fa o pm cd doc a vs ns G Y ho hd hcd hmg hobj hints hlen hg=>?_
 have KX:=hY w _ Y;obtain⟨fd,hb,hF⟩:=F w mg fa _ KX G.T.g hmg;exact DW KX G.T.g G.T.b G.T.builtins G.T.nolimit hg hobj hints (Tu hlen hn2) hr hF hb (λH hO hS=>hsp w H a ns hlen hO hS) λH e s'=>hCX w H s₁ e s'
end L2
namespace L2
open PySem PySem.Spec PyProof.Rows
def tU(s:Stmt)(j:Nat):Stmt:=match s with
 | .ClassDef _ _ _ body _ _ _ _ _ _ _=>body.getD j (.Pass ⟨0,0,0,0⟩)
 |_=>.Pass ⟨0,0,0,0⟩
def eU(s:Stmt):Arguments:=match s with
 | .FunctionDef _ a _ _ _ _ _ _ _ _=>a
 |_=>{ posonlyargs:=[],args:=[],vararg:=none,kwonlyargs:=[],kw_defaults:=[],kwarg:=none,defaults:=[]}
def em(s:Stmt):List Stmt:=match s with
 | .FunctionDef _ _ b _ _ _ _ _ _ _=>b
 |_=>[]
def aC(s:Stmt):Wr:=match s with
 | .FunctionDef _ _ _ _ _ _ sc _ _ _=>sc
 |_=>{ kind:=.function,names:=[],isGenerator:=false,isCoroutine:=false}
abbrev dQ:vR:=λ_ _ _ _ _ _=>False
abbrev E0:XK:=λ_ _ _=>False
theorem iQ:fZ dQ X E0:=λ_ _ _ _ _ _ _ h=>h.elim
structure dN(K:Sy)(x qual:TB)(st:Stmt)(f:Addr)(fd:SI):Prop where
 ex:∃(oc:Value) (od:Option Addr) (kV doc pm:Value) (an:Option Addr) (cdv ct:Value) (osl:Array (Option Value)),
  fd=U0 x qual (eU st) (em st) (aC st) .none kV doc pm an cdv ct/\K.lookup f=some ⟨oc,od,.func fd,osl⟩/\Xd K cdv qual=true
 kp:U8 K (.ref f)=true
section
variable {P:Tx}{w:T9}{K:Sy}{mg:TB->Option Value}{base:SY}
theorem dN.ok{x qual:TB}{st:Stmt}{f:Addr}{fd:SI}{N ps:List TB}{k:Nat}{sp:Sp}(F:dN K x qual st f fd)(S:aL N ps (aC st))(len:∀vs H Q E,sp vs H Q E->vs.length=ps.length)
  (hbody:∀(cdv:Value) (A:TV) (outer:List Env) (s:SH) (H:Hp) (vs:List V) (Q:VK) (E:XK),dX k (A.deeper (Ze qual (aC st) s.heap.objs.size f cdv))->sp vs H Q E→
   ∃t,xG (bY dQ P w K mg base N qual (aC st) f cdv A outer s H E).nox (em st) t/\t { nx:=λ_ H'=>Q .non H',rt:=Q} (start N vs) H):bQ P w K mg base dQ (k+1) f fd ps sp:=by
 obtain⟨oc,od,kV,doc,pm,an,cdv,ct,osl,rfl,lk,hcd⟩:=F.ex;refine Nv lk hcd S len λA outer s H vs Q E hr hsp=>?_
 obtain⟨t,h,q⟩:=hbody cdv A outer s H vs Q E hr hsp;exact⟨t,h.nox,q⟩
theorem dN.binds{x qual:TB}{st:Stmt}{f:Addr}{fd:SI}{ps:List TB}(F:dN K x qual st f fd)
  (h:∀(kV doc pm:Value) (an:Option Addr) (cdv ct:Value) (us:List Value),us.length=ps.length->Z3 (U0 x qual (eU st) (em st) (aC st) .none kV doc pm an cdv ct) ⟨us,[]⟩=Vd (ps.zip us)):bc K fd ps []:=by
 obtain⟨oc,od,kV,doc,pm,an,cdv,ct,osl,rfl,lk,hcd⟩:=F.ex;exact .all (h kV doc pm an cdv ct)
theorem Ee{x qual:TB}{st:Stmt}{f:Addr}{oc:Value}{od an:Option Addr}{osl:Array (Option Value)}{kV doc pm cdv ct:Value}(l:K.lookup f=some ⟨oc,od,.func (U0 x qual (eU st) (em st) (aC st) .none kV doc pm an cdv ct),osl⟩)
  (c:Xd K cdv qual=true) (k:U8 K (.ref f)=true):dN K x qual st f (U0 x qual (eU st) (em st) (aC st) .none kV doc pm an cdv ct):=⟨⟨oc,od,kV,doc,pm,an,cdv,ct,osl,Z,l,c⟩,k⟩
end
theorem yO(hr:dX k A):A.units+1<cLine:=TX (WC (by decide:1≤64) _) hr.units
theorem bi(h:n≤1000):n<sizeLine:=TX h (by decide)
section
variable {X:Cx}
theorem pv(i:Nat){x:TB}{pos:Wh}(hN:X.N[i]?=some x:=by rfl)(hv:NE X.env.scope x:=by first|exact To Z|exact Tn (To Z)|exact Tn (Tn Z))(hd:(x==("__debug__" : TB))=false:=by decide)
  (hcd:(x==("__classdict__" : TB))=false:=by decide):PE X (.Name x pos) (Iw i):=JN hN hv hd hcd
end
theorem d7{A B:Prop}(h:B):if false=true then A else B:=by
 rw[if_neg Tb];exact h
theorem mX{A B:Prop}(h:A):if true=true then A else B:=by
 rw[if_pos Z];exact h
theorem KO{c A B:Prop}[Decidable c](h1:c->A)(h2:¬c->B):if c then A else B:=by
 by_cases h:c
 ·rw[if_pos h];exact h1 h
 ·rw[if_neg h];exact h2 h
theorem yN{c A B:Prop}[Decidable c](hc:c)(h:B):if(!decide c)=true then A else B:=by
 rw[decide_eq_true hc];exact d7 h
def aP(H H':Hp):Prop:=∀b o,H b=some o->H' b=some o
theorem aP.refl(H:Hp):aP H H:=λ_ _ h=>h
theorem aP.trans(a:aP H H1)(b:aP H1 H2):aP H H2:=λc o h=>b c o (a c o h)
theorem aP.seq{K:Sy}{H H':Hp}{a:Addr}{xs:List V}(e:aP H H')(h:bu K H a xs):bu K H' a xs:=by
 rcases h with(h | ⟨o,h⟩)|h
 ·exact .inl (.inl (e _ _ h))
 ·exact .inl (.inr ⟨o,e _ _ h⟩)
 ·exact .inr h
end L2
set_option maxHeartbeats 4000000
namespace B
open PySem L2 PyProof.Rows
theorem Nj{c A B:Prop}[Decidable c](hc:¬c)(h:A):if(!decide c)=true then A else B:=by
 have e:(!decide c)=true:=by rw[decide_eq_false hc];rfl
 rw[if_pos e];exact h
theorem d8{c A B:Prop}[Decidable c](hc:c)(h:A):if decide c=true then A else B:=by
 rw[if_pos (decide_eq_true hc)];exact h
theorem dj{c A B:Prop}[Decidable c](hc:¬c)(h:B):if decide c=true then A else B:=by
 have e:¬decide c=true:=by rw[decide_eq_false hc];intro z;cases z
 rw[if_neg e];exact h
theorem mL{b:Bool}{A B:Prop}(hb:b=true)(h:A):if b=true then A else B:=by rw[if_pos hb];exact h
theorem oQ{b:Bool}{A B:Prop}(hb:b=false)(h:B):if b=true then A else B:=by
 rw[if_neg (by rw[hb];intro z;cases z)];exact h
def mK(A B:String):Option Bool:=if(WN A==WN B)=true then some true else if PySem.W.kitMeta B=true then(fastBuiltinMro A).map (·.contains (.type B)) else none
theorem wU{K:Sy}{A B:String}{b:Bool}(h:mK A B=some b):Ws K (.type A) (.type B)=some b:=h
inductive Ty(H:Hp):V->String->Prop where
 |non:Ty H .non "NoneType"
 |bl (b:Bool):Ty H (.bl b) "bool"
 |int (i:Int):Ty H (.int i) "int"
 |str (x:TB):Ty H (.str x) "str"
 |lst {a:Addr} {xs:List V} (e:H a=some (.lst xs)):Ty H (.ref a) "list"
 |tup {a:Addr} {xs:List V} (e:H a=some (.tup xs)):Ty H (.ref a) "tuple"
theorem Ty.of(K:Sy)(h:Ty H v n):mD K H v (.type n):=by
 cases h with
 |non=>exact .non
 |bl b=>exact .bl b
 |int i=>exact .int i
 |str x=>exact .str x
 |lst e=>exact .lst e
 |tup e=>exact .tup e
def OM:List V->Hp->VK->Prop:=λxs H Q=>∃x n m b,xs=[x,.ty n]/\Ty H x m/\mK m n=some b/\Q (.bl b) H
theorem gL:eM X (.builtin "isinstance") OM:=by
 intro pins s σ H xs us Q I r h;obtain⟨x,n,m,b,rfl,ty,e,q⟩:=h;obtain⟨u,u2,rfl,rx,ry⟩:=AX r;obtain rfl:u2=WN n:=ry;exact Ao I rx (ty.of X.K) (wU e) λtk=>⟨.bl b,H,I.tok tk,Z,q⟩
def Ow:V->Bool
 | .int _=>true
 |_=>false
def Q0(n:String):Bool:=n == "tuple"
structure eX(t:Addr)(H H':Hp):Prop where
 keep:∀b o,b≠t->H b=some o->H' b=some o
 tp:∃xs,H t=some (.lst xs)
 tp':∃xs,H' t=some (.lst xs)
theorem eX.trans(a:eX t H H1)(b:eX t H1 H2):eX t H H2:=⟨λc o n e=>b.keep c o n (a.keep c o n e),a.tp,b.tp'⟩
theorem eX.up(h:H t=some (.lst xs)):eX t H (aO H t (.lst ys)):=⟨λc o n e=>by rw[aA n];exact e,⟨_,h⟩,⟨_,ai⟩⟩
theorem aw(h:H p=none)(o:HO):aP H (aO H p o):=λb u q=>by rw[aA (aU q h)];exact q
theorem eX.same(s:aP H H')(h:∃xs,H t=some (.lst xs)):eX t H H':=⟨λc o _ e=>s c o e,h,let ⟨xs,e⟩:=h;⟨xs,s _ _ e⟩⟩
theorem eX.refl(h:∃xs,H t=some (.lst xs)):eX t H H:=⟨λ_ _ _ e=>e,h,h⟩
def Th(H:Hp)(v:V):Prop:=∃n,Ty H v n/\∀a xs,v=.ref a->H a=some (.tup xs)->∀x∈xs,∃m,Ty H x m
theorem OS{xs:List V}(h0:0≤r)(h1:r<(xs.length:Int)):∃v,ug xs r=some v/\v∈xs:=by
 have hk:r.toNat<xs.length:=by omega
 have ek:r=((r.toNat:Nat):Int):=by omega
 have q:ug xs ((r.toNat:Nat):Int)=some xs[r.toNat]:=be (Sz hk);rw[←ek] at q;exact⟨_,q,S2 hk⟩
theorem Hw{ns:List Int}(h0:0≤r)(h1:r<(ns.length:Int)):∃z:Int,ug (ns.map V.int) r=some (.int z):=by
 obtain⟨v,h,hv⟩:=OS (xs:=ns.map V.int) h0 (by rw[SE];exact h1);obtain⟨z,_,rfl⟩:=SR.mp hv;exact⟨z,h⟩
structure Le(H:Hp)(t s:Addr):Prop where
 ex:∃(ns:List Int) (p q r:Int),H t=some (.lst [.ref s,.int p,.int q,.int r])/\H s=some (.lst (ns.map V.int))/\s≠t/\ns.length≤63/\0≤p/\0≤q/\0≤r
def Oc(K:Sy):Sp:=λvs H Q _=>∃(a:Addr) (ns:List Int),vs=[.ref a]/\bu K H a (ns.map V.int)/\∀(t s:Addr) (H':Hp),aP H H'->H t=none->H s=none->Le H' t s->Q (.ref t) H'
def Oe:Sp:=λvs H Q _=>∃(t s:Addr) (m:Int),vs=[.ref t,.int m]/\Le H t s/\0<m/\m<1073741824/\∀(r:Int) (xs:List V),0≤r->r<m->Le (aO H t (.lst xs)) t s->Q (.int r) (aO H t (.lst xs))
def Od(K:Sy):Sp:=λvs H Q _=>∃(a:Addr) (ns:List Int),vs=[.ref a]/\bu K H a (ns.map V.int)/\ns.length≤63/\∀H',Q (.bl true) H'
theorem vc(ha:0≤a)(hb:0<b):S7 b (a%b)=S7 a b:=by
 obtain⟨n,rfl⟩:=Uc ha;obtain⟨m,rfl⟩:=Uc (UQ hb);rw[←Int.natCast_emod];show Nat.gcd m (n%m)=Nat.gcd n m;rw[Nat.gcd_comm m,←Nat.gcd_rec,Nat.gcd_comm]
theorem xm(i:Int):(if i<0 then -i else i)=(i.natAbs:Int):=by split<;>omega
end B
namespace B
open PySem PySem.Spec L2 PyProof.Rows
mutual
inductive bW(K:Sy)(H:Hp):V->PyData->Prop where
 |non:bW K H .non .none
 |bl (b:Bool):bW K H (.bl b) (.bool b)
 |int (i:Int):bW K H (.int i) (.int i)
 |str (x:TB):bW K H (.str x) (.str x)
 |lst {a:Addr} {xs:List V} {ds:List PyData} (e:bu K H a xs) (h:cf K H xs ds):bW K H (.ref a) (.list ds)
 |tup {a:Addr} {xs:List V} {ds:List PyData} (e:bV K H a xs) (h:cf K H xs ds):bW K H (.ref a) (.tuple ds)
inductive cf(K:Sy)(H:Hp):List V->List PyData->Prop where
 |nil:cf K H [] []
 |cons {x:V} {d:PyData} {xs:List V} {ds:List PyData} (h:bW K H x d) (t:cf K H xs ds):cf K H (x::xs) (d::ds)
end
mutual
theorem bW.reads{X:Cx}{pins:List (Addr×UU)}{σ:L2.St}{H:Hp}{s:SH}(I:Inv X pins σ H s):∀{v:V} {d:PyData} {u:Value},bW X.K H v d->bK v u->∃as,Reads s.heap u d as
 |_,_,u,.non,r=>by cases(show u=VC from r);exact⟨_,.none⟩
 |_,_,u,.bl b,r=>by cases(show u=V7 b from r);exact⟨_,.bool b⟩
 |_,_,u,.int i,r=>by obtain⟨t,q⟩:=(show ∃t,u=VZ i t from r);cases q;exact⟨_,.int i t⟩
 |_,_,u,.str x,r=>by obtain⟨t,q⟩:=(show ∃t,u=XX x t from r);cases q;exact⟨_,.str x t⟩
 |_,_,u,.lst (a:=a) e h,r=>by
  cases(show u=TF a from r)
  obtain⟨its,rv,⟨o,n,ho,hc,_,hd⟩,_⟩:=I.list e;obtain⟨as,q⟩:=cf.reads I h rv;exact⟨_,.list ho hc hd (by simpa using q)⟩
 |_,_,u,.tup (a:=a) e h,r=>by
  cases(show u=TF a from r)
  obtain⟨its,rv,⟨o,ho,hc,n,hd⟩,_⟩:=I.tuple e;obtain⟨as,q⟩:=cf.reads I h rv;exact⟨_,.tuple ho hc hd (by simpa using q)⟩
theorem cf.reads{X:Cx}{pins:List (Addr×UU)}{σ:L2.St}{H:Hp}{s:SH}(I:Inv X pins σ H s):∀{vs:List V} {ds:List PyData} {us:List Value},cf X.K H vs ds->bP vs us->∃as,ReadsAll s.heap us ds as
 |_,_,_,.nil,.nil=>⟨_,.nil⟩
 |_,_,_,.cons h t,.cons r q=>
  let ⟨_,a⟩:=bW.reads I h r;let ⟨_,b⟩:=cf.reads I t q
  ⟨_,.cons a b⟩
end
structure EI(d:PyData):Prop where
 sh:d.showable=true
 nd:d.hasDict=false
 sz:d.shown.length≤sizeLine
 dp:d.depth≤16
def MF(K:Sy):List V->Hp->VK->Prop:=λxs H Q=>∃v d,xs=[v]/\bW K H v d/\EI d/\Q (.str d.shown) H
theorem qF(hr:dX k X.A):eM X (.builtin "repr") (MF X.K):=by
 intro pins s σ H xs us Q I r h;obtain⟨v,d,rfl,dp,sh,q⟩:=h;obtain⟨u,rfl,ru⟩:=ij r
 cases dp with
 |non=>cases(show u=VC from ru);exact PySem.P.repr_of_none ⟨.str "None",H,I.tok _,⟨_,Z⟩,q⟩
 |bl b=>cases(show u=V7 b from ru);exact PySem.P.repr_of_bool ⟨.str _,H,I.tok _,⟨_,Z⟩,q⟩
 |int i=>
  obtain⟨t,e⟩:=(show ∃t,u=VZ i t from ru)
  cases e
  exact PySem.P.repr_of_int (of_decide_eq_true sh.sh) ⟨.str _,H,I.tok _,⟨_,Z⟩,q⟩
 |str x=>
  obtain⟨t,e⟩:=(show ∃t,u=XX x t from ru)
  cases e
  exact PySem.P.repr_of_str ⟨.str _,H,I.tok _,⟨_,Z⟩,q⟩ sh.sz
 | @lst a ys ds e h=>
  cases(show u=TF a from ru)
  obtain⟨as,rd⟩:=bW.reads I (.lst e h) (show bK (.ref a) (.ref a) from Z);exact repr_of_reads' rd sh.sh (λz=>by rw[sh.nd] at z;cases z) hr.gd (by have:=hr.units;have:=sh.dp;omega) (λ_ _ z=>z) (λh' u tk hk=>⟨.str _,H,I.kept hk,⟨_,Z⟩,q⟩) sh.sz
 | @tup a ys ds e h=>
  cases(show u=TF a from ru)
  obtain⟨as,rd⟩:=bW.reads I (.tup e h) (show bK (.ref a) (.ref a) from Z);exact repr_of_reads' rd sh.sh (λz=>by rw[sh.nd] at z;cases z) hr.gd (by have:=hr.units;have:=sh.dp;omega) (λ_ _ z=>z) (λh' u tk hk=>⟨.str _,H,I.kept hk,⟨_,Z⟩,q⟩) sh.sz
end B
namespace B
open PySem PySem.Spec L2 PyProof.Rows
def qB(X:Cx)(N':List TB)(scope:Wr)(fn:TB->Bool)(cs:List (TB×Addr))(C:Addr)(fp:List Addr)(pins:List (Addr×UU))(s:SH)(H:Hp):Cx:=
 { X with N:=N',s₀:=s,H₀:=H,env:=WK scope cs C X.env,outer:=X.stack,stack:=X.stack,ex:=fp,fn:=fn,pn:=X.pn++pins,xe:=λ_ _=>False}
abbrev GJ(X:Cx)(N':List TB)(scope:Wr)(cl:List (TB×Addr))(C:Addr)(fp:List Addr)(pins:List (Addr×UU))(s:SH)(H:Hp):Cx:=qB X N' scope (λ_=>false) cl C fp pins s H
def dD(X:Cx)(scope:Wr)(cl:List (TB×Addr)):List TB->List (Option Nat)->Prop
 | [],[]=>True
 |_::N,none::r=>dD X scope cl N r
 |x::N,some j::r=>X.N[j]?=some x/\X.env.kindOf x=some .cell/\(WK scope cl 0 X.env).kindOf x=some .cell/\cl.lookup x=X.env.cells.lookup x/\dD X scope cl N r
 |_,_=>False
def fm(src:List (Option Nat))(σ:L2.St):L2.St:=src.map λo=>o.bind λj=>(σ[j]?).getD none
theorem dD.len{X:Cx}{scope:Wr}{cl:List (TB×Addr)}:∀{N:List TB} {src:List (Option Nat)},dD X scope cl N src->N.length=src.length
 | [],[],_=>rfl
 |_::_,none::_,h=>congrArg (·+1) (dD.len (X:=X) (scope:=scope) (cl:=cl) h)
 |_::_,some _::_,h=>congrArg (·+1) (dD.len (X:=X) (scope:=scope) (cl:=cl) h.2.2.2.2)
theorem dD.at{X:Cx}{scope:Wr}{cl:List (TB×Addr)}{σ:L2.St}:∀{N:List TB} {src:List (Option Nat)} {i:Nat} {x:TB} {v:V},dD X scope cl N src->N[i]?=some x->(fm src σ)[i]?=some (some v)→
  ∃j:Nat,X.N[j]?=some x/\σ[j]?=some (some v)/\X.env.kindOf x=some .cell/\(WK scope cl 0 X.env).kindOf x=some .cell/\cl.lookup x=X.env.cells.lookup x
 |y::N,none::r,0,x,v,h,e,q=>by cases q
 |y::N,none::r,i+1,x,v,h,e,q=>dD.at (N:=N) (src:=r) (i:=i) h e q
 |y::N,some j::r,0,x,v,h,e,q=>by
  cases e
  refine⟨j,h.1,?_,h.2.1,h.2.2.1,h.2.2.2.1⟩;have q':some ((σ[j]?).getD none)=some (some v):=q;injection q' with q'
  cases z:σ[j]? with
  |none=>rw[z] at q';cases q'
  |some o=>rw[z] at q';exact congrArg some q'
 |y::N,some j::r,i+1,x,v,h,e,q=>dD.at (N:=N) (src:=r) (i:=i) h.2.2.2.2 e q
def lN(X:Cx)(scope:Wr)(cl:List (TB×Addr)):Prop:=
 (∀x,((WK scope cl 0 X.env).kindOf x=some .cell∨(WK scope cl 0 X.env).kindOf x=some .free)->∃c,cl.lookup x=some c)/\∀x c,cl.lookup x=some c->X.env.cells.lookup x=some c
def jv(X:Cx):List (TB×Addr)->Prop
 | []=>True
 |y::r=>X.env.cells.lookup y.1=some y.2/\jv X r
theorem jv.mem{X:Cx}:∀{cl:List (TB×Addr)},jv X cl->∀y∈cl,X.env.cells.lookup y.1=some y.2
 | [],_,y,h=>by cases h
 |z::r,k,y,h=>by
  rcases S6.mp h with e|h
  ·rw[e];exact k.1
  ·exact jv.mem k.2 y h
theorem mem_of_lookup{α:Type}{x:TB}{v:α}:∀{l:List (TB×α)},l.lookup x=some v->(x,v)∈l
 | [],h=>by cases h
 | (y,w)::r,h=>by
  rw[Xp] at h
  cases e:x==y with
  |true=>
   rw[e] at h;have e':x=y:=WW e
   cases h
   rw[e'];exact SO
  |false=>
   rw[e] at h;exact SQ _ (mem_of_lookup h)
theorem bH(h1:((Z9 scope X.env).names.all λy=>!(y.2==.cell||y.2==.free)||(cl.lookup y.1).isSome)=true)(h2:jv X cl):lN X scope cl:=by
 refine⟨λx h=>?_,λx c e=>h2.mem _ (mem_of_lookup e)⟩;have h3:=Vi.mp h1;have key:∀k:WJ,(k=.cell∨k=.free)->(Z9 scope X.env).names.lookup x=some k->∃c,cl.lookup x=some c:=λk hk e=>by
  have q:=h3 _ (mem_of_lookup e);have z:(k==ZD||k==abg)=true:=by rcases hk with rfl|rfl<;>rfl
  simp only[z,Yo,Yp] at q;exact UV.mp q
 rcases h with h|h
 ·exact key _ (.inl Z) h
 ·exact key _ (.inr Z) h
def ii(σ σ':L2.St):Prop:=σ'.length=σ.length/\∀(i:Nat) (v:V),σ[i]?=some (some v)->σ'[i]?=some (some v)
theorem ii.set(h:σ[i]?=some none):ii σ (σ.set i (some v)):=by
 refine⟨UH,λj u e=>?_⟩;have ne:i≠j:=λz=>by subst z;rw[h] at e;cases e
 rw[Ug ne];exact e
theorem ii.set'(e:ii σ τ)(h:σ[i]?=some none):ii σ (τ.set i (some v)):=by
 refine⟨by rw[UH];exact e.1,λj u q=>?_⟩;have ne:i≠j:=λz=>by subst z;rw[h] at q;cases q
 rw[Ug ne];exact e.2 j u q
structure xQ(X:Cx)(scope:Wr)(fn:TB->Bool)(cl cs:List (TB×Addr))(C:Addr):Prop where
 has:∀x,((WK scope cl 0 X.env).kindOf x=some .cell∨(WK scope cl 0 X.env).kindOf x=some .free)->∃c,cs.lookup x=some c
 up:∀x c,cs.lookup x=some c->(fn x=true/\c=C+1)∨X.env.cells.lookup x=some c
 one:∀x y,fn x=true->fn y=true->x=y
 low:∀x c,cl.lookup x=some c->cs.lookup x=some c
 cab:∀x c,fn x=true->cs.lookup x=some c->C≤c
section
variable {X:Cx}{N':List TB}{scope:Wr}{fn:TB->Bool}{cl cs:List (TB×Addr)}{src:List (Option Nat)}{pins:List (Addr×UU)}{σ:L2.St}{H:Hp}{s:SH}{fp:List Addr}
theorem Cx.compG_ok{C:Addr}(I:Inv X pins σ H s)(hC:s.heap.objs.size≤C)(hk:scope.kind=.function)(hf:∀b∈fp,kF X pins H b/\b<s.heap.objs.size)(hc:xQ X scope fn cl cs C) :
  (qB X N' scope fn cs C fp pins s H).Ok where
 mod:=I.ok.mod
 kind:=hk
 glob:=I.ok.glob
 blt:=I.ok.blt
 above:=hC
 inj:=λa b c e1 e2=>by
  have old:∀z,X.env.cells.lookup z=some (C+1)->False:=λz e=>by
   obtain⟨v,o,ho,_⟩:=I.cell z _ e;exact UJ _ (Td (TX (VA C) (Tc ho)) hC)
  rcases hc.up a c e1 with⟨h1,h2⟩|h2
  ·rcases hc.up b c e2 with⟨h3,_⟩|h4
   ·exact hc.one a b h1 h3
   ·rw[h2] at h4;exact(old b h4).elim
  ·rcases hc.up b c e2 with⟨_,h4⟩|h4
   ·rw[h4] at h2;exact(old a h2).elim
   ·exact I.ok.inj a b c h2 h4
 has:=λx h=>hc.has x h
 cab:=λx c z e=>Tu hC (hc.cab x c z e)
 hd:=I.ok.hd
 frames:=I.ok.frames
 stk:=.inl Z
 exf:=λb hb=>⟨λz=>by have:=(hf b hb).2;rw[show b=C from z] at this;exact absurd (Td this hC) (UJ _),λx c e=>by
  rcases hc.up x c e with⟨_,h2⟩|h2
  ·intro z;have q:=(hf b hb).2;rw[show b=C+1 from z.symm.trans h2] at q;exact UJ _ (Td (TX (VA C) q) hC)
  ·exact(hf b hb).1.2.2.2.2.1 x c h2⟩
 bs:=I.bs
 bsz:=Tu I.ok.bsz I.sz
 noex:=λb o e hb=>by
  rcases(hf b hb).1.2.2.2.1 with z|z
  ·exact I.ok.noex b o e z
  ·rw[(I.ok.bs b o e).1] at z;cases z
 exfs:=λb hb z=>by
  rcases S6.mp (I.stkSub b z) with q|q
  ·exact(hf b hb).1.2.1 q
  ·exact(hf b hb).1.2.2.1 q
 funs:=I.stack
 frf:=I.stkFree
theorem Inv.compG{C:Addr}{h₁:SY}{m:TB->Option Value}{tk:Nat}(I:Inv X pins σ H s)(hC:C=s.heap.objs.size)(hns:h₁.Ns C m)(hce:∀x,fn x=true->h₁.IsCell (C+1) none)(keep:∀b o,s.heap.get? b=some o->h₁.get? b=some o)
  (hk:scope.kind=.function) (hf:∀b∈fp,kF X pins H b/\b<s.heap.objs.size) (hc:xQ X scope fn cl cs C) (hfree:dD X scope cl N' src) :
  Inv (qB X N' scope fn cs C fp pins s H) [] (fm src σ) H { s with heap:=h₁,toks:=tk} where
 ok:=Cx.compG_ok I (Xc hC.symm) hk hf hc
 os:=Z
 bare:=I.bare
 base:=Un.kept keep
 loc:=⟨m,hns,λi x v e1 e2 _=>by
  obtain⟨j,hj,hσ,kc,kc',hl⟩:=hfree.at e1 e2;obtain⟨m0,hn0,hl0⟩:=I.loc;obtain⟨u,r,l⟩:=hl0 j x v hj hσ (Tn (To kc));rcases l with⟨k,_⟩ | ⟨k,c,e,o,ho,hd⟩
  ·rw[kc] at k;cases k
  ·exact⟨u,r,.inr ⟨.inl kc',c,hc.low _ _ (hl.trans e),o,keep c o ho,hd⟩⟩⟩
 cell:=λx c e=>by
  rcases hc.up x c e with⟨h1,h2⟩|h2
  ·rw[h2];exact⟨none,hce x h1⟩
  ·obtain⟨v,o,ho,hd⟩:=I.cell x c h2;exact⟨v,o,keep _ _ ho,hd⟩
 free:=I.hok.fresh (Xc hC.symm)
 freeC:=λx c e=>by
  rcases hc.up x c e with⟨_,h2⟩|h2
  ·rw[h2];exact I.hok.fresh (by rw[hC];exact VA _)
  ·exact I.freeC x c h2
 pin:=λp hp=>by
  have hp':p∈X.pn++pins:=by
   have z:p∈(X.pn++pins)++[]:=hp;rw[UZ] at z;exact z
  obtain⟨e,n,ne,nf,d⟩:=I.pin p hp';refine⟨keep _ _ e,n,λz=>?_,λz=>?_,d⟩
  ·have:=Tc e;rw[show p.1=C from z,hC] at this;exact UJ _ this
  ·rcases S6.mp (I.stkSub _ z) with q|q
   ·exact ne q
   ·exact nf q
 hok:=I.hok.kept keep
 len:=by show(fm src σ).length=N'.length;unfold fm;rw[SE,hfree.len]
end
structure pI(X:Cx)(scope:Wr)(fn:TB->Bool)(cl:List (TB×Addr))(f:Addr->List (TB×Addr)):Prop where
 fun_:scope.kind=.function
 cells:∀C,xQ X scope fn cl (f C) C
 make:∀{s:SH} {Q:Env->SH->Prop},(∀(h:SY) (m:TB->Option Value) (tk:Nat) (e:Env),h.Ns s.heap.objs.size m->(∀x,fn x=true->h.IsCell (s.heap.objs.size+1) none)->(∀b o,s.heap.get? b=some o->h.get? b=some o)→
  { e with scope:=Z9 scope X.env}=WK scope (f s.heap.objs.size) s.heap.objs.size X.env->e.locals=s.heap.objs.size->Q e { s with heap:=h,toks:=tk})→
  Tj (Tp X.prog X.w) X.A (X5 scope X.env.globals cl [] X.env.qual none .none (some X.env)) Q X.xe s
theorem Ik(hcell:∀x∈scope.names,x.2≠.cell)(hkind:scope.kind=.function)(hcl:lN X scope cl):pI X scope (λ_=>false) cl (λ_=>cl):=
 ⟨hkind,λ_=>⟨hcl.1,λx c e=>.inr (hcl.2 x c e),λ_ _ z=>(nomatch z),λ_ _ e=>e,λ_ _ z=>(nomatch z)⟩,
  λ{s Q} k=>wpAny_newFunctionEnv hcell (by intro y hy;simp at hy) (λh₄ hns₄ hsb₄=>k _ _ _ _ hns₄ (λ_ z=>(nomatch z)) (λb o e=>hsb₄.extBut b o (Uj (Tc e)) (SK _ e)) Z Z) hkind⟩
def LN(X:Cx)(ifs:List TW)(t:TT):Prop:=
 ∀(pins:List (Addr×UU)) (s:SH) (σ:L2.St) (H:Hp) (Q:Bool->Hp->Prop),Inv X pins σ H s->t σ H Q→
  Tj (Tp X.prog X.w) X.A (forIn ifs true λc r=>if r=true then do let ok ←isTrue c X.env (eval c X.env);Vd (XG ok) else Vd (XG r)) (TP X pins σ Q) X.xe s
def L6:TT:=λ_ H Q=>Q true H
theorem FA:LN X [] L6:=λ_ _ _ H _ I h=>wpAny_tests_nil ⟨H,I,h⟩
theorem Fz(h:PT X c t):LN X [c] t:=λpins s σ H Q I q=>wpAny_tests_one (h pins s σ H Q I q)
section
variable {prog:Tx}{w:T9}{A:TV}{R:aaZ->SH->Prop}{s:SH}
theorem AC(I:Nat->SH->Prop)
  (turn:∀n s,I n s->Tj (Tp prog w) A (pyNext it) (λr s₁=>match r with
   |none=>R (.ok .next) s₁
   |some v=>Tj (Tp prog w) A (XF target it v) (λ_ s₁'=>Tj (Tp prog w) A (Yj target env v) (λ_ s₂=>
     Tj (Tp prog w) A (forIn ifs true λc r=>if r=true then do let ok ←isTrue c env (eval c env);Vd (XG ok) else Vd (XG r)) (λok s₃=>
      if ok=true then Tj (Tp prog w) A (eval elt env) (λx s₄=>
       Tj (Tp prog w) A (call (.builtin "list.append") [acc,x]) (λ_ s₅=>∃m,m<n/\I m s₅) (λ_ _=>False) s₄) (λ_ _=>False) s₃
      else ∃m,m<n/\I m s₃) (λ_ _=>False) s₂) (λ_ _=>False) s₁') (λ_ _=>False) s₁) (λ_ _=>False) s)
  (n:Nat) (h:I n s):XT (Tp prog w) A (.compLoop (.ListComp elt [⟨target,iter,ifs,0⟩] scope pos) 0 it acc env) R s:=by
 refine codeAny_loop Z I (λn s hI=>?_) n h;show Tj _ A ((compTurn (.ListComp elt [⟨target,iter,ifs,0⟩] scope pos) 0 it acc env).onRaise (λx=>do noteFrame x env;theTreesLotGoes x)) _ _ s;refine wpAny_noted ?_;rw[compTurn_list];refine SL (Yk (SL (Vv (turn n s hI) (λr s₁ h₁=>?_) λ_ _ h'=>h'.elim)))
 cases r with
 |none=>exact wpAny_pure h₁
 |some v=>
  refine SL (Vv h₁ (λ_ s₁' h₁'=>?_) λ_ _ h'=>h'.elim);refine SL (Vv h₁' (λ_ s₂ h₂=>SL (Vv h₂ (λok s₃ h₃=>?_) λ_ _ h'=>h'.elim)) λ_ _ h'=>h'.elim)
  cases ok with
  |false=>exact wpAny_pure ⟨Z,h₃⟩
  |true=>
   exact SL (SL (Vv h₃ (λx s₄ h₄=>SL (Vv h₄ (λ_ s₅ h₅=>wpAny_pure (wpAny_pure ⟨Z,h₅⟩)) λ_ _ h'=>h'.elim)) λ_ _ h'=>h'.elim))
end
structure G0(X:Cx)(pins:List (Addr×UU))(H:Hp)(C:Addr):Prop where
 no:H C=none
 lo:C≠X.env.locals
 fs:C∉X.fs
 old:X.s₀.heap.get? C=none
 ce:∀x c,X.env.cells.lookup x=some c->c≠C
 pn:∀p∈X.pn++pins,p.1≠C
theorem G0.turned{X:Cx}{pins:List (Addr×UU)}{σ:L2.St}{H:Hp}{C:Addr}{s:SH}(o:G0 X pins H C)(I:Inv X pins σ H s){h':SY}(sb:Wa C s.heap h'):Inv X pins σ H { s with heap:=h'}:=
 I.turned (it:=C) (t':=s.toks) (λb u hb e=>sb.extBut b u hb e) o.no o.lo (.inr o.old) o.ce o.pn
abbrev N3(J:It)(D:Addr)(H1:Hp)(src:List (Option Nat))(σ:L2.St)(g:TG)(tt:TT)(te:TE)(Q:Hp->Prop):Prop:=∃W:Nat->Nat->List V->Hp->Prop,
 (∃m,W 0 m [] (aO H1 D (.lst [])))/\∀i m ys H,W i m ys H->(J.stop i H/\Q H)∨(J.go i H/\∀x H',J.yld i H x H'->g x (fm src σ) H' λσ2 H2=>ii (fm src σ) σ2/\tt σ2 H2 λok H3=>
  if ok=true then te σ2 H3 λy H4=>H4 D=some (.lst ys)/\ys.length<sizeLine/\∃m',m'<m/\W (i+1) m' (ys++[y]) (aO H4 D (.lst (ys++[y]))) else ∃m',m'<m/\W (i+1) m' ys H3)
def nN(wi:TI)(src:List (Option Nat))(g:TG)(tt:TT)(te:TE):TE:=λσ H Q=>wi σ H λJ H1=>∀D,H1 D=none->N3 J D H1 src σ g tt te (Q (.ref D))
section
variable {X:Cx}{N':List TB}{scope:Wr}{fn:TB->Bool}{cl:List (TB×Addr)}{f:Addr->List (TB×Addr)}{src:List (Option Nat)}{tg iter elt:TW}{ifs:List TW}{wi:TI}{g:TG}{tt:TT}{te:TE}{pos:Wh}
theorem qC(hc:X.calm=true)(hi:PI X tg iter wi)(hg:∀C fp pins s H,PG (qB X N' scope fn (f C) C fp pins s H) tg g)(ht:∀C fp pins s H,LN (qB X N' scope fn (f C) C fp pins s H) ifs tt)
  (he:∀C fp pins s H,PE (qB X N' scope fn (f C) C fp pins s H) elt te) (hfree:dD X scope cl N' src) (hE:pI X scope fn cl f)
  {RR:Value->Addr->aaZ->SH->Prop} {pins:List (Addr×UU)} {s:SH} {σ:L2.St} {H:Hp} {Q:VK} (I:Inv X pins σ H s) (h:nN wi src g tt te σ H Q)
  (hRR:∀D C H' s',Q (.ref D) H'->(∃m,s'.heap.Ns C m)->Inv X pins σ H' s'->G0 X pins H' C->RR (.ref D) C (.ok .next) s') :
  Tj (Tp X.prog X.w) X.A (eval iter X.env) (λx s₁=>Tj (Tp X.prog X.w) X.A (pyIter x) (λitv s₂=>Tj (Tp X.prog X.w) X.A (newList []) (λacc s₃=>
   Tj (Tp X.prog X.w) X.A (X5 scope X.env.globals cl [] X.env.qual none .none (some X.env)) (λcenv s₄=>
    XT (Tp X.prog X.w) X.A (.compStart (.ListComp elt [⟨tg,iter,ifs,0⟩] scope pos) 0 itv acc { cenv with scope:=Z9 scope X.env}) (RR acc cenv.locals) s₄) X.xe s₃) X.xe s₂) X.xe s₁) X.xe s:=by
 refine cT (hi pins s σ H _ I h) λv s1 h1=>cT h1 λitv s2 h2=>?_
 obtain⟨it,fp,tn,J,H2,e,I2,T,st2,f2,h2⟩:=h2;subst e;refine UP ?_ (by show 0≤sizeLine;exact S8 _);have hD:H2 s2.heap.objs.size=none:=I2.fresh;have I3:Inv X pins σ (aO H2 s2.heap.objs.size (.lst [])) { s2 with heap:=s2.heap.push { cls:=.type "list",data:=.seq ([]:List Value).toArray} }:=I2.lnew (t':=s2.toks) (its:=[]) .nil (S8 _);obtain⟨W,⟨m0,w0⟩,turn⟩:=h2 s2.heap.objs.size hD;generalize hDe:s2.heap.objs.size=D at I3 turn w0 hD ⊢;have st3:tn 0 (s2.heap.push { cls:=.type "list",data:=.seq ([]:List Value).toArray}):=T.keep _ _ _ st2 λb _ o e=>SK _ e
 have f3:∀b∈fp,kF X pins (aO H2 D (.lst [])) b/\b<(s2.heap.push { cls:=.type "list",data:=.seq ([]:List Value).toArray}).objs.size:=λb hb=>by
  obtain⟨o,e,_⟩:=T.obj _ _ st2 b hb;have l:=Tc e;rw[hDe] at l;refine⟨⟨?_,(f2 b hb).2⟩,by rw[VF,hDe];exact aaa l⟩;rw[aA (Uj l)];exact(f2 b hb).1
 generalize (s2.heap.push { cls:=.type "list",data:=.seq ([]:List Value).toArray})=h3 at I3 st3 f3 ⊢;refine hE.make λh₄ m₄ tk₄ cenv hns₄ hce₄ keep eE eL=>?_
 rw[eE,eL];have I4:=Inv.compG (C:=h3.objs.size) (fp:=fp) (tk:=tk₄) I3 Z hns₄ hce₄ keep hE.fun_ f3 (hE.cells _) hfree;have st4:tn 0 h₄:=T.keep _ _ _ st3 λb _ o e=>keep b o e
 have fpn:∀b∈fp,(aO H2 D (.lst [])) b=none:=λb hb=>(f3 b hb).1.1
 have hn3:∀b∈fp,b≠h3.objs.size:=λb hb=>Uj (f3 b hb).2
 have stat:∀{H':Hp},(∀b∈fp,H' b=none)->∀b∈fp,kF (qB X N' scope fn (f h3.objs.size) h3.objs.size fp pins { s2 with heap:=h3} (aO H2 D (.lst []))) [] H' b:=λhn b hb=>
  ⟨hn b hb,hn3 b hb,I4.ok.exfs b hb,.inl hb,λx c e=>I4.ok.exf b hb |>.2 x c e,λp hp=>(f3 b hb).1.2.2.2.2.2 p (by
   have z:p∈(X.pn++pins)++[]:=hp;rw[UZ] at z;exact z)⟩
 have back:∀{H':Hp} {s':SH},Inv (qB X N' scope fn (f h3.objs.size) h3.objs.size fp pins { s2 with heap:=h3} (aO H2 D (.lst []))) [] (fm src σ) H' s'->(∃m,s'.heap.Ns h3.objs.size m)/\Inv X pins σ H' s'/\G0 X pins H' h3.objs.size:=λ{H' s'} I'=>by
  have Ib:Inv X pins σ H' s':=I3.call' I'.os I'.base I'.hok I'.bare λb hb=>⟨(f3 b hb).1.2.2.2.1,(f3 b hb).1.2.1,(f3 b hb).1.2.2.2.2.1,(f3 b hb).1.2.2.2.2.2⟩
  refine⟨let ⟨m,hm,_⟩:=I'.loc;⟨m,hm⟩,Ib,⟨I'.free,λz=>?_,I3.nofs (SD _),Xv I3.sz,λx c e z=>?_,λp hp z=>?_⟩⟩
  ·have:=I3.lt;rw[←z] at this;exact UJ _ this
  ·obtain⟨v,o,ho,_⟩:=I3.cell x c e;have:=Tc ho;rw[z] at this;exact UJ _ this
  ·obtain⟨e,_⟩:=I3.pin p hp;have:=Tc e;rw[z] at this;exact UJ _ this
 have loop:XT (Tp X.prog X.w) X.A (.compLoop (.ListComp elt [⟨tg,iter,ifs,0⟩] scope pos) 0 (.ref it) (.ref D) (WK scope (f h3.objs.size) h3.objs.size X.env)) (RR (.ref D) h3.objs.size) { s2 with heap:=h₄,toks:=tk₄}:=by
  refine AC (λn s'=>∃i ys H',Inv (qB X N' scope fn (f h3.objs.size) h3.objs.size fp pins { s2 with heap:=h3} (aO H2 D (.lst []))) [] (fm src σ) H' s'/\tn i s'.heap/\(∀b∈fp,H' b=none)/\W i n ys H') ?_ m0 ⟨0,[],_,I4,st4,fpn,w0⟩;rintro n s5 ⟨i,ys,H5,I5,st5,fr5,w5⟩;rcases turn i n ys H5 w5 with⟨stop,qn⟩ | ⟨go,step⟩
  ·refine cT (T.done (qB X N' scope fn (f h3.objs.size) h3.objs.size fp pins { s2 with heap:=h3} (aO H2 D (.lst []))) rfl rfl rfl hc i [] s5 _ H5 _ I5 (stat fr5) st5 stop) λr s6 ⟨hr,I6⟩=>?_
   subst hr;obtain⟨b1,b2,b3⟩:=back I6;exact hRR D _ H5 s6 qn b1 b2 b3
  ·refine cT (T.item (qB X N' scope fn (f h3.objs.size) h3.objs.size fp pins { s2 with heap:=h3} (aO H2 D (.lst []))) rfl rfl rfl hc i [] s5 _ H5 _ I5 (stat fr5) st5 go) λr s6 ⟨u,hr,h6⟩=>?_
   subst hr;refine cT h6 λ_ s7 ⟨x,H7,I7,r7,y7,st7,fr7⟩=>?_
   have I7':=I7.pinned (stat fr7) (T.obj _ _ st7);refine cT (hg _ _ _ _ _ _ s7 _ H7 x u _ I7' r7 (step x H7 y7)) λ_ s8 ⟨σ8,H8,I8,ex8,q8⟩=>?_
   refine cT (ht _ _ _ _ _ _ s8 σ8 H8 _ I8 q8) λok s9 ⟨H9,I9,q9⟩=>?_
   have again:∀{ys':List V} {Ha:Hp} {sa:SH},Inv (qB X N' scope fn (f h3.objs.size) h3.objs.size fp pins { s2 with heap:=h3} (aO H2 D (.lst []))) ([]++oE fp s7.heap) σ8 Ha sa->(∃m',m'<n/\W (i+1) m' ys' Ha)→
     ∃m,m<n/\∃i ys H',Inv (qB X N' scope fn (f h3.objs.size) h3.objs.size fp pins { s2 with heap:=h3} (aO H2 D (.lst []))) [] (fm src σ) H' sa/\tn i sa.heap/\(∀b∈fp,H' b=none)/\W i m ys H':=λ{ys' Ha sa} Ia ⟨m',hm,wa⟩=>by
    refine⟨m',hm,i+1,ys',Ha,(Ia.unpinned).weak ex8.1.symm ex8.2,T.keep _ _ _ st7 λb hb o e=>(Ia.pin (b,o) (TD _ (TD _ (h9 hb e)))).1,λb hb=>?_,wa⟩;obtain⟨o,e,_⟩:=T.obj _ _ st7 b hb;exact(Ia.pin (b,o) (TD _ (TD _ (h9 hb e)))).2.1
   cases ok with
   |false=>exact again I9 q9
   |true=>
    refine cT (he _ _ _ _ _ _ s9 σ8 H9 _ I9 q9) λy s10 ⟨yv,H10,I10,r10,q10,hz,wn⟩=>?_
    refine cT (ca _ s10 σ8 H10 (.ref D) [yv] (.ref D) [y] (λ_ Hz=>∃m',m'<n/\W (i+1) m' (ys++[yv]) Hz) I10 Z (.cons r10 .nil) ⟨D,ys,yv,Z,Z,q10,hz,wn⟩) λ_ s11 ⟨_,H11,I11,_,q11⟩=>?_
    exact again I11 q11
 exact codeAny_compStart_list loop (T.self _ 0 _ _ _ st4 loop)
theorem Ab(hc:X.calm=true)(hi:PI X tg iter wi)(hg:∀C fp pins s H,PG (qB X N' scope fn (f C) C fp pins s H) tg g)(ht:∀C fp pins s H,LN (qB X N' scope fn (f C) C fp pins s H) ifs tt)
  (he:∀C fp pins s H,PE (qB X N' scope fn (f C) C fp pins s H) elt te) (hfree:dD X scope cl N' src) (hclos:X6 scope X.env=Vd cl) (hE:pI X scope fn cl f)
  (hnames:∀x∈scope.names,x.2=.local->scope.names.lookup x.1=some .local) (hs:∀x,U7 iter X.env x=Vd x:=by intro _;rfl) :
  PE X (.ListComp elt [⟨tg,iter,ifs,0⟩] scope pos) (nN wi src g tt te):=by
 intro pins s σ H Q I h;rw[eval_ListComp];refine Yq (use:=none) Z hs hclos hE.fun_ hnames (qC hc hi hg ht he hfree hE (RR:=λacc C=>compPost (Tp X.prog X.w) X.A X.xe none (EP X pins σ Q) acc C) I h λD C H' s' q hm hI hb=>?_);obtain⟨m,hm⟩:=hm;exact⟨m,hm,λh' sb=>⟨.ref D,H',hb.turned hI sb,Z,q⟩⟩
theorem yu{i:Nat}{x:TB}{pos' pos2:Wh}(hN:X.N.Nodup)(hi':X.N[i]?=some x)(hx:AT X.env.scope x)(hc:X.calm=true)(hi:PI X tg iter wi)(hg:∀C fp pins s H,PG (qB X N' scope fn (f C) C fp pins s H) tg g)(ht:∀C fp pins s H,LN (qB X N' scope fn (f C) C fp pins s H) ifs tt)
  (he:∀C fp pins s H,PE (qB X N' scope fn (f C) C fp pins s H) elt te) (hfree:dD X scope cl N' src) (hclos:X6 scope X.env=Vd cl) (hE:pI X scope fn cl f)
  (hnames:∀x∈scope.names,x.2=.local->scope.names.lookup x.1=some .local) (hs:∀x,U7 iter X.env x=Vd x:=by intro _;rfl)
  (hsw:V1 (.ListComp elt [⟨tg,iter,ifs,0⟩] scope pos) (some (.Name x pos')) pos2.line X.env=Vd true:=by rfl) (hf:X.fn x=true∨X.env.scope.names.lookup x=some .local:=by first|exact .inl Z|exact .inr Z|assumption) :
  PS X (.Assign [.Name x pos'] (.ListComp elt [⟨tg,iter,ifs,0⟩] scope pos) pos2) (uy (nN wi src g tt te) (mM i)):=by
 intro pins s σ H D I h;rw[exec_Assign_Name_used _ _ _ _ hsw];refine SL (Yk ?_);show Tj _ _ ((comprehension (.ListComp elt [⟨tg,iter,ifs,0⟩] scope pos) scope X.env _ (newList []) false (eval iter X.env) (some (Yj (.Name x pos') X.env)) >>= λ_=>Vd ()) >>= λ_=>Vd abk) _ _ s;refine SL (SL (Vv (Yq (use:=some (Yj (.Name x pos') X.env)) (Q:=λ_ s''=>SP X pins D .next s'') Z hs hclos hE.fun_ hnames (qC hc hi hg ht he hfree hE (RR:=λacc C=>compPost (Tp X.prog X.w) X.A X.xe (some (Yj (.Name x pos') X.env)) (λ_ s''=>SP X pins D .next s'') acc C) I h λE C H' s' q hm hI hb=>?_)) (λ_ s'' h''=>wpAny_pure (wpAny_pure h'')) λ_ _ e=>e));obtain⟨m,o,es,ep,ho,hd,r1,r2⟩:=hm;have I':Inv X (pins++[(C,o)]) σ H' s':=hI.pins_of λp hp=>by
  rcases Ti.mp hp with h|h
  ·exact hI.pin p (TD _ h)
  ·rw[SJ] at h;rw[h];exact⟨ho,hb.no,hb.lo,hb.fs,λv z=>by rw[hd] at z;cases z⟩
 refine ZX (gD I' hN hi' hx (show bK (.ref E) (.ref E) from Z) (λs'' I''=>?_) hf);have hC:=(I''.pin (C,o) (TD _ (TD _ SO))).1;have I3:Inv X pins (σ.set i (some (.ref E))) H' s'':=I''.pins_of λp hp=>I''.pin p (TD _ (VO _ hp))
 exact⟨m,⟨o,es,ep,hC,hd,r1,r2⟩,λh' sb=>⟨_,H',hb.turned I3 sb,q⟩⟩
end
def MH(K:Sy):R2:=λx y H Q=>∃d d',bW K H x d/\bW K H y d'/\d.canLay0=true/\d'.canLay0=true/\d.depth≤32/\Q (.bl (!PyData.eqv d d')) H
theorem l5(hr:dX k X.A):iF X (UK .NotEq) (MH X.K):=by
 intro pins s σ H x y v u Q I rx ry h;obtain⟨d,d',hd,hd',c,c',dp,q⟩:=h;obtain⟨as,ra⟩:=bW.reads I hd rx;obtain⟨bs,rb⟩:=bW.reads I hd' ry;exact SeqAt.compareNe_reads ra rb c c' (by have:=hr.units;omega) ⟨.bl _,H,I,Z,q⟩
noncomputable def Qs (h:SY) (x:Value) (d:PyData) (y:Value):Bool:=
 open Classical in if y=x then true else if z:∃d',d'.canLay0=true/\d'.depth≤32/\∃as,Reads h y d' as then UM z.choose d else false
def Ir(K:Sy)(H:Hp)(xs:List V):Prop:=∀x∈xs,∃d,bW K H x d/\d.canLay0=true/\d.depth≤32
def Oh(K:Sy):R2:=λx y H Q=>∃a p xs,x=.ref a/\y=.ref p/\bu K H p xs/\V.ref a∈xs/\Ir K H xs/\Q (.bl false) H
def Om(K:Sy):V->List V->Hp->VK->Prop:=λx vs H Q=>∃p xs a d,x=.ref p/\vs=[.ref a]/\bu K H p xs/\V.ref a∈xs/\Ir K H xs/\bW K H (.ref a) d/\d.canLay0=true/\d.depth≤32∧
 ∀(j:Nat) (v':V),xs[j]?=some v'->(v'=.ref a∨∀d',bW K H v' d'->d'.canLay0=true->UM d' d=true)->Q (.int j) H
end B
namespace B
abbrev R:=Int×Int
def d6(a b:Int):R:=(a/(S7 a b:Int),b/(S7 a b:Int))
structure Wf(n:Nat)(r:R):Prop where
 pos:0<r.2
 top:r.1.natAbs<2^n
 bot:r.2.natAbs<2^n
 cop:S7 r.1 r.2=1
theorem Wf.mono(h:Wf n r)(l:n≤m):Wf m r:=⟨h.pos,Td h.top (UD (by decide) l),Td h.bot (UD (by decide) l),h.cop⟩
theorem cV(hb:0<b):0<(S7 a b:Int):=by
 have h:S7 a b≠0:=λz=>by
  have:=(Int.gcd_eq_zero_iff.mp z).2;omega
 omega
theorem gy(a:Int)(hg:0<g):(a/g).natAbs≤a.natAbs:=by
 have h1:=Int.ediv_mul_le a (show g≠0 by omega);have h2:=Int.lt_ediv_add_one_mul_self a hg;rcases Int.le_total 0 a with h|h
 ·have h3:=Wd h (show 0≤g by omega);have h4:a/g≤a/g*g:=by
   have:a/g*1≤a/g*g:=V6 (by omega) h3;omega
  omega
 ·have h3:a/g≤0:=by
   have:=Int.ediv_le_ediv hg h;rw[Int.zero_ediv] at this;exact this
  have h5:a≤a/g:=by
   have:a/1≤a/g:=by
    have q:(a/g+1)*g≤(a/g+1)*1∨0<a/g+1:=by
     rcases Int.le_total (a/g+1) 0 with z|z
     ·left;have:=V6 (a:=1) (b:=g) (c:=-(a/g+1)) (by omega) (by omega);have e1:-(a/g+1)*1=-((a/g+1)*1):=aaE _ _;have e2:-(a/g+1)*g=-((a/g+1)*g):=aaE _ _;omega
     ·rcases Int.lt_or_eq_of_le z with z|z
      ·right;exact z
      ·left;rw[←z];simp
    rw[YN];rcases q with q|q
    ·omega
    ·omega
   rw[YN] at this;exact this
  omega
theorem wP(hb:0<b)(h1:a.natAbs<2^n)(h2:b.natAbs<2^n):Wf n (d6 a b):=
 ⟨Wv hb (UQ (cV hb)) (VP a b),TX (gy _ (cV hb)) h1,TX (gy _ (cV hb)) h2,WB (by have:=cV (a:=a) hb;omega)⟩
def cP(r q:R):R:=d6 (r.1*q.2+q.1*r.2) (r.2*q.2)
def bA(r q:R):R:=d6 (r.1*q.1) (r.2*q.2)
def dF(r q:R):Bool:=decide (r.1*q.2<q.1*r.2)
theorem oM{x y:Int}(h1:x.natAbs<2^n)(h2:y.natAbs<2^m):(x*y).natAbs<2^(n+m):=by
 rw[Vn,Zf];exact Nat.mul_lt_mul'' h1 h2
theorem A2(h:Wf n r)(k:Wf m q):Wf (n+m) (bA r q):=
 wP (Ut h.pos k.pos) (oM h.top k.top) (oM h.bot k.bot)
end B
namespace B
open PySem L2 PyProof.Rows
def PM(i j:Int):Prop:=i.natAbs<2^8990/\j.natAbs<2^8990
def PH(_ j:Int):Prop:=0<j/\j.natAbs<2^8990
theorem za(h:i.natAbs<2^8990):Zx i≤2^20:=by
 unfold Zx
 split
 ·exact S8 _
 ·rename_i z;have hz:i.natAbs≠0:=λq=>z (by
   have:i=0:=by omega
   rw[this];rfl)
  have:=(Zg hz).mpr h;have e:(2:Nat)^20=1048576:=by decide
  omega
section
variable {X:Cx}
theorem cJ:iF X (Wc .Mult) (rI PM λi j=>.int (i*j)):=LK λ_ _ _ _ _ _ _ hc q=>mul_int q (IntMulOk.of_bits (za hc.1) (za hc.2))
theorem eG:iF X (Wc .FloorDiv) (rI PH λi j=>.int (i/j)):=LK λi j _ _ _ _ _ hc q=>by
 have h1:(0:Int)<j:=hc.1;have h2:j.natAbs<2^8990:=hc.2;refine floordiv_int (by omega) (by rw[X0 i (by omega)];exact q) (.inl (PyProof.noPylong_of_log2 ?_));exact Nat.lt_trans ((Zg (show j.natAbs≠0 by omega)).mpr h2) (by decide)
end
def aR(K:Sy)(H H':Hp):Prop:=∀p xs,bV K H p xs->bV K H' p xs
theorem aR.refl(K:Sy)(H:Hp):aR K H H:=λ_ _ h=>h
theorem aR.trans{K:Sy}{H H1 H2:Hp}(a:aR K H H1)(b:aR K H1 H2):aR K H H2:=λp xs h=>b p xs (a p xs h)
theorem aR.same{K:Sy}{H H':Hp}(s:aP H H'):aR K H H':=λp xs h=>by
 rcases h with(h | ⟨o,h⟩)|h
 ·exact .inl (.inl (s _ _ h))
 ·exact .inl (.inr ⟨o,s _ _ h⟩)
 ·exact .inr h
theorem aR.new{K:Sy}{H:Hp}{p:Addr}(h:H p=none)(o:HO):aR K H (aO H p o):=aR.same (aw h o)
theorem aR.step{K:Sy}{t:Addr}{H H':Hp}(S:eX t H H'):aR K H H':=λp xs h=>by
 obtain⟨ys,ht⟩:=S.tp;rcases h with(h | ⟨o,h⟩)|h
 ·exact .inl (.inl (S.keep _ _ (λz=>by subst z;rw[h] at ht;cases ht) h))
 ·exact .inl (.inr ⟨o,S.keep _ _ (λz=>by subst z;rw[h] at ht;cases ht) h⟩)
 ·exact .inr h
theorem aR.up{K:Sy}{H:Hp}{l:Addr}{xs:List V}(h:H l=some (.lst xs))(ys:List V):aR K H (aO H l (.lst ys)):=aR.step (eX.up h)
def RV(K:Sy)(H:Hp)(v:V)(r:R):Prop:=∃p,v=.ref p/\bV K H p [.int r.1,.int r.2]
theorem RV.mono{K:Sy}{H H':Hp}{v:V}{r:R}(h:RV K H v r)(t:aR K H H'):RV K H' v r:=let ⟨p,e,q⟩:=h;⟨p,e,t _ _ q⟩
theorem RV.of{K:Sy}{H:Hp}{p:Addr}{a b:Int}(h:H p=some (.tup [.int a,.int b])):RV K H (.ref p) (a,b):=⟨p,Z,bV.of h⟩
def Oq(K:Sy)(H:Hp)(xs:List V)(rs:List R):Prop:=xs.length=rs.length/\∀(i:Nat) (x:V) (r:R),xs[i]?=some x->rs[i]?=some r->RV K H x r
theorem Oq.at{K:Sy}{H:Hp}{xs:List V}{rs:List R}{i:Nat}{x:V}(h:Oq K H xs rs)(e:xs[i]?=some x):∃r,rs[i]?=some r/\RV K H x r:=by
 have hi:=(SN.mp e).1;have hj:i<rs.length:=by rw[←h.1];exact hi
 exact⟨rs[i],Sz hj,h.2 i x _ e (Sz hj)⟩
def dk(r:R):Nat->R
 |0=>(1,1)
 |k+1=>bA (dk r k) r
theorem xS:Wf 1 (0,1):=⟨by decide,by decide,by decide,by decide⟩
def eN(rs:List R):R:=rs.foldl cP (0,1)
def dR(r:R):PyData:=.tuple [.int r.1,.int r.2]
theorem RV.deep{K:Sy}{H:Hp}{v:V}{r:R}(h:RV K H v r):bW K H v (dR r):=by
 obtain⟨p,rfl,q⟩:=h;exact .tup q (.cons (.int _) (.cons (.int _) .nil))
theorem Ev(r:R):(dR r).canLay0=true:=Z
theorem lj(r:R):(dR r).depth≤32:=by show max 0 (max 0 0)+1≤32;decide
theorem KA{i:Int}(h:i.natAbs<2^n)(hn:n≤1900):i.natAbs.log2<1920:=by
 by_cases z:i.natAbs=0
 ·rw[z];decide
 ·have:=(Zg z).mpr (Td h (UD (by decide) hn));omega
theorem KC(h:i.natAbs<2^n)(hn:n≤1900):(aa5 i).shown.length≤1921:=by
 have q:=int_text_length_le (a:=i) (k:=1920) (by decide) (KA h hn);have e:(aa5 i).shown.length=(toString i).length:=by
  show(Wy (toString i)).length=_;exact PySem.ofString_length _
 omega
theorem K0(h:UM (dR r) (dR q)=true):r=q:=by
 have z:(r.1==q.1&&(r.2==q.2&&true))=true:=h;simp only[Yr,Ta,beq_iff_eq] at z;exact Z5 z.1 z.2
theorem vj(r:R):UM (dR r) (dR r)=true:=by
 show(r.1==r.1&&(r.2==r.2&&true))=true;simp
end B
namespace B
open PySem L2 PyProof.Rows
def dL(rs:List R):PyData:=.list (rs.map dR)
def Nk(K:Sy)(tl:TE):TI:=λσ H R=>tl σ H λx H1=>(∃a,x=.ref a/\(∃xs,bu K H1 a xs)/\R (Lp K a) H1)∨(∃a,x=.ref a/\(∃xs,bV K H1 a xs)/\R (Lo K a) H1)
theorem JK(hl:PE X l tl):PI X tg l (Nk X.K tl):=by
 intro pins s σ H R I h;refine cT (hl pins s σ H _ I h) λv s1 ⟨x,H1,I1,r1,q1⟩=>?_
 rcases q1 with⟨a,e,⟨xs,hq⟩,q⟩ | ⟨a,e,⟨xs,hq⟩,q⟩
 ·subst e;cases r1;obtain⟨its,rv,p,hz⟩:=I1.list hq;refine Xa p.isList ?_;refine⟨s1.heap.objs.size,[s1.heap.objs.size],_,_,H1,Z,I1.kept (t':=s1.toks) λb o e=>SK _ e,qg a _,⟨_,Tg _ Z,Z,Z⟩,λb hb=>?_,q⟩;have e:b=s1.heap.objs.size:=by simpa using hb
  subst e;exact I1.fpOk (SD _) (I1.hok.fresh (SD _))
 ·subst e;cases r1;obtain⟨its,rv,p,hz⟩:=I1.tuple hq;refine Wb (show s1.heap.IsTuple a its.toArray from p) ?_;refine⟨s1.heap.objs.size,[s1.heap.objs.size],_,_,H1,Z,I1.kept (t':=s1.toks) λb o e=>SK _ e,nK a _,⟨_,Tg _ Z,Z,Z⟩,λb hb=>?_,q⟩;have e:b=s1.heap.objs.size:=by simpa using hb
  subst e;exact I1.fpOk (SD _) (I1.hok.fresh (SD _))
end B
namespace B
structure gW(r:R):Prop where
 pos:0<r.2
 cop:S7 r.1 r.2=1
theorem jm(hb:0<b):gW (d6 a b):=
 ⟨Wv hb (UQ (cV hb)) (VP a b),WB (by have:=cV (a:=a) hb;omega)⟩
theorem eR(hb:0<b)(hy:0<y)(g:S7 x y=1)(e:x*b=a*y):d6 a b=(x,y):=by
 have h1:S7 (a*y) (b*y)=S7 a b*y.natAbs:=aab a y b;have h2:S7 (x*b) (y*b)=S7 x y*b.natAbs:=aab x b y;rw[e,VQ y b,h1,g,Xx] at h2;have h3:(S7 a b:Int)*y=b:=by
  have z:((S7 a b*y.natAbs:Nat):Int)=(b.natAbs:Int):=congrArg _ h2;rw[XH,Zh (by omega),Zh (by omega)] at z;exact z
 have gp:=cV (a:=a) hb;have h4:a=x*(S7 a b:Int):=by
  have z:x*(S7 a b:Int)*y=a*y:=by rw[ZE,h3];exact e
  exact(Ww (by omega) z).symm
 unfold d6;generalize (S7 a b:Int)=G at h3 h4 gp;subst h4;subst h3;rw[Int.mul_ediv_cancel _ (by omega),Tt _ (by omega)]
theorem iZ(h:S7 a b=1)(d:c∣a):S7 c b=1:=
 ZQ.mpr λz h1 h2=>ZQ.mp h z (VS h1 d) h2
theorem js(h:S7 a b=1)(d:c∣b):S7 a c=1:=by
 rw[Vx];exact iZ (by rw[Vx];exact h) d
theorem nE(h:S7 a b=1)(k:S7 a c=1):S7 a (b*c)=1:=by
 rw[Int.gcd_mul_right_right_of_gcd_eq_one h];exact k
theorem lu(h:S7 a c=1)(k:S7 b c=1):S7 (a*b) c=1:=by
 rw[Vx];exact nE (by rw[Vx];exact h) (by rw[Vx];exact k)
theorem fK(hb:0<b):∃g x y:Int,(S7 a b:Int)=g/\0<g/\a=g*x/\b=g*y/\S7 x y=1:=by
 have gp:=cV (a:=a) hb;obtain⟨x,hx⟩:=aau a b;obtain⟨y,hy⟩:=VP a b;refine⟨_,x,y,Z,gp,hx,hy,?_⟩;have z:=WB (i:=a) (j:=b) (by omega);have e1:a/(S7 a b:Int)=x:=by
  conv=>lhs;lhs;rw[hx]
  exact Tt _ (by omega)
 have e2:b/(S7 a b:Int)=y:=by
  conv=>lhs;lhs;rw[hy]
  exact Tt _ (by omega)
 rw[e1,e2] at z;exact z
theorem ku{g y b:Int}(hb:0<b)(hg:0<g)(e:b=g*y):0<y:=by
 rcases Int.lt_or_le 0 y with h|h
 ·exact h
 ·have:=V6 h (UQ hg);rw[Int.mul_zero] at this;omega
def uU(r q:R):R:=
 let d:Int:=(S7 r.2 q.2:Nat);let t:=r.1*(q.2/d)+q.1*(r.2/d);let e:Int:=(S7 t d:Nat)
 (t/e,r.2/d*(q.2/e))
theorem C7(hr:gW r)(hq:gW q):uU r q=cP r q:=by
 obtain⟨d,u,v,e0,dp,e1,e2,cuv⟩:=fK (a:=r.2) hq.pos;have up:=ku hr.pos dp e1;have vp:=ku hq.pos dp e2;obtain⟨e,x,w,f0,ep,f1,f2,cxw⟩:=fK (a:=r.1*v+q.1*u) dp;have wp:=ku dp ep f2;have du:r.2/d=u:=by rw[e1];exact Tt _ (by omega)
 have dv:q.2/d=v:=by rw[e2];exact Tt _ (by omega)
 have te:(r.1*v+q.1*u)/e=x:=by rw[f1];exact Tt _ (by omega)
 have qe:q.2/e=w*v:=by rw[e2,f2,ZE];exact Tt _ (by omega)
 have c1:S7 r.1 u=1:=js hr.cop ⟨d,by rw[e1,VQ]⟩;have c2:S7 q.1 v=1:=js hq.cop ⟨d,by rw[e2,VQ]⟩;have xd:x∣(r.1*v+q.1*u):=⟨e,by rw[f1,VQ]⟩;have t1:S7 (r.1*v+q.1*u) u=1:=by
  rw[Vx,XV,Vx];exact lu c1 (by rw[Vx];exact cuv)
 have t2:S7 (r.1*v+q.1*u) v=1:=by
  rw[Int.add_comm,Vx,XV,Vx];exact lu c2 cuv
 have cx:S7 x (u*(w*v))=1:=nE (iZ t1 xd) (nE cxw (iZ t2 xd));have z:uU r q=(x,u*(w*v)):=by
  unfold uU;simp only[e0,du,dv,f0,te,qe]
 rw[z];unfold cP;refine(eR (Ut hr.pos hq.pos) (Ut up (Ut wp vp)) cx ?_).symm;have k:r.1*q.2+q.1*r.2=d*(e*x):=by
  rw[e1,e2,←f1,Int.mul_add];rw[Xe r.1 d v,Xe q.1 d u]
 rw[k,e1,e2];have k2:d*u*(d*v)=d*u*(e*w*v):=by rw[←f2]
 rw[k2]
 ac_rfl
def nM(r q:R):R:=
 let l:Int:=(S7 r.1 q.2:Nat);let m:Int:=(S7 q.1 r.2:Nat)
 (r.1/l*(q.1/m),r.2/m*(q.2/l))
theorem zy(hr:gW r)(hq:gW q):nM r q=bA r q:=by
 obtain⟨l,a,b,e0,lp,e1,e2,cab⟩:=fK (a:=r.1) hq.pos;obtain⟨m,c,d,f0,mp,f1,f2,ccd⟩:=fK (a:=q.1) hr.pos;have bp:=ku hq.pos lp e2;have dp:=ku hr.pos mp f2;have z:nM r q=(a*c,d*b):=by
  unfold nM;simp only[e0,f0];rw[show r.1/l=a by rw[e1];exact Tt _ (by omega),show q.2/l=b by rw[e2];exact Tt _ (by omega),
   show q.1/m=c by rw[f1];exact Tt _ (by omega),show r.2/m=d by rw[f2];exact Tt _ (by omega)]
 have cad:S7 a d=1:=iZ (js hr.cop ⟨m,by rw[f2,VQ]⟩) ⟨l,by rw[e1,VQ]⟩;have ccb:S7 c b=1:=iZ (js hq.cop ⟨l,by rw[e2,VQ]⟩) ⟨m,by rw[f1,VQ]⟩;rw[z];unfold bA;refine(eR (Ut hr.pos hq.pos) (Ut dp bp) (nE (lu cad ccd) (lu cab ccb)) ?_).symm;rw[e1,e2,f1,f2]
 ac_rfl
theorem C6(hr:gW r)(hq:gW q):gW (cP r q):=jm (Ut hr.pos hq.pos)
theorem zx(hr:gW r)(hq:gW q):gW (bA r q):=jm (Ut hr.pos hq.pos)
theorem oC{r:R}(hr:gW r):∀k:Nat,dk r k=(r.1^k,r.2^k)
 |0=>by rw[YU,YU];rfl
 |k+1=>by
  show bA (dk r k) r=_;rw[oC hr k];unfold bA;refine eR (Ut (Int.pow_pos hr.pos) hr.pos) (Int.pow_pos hr.pos) (Int.pow_gcd_pow_of_gcd_eq_one hr.cop) ?_;rw[YV,YV]
end B
namespace B
open PySem L2 PyProof.Rows
def QM(_ j:Int):Prop:=j≠0/\j.natAbs<2^8990
def RA(a b:Int):R:=if b<0 then d6 (-a) (-b) else d6 a b
def bJ(r q:R):R:=d6 (r.1*q.2-q.1*r.2) (r.2*q.2)
def M3(r q:R):R:=RA (r.1*q.2) (r.2*q.1)
structure QC(d:PyData):Prop where
 sh:d.showable=true
 nd:d.hasDict=false
 sz:d.shown.length≤5000
 dp:d.depth≤8
end B
namespace B
theorem qr(hb:0<b):(d6 a b).1*b=a*(d6 a b).2:=by
 obtain⟨g,x,y,_,gp,e1,e2,c⟩:=fK (a:=a) hb;have yp:=ku hb gp e2;have e:x*b=a*y:=by rw[e1,e2];ac_rfl
 rw[eR hb yp c e];exact e
theorem u3(r q:R):cP r (-q.1,q.2)=bJ r q:=by
 unfold cP bJ;rw[aaE,←Int.sub_eq_add_neg]
end B
namespace B
open PySem PySem.Spec L2 PyProof.Rows
section
variable {prog:Tx}{w:T9}{A:TV}{E:Value->SH->Prop}{h:SY}{g:Array GenState}{d:Drawn}{t:Nat}{os:OsState}{K:Sy}
variable {nm q:TB}{C N:Addr}{bs bm bmB:List Value}{hdct:Bool}{sn:List TB}{sub:List Value}{ab:Bool}{col:Option Bool}{dd:Option Addr}{k0 k1 k2 k3 k5:Option Value}{bN newId initId:String}
end
def L1:List Value:=[.type "ValueError",.type "Exception",.type "BaseException",.type "object"]
structure AO(K:Sy)(C:Addr)(bm:List Value):Prop where
 ob:∃nm q N bs hdct sn sub ab col dd k0 k1 k2 k3 k5,K.lookup C=some (excClassObj nm q C N bs bm hdct sn sub ab col dd k0 k1 k2 k3 k5 "ValueError.__new__")
 tl:∀h:SY,K.In h->OwnTail h L1 bm
 hd:Xb K C=true
 sa:Uh K (.ref C) "__setattr__"=some (some (.builtin "object.__setattr__"))
section
variable {prog:Tx}{w:T9}{A:TV}{s:SH}{K:Sy}{x C:Addr}{R:aaZ->SH->Prop}
end
def Pz(a C:Addr)(dx:Option Addr):SY->Prop:=λh=>∃t:Addr,h.get? a=some { cls:=.ref C,dict:=dx,data:=.fields #[.ref t,.none,.none,.none,.bool false,.none]}
def vh(a C:Addr)(dx:Option Addr):HO:=.ext (Pz a C dx)
def Qu(H:Hp)(a:Addr):Hp:=λb=>if b=a then none else H b
section
variable {X:Cx}{pins:List (Addr×UU)}{σ:L2.St}{H:Hp}{s:SH}{a C:Addr}{dx:Option Addr}
end
def Qz(h:SY)(H:Hp)(x C T:Addr)(a0:Value):Prop:=
 ∃oe vs oT ts,h.get? x=some oe/\oe.cls=.ref C/\vs[0]?=some a0/\oe.data=.fields vs/\vs[1]?=some (.ref T)/\H T=none/\T≠x/\h.get? T=some oT/\oT.data=.fields ts/\ts[3]?=some .none
def Sw(P:Tx)(w:T9):vR:=λouter H s E e s'=>∃(x C T:Addr) (a0:Value) (H':Hp),e=.ref x/\s'.os=s.os/\Xu s'.gens/\Un (yR outer) [] H H' s.heap s'.heap/\jT P w H' s'.heap/\s.heap.get? x=none/\s.heap.get? T=none/\H' x=none∧
 Qz s'.heap H' x C T a0/\E (.ref C) none H'
structure qT(X:Cx)(pins:List (Addr×UU))(a:Addr):Prop where
 st:X.s₀.heap.get? a=none
 lo:a≠X.env.locals
 ce:∀x c,X.env.cells.lookup x=some c->c≠a
 pi:∀p∈X.pn++pins,p.1≠a
 fr:a∉yR X.stack
section
variable {X:Cx}{pins:List (Addr×UU)}{σ:L2.St}{H H':Hp}{s:SH}{a:Addr}
end
section
variable {X:Cx}{pins:List (Addr×UU)}{σ:L2.St}{H:Hp}{s:SH}{a:Addr}{o:HO}
end
structure XC(K:Sy)(C f:Addr)(bm:List Value):Prop where
 ob:∃nm q N bs hdct sn sub ab col dd k0 k1 k2 k3 k5,K.lookup C=some (excClassObj nm q C N bs bm hdct sn sub ab col dd k0 k1 k2 k3 k5 "ValueError.__new__")
 tl:∀h:SY,K.In h->OwnTail h L1 bm
 init:Uh K (.ref C) "__init__"=some (some (.ref f))
 fn:aaY K (.ref f)=some (.type "function")
 kp:U8 K (.ref C)=true
 cl:AO K C bm
section
variable {X:Cx}{k:Nat}{f C:Addr}{fd:SI}{ps:List TB}{sp:Sp}{bm:List Value}
def QB(X:Cx)(E:XK):Prop:=∀(pins:List (Addr×UU)) (σ:L2.St) (H:Hp) (s:SH) (a C:Addr) (oe:UU) (vs:Array Value) (a0:Value),L2.Inv X pins σ H s->H a=none->qT X pins a->s.heap.get? a=some oe->oe.data=.fields vs→
 vs[0]?=some a0->vs[1]?=some .none->oe.cls=.ref C->E (.ref C) none H->X.xe (.ref a) s
def OC(C:Addr)(sp:Sp)(E:XK)(t:TA):TS:=λ_ σ H=>t σ H λvs H1=>vs.length≤sizeLine/\∀a,H1 a=none->sp (.ref a::vs) (aO H1 a (vh a C none)) (λv H2=>v=.non/\(∃dx,H2 a=some (vh a C dx))/\E (.ref C) none (Qu H2 a)) E0
end
section
variable {X:Cx}{pins:List (Addr×UU)}{σ:L2.St}{H:Hp}{s:SH}{a C T:Addr}{a0:Value}
end
def Nn(N:List TB):L2.St:=Tq N.length none
def RW(X:Cx)(pins:List (Addr×UU))(R:Addr->Hp->Prop):Value->SH->Prop:=λe s=>∃(x C T:Addr) (a0:Value) (H:Hp),e=.ref x/\L2.Inv X pins (Nn X.N) H s/\H x=none/\qT X pins x/\qT X pins T/\Qz s.heap H x C T a0/\R C H
def Qo(X:Cx)(pins:List (Addr×UU))(R:Addr->Hp->Prop):Cx:={ X with pn:=X.pn++pins,xe:=RW X pins R}
def Qp(X:Cx)(e:Addr):Cx:={ X with A:=X.A.mark (some (.ref e)),calm:=false,xe:=λ_ _=>False}
section
variable {X:Cx}{pins pins':List (Addr×UU)}{σ:L2.St}{H:Hp}{s:SH}{R:Addr->Hp->Prop}{e:Addr}
end
def Q2(N:List TB)(R:Addr->Hp->Prop)(Ok:Addr->Prop)(tb:TS)(th:TS):TS:=λD σ H=>tb D σ H/\∀C H',R C H'->Ok C/\th D (Nn N) H'
section
variable {X:Cx}{R:Addr->Hp->Prop}{body:List Stmt}{b₀:Stmt}{suite:List Stmt}{x:TB}{p hpos pos:Wh}{u:Value}{tb th:TS}
end
section
variable {X:Cx}{o value:TW}{f:TB}{ta tv:TE}{pos' pos:Wh}
def P6(K:Sy)(ta tv:TE)(f:TB):TS:=λD σ H=>tv σ H λ_ H1=>ta σ H1 λx H2=>∃a C bm,x=.ref a/\H2 a=some (vh a C none)/\AO K C bm/\eY K C f/\∀d,D.nx σ (aO H2 a (vh a C (some d)))
end
def R1(R:Addr->Hp->Prop):XK:=λv _ H=>∃C,v=.ref C/\R C H
def Mh(es:Array aas):Bool:=es.toList.all λe=>match e.key with
 | .str _ _=>true
 |_=>false
structure Lv(K:Sy)(C:Addr):Prop where
 ga:Uh K (.ref C) "__getattribute__"=some (some (.builtin "BaseException.__getattribute__"))
 gn:Uh K (.ref C) "__getattr__"=some none
 cl:Uh K (.ref C) "__class__"=some (some (.builtin "object.__class__"))
 cg:Yd K (.builtin "object.__class__") "__get__"=some (some (.builtin "getset_descriptor.__get__"))
 ct:aaM K (.builtin "object.__class__")=some true
section
variable {prog:Tx}{w:T9}{A:TV}{E:Value->SH->Prop}{s:SH}{K:Sy}{x C:Addr}{ox:UU}{odo:Option UU}{bm:List Value}{name:TB}{tk:Tok}{R:aaZ->SH->Prop}
end
section
variable {K:Sy}{x C:Addr}{ox od:UU}{bm:List Value}
end
structure RS(S ch:List Addr)(h h':SY):Prop where
 same:∀b o,b∉S->b∉ch->h.get? b=some o->h'.get? b=some o
 slot:∀b o,b∉ch->h.get? b=some o->∃sl,h'.get? b=some { o with slots:=sl}
def NF(h:SY)(x C T:Addr)(dx:Option Addr)(fl:Value):Prop:=
 ∃oe vs oT ts,h.get? x=some oe/\oe.cls=.ref C/\oe.dict=dx/\oe.data=.fields vs/\vs[1]?=some (.ref T)/\T≠x/\h.get? T=some oT/\oT.data=.fields ts/\ts[3]?=some fl
section
variable {M:Model}{A:TV}{E:Value->SH->Prop}{s:SH}{base:SY}{env:Env}{outer:List Env}{L e C T:Addr}{oe:UU}{vs:Array Value}{dx:Option Addr}{fl:Value}
end
def PF(d:Addr)(fs:List (TB×V)):SY->Prop:=λh=>∃mA,h.Ns1 d mA/\∀f,ie (fs.lookup f) (mA f)
def dO(d:Addr)(fs:List (TB×V)):HO:=.ext (PF d fs)
section
variable {X:Cx}{pins:List (Addr×UU)}{σ:L2.St}{H:Hp}{s:SH}{a C:Addr}
end
section
variable {X:Cx}{o value:TW}{f:TB}{ta tv:TE}{pos' pos:Wh}
def P7(K:Sy)(ta tv:TE)(f:TB):TS:=λD σ H=>tv σ H λy H1=>ta σ H1 λx H2=>∃a C bm,x=.ref a/\AO K C bm/\eY K C f∧
 ((H2 a=some (vh a C none)/\∀d,H2 d=none->d≠a->D.nx σ (aO (aO H2 a (vh a C (some d))) d (dO d [(f,y)])))∨
  ∃d fs,H2 a=some (vh a C (some d))/\H2 d=some (dO d fs)/\fs.length≤100/\D.nx σ (aO H2 d (dO d ((f,y)::fs))))
end
section
variable {X:Cx}{pins:List (Addr×UU)}{σ:L2.St}{H:Hp}{s:SH}{a C T:Addr}{dx:Option Addr}{fl:Value}
end
def Sx(P:Tx)(w:T9):vR:=λouter H s E e s'=>∃(x C T:Addr) (dx:Option Addr) (H':Hp),e=.ref x/\s'.os=s.os/\Xu s'.gens/\Un (yR outer) [] H H' s.heap s'.heap/\jT P w H' s'.heap/\s.heap.get? x=none/\s.heap.get? T=none/\H' x=none/\H' T=none∧
 NF s'.heap x C T dx .none/\E (.ref C) dx H'
section
variable {P:Tx}{w:T9}{K:Sy}{mg:TB->Option Value}{base:SY}{N:List TB}{qual:TB}{scope:Wr}{f:Addr}{cd:Value}{A:TV}{outer:List Env}{s:SH}{H:Hp}{E:XK}
def Pj(X:Cx)(E:XK):Prop:=∀(pins:List (Addr×UU)) (σ:L2.St) (H:Hp) (s:SH) (a C:Addr) (dx:Option Addr) (oe:UU) (vs:Array Value),L2.Inv X pins σ H s->H a=none->qT X pins a->s.heap.get? a=some oe->oe.data=.fields vs→
 vs[1]?=some .none->oe.cls=.ref C->oe.dict=dx->E (.ref C) dx H->X.xe (.ref a) s
end
section
variable {X:Cx}{k:Nat}{f C:Addr}{fd:SI}{ps:List TB}{sp:Sp}{bm:List Value}
def N6(C:Addr)(sp:Sp)(E:XK)(t:TA):TS:=λ_ σ H=>t σ H λvs H1=>vs.length≤sizeLine/\∀a,H1 a=none->sp (.ref a::vs) (aO H1 a (vh a C none)) (λv H2=>v=.non/\∃dx,H2 a=some (vh a C dx)/\E (.ref C) dx (Qu H2 a)) E0
end
abbrev RX:=Addr->Option Addr->Hp->Prop
def Py(X:Cx)(pins:List (Addr×UU))(R:RX):Value->SH->Prop:=λe s=>∃(x C T:Addr) (dx:Option Addr) (H:Hp),e=.ref x/\L2.Inv X pins (Nn X.N) H s/\H x=none/\qT X pins x/\H T=none/\qT X pins T/\NF s.heap x C T dx .none/\R C dx H
def O0(X:Cx)(pins:List (Addr×UU))(R:RX):Cx:={ X with pn:=X.pn++pins,xe:=Py X pins R}
section
variable {X:Cx}{pins pins':List (Addr×UU)}{σ:L2.St}{H:Hp}{s:SH}{R:RX}{e:Addr}
def R3(R:RX):XK:=λv dx H=>∃C,v=.ref C/\R C dx H
end
def R0(a C d:Addr):SY->Prop:=λh=>∃oe,h.get? a=some oe/\oe.cls=.ref C/\oe.dict=some d/\PySem.W.notCls oe=true
def Nw(a C d:Addr):HO:=.ext (R0 a C d)
def O6(i:Nat)(D:lM):lM:={ nx:=λσ H=>D.nx (σ.set i none) H,rt:=D.rt,bk:=λσ H=>D.bk (σ.set i none) H,ct:=λσ H=>D.ct (σ.set i none) H}
def PP(N:List TB)(R:RX)(Ok:Addr->Prop)(tb th:TS):TS:=λD σ H=>tb D σ H/\∀C dx H',R C dx H'->Ok C/\th D (Nn N) H'
def OA(N:List TB)(i:Nat)(R:RX)(Ok:Addr->Prop)(tb th:TS):TS:=λD σ H=>tb D σ H/\∀C dx H',R C dx H'->Ok C/\∃d,dx=some d/\∀a,H' a=none->th (O6 i D) ((Nn N).set i (some (.ref a))) (aO H' a (Nw a C d))
section
variable {X:Cx}{R:RX}{body:List Stmt}{b₀:Stmt}{suite:List Stmt}{x:TB}{p hpos pos:Wh}{u:Value}{tb th:TS}
end
def Ru(K:Sy):List V->Hp->VK->Prop:=λxs H Q=>∃(a C d:Addr) (fs:List (TB×V)) (bm:List Value) (c:V) (b:Bool),xs=[.ref a,c]/\H a=some (Nw a C d)/\H d=some (dO d fs)/\AO K C bm/\Lv K C∧
 ((∃n,c=.ty n/\Ws K (.ref C) (.type n)=some b)∨(∃D,c=.ref D/\Ws K (.ref C) (.ref D)=some b)∨
  ∃(p:Addr) (cs:List Addr),c=.ref p/\H p=some (.tup (cs.map V.ref))/\aa6 K (.ref C) (cs.map TF)=some b)/\Q (.bl b) H
def Is(H:Hp)(a C d:Addr):Prop:=H a=some (Nw a C d)∨H a=some (vh a C (some d))
section
variable {X:Cx}{pins:List (Addr×UU)}{σ:L2.St}{H:Hp}{s:SH}{a C d:Addr}{fs:List (TB×V)}
end
def PZ(K:Sy)(ta:TE)(f:TB):TE:=λσ H Q=>ta σ H λx H1=>∃a C d fs bm v,x=.ref a/\Is H1 a C d/\H1 d=some (dO d fs)/\AO K C bm/\Lv K C/\eY K C f/\fs.lookup f=some v/\Q v H1
def Rt(K:Sy):List V->Hp->VK->Prop:=λxs H Q=>∃(a C d:Addr) (fs:List (TB×V)) (bm:List Value) (c:V) (b:Bool),xs=[.ref a,c]/\Is H a C d/\H d=some (dO d fs)/\AO K C bm/\Lv K C∧
 ((∃n,c=.ty n/\Ws K (.ref C) (.type n)=some b)∨(∃D,c=.ref D/\Ws K (.ref C) (.ref D)=some b)∨
  ∃(p:Addr) (cs:List Addr),c=.ref p/\H p=some (.tup (cs.map V.ref))/\aa6 K (.ref C) (cs.map TF)=some b)/\Q (.bl b) H
def OD(C:Addr)(sp:Sp)(t:TA):TE:=λσ H Q=>t σ H λvs H1=>vs.length≤sizeLine/\∀a,H1 a=none->sp (.ref a::vs) (aO H1 a (vh a C none)) (λv H2=>v=.non/\Q (.ref a) H2) E0
theorem ya{X:Cx}{pins:List (Addr×UU)}{σ:L2.St}{H:Hp}{s:SH}{h':SY}{t':Nat}{fp:List Addr}(I:Inv X pins σ H s)
  (k:∀b o,b∉fp->s.heap.get? b=some o->h'.get? b=some o) (hf:∀b∈fp,kF X pins H b):Inv X pins σ H { s with heap:=h',toks:=t'}:=by
 have off:∀b u,H b=some u->b∉fp:=λb u e z=>by rw[(hf b z).1] at e;cases e
 refine I.step (g':=s.gens) (d':=s.drawn) (ch:=fp) (λb hb=>?_) (λb o _ _ hc e _=>k b o hc e) (λb o _ _ hc e _=>⟨o.slots,k b o hc e⟩) (λ_ _ _ _ n=>n)
  (λb o hc e=>⟨o,k b o hc e⟩) (λ_ _ e=>e) (λ_ _ _ e=>e) (λb ps e=>⟨#[],by rw[e];simp⟩) (λm hm=>?_) (λb u e=>?_) I.bare
 ·obtain⟨_,f1,_,f3,f4,f5⟩:=hf b hb;exact⟨f3,f1,f4,f5⟩
 ·obtain⟨o,es,ep,ho,r⟩:=hm;exact⟨o,es,ep,k _ o (λz=>(hf _ z).2.1 Z) ho,r⟩
 ·refine(I.hok b u e).stay (λc v hc q=>k c v ?_ q) (λ_ q=>q) λ_ _ q=>q
  rcases hc with z|z
  ·rw[z];exact off b u e
  ·exact off c _ z
section
variable {prog:Tx}{w:T9}{A:TV}{E:Value->SH->Prop}{s:SH}
theorem Gc(a:s.heap.IsTupleIter j t k)(b:s.heap.IsTuple t ys)(c:ys[k]?=some v)
  (g:∀h',h'.IsTupleIter j t (k+1)->Wa j s.heap h'->G v { s with heap:=h'}):Tj (Tp prog w) A (Ve (.ref j)) G E s:=by
 obtain⟨o,e1,e2,e3⟩:=id a;obtain⟨q,f1,_,n,f2⟩:=b;unfold Ve;refine SL (Vs (name:=Wy "__next__") a.typeIs F.slot_tuple_iterator_next (V4 F.slot_tuple_iterator_next a.typeIs F.entry_tuple_iterator_next ?_ (F.args_tuple_iterator_next_1 _)))
 show Tj (Tp prog w) _ (field (.ref j) 0 >>= _) _ _ s;refine SL (Wu e1 e3 (x:=.ref t) Z ?_);show Tj (Tp prog w) _ (if(TF t==VC)=true then _ else _) _ _ s;rw[if_neg (λz=>aav z:¬((TF t==VC)=true))];show Tj (Tp prog w) _ (field (.ref j) 1 >>= _) _ _ s;refine SL (Wu e1 e3 (x:=.int k 0) Z ?_);show Tj (Tp prog w) _ (seqItems? (.ref t) >>= _) _ _ s;refine SL (wpAny_seqItems f1 f2 ?_);simp only[c,Wo];refine SL (wpAny_setField e1 e3 (by simp) (wpAny_pure ⟨v,Z,wpAny_pure (g _ ?_ (Zy ..))⟩));refine⟨_,Y8 _ e1 (UU.isFreed_of_fields (ZR e3 _)),(UU.cls_mapFields ..).trans e2,?_⟩;rw[ZR e3];simp[rawInt]
theorem DG(hh:A.handled=none)(a:s.heap.IsTupleIter j t k)(b:s.heap.IsTuple t ys)(c:ys[k]?=none)
  (g:∀h' e,SY.ExtBut j s.heap h'->(∃o,h'.get? e=some o/\o.cls=.type "StopIteration")->E (.ref e) { s with heap:=h'}):Tj (Tp prog w) A (Ve (.ref j)) G E s:=by
 obtain⟨o,e1,e2,e3⟩:=id a;obtain⟨q,f1,_,n,f2⟩:=b;unfold Ve;refine SL (Vs (name:=Wy "__next__") a.typeIs F.slot_tuple_iterator_next (V4 F.slot_tuple_iterator_next a.typeIs F.entry_tuple_iterator_next ?_ (F.args_tuple_iterator_next_1 _)))
 show Tj (Tp prog w) _ (field (.ref j) 0 >>= _) _ _ s;refine SL (Wu e1 e3 (x:=.ref t) Z ?_);show Tj (Tp prog w) _ (if(TF t==VC)=true then _ else _) _ _ s;rw[if_neg (λz=>aav z:¬((TF t==VC)=true))];show Tj (Tp prog w) _ (field (.ref j) 1 >>= _) _ _ s;refine SL (Wu e1 e3 (x:=.int k 0) Z ?_);show Tj (Tp prog w) _ (seqItems? (.ref t) >>= _) _ _ s;refine SL (wpAny_seqItems f1 f2 ?_);simp only[c,Wo];refine SL (wpAny_rule (SL (wpAny_setField e1 e3 (by simp) ?_)));show Tj (Tp prog w) _ (newExc (.type "StopIteration") [] >>= _) _ _ _;refine SL ?_;simp only[newTuple,newExc];refine SL (UP ?_ (by size_fits));refine SL (m:=firstArgMember _ _) (wpAny_of_eq (a:=VC) (by first|rfl | (simp only[firstArgMember]<;>rfl)) ?_);refine UP ?_ (by size_fits);simp only[raiseNew];refine SL (wpAny_handled ?_)
 first|rw[hh]|rw[show A.in1.handled=none from hh]
 refine SL (wpAny_pure (wpAny_throw (g _ _ (((Zy ..).extBut.push _).push _) ⟨_,Tg _ Z,Z⟩)))
structure RY(z TI TO i1 i2:Addr):Prop where
 a1:TI≠z
 a2:TO≠z
 a3:i1≠z
 a4:i2≠z
 a5:TI≠TO
 a6:TI≠i1
 a7:TI≠i2
 a8:TO≠i1
 a9:TO≠i2
 b1:i1≠i2
end
theorem xZ{X:Cx}{pins:List (Addr×UU)}{σ:L2.St}{H:Hp}{s:SH}{h':SY}{t':Nat}{fp:List Addr}{p:Addr}{v:HO}(I:Inv X pins σ H s)
  (k:∀b o,b∉fp->s.heap.get? b=some o->h'.get? b=some o) (hf:∀b∈fp,kF X pins H b) (hp:s.heap.objs.size≤p) (new:cG X.prog X.w (aO H p v) h' p v) :
  Inv X pins σ (aO H p v) { s with heap:=h',toks:=t'}:=by
 have off:∀b u,H b=some u->b∉fp:=λb u e z=>by rw[(hf b z).1] at e;cases e
 have hn:H p=none:=I.hok.fresh hp;have old:∀b u,H b=some u->aO H p v b=some u:=λb u e=>by rw[aA (aU e hn)];exact e
 refine I.step (g':=s.gens) (d':=s.drawn) (ch:=fp) (λb hb=>?_) (λb o _ _ hc e _=>k b o hc e) (λb o _ _ hc e _=>⟨o.slots,k b o hc e⟩) (λb o _ e n=>?_)
  (λb o hc e=>⟨o,k b o hc e⟩) (λb xs e=>old b _ e) (λb o u e=>old b _ e) (λb ps e=>⟨#[],by rw[old b _ e];simp⟩) (λm hm=>?_) (λb u e=>?_) I.bare
 ·obtain⟨_,f1,_,f3,f4,f5⟩:=hf b hb;exact⟨f3,f1,f4,f5⟩
 ·rw[aA (Uj (Td (Tc e) hp))];exact n
 ·obtain⟨o,es,ep,ho,r⟩:=hm;exact⟨o,es,ep,k _ o (λz=>(hf _ z).2.1 Z) ho,r⟩
 ·by_cases hb:b=p
  ·subst hb;rw[ai] at e;cases e;exact new
  ·rw[aA hb] at e;refine(I.hok b u e).stay (λc v hc q=>k c v ?_ q) (λc q=>old c _ q) λc xs q=>old c _ q
   rcases hc with z|z
   ·rw[z];exact off b u e
   ·exact off c _ z
theorem E8{X:Cx}{pins:List (Addr×UU)}{σ:L2.St}{H:Hp}{s:SH}{a b:Addr}{xs:List V}(I:Inv X pins σ H s)(h:bV X.K H a xs)(f:kF X pins H b):a≠b:=λz=>by
 subst z;rcases h with(h | ⟨o,h⟩) | ⟨o,its,n,hk,_⟩
 ·rw[f.1] at h;cases h
 ·rw[f.1] at h;cases h
 ·have e:=I.ok.mod.kin a o hk;rcases f.2.2.2.1 with z|z
  ·exact I.ok.noex a o e z
  ·rw[(I.ok.bs a o e).1] at z;cases z
def RT(K:Sy)(a b:Addr):It:=
 ⟨λi H=>∃xs ys x y,bV K H a xs/\bV K H b ys/\xs[i]?=some x/\ys[i]?=some y,
  λi H v H'=>∃p x y,H p=none/\v=.ref p/\H'=aO H p (.tup [x,y])/\(∀xs,bV K H a xs->xs[i]?=some x)/\∀ys,bV K H b ys->ys[i]?=some y,
  λi H=>∃xs ys,bV K H a xs/\bV K H b ys/\(xs.length≤i∨ys.length≤i)⟩
def Sk(z TI TO i1 i2 a b:Addr)(i:Nat)(h:SY):Prop:=IsZip h z TI TO .none/\aa7 h TI (.ref i1) (.ref i2)/\(∃u v,aa7 h TO u v)/\h.IsTupleIter i1 a i/\h.IsTupleIter i2 b i
theorem nL{h h':SY}(x:h.IsTupleIter i a n)(k:∀o,h.get? i=some o->h'.get? i=some o):h'.IsTupleIter i a n:=let ⟨o,e,r⟩:=x;⟨o,k o e,r⟩
theorem A1{h h':SY}(x:h.IsTuple a ys)(k:∀o,h.get? a=some o->h'.get? a=some o):h'.IsTuple a ys:=let ⟨o,e,r⟩:=x;⟨o,k o e,r⟩
abbrev zA(h:SY)(a:Addr):SY:=h.push { cls:=.type "tuple_iterator",data:=.fields #[.ref a,.int 0 0]}
abbrev zB(h:SY)(a b:Addr):SY:=zA (zA h a) b
abbrev zC(h:SY)(a b:Addr):SY:=(zB h a b).push { cls:=.type "tuple",data:=.seq #[.ref h.objs.size,.ref (zA h a).objs.size]}
abbrev zD(h:SY)(a b:Addr):SY:=(zC h a b).push { cls:=.type "tuple",data:=.seq #[.none,.none]}
abbrev zE(h:SY)(a b:Addr):SY:=(zD h a b).push { cls:=.type "zip",data:=.fields #[.none,.bool false,.bool false,.ref (zB h a b).objs.size,.ref (zC h a b).objs.size]}
def RB(K:Sy)(ta:TA):TI:=λσ H R=>ta σ H λvs H1=>∃a b,vs=[.ref a,.ref b]/\(∃xs,bV K H1 a xs)/\(∃ys,bV K H1 b ys)/\R (RT K a b) H1
theorem Ay(hh:A.handled=none)(it a:Addr)(ne:a≠it)(items:Array Value):
  Draws prog w A it [it,a] items.size (λi v=>items[i]?=some v) (λi h=>h.IsTupleIter it a i/\h.IsTuple a items) where
 live:=λ_ _ st=>let ⟨o,ho,_⟩:=st.1;⟨o,ho⟩
 frame:=λ_ _ _ st hk=>⟨nL st.1 λo e=>hk it (by simp) o e,A1 st.2 λo e=>hk a (by simp) o e⟩
 item:=λi s Q E hi st hQ=>by
  have hx:items[i]?=some (items[i]'hi):=Array.getElem?_eq_getElem hi;exact Gc st.1 st.2 hx λh' i' sb=>hQ _ h' s.toks hx ⟨i',A1 st.2 λo e=>sb.extBut _ _ ne e⟩ sb
 done:=λs Q E st hE=>DG hh st.1 st.2 (by simp) hE
theorem Aw(a:Addr)(xs:Array Value):Meets (TN.«enumerate.__new__» ⟨[.type "enumerate",.ref a],[]⟩) (λ_ R s=>s.heap.IsTuple a xs∧
   R (.ok (.ret (.ref (zA s.heap a).objs.size))) { s with heap:=(zA s.heap a).push { cls:=.type "enumerate",data:=.fields #[.none,.bool false,.ref s.heap.objs.size,rawInt 0,.none,.none]} }):=
 .of_wp λprog w A R s h=>by
  obtain⟨hp,g,d,tk,os⟩:=s;obtain⟨hl,h⟩:=h;obtain⟨⟨c,dct,dt,sl⟩,ho,hc,n,hd⟩:=id hl
  replace hc:c=.type "tuple" := hc
  replace hd:dt=.seq xs n:=hd
  subst hc hd;have hsub:=sub_enumerate;have L:SY.IsTuple (SH.heap ⟨hp,g,d,tk,os⟩) a xs:=hl
  wp_walk using VT ho
  refine wpAny_stack_any λst=>wpAny_pure ?_
  split
  ·rename_i c _ _ _ _ _
   cases(c==WN "enumerate")
   ·wp_walk using VT ho,Wb L
    exact⟨_,Z,h⟩
   ·wp_walk using VT ho,Wb L
    exact⟨_,Z,h⟩
  ·wp_walk using VT ho,Wb L
   exact⟨_,Z,h⟩
theorem xg(hL:s.heap.IsTuple a items)
  (h:∀h',IsEnum h' (s.heap.objs.size+1) s.heap.objs.size 0 .none->h'.IsTupleIter s.heap.objs.size a 0->h'.objs.size=s.heap.objs.size+2→ (∀b o,s.heap.get? b=some o->h'.get? b=some o)->Q (.ref (s.heap.objs.size+1)) { s with heap:=h'}):
  Tj (Tp prog w) A (call (.type "enumerate") [.ref a]) Q E s:=by
 refine callType_new F.called_enumerate (by decide) (F.typeCall_enumerate_1 _) (F.newCall_enumerate_1 _) (λobj=>F.args_object_init_2 obj _) F.entry_enumerate_new
  (Aw a items) ⟨hL,?_⟩
 have hz:(zA s.heap a).objs.size=s.heap.objs.size+1:=VF ..;show _/\_;rw[hz];have he:IsEnum ((zA s.heap a).push { cls:=.type "enumerate",data:=.fields #[.none,.bool false,.ref s.heap.objs.size,rawInt 0,.none,.none]}) (s.heap.objs.size+1) s.heap.objs.size 0 .none:=by
  have:=Tg (zA s.heap a) (o:={ cls:=.type "enumerate",data:=.fields #[.none,.bool false,.ref s.heap.objs.size,rawInt 0,.none,.none]}) Z;rw[hz] at this;exact this
 refine⟨⟨_,he,Z⟩,h _ he ⟨_,SK _ (Tg _ Z),Z,Z⟩ (by rw[VF,hz]) λb o x=>SK _ (SK _ x)⟩
theorem E9{X:Cx}{pins:List (Addr×UU)}{σ:L2.St}{H:Hp}{s:SH}{a b:Addr}{xs:List V}(I:Inv X pins σ H s)(h:bu X.K H a xs)(f:kF X pins H b):a≠b:=λz=>by
 subst z;rcases h with(h | ⟨o,h⟩) | ⟨o,its,n,hk,_⟩
 ·rw[f.1] at h;cases h
 ·rw[f.1] at h;cases h
 ·have e:=I.ok.mod.kin a o hk;rcases f.2.2.2.1 with z|z
  ·exact I.ok.noex a o e z
  ·rw[(I.ok.bs a o e).1] at z;cases z
theorem wT{h h':SY}(x:h.IsListIter i a n)(k:∀o,h.get? i=some o->h'.get? i=some o):h'.IsListIter i a n:=x.at k
structure PD(K:Sy)(sq:Hp->Addr->List V->Prop)(tn:SY->Addr->Addr->Nat->Prop)(st:SY->Addr->Array Value->Prop):Prop where
 ob:∀{h i a n},tn h i a n->∃o,h.get? i=some o/\∀v,o.data≠.cell v
 at_:∀{h h' i a n},tn h i a n->(∀o,h.get? i=some o->h'.get? i=some o)->tn h' i a n
 off:∀{X:Cx} {pins:List (Addr×UU)} {σ:L2.St} {H:Hp} {s:SH} {a b:Addr} {xs:List V},X.K=K->Inv X pins σ H s->sq H a xs->kF X pins H b->a≠b
 rd:∀{X:Cx} {pins:List (Addr×UU)} {σ:L2.St} {H:Hp} {s:SH} {a:Addr} {xs:List V},X.K=K->Inv X pins σ H s->sq H a xs->(∀ys,sq H a ys->ys=xs)/\∃its:List Value,bP xs its/\st s.heap a its.toArray
 dr:∀{prog:Tx} {w:T9} {A:TV},A.handled=none->∀it a:Addr,a≠it->∀items:Array Value,Draws prog w A it [it,a] items.size (λi v=>items[i]?=some v) (λi h=>tn h it a i/\st h a items)
 en:∀{prog:Tx} {w:T9} {A:TV} {s:SH} {it a:Addr} {i:Nat} {items:Array Value} {Q E:Value->SH->Prop},A.handled=none->tn s.heap it a i->st s.heap a items->items[i]?=none→
  (∀h' e,SY.ExtBut it s.heap h'->(∃o,h'.get? e=some o/\o.cls=.type "StopIteration")->E (.ref e) { s with heap:=h'})->Tj (Tp prog w) A (Ve (.ref it)) Q E s
theorem O7(K:Sy):PD K (bV K) (λh i a n=>h.IsTupleIter i a n) (λh a xs=>h.IsTuple a xs) where
 ob:=λ⟨o,h,_,d⟩=>⟨o,h,λv q=>by rw[d] at q;cases q⟩
 at_:=nL
 off:=λe I h f=>E8 I (e▸h) f
 rd:=λe I h=>by subst e;exact⟨λys h'=>I.tuple_inj h' h,let ⟨its,rv,p,_⟩:=I.tuple h;⟨its,rv,p⟩⟩
 dr:=Ay
 en:=DG
theorem O8(K:Sy):PD K (bu K) (λh i a n=>h.IsListIter i a n) (λh a xs=>h.IsList a xs) where
 ob:=λ⟨o,h,_,d⟩=>⟨o,h,λv q=>by rw[d] at q;cases q⟩
 at_:=wT
 off:=λe I h f=>E9 I (e▸h) f
 rd:=λe I h=>by subst e;exact⟨λys h'=>I.list_inj h' h,let ⟨its,rv,p,_⟩:=I.list h;⟨its,rv,p.isList⟩⟩
 dr:=Draws.list
 en:=wpAny_nextOf_list_end
def AM(sq:Hp->Addr->List V->Prop)(a:Addr):It:=
 ⟨λi H=>∃xs x,sq H a xs/\xs[i]?=some x,
  λi H v H'=>∃p x,H p=none/\v=.ref p/\H'=aO H p (.tup [.int i,x])/\∀xs,sq H a xs->xs[i]?=some x,
  λi H=>∃xs,sq H a xs/\xs.length≤i⟩
abbrev NP(K:Sy)(a:Addr):It:=AM (bV K) a
abbrev NQ(K:Sy)(a:Addr):It:=AM (bu K) a
theorem uu{P:Tx}{w:T9}{K:Sy}{sq:Hp->Addr->List V->Prop}{tn:SY->Addr->Addr->Nat->Prop}{st_:SY->Addr->Array Value->Prop}(G:PD K sq tn st_){elts:List TW}{x1}{pos:Wh}{e it a:Addr}(hei:e≠it) :
  xA P w K (.Tuple elts x1 pos) (AM sq a) [e,it] e (λi h=>(∃old,IsEnum h e it (i:Nat) old)/\tn h it a i) where
 mem:=by simp
 obj:=λi h st c hc=>by
  obtain⟨⟨old,h1⟩,h2⟩:=st;obtain⟨o2,h2,d2⟩:=G.ob h2;simp only[S6,UB,or_false] at hc;rcases hc with rfl|rfl
  ·exact⟨_,h1,λv q=>by cases(show Zd _=aar v from q)⟩
  ·exact⟨o2,h2,d2⟩
 keep:=λi h h' st k=>by
  obtain⟨⟨old,h1⟩,h2⟩:=st;exact⟨⟨old,k e (by simp) _ h1⟩,G.at_ h2 λo q=>k it (by simp) o q⟩
 item:=by
  intro X hP hw hK hc i pins s σ H E I hf st hg;subst hP hw;obtain⟨xs,x,q1,hx⟩:=hg;obtain⟨uq,its,rv,p1⟩:=G.rd hK I q1;obtain⟨u,hu,ru⟩:=rv.get hx;have off:∀c∈[e,it],a≠c:=λc hc=>G.off hK I q1 (hf c hc)
  obtain⟨⟨old,h1⟩,h2⟩:=st;have hh:X.A.in1.handled=none:=I.ok.hd hc;have na:a≠it:=off it (by simp);have ne:e∉[it,a]:=λq=>by
   simp only[S6,UB,or_false] at q;rcases q with q|q
   ·exact hei q
   ·exact off e (by simp) q.symm
  have hi:i<its.toArray.size:=by have:=(SN.mp hu).1;simpa using this
  have el:e<s.heap.objs.size:=Tc h1;have il:it<s.heap.objs.size:=by obtain⟨o2,q2,_⟩:=G.ob h2;exact Tc q2
  refine wpAny_pyNext_enum_itemD (G.dr hh it a na its.toArray) h1 ⟨h2,p1⟩ hi hei ne λv h' tk hv eo st' tup hz hk=>⟨_,Z,wpAny_letOwnedTupleGo_enum eo λh'' e2 sb=>?_⟩
  have ev:v=u:=by
   have:its.toArray[i]?=some u:=by simpa using hu
   rw[this] at hv;exact(Um hv).symm
  subst ev;have nt:s.heap.objs.size≠e:=XR el;have ni:s.heap.objs.size≠it:=XR il;have P:cG X.prog X.w (aO H s.heap.objs.size (.tup [.int i,x])) h'' s.heap.objs.size (.tup [.int i,x]):=
   ⟨by show 2≤sizeLine;decide,[.int i tk,v],.cons ⟨_,Z⟩ (.cons ru .nil),⟨_,sb.extBut _ _ nt tup,Z,_,Z⟩⟩
  have I2:Inv X pins σ (aO H s.heap.objs.size (.tup [.int i,x])) { s with heap:=h'',toks:=tk+1}:=xZ I (λc o' n q=>by
   have n1:c≠e:=λr=>n (by simp[r])
   have n2:c≠it:=λr=>n (by simp[r])
   exact sb.extBut _ _ n1 (hk c o' n1 n2 q)) hf (SD _) P
  refine⟨.ref s.heap.objs.size,_,I2,Z,⟨_,x,I.fresh,Z,Z,λys hy=>by rw[uq ys hy];exact hx⟩,⟨⟨_,by simpa using e2⟩,G.at_ st'.1 λo q=>sb.extBut _ _ hei.symm q⟩,λc hc=>?_⟩;have lt:c<s.heap.objs.size:=by
   simp only[S6,UB,or_false] at hc;rcases hc with rfl|rfl
   ·exact el
   ·exact il
  rw[aA (Uj lt)];exact(hf c hc).1
 done:=by
  intro X hP hw hK hc i pins s σ H E I hf st hg;subst hP hw;obtain⟨xs,q1,hx⟩:=hg;obtain⟨uq,its,rv,p1⟩:=G.rd hK I q1;have off:∀c∈[e,it],a≠c:=λc hc=>G.off hK I q1 (hf c hc)
  obtain⟨⟨old,h1⟩,h2⟩:=st;have hh:X.A.in1.handled=none:=I.ok.hd hc;have hl:=rv.length;have nn:its.toArray[i]?=none:=by rw[Array.getElem?_eq_none_iff];simp;omega
  have hT:s.TypeIs (.ref e) "enumerate" := ⟨_,h1,Z⟩;unfold pyNext;refine SL (wpAny_attempt (Vs (name:=Wy "__next__") hT F.slot_enumerate_next (V4 F.slot_enumerate_next hT F.entry_enumerate_next ?_ (F.args_enumerate_next_1 _))))
  show Tj _ _ (field (.ref e) 2 >>= _) _ _ _;refine SL (Wu h1 Z (x:=.ref it) Z ?_);refine SL (G.en hh h2 p1 nn λh' x he' hx'=>?_);obtain⟨o,ho,hcl⟩:=hx';refine SL (wpAny_isInstance (T := "StopIteration") (b:=true) ⟨o,ho,hcl⟩ isSubtype_stop ?_);refine wpAny_pure ⟨Z,?_⟩;exact ya (t':=s.toks) I (λc o' n q=>he' c o' (λr=>n (by simp[r])) q) hf
 self:=λA i s Q E st h=>by
  obtain⟨⟨old,h1⟩,_⟩:=st;exact Yg h1 h
def Nl(K:Sy)(ta:TA):TI:=λσ H R=>ta σ H λvs H1=>∃a,vs=[.ref a]/\(∃xs,bV K H1 a xs)/\R (NP K a) H1
theorem FR{X:Cx}{elts:List TW}{x1}{tp p pos:Wh}{a:TW}{ta:TA}(hg:Gl X "enumerate")(hm:X.mg "enumerate"=none)(ha:PA X [a] ta)(hs:SX [a] X.env=[(false,eval a X.env)]:=by rfl) :
  PI X (.Tuple elts x1 tp) (.Call (.Name "enumerate" p) [a] [] pos) (Nl X.K ta):=by
 intro pins s σ H R I h;refine Call_ (ib I hg hm (show Vk "enumerate"=some (.type "enumerate") by kernel_rfl) (Uw (cT (ha pos pins s σ H _ I h) λus s1 ⟨vs,H1,I1,r1,q1⟩=>?_) hs Z));obtain⟨a,e,⟨xs,hx⟩,q⟩:=q1;subst e;obtain⟨u,rfl,ru⟩:=r1.one
 cases ru
 obtain⟨its,_,p1,_⟩:=I1.tuple hx;refine xg p1 λh' he hi sz kk=>Yg he ?_
 have I2:Inv X pins σ H1 { s1 with heap:=h'}:=I1.kept (t':=s1.toks) kk;refine⟨_,[s1.heap.objs.size+1,s1.heap.objs.size],_,_,H1,rfl,I2,uu (O7 _) (a:=a) (aaw _),⟨⟨_,he⟩,hi⟩,λc hc=>?_,q⟩;have le:s1.heap.objs.size≤c:=by
  simp only[S6,UB,or_false] at hc;rcases hc with h|h
  ·rw[h];exact VA _
  ·rw[h];exact SD _
 exact I1.fpOk le (I1.hok.fresh le)
theorem jr{sq:Hp->Addr->List V->Prop}{a:Addr}{xs:List V}{g:TG}{tb:TS}{D:lM}{σ:L2.St}{H:Hp}(Pv:Nat->L2.St->Hp->Prop)(h0:Pv 0 σ H)
  (hl:∀i σ H,i≤xs.length->Pv i σ H->sq H a xs)
  (hs:∀i x p σ H,xs[i]?=some x->Pv i σ H->H p=none->g (.ref p) σ (aO H p (.tup [.int i,x])) λσ2 H2=>tb { D with nx:=Pv (i+1),ct:=Pv (i+1),bk:=D.nx} σ2 H2) (hd:∀σ H,Pv xs.length σ H->D.nx σ H) :
  ∃W:Nat->Nat->L2.St->Hp->Prop,(∃m,W 0 m σ H)/\∀i m σ H,W i m σ H→
   ((AM sq a).stop i H/\D.nx σ H)∨((AM sq a).go i H/\∃N:L2.St->Hp->Prop,(∀σ' H',N σ' H'->∃m',m'<m/\W (i+1) m' σ' H')/\∀x H',(AM sq a).yld i H x H'->g x σ H' λσ2 H2=>tb { D with nx:=N,ct:=N,bk:=D.nx} σ2 H2):=by
 refine⟨λi m σ H=>m=xs.length-i/\i≤xs.length/\Pv i σ H,⟨_,Z,S8 _,h0⟩,?_⟩;rintro i m σ H ⟨rfl,hi,p⟩;have q:=hl i σ H hi p;by_cases hlt:i<xs.length
 ·refine .inr ⟨⟨xs,_,q,Sz hlt⟩,Pv (i+1),λσ' H' p'=>⟨xs.length-(i+1),by omega,Z,hlt,p'⟩,λx H' y=>?_⟩;obtain⟨pp,v,hp,rfl,rfl,hv⟩:=y;exact hs i v pp σ _ (hv xs q) p hp
 ·have e:i=xs.length:=by omega
  subst e;exact .inl ⟨⟨xs,q,SD _⟩,hd σ H p⟩
def Nm(K:Sy)(ta:TA):TI:=λσ H R=>ta σ H λvs H1=>∃a,vs=[.ref a]/\(∃xs,bu K H1 a xs)/\R (NQ K a) H1
theorem Dc{X:Cx}{elts:List TW}{x1}{tp p pos:Wh}{a:TW}{ta:TA}(hg:Gl X "enumerate")(hm:X.mg "enumerate"=none)(ha:PA X [a] ta)(hs:SX [a] X.env=[(false,eval a X.env)]:=by rfl) :
  PI X (.Tuple elts x1 tp) (.Call (.Name "enumerate" p) [a] [] pos) (Nm X.K ta):=by
 intro pins s σ H R I h;refine Call_ (ib I hg hm (show Vk "enumerate"=some (.type "enumerate") by kernel_rfl) (Uw (cT (ha pos pins s σ H _ I h) λus s1 ⟨vs,H1,I1,r1,q1⟩=>?_) hs Z));obtain⟨a,e,⟨xs,hx⟩,q⟩:=q1;subst e;obtain⟨u,rfl,ru⟩:=r1.one
 cases ru
 obtain⟨its,_,p1,_⟩:=I1.list hx;refine call_enumerate_list p1.isList λh' he hi sz kk=>Yg he ?_
 have I2:Inv X pins σ H1 { s1 with heap:=h'}:=I1.kept (t':=s1.toks) kk;refine⟨_,[s1.heap.objs.size+1,s1.heap.objs.size],_,_,H1,rfl,I2,uu (O8 _) (a:=a) (aaw _),⟨⟨_,he⟩,hi⟩,λc hc=>?_,q⟩;have le:s1.heap.objs.size≤c:=by
  simp only[S6,UB,or_false] at hc;rcases hc with h|h
  ·rw[h];exact VA _
  ·rw[h];exact SD _
 exact I1.fpOk le (I1.hok.fresh le)
section
variable {prog:Tx}{w:T9}{A:TV}{E:Value->SH->Prop}
end
def RC(K:Sy)(n:Nat)(t:AL):TG:=λv σ H Q=>∃a xs,v=.ref a/\bu K H a xs/\xs.length=n/\t xs σ H Q
section
variable {prog:Tx}{w:T9}{A:TV}{E:Value->SH->Prop}{s:SH}
open HT in
theorem ux{t sl:Addr}{items:Array Value}{vl vu:Value}{lo hi:Option Int}{Q:Value->SH->Prop}(ht:IsTup s.heap t items)(hs:s.heap.IsSliceOf sl vl vu .none)(pl:YO vl lo)(pu:YO vu hi)
  (h1:sIx items.size 0 lo=0) (h2:sIx items.size items.size hi=items.size) (h:Q (.ref t) s):Tj (Tp prog w) A (W4 (.ref t) (.ref sl)) Q E s:=by
 obtain⟨os,hos,hcs,hds⟩:=id hs;have hTs:s.TypeIs (.ref sl) "slice" := ⟨os,hos,hcs⟩;unfold W4
 try with_reducible refine wpAny_holding ?_
 first|refine SL (wpAny_pure ?_)|skip
 refine SL (Z6 ht.typeIs (by decide) ?_);refine SL (Vs (name:=Wy "__getitem__") ht.typeIs Ux (V4 Ux ht.typeIs Zw ?_ (ZP _ _)))
 show Tj _ _ (X3 (.ref t) >>= _) _ _ s;refine SL (tupleItemsOf_ ht ?_);refine SL (YQ hTs ?_);rw[if_pos (by decide)];refine SL (gF hs pl pu ?_);have hyes:((((sIx items.size 0 lo:Nat):Int)==0&&(1:Int)==1&&(sIx items.size items.size hi-sIx items.size 0 lo)==items.size)=true):=by
  rw[h1,h2];simp
 show Tj _ _ (if(((sIx items.size 0 lo:Nat):Int)==0&&(1:Int)==1&&(sIx items.size items.size hi-sIx items.size 0 lo)==items.size)=true then _ else _) _ _ s;rw[if_pos hyes];refine SL ?_;unfold TN.Tuple.tupleIsExact;refine SL (YQ ht.typeIs ?_);refine wpAny_pure ?_;rw[if_pos (by decide)];exact SL (wpAny_rule (wpAny_pure ⟨_,Z,wpAny_pure h⟩))
end
def MB(K:Sy):V->Option Int->Option Int->Hp->VK->Prop:=λx lo hi H Q=>∃a xs,x=.ref a/\bV K H a xs/\HT.sIx xs.length 0 lo=0/\HT.sIx xs.length xs.length hi=xs.length/\Q (.ref a) H
theorem Fh:EH X (MB X.K):=by
 intro pins s σ H x v vl vu lo hi sl Q I rx hs pl pu h;obtain⟨a,xs,rfl,hx,h1,h2,q⟩:=h
 cases rx
 obtain⟨its,r,ht,hz⟩:=I.tuple hx;have hlen:its.toArray.size=xs.length:=by rw[Tr];exact r.length.symm
 refine⟨"tuple",_,Ux.lookup,ht.typeIs,?_⟩;exact ux ht hs pl pu (by rw[hlen];exact h1) (by rw[hlen];exact h2) ⟨.ref a,H,I,Z,q⟩
theorem Fi:EH X (λx lo hi H Q=>MB X.K x lo hi H Q∨MC X.K x lo hi H Q):=EH.or Fh BE
end B
namespace B
theorem Kz(hb:0<b)(hd:0<d)(e:a*d=c*b):d6 a b=d6 c d:=by
 have hr:=jm (a:=c) hd;have hc:=qr (a:=c) hd;generalize d6 c d=m at hr hc ⊢;refine eR hb hr.pos hr.cop ?_;refine Ww (show d≠0 by omega) ?_;have e1:m.1*b*d=m.1*d*b:=by ac_rfl
 have e2:a*m.2*d=a*d*m.2:=by ac_rfl
 rw[e1,hc,e2,e]
 ac_rfl
structure Bq(D N:Nat)(r:R):Prop where
 pos:0<r.2
 cop:S7 r.1 r.2=1
 dvd:r.2∣(D:Int)
 le:r.1.natAbs≤N*r.2.natAbs
theorem Bq.red(h:Bq D N r):gW r:=⟨h.pos,h.cop⟩
theorem vB{D N:Nat}{a b:Int}(hb:0<b)(hd:b∣(D:Int))(hl:a.natAbs≤N*b.natAbs):Bq D N (d6 a b):=by
 obtain⟨g,x,y,e0,gp,e1,e2,c⟩:=fK (a:=a) hb;have yp:=ku hb gp e2;have e:d6 a b=(x,y):=by
  unfold d6;rw[e0,show a/g=x by rw[e1];exact Tt _ (by omega),show b/g=y by rw[e2];exact Tt _ (by omega)]
 rw[e];refine⟨yp,c,VS ⟨g,by rw[e2,VQ]⟩ hd,?_⟩;rw[e1,e2,Vn,Vn] at hl;have gn:0<g.natAbs:=by omega
 refine Nat.le_of_mul_le_mul_left (c:=g.natAbs) ?_ gn;show g.natAbs*x.natAbs≤g.natAbs*(N*y.natAbs);rw[Nat.mul_left_comm];exact hl
theorem Bq.mono(h:Bq D N r)(hd:D∣D')(hn:N≤N'):Bq D' N' r:=
 ⟨h.pos,h.cop,VS h.dvd (Int.ofNat_dvd.mpr hd),Tu h.le (Vo _ hn)⟩
theorem Bq.plus(hD:0<D)(h:Bq D N r)(k:Bq D M q):Bq D (N+M) (cP r q):=by
 obtain⟨y,ey⟩:=h.dvd;obtain⟨v,ev⟩:=k.dvd;have dp:(0:Int)<(D:Int):=by omega
 have e:cP r q=d6 (r.1*y+q.1*v) (D:Int):=by
  unfold cP;refine Kz (Ut h.pos k.pos) dp ?_;rw[Zi,Zi];have a1:r.1*q.2*(D:Int)=r.1*y*(r.2*q.2):=by rw[ey];ac_rfl
  have a2:q.1*r.2*(D:Int)=q.1*v*(r.2*q.2):=by rw[ev];ac_rfl
  rw[a1,a2]
 rw[e];refine vB dp (Xf _) ?_;have b1:(r.1*y).natAbs≤N*D:=by
  have:(D:Int).natAbs=r.2.natAbs*y.natAbs:=by rw[ey,Vn]
  rw[Vn];have z:=Vo y.natAbs h.le;rw[ZF,←this] at z
  simpa using z
 have b2:(q.1*v).natAbs≤M*D:=by
  have:(D:Int).natAbs=q.2.natAbs*v.natAbs:=by rw[ev,Vn]
  rw[Vn];have z:=Vo v.natAbs k.le;rw[ZF,←this] at z
  simpa using z
 have b3:=Int.natAbs_add_le (r.1*y) (q.1*v);have b4:(D:Int).natAbs=D:=WP D;rw[b4,aaF];omega
theorem Bq.neg(h:Bq D N r):Bq D N (-r.1,r.2):=⟨h.pos,by show S7 (-r.1) r.2=1;rw[Int.neg_gcd];exact h.cop,h.dvd,by show(-r.1).natAbs≤_;rw[aa8];exact h.le⟩
theorem Bq.minus(hD:0<D)(h:Bq D N r)(k:Bq D M q):Bq D (N+M) (bJ r q):=by
 rw[←u3];exact h.plus hD k.neg
theorem Bq.times(h:Bq D N r)(k:Bq E M q):Bq (D*E) (N*M) (bA r q):=by
 refine vB (Ut h.pos k.pos) ?_ ?_
 ·rw[XH];exact Int.mul_dvd_mul h.dvd k.dvd
 ·rw[Vn,Vn];have z:=Zj h.le k.le
  calc r.1.natAbs*q.1.natAbs≤N*r.2.natAbs*(M*q.2.natAbs):=z
   _=N*M*(r.2.natAbs*q.2.natAbs):=by ac_rfl
theorem Go(ha:0<a)(hb:0<b):0<(d6 a b).1:=Wv ha (UQ (cV hb)) (aau a b)
theorem Bq.bot(hD:0<D)(h:Bq D N r):r.2.natAbs≤D:=by
 have:=Xl.mpr h.dvd;rw[WP] at this;exact ZG hD this
theorem Bq.wf(h:Bq D N r)(hD:0<D)(h1:D<2^n)(h2:N*D<2^n):Wf n r:=
 ⟨h.pos,TX (Tu h.le (WD _ (h.bot hD))) h2,TX (h.bot hD) h1,h.cop⟩
theorem DS:dF r q=true↔r.1*q.2<q.1*r.2:=by unfold dF;exact decide_eq_true_iff
theorem u6:dF r q=false↔q.1*r.2≤r.1*q.2:=by unfold dF;rw[decide_eq_false_iff_not,Int.not_lt]
theorem DN(ha:0≤a):0≤(d6 a b).1:=Wd ha (by omega)
theorem FN(hr:gW r)(hq:gW q)(h1:0≤r.1)(h2:0≤q.1):0≤(cP r q).1:=
 DN (Int.add_nonneg (Zk h1 (UQ hq.pos)) (Zk h2 (UQ hr.pos)))
end B
namespace B
open PySem PySem.Spec L2 PyProof.Rows
inductive Rl where
 |pow (k:Int)
 |tab (rows:List (R×R))
def wC:R×R:=((0,1),(0,1))
def IE(lo hi:R×R):R:=M3 (bJ hi.2 lo.2) (bJ hi.1 lo.1)
def Of(rows:List (R×R))(k:Nat):R:=IE (rows.getD k wC) (rows.getD (k+1) wC)
def M0(rows:List (R×R))(s:R):Nat:=rows.countP λr=>dF r.1 s
def MN(rows:List (R×R))(s:R):Nat:=rows.countP λr=>!dF s r.1
def Nf(rows:List (R×R))(s:R):R:=if M0 rows s=0 then(0,1) else Of rows (M0 rows s-1)
def Jn(rows:List (R×R))(s:R):Option R:=if MN rows s<rows.length then some (Of rows (MN rows s-1)) else none
def MQ(k:Int)(s:R):R:=bA (k,1) (dk s (k-1).toNat)
def Og:Rl->R->R×Option R
 | .pow k,s=>(MQ k s,some (MQ k s))
 | .tab rows,s=>(Nf rows s,Jn rows s)
def RU(rows:List (R×R)):Prop:=rows.Pairwise λa b=>dF a.1 b.1=true
def R5(rows:List (R×R)):Prop:=∀r∈rows,0<r.1.2
abbrev D0:Nat:=5822723907000000000
abbrev N0:Nat:=1000000007
abbrev N1:Nat:=17179869184
abbrev NR:Nat:=11000000077
abbrev N2:Nat:=1180591620717411303424
structure Lg(rows:List (R×R)):Prop where
 n2:2≤rows.length
 n12:rows.length≤12
 inc:RU rows
 zero:∃y,rows[0]?=some ((0,1),y)
 sp:∀r∈rows,Bq D0 NR r.1
 pw:∀r∈rows,Bq (D0*D0) N2 r.2
def RN:Rl->Prop
 | .pow k=>2≤k/\k≤4
 | .tab rows=>Lg rows
structure RM(s:R):Prop where
 bq:Bq (D0*2) N1 s
 nn:0≤s.1
def QQ:Rl->R->Prop
 | .pow _,_=>True
 | .tab rows,s=>∃r,rows[rows.length-1]?=some r/\dF r.1 s=false
def Sf(rows:List (R×R))(s:R)(i:Nat):R:=if 0<M0 rows s/\M0 rows s-1<i then Of rows (M0 rows s-1) else(0,1)
def Sd(rows:List (R×R))(s:R)(i:Nat):Option R:=if 0<MN rows s/\MN rows s-1<i then some (Of rows (MN rows s-1)) else none
def Qi(k:Int)(s:R)(j:Nat):R:=d6 (k*s.1^j) (s.2^j)
def Qw(l:R)(r:Option R)(g:R):Bool:=!dF g l&&(match r with|none=>true|some x=>!dF x g)
end B
namespace B
def val(r:R):Rat:=(r.1:Rat)/(r.2:Rat)
theorem dE{b:Int}(h:0<b):(b:Rat)≠0:=λz=>by
 have:b=0:=Y3.mp (by rw[z];rfl);omega
theorem Iu{r:R}{a b:Int}(hr:0<r.2)(hb:(b:Rat)≠0)(h:r.1*b=a*r.2):val r=(a:Rat)/(b:Rat):=by
 have h2:(r.1:Rat)*(b:Rat)=(a:Rat)*(r.2:Rat):=by rw[←T7,←T7,h]
 have h1:=dE hr;unfold val;generalize (r.1:Rat)=x at *;generalize (r.2:Rat)=y at *;generalize (a:Rat)=u at *;generalize (b:Rat)=v at *;grind
theorem lP(hb:0<b):val (d6 a b)=(a:Rat)/(b:Rat):=Iu (jm hb).pos (dE hb) (qr hb)
theorem iH(hr:0<r.2)(hq:0<q.2):val (cP r q)=val r+val q:=by
 unfold cP;rw[lP (Ut hr hq)];have h1:=dE hr;have h2:=dE hq;unfold val;rw[XI,T7,T7,T7];generalize (r.1:Rat)=x at *;generalize (r.2:Rat)=y at *;generalize (q.1:Rat)=u at *;generalize (q.2:Rat)=v at *;grind
theorem dh(hr:0<r.2)(hq:0<q.2):val (bJ r q)=val r-val q:=by
 unfold bJ;rw[lP (Ut hr hq)];have h1:=dE hr;have h2:=dE hq;unfold val;rw[Rat.intCast_sub,T7,T7,T7];generalize (r.1:Rat)=x at *;generalize (r.2:Rat)=y at *;generalize (q.1:Rat)=u at *;generalize (q.2:Rat)=v at *;grind
theorem eJ(hr:0<r.2)(hq:0<q.2):val (bA r q)=val r*val q:=by
 unfold bA;rw[lP (Ut hr hq)];have h1:=dE hr;have h2:=dE hq;unfold val;rw[T7,T7];generalize (r.1:Rat)=x at *;generalize (r.2:Rat)=y at *;generalize (q.1:Rat)=u at *;generalize (q.2:Rat)=v at *;grind
theorem fG(hr:gW r)(hq:gW q)(h:val r=val q):r=q:=by
 have h1:=dE hr.pos;have h2:=dE hq.pos;have e:r.1*q.2=q.1*r.2:=by
  refine Y3.mp ?_;rw[T7,T7];unfold val at h;generalize (r.1:Rat)=x at *;generalize (r.2:Rat)=y at *;generalize (q.1:Rat)=u at *;generalize (q.2:Rat)=v at *;grind
 have e1:d6 r.1 r.2=(r.1,r.2):=eR hr.pos hr.pos hr.cop Z;have e2:d6 r.1 r.2=(q.1,q.2):=eR hr.pos hq.pos hq.cop e.symm;exact e1.symm.trans e2
theorem c8(hr:0<r.2):val r=0↔r.1=0:=by
 have h1:=dE hr;unfold val;constructor
 ·intro h;refine Y3.mp ?_;show(r.1:Rat)=((0:Int):Rat);rw[show((0:Int):Rat)=0 from Z];generalize (r.1:Rat)=x at *;generalize (r.2:Rat)=y at *;grind
 ·intro h;rw[h];show((0:Int):Rat)/_=0;rw[show((0:Int):Rat)=0 from Z];generalize (r.2:Rat)=y at *;grind
end B
namespace B
def Sc(rows:List (R×R))(i:Nat):Rat:=(val (rows.getD (i+1) wC).2-val (rows.getD i wC).2)/(val (rows.getD (i+1) wC).1-val (rows.getD i wC).1)
section
variable {s p:Nat->Rat}{n:Nat}
def sl(s p:Nat->Rat)(i:Nat):Rat:=(p (i+1)-p i)/(s (i+1)-s i)
end
theorem Mi(x:Rat):0≤x*x:=by
 rcases Rat.le_total (a:=0) (b:=x) with h|h
 ·exact UX h h
 ·have:=UX (a:=-x) (b:=-x) (by grind) (by grind);grind
end B
namespace B
open PySem PySem.Spec L2 PyProof.Rows
structure QE(X:Cx)(e:TW)(t:TE):Prop where
 p:PE X e t
structure QT(X:Cx)(e:TW)(t:TT):Prop where
 p:PT X e t
structure QW(X:Cx)(e:TW)(t:TT):Prop where
 p:PW X e t
structure QA(X:Cx)(es:List TW)(t:TA):Prop where
 p:PA X es t
structure QS(X:Cx)(st:Stmt)(t:TS):Prop where
 p:PS X st t
structure dG(X:Cx)(st:List Stmt)(t:TS):Prop where
 p:xG X st t
structure QI(X:Cx)(tg iter:TW)(wi:TI):Prop where
 p:PI X tg iter wi
structure QG(X:Cx)(target:TW)(t:TG):Prop where
 p:PG X target t
structure NJ(X:Cx)(ts:List TW)(t:AL):Prop where
 p:LP X ts t
theorem dG.ok(h:dG X b t)(r:t D σ H):∃t:TS,xG X b t/\t D σ H:=⟨t,h.p,r⟩
structure QO(X:Cx)(o:Option TW)(t:L2.TO):Prop where
 p:PO X o t
section
set_option autoImplicit true
set_option relaxedAutoImplicit true
theorem qv(i:Nat){x:TB}{pos:Wh}(hN:X.N[i]?=some x:=by rfl)(hv:NE X.env.scope x:=by first|exact To Z|exact Tn (To Z)|exact Tn (Tn Z))(hd:(x==("__debug__" : TB))=false:=by decide)(hcd:(x==("__classdict__" : TB))=false:=by decide):QE X (.Name x pos) (Iw i):=⟨pv i hN hv hd hcd⟩
theorem aj{i j pos}:QE X (.Constant (.int i) j pos) (tC (.int i)):=⟨kx ⟩
theorem gI{b j pos}:QE X (.Constant (.bool b) j pos) (tC (.bl b)):=⟨MW ⟩
theorem sx{j pos}:QE X (.Constant .none j pos) (tC .non):=⟨JS ⟩
theorem sw{x j pos}:QE X (.Constant (.str x) j pos) (tC (.str x)):=⟨JP ⟩
theorem c9{x:TB}{v:V}{u:Value}{pos:Wh}(hg:Gl X x)(hm:X.mg x=some u)(r:bK v u)(hd:(x==("__debug__" : TB))=false:=by decide):QE X (.Name x pos) (tC v):=⟨FY hg hm r hd⟩
theorem hU{x:TB}{v:V}{u:Value}{pos:Wh}(hg:Gl X x)(hm:X.mg x=none)(hv:Vk x=some u)(r:bK v u)(hn:x ≠ "__name__" := by decide)(hd:(x==("__debug__" : TB))=false:=by decide):QE X (.Name x pos) (tC v):=⟨F3 hg hm hv r hn hd⟩
theorem ou(ho:Op X (unaryOp op) r)(ha:QE X a ta):QE X (.UnaryOp op a pos) (PN r ta):=⟨MS ho ha.p⟩
theorem CU(ha:QE X a ta):QE X (.UnaryOp .Not a pos) (He ta):=⟨JR ha.p⟩
theorem aY(ho:iF X (Wc op) r)(ha:QE X a ta)(hb:QE X b tb):QE X (.BinOp a op b pos) (E4 r ta tb):=⟨MT ho ha.p hb.p⟩
theorem lZ{op}(h:QE X a t):QE X (.BoolOp op [a] pos) t:=⟨JQ h.p⟩
theorem l4{rest:List TW}(ha:QE X a ta)(hb:QE X (.BoolOp .And (b::rest) pos) tb):QE X (.BoolOp .And (a::b::rest) pos) (Hn ta tb):=⟨JV ha.p hb.p⟩
theorem gg(ho:iF X (UK op) r)(ha:QE X a ta)(hb:QE X b tb)(hm:WI op b=false):QE X (.Compare a [op] [b] pos) (E4 r ta tb):=⟨F1 ho ha.p hb.p hm⟩
theorem uQ{op op':CmpOp}{r r':R2}(ho:iF X (UK op) r)(ho':iF X (UK op') r')(ha:QE X a ta)(hb:QE X b tb)(hc:QE X c tc)(hm:lastMarks [op,op'] [b,c]=false:=by with_unfolding_all rfl):QE X (.Compare a [op,op'] [b,c] pos) (Ba r r' ta tb tc):=⟨Dl ho ho' ha.p hb.p hc.p hm⟩
theorem oz(hc:QT X c tA)(ha:QE X a ta)(hb:QE X b tb):QE X (.IfExp c a b pos) (PY tA ta tb):=⟨Di hc.p ha.p hb.p⟩
theorem cE(h:QA X es t):QE X (.List es pos) (Mb t):=⟨JT h.p⟩
theorem bT{x1}(h:QA X es t):QE X (.Tuple es x1 pos) (L7 t):=⟨JO h.p⟩
theorem oy{lo hi:Option TW}{r:V->Option Int->Option Int->Hp->VK->Prop}(hr:EH X r)(he:QE X e te)(hl:QO X lo tl)(hu:QO X hi th):QE X (.Subscript e (.Slice lo hi none p2) pos) (PQ r te tl th):=⟨Df hr he.p hl.p hu.p⟩
theorem yn   : QO X none yb:=⟨FL ⟩
theorem m9(h:QE X e te):QO X (some e) (Hd te):=⟨FK h.p⟩
theorem cO(hr:zn X r)(ha:QE X a ta)(hb:QE X b tb)(hs:ud b):QE X (.Subscript a b pos) (E4 r ta tb):=⟨MU hr ha.p hb.p hs⟩
theorem gh(F:bQ X.prog X.w X.K X.mg X.base CX k f fd ps sp)(hr:dX k X.A)(hg:Gl X x)(hm:X.mg x=some (.ref f))(hk:U8 X.K (.ref f)=true)(hb:bc X.K fd ps ds)(hd:bP dvs ds)(hx:fZ CX X E)(ha:QA X (e::es) t)(hdb:(x==("__debug__" : TB))=false:=by decide)(he:SX (e::es) X.env=(false,eval e X.env)::SX es X.env:=by rfl)(hpl:(VD pos (SX es X.env)).any (·.1)=false:=by rfl):QE X (.Call (.Name x p) (e::es) [] pos) (Bb sp dvs E t):=⟨F2 F hr hg hm hk hb hd hx ha.p hdb he hpl⟩
theorem aZ{id:String}(hc:eM X (.builtin id) r)(hg:Gl X x)(hm:X.mg x=none)(hv:Vk x=some (.builtin id))(ha:QA X (e::es) t)(hn:x ≠ "__name__" := by decide)(hdb:(x==("__debug__" : TB))=false:=by decide)(he:SX (e::es) X.env=(false,eval e X.env)::SX es X.env:=by rfl)(hpl:(VD pos (SX es X.env)).any (·.1)=false:=by rfl):QE X (.Call (.Name x p) (e::es) [] pos) (N9 r t):=⟨Dm hc hg hm hv ha.p hn hdb he hpl⟩
theorem ck(hc:eM X (.type T) r)(hg:Gl X x)(hm:X.mg x=none)(hv:Vk x=some (.type T))(ha:QA X (e::es) t)(hn:x ≠ "__name__" := by decide)(hdb:(x==("__debug__" : TB))=false:=by decide)(he:SX (e::es) X.env=(false,eval e X.env)::SX es X.env:=by rfl)(hpl:(VD pos (SX es X.env)).any (·.1)=false:=by rfl):QE X (.Call (.Name x p) (e::es) [] pos) (N9 r t):=⟨Ac hc hg hm hv ha.p hn hdb he hpl⟩
theorem eP{id:String}(pa:PlainAttrs T)(slot:Slot T name id)(hty:typeOf (.builtin id)=Vd (.type "method_descriptor"))(hm:QJ X id r)(ho:QE X o to)(ha:QA X (e::es) t)(hbase:Vz o name X.env (eval o X.env)=eval o X.env:=by rfl) (hfew:((VD cpos (SX (e::es) X.env)).all (λx=>!x.1)&&(Xw cpos (V5 [] X.env)).all (λx=>x.1.isSome)
  &&decide ((e::es).length+([]:List XU).length+(if([]:List XU).isEmpty then 0 else 1)<30))=true:=by rfl) (hline:(apos.endLine==cpos.line)=true:=by rfl) (hs:SX (e::es) X.env=(false,eval e X.env)::SX es X.env:=by rfl) (hplain:(VD cpos (SX es X.env)).any (·.1)=false:=by rfl):QE X (.Call (.Attribute o name apos) (e::es) [] cpos) (P0 X.K T r to t):=⟨MV pa slot hty hm ho.p ha.p hbase hfew hline hs hplain⟩
theorem ag   : QA X [] zF:=⟨JW ⟩
theorem ae(ha:QE X e te)(hr:QA X es t)(hs:SX (e::es) X.env=(false,eval e X.env)::SX es X.env:=by rfl):QA X (e::es) (Hl te t):=⟨F5 ha.p hr.p hs⟩
theorem bj(ho:iF X (UK op) r)(ha:QE X a ta)(hb:QE X b tb)(hm:WI op b=false):QT X (.Compare a [op] [b] pos) (Hb (E4 r ta tb)):=⟨FC ho ha.p hb.p hm⟩
theorem cS{e:TW}{t:TE}(h:QE X e t)(he:∀whole,isTrue e X.env whole=(do let v ←whole;YF e.pos;holding [v] (truthy v)):=by intro _;rfl):QT X e (tB t):=⟨Jz h.p he⟩
theorem d5(ha:QT X a tA):QT X (.UnaryOp .Not a pos) (Ma tA):=⟨JB ha.p⟩
theorem si{rest:List TW}(ha:QT X a tA)(hb:QW X (.BoolOp .And (b::rest) pos) tB'):QW X (.BoolOp .And (a::b::rest) pos) (Mg tA tB'):=⟨Jy ha.p hb.p⟩
theorem sg(ha:QT X a tA):QW X (.BoolOp .And [a] pos) tA:=⟨Fx ha.p⟩
theorem kT{rest:List TW}(ha:QT X a tA)(hb:QW X (.BoolOp .Or (b::rest) pos) tB'):QW X (.BoolOp .Or (a::b::rest) pos) (PV tA tB'):=⟨MO ha.p hb.p⟩
theorem km(ha:QT X a tA):QW X (.BoolOp .Or [a] pos) tA:=⟨Jx ha.p⟩
theorem jC(h:QW X e t):QT X e t:=⟨PW.pt h.p⟩
theorem Ju{i:Nat}{x:TB}{e:TW}{te:TE}{pos':Wh}(hN:X.N.Nodup)(hi:X.N[i]?=some x)(hx:AT X.env.scope x)(he:QE X e te)(hs:V1 e (some (.Name x pos')) pos.line X.env=Vd false:=by rfl)(hf:X.fn x=true∨X.env.scope.names.lookup x=some .local:=by first|exact .inl Z|exact .inr Z|assumption):QS X (.Assign [.Name x pos'] e pos) (uy te (mM i)):=⟨JC hN hi hx he.p hs hf⟩
theorem CQ{i j:Nat}{x y:TB}{a b:TW}{ta:TA}{px py pt:Wh}{kt k2 pt2}(hc:X.calm=true)(hN:X.N.Nodup)(hi:X.N[i]?=some x)(hj:X.N[j]?=some y)(hij:i≠j)(hx:X.env.scope.names.lookup x=some .local)(hy:X.env.scope.names.lookup y=some .local)(ha:QA X [a,b] ta)(hw:Ym [.Tuple [.Name x px,.Name y py] kt pt] (.Tuple [a,b] k2 pt2) X.env=Vd (some [x,y]))(hs:Yl [.Tuple [.Name x px,.Name y py] kt pt] (.Tuple [a,b] k2 pt2) pos.line X.env=Vd false:=by rfl):QS X (.Assign [.Tuple [.Name x px,.Name y py] kt pt] (.Tuple [a,b] k2 pt2) pos) (L9 i j ta):=⟨JE hc hN hi hj hij hx hy ha.p hw hs⟩
theorem ko{tg e:TW}{te:TE}{g:TG}(he:QE X e te)(hg:QG X tg g)(hs:Yl [tg] e pos.line X.env=Vd false:=by rfl)(hw:Ym [tg] e X.env=Vd none:=by rfl)(h1:(U6 [tg] X.env).map (·.2)=[Yj tg X.env]:=by rfl):QS X (.Assign [tg] e pos) (uy te g):=⟨JI he.p hg.p hs hw h1⟩
theorem Jv{i:Nat}{x:TB}{e:TW}{te:TE}{op:Zb}{ti:Ip}{pos':Wh}(hN:X.N.Nodup)(hi:X.N[i]?=some x)(hx:AT X.env.scope x)(he:QE X e te)(ho:LO X op ti)(hf:X.fn x=true∨X.env.scope.names.lookup x=some .local:=by first|exact .inl Z|exact .inr Z|assumption):QS X (.AugAssign (.Name x pos') op e pos) (Mf i te ti):=⟨JH hN hi hx he.p ho hf⟩
theorem cF(hc:QT X c tc)(ha:dG X a t)(hb:dG X b u):QS X (.If c a b pos) (Mc tc t u):=⟨MP hc.p ha.p hb.p⟩
theorem kU(hp:TK (Tp X.prog X.w) X.A X.env X.xe)(hc:QT X c tc)(hb:dG X body tb):QS X (.While c body [] pos) (A6 tc tb):=⟨C4 hp hc.p hb.p⟩
theorem cB{iter:TW}{body:List Stmt}{wi:TI}{g:TG}{tb:TS}{pos:Wh}(hp:TK (Tp X.prog X.w) X.A X.env X.xe)(hc:X.calm=true)(hi:QI X tg iter wi)(hg:QG X tg g)(hb:dG X body tb)(hs:∀x,U7 iter X.env x=Vd x:=by intro _;rfl):QS X (.For tg iter body [] pos) (Md wi g tb):=⟨JF hp hc hi.p hg.p hb.p hs⟩
theorem aQ(he:QE X e te):QS X (.Return (some e) pos) (L8 te):=⟨JD he.p⟩
theorem cI(he:QE X e te)(hs:V1 e none pos.line X.env=Vd false:=by rfl):QS X (.Expr e pos) (Hh te):=⟨FG he.p hs⟩
theorem uP   : QS X (.Continue pos) Hk:=⟨uT ⟩
theorem dH{st:Stmt}  : QS X st A7:=⟨C5 ⟩
theorem bC   : dG X [] Hf:=⟨FE ⟩
theorem av{st:Stmt}(h1:QS X st t):dG X [st] t:=⟨FD h1.p⟩
theorem CO{st:Stmt}{rest:List Stmt}(h1:QS X st t)(h2:dG X rest u):dG X (st::rest) (Ix t u):=⟨C3 h1.p h2.p⟩
theorem cD{a:TW}{ta:TA}{p pos:Wh}(hg:Gl X "range")(hm:X.mg "range"=none)(ha:QA X [a] ta)(hs:SX [a] X.env=[(false,eval a X.env)]:=by rfl):QI X tg (.Call (.Name "range" p) [a] [] pos) (Ih ta):=⟨z9 hg hm ha.p hs⟩
theorem zV{a b:TW}{ta:TA}{p pos:Wh}(hg:Gl X "range")(hm:X.mg "range"=none)(ha:QA X [a,b] ta)(hs:SX [a,b] X.env=[(false,eval a X.env),(false,eval b X.env)]:=by rfl)(hs2:SX [b] X.env=[(false,eval b X.env)]:=by rfl):QI X tg (.Call (.Name "range" p) [a,b] [] pos) (Ig ta):=⟨z7 hg hm ha.p hs hs2⟩
theorem eh(hl:QE X l tl):QI X tg l (D8 X.K tl):=⟨FQ hl.p⟩
theorem dI(hl:QE X l tl):QI X tg l (GA X.K tl):=⟨Da hl.p⟩
theorem aJ{i:Nat}{x:TB}(hN:X.N.Nodup)(hi:X.N[i]?=some x)(hx:AT X.env.scope x)(hf:X.fn x=true∨X.env.scope.names.lookup x=some .local:=by first|exact .inl Z|exact .inr Z|assumption):QG X (.Name x pos) (mM i):=⟨FV hN hi hx hf⟩
theorem kq{es:List TW}{k:Nat}{t:AL}{n:Nat}(hc:X.calm=true)(h:NJ X es t)(hn:(U6 es X.env).length=n:=by rfl)(hst:(U6 es X.env).findIdx? (·.1)=none:=by rfl):QG X (.Tuple es k pos) (GC X.K n t):=⟨De hc h.p hn hst⟩
theorem ot{o i:TW}{to ti:TE}{t:xB}(ho:QE X o to)(hi:QE X i ti)(hs:EJ X t) (ha:∀v,Yj (.Subscript o i pos) X.env v=(do
   let ov ←holding [v] (eval o X.env);let iv ←holding [v,ov] (eval i X.env)
   YF pos
   holding [v,ov,iv] (ZW ov iv v)
   release [v,ov,iv] []):=by intro _;rfl):QG X (.Subscript o i pos) (Nr to ti t):=⟨JM ho.p hi.p hs ha⟩
theorem dS   : NJ X [] Nt:=⟨FT ⟩
theorem bL{e:TW}{es:List TW}{t:TG}{u:AL}(h1:QG X e t)(h2:NJ X es u)(hs:(U6 (e::es) X.env).map (·.2)=Yj e X.env::(U6 es X.env).map (·.2):=by rfl):NJ X (e::es) (Ii t u):=⟨Dd h1.p h2.p hs⟩
end
structure LM(X:Cx)(ifs:List TW)(t:TT):Prop where
 p:LN X ifs t
section
set_option autoImplicit true
set_option relaxedAutoImplicit true
theorem cN:LM X [] L6:=⟨FA ⟩
theorem fI(h:QT X c t):LM X [c] t:=⟨Fz h.p⟩
theorem cj(hc:X.calm=true)(hi:QI X tg iter wi)(hg:∀C fp pins s H,QG (GJ X N' scope cl C fp pins s H) tg g)(ht:∀C fp pins s H,LM (GJ X N' scope cl C fp pins s H) ifs tt)(he:∀C fp pins s H,QE (GJ X N' scope cl C fp pins s H) elt te)(hfree:dD X scope cl N' src)(hclos:X6 scope X.env=Vd cl)(hcell:∀x∈scope.names,x.2≠.cell)(hkind:scope.kind=.function)(hnames:∀x∈scope.names,x.2=.local->scope.names.lookup x.1=some .local)(hcl:lN X scope cl)(hs:∀x,U7 iter X.env x=Vd x:=by intro _;rfl):QE X (.ListComp elt [⟨tg,iter,ifs,0⟩] scope pos) (nN wi src g tt te):=⟨Ab hc hi.p (λz0 z1 z2 z3 z4=>(hg z0 z1 z2 z3 z4).p) (λz0 z1 z2 z3 z4=>(ht z0 z1 z2 z3 z4).p) (λz0 z1 z2 z3 z4=>(he z0 z1 z2 z3 z4).p) hfree hclos (Ik hcell hkind hcl) hnames hs⟩
theorem gf{i:Nat}{x:TB}{pos' pos2:Wh}(hN:X.N.Nodup)(hi':X.N[i]?=some x)(hx:AT X.env.scope x)(hc:X.calm=true)(hi:QI X tg iter wi)(hg:∀C fp pins s H,QG (GJ X N' scope cl C fp pins s H) tg g)(ht:∀C fp pins s H,LM (GJ X N' scope cl C fp pins s H) ifs tt)(he:∀C fp pins s H,QE (GJ X N' scope cl C fp pins s H) elt te)(hfree:dD X scope cl N' src)(hclos:X6 scope X.env=Vd cl)(hcell:∀x∈scope.names,x.2≠.cell)(hkind:scope.kind=.function)(hnames:∀x∈scope.names,x.2=.local->scope.names.lookup x.1=some .local)(hcl:lN X scope cl)(hs:∀x,U7 iter X.env x=Vd x:=by intro _;rfl)(hsw:V1 (.ListComp elt [⟨tg,iter,ifs,0⟩] scope pos) (some (.Name x pos')) pos2.line X.env=Vd true:=by rfl)(hf:X.fn x=true∨X.env.scope.names.lookup x=some .local:=by first|exact .inl Z|exact .inr Z|assumption):QS X (.Assign [.Name x pos'] (.ListComp elt [⟨tg,iter,ifs,0⟩] scope pos) pos2) (uy (nN wi src g tt te) (mM i)):=⟨yu hN hi' hx hc hi.p (λz0 z1 z2 z3 z4=>(hg z0 z1 z2 z3 z4).p) (λz0 z1 z2 z3 z4=>(ht z0 z1 z2 z3 z4).p) (λz0 z1 z2 z3 z4=>(he z0 z1 z2 z3 z4).p) hfree hclos (Ik hcell hkind hcl) hnames hs hsw hf⟩
end
section
variable {X:Cx}{K:Sy}
theorem FU{es:List TW}{k:Nat}{t:AL}{n:Nat}{pos:Wh}(hK:X.K=K)(hc:X.calm=true)(h:LP X es t)
  (hn:(U6 es X.env).length=n:=by rfl) (hst:(U6 es X.env).findIdx? (·.1)=none:=by rfl):PG X (.Tuple es k pos) (GC K n t):=hK▸De hc h hn hst
theorem FP(hK:X.K=K)(hl:PE X l tl):PI X tg l (GA K tl):=hK▸Da hl
theorem cQ(hK:X.K=K):zn X (Js K):=hK▸aD
theorem eT(hK:X.K=K):zn X (Jt K):=hK▸cc
def Rs(K:Sy):List V->Hp->VK->Prop:=λxs H Q=>Lu K H xs λn=>Q (.int n) H
end
theorem bw:SX (.BinOp a op b pos:: es) env=(false,eval (.BinOp a op b pos) env):: SX es env:=Z
end B
namespace B
open PySem
section
variable {es:List TW}{env:Env}
theorem cL{a b c}:SX (.Tuple a b c::es) env=(false,eval (.Tuple a b c) env)::SX es env:=Z
theorem aH{a b c}:SX (.Subscript a b c::es) env=(false,eval (.Subscript a b c) env)::SX es env:=Z
theorem aK{a b c d}:SX (.Call a b c d::es) env=(false,eval (.Call a b c d) env)::SX es env:=Z
theorem af{a b}:SX (.Name a b::es) env=(false,eval (.Name a b) env)::SX es env:=Z
theorem aX{a b c}:SX (.Constant a b c::es) env=(false,eval (.Constant a b c) env)::SX es env:=Z
theorem rh{a b c}:SX (.UnaryOp a b c::es) env=(false,eval (.UnaryOp a b c) env)::SX es env:=Z
theorem gE{a b c}:SX (.Attribute a b c::es) env=(false,eval (.Attribute a b c) env)::SX es env:=Z
theorem dq{a b c d}:SX (.ListComp a b c d::es) env=(false,eval (.ListComp a b c d) env)::SX es env:=Z
theorem E6{a b c d}:SX (.IfExp a b c d::es) env=(false,eval (.IfExp a b c d) env)::SX es env:=Z
end
end B
namespace B
open PySem L2 PyProof.Rows
inductive cH{α:Type}(P:V->α->Prop):List V->List α->Prop where
 |nil:cH P [] []
 |cons {x:V} {d:α} {xs:List V} {ds:List α} (h:P x d) (t:cH P xs ds):cH P (x::xs) (d::ds)
theorem cH.len{α:Type}{P:V->α->Prop}:∀{xs:List V} {ds:List α},cH P xs ds->xs.length=ds.length
 |_,_,.nil=>rfl
 |_,_,.cons _ t=>congrArg (·+1) t.len
theorem cH.mono{α:Type}{P P':V->α->Prop}(m:∀v d,P v d->P' v d):∀{xs:List V} {ds:List α},cH P xs ds->cH P' xs ds
 |_,_,.nil=>.nil
 |_,_,.cons h t=>.cons (m _ _ h) (t.mono m)
theorem cH.snoc{α:Type}{P:V->α->Prop}{x:V}{d:α}(k:P x d):∀{xs:List V} {ds:List α},cH P xs ds->cH P (xs++[x]) (ds++[d])
 |_,_,.nil=>.cons k .nil
 |_,_,.cons h t=>.cons h (t.snoc k)
theorem cH.at{α:Type}{P:V->α->Prop}:∀{xs:List V} {ds:List α},cH P xs ds->∀{i:Nat} {x:V},xs[i]?=some x->∃d,ds[i]?=some d/\P x d
 |_,_,.cons h _,0,x,e=>by
  rw[WX] at e
  cases e
  exact⟨_,Z,h⟩
 |_,_,.cons _ t,i+1,x,e=>t.at (i:=i) (by rw[WY] at e;exact e)
 |_,_,.nil,_,_,e=>by cases e
theorem cH.deep{α:Type}{K:Sy}{H:Hp}{P:V->α->Prop}{f:α->PyData}(m:∀v d,P v d->bW K H v (f d)):∀{xs:List V} {ds:List α},cH P xs ds->cf K H xs (ds.map f)
 |_,_,.nil=>.nil
 |_,_,.cons h t=>.cons (m _ _ h) (t.deep m)
end B
namespace B
open PySem PySem.Spec L2 PyProof.Rows
theorem cH.last{ds:List α}(h:cH P xs ds)(hn:ds.length=n+1):∃x d,ug xs (-1)=some x/\ds[n]?=some d/\P x d/\xs[n]?=some x:=by
 have hl:=h.len;have hx:xs[n]?=some (xs[n]'(by omega)):=Sz _;obtain⟨d,hd,p⟩:=h.at hx;refine⟨_,d,?_,hd,p,hx⟩;have e:xs=xs.take n++[xs[n]'(by omega)]:=by
  have:=List.take_append_drop n xs;rw[List.drop_eq_getElem_cons (by omega)] at this;rw[List.drop_eq_nil_of_le (by omega)] at this;exact this.symm
 have:=vE (xs.take n) (xs[n]'(by omega));rw[←e] at this;exact this
section
set_option autoImplicit true
set_option relaxedAutoImplicit true
theorem Jw(hl:QE X l tl):QI X tg l (Nk X.K tl):=⟨JK hl.p⟩
theorem jj{K:Sy}{es:List TW}{k:Nat}{t:AL}{n:Nat}{pos:Wh}(hK:X.K=K)(hc:X.calm=true)(h:NJ X es t)(hn:(U6 es X.env).length=n:=by rfl)(hst:(U6 es X.env).findIdx? (·.1)=none:=by rfl):QG X (.Tuple es k pos) (GC K n t):=⟨FU hK hc h.p hn hst⟩
theorem Fv{K:Sy}{l tg:TW}{tl:TE}(hK:X.K=K)(hl:QE X l tl):QI X tg l (GA K tl):=⟨FP hK hl.p⟩
end
def ON(K:Sy):R2:=λx y H Q=>∃d d',bW K H x d/\bW K H y d'/\d.canLay0=true/\d'.canLay0=true/\d.depth≤32/\Q (.bl (UM d d')) H
theorem JY(hr:dX k X.A):iF X (UK .Eq) (ON X.K):=by
 intro pins s σ H x y v u Q I rx ry h;obtain⟨d,d',hd,hd',c,c',dp,q⟩:=h;obtain⟨as,ra⟩:=bW.reads I hd rx;obtain⟨bs,rb⟩:=bW.reads I hd' ry;exact SeqAt.compareEq_reads ra rb c c' (by have:=hr.units;omega) ⟨.bl _,H,I,Z,q⟩
theorem tX:UM (dR r) (dR q)=decide (r=q):=by
 by_cases h:r=q
 ·rw[decide_eq_true h,h];exact vj q
 ·rw[decide_eq_false h]
  cases c:UM (dR r) (dR q) with
  |false=>rfl
  |true=>exact absurd (K0 c) h
def MJ(K:Sy):List V->Hp->VK->Prop:=λxs H Q=>∃a ys n b,xs=[.ref a,.ty n]/\bV K H a ys/\mK "tuple" n=some b/\Q (.bl b) H
theorem mB:eM X (.builtin "isinstance") (MJ X.K):=by
 intro pins s σ H xs us Q I r h;obtain⟨a,ys,n,b,rfl,hS,e,q⟩:=h;obtain⟨u,u2,rfl,rx,ry⟩:=AX r;obtain rfl:u2=WN n:=ry
 cases(show u=TF a from rx)
 obtain⟨its,_,⟨o,h1,h2,_⟩,_⟩:=I.tuple hS;exact Uy ZN I.kIn ⟨o,h1,h2⟩ (wU e) (λz=>nomatch z) λtk=>⟨.bl b,H,I.tok tk,Z,q⟩
section
set_option autoImplicit true
set_option relaxedAutoImplicit true
end
end B
namespace L2
open PySem PySem.Spec PyProof.Rows
section
variable {κ:Type} [DecidableEq κ]
def jY(kvs:List (κ×V))(k:κ):Option V:=(kvs.find? λkv=>decide (kv.1=k)).map (·.2)
def f6(kvs:List (κ×V))(k:κ)(v:V):List (κ×V):=
 if(kvs.any λkv=>decide (kv.1=k))=true then kvs.map (λkv=>if kv.1=k then(kv.1,v) else kv) else kvs++[(k,v)]
def Qt(kvs:List (κ×V))(k:κ):List (κ×V):=kvs.filter λkv=>decide (kv.1≠k)
theorem kL{p:κ×V}{r:List (κ×V)}{k:κ}(e:p.1=k):jY (p::r) k=some p.2:=by simp[jY,We,e]
theorem kM{p:κ×V}{r:List (κ×V)}{k:κ}(e:¬p.1=k):jY (p::r) k=jY r k:=by simp[jY,We,e]
theorem um(k:κ):∀kvs:List (κ×V),(kvs.any λkv=>decide (kv.1=k))=(jY kvs k).isSome
 | []=>rfl
 |p::r=>by
  rw[VB];by_cases e:p.1=k
  ·simp only[kL e,decide_eq_true e,Bool.true_or,WQ]
  ·rw[kM e,decide_eq_false e,Yp];exact um k r
theorem iV(kvs:List (κ×V))(k:κ)(v:V):(f6 kvs k v).length≤kvs.length+1:=by
 unfold f6
 split
 ·rw[SE];omega
 ·rw[SZ,Tv,Y4];omega
theorem ie.isSome_eq(r:ie o u):o.isSome=u.isSome:=by
 cases o with
 |none=>cases u with
  |none=>rfl
  |some _=>exact(show False from r).elim
 |some _=>cases u with
  |none=>exact(show False from r).elim
  |some _=>rfl
theorem ie.getD(r:ie o u)(rd:bK d d'):bK (o.getD d) (u.getD d'):=by
 cases o with
 |none=>cases u with
  |none=>exact rd
  |some _=>exact(show False from r).elim
 |some _=>cases u with
  |none=>exact(show False from r).elim
  |some _=>exact r
theorem KV.val{kvs:List (κ×V)}{vs:List (κ×Value)}(r:KV kvs vs)(k:κ):ie (jY kvs k) (Zt vs k):=by
 unfold KV at r
 induction r with
 |nil=>exact Vh
 | @cons p q ps qs h t ih=>
  obtain⟨h1,h2⟩:=h;by_cases e:p.1=k
  ·have e':q.1=k:=h1.symm.trans e;have b:Zt (q::qs) k=some q.2:=by simp[Zt,We,e']
   rw[kL e,b];exact h2
  ·have e':¬q.1=k:=λz=>e (h1.trans z)
   have b:Zt (q::qs) k=Zt qs k:=by simp[Zt,We,e']
   rw[kM e,b];exact ih
theorem KV.any{kvs:List (κ×V)}{vs:List (κ×Value)}(r:KV kvs vs)(k:κ):(kvs.any λkv=>decide (kv.1=k))=vs.any λkv=>decide (kv.1=k):=by
 unfold KV at r
 induction r with
 |nil=>rfl
 |cons h t ih=>rw[VB,VB,ih,h.1]
theorem KV.repl{kvs:List (κ×V)}{vs:List (κ×Value)}(r:KV kvs vs)(k:κ){y:V}{u:Value}(ry:bK y u) :
  KV (kvs.map λkv=>if kv.1=k then(kv.1,y) else kv) (vs.map λkv=>if kv.1=k then(kv.1,u) else kv):=by
 unfold KV at r ⊢
 induction r with
 |nil=>exact .nil
 | @cons p q ps qs h t ih=>
  rw[TZ,TZ];refine .cons ?_ ih;obtain⟨h1,h2⟩:=h;by_cases e:p.1=k
  ·rw[if_pos e,if_pos (h1.symm.trans e)];exact⟨h1,ry⟩
  ·rw[if_neg e,if_neg (λz=>e (h1.trans z))];exact⟨h1,h2⟩
theorem KV.put{kvs:List (κ×V)}{vs:List (κ×Value)}(r:KV kvs vs)(k:κ){y:V}{u:Value}(ry:bK y u):KV (f6 kvs k y) (stored vs k u):=by
 unfold f6 stored;rw[r.any k];by_cases e:(vs.any λkv=>decide (kv.1=k))=true
 ·rw[if_pos e,if_pos e];exact r.repl k ry
 ·rw[if_neg e,if_neg e];exact Paired.snoc r ⟨Z,ry⟩
theorem KV.length{kvs:List (κ×V)}{vs:List (κ×Value)}(r:KV kvs vs):kvs.length=vs.length:=Paired.length r
end
theorem u9(r:bK (kV k) u):(cK P w).is k u=true:=by
 cases k with
 |inl i=>obtain⟨t,e⟩:=(show ∃t,u=VZ i t from r);subst e;exact uZ P w i t
 |inr x=>obtain⟨t,e⟩:=(show ∃t,u=XX x t from r);subst e;exact uY P w x t
theorem qy{P:Tx}{w:T9}:∀{ks:List cW} {us:List Value},bP (ks.map kV) us->ItemsAre (cK P w) ks us
 | [],_,r=>by rw[Z8] at r;cases r;exact .nil
 |k::ks,_,r=>by
  rw[TZ] at r
  cases r with
  |cons h t=>exact .cons (u9 h) (qy t)
abbrev KT(H:Hp):List (List cW×V)->List (List cW×Addr×Value)->Prop:=Paired λp q=>p.1=q.1/\H q.2.1=some (.tup (p.1.map kV))/\bK p.2 q.2.2
theorem KT.val(r:KT H kvs xs)(k:List cW):ie (jY kvs k) ((aaG xs k).map (·.2)):=by
 induction r with
 |nil=>exact Vh
 | @cons p q ps qs h t ih=>
  obtain⟨h1,_,h2⟩:=h;by_cases e:p.1=k
  ·have e':q.1=k:=h1.symm.trans e;have b:aaG (q::qs) k=some q.2:=by simp[aaG,We,e']
   rw[kL e,b];exact h2
  ·have e':¬q.1=k:=λz=>e (h1.trans z)
   have b:aaG (q::qs) k=aaG qs k:=by simp[aaG,We,e']
   rw[kM e,b];exact ih
theorem KT.repl(r:KT H kvs xs)(k:List cW)(ry:bK y u):
  KT H (kvs.map λkv=>if kv.1=k then(kv.1,y) else kv) (xs.map (putAt k u)):=by
 induction r with
 |nil=>exact .nil
 | @cons p q ps qs h t ih=>
  rw[TZ,TZ];refine .cons ?_ ih;obtain⟨h1,h2,h3⟩:=h;unfold putAt;by_cases e:p.1=k
  ·rw[if_pos e,if_pos (h1.symm.trans e)];exact⟨h1,h2,ry⟩
  ·rw[if_neg e,if_neg (λz=>e (h1.trans z))];exact⟨h1,h2,h3⟩
theorem KT.put(r:KT H kvs xs)(k:List cW)(hb:H b=some (.tup (k.map kV)))(ry:bK y u):
  KT H (f6 kvs k y) (storedH xs k b u):=by
 have e:(kvs.any λkv=>decide (kv.1=k))=(aaG xs k).isSome:=by
  rw[um,(r.val k).isSome_eq,Option.isSome_map]
 unfold f6 storedH;rw[e];by_cases q:(aaG xs k).isSome=true
 ·rw[if_pos q,if_pos q];exact r.repl k ry
 ·rw[if_neg q,if_neg q];exact Paired.snoc r ⟨Z,hb,ry⟩
theorem KT.keeps(r:KT H kvs xs)(ht:∀b ys,H b=some (.tup ys)->H' b=some (.tup ys)):KT H' kvs xs:=
 Paired.mapP r λ_ _ z=>⟨z.1,ht _ _ z.2.1,z.2.2⟩
section
variable {P:Tx}{w:T9}{H:Hp}{h:SY}{a:Addr}
theorem Ht(ok:jT P w H h)(e:Rd H a u):cG P w H h a u:=e.ok ok
theorem vm(ok:jT P w H h)(e:Rd H a (.dK kvs)):kvs.length≤sizeLine/\(a==V8)=false/\∃vs,KV kvs vs/\h.DictOf (cK P w) a vs:=
 show cG P w H h a (.dK kvs) from Ht ok e
theorem En(ok:jT P w H h)(e:H a=some (.dK kvs)):kvs.length≤sizeLine/\(a==V8)=false/\∃vs,KV kvs vs/\h.DictOf (cK P w) a vs:=vm ok (.inl e)
theorem tS(ok:jT P w H h)(e:H a=some (.tup (ks.map kV))):(Ys (cK P w)).is h ks a:=by
 obtain⟨_,its,r,o,h1,h2,n,h3⟩:=(show cG P w H h a (.tup (ks.map kV)) from ok a _ e);exact⟨o,its.toArray,n,h1,h2,h3,by simpa using qy r⟩
theorem vk(ok:jT P w H h)(e:Rd H a (.dT kvs)):kvs.length≤sizeLine/\(a==V8)=false∧
  ∃xs,KT H kvs xs/\h.DictOfH (Ys (cK P w)) a xs:=by
 obtain⟨z,y,xs,r,o,es,ep,h1,h2,h3,h4,h5⟩:=(show cG P w H h a (.dT kvs) from Ht ok e);refine⟨z,y,xs,r,o,es,ep,h1,h2,h3,h4,λx hx=>?_,h5⟩;have all:∀{l:List (List cW×V)} {m:List (List cW×Addr×Value)},KT H l m->∀x∈m,(Ys (cK P w)).is h x.1 x.2.1:=by
  intro l m q
  induction q with
  |nil=>intro x hx;exact nomatch hx
  | @cons p q ps qs hq t ih=>
   intro x hx;rcases S6.mp hx with e|hx
   ·subst e;exact tS ok (by rw[←hq.1];exact hq.2.1)
   ·exact ih x hx
 exact all r x hx
theorem Ny(ok:jT P w H h)(e:H a=some (.dT kvs)):kvs.length≤sizeLine/\(a==V8)=false∧
  ∃xs,KT H kvs xs/\h.DictOfH (Ys (cK P w)) a xs:=vk ok (.inl e)
end
def kG(H:Hp)(a:Addr)(y:V)(r:Option V):Prop:=
 (∃kvs k,Rd H a (.dK kvs)/\y=kV k/\r=jY kvs k)∨∃kvs k b,Rd H a (.dT kvs)/\y=.ref b/\H b=some (.tup (k.map kV))/\r=jY kvs k
def xN(H:Hp)(a:Addr)(y v:V)(H':Hp):Prop:=
 (∃kvs k,H a=some (.dK kvs)/\y=kV k/\kvs.length<sizeLine/\H'=aO H a (.dK (f6 kvs k v)))∨
 ∃kvs k b,H a=some (.dT kvs)/\y=.ref b/\H b=some (.tup (k.map kV))/\kvs.length<sizeLine/\H'=aO H a (.dT (f6 kvs k v))
theorem kG.k{H:Hp}{a:Addr}{kvs:List (cW×V)}{k:cW}(e:H a=some (.dK kvs)):kG H a (kV k) (jY kvs k):=.inl ⟨kvs,k,.inl e,Z,Z⟩
theorem xN.k{H:Hp}{a:Addr}{kvs:List (cW×V)}{k:cW}{v:V}(e:H a=some (.dK kvs))(hl:kvs.length<sizeLine):xN H a (kV k) v (aO H a (.dK (f6 kvs k v))):=.inl ⟨kvs,k,e,Z,hl,Z⟩
section
variable {X:Cx}{pins:List (Addr×UU)}{σ:St}{H:Hp}{s:SH}{a:Addr}{y v:V}{u r:Value}{o:Option V}{A:TV}{E:Value->SH->Prop}
theorem Inv.big(I:Inv X pins σ H s):V8<s.heap.objs.size:=by
 have h:TC<s.heap.objs.size:=(I.mod.glob.keeps I.bk).lt;exact Nat.lt_trans (by decide) h
theorem AA(hu:A.units+1<cLine)(I:Inv X pins σ H s)(g:kG H a y (some v))(ry:bK y u)(h:∀w' s',Inv X pins σ H s'->bK v w'->Q w' s'):
  Tj (Tp X.prog X.w) A (W4 (.ref a) u) Q E s:=by
 rcases g with⟨kvs,k,e,ey,l⟩ | ⟨kvs,k,b,e,ey,eb,l⟩
 ·subst ey;obtain⟨z,hd,vs,rel,dd⟩:=vm I.hok e;obtain⟨w',hw,rw'⟩:=ie.some_of (v:=v) (o:=Zt vs k) (by rw[l];exact rel.val k);exact wpAny_getItem_of (u9 ry) dd.mapOf hw (h w' _ (I.tok _) rw')
 ·subst ey
  cases(show u=TF b from ry)
  obtain⟨z,hd,xs,rel,dd⟩:=vk I.hok e;obtain⟨w',hw,rw'⟩:=ie.some_of (v:=v) (o:=(aaG xs k).map (·.2)) (by rw[l];exact rel.val k);obtain⟨p,hp,hp2⟩:=TQ.mp hw;refine wpAny_getItem_heap (X7 hu) (tS I.hok eb) dd hp ?_;rw[hp2];exact h w' _ (I.tok _) rw'
theorem nB(I:Inv X pins σ H s)(mu:NL (H a))(hs:Wa a s.heap h')(he:∃q,h'.get? a=some q)(new:cG X.prog X.w (aO H a ob) h' a ob):
  Inv X pins σ (aO H a ob) { s with heap:=h',toks:=t'}:=
 I.write (x:=a) (e:=a) mu (.inl Z) (λb q hb z=>(hs.2 b hb).trans z) he new
theorem Eo(z:kvs.length≤sizeLine)(hd:(a==V8)=false)(rel:KV kvs vs)(dd:h'.DictOf (cK P w) a vs):
  cG P w H' h' a (.dK kvs):=⟨z,hd,vs,rel,dd⟩
theorem Az(hu:A.units+1<cLine)(I:Inv X pins σ H s)(g:xN H a y v H')(ry:bK y u)(rv:bK v r)(h:∀s',Inv X pins σ H' s'->Q () s'):
  Tj (Tp X.prog X.w) A (ZW (.ref a) u r) Q E s:=by
 rcases g with⟨kvs,k,e,ey,l,eH⟩ | ⟨kvs,k,b,e,ey,eb,l,eH⟩
 ·subst ey eH;obtain⟨z,hd,vs,rel,dd⟩:=En I.hok e;have hz:vs.length≤sizeLine:=by rw[←rel.length];exact z
  have hl:(f6 kvs k v).length≤sizeLine:=by have:=iV kvs k v;omega
  refine wpAny_setItem_pairs (hsz:=hz) (u9 ry) dd λh' dd' hs=>h _ ?_
  have he:∃q,h'.get? a=some q:=let ⟨q,_,_,hq,_⟩:=dd';⟨q,hq⟩;exact nB I (by rw[e];exact Vh) hs he (Eo hl hd (rel.put k rv) dd')
 ·subst ey eH
  cases(show u=TF b from ry)
  obtain⟨z,hd,xs,rel,dd⟩:=Ny I.hok e;have hz:xs.length≤sizeLine:=by rw[←Paired.length rel];exact z
  have hl:(f6 kvs k v).length≤sizeLine:=by have:=iV kvs k v;omega
  refine wpAny_setItem_heap (hsz:=hz) (X7 hu) (tS I.hok eb) dd λh' dd' hs=>h _ ?_
  obtain⟨q,es,ep,hq,h2,h3,h4,_,h5⟩:=dd';refine nB I (by rw[e];exact Vh) hs ⟨q,hq⟩ ⟨hl,hd,_,(rel.put k eb rv).keeps λc ys ec=>?_,q,es,ep,hq,h2,h3,h4,h5⟩;rw[aA (Nb ec e (λz=>nomatch z))];exact ec
end
section
variable {X:Cx}{pins:List (Addr×UU)}{σ:St}{H:Hp}{s:SH}{a:Addr}{kvs:List (cW×V)}{k:cW}{u:Value}{A:TV}{E:Value->SH->Prop}
end
def Lk(i:TW):Prop:=∀ov iv,Yc i false ov iv=operate [ov,iv] (W4 ov iv)
theorem E5{prog:Tx}{w:T9}{A:TV}{E:Value->SH->Prop}{s:SH}{env:Env}{value slice:TW}{pos:Wh}{T id:String}{Q:Value->SH->Prop}
  (hl:typeLookup (.type T) "__getitem__"=Vd (some (.builtin id))) (hs:Lk slice)
  (h:Tj (Tp prog w) A (eval value env) (λo s₁=>Tj (Tp prog w) A (eval slice env) (λi s₂=>s₂.TypeIs o T/\Tj (Tp prog w) A (W4 o i) Q E s₂) E s₁) E s) :
  Tj (Tp prog w) A (eval (.Subscript value slice pos) env) Q E s:=by
 refine Subscript_ (Vv h (λo s₁ h₁=>Vv h₁ (λi s₂ h₂=>?_) λ_ _ x=>x) λ_ _ x=>x);obtain⟨hT,h₂⟩:=h₂;unfold ZC;refine SL ?_;rw[getitemInPython_of_ne hT.not_modules];refine SL (wpAny_specialOf hT hl ?_);have fin:Tj (Tp prog w) A (Yc slice false o i) (λr s₃=>Tj (Tp prog w) A (letTemporaryGo value o r >>= λ_=>Vd r) Q E s₃) E s₂:=by
  rw[hs o i];exact wpAny_operating (Vv h₂ (λr s₃ h₃=>SL (wpAny_letTemporaryGo (wpAny_pure h₃))) λ_ _ x=>x)
 first
  |exact wpAny_pure (SL fin)
  |exact SL (wpAny_pure (SL fin))
  |exact SL fin
theorem vq{X:Cx}{pins:List (Addr×UU)}{σ:St}{H:Hp}{s:SH}{a:Addr}{y:V}{o:Option V}(I:Inv X pins σ H s)(g:kG H a y o):s.TypeIs (.ref a) "dict" := by
 rcases g with⟨kvs,k,e,_,_⟩ | ⟨kvs,k,b,e,_,_,_⟩
 ·obtain⟨_,_,vs,_,dd⟩:=vm I.hok e;exact dd.typeIs
 ·obtain⟨_,_,xs,_,dd⟩:=vk I.hok e;exact dd.typeIs
def Hj(td ty:TE):TE:=λσ H Q=>td σ H λx H1=>ty σ H1 λy H2=>∃a v,x=.ref a/\kG H2 a y (some v)/\Q v H2
def Ra(ty td:TE):TE:=λσ H Q=>ty σ H λy H1=>td σ H1 λx H2=>∃a o,x=.ref a/\kG H2 a y o/\Q (.bl o.isSome) H2
def N7(ty td:TE):TE:=λσ H Q=>ty σ H λy H1=>td σ H1 λx H2=>∃a o,x=.ref a/\kG H2 a y o/\Q (.bl (!o.isSome)) H2
def Hs(td ty tv:TE):TS:=λD σ H=>tv σ H λv H1=>td σ H1 λx H2=>ty σ H2 λy H3=>∃a H4,x=.ref a/\xN H3 a y v H4/\D.nx σ H4
def P8(td ty tv:TE)(rd:V->V->Hp->VK->Prop):TS:=λD σ H=>td σ H λx H1=>ty σ H1 λy H2=>∃a v,x=.ref a/\kG H2 a y (some v)∧
 tv σ H2 λy2 H3=>rd v y2 H3 λz H4=>∃H5,xN H4 a y z H5/\D.nx σ H5
section
variable {X:Cx}{o i e value:TW}{pos pos' tpos:Wh}{td ty tv:TE}
theorem F0(hu:X.A.units+1<cLine)(ho:PE X o td)(hi:PE X i ty)(hs:Lk i):PE X (.Subscript o i pos) (Hj td ty):=by
 intro pins s σ H Q I h;refine E5 PySem.F.slot_dict_getitem.lookup hs (cT (ho pins s σ H _ I h) λu s1 ⟨x,H1,I1,rx,q1⟩=>cT (hi pins s1 σ H1 _ I1 q1) λiv s2 ⟨y,H2,I2,ry,a,v,ex,g,q2⟩=>?_);subst ex;obtain rfl:u=TF a:=rx;exact⟨vq I2 g,AA hu I2 g ry λw' s3 I3 rw'=>⟨v,H2,I3,rw',q2⟩⟩
theorem FH(hu:X.A.units+1<cLine)(ho:PE X o td)(hi:PE X i ty)(hv:PE X value tv)(hs:V1 value (some (.Subscript o i pos')) pos.line X.env=Vd false) :
  PS X (.Assign [.Subscript o i pos'] value pos) (Hs td ty tv):=by
 intro pins s σ H D I h;refine wpAny_Assign_Subscript (cT (hv pins s σ H _ I h) λr s1 ⟨v,H1,I1,rv,q1⟩=>cT (ho pins s1 σ H1 _ I1 q1) λu s2 ⟨x,H2,I2,rx,q2⟩=>cT (hi pins s2 σ H2 _ I2 q2) λiv s3 ⟨y,H3,I3,ry,a,H4,ex,g,q3⟩=>?_) hs;subst ex;obtain rfl:u=TF a:=rx;exact Az hu I3 g ry rv λs4 I4=>⟨σ,H4,I4,q3⟩
end
theorem vo(h:SY)(hb:V8<h.objs.size):cG P w H (h.push { cls:=.type "dict",data:=.dict #[]}) h.objs.size (.dK []):=
 ⟨S8 _,beq_eq_false_iff_ne.mpr (V9 (Uj hb)),[],.nil,SY.DictOf.new h⟩
def A8:TE:=λ_ H Q=>∀p,H p=none->Q (.ref p) (aO H p (.dK []))
section
variable {X:Cx}{pos:Wh}
theorem Dj:PE X (.Dict [] [] pos) A8:=λpins s σ H Q I h=>
 wpAny_Dict_empty ⟨.ref s.heap.objs.size,_,I.laid (a:=s.heap.objs.size) (o:=.dK []) (t':=s.toks) (λ_ _ q=>SK _ q) (SD _) (vo s.heap I.big),Z,h _ (I.hok.fresh (SD _))⟩
end
def vV:List (TE×TE)->St->Hp->(List (V×V)->Hp->Prop)->Prop
 | [],_,H,Q=>Q [] H
 | (tk,tv)::r,σ,H,Q=>tk σ H λx H1=>tv σ H1 λy H2=>vV r σ H2 λps H3=>Q ((x,y)::ps) H3
abbrev VV:List (V×V)->List (Value×Value)->Prop:=Paired λp q=>bK p.1 q.1/\bK p.2 q.2
def Os(X:Cx)(pos:Wh)(keys:List (Option TW))(values:List TW)(trs:List (TE×TE)):Prop:=
 ∀(pins:List (Addr×UU)) (s:SH) (σ:St) (H:Hp) (Q:List (V×V)->Hp->Prop),Inv X pins σ H s->vV trs σ H Q→
  Tj (Tp X.prog X.w) X.A (evalPairs (pairTrees keys values X.env pos)) (λvs s'=>∃ps H',Inv X pins σ H' s'/\VV ps vs/\Q ps H') X.xe s
theorem FJ:Os X pos [] [] []:=λpins s σ H Q I h=>pairTrees_nil_walk ⟨[],H,I,.nil,h⟩
theorem oA(hk:PE X k tk)(hv:PE X v tv)(hr:Os X pos ks vs trs):
  Os X pos (some k:: ks) (v:: vs) ((tk,tv):: trs):=λpins s σ H Q I h=>
 pairTrees_cons_walk (cT (hk pins s σ H _ I h) λu s1 ⟨x,H1,I1,rx,q1⟩=>cT (hv pins s1 σ H1 _ I1 q1) λw2 s2 ⟨y,H2,I2,ry,q2⟩=>
  cT (hr pins s2 σ H2 _ I2 q2) λws s3 ⟨ps,H3,I3,rel,q3⟩=>⟨(x,y)::ps,H3,I3,.cons ⟨rx,ry⟩ rel,q3⟩)
def fS(kvs more:List (cW×V)):List (cW×V):=more.foldl (λacc kv=>f6 acc kv.1 kv.2) kvs
theorem KV.merge:∀{more:List (cW×V)} {rs:List (cW×Value)} {kvs:List (cW×V)} {vs:List (cW×Value)},KV more rs->KV kvs vs->KV (fS kvs more) (merged vs rs):=by
 intro more rs kvs vs r;unfold KV at r
 induction r generalizing kvs vs with
 |nil=>intro q;exact q
 | @cons p q ps qs h t ih=>
  intro r0;have e:KV (f6 kvs p.1 p.2) (stored vs q.1 q.2):=by
   have:=r0.put p.1 h.2;rw[←h.1];exact this
  exact ih e
theorem jE:∀(more kvs:List (cW×V)),(fS kvs more).length≤kvs.length+more.length
 | [],kvs=>by show kvs.length≤kvs.length+0;omega
 |p::r,kvs=>by
  have h1:=jE r (f6 kvs p.1 p.2);have h2:=iV kvs p.1 p.2;show(fS (f6 kvs p.1 p.2) r).length≤_;rw[Tv];omega
theorem o6{P:Tx}{w:T9}:∀{kvs:List (cW×V)} {ws:List (Value×Value)},VV (kvs.map λkv=>(kV kv.1,kv.2)) ws->∃rs,Carries (cK P w) ws rs/\KV kvs rs
 | [],_,r=>by rw[Z8] at r;cases r;exact⟨[],Vh,.nil⟩
 |p::kvs,_,r=>by
  rw[TZ] at r
  cases r with
  | @cons a b as bs h t=>
   obtain⟨rs,c,q⟩:=o6 (P:=P) (w:=w) t;obtain⟨b1,b2⟩:=b;exact⟨(p.1,b2)::rs,⟨u9 h.1,Z,c⟩,.cons ⟨Z,h.2⟩ q⟩
def Hi(trs:List (TE×TE)):TE:=λσ H Q=>∀p,H p=none->vV trs σ (aO H p (.dK [])) λps H2=>H2 p=some (.dK [])/\∃kvs:List (cW×V),ps=kvs.map (λkv=>(kV kv.1,kv.2))/\kvs.length≤15/\Q (.ref p) (aO H2 p (.dK (fS [] kvs)))
theorem FZ(h:Os X pos keys values trs)(hall:keys.all (·.isSome)=true)(hl:keys.length=values.length)(h0:keys≠[])
  (h15:keys.length≤15):PE X (.Dict keys values pos) (Hi trs):=by
 intro pins s σ H Q I q;have hn:=I.hok.fresh (SD s.heap.objs.size);have I1:=I.laid (a:=s.heap.objs.size) (o:=.dK []) (h':=s.heap.push { cls:=.type "dict",data:=.dict #[]}) (t':=s.toks) (λ_ _ q=>SK _ q) (SD _) (vo s.heap I.big);refine wpAny_Dict_walk (knd:=cK X.prog X.w) hall hl h0 h15 (cT (h pins _ σ _ _ I1 (q _ hn)) λws s2 ⟨ps,H2,I2,rel,e,kvs,ep,lk,q2⟩=>?_);subst ep;obtain⟨rs,c,rk⟩:=o6 (P:=X.prog) (w:=X.w) rel;obtain⟨z,hd,vs0,r0,dd⟩:=En I2.hok e
 cases r0
 refine⟨rs,c,dd,λh' dd' hs=>⟨.ref s.heap.objs.size,_,?_,Z,q2⟩⟩;have hz:(fS [] kvs).length≤sizeLine:=by
  have h1:=jE kvs [];rw[Y4] at h1;rw[WU];omega
 have he:∃q,h'.get? s.heap.objs.size=some q:=let ⟨q,_,_,hq,_⟩:=dd';⟨q,hq⟩;exact nB I2 (by rw[e];exact Vh) hs he (Eo hz hd (rk.merge .nil) dd')
structure M1(X:Cx)(o:TW)(m:TB)(apos:Wh)(e:TW)(cpos:Wh):Prop where
 base:Vz o m X.env (eval o X.env)=eval o X.env
 few:((VD cpos (SX [e] X.env)).all (λx=>!x.1)&&(Xw cpos (V5 [] X.env)).all (λx=>x.1.isSome)
 &&decide (([e]:List TW).length+([]:List XU).length+(if([]:List XU).isEmpty then 0 else 1)<30))=true
 line:(apos.endLine==cpos.line)=true
 trees:VD cpos (SX [e] X.env)=[(false,eval e X.env)]
structure M2(X:Cx)(o:TW)(m:TB)(apos:Wh)(e f:TW)(cpos:Wh):Prop where
 base:Vz o m X.env (eval o X.env)=eval o X.env
 few:((VD cpos (SX [e,f] X.env)).all (λx=>!x.1)&&(Xw cpos (V5 [] X.env)).all (λx=>x.1.isSome)
 &&decide (([e,f]:List TW).length+([]:List XU).length+(if([]:List XU).isEmpty then 0 else 1)<30))=true
 line:(apos.endLine==cpos.line)=true
 trees:VD cpos (SX [e,f] X.env)=[(false,eval e X.env),(false,eval f X.env)]
def Ps(H:Hp)(a:Addr):Prop:=(∃kvs,Rd H a (.dK kvs))∨∃kvs,Rd H a (.dT kvs)
theorem D5{X:Cx}{pins:List (Addr×UU)}{σ:St}{H:Hp}{s:SH}{a:Addr}(I:Inv X pins σ H s)(d:Ps H a) :
  s.TypeIs (.ref a) "dict"/\(∀b,TF a=.ref b->∃ob,s.heap.get? b=some ob/\ob.dict=none)/\(a==V8)=false:=by
 rcases d with⟨kvs,e⟩ | ⟨kvs,e⟩
 ·obtain⟨_,hd,vs,_,dd⟩:=vm I.hok e;refine⟨dd.typeIs,λb q=>?_,hd⟩
  cases q
  obtain⟨ob,_,_,h1,h2,_⟩:=dd;exact⟨ob,h1,h2.2.1⟩
 ·obtain⟨_,hd,xs,_,dd⟩:=vk I.hok e;refine⟨dd.typeIs,λb q=>?_,hd⟩
  cases q
  obtain⟨ob,_,_,h1,h2,_⟩:=dd;exact⟨ob,h1,h2.2.1⟩
section
variable {X:Cx}{pins:List (Addr×UU)}{σ:St}{H:Hp}{s:SH}{a:Addr}{y d:V}{u r:Value}{o:Option V}{A:TV}{E:Value->SH->Prop}
theorem K3(hu:A.units+1<cLine)(I:Inv X pins σ H s)(g:kG H a y o)(ry:bK y u)(rd:bK d r)(h:∀w' s',Inv X pins σ H s'->bK (o.getD d) w'->Q w' s'):
  Tj (Tp X.prog X.w) A (call (.builtin "dict.get") [.ref a,u,r]) Q E s:=by
 rcases g with⟨kvs,k,e,ey,l⟩ | ⟨kvs,k,b,e,ey,eb,l⟩
 ·subst ey;obtain⟨z,hd,vs,rel,dd⟩:=vm I.hok e;refine call_meetsIn Xm dd.typeIs YW (Yv _ _ _) (meets_dict_get_default (cK X.prog X.w) a (u9 ry) hd r) ⟨_,dd.mapOf,h _ _ (I.tok _) ?_⟩;rw[l];exact(rel.val k).getD rd
 ·subst ey
  cases(show u=TF b from ry)
  obtain⟨z,hd,xs,rel,dd⟩:=vk I.hok e;refine call_meetsIn Xm dd.typeIs YW (Yv _ _ _) (meetsH_dict_get_default (Ys (cK X.prog X.w)) a b hd r) ⟨X7 hu,k,xs,tS I.hok eb,dd,h _ _ (I.tok _) ?_⟩;rw[l];exact(rel.val k).getD rd
end
def OE(td ty:TE):TE:=λσ H Q=>td σ H λx H1=>∃a,x=.ref a/\Ps H1 a/\ty σ H1 λy H2=>∃o,kG H2 a y o/\Q (o.getD .non) H2
def A9(td ty tx:TE):TE:=λσ H Q=>td σ H λx H1=>∃a,x=.ref a/\Ps H1 a/\ty σ H1 λy H2=>tx σ H2 λz H3=>∃o,kG H3 a y o/\Q (o.getD z) H3
section
variable {X:Cx}{o e f:TW}{apos cpos:Wh}{td ty tx:TE}
theorem Dk(hu:X.A.units+1<cLine)(ho:PE X o td)(he:PE X e ty)(hf:PE X f tx)(m:M2 X o "get" apos e f cpos):PE X (.Call (.Attribute o "get" apos) [e,f] [] cpos) (A9 td ty tx):=by
 intro pins s σ H Q I h;refine wpAny_Call_method m.base m.few m.line Yw Xm PySem.F.type_dict_get (cT (ho pins s σ H _ I h) λu s1 ⟨x,H1,I1,rx,a,ex,d,q1⟩=>?_);subst ex;obtain rfl:u=TF a:=rx;obtain⟨t1,t2,_⟩:=D5 I1 d;refine⟨t1,t2,?_⟩;rw[m.trees];refine Calls.callWith_builtin Z (Calls.evalArgs_plain (Calls.spliced_cons (cT (he pins s1 σ H1 _ I1 q1) λiv s2 ⟨y,H2,I2,ry,q2⟩=>
  Calls.spliced_cons (cT (hf pins s2 σ H2 _ I2 q2) λfv s3 ⟨z,H3,I3,rz,ov,g,q3⟩=>Calls.spliced_nil ?_))))
 exact K3 hu I3 g ry rz λw' s4 I4 rw'=>⟨_,H3,I4,rw',q3⟩
end
end L2
namespace B
open PySem PySem.Spec L2 PyProof.Rows
def nJ:PyData->String
 | .none => "NoneType"
 | .bool _ => "bool"
 | .int _ => "int"
 | .str _ => "str"
 | .list _ => "list"
 | .tuple _ => "tuple"
 | .dict _ => "dict"
def MK(K:Sy):List V->Hp->VK->Prop:=λxs H Q=>∃v d n b,xs=[v,.ty n]/\bW K H v d/\mK (nJ d) n=some b/\Q (.bl b) H
theorem mC:eM X (.builtin "isinstance") (MK X.K):=by
 intro pins s σ H xs us Q I r h;obtain⟨v,d,n,b,rfl,hD,e,q⟩:=h
 cases hD with
 |non=>exact gL pins s σ H _ us Q I r ⟨_,n,_,b,Z,.non,e,q⟩
 |bl c=>exact gL pins s σ H _ us Q I r ⟨_,n,_,b,Z,.bl c,e,q⟩
 |int i=>exact gL pins s σ H _ us Q I r ⟨_,n,_,b,Z,.int i,e,q⟩
 |str x=>exact gL pins s σ H _ us Q I r ⟨_,n,_,b,Z,.str x,e,q⟩
 | @tup a ys ds hS hA=>exact mB pins s σ H _ us Q I r ⟨a,ys,n,b,Z,hS,e,q⟩
 | @lst a ys ds hS hA=>
  obtain⟨u,u2,rfl,rx,ry⟩:=AX r;obtain rfl:u2=WN n:=ry
  cases(show u=TF a from rx)
  obtain⟨its,_,⟨o,k,h1,h2,_⟩,_⟩:=I.list hS;exact Uy Ye I.kIn ⟨o,h1,h2⟩ (wU e) (λz=>nomatch z) λtk=>⟨.bl b,H,I.tok tk,Z,q⟩
def gX:PyData->Bool
 | .int _=>true
 |_=>false
def pM(n:Nat):PyData->Bool
 | .tuple xs=>decide (xs.length=n)
 |_=>false
def kQ:PyData->Bool
 | .tuple [.int a,.int b]=>decide (1≤b)&&decide (S7 a b=1)
 |_=>false
def Qj:PyData->Bool
 | .tuple [x,y]=>kQ x&&kQ y
 |_=>false
theorem Gx{K:Sy}{H:Hp}{v:V}{d:PyData}(h:bW K H v d):∃b c,mK (nJ d) "int"=some b/\mK (nJ d) "bool"=some c/\gX d=(b&&!c):=by
 cases h with
 |non=>exact⟨false,false,by simp only[nJ];decide +kernel,by simp only[nJ];decide +kernel,Z⟩
 |bl b=>exact⟨true,true,by simp only[nJ];decide +kernel,by simp only[nJ];decide +kernel,Z⟩
 |int i=>exact⟨true,false,by simp only[nJ];decide +kernel,by simp only[nJ];decide +kernel,Z⟩
 |str x=>exact⟨false,false,by simp only[nJ];decide +kernel,by simp only[nJ];decide +kernel,Z⟩
 |lst e t=>exact⟨false,false,by simp only[nJ];decide +kernel,by simp only[nJ];decide +kernel,Z⟩
 |tup e t=>exact⟨false,false,by simp only[nJ];decide +kernel,by simp only[nJ];decide +kernel,Z⟩
theorem Gw{K:Sy}{H:Hp}{v:V}{d:PyData}(h:bW K H v d):(mK (nJ d) "tuple"=some true/\∃a xs ds,v=.ref a/\d=.tuple ds/\bV K H a xs/\cf K H xs ds)∨(mK (nJ d) "tuple"=some false/\∀ds,d≠.tuple ds):=by
 cases h with
 |non=>exact .inr ⟨by simp only[nJ];decide +kernel,λ_ z=>nomatch z⟩
 |bl b=>exact .inr ⟨by simp only[nJ];decide +kernel,λ_ z=>nomatch z⟩
 |int i=>exact .inr ⟨by simp only[nJ];decide +kernel,λ_ z=>nomatch z⟩
 |str x=>exact .inr ⟨by simp only[nJ];decide +kernel,λ_ z=>nomatch z⟩
 |lst e t=>exact .inr ⟨by simp only[nJ];decide +kernel,λ_ z=>nomatch z⟩
 |tup e t=>exact .inl ⟨by simp only[nJ];decide +kernel,_,_,_,Z,Z,e,t⟩
theorem E1(h:∀ds,d≠.tuple ds):pM n d=false:=by
 cases d<;>first|rfl|exact absurd Z (h _)
theorem cf.len{K:Sy}{H:Hp}:∀{xs:List V} {ds:List PyData},cf K H xs ds->xs.length=ds.length
 |_,_,.nil=>rfl
 |_,_,.cons _ t=>congrArg Nat.succ t.len
theorem bW.two{K:Sy}{H:Hp}{v:V}{d:PyData}(h:bW K H v d)(c:pM 2 d=true):∃a x y dx dy,v=.ref a/\d=.tuple [dx,dy]/\bV K H a [x,y]/\bW K H x dx/\bW K H y dy:=by
 cases h with
 | @tup a xs ds e t=>
  have l:ds.length=2:=of_decide_eq_true c
  cases t with
  |nil=>cases l
  |cons hx t=>cases t with
   |nil=>cases l
   |cons hy t=>cases t with
    |nil=>exact⟨a,_,_,_,_,Z,Z,e,hx,hy⟩
    |cons hz t=>simp at l
 |_=>cases c
theorem Fq(h:pM 2 d=false):kQ d=false:=by
 cases c:kQ d with
 |false=>rfl
 |true=>
  unfold kQ at c
  split at c
  ·cases h
  ·cases c
structure Sh(k n:Nat)(d:PyData):Prop where
 sh:d.showable=true
 nd:d.hasDict=false
 dp:d.depth≤k
 sz:d.shown.length≤n
theorem Sh.mono(h:Sh k n d)(hk:k≤k')(hn:n≤n'):Sh k' n' d:=⟨h.sh,h.nd,Tu h.dp hk,Tu h.sz hn⟩
theorem Sh.all{k n:Nat}:∀{ds:List PyData},(∀d∈ds,Sh k n d)->ZS ds=true/\aad ds=false/\XJ ds≤k/\((Wg ds).map (·.length)).sum≤n*ds.length/\(Wg ds).length=ds.length
 | [],_=>⟨Z,Z,S8 _,S8 _,Z⟩
 |d::ds,h=>by
  obtain⟨a,b,c,e,f⟩:=Sh.all (ds:=ds) λx hx=>h x (SQ _ hx)
  have z:=h d SO;refine⟨?_,?_,?_,?_,?_⟩
  ·show(d.showable&&ZS ds)=true;rw[z.sh,a];rfl
  ·show(d.hasDict||aad ds)=false;rw[z.nd,b];rfl
  ·show max d.depth (XJ ds)≤k;exact Nat.max_le.mpr ⟨z.dp,c⟩
  ·show d.shown.length+((Wg ds).map (·.length)).sum≤n*(ds.length+1);have:=z.sz;rw[Xg];omega
  ·show(Wg ds).length+1=ds.length+1;rw[f]
theorem Sh.tup(h:∀d∈ds,Sh k n d)(hm:ds.length≤m)(hN:(n+3)*m+8≤N):Sh (k+1) N (.tuple ds):=by
 obtain⟨a,b,c,e,f⟩:=Sh.all h;refine⟨a,b,Xq c,?_⟩;show(tupleText (Wg ds)).length≤N;have q:=tupleText_len_le (Wg ds);have l:n*ds.length+3*ds.length≤(n+3)*m:=by
  rw[←aaF];exact WD _ hm
 omega
theorem Sh.shows(h:Sh k n d)(hk:k≤16)(hn:n≤16777216):EI d:=⟨h.sh,h.nd,Tu h.sz (Tu hn (by decide)),Tu h.dp hk⟩
mutual
theorem bW.same{K:Sy}{H H':Hp}(s:aP H H'):∀{v:V} {d:PyData},bW K H v d->bW K H' v d
 |_,_,.non=>.non
 |_,_,.bl b=>.bl b
 |_,_,.int i=>.int i
 |_,_,.str x=>.str x
 |_,_,.lst e t=>.lst (s.seq e) (cf.same s t)
 |_,_,.tup e t=>.tup (aR.same s _ _ e) (cf.same s t)
theorem cf.same{K:Sy}{H H':Hp}(s:aP H H'):∀{vs:List V} {ds:List PyData},cf K H vs ds->cf K H' vs ds
 |_,_,.nil=>.nil
 |_,_,.cons h t=>.cons (bW.same s h) (cf.same s t)
end
theorem F8:iF X (UK .IsNot) (λx y H Q=>∃b c,x=.bl b/\y=.bl c/\Q (.bl (!decide (b=c))) H):=by
 intro pins s σ H x y v u Q I rx ry h;obtain⟨b,c,rfl,rfl,q⟩:=h;obtain rfl:v=V7 b:=rx;obtain rfl:u=V7 c:=ry;refine wpAny_isNot_plain (by cases b<;>cases c<;>rfl) ⟨.bl _,H,I,?_,q⟩
 cases b<;>cases c<;>rfl
end B
namespace B
open PySem PySem.Spec L2 PyProof.Rows
def Qg(K:Sy):R2:=λx y H Q=>∃a b xs ys,x=.ref a/\y=.ref b/\bV K H a xs/\bV K H b ys/\xs.length+ys.length≤sizeLine/\∀p H',aP H H'->bV K H' p (xs++ys)->Q (.ref p) H'
def OJ(K:Sy):V->Option Int->Option Int->Hp->VK->Prop:=λx lo hi H Q=>∃a xs,x=.ref a/\bV K H a xs/\∀p H',aP H H'->bV K H' p (mj xs lo hi)->Q (.ref p) H'
theorem yf:EH X (OJ X.K):=by
 intro pins s σ H x v vl vu lo hi sl Q I rx hs pl pu h;obtain⟨a,xs,rfl,hx,q⟩:=h;refine Fi pins s σ H _ v vl vu lo hi sl Q I rx hs pl pu ?_;by_cases c:HT.sIx xs.length 0 lo=0/\HT.sIx xs.length xs.length hi=xs.length
 ·refine .inl ⟨a,xs,Z,hx,c.1,c.2,q a H (aP.refl H) ?_⟩;have e:mj xs lo hi=xs:=by
   unfold mj;rw[c.1,c.2,aa9,Nat.sub_zero,Ud]
  rw[e];exact hx
 ·exact .inr ⟨a,xs,Z,hx,c,λp hp=>q p _ (aw hp _) (bV.of ai)⟩
theorem K6{xs:List V}(h:n≤xs.length):mj xs none (some (n:Int))=xs.take n:=by
 unfold mj;rw[HT.sIx_nat,HT.sIx_none,Y5 h,Nat.sub_zero,aa9]
def RK(K:Sy)(s:Addr):Prop:=∃ns:List Int,ns.length≤63/\∀H:Hp,bu K H s (ns.map V.int)
structure zm(K:Sy)(H:Hp)(t s:Addr):Prop where
 ex:∃(ns:List Int) (p q:Int),H t=some (.lst [.ref s,.int p,.int q])/\((Rd H s (.lst (ns.map V.int))/\s≠t)∨∀H',bu K H' s (ns.map V.int))/\ns.length≤63/\0≤p/\0≤q
def Mj(K:Sy):Sp:=λvs H Q _=>∃(a:Addr) (ns:List Int),vs=[.ref a]/\bu K H a (ns.map V.int)/\ns.length≤63/\∀(t:Addr) (H':Hp),aP H H'->H t=none->zm K H' t a->Q (.ref t) H'
def Ml(K:Sy):Sp:=λvs H Q _=>∃(t s:Addr) (m:Int),vs=[.ref t,.int m]/\zm K H t s/\0<m/\m<1073741824/\∀(r:Int) (xs:List V),0≤r->r<m->zm K (aO H t (.lst xs)) t s->Q (.int r) (aO H t (.lst xs))
section
set_option autoImplicit true
set_option relaxedAutoImplicit true
theorem ji{X:Cx}{elts:List TW}{x1}{tp p pos:Wh}{a:TW}{ta:TA}(hg:Gl X "enumerate")(hm:X.mg "enumerate"=none)(ha:QA X [a] ta)(hs:SX [a] X.env=[(false,eval a X.env)]:=by rfl):QI X (.Tuple elts x1 tp) (.Call (.Name "enumerate" p) [a] [] pos) (Nl X.K ta):=⟨FR hg hm ha.p hs⟩
theorem oq{X:Cx}{elts:List TW}{x1}{tp p pos:Wh}{a:TW}{ta:TA}(hg:Gl X "enumerate")(hm:X.mg "enumerate"=none)(ha:QA X [a] ta)(hs:SX [a] X.env=[(false,eval a X.env)]:=by rfl):QI X (.Tuple elts x1 tp) (.Call (.Name "enumerate" p) [a] [] pos) (Nm X.K ta):=⟨Dc hg hm ha.p hs⟩
end
theorem ny:∀{ns:List Int} {us:List Value},bP (ns.map V.int) us->Zr us ns
 | [],_,.nil=>.nil
 |n::ns,_,.cons r t=>by
  obtain⟨tk,rfl⟩:=(show ∃t,_=VZ n t from r);exact .cons _ _ (ny t)
theorem qE(hc:X.calm=true):eM X (.builtin "sum") (λxs H Q=>∃(p:Addr) (ns:List Int),xs=[.ref p]/\bu X.K H p (ns.map V.int)/\Q (.int ns.sum) H):=by
 intro pins s σ H xs us Q I r h;obtain⟨p,ns,rfl,hq,q⟩:=h;obtain⟨u,rfl,rx⟩:=ij r
 cases rx
 obtain⟨its,rv,pl,hz⟩:=I.list hq;have hi:=ny rv;obtain⟨zs,ez⟩:=hi.allInts.items;have hl:=pl.isList;rw[ez] at hl;have en:numsOf its=ns:=hi.numsOf;rw[show its=its.toArray.toList from Z,ez,ZH] at en;refine sum_intListG (I.ok.hd hc) hl λh' tk t' hk=>?_
 rw[preSum_eq,YX (by simp),en];exact⟨.int ns.sum,H,I.kept (t':=tk) hk,⟨_,Z⟩,q⟩
theorem vC:∀{bs:List Bool} {us:List Value},bP (bs.map V.bl) us->∀{i:Nat} {v:Value},us[i]?=some v->v=.bool (bs.getD i true)
 | [],_,.nil,i,v,e=>by cases e
 |b::bs,_,.cons r t,0,v,e=>by
  rw[WX] at e
  cases e
  exact(show _=V7 b from r)
 |b::bs,_,.cons r t,i+1,v,e=>by
  rw[WY] at e;exact vC t e
theorem qQ:∀(bs:List Bool),(SC bs.length).all (λi=>bs.getD i true)=bs.all id
 | []=>rfl
 |b::bs=>by
  rw[Tv,Xh,Yn,List.all_map,Yn];have:=qQ bs;show(b&&(SC bs.length).all (λi=>bs.getD i true))=(id b&&bs.all id);rw[this];rfl
theorem qI(hc:X.calm=true):eM X (.builtin "all") (λxs H Q=>∃(p:Addr) (bs:List Bool),xs=[.ref p]/\bu X.K H p (bs.map V.bl)/\Q (.bl (bs.all id)) H):=by
 intro pins s σ H xs us Q I r h;obtain⟨p,bs,rfl,hq,q⟩:=h;obtain⟨u,rfl,rx⟩:=ij r
 cases rx
 obtain⟨its,rv,pl,hz⟩:=I.list hq;have ne:p≠s.heap.objs.size:=by
  obtain⟨o,ho,_⟩:=pl.isList;exact Uj (Tc ho)
 have hlen:its.toArray.size=bs.length:=by rw[Tr,←rv.length,SE]
 refine call_all_walk (Xa pl.isList ?_);refine⟨_,_,_,_,_,_,λi=>bs.getD i true,Z,Walks.list (A:=X.A.in1) (I.ok.hd hc) _ p ne its.toArray,⟨⟨_,Tg _ Z,Z,Z⟩,pl.isList.push _⟩,λi v s' Q' E' hv hQ=>?_,λh' tk hk=>?_⟩
 ·have e:=vC rv (i:=i) (v:=v) (by simpa using hv);subst e;exact Vr hQ
 ·rw[hlen,qQ];refine⟨.bl _,H,I.kept (t':=tk) λb o e=>hk b o (λz=>?_) (SK _ e),Z,q⟩;rw[SJ.mp z] at e;exact absurd (Tc e) (UJ _)
section
variable {prog:Tx}{w:T9}{A:TV}{E:Value->SH->Prop}{s:SH}
theorem pX{a b c:Int}{n:Nat}(hh:A.handled=none)(hr:Zq s.heap r a b c t u v)(hsmall:VX a b c=true)
  (hn:UA a b c=n) (hlen:n≤2^24)
  (hQ:∀h' tk acc,(∀b o,s.heap.get? b=some o->h'.get? b=some o)->ItemsOf (λi v=>∃t,v=.int (a+i*c) t) acc n->Q acc.toList { s with heap:=h',toks:=tk}):
  Tj (Tp prog w) A (collect (.ref r)) Q E s:=by
 unfold collect;refine SL (wpAny_runValue (codeAny_builtin F.entry_proto_collect ?_));rw[Zl F.plain_proto_collect _];show Tj _ A.in1 (newList [] >>= λl=>again (.builtin "list.__iadd__" ⟨[l,.ref r],[]⟩)) _ _ s;refine SL (UP ?_);refine wpAny_pure ⟨plainId_quiet F.plain_list_iadd _,codeAny_builtin F.entry_list_iadd ?_⟩;rw[Zl F.plain_list_iadd _];show Tj _ A.in1 (TN.List.listExtendWith (.ref s.heap.objs.size) (.ref r) (.ref s.heap.objs.size)) _ _ { s with heap:=s.heap.push { cls:=.type "list",data:=.seq ([]:List Value).toArray} };refine wpAny_extend_range (R:=wants (λv s'=>Tj (Tp prog w) A (match v with | .ref a=>(do match (←load a).data with | .seq xs _=>Vd xs.toList|_=>unsupported "internal:collect")|_=>unsupported "internal:collect") Q E s') E) (s:={ s with heap:=s.heap.push { cls:=.type "list",data:=.seq ([]:List Value).toArray} }) hh (SK _ hr) hsmall hn hlen s.heap.objs.size _ _ (Tg _ rfl) λh' tk acc' c' hk hS hI=>?_
 show Tj _ A (load s.heap.objs.size >>= _) _ _ _;refine SL (wpAny_load hS ?_);exact wpAny_pure (hQ h' tk acc' (λb o e=>hk b o (Uj (Tc e)) (SK _ e)) hI)
theorem kZ{a b c:Int}{n:Nat}(hsmall:VX a b c=true)(hn:UA a b c=n)(hlen:n≤2^24):
  Meets (TN.«tuple.__new__» ⟨[.type "tuple",.ref r],[]⟩)
   (λA R s=>A.handled=none/\Zq s.heap r a b c t u v/\∀(h':SY) (tk:Nat) (acc:Array Value),(∀b o,s.heap.get? b=some o->h'.get? b=some o)->ItemsOf (λi v=>∃t,v=.int (a+i*c) t) acc n→
    R (.ok (.ret (.ref h'.objs.size))) { s with heap:=h'.push { cls:=.type "tuple",data:=.seq acc},toks:=tk}):=
 .of_wp λprog w A R s h=>by
  obtain⟨hh,hr,h⟩:=h;have hsub:=sub_tuple_self;have hinit:=init_tuple_lookup;have hmh:=madeHere_tuple;have hT:s.TypeIs (.ref r) "range" := ⟨_,hr,Z⟩;have hh1:A.in1.handled=none:=hh
  wp_walk using YQ hT,pX hh1 hr hsmall hn hlen
  intro h' tk acc hk hacc;show Tj _ _ (UW acc.toList.toArray >>= λv=>ret v) _ _ _;unfold UW;refine SL (UP ?_ (show acc.toList.toArray.size≤sizeLine by simp only[Array.toArray_toList];rw[hacc.1,WU];exact hlen));refine wpAny_pure ⟨_,Z,?_⟩;have e:acc.toList.toArray=acc:=by simp
  rw[e];exact h h' tk acc hk hacc
theorem mz{a b c:Int}{n:Nat}(hh:A.handled=none)(hr:Zq s.heap r a b c t u v)(hsmall:VX a b c=true)
  (hn:UA a b c=n) (hlen:n≤2^24)
  (hQ:∀(h':SY) (tk:Nat) (acc:Array Value),(∀b o,s.heap.get? b=some o->h'.get? b=some o)->ItemsOf (λi v=>∃t,v=.int (a+i*c) t) acc n->Q (.ref h'.objs.size) { s with heap:=h'.push { cls:=.type "tuple",data:=.seq acc},toks:=tk}):
  Tj (Tp prog w) A (call (.type "tuple") [.ref r]) Q E s:=by
 refine callType_new F.called_tuple (by decide) (F.typeCall_tuple_1 _) (F.newCall_tuple_1 _) (λobj=>F.args_object_init_2 obj _) F.entry_tuple_new
  (kZ hsmall hn hlen) ⟨hh,hr,λh' tk acc hk hacc=>⟨⟨_,Tg _ Z,Z⟩,hQ h' tk acc hk hacc⟩⟩
end
def upTo(n:Nat):List Int:=(SC n).map λi:Nat=>(i:Int)
theorem nG(h:ItemsOf (λi v=>∃t,v=.int ((0:Int)+i*1) t) acc n):bP ((upTo n).map V.int) acc.toList:=by
 obtain⟨hl,ha⟩:=h;have key:∀m,m≤n->bP ((upTo m).map V.int) (acc.toList.take m):=by
  intro m
  induction m with
  |zero=>intro _;rw[Zm];exact .nil
  |succ m ih=>
   intro hm;have hlt:m<acc.size:=by omega
   have e1:acc.toList.take (m+1)=acc.toList.take m++[acc[m]]:=by
    rw[TY];simp[hlt]
   have e2:(upTo (m+1)).map V.int=(upTo m).map V.int++[V.int m]:=by
    unfold upTo;rw[Ua];simp
   rw[e1,e2];refine(ih (by omega)).append (.cons ?_ .nil);obtain⟨t,e⟩:=ha m acc[m] (by simp[hlt]);exact⟨t,by rw[e];simp⟩
 have:=key n (SD _)
 rwa [YX (by simp[hl])] at this
def Hc(ta:TA):TE:=λσ H Q=>ta σ H λvs H1=>∃j:Int,vs=[.int j]/\∀p,H1 p=none->Q (.ref p) (aO H1 p (.rng 0 j))
theorem FW{X:Cx}{a:TW}{ta:TA}{p pos:Wh}(hg:Gl X "range")(hm:X.mg "range"=none)(ha:PA X [a] ta)(hs:SX [a] X.env=[(false,eval a X.env)]:=by rfl) :
  PE X (.Call (.Name "range" p) [a] [] pos) (Hc ta):=by
 intro pins s σ H Q I h;refine Call_ (ib I hg hm ZL (Uw (cT (ha pos pins s σ H _ I h) λus s1 ⟨vs,H1,I1,r1,q1⟩=>?_) hs Z));obtain⟨j,e,q⟩:=q1;subst e;obtain⟨u,rfl,t,rfl⟩:=ij r1;refine call_range_1 ?_;exact⟨.ref s1.heap.objs.size,_,I1.laid (o:=.rng 0 j) (λb o e=>SK _ e) (SD _) ⟨_,t,_,Tg _ Z⟩,Z,q _ (I1.hok.fresh (SD _))⟩
theorem yg(n:Nat):UA 0 n 1=n:=by rw[rangeSize_one];split<;>omega
theorem vA(hc:X.calm=true):eM X (.type "tuple") (λxs H Q=>∃p,∃n:Nat,xs=[.ref p]/\H p=some (.rng 0 n)/\n≤1000/\∀l,H l=none->Q (.ref l) (aO H l (.tup ((upTo n).map V.int)))):=by
 intro pins s σ H xs us Q I r h;obtain⟨p,n,rfl,hp,hn,q⟩:=h;obtain⟨u,rfl,rx⟩:=ij r
 cases rx
 obtain⟨t,u,w,e⟩:=(show cG X.prog X.w H s.heap p (.rng 0 n) from I.hok p _ hp);refine mz (I.ok.hd hc) (show Zq s.heap p 0 n 1 t u w from e) (small_one (by omega) (by omega) (by omega) (by omega)) (yg n) (by omega) λh' tk acc hk hi=>?_
 have rv:=nG hi;have I1:Inv X pins σ H { s with heap:=h',toks:=tk}:=I.kept (t':=tk) hk;have hl:(upTo n).length=n:=by unfold upTo;simp
 have I2:Inv X pins σ (aO H h'.objs.size (.tup ((upTo n).map V.int))) { s with heap:=h'.push { cls:=.type "tuple",data:=.seq acc},toks:=tk}:=
  I1.laid (t':=tk) (λb o e=>SK _ e) (SD _) (show cG X.prog X.w _ _ _ (.tup ((upTo n).map V.int)) from⟨by rw[SE,hl,WU];omega,acc.toList,rv,by have:=aaq h' acc;simpa using this⟩)
 exact⟨.ref h'.objs.size,_,I2,Z,q _ (I1.hok.fresh (SD _))⟩
def NS(hi:Int)(n:Nat):It:=⟨λi _=>i<n,λi H x H'=>H'=H/\x=.int (hi-i),λi _=>n≤i⟩
theorem zw{P:Tx}{w:T9}{K:Sy}{tg:TW}(it:Addr)(lo:Int)(n:Nat):xA P w K tg (NS lo n) [it] it (λi h=>Zc h it (lo+(i:Nat)*(-1)) ((n:Int)-(i:Nat)) (-1)) where
 mem:=by simp
 obj:=λi h st b hb=>by
  have e:b=it:=by simpa using hb
  subst e;exact⟨_,st,λv z=>by
   have z':Zd _=aar v:=z
   cases z'⟩
 keep:=λi h h' st k=>k it (by simp) _ st
 item:=by
  intro X hP hw hK hc i pins s σ H E I hf st hg;subst hP hw hK;obtain⟨f0,f1,f2,f3,f4,f5⟩:=hf it (by simp);have W:=Walks.range (prog:=X.prog) (w:=X.w) (I.ok.hd hc) it lo (-1) n;refine W.item i s _ _ hg st λv h' tk hv st' kk=>?_
  obtain⟨t,rfl⟩:=hv;have I1:Inv X pins σ H { s with heap:=h',toks:=tk}:=I.turned (λb o hb e=>kk b o (by simpa using hb) e) f0 f1 f3 f4 f5;refine⟨_,rfl,yQ (s:={ s with heap:=h',toks:=tk}) (n := "range_iterator") st' rfl rfl (by decide) ⟨.int (lo-i),H,I1,⟨t,?_⟩,⟨rfl,rfl⟩,st',λb hb=>(hf b hb).1⟩⟩;rw[show lo+(i:Int)*(-1)=lo-i by omega]
 done:=by
  intro X hP hw hK hc i pins s σ H E I hf st hg;subst hP hw hK;obtain⟨f0,f1,f2,f3,f4,f5⟩:=hf it (by simp);exact YG (I.ok.hd hc) st (by have:n≤i:=hg;omega) λh' eb=>⟨Z,I.turned (t':=s.toks) (λb o hb e=>eb b o hb e) f0 f1 f3 f4 f5⟩
 self:=λ_ _ _ _ _ st h=>YH st h
theorem qi(a b:Int):UA a b (-1)=((a-b).toNat:Nat):=by
 unfold UA;rw[if_neg (by decide)]
 split
 ·rw[show(-(-1):Int)=1 by decide,YN];omega
 ·omega
theorem vX(ha:-1000≤a)(ha':a≤1000)(hb:-1000≤b)(hb':b≤1000):VX a b (-1)=true:=by
 unfold VX;rw[qi];simp only[TN.Range.rangeFitsLong,Ta,aaP,decide_eq_true_eq,beq_iff_eq,show ¬(-1:Int)>0 by decide,if_false];omega
def Ie(ta:TA):TI:=λσ H R=>ta σ H λvs H1=>∃i j:Int,vs=[.int i,.int j,.int (-1)]/\(-1000≤i/\i≤1000/\-1000≤j/\j≤1000)/\R (NS i (i-j).toNat) H1
theorem z6{X:Cx}{tg:TW}{a b c:TW}{ta:TA}{p pos:Wh}(hg:Gl X "range")(hm:X.mg "range"=none)(ha:PA X [a,b,c] ta)(hs:SX [a,b,c] X.env=[(false,eval a X.env),(false,eval b X.env),(false,eval c X.env)]:=by rfl)(hs2:SX [b,c] X.env=[(false,eval b X.env),(false,eval c X.env)]:=by rfl) :
  PI X tg (.Call (.Name "range" p) [a,b,c] [] pos) (Ie ta):=by
 intro pins s σ H R I h;refine Call_ (ib I hg hm ZL (Uw (cT (ha pos pins s σ H _ I h) λus s1 ⟨vs,H1,I1,r1,q1⟩=>?_) (by rw[hs,hs2]) (by rw[hs2];rfl)));obtain⟨i,j,e,⟨q1,q2,q3,q4⟩,q⟩:=q1;subst e
 cases r1 with
 |cons r rr=>
  cases rr with
  |cons r' rr=>
   cases rr with
   |cons r'' rr=>
    cases rr
    obtain⟨t,rfl⟩:=r;obtain⟨t',rfl⟩:=r';obtain⟨t'',rfl⟩:=r'';refine call_range_3 (by decide) ?_ (.inl (YI (by decide)));refine ZK (Zq.new ..) (vX q1 q2 q3 q4) ?_;have I2:Inv X pins σ H1 { s1 with heap:=s1.heap.push { cls:=.type "range",data:=.fields #[.int i t,.int j t',.int (-1) t'']},toks:=s1.toks}:=I1.kept λb o e=>SK _ e
    refine⟨(s1.heap.push { cls:=.type "range",data:=.fields #[.int i t,.int j t',.int (-1) t'']}).objs.size,[(s1.heap.push { cls:=.type "range",data:=.fields #[.int i t,.int j t',.int (-1) t'']}).objs.size],_,_,H1,Z,
     I2.kept (t':=s1.toks) λb o e=>SK _ e,zw _ i (i-j).toNat,?_,λb hb=>?_,q⟩
    ·have e1:i+((0:Nat):Int)*(-1)=i:=by simp
     have e2:(((i-j).toNat:Nat):Int)-((0:Nat):Int)=UA i j (-1):=by rw[qi];omega
     show Zc _ _ (i+((0:Nat):Int)*(-1)) ((((i-j).toNat:Nat):Int)-((0:Nat):Int)) (-1);rw[e1,e2];exact Tg _ Z
    ·have e:b=(s1.heap.push { cls:=.type "range",data:=.fields #[.int i t,.int j t',.int (-1) t'']}).objs.size:=by simpa using hb
     subst e;exact I2.fpOk (SD _) (I2.hok.fresh (SD _))
theorem Ef{hi:Int}{n:Nat}{g:TG}{tb:TS}{D:lM}{σ:L2.St}{H:Hp}(Pv:Nat->L2.St->Hp->Prop)(h0:Pv 0 σ H)
  (hs:∀i σ H,i<n->Pv i σ H->g (.int (hi-i)) σ H λσ2 H2=>tb { D with nx:=Pv (i+1),ct:=Pv (i+1),bk:=D.nx} σ2 H2) (hd:∀σ H,Pv n σ H->D.nx σ H) :
  ∃W:Nat->Nat->L2.St->Hp->Prop,(∃m,W 0 m σ H)/\∀i m σ H,W i m σ H→
   ((NS hi n).stop i H/\D.nx σ H)∨((NS hi n).go i H/\∃N:L2.St->Hp->Prop,(∀σ' H',N σ' H'->∃m',m'<m/\W (i+1) m' σ' H')/\∀x H',(NS hi n).yld i H x H'->g x σ H' λσ2 H2=>tb { D with nx:=N,ct:=N,bk:=D.nx} σ2 H2):=by
 refine⟨λi m σ H=>m=n-i/\i≤n/\Pv i σ H,⟨_,Z,S8 _,h0⟩,?_⟩;rintro i m σ H ⟨rfl,hi',p⟩;by_cases hlt:i<n
 ·refine .inr ⟨hlt,Pv (i+1),λσ' H' p'=>⟨n-(i+1),by omega,Z,hlt,p'⟩,λx H' y=>?_⟩;obtain⟨rfl,rfl⟩:=y;exact hs i σ _ hlt p
 ·have e:i=n:=by omega
  subst e;exact .inl ⟨SD _,hd σ H p⟩
section
set_option autoImplicit true
set_option relaxedAutoImplicit true
theorem yq{X:Cx}{a:TW}{ta:TA}{p pos:Wh}(hg:Gl X "range")(hm:X.mg "range"=none)(ha:QA X [a] ta)(hs:SX [a] X.env=[(false,eval a X.env)]:=by rfl):QE X (.Call (.Name "range" p) [a] [] pos) (Hc ta):=⟨FW hg hm ha.p hs⟩
theorem zU{X:Cx}{tg:TW}{a b c:TW}{ta:TA}{p pos:Wh}(hg:Gl X "range")(hm:X.mg "range"=none)(ha:QA X [a,b,c] ta)(hs:SX [a,b,c] X.env=[(false,eval a X.env),(false,eval b X.env),(false,eval c X.env)]:=by rfl)(hs2:SX [b,c] X.env=[(false,eval b X.env),(false,eval c X.env)]:=by rfl):QI X tg (.Call (.Name "range" p) [a,b,c] [] pos) (Ie ta):=⟨z6 hg hm ha.p hs hs2⟩
end
structure Io(J:It)(H:Hp)(n:Nat)(P:Nat->V->Hp->Prop):Prop where
 go:∀i H',i<n->aP H H'->J.go i H'
 stop:∀H',aP H H'->J.stop n H'
 yld:∀i H' x H'',i<n->aP H H'->J.yld i H' x H''->aP H' H''/\P i x H''
theorem f8{K:Sy}{H:Hp}{a:Addr}{xs:List V}(h:bu K H a xs):Io (Lp K a) H xs.length (λi x _=>xs[i]?=some x) where
 go:=λi H' hi s=>⟨xs,_,s.seq h,Sz hi⟩
 stop:=λH' s=>⟨xs,s.seq h,SD _⟩
 yld:=λi H' x H'' hi s y=>by obtain⟨rfl,hy⟩:=y;exact⟨aP.refl _,hy xs (s.seq h)⟩
theorem ef{K:Sy}{H:Hp}{a:Addr}{xs:List V}(h:bV K H a xs):Io (Lo K a) H xs.length (λi x _=>xs[i]?=some x) where
 go:=λi H' hi s=>⟨xs,_,aR.same s _ _ h,Sz hi⟩
 stop:=λH' s=>⟨xs,aR.same s _ _ h,SD _⟩
 yld:=λi H' x H'' hi s y=>by obtain⟨rfl,hy⟩:=y;exact⟨aP.refl _,hy xs (aR.same s _ _ h)⟩
theorem EW{lo:Int}{n:Nat}:Io (EK lo n) H n (λi x _=>x=.int (lo+i)) where
 go:=λi H' hi s=>hi
 stop:=λH' s=>SD _
 yld:=λi H' x H'' hi s y=>by obtain⟨rfl,rfl⟩:=y;exact⟨aP.refl _,Z⟩
theorem qZ{K:Sy}{H:Hp}{a:Addr}{xs:List V}(h:bV K H a xs):Io (NP K a) H xs.length (λi v H'=>∃p x,v=.ref p/\xs[i]?=some x/\H' p=some (.tup [.int i,x])) where
 go:=λi H' hi s=>⟨xs,_,aR.same s _ _ h,Sz hi⟩
 stop:=λH' s=>⟨xs,aR.same s _ _ h,SD _⟩
 yld:=λi H' x H'' hi s y=>by obtain⟨p,v,hp,rfl,rfl,hy⟩:=y;exact⟨aw hp _,p,v,Z,hy xs (aR.same s _ _ h),ai⟩
theorem xU{K:Sy}{H:Hp}{a:Addr}{xs:List V}(h:bu K H a xs):Io (NQ K a) H xs.length (λi v H'=>∃p x,v=.ref p/\xs[i]?=some x/\H' p=some (.tup [.int i,x])) where
 go:=λi H' hi s=>⟨xs,_,s.seq h,Sz hi⟩
 stop:=λH' s=>⟨xs,s.seq h,SD _⟩
 yld:=λi H' x H'' hi s y=>by obtain⟨p,v,hp,rfl,rfl,hy⟩:=y;exact⟨aw hp _,p,v,Z,hy xs (s.seq h),ai⟩
theorem dB(w:Io J H n P)(c:Nat->Bool)(f:Nat->V)(hD:H D=none)(hn:n≤1000)
  (turn:∀(i:Nat) (x:V) (H':Hp),i<n->aP H H'->P i x H'->∀(R:VK) (E:Hp->Prop),(c i=true->∀H'',aP H' H''->R (f i) H'')->(c i=false->∀H'',aP H' H''->E H'')→
   g x (fm src σ) H' λσ2 H2=>ii (fm src σ) σ2/\tt σ2 H2 λok H3=>if ok=true then te σ2 H3 R else E H3)
  (fin:∀H',aP H H'->H' D=some (.lst (((SC n).filter c).map f))->Q H'):
  N3 J D H src σ g tt te Q:=by
 refine⟨λi m ys H'=>i≤n/\m=n-i/\ys=((SC i).filter c).map f/\aP H H'/\H' D=some (.lst ys),⟨_,S8 _,Z,Z,aw hD _,ai⟩,?_⟩;rintro i m ys H1 ⟨hi,rfl,rfl,s1,d1⟩;by_cases hix:i<n
 ·refine .inr ⟨w.go i H1 hix s1,λx H2 y=>?_⟩;obtain⟨s2,p⟩:=w.yld i H1 x H2 hix s1 y;have d2:=s2 _ _ d1;have len:(((SC i).filter c).map f).length≤i:=by
   rw[SE];exact Tu (UN _ _) (by rw[TJ];exact SD _)
  refine turn i x H2 hix (s1.trans s2) p _ _ (λhc H3 s3=>?_) λhc H3 s3=>?_
  ·have d3:=s3 _ _ d2;refine⟨d3,bi (by omega),n-(i+1),by omega,hix,Z,?_,λb o q=>?_,ai⟩
   ·rw[Ua,WR,Ub];simp[hc]
   ·rw[aA (aU q hD)];exact s3 _ _ (s2 _ _ (s1 _ _ q))
  ·refine⟨n-(i+1),by omega,hix,Z,?_,(s1.trans s2).trans s3,s3 _ _ d2⟩;rw[Ua,WR,Ub];simp[hc]
 ·have e:i=n:=by omega
  subst e;exact .inl ⟨w.stop H1 s1,fin H1 s1 d1⟩
theorem fX{α β:Type}(d:α)(p:α->Bool)(f:α->β):∀l:List α,((SC l.length).filter λi=>p (l.getD i d)).map (λi=>f (l.getD i d))=(l.filter p).map f
 | []=>rfl
 |x::l=>by
  have ih:=fX d p f l;rw[Tv,Xh,aax,aax];have e:(((SC l.length).map Nat.succ).filter λi=>p ((x::l).getD i d)).map (λi=>f ((x::l).getD i d))=(l.filter p).map f:=by
   rw[List.filter_map,VR];exact ih
  show(if p x=true then _ else _:List Nat).map _=_
  cases hp:p x with
  |true=>
   simp only[if_true,TZ];rw[e];rfl
  |false=>
   simp only[WS,if_false];exact e
theorem dW{α β:Type}(d:α)(f:α->β)(l:List α):((SC l.length).filter λ_=>true).map (λi=>f (l.getD i d))=l.map f:=by
 have:=fX d (λ_=>true) f l;rw[this,UR.mpr (by intros;rfl)]
theorem ax{α:Type}{l:List α}{i:Nat}{x:α}(d:α)(h:l[i]?=some x):l.getD i d=x:=by rw[SG,h];rfl
section
variable {prog:Tx}{w:T9}{A:TV}{E:Value->SH->Prop}{s:SH}
theorem CL(hl:s.heap.get? l=some { cls:=.type "list",dict:=none,data:=.seq items k,slots:=#[]})
  (hlo:-(2^63:Int)≤x) (hhi:x<2^63) (hsz:items.size*x.toNat≤2^24)
  (h:Q (.ref s.heap.objs.size) { s with heap:=s.heap.push { cls:=.type "list",data:=.seq (aba (λx1 x2=>x1++x2) #[] (Tq (if items.isEmpty=true then 0 else x.toNat) items))} }):
  Tj (Tp prog w) A (Wc .Mult (.ref l) (.int x u)) Q E s:=
 wpAny_binaryOp_repeat_ref (T := "list") (U := "int") (by decide) ⟨_,hl,Z⟩ (λs'=>typeIs_int s' x u) noFill_list_mul F.fills_int_mul F.slot_int_rmul repeat_list F.slot_int_index.lookup
  (YT F.slot_int_rmul (typeIs_int s x u) F.entry_int_rmul (F.args_int_rmul_2 _ _) (int___rmul___int_list x u l items k)
   ⟨hl,Z,⟨_,hl,Z⟩,YT F.slot_list_mul ⟨_,hl,Z⟩ F.entry_list_mul (F.args_list_mul_2 _ _)
    (AutoListH.list___mul___list_int_3 l items k x u (by simp[TN.List.listFitsIndex];omega) (by omega) (by simp[Vl,sizeLine];omega))
    ⟨hl,h⟩⟩)
end
theorem vf(u:Value):∀(n:Nat) (acc:Array Value),(aba (λx1 x2=>x1++x2) acc (Tq n #[u])).toList=acc.toList++Tq n u
 |0,acc=>by simp
 |n+1,acc=>by
  rw[Zz,Uz,vf u n,Zz];simp
theorem ui{v:V}{u:Value}(r:bK v u):∀n:Nat,bP (Tq n v) (Tq n u)
 |0=>.nil
 |n+1=>.cons r (ui r n)
theorem yD:iF X (Wc .Mult) (λx y H Q=>∃(p:Addr) (v:V) (n:Nat),x=.ref p/\y=.int n/\H p=some (.lst [v])/\n≤1000/\∀l,H l=none->Q (.ref l) (aO H l (.lst (Tq n v)))):=by
 intro pins s σ H x y xv yv Q I rx ry h;obtain⟨p,v,n,rfl,rfl,hp,hn,q⟩:=h
 cases(show xv=TF p from rx)
 obtain⟨t,rfl⟩:=(show ∃t,yv=VZ n t from ry);obtain⟨_,its,c,rv,e⟩:=(show cG X.prog X.w H s.heap p (.lst [v]) from I.hok p _ hp)
 cases rv with
 | @cons _ u _ _ r0 rr=>
 cases rr
 refine CL e (by omega) (by omega) (by simp;omega) ?_;have el:(aba (λx1 x2=>x1++x2) #[] (Tq (if([u]:List Value).toArray.isEmpty=true then 0 else(n:Int).toNat) [u].toArray))=(Tq n u).toArray:=by
  apply Array.ext';have:=vf u n #[]
  simpa using this
 rw[el];have I2:Inv X pins σ (aO H s.heap.objs.size (.lst (Tq n v))) { s with heap:=s.heap.push { cls:=.type "list",data:=.seq (Tq n u).toArray} }:=
  I.laid (t':=s.toks) (λb o e=>SK _ e) (SD _) (show cG X.prog X.w _ _ _ (.lst (Tq n v)) from⟨by rw[VG,WU];omega,Tq n u,_,ui r0 n,Tg _ Z⟩)
 exact⟨.ref s.heap.objs.size,_,I2,Z,q _ (I.hok.fresh (SD _))⟩
theorem xf(hc:X.calm=true):eM X (.type "list") (λxs H Q=>∃p,∃n:Nat,xs=[.ref p]/\H p=some (.rng 0 n)/\n≤1000/\∀l,H l=none->Q (.ref l) (aO H l (.lst ((upTo n).map V.int)))):=by
 intro pins s σ H xs us Q I r h;obtain⟨p,n,rfl,hp,hn,q⟩:=h;obtain⟨u,rfl,rx⟩:=ij r
 cases rx
 obtain⟨t,u,w,e⟩:=(show cG X.prog X.w H s.heap p (.rng 0 n) from I.hok p _ hp);refine call_list_range (I.ok.hd hc) (show Zq s.heap p 0 n 1 t u w from e) (small_one (by omega) (by omega) (by omega) (by omega)) (yg n) (by omega) λh' tk acc c' hk hS hi=>?_
 have rv:=nG hi;have hl:(upTo n).length=n:=by unfold upTo;simp
 have I2:Inv X pins σ (aO H s.heap.objs.size (.lst ((upTo n).map V.int))) { s with heap:=h',toks:=tk}:=
  I.laid (t':=tk) hk (SD _) (show cG X.prog X.w _ _ _ (.lst ((upTo n).map V.int)) from⟨by rw[SE,hl,WU];omega,acc.toList,c',rv,by simpa using hS⟩)
 exact⟨.ref s.heap.objs.size,_,I2,Z,q _ (I.hok.fresh (SD _))⟩
theorem pU{X:Cx}{K:Sy}(hK:X.K=K):iF X (UK .NotIn) (Qf K true):=hK▸sX
theorem Gz(t:Nat)(ls:List Nat):KW (.int t) (ls.map λn:Nat=>V.int n)=ls.contains t:=by
 unfold KW;rw[aae]
 induction ls with
 |nil=>rfl
 |cons a r ih=>
  rw[VB,ZT,ih]
  congr 1
  show decide (((a:Nat):Int)=(t:Nat))=(t==a);by_cases h:t=a
  ·subst h;simp
  ·rw[beq_eq_false_iff_ne.mpr h];exact decide_eq_false (by omega)
theorem Eg(ls:List Nat):(ls.map λn:Nat=>V.int n).all lh=true:=by
 rw[List.all_map,Vi];intro x _;rfl
def G2(ds:List PyData):Prop:=∀e∈ds,e.canLay0=true/\e.depth≤32
def Rv(K:Sy):R2:=λx y H Q=>∃p xs ds d,y=.ref p/\bu K H p xs/\cf K H xs ds/\G2 ds/\bW K H x d/\d.canLay0=true/\UM d d=true/\Q (.bl (ds.any λe=>UM e d)) H
def Oj(K:Sy):R2:=λx y H Q=>∃p xs ds d,y=.ref p/\bu K H p xs/\cf K H xs ds/\G2 ds/\bW K H x d/\d.canLay0=true/\UM d d=true/\Q (.bl (!ds.any λe=>UM e d)) H
def Qe(K:Sy):R2:=λx y H Q=>∃p xs ds d,y=.ref p/\bV K H p xs/\cf K H xs ds/\G2 ds/\bW K H x d/\d.canLay0=true/\UM d d=true/\Q (.bl (ds.any λe=>UM e d)) H
def On(K:Sy):V->List V->Hp->VK->Prop:=λx vs H Q=>∃p xs ds w d,x=.ref p/\vs=[w]/\bu K H p xs/\cf K H xs ds/\G2 ds/\bW K H w d/\d.canLay0=true/\UM d d=true/\(∃e∈ds,UM e d=true)∧
 ∀(j:Nat) (e:PyData),ds[j]?=some e->UM e d=true->(∀m f,m<j->ds[m]?=some f->UM f d=false)->Q (.int j) H
def Ol:V->List V->Hp->VK->Prop:=λx vs H Q=>∃(l:Addr) (xs:List V) (j:Nat) (y:V),x=.ref l/\vs=[.int j,y]/\H l=some (.lst xs)/\j≤xs.length/\xs.length<sizeLine/\Q .non (aO H l (.lst (xs.take j++y::xs.drop j)))
mutual
def Qq:PyData->Bool
 | .int i=>decide (i.natAbs<2^230)
 | .tuple ds=>wY ds
 | .list ds=>wY ds
 | .dict _=>false
 |_=>true
def wY:List PyData->Bool
 | []=>true
 |d::ds=>Qq d&&wY ds
end
theorem qw:∀{ds:List PyData},(∀d∈ds,d.canLay0=true)->aaf ds=true
 | [],_=>rfl
 |d::ds,h=>by
  show(d.canLay0&&aaf ds)=true;rw[h d SO,qw λe he=>h e (SQ _ he)];rfl
structure Gd(k n:Nat)(d:PyData):Prop where
 sh:Sh k n d
 lay:d.canLay0=true
 bd:Qq d=true
def Nz:PyData->R
 | .tuple [.int a,.int b]=>(a,b)
 |_=>(0,1)
def Pa:PyData->R×R
 | .tuple [x,y]=>(Nz x,Nz y)
 |_=>wC
end B
namespace B
open PySem PySem.Spec L2 PyProof.Rows
theorem AE(hc:X.calm=true):eM X (.builtin "max") (λxs H Q=>∃(p:Addr) (ns:List Int),xs=[.ref p]/\bu X.K H p (ns.map V.int)/\0<ns.length/\∀M,M∈ns->(∀a∈ns,a≤M)->Q (.int M) H):=by
 intro pins s σ H xs us Q I r h;obtain⟨p,ns,rfl,hq,hne,q⟩:=h;obtain⟨u,rfl,rx⟩:=ij r
 cases rx
 obtain⟨its,rv,pl,hz⟩:=I.list hq;have hi:=ny rv;obtain⟨zs,ez⟩:=hi.allInts.items;have hl:=pl.isList;rw[ez] at hl;have en:numsOf its=ns:=hi.numsOf;rw[show its=its.toArray.toList from Z,ez,ZH] at en;have hlen:zs.size=ns.length:=by rw[←en,SE,Va]
 refine max_intList (I.ok.hd hc) hl (by omega) λv h' tk hv hk=>?_
 obtain⟨t,rfl⟩:=intItems_at hv;obtain⟨h1,h2⟩:=argBest_gt (numAt zs) (zs.size-1);refine⟨.int _,H,I.kept (t':=tk) hk,⟨_,Z⟩,q _ ?_ λa ha=>?_⟩
 ·rw[abb,en];exact getD_mem (by omega)
 ·rw[←en] at ha;obtain⟨j,hj,rfl⟩:=mem_getD ha;rw[SE,Va] at hj;rw[←abb];exact h2 j (by omega)
theorem qH(hc:X.calm=true):eM X (.builtin "min") (λxs H Q=>∃(p:Addr) (ns:List Int),xs=[.ref p]/\bu X.K H p (ns.map V.int)/\0<ns.length/\∀M,M∈ns->(∀a∈ns,M≤a)->Q (.int M) H):=by
 intro pins s σ H xs us Q I r h;obtain⟨p,ns,rfl,hq,hne,q⟩:=h;obtain⟨u,rfl,rx⟩:=ij r
 cases rx
 obtain⟨its,rv,pl,hz⟩:=I.list hq;have hi:=ny rv;obtain⟨zs,ez⟩:=hi.allInts.items;have hl:=pl.isList;rw[ez] at hl;have en:numsOf its=ns:=hi.numsOf;rw[show its=its.toArray.toList from Z,ez,ZH] at en;have hlen:zs.size=ns.length:=by rw[←en,SE,Va]
 refine min_intList (I.ok.hd hc) hl (by omega) λv h' tk hv hk=>?_
 obtain⟨t,rfl⟩:=intItems_at hv;obtain⟨h1,h2⟩:=argBest_lt (numAt zs) (zs.size-1);refine⟨.int _,H,I.kept (t':=tk) hk,⟨_,Z⟩,q _ ?_ λa ha=>?_⟩
 ·rw[abb,en];exact getD_mem (by omega)
 ·rw[←en] at ha;obtain⟨j,hj,rfl⟩:=mem_getD ha;rw[SE,Va] at hj;rw[←abb];exact h2 j (by omega)
theorem oZ(Pv:Nat->List V->Hp->Prop)(h0:Pv 0 [] (aO H D (.lst [])))
  (go:∀i ys H',i<n->Pv i ys H'->J.go i H') (stop:∀ys H',Pv n ys H'->J.stop n H'/\Q H')
  (turn:∀i ys H' x H'',i<n->Pv i ys H'->J.yld i H' x H''->∀(R:VK) (E:Hp->Prop),(∀y H4,H4 D=some (.lst ys)->ys.length<sizeLine->Pv (i+1) (ys++[y]) (aO H4 D (.lst (ys++[y])))->R y H4)->(∀H3,Pv (i+1) ys H3->E H3)→
   g x (fm src σ) H'' λσ2 H2=>ii (fm src σ) σ2/\tt σ2 H2 λok H3=>if ok=true then te σ2 H3 R else E H3):
  N3 J D H src σ g tt te Q:=by
 refine⟨λi m ys H'=>i≤n/\m=n-i/\Pv i ys H',⟨_,S8 _,Z,h0⟩,?_⟩;rintro i m ys H1 ⟨hi,rfl,p⟩;by_cases hix:i<n
 ·refine .inr ⟨go i ys H1 hix p,λx H2 y=>?_⟩;refine turn i ys H1 x H2 hix p y _ _ (λy H4 a b c=>⟨a,b,n-(i+1),by omega,hix,Z,c⟩) λH3 c=>⟨n-(i+1),by omega,hix,Z,c⟩
 ·have e:i=n:=by omega
  subst e;exact .inl (stop ys H1 p)
def OF(t:TS):TS:=λD σ H=>∃M:L2.St->Hp->Prop,t { D with nx:=M} σ H/\∀σ' H',M σ' H'->D.nx σ' H'
theorem so{X:Cx}{st:Stmt}{t:TS}(h:QS X st t):QS X st (OF t):=⟨by
 intro pins s σ H D I q;obtain⟨M,q,k⟩:=q;refine cT (h.p pins s σ H _ I q) λf s' z=>?_
 cases f with
 |next=>obtain⟨σ',H',I',m⟩:=z;exact⟨σ',H',I',k _ _ m⟩
 |brk=>exact z
 |cont=>exact z
 |ret u=>exact z⟩
end B
namespace B
abbrev Ln:=Nat×Nat
inductive GX(es:List Ln):Nat->Nat->Prop where
 |one {a b:Nat} (h:(a,b)∈es):GX es a b
 |step {a b c:Nat} (h:(a,b)∈es) (t:GX es b c):GX es a c
def RZ(n:Nat)(es:List Ln):Prop:=∀e∈es,e.1<n/\e.2<n
def Sv(n:Nat)(es:List Ln)(L:Nat->Nat->Bool):Prop:=∀i j,i<n->j<n->(L i j=true↔GX es j i)
def RH(L:Nat->Nat->Bool)(a b:Nat):Nat->Nat->Bool:=λi j=>L i j||((decide (i=b)||L i b)&&(decide (j=a)||L a j))
structure Rx(n:Nat)(es:List Ln)(v:Nat->Int)(ps:Nat->Nat)(r k:Nat)(F:Nat->Int):Prop where
 bas:∀i,i<n->v i≤F i
 att:∀i,i<n->∃j,j<n/\(j=i∨GX es j i)/\F i=v j
 don:∀i,i<n->ps i<r->∀j,j<n->(j=i∨GX es j i)->v j≤F i
 cur:∀m a b,m<k->es[m]?=some (a,b)->ps b≤r->∀j,j<n->(j=a∨GX es j a)->v j≤F b
def Ri(F:Nat->Int)(a b:Nat):Nat->Int:=λi=>if i=b then max (F b) (F a) else F i
structure So(n:Nat)(es:List Ln)(v:Nat->Int)(F:Nat->Int):Prop where
 up:∀i j,i<n->j<n->(j=i∨GX es j i)->v j≤F i
 att:∀i,i<n->∃j,j<n/\(j=i∨GX es j i)/\F i=v j
def Sa(es:List Ln):List Ln:=es.map λe=>(e.2,e.1)
end B
namespace B
open PySem PySem.Spec L2 PyProof.Rows
def N8(r r' r'':R2)(ta tb tc td:TE):TE:=λσ H Q=>ta σ H λx H1=>tb σ H1 λy H2=>r x y H2 λz H3=>∃k,z=.bl k∧
 (if k=true then tc σ H3 λw' H4=>r' y w' H4 λz' H5=>∃k',z'=.bl k'/\(if k'=true then td σ H5 λu' H6=>r'' w' u' H6 Q else Q (.bl false) H5) else Q (.bl false) H3)
section
variable {prog:Tx}{w:T9}{A:TV}{E:Value->SH->Prop}{s:SH}
end
def Q4(K:Sy)(te:TE):TE:=λσ H Q=>te σ H λx H1=>∃a xs,x=.ref a/\bV K H1 a xs/\∀p,H1 p=none->Q (.ref p) (aO H1 p (.tup xs.reverse))
theorem Hv(hu:X.A.units+1<cLine)(hi:QE X i ti)(hs:Lk i):
  QE X (.Subscript (.Dict [some (.Constant (.int a) j1 p1),some (.Constant (.int c) j3 p3),some (.Constant (.int e) j5 p5)] [.Constant (.int b) j2 p2,.Constant (.int d) j4 p4,.Constant (.int f) j6 p6] p7) i pos)
   (Hj (Hi [(tC (.int a),tC (.int b)),(tC (.int c),tC (.int d)),(tC (.int e),tC (.int f))]) ti):=
 ⟨F0 hu (FZ (oA kx kx (oA kx kx (oA kx kx FJ))) Z Z (by simp) (by show 3≤15;decide)) hi.p hs⟩
end B
namespace B
theorem vz{b:Int}(h:0<b):(0:Rat)<(b:Rat):=by
 have:=Uu.mpr h;exact this
theorem nH(hr:0<r.2)(hq:0<q.2):dF r q=true↔val r<val q:=by
 rw[DS,←Uu,T7,T7];have h1:=vz hr;have h2:=vz hq;have e1:(r.1:Rat)=val r*(r.2:Rat):=by
  have:=dE hr;unfold val;generalize (r.1:Rat)=x at *;generalize (r.2:Rat)=y at *;grind
 have e2:(q.1:Rat)=val q*(q.2:Rat):=by
  have:=dE hq;unfold val;generalize (q.1:Rat)=x at *;generalize (q.2:Rat)=y at *;grind
 rw[e1,e2];generalize val r=x at *;generalize val q=y at *;generalize (r.2:Rat)=u at *;generalize (q.2:Rat)=v at *;have c:0<u*v:=Zn h1 h2;constructor
 ·intro h;have h':x*(u*v)<y*(u*v):=by grind
  by_cases w:x<y
  ·exact w
  ·have z:y≤x:=WT.mp w;have:=Ue z (Up c);grind
 ·intro h;have:=U5 h c;grind
theorem fE(hr:0<r.2)(hq:0<q.2):dF r q=false↔val q≤val r:=by
 have a:=nH hr hq
 cases c:dF r q with
 |true=>
  have:=a.mp c;constructor
  ·intro z;cases z
  ·intro z;grind
 |false=>
  constructor
  ·intro _;by_cases w:val r<val q
   ·rw[a.mpr w] at c;cases c
   ·exact WT.mp w
  ·intro _;rfl
end B
namespace B
open PySem PySem.Spec L2 PyProof.Rows
def Ss(zs:List R):Prop:=zs.Pairwise λa b=>dF a b=true
end B
namespace L2
open PySem PySem.Spec PyProof.Rows
structure NI(k:Nat)(A:TV):Prop where
 dp:A.depth+3*k+5<recursionLimit
 un:A.units+16*k+200<cLine
 gd:A.guards=some []
structure QL(P:Tx)(w:T9)(K:Sy)(mg:TB->Option Value)(base:SY)(CX:vR)(k:Nat)(f:Addr)(fd:SI)(ps:List TB)(sp:Sp):Prop where
 len:∀vs H Q E,sp vs H Q E->vs.length=ps.length
 run:∀(A:TV) (outer:List Env) (s:SH) (H:Hp) (args:Args) (us:List Value) (vs:List V) (Q:VK) (E:XK),NI k A->vN P w K mg base A outer s H->YK s fd args (ps.zip us)->bP vs us->sp vs H Q E→
  XT (Tp P w) A (.call (.ref f) args) (CR CX outer P w H s Q E) s
def Si(CX:vR)(P:Tx)(w:T9)(K:Sy)(mg:TB->Option Value)(base:SY)(N:List TB)(qual:TB)(scope:Wr)(f:Addr)(cd:Value)(A:TV)(outer:List Env)(s:SH)(H:Hp)(E:XK):Cx:={ bY CX P w K mg base N qual scope f cd A outer s H E with calm:=false}
section
variable {X:Cx}{CX:vR}{k:Nat}{f C:Addr}{fd:SI}{ps:List TB}{sp:Sp}{dvs:List V}{ds:List Value}{E:XK}{x m:TB}{p pos apos:Wh}{e o:TW}{es:List TW}{ta:TE}{t:TA}
end
section
variable {P:Tx}{w:T9}{K:Sy}{mg:TB->Option Value}{base:SY}
end
end L2
namespace B
open PySem PySem.Spec L2 PyProof.Rows
section
set_option autoImplicit true
set_option relaxedAutoImplicit true
end
def NO(d:Addr)(ob:UU)(kvs:List (cW×V)):It:=
 ⟨λi H=>H d=some (.frz ob (.dK kvs))/\i<kvs.length,
  λi H x H'=>∃p k v,H p=none/\x=.ref p/\kvs[i]?=some (k,v)/\H'=aO H p (.tup [kV k,v]),
  λi H=>H d=some (.frz ob (.dK kvs))/\kvs.length≤i⟩
theorem KV.get:∀{kvs:List (cW×V)} {vs:List (cW×Value)},KV kvs vs->∀{i:Nat} {k:cW} {v:V},kvs[i]?=some (k,v)->∃u,vs[i]?=some (k,u)/\bK v u
 |_,_,.nil,i,k,v,h=>by simp at h
 | (a,b)::r,(c,d)::t,.cons h z,0,k,v,e=>by
  have e':(a,b)=(k,v):=by simpa using e
  cases e'
  obtain⟨h1,h2⟩:=h;have h1':a=c:=h1;subst h1';exact⟨d,Z,h2⟩
 |_::r,_::t,.cons h z,i+1,k,v,e=>by
  obtain⟨u,q,w⟩:=KV.get z (i:=i) (by simpa using e);exact⟨u,by simpa using q,w⟩
theorem Ni(h:oP k u=true):bK (kV k) u:=by
 rcases cZ h with⟨i,t,rfl,rfl⟩ | ⟨x,t,rfl,rfl⟩
 ·exact⟨t,Z⟩
 ·exact⟨t,Z⟩
theorem K2:entryFor table "dict_itemiterator.__iter__"=some TN.«dict_keyiterator.__iter__»:=
 entryFor_alias (by kernel_rfl) (by first|rfl|decide +kernel | (unfold String.splitOn;simp +decide [String.splitOnAux])) (by decide +kernel) (by kernel_rfl) (id' := "dict_keyiterator.__iter__")
theorem vT{P:Tx}{w:T9}{K:Sy}{elts:List TW}{x1}{pos:Wh}{it d:Addr}{ob:UU}{kvs:List (cW×V)}{es:Array aas}{ep:Nat}(hob:ob.data=.dict es ep) :
  xA P w K (.Tuple elts x1 pos) (NO d ob kvs) [it] it (λi h=>∃ok ov,IsItemIter h it d i kvs.length ep ok ov) where
 mem:=by simp
 obj:=λi h st c hc=>by
  obtain⟨ok,ov,e⟩:=st;rw[SJ] at hc;subst hc;exact⟨_,e,λv q=>by cases(show Zd _=aar v from q)⟩
 keep:=λi h h' ⟨ok,ov,e⟩ k=>⟨ok,ov,k it (by simp) _ e⟩
 item:=by
  intro X hP hw hK hc i pins s σ H E I hf st hg;subst hP hw hK;obtain⟨hd,hi⟩:=hg;obtain⟨ok,ov,e⟩:=st;obtain⟨q0,z,hds,vs,rel,o,es',ep',d1,d2,d3,d4⟩:=(show cG X.prog X.w H s.heap d (.frz ob (.dK kvs)) from I.hok d _ hd);have eo:o=ob:=Um (d1.symm.trans q0);subst eo;rw[hob] at d3
  cases d3
  have dat:s.heap.DictAt (cK X.prog X.w) d vs ep:=⟨o,es,d1,d2,hob,d4⟩;obtain⟨k,v,hkv'⟩:∃k v,kvs[i]?=some (k,v):=⟨(kvs[i]'hi).1,(kvs[i]'hi).2,Sz hi⟩;obtain⟨u,hu,ru⟩:=KV.get rel hkv';have ndi:it≠d:=λq=>by rw[q] at hf;have:=(hf d (by simp)).1;rw[hd] at this;cases this
  have itl:it<s.heap.objs.size:=Tc e;rw[rel.length] at e;refine wpAny_pyNext_items_item e dat hu λkey h1 hkey eo tup hz hk=>⟨_,Z,wpAny_letOwnedTupleGo_items eo λh2 e2 sb=>?_⟩
  have nt:s.heap.objs.size≠it:=XR itl;have P:cG X.prog X.w (aO H s.heap.objs.size (.tup [kV k,v])) h2 s.heap.objs.size (.tup [kV k,v]):=
   ⟨by show 2≤sizeLine;decide,[key,u],.cons (Ni hkey) (.cons ru .nil),⟨_,sb.extBut _ _ nt tup,Z,_,Z⟩⟩
  have I2:Inv X pins σ (aO H s.heap.objs.size (.tup [kV k,v])) { s with heap:=h2,toks:=s.toks}:=xZ I (λc o' n q=>by
   have n':c≠it:=λr=>n (by simp[r])
   exact sb.extBut _ _ n' (hk c o' n' q)) hf (SD _) P
  refine⟨.ref s.heap.objs.size,_,I2,Z,⟨_,k,v,I.fresh,Z,hkv',Z⟩,⟨key,u,by rw[rel.length];exact e2⟩,λc hc=>?_⟩;have hc':c=it:=by simpa using hc
  rw[hc',aA (V9 nt)];exact(hf it (by simp)).1
 done:=by
  intro X hP hw hK hc i pins s σ H E I hf st hg;subst hP hw hK;obtain⟨hd,hi⟩:=hg;obtain⟨ok,ov,e⟩:=st;obtain⟨q0,z,hds,vs,rel,o,es',ep',d1,d2,d3,d4⟩:=(show cG X.prog X.w H s.heap d (.frz ob (.dK kvs)) from I.hok d _ hd);have eo:o=ob:=Um (d1.symm.trans q0);subst eo;rw[hob] at d3
  cases d3
  have dat:s.heap.DictAt (cK X.prog X.w) d vs ep:=⟨o,es,d1,d2,hob,d4⟩;have hh:X.A.in1.handled=none:=I.ok.hd hc;rw[rel.length] at e hi;refine wpAny_pyNext_items_end hh e dat (Vg hi) λh1 ex=>⟨Z,?_⟩
  exact ya (t':=s.toks) I (λc o' n q=>ex c o' (λr=>n (by simp[r])) q) hf
 self:=λA i s Q E st h=>by
  obtain⟨ok,ov,e⟩:=st;have hT:s.TypeIs (.ref it) "dict_itemiterator" := ⟨_,e,Z⟩;refine wpAny_pyIter_slot hT WL (V4 WL hT K2 ?_ (PySem.F.args_dict_itemiterator_iter_1 _));show Tj _ _ (ret (.ref it)) _ _ s;exact wpAny_pure ⟨_,Z,"dict_itemiterator",_,hT,PySem.F.slot_dict_itemiterator_next.lookup,h⟩
def D9(td:TE):TI:=λσ H R=>td σ H λx H1=>∃d kvs,x=.ref d/\H1 d=some (.dK kvs)/\∀ob,R (NO d ob kvs) (aO H1 d (.frz ob (.dK kvs)))
theorem Db{X:Cx}{elts:List TW}{x1}{tp apos pos:Wh}{o:TW}{td:TE}(ho:PE X o td)(hb:Vz o "items" X.env (eval o X.env)=eval o X.env:=by rfl)(hl:(apos.endLine==pos.line)=true:=by rfl) :
  PI X (.Tuple elts x1 tp) (.Call (.Attribute o "items" apos) [] [] pos) (D9 td):=by
 intro pins s σ H R I h;refine wpAny_Call_method (T := "dict") (id := "dict.items") hb Z hl Yw Yx PySem.F.type_dict_items (cT (ho pins s σ H _ I h) λu s1 ⟨x,H1,I1,rx,d,kvs,ex,e,q⟩=>?_);subst ex;obtain rfl:u=TF d:=rx;obtain⟨z,hds,vs,rel,dd⟩:=En I1.hok e;obtain⟨t1,t2,_⟩:=D5 I1 (.inl ⟨kvs,.inl e⟩);refine⟨t1,t2,?_⟩;show Tj _ _ (Z4 pos (.builtin "dict.items") [.ref d] [] []) _ _ _;refine method_meetsIn Yx PySem.F.entry_dict_items Z (PySem.evalArgs_none ⟨Z,t1,PySem.F.args_dict_items_1 _,_,meets_dict_items (cK X.prog X.w) d hds,⟨vs,dd⟩,?_⟩);obtain⟨o',es,ep,d1,d2,d3,d4⟩:=id dd;have dat:s1.heap.DictAt (cK X.prog X.w) d vs ep:=⟨o',es,d1,d2,d3,d4⟩;refine wpAny_pyIter_items (d:=d) (kvs:=vs) (ep:=ep) ⟨_,Tg _ Z,Z,Z⟩ (dat.push _) ?_;have sz:(s1.heap.push { cls:=.type "dict_items",data:=.fields #[.ref d]}).objs.size=s1.heap.objs.size+1:=VF ..;have I2:=I1.kept (t':=s1.toks) (h':=(s1.heap.push { cls:=.type "dict_items",data:=.fields #[.ref d]}).push { cls:=.type "dict_itemiterator",data:=.fields #[.none,.bool false,.ref d,.int 0 0,.int vs.length 0,.int ep 0,.none,.none]}) λb o q=>SK _ (SK _ q)
 have hit:=Tg (s1.heap.push { cls:=.type "dict_items",data:=.fields #[.ref d]}) (o:={ cls:=.type "dict_itemiterator",data:=.fields #[.none,.bool false,.ref d,.int 0 0,.int vs.length 0,.int ep 0,.none,.none]}) Z;have dl:d<s1.heap.objs.size:=Tc d1;have k2:∀b o,s1.heap.get? b=some o->((s1.heap.push { cls:=.type "dict_items",data:=.fields #[.ref d]}).push { cls:=.type "dict_itemiterator",data:=.fields #[.none,.bool false,.ref d,.int 0 0,.int vs.length 0,.int ep 0,.none,.none]}).get? b=some o:=λb o q=>SK _ (SK _ q)
 generalize (s1.heap.push { cls:=.type "dict_items",data:=.fields #[.ref d]}).push { cls:=.type "dict_itemiterator",data:=.fields #[.none,.bool false,.ref d,.int 0 0,.int vs.length 0,.int ep 0,.none,.none]}=hE at I2 hit k2 ⊢;rw[sz] at hit ⊢;have I3:=nB (h':=hE) (t':=s1.toks) (ob:=.frz o' (.dK kvs)) I2 (by rw[e];exact Vh) ⟨Z,λ_ _=>Z⟩ ⟨_,k2 _ _ d1⟩ ⟨k2 _ _ d1,z,hds,vs,rel,o',es,ep,k2 _ _ d1,d2,d3,d4⟩;have nd:s1.heap.objs.size+1≠d:=XR (aaa dl);refine⟨_,[s1.heap.objs.size+1],_,_,_,Z,I3,vT d3,⟨.none,.none,by rw[rel.length];exact hit⟩,λc hc=>?_,q o'⟩;have hc':c=s1.heap.objs.size+1:=by simpa using hc
 subst hc';exact I1.fpOk (VA _) (by rw[aA nd];exact I1.hok.fresh (VA _))
theorem qz{d:Addr}{ob:UU}{kvs:List (cW×V)}{g:TG}{tb:TS}{D:lM}{σ:L2.St}{H:Hp}(Pv:Nat->L2.St->Hp->Prop)(h0:Pv 0 σ H)
  (hl:∀i σ H,Pv i σ H->H d=some (.frz ob (.dK kvs)))
  (hs:∀i k v p σ H,kvs[i]?=some (k,v)->Pv i σ H->H p=none->g (.ref p) σ (aO H p (.tup [kV k,v])) λσ2 H2=>tb { D with nx:=Pv (i+1),ct:=Pv (i+1),bk:=D.nx} σ2 H2) (hd:∀σ H,Pv kvs.length σ H->D.nx σ H) :
  ∃W:Nat->Nat->L2.St->Hp->Prop,(∃m,W 0 m σ H)/\∀i m σ H,W i m σ H→
   ((NO d ob kvs).stop i H/\D.nx σ H)∨((NO d ob kvs).go i H/\∃N:L2.St->Hp->Prop,(∀σ' H',N σ' H'->∃m',m'<m/\W (i+1) m' σ' H')/\∀x H',(NO d ob kvs).yld i H x H'->g x σ H' λσ2 H2=>tb { D with nx:=N,ct:=N,bk:=D.nx} σ2 H2):=by
 refine⟨λi m σ H=>m=kvs.length-i/\i≤kvs.length/\Pv i σ H,⟨_,Z,S8 _,h0⟩,?_⟩;rintro i m σ H ⟨rfl,hi,p⟩;have q:=hl i σ H p;by_cases hlt:i<kvs.length
 ·refine .inr ⟨⟨q,hlt⟩,Pv (i+1),λσ' H' p'=>⟨kvs.length-(i+1),by omega,Z,hlt,p'⟩,λx H' y=>?_⟩;obtain⟨pp,k,v,hp,rfl,hkv,rfl⟩:=y;exact hs i k v pp σ _ hkv p hp
 ·have e:i=kvs.length:=by omega
  subst e;exact .inl ⟨⟨q,SD _⟩,hd σ H p⟩
def pW(ps:List (Int×Int)):List (cW×V):=ps.map λp=>(TL p.1,V.int p.2)
def vU:List (Int×Int)->Int->Int
 | [],_=>0
 | (c,u)::r,b=>if c=b then u else vU r b
def gz:List (Int×Int)->Int->Int->List (Int×Int)
 | [],b,t=>[(b,0+t)]
 | (c,u)::r,b,t=>if c=b then(c,u+t)::r else(c,u)::gz r b t
theorem C0{p:cW×V}(e:p.1=k)(n:∀q∈r,q.1≠k):f6 (p:: r) k v=(k,v):: r:=by
 unfold f6;rw[if_pos (by simp[e]),TZ,if_pos e,e]
 congr 1
 exact(WH (g:=id) (λq hq=>by rw[if_neg (n q hq)];rfl)).trans (List.map_id r)
theorem zX{p:cW×V}(e:¬p.1=k):f6 (p:: r) k v=p:: f6 r k v:=by
 unfold f6;rw[VB,decide_eq_false e,Yp]
 split
 ·rw[TZ,if_neg e]
 ·rfl
theorem tW:∀(ps:List (Int×Int)) (b:Int),(jY (pW ps) (TL b)).getD (V.int 0)=V.int (vU ps b)
 | [],b=>rfl
 | (c,u)::r,b=>by
  show(jY ((TL c,V.int u)::pW r) (TL b)).getD (V.int 0)=V.int (if c=b then u else vU r b);by_cases e:c=b
  ·rw[if_pos e,kL (by rw[e])];rfl
  ·rw[if_neg e,kM (λz=>e (by injection z)),tW r b]
theorem sy:∀(ps:List (Int×Int)) (b t:Int),(ps.map (·.1)).Nodup->f6 (pW ps) (TL b) (V.int (vU ps b+t))=pW (gz ps b t)
 | [],b,t,_=>rfl
 | (c,u)::r,b,t,nd=>by
  have nd':=Uf.mp nd;show f6 ((TL c,V.int u)::pW r) (TL b) (V.int ((if c=b then u else vU r b)+t))=pW (if c=b then(c,u+t)::r else(c,u)::gz r b t);by_cases e:c=b
  ·rw[if_pos e,if_pos e,C0 (by rw[e]) (λq hq z=>?_)]
   ·show _=(TL c,V.int (u+t))::pW r;rw[e]
   ·obtain⟨p,hp,rfl⟩:=SR.mp hq;have z':p.1=b:=by injection z
    exact nd'.1 (SR.mpr ⟨p,hp,z'.trans e.symm⟩)
  ·rw[if_neg e,if_neg e,zX (λz=>e (by injection z)),sy r b t nd'.2];rfl
def j0:List (Int×Int)->Rat
 | []=>0
 |p::r=>(p.2:Rat)/(p.1:Rat)+j0 r
theorem GV{a b c:Rat}:(a+b)/c=a/c+b/c:=by rw[aaH,aaH,aaH,Rat.add_mul]
theorem nO:∀(ps:List (Int×Int)) (b t:Int),j0 (gz ps b t)=j0 ps+(t:Rat)/(b:Rat)
 | [],b,t=>by
  show((0+t:Int):Rat)/(b:Rat)+0=0+(t:Rat)/(b:Rat);rw[Vm];grind
 | (c,u)::r,b,t=>by
  show j0 (if c=b then(c,u+t)::r else(c,u)::gz r b t)=(u:Rat)/(c:Rat)+j0 r+(t:Rat)/(b:Rat);by_cases e:c=b
  ·rw[if_pos e];show((u+t:Int):Rat)/(c:Rat)+j0 r=_;rw[XI,GV,e];grind
  ·rw[if_neg e];show(u:Rat)/(c:Rat)+j0 (gz r b t)=_;rw[nO r b t];grind
theorem lQ:∀(ps:List (Int×Int)) (p:Int×Int),j0 (ps++[p])=j0 ps+(p.2:Rat)/(p.1:Rat)
 | [],p=>by show(p.2:Rat)/(p.1:Rat)+0=0+_;grind
 |q::r,p=>by
  show(q.2:Rat)/(q.1:Rat)+j0 (r++[p])=(q.2:Rat)/(q.1:Rat)+j0 r+_;rw[lQ r p];grind
structure mZ(n i:Nat)(ps:List (Int×Int)):Prop where
 nd:(ps.map (·.1)).Nodup
 len:ps.length≤i
 bot:∀p∈ps,0<p.1/\p.1.natAbs<2^n
 top:∀p∈ps,p.2.natAbs≤i*2^n
theorem lB:∀(ps:List (Int×Int)) (b t:Int) (c:Int),c∈(gz ps b t).map (·.1)↔c∈ps.map (·.1)∨c=b
 | [],b,t,c=>by simp[gz]
 | (d,u)::r,b,t,c=>by
  show c∈(if d=b then(d,u+t)::r else(d,u)::gz r b t).map (·.1)↔_;by_cases e:d=b
  ·rw[if_pos e];constructor
   ·intro h;exact .inl h
   ·rintro (h|h)
    ·exact h
    ·exact S6.mpr (.inl (h.trans e.symm))
  ·rw[if_neg e,TZ,TZ,S6,S6,lB r b t c];exact or_assoc.symm
theorem ED:∀(ps:List (Int×Int)) (b t:Int),(ps.map (·.1)).Nodup->((gz ps b t).map (·.1)).Nodup
 | [],b,t,_=>by simp[gz]
 | (d,u)::r,b,t,nd=>by
  have nd':=Uf.mp nd;show((if d=b then(d,u+t)::r else(d,u)::gz r b t).map (·.1)).Nodup;by_cases e:d=b
  ·rw[if_pos e];exact nd
  ·rw[if_neg e,TZ,Uf];refine⟨λz=>?_,ED r b t nd'.2⟩;rcases(lB r b t d).mp z with h|h
   ·exact nd'.1 h
   ·exact e h
theorem zf:∀(ps:List (Int×Int)) (b t:Int),(gz ps b t).length≤ps.length+1
 | [],b,t=>SD 1
 | (d,u)::r,b,t=>by
  show(if d=b then(d,u+t)::r else(d,u)::gz r b t).length≤_
  split
  ·exact VA _
  ·exact Xq (zf r b t)
theorem zd:∀(ps:List (Int×Int)) (b t:Int) (M N:Nat),(∀p∈ps,p.2.natAbs≤M)->t.natAbs≤N->∀p∈gz ps b t,p.2.natAbs≤M+N
 | [],b,t,M,N,_,ht,p,hp=>by
  have e:p=(b,0+t):=by simpa [gz] using hp
  rw[e];show(0+t).natAbs≤M+N;omega
 | (d,u)::r,b,t,M,N,h,ht,p,hp=>by
  have hu:u.natAbs≤M:=h (d,u) SO;have hr:∀q∈r,q.2.natAbs≤M:=λq hq=>h q (SQ _ hq)
  have hp':p∈(if d=b then(d,u+t)::r else(d,u)::gz r b t):=hp
  split at hp'
  ·rcases S6.mp hp' with e|e
   ·rw[e];show(u+t).natAbs≤M+N;omega
   ·have:=hr p e;omega
  ·rcases S6.mp hp' with e|e
   ·rw[e];show u.natAbs≤M+N;omega
   ·exact zd r b t M N hr ht p e
theorem mZ.add(h:mZ n i ps)(w:Wf n r):mZ n (i+1) (gz ps r.2 r.1) where
 nd:=ED ps r.2 r.1 h.nd
 len:=Tu (zf ps r.2 r.1) (Xq h.len)
 bot:=λp hp=>by
  rcases(lB ps r.2 r.1 p.1).mp (SR.mpr ⟨p,hp,Z⟩) with z|z
  ·obtain⟨q,hq,e⟩:=SR.mp z;rw[←e];exact h.bot q hq
  ·rw[z];exact⟨w.pos,w.bot⟩
 top:=λp hp=>by
  have:=zd ps r.2 r.1 (i*2^n) (2^n) h.top (VN w.top) p hp;rw[aaF,Xx];exact this
theorem mZ.nil(n:Nat):mZ n 0 []:=⟨Vp,SD _,(λ_ h=>nomatch h),(λ_ h=>nomatch h)⟩
theorem mZ.wf(h:mZ n i ps)(hi:i≤255)(hp:p∈ps):Wf (n+8) (d6 p.2 p.1):=by
 refine wP (h.bot p hp).1 ?_ (Td (h.bot p hp).2 (UD (by decide) (by omega)));have a:=h.top p hp;have b:i*2^n≤255*2^n:=Vo _ hi;have c:0<2^n:=aaI (by decide);rw[Zf];omega
def jW:List R->Rat
 | []=>0
 |r::t=>val r+jW t
theorem lO:∀(rs:List R) (r:R),jW (rs++[r])=jW rs+val r
 | [],r=>by show val r+0=0+val r;grind
 |q::t,r=>by show val q+jW (t++[r])=val q+jW t+val r;rw[lO t r];grind
theorem uj:∀(rs:List R) (acc:R),gW acc->(∀r∈rs,gW r)->gW (rs.foldl cP acc)/\val (rs.foldl cP acc)=val acc+jW rs
 | [],acc,ha,_=>⟨ha,by show val acc=val acc+0;grind⟩
 |r::t,acc,ha,h=>by
  have hr:=h r SO;obtain⟨a,b⟩:=uj t (cP acc r) (C6 ha hr) λq hq=>h q (SQ _ hq)
  refine⟨a,?_⟩;rw[Uz,b,iH ha.pos hr.pos];show val acc+val r+jW t=val acc+(val r+jW t);grind
theorem gY:val (0,1)=0:=by decide +kernel
theorem wD:gW (0,1):=⟨by decide,by decide⟩
theorem jd(h:∀r∈rs,gW r):gW (eN rs)/\val (eN rs)=jW rs:=by
 obtain⟨a,b⟩:=uj rs (0,1) wD h;refine⟨a,b.trans ?_⟩;rw[gY];grind
theorem Be(h:∀r∈rs,gW r)(hx:gW x)(e:val x=jW rs):x=eN rs:=
 fG hx (jd h).1 (e.trans (jd h).2.symm)
theorem Wf.red(h:Wf n r):gW r:=⟨h.pos,h.cop⟩
section
set_option autoImplicit true
set_option relaxedAutoImplicit true
theorem CY   : QE X (.Dict [] [] pos) A8:=⟨Dj ⟩
theorem CZ(hu:X.A.units+1<cLine)(ho:QE X o td)(he:QE X e ty)(hf:QE X f tx)(m:M2 X o "get" apos e f cpos):QE X (.Call (.Attribute o "get" apos) [e,f] [] cpos) (A9 td ty tx):=⟨Dk hu ho.p he.p hf.p m⟩
theorem Ft(hu:X.A.units+1<cLine)(ho:QE X o td)(hi:QE X i ty)(hv:QE X value tv)(hs:V1 value (some (.Subscript o i pos')) pos.line X.env=Vd false):QS X (.Assign [.Subscript o i pos'] value pos) (Hs td ty tv):=⟨FH hu ho.p hi.p hv.p hs⟩
theorem CT{X:Cx}{elts:List TW}{x1}{tp apos pos:Wh}{o:TW}{td:TE}(ho:QE X o td)(hb:Vz o "items" X.env (eval o X.env)=eval o X.env:=by rfl)(hl:(apos.endLine==pos.line)=true:=by rfl):QI X (.Tuple elts x1 tp) (.Call (.Attribute o "items" apos) [] [] pos) (D9 td):=⟨Db ho.p hb hl⟩
end
end B
namespace B
abbrev Pl:=Nat×Nat
def cU(p:Pl):Int:=(p.2:Int)-p.1+1
def uf(p q:Pl):Prop:=p.1<q.1∨(p.1=q.1/\q.2≤p.2)
structure pK(S:Pl->Prop)(L:Pl->Int)(p:Pl):Prop where
 inn:S p
 all:∀q,S q->L q*cU p<L p*cU q∨(L q*cU p=L p*cU q/\uf p q)
def ju(n:Nat)(p:Pl):Prop:=p.1≤p.2/\p.2<n
theorem ju.pos(h:ju n p):0<cU p:=by unfold cU;have:=h.1;omega
theorem pK.uniq(a:pK S L p)(b:pK S L q):p=q:=by
 have h1:=a.all q b.inn;have h2:=b.all p a.inn;rcases h1 with h1 | ⟨h1,o1⟩
 ·rcases h2 with h2 | ⟨h2,_⟩<;>omega
 ·rcases h2 with h2 | ⟨_,o2⟩
  ·omega
  ·unfold uf at o1 o2;apply Z5<;>omega
theorem pK.scale(ha:0<a)(hb:0<b)(e:∀q,M q*a=L q*b)(h:pK S L p):pK S M p:=by
 refine⟨h.inn,λq hq=>?_⟩;have k1:(M q*cU p)*a=(L q*cU p)*b:=by rw[Vj,e,Vj]
 have k2:(M p*cU q)*a=(L p*cU q)*b:=by rw[Vj,e,Vj]
 rcases h.all q hq with z | ⟨z,o⟩
 ·refine .inl (X8 (a:=a) ?_ (UQ ha));rw[k1,k2];exact XW z hb
 ·refine .inr ⟨Ww (Int.ne_of_gt ha) ?_,o⟩;rw[k1,k2,z]
theorem GF{l p q lr lp lq:Int}(hr:0<lr)(hp:0<lp)(hq:0<lq)(h1:l*lp≤p*lr)(h2:p*lq<q*lp):l*lq<q*lr:=by
 refine X8 (a:=lp) ?_ (UQ hp);have a1:l*lq*lp=l*lp*lq:=Vj _ _ _;have a2:q*lr*lp=q*lp*lr:=Vj _ _ _;have b1:l*lp*lq≤p*lr*lq:=Xr h1 (UQ hq);have b2:p*lr*lq=p*lq*lr:=Vj _ _ _;have b3:p*lq*lr<q*lp*lr:=XW h2 hr;omega
theorem pK.more(h:pK S L p)(st:∀r,S' r->ju n r)(e:∀r,S' r↔S r∨r=q)(gt:L p*cU q<L q*cU p):pK S' L q:=by
 have iq:S' q:=(e q).mpr (.inr Z);have ip:S' p:=(e p).mpr (.inl h.inn);refine⟨iq,λr hr=>?_⟩;rcases(e r).mp hr with z|z
 ·refine .inl (GF (st r hr).pos (st p ip).pos (st q iq).pos ?_ gt);rcases h.all r z with z | ⟨z,_⟩
  ·exact UQ z
  ·exact Int.le_of_eq z
 ·subst z;exact .inr ⟨Z,.inr ⟨Z,SD _⟩⟩
theorem pK.stay(h:pK S L p)(e:∀r,S' r↔S r∨r=q)(le:L q*cU p≤L p*cU q)(o:uf p q∨L q*cU p≠L p*cU q):pK S' L p:=by
 refine⟨(e p).mpr (.inl h.inn),λr hr=>?_⟩;rcases(e r).mp hr with z|z
 ·exact h.all r z
 ·subst z;by_cases c:L r*cU p=L p*cU r
  ·rcases o with o|o
   ·exact .inr ⟨c,o⟩
   ·exact absurd c o
  ·exact .inl (by omega)
theorem pK.congr(h:pK S L p)(e:∀r,S' r↔S r):pK S' L p:=⟨(e p).mpr h.inn,λq hq=>h.all q ((e q).mp hq)⟩
def gM(n b e:Nat)(p:Pl):Prop:=ju n p/\(p.1<b∨(p.1=b/\e≤p.2))
def QF(n b e:Nat)(p:Pl):Prop:=ju n p/\(p.1<b∨(p.1=b/\p.2<e))
theorem vY(h1:b≤e)(h2:e<n)(r:Pl):gM n b e r↔gM n b (e+1) r∨r=(b,e):=by
 obtain⟨x,y⟩:=r;unfold gM ju;rw[Prod.mk.injEq];show(x≤y/\y<n)/\_↔((x≤y/\y<n)/\_)∨_;simp only;omega
theorem vZ(r:Pl):gM n (b+1) n r↔gM n b b r:=by
 obtain⟨x,y⟩:=r;unfold gM ju;simp only;omega
theorem zP(r:Pl):ju n r↔gM n n n r:=by
 obtain⟨x,y⟩:=r;unfold gM ju;simp only;omega
abbrev Wn:=Option (Nat×Nat)
def io(b e:Nat):Wn->Bool
 |none=>false
 |some (x,y)=>decide (b≤x)&&decide (y≤e)
def c7(ws:List Wn)(p:Pl):List Nat:=(SC ws.length).filter λi=>io p.1 p.2 (ws.getD i none)
def dJ(ws:List Wn)(A:Nat->Int)(p:Pl):Int:=((c7 ws p).map A).sum
theorem j7{A:Nat->Int}(h:∀i,0≤A i):∀l:List Nat,0≤(l.map A).sum
 | []=>Xy _
 |x::l=>by
  rw[TZ,Wj];have:=h x;have:=j7 h l;omega
theorem qh{A C:Nat->Int}{a b:Int}:∀l:List Nat,(∀i∈l,C i*a=A i*b)->(l.map C).sum*a=(l.map A).sum*b
 | [],_=>by simp
 |x::l,h=>by
  rw[TZ,Wj,TZ,Wj,Zi,Zi,h x SO,qh l λi hi=>h i (SQ _ hi)]
end B
namespace B
open PySem PySem.Spec L2 PyProof.Rows
def sY(ns:List Int):List Int:=ns.foldl step_dedup []
def Qc(K:Sy):List V->Hp->VK->Prop:=λxs H Q=>∃p ns,xs=[.ref p]/\bu K H p (ns.map V.int)/\ns.length≤1000/\∀l,H l=none->Q (.ref l) (aO H l (.set (λk=>(sY ns).any (·==k)) (sY ns).length))
def Qd:List V->Hp->VK->Prop:=λxs H Q=>∃p S n,xs=[.ref p]/\H p=some (.set S n)/\Q (.int n) H
def Pm(xs:Array Nat):Prop:=∀i j (_:i<j) (hj:j<xs.size),xs[i]'(by omega)<xs[j]
def Pi(t:SetTable):Prop:=t.plain=true->t.dummies=#[]/\Pm t.place
section
variable {prog:Tx}{w:T9}{A:TV}{E:Value->SH->Prop}{s:SH}
def Ox:Value->Int
 | .int n _=>n
 |_=>0
def Lq(w:T9)(h:SY)(a:Addr)(ks:List Int):Prop:=∃o es ep t,h.get? a=some o/\o.ExactSet/\o.data=.set es ep t/\(∀e∈es.toList,∃n u,e=(hashInt n,VZ n u))∧
 (es.toList.map λe=>Ox e.2).Perm ks/\t.fits es.size=true/\Pi t/\t.led=!w.params.followText "set-order"
end
section
variable {prog:Tx}{w:T9}{A:TV}{E:Value->SH->Prop}{s:SH}
def LL(w:T9):UU:={ cls:=.type "set",dict:=none,data:=.set #[] 0 (.fresh 0 0 (!w.params.followText "set-order"))}
variable {R:aaZ->SH->Prop}{I:Addr}{fp wr:List Addr}{G:Array GenState->Array GenState->Prop}{n:Nat}{P:Nat->Value->Prop}{St:Nat->SH->Prop}
end
section
variable {prog:Tx}{w:T9}{A:TV}{E:Value->SH->Prop}{s:SH}
end
namespace FS
end FS
section
variable {prog:Tx}{w:T9}{A:TV}{E:Value->SH->Prop}{s:SH}
def Rh(first:Value)(i:Nat)(a:Addr)(n ep:Nat):UU:={ cls:=.type "set_iterator",data:=.fields #[first,.int i 0,.ref a,.int n 0,.int ep 0]}
end
end B
namespace B
open PySem PySem.Spec L2 PyProof.Rows
section
variable {prog:Tx}{w:T9}{A:TV}{E:Value->SH->Prop}{s:SH}
end
section
variable {prog:Tx}{w:T9}{A:TV}{E:Value->SH->Prop}{s:SH}
def Ph(prog:Tx)(w:T9)(a:Addr)(ks:List Int)(s:SH)(It:Addr)(s1:SH):Prop:=
 ∃(fp:List Addr) (items:Array Value) (St:Nat->SH->Prop),(∀A':TV,A'.handled=none->WalksS prog w A' It fp [It] (λa b=>b=a) items.size (λi v=>items[i]?=some v) St)/\St 0 s1/\It∈fp/\(∀b∈fp,b<s1.heap.objs.size/\(b=a∨s.heap.objs.size≤b))∧
  s.heap.objs.size≤It/\∃ms,Zr items.toList ms/\ms.Perm ks
def P5(t:SetTable):Nat->Nat
 |0=>0
 |k+1=>t.place.getD k 0+1
end
open AutoSeq1 in
theorem GD(l b:Addr)(xs ys:Array Value)(n m:Nat)(od:Option Addr)(osl:Array (Option Value))(h0:¬(!xs.isEmpty&&Vl (xs.size+ys.size))=true)(h1:xs.size≤sizeLine)(h2:xs.size+ys.size≤sizeLine+1) :
  Meets (TN.«list.extend» ⟨[.ref l,.ref b],[]⟩) (λ_ R s=>s.heap.get? l=some { cls:=.type "list",dict:=none,data:=.seq xs n,slots:=#[]}/\s.heap.get? b=some { cls:=.type "tuple",dict:=od,data:=.seq ys m,slots:=osl}∧
   R (.ok (.ret VC)) { s with heap:=s.heap.update l (X4 λx=>x++ys),toks:=s.toks}):=
 .of_wp λprog w A R s h=>by
  obtain⟨hp,g,d,tk,os⟩:=s;obtain⟨hl,hb,h⟩:=h;have f1:=AutoSeq1.idx_int;have f2:=AutoSeq1.sub_tuple_tuple;have f3:=AutoSeq1.sub_list_list;have f4:=AutoSeq1.sub_tuple_list;have f5:=AutoSeq1.sub_list_tuple;have hz':(xs++ys).size≤sizeLine+1:=by rw[Array.size_append];omega
  wp_walk using(wpAny_updateSeq hl Z (hz:=h1) (_hz':=hz')),wpAny_loadPart' hl,wpAny_loadPart' hb
  exact⟨_,Z,h⟩
def MM(K:Sy):V->List V->Hp->VK->Prop:=λx vs H Q=>∃l b xs zs,x=.ref l/\vs=[.ref b]/\H l=some (.lst xs)/\bV K H b zs/\xs.length+zs.length≤1000/\Q .non (aO H l (.lst (xs++zs)))
theorem Gn:Po X "list.extend" (MM X.K):=by
 intro pins s σ H x vs v us Q I rx rv h;obtain⟨l,b,xs,zs,rfl,rfl,hH,hB,hz,q⟩:=h
 cases rx
 obtain⟨u,rfl,ru⟩:=rv.one
 cases ru
 obtain⟨z,its,n,r,hl,e⟩:=I.lstM hH;obtain⟨its2,r2,⟨⟨oc,od,dt,sl⟩,e2,hc,n2,hd⟩,z2⟩:=I.tuple hB;have hc':oc=.type "tuple" := hc;have hd':dt=.seq its2.toArray n2:=hd;subst hc' hd';have l1:=r.length;have l2:=r2.length;have big:1000≤sizeLine:=by decide
 have hsz:its.toArray.size+its2.toArray.size≤sizeLine:=by rw[Tr,Tr];omega
 have hlong:¬(!its.toArray.isEmpty&&Vl (its.toArray.size+its2.toArray.size))=true:=by
  rw[DI hsz,UY];decide
 refine YT F.slot_list_extend ⟨_,e,Z⟩ F.entry_list_extend (F.args_list_extend_2 _ _) (GD l b its.toArray its2.toArray n n2 od sl hlong (by rw[Tr];omega) (by omega)) ⟨e,e2,?_⟩;refine⟨.non,_,I.lset (its':=its++its2) hH e (by simp) (r.append r2) ?_,Z,q⟩;rw[SZ];omega
def Qa(K:Sy):List V->Hp->VK->Prop:=λxs H Q=>∃p ns,xs=[.ref p]/\(bu K H p (ns.map V.int)∨bV K H p (ns.map V.int))/\ns.length<64/\∀(l:Addr) (ms:List Int),ms.Perm ns->ms.Pairwise (·≤·)->H l=none->Q (.ref l) (aO H l (.lst (ms.map V.int)))
section
variable {prog:Tx}{w:T9}{A:TV}{E:Value->SH->Prop}{s:SH}
end
def Mp(w:T9)(a:Addr)(ks:List Int):HO:=.ext λh=>Lq w h a ks
def Qb(w:T9)(K:Sy):List V->Hp->VK->Prop:=λxs H Q=>∃p ns,xs=[.ref p]/\(bu K H p (ns.map V.int)∨bV K H p (ns.map V.int))/\ns.length≤1000/\∀l,H l=none->Q (.ref l) (aO H l (Mp w l (sY ns)))
def OI(w:T9):List V->Hp->VK->Prop:=λxs H Q=>∃p ks,xs=[.ref p]/\H p=some (Mp w p ks)/\ks.length<64/\∀(l:Addr) (ms:List Int),ms.Perm ks->ms.Pairwise (·≤·)->H l=none->Q (.ref l) (aO H l (.lst (ms.map V.int)))
def PR(ta:TA):TE:=λσ H Q=>ta σ H λvs H1=>∃i j:Int,vs=[.int i,.int j]/\∀p,H1 p=none->Q (.ref p) (aO H1 p (.rng i j))
def Oi:R2:=λx y H Q=>∃(i:Int) (p:Addr) (lo hi:Int),x=.int i/\y=.ref p/\H p=some (.rng lo hi)/\Q (.bl (!(decide (lo≤i)&&decide (i<hi)))) H
section
set_option autoImplicit true
set_option relaxedAutoImplicit true
end
def Nu(lo n:Nat):List Nat:=(SC n).map λi=>lo+i
def Rr:List V->Hp->VK->Prop:=λxs H Q=>∃p,∃lo n:Nat,xs=[.ref p]/\H p=some (.rng (lo:Int) ((lo+n:Nat):Int))/\lo+n≤1000/\∀l,H l=none->Q (.ref l) (aO H l (.lst ((Nu lo n).map λi:Nat=>V.int i)))
theorem qJ:∀{bs:List Bool} {us:List Value},bP (bs.map V.bl) us->∀{i:Nat} {v:Value},us[i]?=some v->v=.bool (bs.getD i false)
 | [],_,.nil,i,v,e=>by cases e
 |b::bs,_,.cons r t,0,v,e=>by
  rw[WX] at e
  cases e
  exact(show _=V7 b from r)
 |b::bs,_,.cons r t,i+1,v,e=>by
  rw[WY] at e;exact qJ t e
theorem qP:∀(bs:List Bool),(SC bs.length).any (λi=>bs.getD i false)=bs.any id
 | []=>rfl
 |b::bs=>by
  rw[Tv,Xh,VB,aae,VB];have:=qP bs;show(b||(SC bs.length).any (λi=>bs.getD i false))=(id b||bs.any id);rw[this];rfl
theorem AF(hc:X.calm=true):eM X (.builtin "any") (λxs H Q=>∃(p:Addr) (bs:List Bool),xs=[.ref p]/\bu X.K H p (bs.map V.bl)/\Q (.bl (bs.any id)) H):=by
 intro pins s σ H xs us Q I r h;obtain⟨p,bs,rfl,hq,q⟩:=h;obtain⟨u,rfl,rx⟩:=ij r
 cases rx
 obtain⟨its,rv,pl,hz⟩:=I.list hq;have ne:p≠s.heap.objs.size:=by
  obtain⟨o,ho,_⟩:=pl.isList;exact Uj (Tc ho)
 have hlen:its.toArray.size=bs.length:=by rw[Tr,←rv.length,SE]
 refine call_any_walk (Xa pl.isList ?_);refine⟨_,_,_,_,_,_,λi=>bs.getD i false,Z,Walks.list (A:=X.A.in1) (I.ok.hd hc) _ p ne its.toArray,⟨⟨_,Tg _ Z,Z,Z⟩,pl.isList.push _⟩,λi v s' Q' E' hv hQ=>?_,λh' tk hk=>?_⟩
 ·have e:=qJ rv (i:=i) (v:=v) (by simpa using hv);subst e;exact Vr hQ
 ·rw[hlen,qP];refine⟨.bl _,H,I.kept (t':=tk) λb o e=>hk b o (λz=>?_) (SK _ e),Z,q⟩;rw[SJ.mp z] at e;exact absurd (Tc e) (UJ _)
def P3(te:TE)(i:Nat):TS:=λD σ H=>te σ H λx H1=>∃σ',σ.set i (some x)=σ'/\D.nx σ' H1
section
variable {prog:Tx}{w:T9}{A:TV}{E:Value->SH->Prop}{s:SH}
end
section
variable {X:Cx}{pins:List (Addr×UU)}{σ:L2.St}{H:Hp}{A:TV}{E:Value->SH->Prop}{a kS:Addr}{vs:List Value}{kz:List Int}{f:Value}{e1:Nat}
def Ot(X:Cx)(σ:L2.St)(H:Hp)(A:TV)(f:Value)(vs:List Value)(kz:List Int):Prop:=
 ∀(i:Nat) (v:Value) (k:Int),vs[i]?=some v->kz[i]?=some k->∀(pins:List (Addr×UU)) (s:SH),Inv X pins σ H s→
  Tj (Tp X.prog X.w) A (call f [v]) (λu s2=>(∃t,u=.int k t)/\Inv X pins σ H s2) (λ_ _=>False) s
end
def Jr(sp:Sp)(key:Nat->Int):List V->Hp->VK->Prop:=λxs H Q=>∃(p:Addr) (n:Nat),xs=[.ref p]/\H p=some (.rng 0 n)/\n<64/\(∀i<n,∀(Qk:VK),Qk (.int (key i)) H->sp [.int (i:Nat)] H Qk λ_ _ _=>False)∧
 ∀(l:Addr) (ms:List Nat),ms.Perm (SC n)->ms.Pairwise (λa b=>key a≤key b)->H l=none->Q (.ref l) (aO H l (.lst (ms.map λi:Nat=>V.int i)))
def OB(sp:Sp)(key:Nat->Int)(t:TA):TE:=λσ H Q=>t σ H λvs H1=>Jr sp key vs H1 Q
def MG:V->List V->Hp->VK->Prop:=λx vs H Q=>∃(l:Addr) (ns:List Nat) (j k:Nat),x=.ref l/\vs=[.int (k:Int)]/\H l=some (.lst (ns.map λi:Nat=>V.int i))/\ns[j]?=some k/\(∀m,m<j->ns[m]?≠some k)/\Q .non (aO H l (.lst ((ns.eraseIdx j).map λi:Nat=>V.int i)))
def OZ(k:Int):Value->Bool
 | .int i _=>i==k
 |_=>false
theorem Gm:Po X "list.remove" MG:=by
 intro pins s σ H x vs v us Q I rx rv h;obtain⟨l,ns,j,k,rfl,rfl,hH,hj,hno,q⟩:=h
 cases rx
 obtain⟨u,rfl,ru⟩:=rv.one;obtain⟨t,rfl⟩:=ru;obtain⟨z,its,n,r,hl,e⟩:=I.lstM hH;rw[SE] at z hl;have at_:∀(m:Nat) (w:Value),its[m]?=some w->∃i t',ns[m]?=some i/\w=.int (i:Int) t':=λm w hw=>by
  have hm:m<its.length:=(SN.mp hw).1;obtain⟨i,hi⟩:∃i,ns[m]?=some i:=⟨_,Sz (by omega)⟩;obtain⟨w',hw',t',e'⟩:=r.get (show(ns.map λi:Nat=>V.int i)[m]?=some (V.int i) by rw[SU,hi];rfl);rw[hw] at hw'
  cases hw'
  exact⟨i,t',hi,e'⟩
 have jl:j<ns.length:=(SN.mp hj).1;have mem:∀y,y∈its.toArray->aay y (.int (k:Int) t) (OZ k y):=λy hy=>by
  obtain⟨m,hm⟩:=Ui (by simpa using hy);obtain⟨i,t',_,rfl⟩:=at_ m y hm;exact aay.int _ _ _ _
 have val:∀m (hm:m<its.toArray.size) (i:Nat),ns[m]?=some i->OZ k its.toArray[m]=((i:Int)==(k:Int)):=λm hm i hi=>by
  have e1:its[m]?=some (its.toArray[m]):=by simp only[List.getElem_toArray];exact Sz (by simpa using hm)
  obtain⟨i',t',h1,h2⟩:=at_ m _ e1;rw[hi] at h1
  cases h1
  rw[h2];rfl
 refine YT F.slot_list_remove ⟨_,e,Z⟩ F.entry_list_remove (F.args_list_remove_2 _ _)
  (MeetsSeq.list_remove l its.toArray n _ (OZ k) mem j (by simpa [←hl] using jl) (by rw[val j _ k hj];simp) (λm hm lt=>?_) (by rw[Tr];omega)) ⟨e,?_⟩
 ·obtain⟨i,hi⟩:∃i,ns[m]?=some i:=⟨_,Sz (by omega)⟩;rw[val m hm i hi];refine beq_eq_false_iff_ne.mpr λz=>hno m lt ?_
  rw[hi];exact congrArg some (by omega)
 refine⟨.non,_,I.lset (its':=its.eraseIdx j) hH e ?_ ?_ ?_,Z,q⟩
 ·show its.toArray.eraseIdxIfInBounds j=(its.eraseIdx j).toArray;rw[List.eraseIdxIfInBounds_toArray]
 ·have:=r.eraseIdx j;have e2:∀(l:List Nat) (j:Nat),(l.map λi:Nat=>V.int i).eraseIdx j=(l.eraseIdx j).map λi:Nat=>V.int i:=by
   intro l
   induction l with
   |nil=>intro j;rfl
   |cons a l ih=>
    intro j
    cases j with
    |zero=>rfl
    |succ j=>simp only[TZ,Yy,ih]
  rw[e2] at this;exact this
 ·rw[SE];have:=List.length_eraseIdx_le ns j;omega
abbrev Pf(X:Cx)(N':List TB)(scope:Wr)(y:TB)(cl:List (TB×Addr))(C:Addr)(fp:List Addr)(pins:List (Addr×UU))(s:SH)(H:Hp):Cx:=qB X N' scope (λz=>z==y) ((y,C+1)::cl) C fp pins s H
structure xR(X:Cx)(scope:Wr)(y:TB)(cl:List (TB×Addr)):Prop where
 has:∀x,((WK scope cl 0 X.env).kindOf x=some .cell∨(WK scope cl 0 X.env).kindOf x=some .free)->x=y∨∃c,cl.lookup x=some c
 up:∀x c,cl.lookup x=some c->X.env.cells.lookup x=some c
 no:cl.lookup y=none
theorem AD(h1:((Z9 scope X.env).names.all λz=>!(z.2==.cell||z.2==.free)||(z.1==y)||(cl.lookup z.1).isSome)=true)(h2:jv X cl)(h3:cl.lookup y=none):xR X scope y cl:=by
 refine⟨λx h=>?_,λx c e=>h2.mem _ (mem_of_lookup e),h3⟩;have h4:=Vi.mp h1;have key:∀k:WJ,(k=.cell∨k=.free)->(Z9 scope X.env).names.lookup x=some k->x=y∨∃c,cl.lookup x=some c:=λk hk e=>by
  have q:=h4 _ (mem_of_lookup e);have z:(k==ZD||k==abg)=true:=by rcases hk with rfl|rfl<;>rfl
  simp only[z,Yo,Yp,aaP] at q;rcases q with q|q
  ·exact .inl (WW q)
  ·exact .inr (UV.mp q)
 rcases h with h|h
 ·exact key _ (.inl Z) h
 ·exact key _ (.inr Z) h
theorem u5{cl:List (TB×Addr)}(h:((y,a):: cl).lookup x=some c):(x=y/\c=a)∨(x≠y/\cl.lookup x=some c):=by
 rw[Xp] at h
 cases e:x==y with
 |true=>
  rw[e] at h;injection h with h;exact .inl ⟨WW e,h.symm⟩
 |false=>
  rw[e] at h;refine .inr ⟨λz=>?_,h⟩;rw[z,beq_self_eq_true] at e
  cases e
theorem yI{cl:List (TB×Addr)}(n:cl.lookup y=none)(h:cl.lookup x=some c):((y,a):: cl).lookup x=some c:=by
 have ne:(x==y)=false:=by
  cases e:x==y with
  |true=>rw[WW e,n] at h;cases h
  |false=>rfl
 rw[Xp,ne];exact h
section
variable {M:Model}{A:TV}{E:Value->SH->Prop}{s:SH}
theorem Gi(hs:∀n:Nat,Yu n scope.names cl=(y,n):: cl)(hp:∀h:SY,pushCells h scope.names=h.push { cls:=.type "cell",data:=.cell none})
  (hQ:Q { scope,locals:=s.heap.objs.size,globals,cells:=(y,s.heap.objs.size+1):: cl,qual,func:=none,code:=outer.code,frame:=outer.frame,builtins:=outer.builtins} { s with heap:=(s.heap.push { cls:=.type "dict",data:=.dict #[]}).push { cls:=.type "cell",data:=.cell none} }):
  Tj M A (X5 scope globals cl [] qual none .none (some outer)) Q E s:=by
 simp only[X5,WQ,if_true];refine SL (wpAny_alloc (SL (wpAny_layCells _ (λname kind cells=>by cases hkc:kind==ZD<;>simp[hkc]) _ _ _ _ ?_)));rw[hs,hp];refine SL (wpAny_pure (wpAny_pure ?_));rw[show({ s with heap:=s.heap.push { cls:=.type "dict",data:=.dict #[]} }:SH).heap.objs.size=s.heap.objs.size+1 from VF ..];exact hQ
end
theorem Nx(hcf:∀n:Nat,Yu n scope.names cl=(y,n):: cl)(hcp:∀h:SY,pushCells h scope.names=h.push { cls:=.type "cell",data:=.cell none})(hkind:scope.kind=.function)(hcl:xR X scope y cl):pI X scope (λz=>z==y) cl (λC=>(y,C+1):: cl) where
 fun_:=hkind
 cells:=λC=>⟨λx h=>by
  rcases hcl.has x h with z | ⟨c,z⟩
  ·exact⟨C+1,by rw[z,Xp,beq_self_eq_true]⟩
  ·exact⟨c,yI hcl.no z⟩,λx c e=>by
  rcases u5 e with⟨h1,h2⟩ | ⟨_,h2⟩
  ·exact .inl ⟨by rw[h1];exact beq_self_eq_true y,h2⟩
  ·exact .inr (hcl.up x c h2),λa b h1 h2=>(WW h1).trans (WW h2).symm,λx c e=>yI hcl.no e,λx c h e=>by
  rcases u5 e with⟨_,h2⟩ | ⟨h1,_⟩
  ·rw[h2];exact VA C
  ·exact absurd (WW h) h1⟩
 make:=λ{s Q} k=>Gi hcf hcp (k _ _ s.toks _ ((SY.Ns.new s.heap (.type "dict")).keeps λb o e=>SK { cls:=.type "cell",data:=.cell none} e)
  (λ_ _=>⟨_,by rw[←show(s.heap.push { cls:=.type "dict",data:=.dict #[]}).objs.size=s.heap.objs.size+1 from VF ..];exact Tg _ Z,Z⟩)
  (λb o e=>SK _ (SK _ e)) Z Z)
section
variable {X:Cx}{N':List TB}{scope:Wr}{y:TB}{cl:List (TB×Addr)}{src:List (Option Nat)}{tg iter elt:TW}{ifs:List TW}{wi:TI}{g:TG}{tt:TT}{te:TE}{pos:Wh}
theorem CP{i:Nat}{x:TB}{pos' pos2:Wh}(hN:X.N.Nodup)(hi':X.N[i]?=some x)(hx:AT X.env.scope x)(hc:X.calm=true)(hi:QI X tg iter wi)(hg:∀C fp pins s H,QG (Pf X N' scope y cl C fp pins s H) tg g)(ht:∀C fp pins s H,LM (Pf X N' scope y cl C fp pins s H) ifs tt)(he:∀C fp pins s H,QE (Pf X N' scope y cl C fp pins s H) elt te)(hfree:dD X scope cl N' src)(hclos:X6 scope X.env=Vd cl)(hcf:∀n:Nat,Yu n scope.names cl=(y,n)::cl)(hcp:∀h:SY,pushCells h scope.names=h.push { cls:=.type "cell",data:=.cell none})(hkind:scope.kind=.function)(hnames:∀x∈scope.names,x.2=.local->scope.names.lookup x.1=some .local)(hcl:xR X scope y cl)(hs:∀x,U7 iter X.env x=Vd x:=by intro _;rfl)(hsw:V1 (.ListComp elt [⟨tg,iter,ifs,0⟩] scope pos) (some (.Name x pos')) pos2.line X.env=Vd true:=by rfl)(hf:X.fn x=true∨X.env.scope.names.lookup x=some .local:=by first|exact .inl Z|exact .inr Z|assumption):QS X (.Assign [.Name x pos'] (.ListComp elt [⟨tg,iter,ifs,0⟩] scope pos) pos2) (uy (nN wi src g tt te) (mM i)):=⟨yu hN hi' hx hc hi.p (λz0 z1 z2 z3 z4=>(hg z0 z1 z2 z3 z4).p) (λz0 z1 z2 z3 z4=>(ht z0 z1 z2 z3 z4).p) (λz0 z1 z2 z3 z4=>(he z0 z1 z2 z3 z4).p) hfree hclos (Nx hcf hcp hkind hcl) hnames hs hsw hf⟩
theorem zW(hclos:X6 scope X.env=Vd cl)(hc:X.calm=true)(hi:QI X tg iter wi)(hg:∀C fp pins s H,QG (GJ X N' scope cl C fp pins s H) tg g)(ht:∀C fp pins s H,LM (GJ X N' scope cl C fp pins s H) ifs tt)(he:∀C fp pins s H,QE (GJ X N' scope cl C fp pins s H) elt te)(hfree:dD X scope cl N' src)(hcell:∀x∈scope.names,x.2≠.cell)(hkind:scope.kind=.function)(hnames:∀x∈scope.names,x.2=.local->scope.names.lookup x.1=some .local)(hcl:lN X scope cl)(hs:∀x,U7 iter X.env x=Vd x:=by intro _;rfl):QE X (.ListComp elt [⟨tg,iter,ifs,0⟩] scope pos) (nN wi src g tt te):=cj hc hi hg ht he hfree hclos hcell hkind hnames hcl hs
theorem CS{K:Sy}{l tg:TW}{tl:TE}(hK:X.K=K)(hl:QE X l tl):QI X tg l (D8 K tl):=by subst hK;exact eh hl
theorem F9{K:Sy}{k:Nat}(hK:X.K=K)(hr:dX k X.A):iF X (UK .NotEq) (MH K):=hK▸l5 hr
theorem xh{X:Cx}{K:Sy}(hK:X.K=K)(hc:X.calm=true):eM X (.builtin "any") (λxs H Q=>∃p bs,xs=[V.ref p]/\bu K H p (List.map V.bl bs)/\Q (V.bl (bs.any id)) H):=by subst hK;exact AF hc
end
structure dM(K:Sy)(n:TB)(st:Stmt)(f:Addr)(d:SI):Prop where
 p:PySem.W.nsIn K TC n=some (some (.ref f))
 F:dN K n n st f d
section
variable {K:Sy}{n:TB}{st:Stmt}{f:Addr}{d:SI}
theorem isF{oc:Value}{od an:Option Addr}{sl:Array (Option Value)}{kV dc pm cd ct:Value}(p:PySem.W.nsIn K TC n=some (some (.ref f)))
  (l:K.lookup f=some ⟨oc,od,.func (U0 n n (eU st) (em st) (aC st) .none kV dc pm an cd ct),sl⟩) (c:Xd K cd n=true) (k:U8 K (.ref f)=true) :
  dM K n st f (U0 n n (eU st) (em st) (aC st) .none kV dc pm an cd ct):=⟨p,Ee l c k⟩
abbrev BA(n:TB)(st:Stmt)(us:List Value)(ps:List TB):Prop:=∀(kV dc pm:Value) (an:Option Addr) (cd ct:Value),Z3 (U0 n n (eU st) (em st) (aC st) .none kV dc pm an cd ct) ⟨us,[]⟩=Vd (ps.zip us)
theorem dM.b1{x:TB}(I:dM K n st f d)(h:∀u,BA n st [u] [x]:=by exact λ_ _ _ _ _ _ _=>Z):bc K d [x] []:=I.F.binds λa b c e g i us hl=>match us,hl with | [u],_=>h u a b c e g i
theorem dM.b2{x y:TB}(I:dM K n st f d)(h:∀u v,BA n st [u,v] [x,y]:=by exact λ_ _ _ _ _ _ _ _=>Z):bc K d [x,y] []:=I.F.binds λa b c e g i us hl=>match us,hl with | [u,v],_=>h u v a b c e g i
theorem dM.b3{x y z:TB}(I:dM K n st f d)(h:∀u v w,BA n st [u,v,w] [x,y,z]:=by exact λ_ _ _ _ _ _ _ _ _=>Z):bc K d [x,y,z] []:=I.F.binds λa b c e g i us hl=>match us,hl with | [u,v,w],_=>h u v w a b c e g i
theorem dM.b4{x y z t:TB}(I:dM K n st f d)(h:∀u v w r,BA n st [u,v,w,r] [x,y,z,t]:=by exact λ_ _ _ _ _ _ _ _ _ _=>Z):bc K d [x,y,z,t] []:=I.F.binds λa b c e g i us hl=>match us,hl with | [u,v,w,r],_=>h u v w r a b c e g i
theorem dM.b5{x y z t s:TB}(I:dM K n st f d)(h:∀u v w r q,BA n st [u,v,w,r,q] [x,y,z,t,s]:=by exact λ_ _ _ _ _ _ _ _ _ _ _=>Z):bc K d [x,y,z,t,s] []:=I.F.binds λa b c e g i us hl=>match us,hl with | [u,v,w,r,q],_=>h u v w r q a b c e g i
end
theorem ah{X:Cx}{st:Stmt}{rest:List Stmt}{t u:TS}(h1:QS X st t)(h2:dG X rest u):dG X (st::rest) (let Uq:=u;Ix t Uq):=CO h1 h2
def NM(K:Sy)(a b:Addr):It:=
 ⟨λi H=>∃xs ys x y,bu K H a xs/\bV K H b ys/\xs[i]?=some x/\ys[i]?=some y,
  λi H v H'=>∃p x y,H p=none/\v=.ref p/\H'=aO H p (.tup [x,y])/\(∀xs,bu K H a xs->xs[i]?=some x)/\∀ys,bV K H b ys->ys[i]?=some y,
  λi H=>∃xs ys,bu K H a xs/\bV K H b ys/\(xs.length≤i∨ys.length≤i)⟩
def Qx(z TI TO i1 i2 a b:Addr)(i:Nat)(h:SY):Prop:=IsZip h z TI TO .none/\aa7 h TI (.ref i1) (.ref i2)/\(∃u v,aa7 h TO u v)/\h.IsListIter i1 a i/\h.IsTupleIter i2 b i
abbrev LX(h:SY)(a:Addr):SY:=h.push { cls:=.type "list_iterator",data:=.fields #[.ref a,.int 0 0]}
abbrev LV(h:SY)(a b:Addr):SY:=(LX h a).push { cls:=.type "tuple_iterator",data:=.fields #[.ref b,.int 0 0]}
abbrev LS(h:SY)(a b:Addr):SY:=(LV h a b).push { cls:=.type "tuple",data:=.seq #[.ref h.objs.size,.ref (LX h a).objs.size]}
abbrev Ou(h:SY)(a b:Addr):SY:=(LS h a b).push { cls:=.type "tuple",data:=.seq #[.none,.none]}
abbrev QV(h:SY)(a b:Addr):SY:=(Ou h a b).push { cls:=.type "zip",data:=.fields #[.none,.bool false,.bool false,.ref (LV h a b).objs.size,.ref (LS h a b).objs.size]}
def O3(K:Sy)(ta:TA):TI:=λσ H R=>ta σ H λvs H1=>∃a b,vs=[.ref a,.ref b]/\(∃xs,bu K H1 a xs)/\(∃ys,bV K H1 b ys)/\R (NM K a b) H1
def NN(K:Sy)(a b:Addr):It:=
 ⟨λi H=>∃xs ys x y,bu K H a xs/\bu K H b ys/\xs[i]?=some x/\ys[i]?=some y,
  λi H v H'=>∃p x y,H p=none/\v=.ref p/\H'=aO H p (.tup [x,y])/\(∀xs,bu K H a xs->xs[i]?=some x)/\∀ys,bu K H b ys->ys[i]?=some y,
  λi H=>∃xs ys,bu K H a xs/\bu K H b ys/\(xs.length≤i∨ys.length≤i)⟩
def Qy(z TI TO i1 i2 a b:Addr)(i:Nat)(h:SY):Prop:=IsZip h z TI TO .none/\aa7 h TI (.ref i1) (.ref i2)/\(∃u v,aa7 h TO u v)/\h.IsListIter i1 a i/\h.IsListIter i2 b i
abbrev LY(h:SY)(a:Addr):SY:=h.push { cls:=.type "list_iterator",data:=.fields #[.ref a,.int 0 0]}
abbrev LW(h:SY)(a b:Addr):SY:=(LY h a).push { cls:=.type "list_iterator",data:=.fields #[.ref b,.int 0 0]}
abbrev LU(h:SY)(a b:Addr):SY:=(LW h a b).push { cls:=.type "tuple",data:=.seq #[.ref h.objs.size,.ref (LY h a).objs.size]}
abbrev Ov(h:SY)(a b:Addr):SY:=(LU h a b).push { cls:=.type "tuple",data:=.seq #[.none,.none]}
abbrev QX(h:SY)(a b:Addr):SY:=(Ov h a b).push { cls:=.type "zip",data:=.fields #[.none,.bool false,.bool false,.ref (LW h a b).objs.size,.ref (LU h a b).objs.size]}
def O4(K:Sy)(ta:TA):TI:=λσ H R=>ta σ H λvs H1=>∃a b,vs=[.ref a,.ref b]/\(∃xs,bu K H1 a xs)/\(∃ys,bu K H1 b ys)/\R (NN K a b) H1
section
variable {prog:Tx}{w:T9}{A:TV}{E:Value->SH->Prop}
end
section
variable {prog:Tx}{w:T9}{A:TV}{E:Value->SH->Prop}{s:SH}
end
structure NH(K:Sy)(H:Hp)(ys:List V)(kvs:List (List cW×V)):Prop where
 len:ys.length=kvs.length
 row:∀(i:Nat) (kv:List cW×V),kvs[i]?=some kv->∃r b,ys[i]?=some (.ref r)/\bV K H r [.ref b,kv.2]/\H b=some (.tup (kv.1.map kV))
 nd:(kvs.map (·.1)).Nodup
def OO(K:Sy):List V->Hp->VK->Prop:=λvs H Q=>∃(p:Addr) (ob:UU) (ys:List V) (kvs:List (List cW×V)),vs=[.ref p]/\H p=some (.frz ob (.tup ys))/\ob.dict=none/\NH K H ys kvs/\∀l,H l=none->Q (.ref l) (aO H l (.dT kvs))
def P9(K:Sy):List V->Hp->VK->Prop:=λvs H Q=>∃(p:Addr) (ys:List V),vs=[.ref p]/\bu K H p ys/\∀(l:Addr) (ob:UU),H l=none->ob.dict=none->Q (.ref l) (aO H l (.frz ob (.tup ys)))
theorem qD{β:Type}{K:Sy}{J:It}{H:Hp}{D:Addr}{n:Nat}{P₀:Nat->V->Hp->Prop}{P:Hp->V->β->Prop}(wk:Io J H n P₀)(f:Nat->β){src:List (Option Nat)}{σ:L2.St}{g:TG}{tt:TT}{te:TE}{Q:Hp->Prop}
  (mono:∀H H' v d,aR K H H'->P H v d->P H' v d) (hD:H D=none) (hn:n≤1000)
  (turn:∀(i:Nat) (x:V) (H':Hp),i<n->aP H H'->P₀ i x H'->∀(R:VK) (E:Hp->Prop),(∀v H'',aP H' H''->P H'' v (f i)->R v H'')→
   g x (fm src σ) H' λσ2 H2=>ii (fm src σ) σ2/\tt σ2 H2 λok H3=>if ok=true then te σ2 H3 R else E H3)
  (fin:∀H' ys,aP H H'->H' D=some (.lst ys)->cH (P H') ys ((SC n).map f)->Q H') :
  N3 J D H src σ g tt te Q:=by
 refine⟨λi m ys H'=>i≤n/\m=n-i/\H' D=some (.lst ys)/\aP H H'/\cH (P H') ys ((SC i).map f),⟨_,S8 _,Z,ai,aw hD _,.nil⟩,?_⟩;rintro i m ys H1 ⟨hi,rfl,d1,s1,al1⟩;by_cases hix:i<n
 ·refine .inr ⟨wk.go i H1 hix s1,λx H2 y=>?_⟩;obtain⟨s2,p⟩:=wk.yld i H1 x H2 hix s1 y;refine turn i x H2 hix (s1.trans s2) p _ _ λv H3 s3 p3=>?_
  have d3:H3 D=some (.lst ys):=s3 _ _ (s2 _ _ d1);have tm:aR K H1 (aO H3 D (.lst (ys++[v]))):=(aR.same (s2.trans s3)).trans (aR.up d3 _);refine⟨d3,bi (by rw[al1.len,SE,TJ];omega),n-(i+1),by omega,hix,Z,ai,λb o q=>?_,?_⟩
  ·rw[aA (aU q hD)];exact s3 _ _ (s2 _ _ (s1 _ _ q))
  ·rw[Ua,Ub];exact(al1.mono λv d p=>mono _ _ _ _ tm p).snoc (mono _ _ _ _ (aR.up d3 _) p3)
 ·have e:i=n:=by omega
  subst e;exact .inl ⟨wk.stop H1 s1,fin H1 ys s1 d1 al1⟩
section
variable {X:Cx}{K:Sy}
end
section
set_option autoImplicit true
set_option relaxedAutoImplicit true
theorem ff(he:QE X e ta)(hb:Vz e f X.env (eval e X.env)=eval e X.env):QE X (.Attribute e f pos) (Me X.K ta f):=⟨JU he.p hb⟩
theorem sj(ha:QE X o ta)(hv:QE X value tv)(hs:V1 value (some (.Attribute o f pos')) pos.line X.env=Vd false):QS X (.Assign [.Attribute o f pos'] value pos) (Mx X.K ta tv f):=⟨JG ha.p hv.p hs⟩
theorem zT(ha:QE X o ta)(hv:QE X value tv)(hop:Lr X op rd):QS X (.AugAssign (.Attribute o f tpos) op value pos) (yk X.K ta tv rd f):=⟨zY ha.p hv.p hop⟩
theorem Fw{pl:Sem Bool}(he:QE X o ta)(c:xP X.K C)(hm:vH X.K C m f)(F:bQ X.prog X.w X.K X.mg X.base CX k f fd ps sp)(hr:dX k X.A)(hb:bc X.K fd ps ds)(hd:bP dvs ds)(hx:fZ CX X E)(ha:QA X (e::es) t)(hst:SX (e::es) X.env=(false,eval e X.env)::SX es X.env:=by rfl)(hpl:(VD pos (SX es X.env)).any (·.1)=false:=by rfl) (ht:eval (.Call (.Attribute o m apos) (e::es) [] pos) X.env=(do
   let ov ←eval o X.env
   YF apos.atName
   let (f,first) ←holding [ov] (Yt ov m pl)
   Z4 pos f first (VD pos (SX (e::es) X.env)) (Xw pos (V5 [] X.env))):=by rfl):QE X (.Call (.Attribute o m apos) (e::es) [] pos) (yc C m sp dvs E ta t):=⟨FX he.p c hm F hr hb hd hx ha.p hst hpl ht⟩
theorem CV{pl:Sem Bool}(he:QE X o ta)(c:xP X.K C)(hm:vH X.K C m f)(F:bQ X.prog X.w X.K X.mg X.base CX k f fd ps sp)(hr:dX k X.A)(hb:bc X.K fd ps ds)(hd:bP dvs ds)(hx:fZ CX X E) (ht:eval (.Call (.Attribute o m apos) [] [] pos) X.env=(do
   let ov ←eval o X.env
   YF apos.atName
   let (f,first) ←holding [ov] (Yt ov m pl)
   Z4 pos f first (VD pos (SX [] X.env)) (Xw pos (V5 [] X.env))):=by rfl):QE X (.Call (.Attribute o m apos) [] [] pos) (yc C m sp dvs E ta zF):=⟨Dg he.p c hm F hr hb hd hx ht⟩
theorem CW(M:Mk X.K C f)(F:bQ X.prog X.w X.K X.mg X.base CX k f fd ps sp)(hr:dX (k+1) X.A)(hg:Gl X x)(hm:X.mg x=some (.ref C))(hb:bc X.K fd ps ds)(hd:bP dvs ds)(hx:fZ CX X E)(hdb:(x==("__debug__" : TB))=false:=by decide):QE X (.Call (.Name x p) [] [] pos) (Hg C sp dvs E zF):=⟨Dh M F hr hg hm hb hd hx hdb⟩
end
structure EV(K:Sy)(C:Addr)(n q:TB)(st:Stmt)(f:Addr)(d:SI):Prop where
 p:Uh K (.ref C) n=some (some (.ref f))
 fn:XS K (.ref f)=true
 F:dN K n q st f d
section
variable {K:Sy}{C:Addr}{n q:TB}{st:Stmt}{f:Addr}{d:SI}
theorem isM{oc:Value}{od an:Option Addr}{sl:Array (Option Value)}{kV dc pm cd ct:Value}(p:Uh K (.ref C) n=some (some (.ref f)))(fn:XS K (.ref f)=true)
  (l:K.lookup f=some ⟨oc,od,.func (U0 n q (eU st) (em st) (aC st) .none kV dc pm an cd ct),sl⟩) (c:Xd K cd q=true) (k:U8 K (.ref f)=true) :
  EV K C n q st f (U0 n q (eU st) (em st) (aC st) .none kV dc pm an cd ct):=⟨p,fn,Ee l c k⟩
theorem EV.meth(I:EV K C n q st f d):vH K C n f:=⟨I.p,I.fn,I.F.kp⟩
abbrev BM(n q:TB)(st:Stmt)(us:List Value)(ps:List TB):Prop:=∀(kV dc pm:Value) (an:Option Addr) (cd ct:Value),Z3 (U0 n q (eU st) (em st) (aC st) .none kV dc pm an cd ct) ⟨us,[]⟩=Vd (ps.zip us)
theorem EV.b1{x:TB}(I:EV K C n q st f d)(h:∀u,BM n q st [u] [x]:=by exact λ_ _ _ _ _ _ _=>Z):bc K d [x] []:=I.F.binds λa b c e g i us hl=>match us,hl with | [u],_=>h u a b c e g i
theorem EV.b3{x y z:TB}(I:EV K C n q st f d)(h:∀u v w,BM n q st [u,v,w] [x,y,z]:=by exact λ_ _ _ _ _ _ _ _ _=>Z):bc K d [x,y,z] []:=I.F.binds λa b c e g i us hl=>match us,hl with | [u,v,w],_=>h u v w a b c e g i
end
def EF:XK:=λ_ _ _=>False
section
variable {X:Cx}{pos:Wh}
def ML(K:Sy):V->V->Hp->VK->Prop:=λx y H Q=>∃(p:Addr) (xs:List V) (i:Nat) (v:V),x=.ref p/\y=.int (i:Nat)/\bu K H p xs/\xs[i]?=some v/\Q v H
theorem Au:Li X (ML X.K):=by
 intro pins s σ H o i ov iv Q I ro ri h;obtain⟨p,xs,n,v,rfl,rfl,hq,he,q⟩:=h
 cases ro
 obtain⟨t,rfl⟩:=ri;obtain⟨its,r,pl,hz⟩:=I.list hq;obtain⟨w,ew,rw'⟩:=r.get he;have hl:=r.length;have hn:=ma;have hi:=(SN.mp he).1;exact wpAny_getItem_list pl.isList (by omega) (by omega) (by simpa using ew) ⟨v,H,I,rw',q⟩
theorem Fu{o i e:TW}{to ti te:TE}{tget:V->V->Hp->VK->Prop}{tip:Ip}{tset:xB}{op:Zb}{tpos:Wh}(ho:QE X o to)(hi:QE X i ti)(hg:Li X tget)(he:QE X e te)(hp:LO X op tip)(hs:EJ X tset)
  (ha:∀ov iv new,augStore i ov iv new=(do holding [new,ov,iv] (ZW ov iv new);release [new,ov,iv] [];Vd .next):=by intros;rfl):QS X (.AugAssign (.Subscript o i tpos) op e pos) (Hm to ti te tget tip tset):=⟨FI ho.p hi.p hg he.p hp hs ha⟩
end
end B
local macro_rules
 | `(tactic| nofun)=>`(tactic| (extract_lets +lift;try dsimp -zeta -zetaDelta only[L2.Cx.nox,L2.Cx.wish,L2.bY]))
namespace My
open PySem L2 B PyProof.Rows
theorem cM{X:Cx}{pos:Wh}(i:Nat){x:TB}{e:TW}{te:TE}{pos':Wh}(hN:X.N.Nodup)(he:QE X e te)(hi:X.N[i]?=some x:=by rfl)(hx:AT X.env.scope x:=by first|exact To Z|exact Tn Z)(hs:V1 e (some (.Name x pos')) pos.line X.env=Vd false:=by rfl)(hf:X.fn x=true∨X.env.scope.names.lookup x=some .local:=by first|exact .inl Z|exact .inr Z|assumption):QS X (.Assign [.Name x pos'] e pos) (uy te (mM i)):=Ju hN hi hx he hs hf
theorem eD{N P:List TB}{sc:Wr}(a:sc.kind=.function:=by rfl)(b:sc.isCoroutine=false:=by rfl)(c:sc.isGenerator=false:=by rfl)(d:N.Nodup:=by decide +kernel)(e:N.take P.length=P:=by rfl)(f:∀x∈P,sc.names.lookup x=some .local∨sc.names.lookup x=some .cell:=by decide +kernel)(g:∀y∈sc.names,y.2≠.free:=by decide +kernel):aL N P sc:=⟨a,b,c,d,e,f,g⟩
theorem cr{X:Cx}{k j:Nat}{f:Addr}{fd:SI}{ps:List TB}{sp:Sp}{x:TB}{p pos:Wh}{e:TW}{es:List TW}{t:TA}(F:bQ X.prog X.w X.K X.mg X.base dQ k f fd ps sp)(hr:dX j X.A)(hm:X.mg x=some (.ref f))(hk:U8 X.K (.ref f)=true)(hb:bc X.K fd ps [])(ha:QA X (e::es) t)(hl:k≤j:=by decide)(hg:Gl X x:=by rfl)(hdb:(x==("__debug__" : TB))=false:=by decide)(he:SX (e::es) X.env=(false,eval e X.env)::SX es X.env:=by rfl)(hpl:(VD pos (SX es X.env)).any (·.1)=false:=by rfl):QE X (.Call (.Name x p) (e::es) [] pos) (Bb sp [] E0 t):=gh F (hr.mono hl) hg hm hk hb .nil iQ ha hdb he hpl
theorem b8{X:Cx}{a b:TW}{ta tb:TE}{pos:Wh}{r:R2}(hr:zn X r)(ha:QE X a ta)(hb:QE X b tb)(hs:ud b:=by exact λ_ _=>Z):QE X (.Subscript a b pos) (E4 r ta tb):=cO hr ha hb hs
theorem Sj{K:Sy}{x qual:TB}{st:Stmt}{f:Addr}{fd:SI}{ps:List TB}(F:dN K x qual st f fd) (h:∀(kV doc pm:Value) (an:Option Addr) (cdv ct:Value) (us:List Value),us.length=ps.length->Z3 (U0 x qual (eU st) (em st) (aC st) .none kV doc pm an cdv ct) ⟨us,[]⟩=Vd (ps.zip us):=by
 intro _ _ _ _ _ _ us hl
 match us,hl with
 | [],h2=>first|rfl | (simp at h2)
 | [_],h2=>first|rfl | (simp at h2)
 | [_,_],h2=>first|rfl | (simp at h2)
 | [_,_,_],h2=>first|rfl | (simp at h2)
 | [_,_,_,_],h2=>first|rfl | (simp at h2)
 |_::_::_::_::_::_,h2=>simp at h2):bc K fd ps []:=F.binds h
def top(i:Nat):Stmt:=PySem.Challenge.pw_paceplan_k70_whole_bills_of_keepers.main.body.getD i (.Pass ⟨0,0,0,0⟩)
abbrev Cb:Stmt:=top 1
abbrev CC:Stmt:=top 2
abbrev Jc:Stmt:=top 3
abbrev Jk:Stmt:=top 14
abbrev Ca:Stmt:=top 15
abbrev Jj:Stmt:=top 16
abbrev BW:Stmt:=top 17
abbrev BQ:Stmt:=top 18
abbrev BV:Stmt:=top 19
abbrev BU:Stmt:=top 20
abbrev BP:Stmt:=top 21
abbrev BZ:Stmt:=top 22
abbrev B2:Stmt:=top 23
abbrev BY:Stmt:=top 24
abbrev BS:Stmt:=top 25
abbrev CB:Stmt:=top 26
abbrev B1:Stmt:=top 30
abbrev Co:Stmt:=top 31
abbrev CA:Stmt:=top 32
abbrev B9:Stmt:=top 33
abbrev Jb:Stmt:=top 34
abbrev B8:Stmt:=top 35
abbrev CH:Stmt:=top 37
abbrev BO:Stmt:=top 38
abbrev Ji:Stmt:=top 39
abbrev B7:Stmt:=top 40
abbrev BX:Stmt:=top 41
abbrev Jg:Stmt:=top 42
abbrev CG:Stmt:=top 43
abbrev Jf:Stmt:=top 45
abbrev B6:Stmt:=top 46
abbrev Cn:Stmt:=top 47
abbrev BR:Stmt:=top 48
abbrev Cu:Stmt:=top 49
abbrev Je:Stmt:=top 51
abbrev Ct:Stmt:=top 52
abbrev Cm:Stmt:=top 54
abbrev Jh:Stmt:=top 56
abbrev Ck:Stmt:=top 58
abbrev Cs:Stmt:=top 59
abbrev Cr:Stmt:=top 60
abbrev BN:Stmt:=top 61
abbrev Cz:Stmt:=top 63
abbrev Cj:Stmt:=top 64
abbrev B5:Stmt:=top 65
abbrev B4:Stmt:=top 66
abbrev B3:Stmt:=top 67
abbrev Ci:Stmt:=top 68
abbrev Ch:Stmt:=top 69
abbrev Cy:Stmt:=top 70
abbrev Cg:Stmt:=top 71
abbrev Cf:Stmt:=top 72
abbrev CF:Stmt:=top 73
abbrev Cq:Stmt:=top 74
abbrev CD:Stmt:=top 75
abbrev Cp:Stmt:=top 76
abbrev Jd:Stmt:=top 77
abbrev Ce:Stmt:=top 78
abbrev Cd:Stmt:=top 79
abbrev BL:Stmt:=top 80
abbrev Cw:Stmt:=tU (top 53) 0
abbrev Cv:Stmt:=tU (top 53) 1
abbrev Cc:Stmt:=tU (top 53) 2
set_option genInjectivity false in
structure Ad where
 a_Q39:Addr
 d_Q39:SI
 a_Q14:Addr
 d_Q14:SI
 a_Q8:Addr
 d_Q8:SI
 a_Q0:Addr
 d_Q0:SI
 a_Q40:Addr
 d_Q40:SI
 a_Q1:Addr
 d_Q1:SI
 a_Q53:Addr
 d_Q53:SI
 a_Q58:Addr
 d_Q58:SI
 a_Q54:Addr
 d_Q54:SI
 a_Q55:Addr
 d_Q55:SI
 a_Q59:Addr
 d_Q59:SI
 a_Q50:Addr
 d_Q50:SI
 a_Q48:Addr
 d_Q48:SI
 a_Q51:Addr
 d_Q51:SI
 a_Q56:Addr
 d_Q56:SI
 a_Q15:Addr
 d_Q15:SI
 a_Q49:Addr
 d_Q49:SI
 a_Q27:Addr
 d_Q27:SI
 a_Q16:Addr
 d_Q16:SI
 a_Q41:Addr
 d_Q41:SI
 a_Q9:Addr
 d_Q9:SI
 a_Q42:Addr
 d_Q42:SI
 a_Q10:Addr
 d_Q10:SI
 a_Q60:Addr
 d_Q60:SI
 a_Q2:Addr
 d_Q2:SI
 a_Q43:Addr
 d_Q43:SI
 a_Q52:Addr
 d_Q52:SI
 a_Q4:Addr
 d_Q4:SI
 a_Q11:Addr
 d_Q11:SI
 a_Q5:Addr
 d_Q5:SI
 a_Q44:Addr
 d_Q44:SI
 a_Q28:Addr
 d_Q28:SI
 a_Q57:Addr
 d_Q57:SI
 a_Q21:Addr
 d_Q21:SI
 a_Q6:Addr
 d_Q6:SI
 a_Q22:Addr
 d_Q22:SI
 a_Q29:Addr
 d_Q29:SI
 a_Q3:Addr
 d_Q3:SI
 a_Q30:Addr
 d_Q30:SI
 a_Q23:Addr
 d_Q23:SI
 a_Q24:Addr
 d_Q24:SI
 a_Q61:Addr
 d_Q61:SI
 a_Q17:Addr
 d_Q17:SI
 a_Q31:Addr
 d_Q31:SI
 a_Q45:Addr
 d_Q45:SI
 a_Q46:Addr
 d_Q46:SI
 a_Q47:Addr
 d_Q47:SI
 a_Q32:Addr
 d_Q32:SI
 a_Q33:Addr
 d_Q33:SI
 a_Q18:Addr
 d_Q18:SI
 a_Q34:Addr
 d_Q34:SI
 a_Q35:Addr
 d_Q35:SI
 a_Q12:Addr
 d_Q12:SI
 a_Q25:Addr
 d_Q25:SI
 a_Q13:Addr
 d_Q13:SI
 a_Q26:Addr
 d_Q26:SI
 a_Q7:Addr
 d_Q7:SI
 a_Q36:Addr
 d_Q36:SI
 a_Q37:Addr
 d_Q37:SI
 a_Q62:Addr
 d_Q62:SI
 a_Q19:Addr
 d_Q19:SI
 a_Q20:Addr
 d_Q20:SI
 a_Q38:Addr
 d_Q38:SI
 c_Keeper:Addr
 c_NOUGHT:Addr
 k_TURNS:Tok
 k_MOST_WORKS:Tok
structure eA(K:Sy)(mg:TB->Option Value)(t:Ad):Prop where
 F_Q39:dN K "is_whole" "is_whole" Cb t.a_Q39 t.d_Q39
 b_Q39:bc K t.d_Q39 ["thing"] []
 m_Q39:mg "is_whole"=some (.ref t.a_Q39)
 F_Q14:dN K "is_tuple_of" "is_tuple_of" CC t.a_Q14 t.d_Q14
 b_Q14:bc K t.d_Q14 ["thing","length"] []
 m_Q14:mg "is_tuple_of"=some (.ref t.a_Q14)
 F_Q8:dN K "is_number_of" "is_number_of" Jc t.a_Q8 t.d_Q8
 b_Q8:bc K t.d_Q8 ["thing","count"] []
 m_Q8:mg "is_number_of"=some (.ref t.a_Q8)
 F_Q0:dN K "greatest_divisor" "greatest_divisor" Jk t.a_Q0 t.d_Q0
 b_Q0:bc K t.d_Q0 ["one","other"] []
 m_Q0:mg "greatest_divisor"=some (.ref t.a_Q0)
 F_Q40:dN K "is_ratio" "is_ratio" Ca t.a_Q40 t.d_Q40
 b_Q40:bc K t.d_Q40 ["thing"] []
 m_Q40:mg "is_ratio"=some (.ref t.a_Q40)
 F_Q1:dN K "is_above_nought" "is_above_nought" Jj t.a_Q1 t.d_Q1
 b_Q1:bc K t.d_Q1 ["thing"] []
 m_Q1:mg "is_above_nought"=some (.ref t.a_Q1)
 F_Q53:dN K "ratio" "ratio" BW t.a_Q53 t.d_Q53
 b_Q53:bc K t.d_Q53 ["top","bottom"] []
 m_Q53:mg "ratio"=some (.ref t.a_Q53)
 F_Q58:dN K "plus" "plus" BQ t.a_Q58 t.d_Q58
 b_Q58:bc K t.d_Q58 ["one","other"] []
 m_Q58:mg "plus"=some (.ref t.a_Q58)
 F_Q54:dN K "minus" "minus" BV t.a_Q54 t.d_Q54
 b_Q54:bc K t.d_Q54 ["one","other"] []
 m_Q54:mg "minus"=some (.ref t.a_Q54)
 F_Q55:dN K "times" "times" BU t.a_Q55 t.d_Q55
 b_Q55:bc K t.d_Q55 ["one","other"] []
 m_Q55:mg "times"=some (.ref t.a_Q55)
 F_Q59:dN K "over" "over" BP t.a_Q59 t.d_Q59
 b_Q59:bc K t.d_Q59 ["one","other"] []
 m_Q59:mg "over"=some (.ref t.a_Q59)
 F_Q50:dN K "raised" "raised" BZ t.a_Q50 t.d_Q50
 b_Q50:bc K t.d_Q50 ["one","power"] []
 m_Q50:mg "raised"=some (.ref t.a_Q50)
 F_Q48:dN K "is_less" "is_less" B2 t.a_Q48 t.d_Q48
 b_Q48:bc K t.d_Q48 ["one","other"] []
 m_Q48:mg "is_less"=some (.ref t.a_Q48)
 F_Q51:dN K "lesser" "lesser" BY t.a_Q51 t.d_Q51
 b_Q51:bc K t.d_Q51 ["one","other"] []
 m_Q51:mg "lesser"=some (.ref t.a_Q51)
 F_Q56:dN K "total" "total" BS t.a_Q56 t.d_Q56
 b_Q56:bc K t.d_Q56 ["some"] []
 m_Q56:mg "total"=some (.ref t.a_Q56)
 F_Q15:dN K "whole_parts" "whole_parts" CB t.a_Q15 t.d_Q15
 b_Q15:bc K t.d_Q15 ["some"] []
 m_Q15:mg "whole_parts"=some (.ref t.a_Q15)
 F_Q49:dN K "is_work" "is_work" B1 t.a_Q49 t.d_Q49
 b_Q49:bc K t.d_Q49 ["thing"] []
 m_Q49:mg "is_work"=some (.ref t.a_Q49)
 F_Q27:dN K "in_window" "in_window" Co t.a_Q27 t.d_Q27
 b_Q27:bc K t.d_Q27 ["work","turn"] []
 m_Q27:mg "in_window"=some (.ref t.a_Q27)
 F_Q16:dN K "no_leanings" "no_leanings" CA t.a_Q16 t.d_Q16
 b_Q16:bc K t.d_Q16 ["count"] []
 m_Q16:mg "no_leanings"=some (.ref t.a_Q16)
 F_Q41:dN K "add_lean" "add_lean" B9 t.a_Q41 t.d_Q41
 b_Q41:bc K t.d_Q41 ["leanings","lean"] []
 m_Q41:mg "add_lean"=some (.ref t.a_Q41)
 F_Q9:dN K "all_leanings" "all_leanings" Jb t.a_Q9 t.d_Q9
 b_Q9:bc K t.d_Q9 ["count","leans"] []
 m_Q9:mg "all_leanings"=some (.ref t.a_Q9)
 F_Q42:dN K "drawn_in" "drawn_in" B8 t.a_Q42 t.d_Q42
 b_Q42:bc K t.d_Q42 ["sheet"] []
 m_Q42:mg "drawn_in"=some (.ref t.a_Q42)
 F_Q10:dN K "kept_windows" "kept_windows" CH t.a_Q10 t.d_Q10
 b_Q10:bc K t.d_Q10 ["works","left"] []
 m_Q10:mg "kept_windows"=some (.ref t.a_Q10)
 F_Q60:dN K "held" "held" BO t.a_Q60 t.d_Q60
 b_Q60:bc K t.d_Q60 ["windows","begin","end"] []
 m_Q60:mg "held"=some (.ref t.a_Q60)
 F_Q2:dN K "tightest_places" "tightest_places" Ji t.a_Q2 t.d_Q2
 b_Q2:bc K t.d_Q2 ["windows","amounts","count"] []
 m_Q2:mg "tightest_places"=some (.ref t.a_Q2)
 F_Q43:dN K "tightest" "tightest" B7 t.a_Q43 t.d_Q43
 b_Q43:bc K t.d_Q43 ["works","left"] []
 m_Q43:mg "tightest"=some (.ref t.a_Q43)
 F_Q52:dN K "layers" "layers" BX t.a_Q52 t.d_Q52
 b_Q52:bc K t.d_Q52 ["works"] []
 m_Q52:mg "layers"=some (.ref t.a_Q52)
 F_Q4:dN K "layer_density" "layer_density" Jg t.a_Q4 t.d_Q4
 b_Q4:bc K t.d_Q4 ["works","layer"] []
 m_Q4:mg "layer_density"=some (.ref t.a_Q4)
 F_Q11:dN K "layer_speeds" "layer_speeds" CG t.a_Q11 t.d_Q11
 b_Q11:bc K t.d_Q11 ["works"] []
 m_Q11:mg "layer_speeds"=some (.ref t.a_Q11)
 F_Q5:dN K "first_to_come" "first_to_come" Jf t.a_Q5 t.d_Q5
 b_Q5:bc K t.d_Q5 ["works","leanings","waiting"] []
 m_Q5:mg "first_to_come"=some (.ref t.a_Q5)
 F_Q44:dN K "order_of" "order_of" B6 t.a_Q44 t.d_Q44
 b_Q44:bc K t.d_Q44 ["works","leans"] []
 m_Q44:mg "order_of"=some (.ref t.a_Q44)
 F_Q28:dN K "deal_turn" "deal_turn" Cn t.a_Q28 t.d_Q28
 b_Q28:bc K t.d_Q28 ["works","order","left","turn","speed"] []
 m_Q28:mg "deal_turn"=some (.ref t.a_Q28)
 F_Q57:dN K "dealt" "dealt" BR t.a_Q57 t.d_Q57
 b_Q57:bc K t.d_Q57 ["works","leans","speeds"] []
 m_Q57:mg "dealt"=some (.ref t.a_Q57)
 F_Q21:dN K "least_plan" "least_plan" Cu t.a_Q21 t.d_Q21
 b_Q21:bc K t.d_Q21 ["sheet"] []
 m_Q21:mg "least_plan"=some (.ref t.a_Q21)
 F_Q6:dN K "waiting_works" "waiting_works" Je t.a_Q6 t.d_Q6
 b_Q6:bc K t.d_Q6 ["works","amounts","turn"] []
 m_Q6:mg "waiting_works"=some (.ref t.a_Q6)
 F_Q22:dN K "renumbered" "renumbered" Ct t.a_Q22 t.d_Q22
 b_Q22:bc K t.d_Q22 ["pieces","numbers"] []
 m_Q22:mg "renumbered"=some (.ref t.a_Q22)
 F_Q29:dN K "kept_plan" "kept_plan" Cm t.a_Q29 t.d_Q29
 b_Q29:bc K t.d_Q29 ["works"] []
 m_Q29:mg "kept_plan"=some (.ref t.a_Q29)
 F_Q3:dN K "pieces_in_order" "pieces_in_order" Jh t.a_Q3 t.d_Q3
 b_Q3:bc K t.d_Q3 ["plan"] []
 m_Q3:mg "pieces_in_order"=some (.ref t.a_Q3)
 F_Q30:dN K "lets_bill" "lets_bill" Ck t.a_Q30 t.d_Q30
 b_Q30:bc K t.d_Q30 ["k","one","other","thing"] []
 m_Q30:mg "lets_bill"=some (.ref t.a_Q30)
 F_Q23:dN K "left_ahead" "left_ahead" Cs t.a_Q23 t.d_Q23
 b_Q23:bc K t.d_Q23 ["works","plan","turn"] []
 m_Q23:mg "left_ahead"=some (.ref t.a_Q23)
 F_Q24:dN K "bill_ahead" "bill_ahead" Cr t.a_Q24 t.d_Q24
 b_Q24:bc K t.d_Q24 ["works","k","kept","plan","turn"] []
 m_Q24:mg "bill_ahead"=some (.ref t.a_Q24)
 F_Q61:dN K "bill" "bill" BN t.a_Q61 t.d_Q61
 b_Q61:bc K t.d_Q61 ["works","k","plan"] []
 m_Q61:mg "bill"=some (.ref t.a_Q61)
 F_Q17:dN K "_law_cell_at" "_law_cell_at" Cz t.a_Q17 t.d_Q17
 b_Q17:bc K t.d_Q17 ["_law_script","_law_k"] []
 m_Q17:mg "_law_cell_at"=some (.ref t.a_Q17)
 F_Q31:dN K "_law_draws" "_law_draws" Cj t.a_Q31 t.d_Q31
 b_Q31:bc K t.d_Q31 ["_law_cell","_law_many"] []
 m_Q31:mg "_law_draws"=some (.ref t.a_Q31)
 F_Q45:dN K "_law_take" "_law_take" B5 t.a_Q45 t.d_Q45
 b_Q45:bc K t.d_Q45 ["_law_tape","_law_many"] []
 m_Q45:mg "_law_take"=some (.ref t.a_Q45)
 F_Q46:dN K "_law_made" "_law_made" B4 t.a_Q46 t.d_Q46
 b_Q46:bc K t.d_Q46 ["_law_top","_law_bottom"] []
 m_Q46:mg "_law_made"=some (.ref t.a_Q46)
 F_Q47:dN K "_law_plus" "_law_plus" B3 t.a_Q47 t.d_Q47
 b_Q47:bc K t.d_Q47 ["_law_one","_law_other"] []
 m_Q47:mg "_law_plus"=some (.ref t.a_Q47)
 F_Q32:dN K "_law_minus" "_law_minus" Ci t.a_Q32 t.d_Q32
 b_Q32:bc K t.d_Q32 ["_law_one","_law_other"] []
 m_Q32:mg "_law_minus"=some (.ref t.a_Q32)
 F_Q33:dN K "_law_times" "_law_times" Ch t.a_Q33 t.d_Q33
 b_Q33:bc K t.d_Q33 ["_law_one","_law_other"] []
 m_Q33:mg "_law_times"=some (.ref t.a_Q33)
 F_Q18:dN K "_law_is_less" "_law_is_less" Cy t.a_Q18 t.d_Q18
 b_Q18:bc K t.d_Q18 ["_law_one","_law_other"] []
 m_Q18:mg "_law_is_less"=some (.ref t.a_Q18)
 F_Q34:dN K "_law_total" "_law_total" Cg t.a_Q34 t.d_Q34
 b_Q34:bc K t.d_Q34 ["_law_some"] []
 m_Q34:mg "_law_total"=some (.ref t.a_Q34)
 F_Q35:dN K "_law_works" "_law_works" Cf t.a_Q35 t.d_Q35
 b_Q35:bc K t.d_Q35 ["_law_tape","_law_most","_law_turns"] []
 m_Q35:mg "_law_works"=some (.ref t.a_Q35)
 F_Q12:dN K "_law_any_plan" "_law_any_plan" CF t.a_Q12 t.d_Q12
 b_Q12:bc K t.d_Q12 ["_law_tape","_law_works_here"] []
 m_Q12:mg "_law_any_plan"=some (.ref t.a_Q12)
 F_Q25:dN K "_law_raised" "_law_raised" Cq t.a_Q25 t.d_Q25
 b_Q25:bc K t.d_Q25 ["_law_one","_law_many"] []
 m_Q25:mg "_law_raised"=some (.ref t.a_Q25)
 F_Q13:dN K "_law_is_ratio" "_law_is_ratio" CD t.a_Q13 t.d_Q13
 b_Q13:bc K t.d_Q13 ["_law_thing"] []
 m_Q13:mg "_law_is_ratio"=some (.ref t.a_Q13)
 F_Q26:dN K "_law_billed" "_law_billed" Cp t.a_Q26 t.d_Q26
 b_Q26:bc K t.d_Q26 ["_law_k","_law_one","_law_other","_law_thing"] []
 m_Q26:mg "_law_billed"=some (.ref t.a_Q26)
 F_Q7:dN K "_law_speeds_of" "_law_speeds_of" Jd t.a_Q7 t.d_Q7
 b_Q7:bc K t.d_Q7 ["_law_plan"] []
 m_Q7:mg "_law_speeds_of"=some (.ref t.a_Q7)
 F_Q36:dN K "_law_power" "_law_power" Ce t.a_Q36 t.d_Q36
 b_Q36:bc K t.d_Q36 ["_law_k","_law_speeds"] []
 m_Q36:mg "_law_power"=some (.ref t.a_Q36)
 F_Q37:dN K "_law_right" "_law_right" Cd t.a_Q37 t.d_Q37
 b_Q37:bc K t.d_Q37 ["_law_works_here","_law_k","_law_kept_speeds","_law_plan"] []
 m_Q37:mg "_law_right"=some (.ref t.a_Q37)
 F_Q62:dN K "law" "law" BL t.a_Q62 t.d_Q62
 b_Q62:bc K t.d_Q62 ["_law_script"] []
 m_Q62:mg "law"=some (.ref t.a_Q62)
 F_Q19:dN K "__init__" "Keeper.__init__" Cw t.a_Q19 t.d_Q19
 b_Q19:bc K t.d_Q19 ["self"] []
 K_Keeper:L2.Mk K t.c_Keeper t.a_Q19
 F_Q20:dN K "come" "Keeper.come" Cv t.a_Q20 t.d_Q20
 b_Q20:bc K t.d_Q20 ["self","last","amount"] []
 M_Keeper_come:vH K t.c_Keeper "come" t.a_Q20
 F_Q38:dN K "go" "Keeper.go" Cc t.a_Q38 t.d_Q38
 b_Q38:bc K t.d_Q38 ["self"] []
 M_Keeper_go:vH K t.c_Keeper "go" t.a_Q38
 m_Keeper:mg "Keeper"=some (.ref t.c_Keeper)
 cl_Keeper:xP K t.c_Keeper
 n_Keeper_turn:eY K t.c_Keeper "turn"
 n_Keeper_known:eY K t.c_Keeper "known"
 n_Keeper_rest:eY K t.c_Keeper "rest"
 n_Keeper_done:eY K t.c_Keeper "done"
 m_NOUGHT:mg "NOUGHT"=some (.ref t.c_NOUGHT)
 q_NOUGHT:∀H,bV K H t.c_NOUGHT [.int (0),.int (1)]
 m_TURNS:mg "TURNS"=some (.int (24) t.k_TURNS)
 m_MOST_WORKS:mg "MOST_WORKS"=some (.int (20) t.k_MOST_WORKS)
 z_abs:mg "abs"=none
 z_all:mg "all"=none
 z_any:mg "any"=none
 z_bool:mg "bool"=none
 z_enumerate:mg "enumerate"=none
 z_int:mg "int"=none
 z_isinstance:mg "isinstance"=none
 z_len:mg "len"=none
 z_list:mg "list"=none
 z_max:mg "max"=none
 z_min:mg "min"=none
 z_range:mg "range"=none
 z_repr:mg "repr"=none
 z_sum:mg "sum"=none
 z_tuple:mg "tuple"=none
inductive fo(K_:Sy)(vs:List V)(H:Hp)(Q:VK):Prop where
 |mk (a b:Int) (h0_:vs=[.int a,.int b]) (h1_:Q (.int (S7 a b:Nat)) H):fo K_ vs H Q
def jw(K_:Sy):Sp:=λvs H Q _=>fo K_ vs H Q
theorem DU(hB:0<B)(hb:0<b)(h1:B∣(84*5354228880^23))(h2:b∣(84*5354228880^23)):0<B*(b/(S7 B b:Int))/\B*(b/(S7 B b:Int))∣(84*5354228880^23)/\B∣B*(b/(S7 B b:Int))/\b∣B*(b/(S7 B b:Int)):=by
 obtain⟨m,rfl⟩:=Uc (UQ hB);obtain⟨n,rfl⟩:=Uc (UQ hb);have e:(m:Int)*((n:Int)/(S7 m n:Int))=((Nat.lcm m n:Nat):Int):=by
  show(m:Int)*((n:Int)/((Nat.gcd m n:Nat):Int))=_;rw[←Int.natCast_ediv,←XH];unfold Nat.lcm;rw[Nat.mul_div_assoc _ (Nat.gcd_dvd_right m n)]
 rw[e];have p:=Nat.lcm_pos (show 0<m by omega) (show 0<n by omega);refine⟨by omega,?_,UC.mpr (Nat.dvd_lcm_left m n),UC.mpr (Nat.dvd_lcm_right m n)⟩;have a1:m∣(84*5354228880^23):=UC.mp h1;have a2:n∣(84*5354228880^23):=UC.mp h2;exact UC.mpr (Nat.lcm_dvd a1 a2)
theorem jy(h:H a=none)(o:HO):aP H (aO H a o)/\aO H a o a=some o:=⟨aw h o,ai⟩
theorem cH.ofAt{α:Type}{P:V->α->Prop}:∀{xs:List V} {ds:List α},xs.length=ds.length->(∀(i:Nat) (x:V) (d:α),xs[i]?=some x->ds[i]?=some d->P x d)->cH P xs ds
 | [],[],_,_=>.nil
 | [],_::_,h,_=>nomatch h
 |_::_,[],h,_=>nomatch h
 |x::_,d::_,h,k=>.cons (k 0 x d Z Z) (cH.ofAt (Nat.succ.inj h) λi y e a b=>k (i+1) y e a b)
theorem dC{α β:Type}{K:Sy}{J:It}{H:Hp}{D:Addr}{xs:List V}{ds:List α}{P:Hp->V->β->Prop}{f:α->β}{src:List (Option Nat)}{σ:L2.St}{g:TG}{tt:TT}{te:TE}{Q:Hp->Prop}
  (mono:∀H H' v d,aR K H H'->P H v d->P H' v d) (hD:H D=none) (wk:Io J H xs.length (λi x _=>xs[i]?=some x)) (hl:xs.length=ds.length) (hn:ds.length≤1000)
  (turn:∀(i:Nat) (x:V) (d:α) (H':Hp),xs[i]?=some x->ds[i]?=some d->aP H H'->∀(R:VK) (E:Hp->Prop),(∀v H'',aP H' H''->P H'' v (f d)->R v H'')→
   g x (fm src σ) H' λσ2 H2=>ii (fm src σ) σ2/\tt σ2 H2 λok H3=>if ok=true then te σ2 H3 R else E H3)
  (fin:∀H' ys,aP H H'->H' D=some (.lst ys)->cH (P H') ys (ds.map f)->Q H') :
  N3 J D H src σ g tt te Q:=
 qD (K:=K) (P:=λH v i=>∀d,ds[i]?=some d->P H v (f d)) wk (λi:Nat=>i) (λ_ _ _ _ t h d e=>mono _ _ _ _ t (h d e)) hD (by omega)
  (λi x H' hi s p R E kR=>by
   have hd:ds[i]?=some (ds[i]'(by omega)):=Sz _;exact turn i x _ H' p hd s R E λv H'' s' h=>kR v H'' s' λd' e=>by rw[hd] at e;cases e;exact h)
  λH' ys s e al=>fin H' ys s e (cH.ofAt (by have:=al.len;rw[SE,TJ] at this;rw[SE];omega) λi y d a b=>by
   obtain⟨j,c,h⟩:=al.at a;rw[SU] at b c;obtain⟨d',e',rfl⟩:=TQ.mp b;obtain⟨j',e2,rfl⟩:=TQ.mp c;rw[VY (by have:=(SN.mp e').1;omega)] at e2
   cases e2
   exact h d' e')
def pV(H:Hp)(Q:VK)(r:R):Prop:=∀p,H p=none->Q (.ref p) (aO H p (.tup [.int r.1,.int r.2]))
def L4(K:Sy)(H:Hp)(Q:VK)(r:R):Prop:=∀(v:V) (H':Hp),aP H H'->RV K H' v r->Q v H'
theorem nR(K:Sy)(h:∀(p:Addr) (H':Hp),aP H H'->RV K H' (.ref p) r->Q (.ref p) H'):pV H Q r:=λp hp=>h p _ (aw hp _) (RV.of ai)
inductive qW(K_:Sy)(vs:List V)(H:Hp)(Q:VK):Prop where
 |mk (a b:Int) (h0_:vs=[.int a,.int b]) (h1_:0<b) (h2_:b.natAbs<2^8990) (h3_:pV H Q (d6 a b)):qW K_ vs H Q
def Bv(K_:Sy):Sp:=λvs H Q _=>qW K_ vs H Q
inductive vI(K:Sy)(vs:List V)(H:Hp)(Q:VK):Prop where
 |mk (v w:V) (r q:R) (n m:Nat) (h0_:vs=[v,w]) (h1_:RV K H v r) (h2_:RV K H w q) (h3_:Wf n r) (h4_:Wf m q) (h5_:(n≤8900/\m≤8900)) (h6_:pV H Q (cP r q)):vI K vs H Q
def Fb(K:Sy):Sp:=λvs H Q _=>vI K vs H Q
inductive qV(K:Sy)(vs:List V)(H:Hp)(Q:VK):Prop where
 |mk (v w:V) (r q:R) (n m:Nat) (h0_:vs=[v,w]) (h1_:RV K H v r) (h2_:RV K H w q) (h3_:Wf n r) (h4_:Wf m q) (h5_:(n≤8900/\m≤8900)) (h6_:pV H Q (bA r q)):qV K vs H Q
def Bu(K:Sy):Sp:=λvs H Q _=>qV K vs H Q
def Lf(K:Sy)(H:Hp)(a:Addr)(xs:List V):Prop:=bu K H a xs∨bV K H a xs
inductive qU(K:Sy)(vs:List V)(H:Hp)(Q:VK):Prop where
 |mk (a:Addr) (xs:List V) (rs:List R) (n D:Nat) (h0_:vs=[.ref a]) (h1_:Lf K H a xs) (h2_:Oq K H xs rs) (h3_:(∀r∈rs,Wf n r/\r.2∣(D:Int))) (h4_:0<D) (h5_:D<2^n) (h6_:rs.length≤64) (h7_:n≤4000) (h8_:∀(v':V) (H':Hp),aP H H'->RV K H' v' (eN rs)->Q v' H'):qU K vs H Q
def Bt(K:Sy):Sp:=λvs H Q _=>qU K vs H Q
theorem zg{D i n:Nat}{r:R}(h:∀p∈ps,p.1∣(D:Int))(hr:r.2∣(D:Int)):∀p∈gz ps r.2 r.1,p.1∣(D:Int):=λp hp=>by
 rcases(lB ps r.2 r.1 p.1).mp (SR.mpr ⟨p,hp,Z⟩) with z|z
 ·obtain⟨q,hq,e⟩:=SR.mp z;rw[←e];exact h q hq
 ·rw[z];exact hr
theorem Ec{D n i:Nat}(ok:mZ n i ps)(hd:∀p∈ps,p.1∣(D:Int))(hi:i≤64){q:Int×Int}(hq:q∈ps):Bq D (64*2^n) (d6 q.2 q.1):=by
 have b:=(ok.bot q hq).1;refine vB b (hd q hq) (Tu (ok.top q hq) ?_);refine Tu (Vo _ hi) (Yz _ (by omega))
theorem EE(h:Bq D (64*2^n*j) r)(hj:j≤64)(h0:0<D)(hD:D<2^n):Wf (2*n+12) r:=by
 refine h.wf h0 (Td hD (UD (by decide) (by omega))) ?_;have a:64*2^n*j≤64*2^n*64:=WD _ hj;have b:64*2^n*j*D<64*2^n*64*2^n:=TX (Vo _ a) (Nat.mul_lt_mul_of_pos_left hD (Zo (Zo (by decide) (aaI (by decide))) (by decide)));refine Td b ?_;rw[show 2*n+12=n+(n+12) by omega,Zf,Zf,show(2:Nat)^12=4096 by decide];rw[show 64*2^n*64*2^n=2^n*(2^n*4096) by rw[show(4096:Nat)=64*64 by decide];ac_rfl];exact SD _
theorem iY{a g:Int}(hg:0<g)(h:a.natAbs<2^8990):(a/g).natAbs<2^8990:=TX (gy a hg) h
theorem oV(hb:0<b)(h:b.natAbs<2^8990):((S7 a b:Nat):Int).natAbs<2^8990:=by
 have z:S7 a b≤b.natAbs:=ZG (by omega) (by have:=VP a b;exact Xl.mpr this);have e:((S7 a b:Nat):Int).natAbs=S7 a b:=WP _;omega
theorem bU{i:Int}(h:i.natAbs<2^n)(hn:n≤8990):i.natAbs<2^8990:=Td h (UD (by decide) hn)
inductive vJ(K:Sy)(vs:List V)(H:Hp)(Q:VK):Prop where
 |mk (v w:V) (r:R) (n m:Nat) (h0_:vs=[v,w]) (h1_:RV K H v r) (h2_:RV K H w ((m:Int),1)) (h3_:Wf n r) (h4_:0<m) (h5_:m≤24) (h6_:n≤2000) (h7_:L4 K H Q (bA r (1,(m:Int)))):vJ K vs H Q
def Fc(K:Sy):Sp:=λvs H Q _=>vJ K vs H Q
theorem Ky{m:Nat}(h:0<m):d6 1 (m:Int)=(1,(m:Int)):=eR (by omega) (by omega) (by simp) (by omega)
theorem JZ{m:Nat}(h:0<m)(h':m≤24):Wf 5 ((1,(m:Int)):R):=⟨by show(0:Int)<m;omega,by show(1:Int).natAbs<2^5;decide,by show((m:Int)).natAbs<32;omega,by simp⟩
theorem zc{K:Sy}{H:Hp}{xs:List V}{rs:List R}(h:cH (RV K H) xs rs):Oq K H xs rs:=⟨h.len,λi x r hx hr=>by obtain⟨d,hd,p⟩:=h.at hx;rw[hr] at hd;cases hd;exact p⟩
theorem cH.setI{α:Type}{P:V->α->Prop}{v:V}{d:α}(k:P v d):∀{xs:List V} {ds:List α} (i:Nat),cH P xs ds->cH P (xs.set i v) (ds.set i d)
 |_,_,_,.nil=>.nil
 |_,_,0,.cons _ t=>.cons k t
 |_,_,i+1,.cons h t=>.cons h (cH.setI k i t)
theorem cH.rep{α:Type}{P:V->α->Prop}{v:V}{d:α}(k:P v d):∀n:Nat,cH P (Tq n v) (Tq n d)
 |0=>.nil
 |n+1=>.cons k (cH.rep k n)
theorem lg(h:t<n):DY n (t:Int)=some t:=by
 unfold DY;simp;omega
abbrev Wk:=Nat×Nat×R
def zk(K:Sy)(H:Hp)(v:V)(w:Wk):Prop:=∃p x,v=.ref p/\bV K H p [.int w.1,.int w.2.1,x]/\RV K H x w.2.2
theorem zk.mono{K:Sy}{H H':Hp}{v:V}{w:Wk}(h:zk K H v w)(t:aR K H H'):zk K H' v w:=let ⟨p,x,e,s,r⟩:=h;⟨p,x,e,t _ _ s,r.mono t⟩
structure Lx(r:R):Prop where
 top:1≤r.1
 top':r.1≤12*r.2
 bot:1≤r.2
 dvd:r.2∣(84*5354228880^23)
 wf:Wf 760 r
structure cn(w:Wk):Prop where
 le:w.1≤w.2.1
 lt:w.2.1<24
 am:Lx w.2.2
def eW(K:Sy)(H:Hp)(v:V)(ws:List Wk):Prop:=∃p xs,v=.ref p/\bV K H p xs/\cH (zk K H) xs ws
theorem eW.mono{K:Sy}{H H':Hp}{v:V}{ws:List Wk}(h:eW K H v ws)(t:aR K H H'):eW K H' v ws:=let ⟨p,xs,e,s,a⟩:=h;⟨p,xs,e,t _ _ s,a.mono λ_ _ q=>q.mono t⟩
def bO(ls:List Nat):List V:=ls.map λn:Nat=>V.int n
def df(ws:List Wk):List Int:=ws.map λw=>w.2.2.1*(84*5354228880^23)/w.2.2.2
def fq(B:Int)(ws:List Wk):List Int:=ws.map λw=>w.2.2.1*(B/w.2.2.2)
inductive iw(K:Sy)(vs:List V)(H:Hp)(Q:VK):Prop where
 |mk (a:Addr) (xs:List V) (ws:List Wk) (h0_:vs=[.ref a]) (h1_:bu K H a xs) (h2_:cH (RV K H) xs (ws.map λw=>w.2.2)) (h3_:ws.length≤64) (h4_:(∀w∈ws,cn w)) (h5_:∀(l:Addr) (B:Int) (H':Hp),aP H H'->H l=none->0<B->B∣(84*5354228880^23)->(∀w∈ws,w.2.2.2∣B)->H' l=some (.lst ((fq B ws).map V.int))->Q (.ref l) H'):iw K vs H Q
def nS(K:Sy):Sp:=λvs H Q _=>iw K vs H Q
def im(w:Wk)(t:Nat):Bool:=decide (w.1≤t)&&decide (t≤w.2.1)
inductive jQ(K:Sy)(vs:List V)(H:Hp)(Q:VK):Prop where
 |mk (v:V) (w:Wk) (t:Nat) (h0_:vs=[v,.int t]) (h1_:zk K H v w) (h2_:Q (.bl (im w t)) H):jQ K vs H Q
def rN(K:Sy):Sp:=λvs H Q _=>jQ K vs H Q
def hX(ls:List Nat)(w:Wk):List Nat:=(SC ls.length).filter λi=>im w (ls.getD i 0)
def bZ(ls:List Nat)(w:Wk):Wn:=match hX ls w with
 | []=>none
 |x::r=>some (x,(x::r).getLast (by simp))
def xI(K:Sy)(H:Hp)(v:V):Wn->Prop
 |none=>v=.non
 |some q=>∃p,v=.ref p/\bV K H p [.int q.1,.int q.2]
theorem xI.mono{K:Sy}{H H':Hp}{v:V}{o:Wn}(h:xI K H v o)(t:aR K H H'):xI K H' v o:=by
 cases o with
 |none=>exact h
 |some q=>obtain⟨p,e,s⟩:=h;exact⟨p,e,t _ _ s⟩
inductive gQ(K:Sy)(vs:List V)(H:Hp)(Q:VK):Prop where
 |mk (v:V) (q:Addr) (ws:List Wk) (ls:List Nat) (h0_:vs=[v,.ref q]) (h1_:eW K H v ws) (h2_:ws.length≤64) (h3_:bV K H q (bO ls)) (h4_:ls.length≤24) (h5_:∀(l:Addr) (xs:List V) (H':Hp),aP H H'->H l=none->H' l=some (.lst xs)->cH (xI K H') xs (ws.map (bZ ls))->Q (.ref l) H'):gQ K vs H Q
def mT(K:Sy):Sp:=λvs H Q _=>gQ K vs H Q
inductive vK(K:Sy)(vs:List V)(H:Hp)(Q:VK):Prop where
 |mk (l:Addr) (xs:List V) (os:List Wn) (p:Pl) (h0_:vs=[.ref l,.int p.1,.int p.2]) (h1_:bu K H l xs) (h2_:cH (xI K H) xs os) (h3_:os.length≤64) (h4_:∀(D:Addr) (H':Hp),aP H H'->H D=none->H' D=some (.lst (bO (c7 os p)))->Q (.ref D) H'):vK K vs H Q
def Ff(K:Sy):Sp:=λvs H Q _=>vK K vs H Q
def jt(as:List Int)(i:Nat):Int:=as.getD i 0
theorem Gr{os:List Wn}(hb:∀x∈as,0≤x/\x≤(1008*5354228880^23))(hn:os.length≤64)(q:Pl):0≤dJ os (jt as) q/\dJ os (jt as) q≤(64512*5354228880^23):=by
 have h0:∀i,0≤jt as i/\jt as i≤(1008*5354228880^23):=λi=>by
  unfold jt;rw[SG]
  cases e:as[i]? with
  |none=>exact⟨by decide,by decide⟩
  |some x=>exact hb x (SF e)
 have key:∀l:List Nat,0≤(l.map (jt as)).sum/\(l.map (jt as)).sum≤(1008*5354228880^23)*(l.length:Int):=by
  intro l
  induction l with
  |nil=>exact⟨by simp,by simp⟩
  |cons x l ih=>
   rw[TZ,Wj,Tv];have:=h0 x;omega
 have k:=key (c7 os q);have l:(c7 os q).length≤os.length:=by
  unfold c7;exact Tu (UN _ _) (by rw[TJ];exact SD _)
 unfold dJ;omega
def pJ(K:Sy)(H:Hp)(S:Pl->Prop)(L:Pl->Int)(vb:Addr)(ld ln:Int):Prop:=(ld=-1/\ln=1/\∀r,¬S r)∨∃q:Pl,bV K H vb [.int q.1,.int q.2]/\ld=L q/\ln=cU q/\pK S L q
theorem pJ.mono{K:Sy}{H H':Hp}{S S':Pl->Prop}{L:Pl->Int}{vb:Addr}{ld ln:Int}(h:pJ K H S L vb ld ln)(t:aR K H H')(e:∀r,S' r↔S r):pJ K H' S' L vb ld ln:=by
 rcases h with⟨a,b,c⟩ | ⟨q,hq,a,b,c⟩
 ·exact .inl ⟨a,b,λr hr=>c r ((e r).mp hr)⟩
 ·exact .inr ⟨q,t _ _ hq,a,b,c.congr e⟩
theorem AG(e:∀r,S r↔r=q):pK S L q:=⟨(e q).mpr Z,λr hr=>by rw[(e r).mp hr];exact .inr ⟨Z,.inr ⟨Z,SD _⟩⟩⟩
inductive fz(K:Sy)(vs:List V)(H:Hp)(Q:VK):Prop where
 |mk (l a:Addr) (xs:List V) (os:List Wn) (as:List Int) (n:Nat) (h0_:vs=[.ref l,.ref a,.int n]) (h1_:bu K H l xs) (h2_:cH (xI K H) xs os) (h3_:os.length≤64) (h4_:bu K H a (as.map V.int)) (h5_:as.length=os.length) (h6_:(∀x∈as,0≤x/\x≤(1008*5354228880^23))) (h7_:1≤n) (h8_:n≤24) (h9_:∀(p:Addr) (q:Pl) (H':Hp),aP H H'->bV K H' p [.int q.1,.int q.2]->pK (ju n) (dJ os (jt as)) q->Q (.ref p) H'):fz K vs H Q
def j9(K:Sy):Sp:=λvs H Q _=>fz K vs H Q
def Gk(ls:List Nat):PyData:=.tuple (ls.map λn:Nat=>aa5 n)
def Pd(ls:List Nat)(os:List Wn)(q:Pl):PyData:=.tuple [Gk ((ls.drop q.1).take (q.2+1-q.1)),Gk (c7 os q)]
theorem Dn(ok:∀w∈ws,cn w)(b0:0<B)(bd:B∣(84*5354228880^23)):∀x∈fq B ws,0≤x/\x≤(1008*5354228880^23):=by
 intro x hx;obtain⟨w,hw,rfl⟩:=SR.mp hx;have o:=(ok w hw).am;have B84:=VU (by decide) bd;have q0:0≤B/w.2.2.2:=Wd (by omega) (by have:=o.bot;omega);have q1:B/w.2.2.2≤B:=YA _ (by omega);have t1:=o.top;have t2:=o.top';refine⟨Zk (by omega) q0,?_⟩;have h1:w.2.2.1*(B/w.2.2.2)≤12*w.2.2.2*(B/w.2.2.2):=Xr t2 q0;have h2:w.2.2.2*(B/w.2.2.2)≤B:=Int.mul_ediv_self_le (by have:=o.bot;omega);rw[ZE] at h1;omega
theorem AY(ok:∀w∈ws,cn w):∀x∈df ws,0≤x/\x≤(1008*5354228880^23):=by
 intro x hx;obtain⟨w,hw,rfl⟩:=SR.mp hx;have o:=(ok w hw).am;have t1:=o.top;have t2:=o.top';refine⟨Wd (by omega) (by have:=o.bot;omega),?_⟩;refine Int.le_of_lt_add_one (Int.ediv_lt_of_lt_mul (by have:=o.bot;omega) ?_);have:=o.bot;omega
theorem uo(ok:∀w∈ws,cn w)(dv:∀w∈ws,w.2.2.2∣B)(i:Nat):jt (df ws) i*B=jt (fq B ws) i*(84*5354228880^23):=by
 unfold jt df fq;rw[SG,SG,SU,SU]
 cases e:ws[i]? with
 |none=>simp
 |some w=>
  have hw:=SF e;have o:=(ok w hw).am;obtain⟨m,hm⟩:=dv w hw;obtain⟨n,hn⟩:=o.dvd;have nz:w.2.2.2≠0:=by have:=o.bot;omega
  show w.2.2.1*(84*5354228880^23)/w.2.2.2*B=w.2.2.1*(B/w.2.2.2)*(84*5354228880^23);have e1:w.2.2.1*(84*5354228880^23)/w.2.2.2=w.2.2.1*n:=by
   rw[hn,Xe];exact Tt _ nz
  have e2:B/w.2.2.2=m:=by
   rw[hm];exact Tt _ nz
  rw[e1,e2,hm,hn]
  ac_rfl
theorem GK{ls:List Nat}(h1:a≤b)(h2:b≤ls.length):mj (bO ls) (some (a:Int)) (some (b:Int))=bO ((ls.drop a).take (b-a)):=by
 unfold mj bO;rw[HT.sIx_nat,HT.sIx_nat,SE,show min b ls.length=b from Y5 h2,show min a ls.length=a from Y5 (by omega),List.map_take,List.map_drop]
def Iq(K:Sy)(H:Hp)(v:V)(y:List Nat×List Nat):Prop:=∃p a b,v=.ref p/\bV K H p [.ref a,.ref b]/\bV K H a (bO y.1)/\bV K H b (bO y.2)
theorem Iq.mono{K:Sy}{H H':Hp}{v:V}{y:List Nat×List Nat}(h:Iq K H v y)(t:aR K H H'):Iq K H' v y:=let ⟨p,a,b,e,h1,h2,h3⟩:=h;⟨p,a,b,e,t _ _ h1,t _ _ h2,t _ _ h3⟩
def dU(ls:List Nat)(q:Pl):List Nat:=(ls.drop q.1).take (q.2+1-q.1)
def eO(ls:List Nat)(q:Pl):List Nat:=ls.filter λt=>!(dU ls q).contains t
def wO(ws:List Wk)(ls:List Nat):Nat:=ws.countP λw=>(bZ ls w).isSome
theorem fJ:i∈hX ls w↔i<ls.length/\im w (ls.getD i 0)=true:=by
 unfold hX;rw[Tw,SW]
theorem xV(h:hX ls w=[]):bZ ls w=none:=by unfold bZ;rw[h]
theorem uh(h:hX ls w=x:: r):bZ ls w=some (x,(x:: r).getLast (by simp)):=by unfold bZ;rw[h]
theorem iG:(bZ ls w).isSome=true↔∃t∈ls,im w t=true:=by
 cases c:hX ls w with
 |nil=>
  rw[xV c];refine⟨λh=>(by cases h),λ⟨t,ht,e⟩=>?_⟩;obtain⟨i,hi,rfl⟩:=T0.mp ht;have m:i∈hX ls w:=fJ.mpr ⟨hi,by rw[ax 0 (Sz hi)];exact e⟩;rw[c] at m
  cases m
 |cons x r=>
  rw[uh c];refine⟨λ_=>?_,λ_=>Z⟩;have m:x∈hX ls w:=by rw[c];exact SO
  obtain⟨hi,e⟩:=fJ.mp m;rw[ax 0 (Sz hi)] at e;exact⟨_,S2 hi,e⟩
theorem wE(ls:List Nat)(w:Wk):(hX ls w).Pairwise (· < ·):=Vq _ YY
theorem kH(h:bZ ls w=some (a,b)):a∈hX ls w/\b∈hX ls w/\∀i∈hX ls w,a≤i/\i≤b:=by
 cases c:hX ls w with
 |nil=>rw[xV c] at h;cases h
 |cons x r=>
  rw[uh c] at h;have srt:=wE ls w;rw[c] at srt;injection h with h;injection h with h1 h2;subst h1 h2;refine⟨SO,List.getLast_mem _,λi hi=>⟨?_,?_⟩⟩
  ·rcases S6.mp hi with z|z
   ·omega
   ·have:=(List.pairwise_cons.mp srt).1 i z;omega
  ·have e:=XM (show(x::r)≠[] by simp);rw[←e] at srt hi;rcases Ti.mp hi with z|z
   ·have:=(Xz.mp srt).2.2 i z _ (SJ.mpr Z);omega
   ·have:=SJ.mp z;omega
theorem Ku{ls:List Nat}(nd:ls.Nodup){i j:Nat}{hi:i<ls.length}{hj:j<ls.length}(e:ls[i]=ls[j]):i=j:=by
 have h:=Vf.mp nd;rcases Nat.lt_trichotomy i j with z|z|z
 ·exact absurd e (h i j hi hj z)
 ·exact z
 ·exact absurd e.symm (h j i hj hi z)
theorem tD(nd:ls.Nodup)(hp:ju ls.length p)(hi:i<ls.length):ls[i]∈dU ls p↔p.1≤i/\i≤p.2:=by
 have h1:=hp.1;have h2:=hp.2;unfold dU;constructor
 ·intro h;obtain⟨j,hj,e⟩:=T0.mp h;rw[Uk,V3] at hj;rw[Yh,aag] at e;have:=Ku nd e;omega
 ·rintro⟨a,b⟩;refine T0.mpr ⟨i-p.1,by rw[Uk,V3];omega,?_⟩;rw[Yh,aag]
  congr 1
  omega
theorem qk(nd:ls.Nodup)(hp:ju ls.length p):(bZ (eO ls p) w).isSome=((bZ ls w).isSome&&!io p.1 p.2 (bZ ls w)):=by
 have key:(bZ (eO ls p) w).isSome=true↔∃i,∃hi:i<ls.length,im w ls[i]=true/\¬(p.1≤i/\i≤p.2):=by
  rw[iG];constructor
  ·rintro⟨t,ht,e⟩;unfold eO at ht;obtain⟨m,c⟩:=Tw.mp ht;obtain⟨i,hi,rfl⟩:=T0.mp m;refine⟨i,hi,e,λz=>?_⟩;rw[VH.mpr ((tD nd hp hi).mpr z)] at c
   cases c
  ·rintro⟨i,hi,e,n⟩;refine⟨ls[i],Tw.mpr ⟨S2 hi,?_⟩,e⟩
   cases c:(dU ls p).contains ls[i] with
   |false=>rfl
   |true=>exact absurd ((tD nd hp hi).mp (VH.mp c)) n
 have pm:∀i,i∈hX ls w↔∃hi:i<ls.length,im w ls[i]=true:=λi=>by
  rw[fJ];constructor
  ·rintro⟨hi,e⟩;rw[ax 0 (Sz hi)] at e;exact⟨hi,e⟩
  ·rintro⟨hi,e⟩;exact⟨hi,by rw[ax 0 (Sz hi)];exact e⟩
 cases c:bZ ls w with
 |none=>
  have n:¬(bZ (eO ls p) w).isSome=true:=λh=>by
   obtain⟨i,hi,e,_⟩:=key.mp h;have:=iG.mpr ⟨ls[i],S2 hi,e⟩;rw[c] at this
   cases this
  simpa using n
 |some q=>
  obtain⟨a,b⟩:=q;obtain⟨m1,m2,bd⟩:=kH c;show(bZ (eO ls p) w).isSome=(true&&!(decide (p.1≤a)&&decide (b≤p.2)));by_cases h:p.1≤a/\b≤p.2
  ·rw[decide_eq_true h.1,decide_eq_true h.2];have n:¬(bZ (eO ls p) w).isSome=true:=λh'=>by
    obtain⟨i,hi,e,n⟩:=key.mp h';have:=bd i ((pm i).mpr ⟨hi,e⟩);exact n (by omega)
   simpa using n
  ·have y:(bZ (eO ls p) w).isSome=true:=key.mpr (by
    by_cases z:p.1≤a
    ·obtain⟨hi,e⟩:=(pm b).mp m2;exact⟨b,hi,e,by omega⟩
    ·obtain⟨hi,e⟩:=(pm a).mp m1;exact⟨a,hi,e,by omega⟩)
   rw[y];by_cases z:p.1≤a
   ·rw[decide_eq_false (show ¬b≤p.2 from λq=>h ⟨z,q⟩),UY];rfl
   ·rw[decide_eq_false z];rfl
theorem oR(os:List Wn)(p:Pl):(c7 os p).length=os.countP (io p.1 p.2):=by
 have:=congrArg List.length (fX (none:Wn) (io p.1 p.2) id os);rw[SE,SE] at this;rw[List.countP_eq_length_filter];exact this
theorem Ge(nd:ls.Nodup)(hp:ju ls.length p):wO ws (eO ls p)+(c7 (ws.map (bZ ls)) p).length=wO ws ls:=by
 rw[oR,List.countP_map];unfold wO
 induction ws with
 |nil=>rfl
 |cons w ws ih=>
  rw[YB,YB,YB,qk nd hp,show(io p.1 p.2∘bZ ls) w=io p.1 p.2 (bZ ls w) from Z]
  cases c:bZ ls w with
  |none=>
   have:io p.1 p.2 none=false:=Z;rw[this];simp only[Option.isSome_none,VE,WS,if_false,aah];exact ih
  |some q=>
   cases io p.1 p.2 (some q) with
   |true=>
    simp only[WQ,Yo,UY,WS,if_false,if_true,aah];omega
   |false=>
    simp only[WQ,Zp,Yr,WS,if_false,if_true,aah];omega
theorem Fn(nd:ls.Nodup)(p:Pl):(eO ls p).Nodup:=Vq _ nd
theorem yH(h:wO ws ls=0)(r:Pl):dJ (ws.map (bZ ls)) A r=0:=by
 have e:c7 (ws.map (bZ ls)) r=[]:=by
  refine List.eq_nil_of_length_eq_zero ?_;rw[oR];have h':∀w∈ws,¬(bZ ls w).isSome=true:=Vb.mp h;refine Vb.mpr λo ho=>?_
  obtain⟨w,hw,rfl⟩:=SR.mp ho;have n:=h' w hw
  cases c:bZ ls w with
  |none=>intro z;cases z
  |some q=>rw[c] at n;exact absurd Z n
 unfold dJ;rw[e];rfl
theorem DT{A:Nat->Int}(h:∀i,0≤A i):∀{l:List Nat} {i:Nat},i∈l->A i≤(l.map A).sum
 |x::l,i,hi=>by
  rw[TZ,Wj];rcases S6.mp hi with z|z
  ·subst z;have:=j7 h l;omega
  ·have:=DT h z;have:=h x;omega
theorem ur(ok:∀w∈ws,cn w)(i:Nat):0≤jt (df ws) i:=by
 unfold jt;rw[SG]
 cases e:(df ws)[i]? with
 |none=>decide
 |some x=>exact(AY ok x (SF e)).1
theorem Gq(ok:∀w∈ws,cn w)(h:∀r,ju ls.length r->dJ (ws.map (bZ ls)) (jt (df ws)) r=0):wO ws ls=0:=by
 refine Vb.mpr λw hw n=>?_
 obtain⟨q,hq⟩:=UV.mp n;obtain⟨a,b⟩:=q;obtain⟨m1,m2,bd⟩:=kH hq;have sec:ju ls.length (a,b):=⟨(bd b m2).1,(fJ.mp m2).1⟩;obtain⟨i,hi,rfl⟩:=T0.mp hw;have mi:i∈c7 (ws.map (bZ ls)) (a,b):=by
  unfold c7;refine Tw.mpr ⟨SW.mpr (by rw[SE];exact hi),?_⟩;rw[ax none (show(ws.map (bZ ls))[i]?=some (some (a,b)) by rw[SU,Sz hi];exact congrArg some hq)];show(decide (a≤a)&&decide (b≤b))=true;simp
 have l:=DT (ur ok) mi;have z:=h _ sec;unfold dJ at z;rw[z] at l;have o:=(ok _ hw).am;have eu:jt (df ws) i=ws[i].2.2.1*(84*5354228880^23)/ws[i].2.2.2:=ax 0 (by unfold df;rw[SU,Sz hi];rfl);rw[eu] at l;have t1:=o.top;have b1:=o.bot;have b2:=VU (by decide) o.dvd;have:1≤ws[i].2.2.1*(84*5354228880^23)/ws[i].2.2.2:=(Int.le_ediv_iff_mul_le (by omega)).mpr (by omega);omega
def EU(ws:List Wk)(ls:List Nat)(p:Pl):Prop:=pK (ju ls.length) (dJ (ws.map (bZ ls)) (jt (df ws))) p/\0<dJ (ws.map (bZ ls)) (jt (df ws)) p
theorem KP(ok:∀w∈ws,cn w)(b:pK (ju ls.length) (dJ (ws.map (bZ ls)) (jt (df ws))) p)(h:wO ws ls≠0):EU ws ls p:=by
 refine⟨b,?_⟩;have nn:∀r,0≤dJ (ws.map (bZ ls)) (jt (df ws)) r:=λr=>j7 (ur ok) _
 by_cases c:0<dJ (ws.map (bZ ls)) (jt (df ws)) p
 ·exact c
 ·refine absurd (Gq ok λr hr=>?_) h;have z:dJ (ws.map (bZ ls)) (jt (df ws)) p=0:=by have:=nn p;omega
  have q:=b.all r hr;have pp:=(show ju ls.length p from b.inn).pos;rw[z,Int.zero_mul] at q;by_cases e:dJ (ws.map (bZ ls)) (jt (df ws)) r=0
  ·exact e
  ·have:=Ut (show 0<dJ (ws.map (bZ ls)) (jt (df ws)) r by have:=nn r;omega) pp;omega
theorem EU.held(h:EU ws ls p):0<(c7 (ws.map (bZ ls)) p).length:=by
 have:=h.2;unfold dJ at this
 cases c:c7 (ws.map (bZ ls)) p with
 |nil=>rw[c] at this;exact absurd this (by simp)
 |cons x r=>exact Nat.succ_pos _
abbrev Ly:=List Nat×List Nat
def iU(ws:List Wk)(ls:List Nat)(p:Pl):Ly:=(dU ls p,c7 (ws.map (bZ ls)) p)
inductive iu(ws:List Wk):List Nat->List Ly->Prop where
 |nil {ls:List Nat} (h:wO ws ls=0):iu ws ls []
 |cons {ls:List Nat} {p:Pl} {r:List Ly} (h:EU ws ls p) (t:iu ws (eO ls p) r):iu ws ls (iU ws ls p::r)
theorem iu.uniq(h:iu ws ls a):∀{b:List Ly},iu ws ls b->a=b:=by
 induction h with
 |nil z=>
  intro b hb
  cases hb with
  |nil _=>rfl
  |cons h t=>have:=h.2;rw[yH z] at this;exact absurd this (by decide)
 |cons h t ih=>
  intro b hb
  cases hb with
  |nil z=>have:=h.2;rw[yH z] at this;exact absurd this (by decide)
  |cons h' t'=>
   have e:=h.1.uniq h'.1;subst e;rw[ih t']
structure mE(n:Nat)(y:Ly):Prop where
 pos:0<y.1.length
 few:y.1.length≤24
 lt:∀t∈y.1,t<24
 num:∀i∈y.2,i<n
 len:y.2.length≤n
theorem DR(hp:ju ls.length p)(hl:ls.length≤24)(hb:∀t∈ls,t<24):mE ws.length (iU ws ls p):=by
 have h1:=hp.1;have h2:=hp.2;have e:(dU ls p).length=min (p.2+1-p.1) (ls.length-p.1):=by unfold dU;rw[Uk,V3]
 refine⟨by show 0<(dU ls p).length;omega,by show(dU ls p).length≤24;omega,λt ht=>hb t (XA (Uv ht)),λi hi=>?_,?_⟩
 ·have:i∈c7 (ws.map (bZ ls)) p:=hi;unfold c7 at this;have:=SW.mp (Tw.mp this).1;rw[SE] at this;exact this
 ·show(c7 (ws.map (bZ ls)) p).length≤ws.length;rw[oR];exact Tu List.countP_le_length (by rw[SE];exact SD _)
inductive lC(K:Sy)(vs:List V)(H:Hp)(Q:VK):Prop where
 |mk (v:V) (q:Addr) (ws:List Wk) (ls:List Nat) (h0_:vs=[v,.ref q]) (h1_:eW K H v ws) (h2_:ws.length≤64) (h3_:(∀w∈ws,cn w)) (h4_:bV K H q (bO ls)) (h5_:1≤ls.length) (h6_:ls.length≤24) (h7_:∀(x:V) (B:Int) (p:Pl) (H':Hp),aP H H'->0<B->B∣(84*5354228880^23)->(∀w∈ws,w.2.2.2∣B)->pK (ju ls.length) (dJ (ws.map (bZ ls)) (jt (fq B ws))) p->Iq K H' x (iU ws ls p)->Q x H'):lC K vs H Q
def uC(K:Sy):Sp:=λvs H Q _=>lC K vs H Q
def Sr(K:Sy)(H:Hp)(v:V)(s:Nat×Nat×Nat):Prop:=∃p,v=.ref p/\bV K H p [.int s.1,.int s.2.1,.int s.2.2]
def Sb(os:List Wn)(i:Nat):List (Nat×Nat×Nat):=(SC i).filterMap λj=>(os.getD j none).map λq=>(q.1,q.2,j)
def Qr(p:Pl)(s:Nat×Nat×Nat):Bool:=decide (p.1≤s.1)&&decide (s.2.1≤p.2)
def QP(K:Sy)(H:Hp)(os:List Wn)(S:Pl->Prop)(L:Pl->Int)(pb:Addr):Prop:=∃(mn ln bg:Int) (lb:Addr),bV K H pb [.int mn,.int ln,.int bg,.ref lb]/\((mn=0/\ln=1/\bg=0/\∀r,S r->L r=0)∨∃q:Pl,0<L q/\mn=L q/\ln=cU q/\bg=(q.1:Int)/\bu K H lb (bO (c7 os q))/\pK S L q)
mutual
def P4:PyData->Bool
 | .int _=>true
 | .str _=>true
 | .bool _=>true
 | .none=>true
 | .tuple ds=>decide (ds.length≤1000)&&Hq ds
 |_=>false
def Hq:List PyData->Bool
 | []=>true
 |d::ds=>P4 d&&Hq ds
end
theorem mN{k:Nat}:∀{ds:List PyData},(∀d∈ds,d.depth≤k)->XJ ds≤k
 | [],_=>S8 _
 |d::ds,h=>Nat.max_le.mpr ⟨h d SO,mN λe he=>h e (SQ _ he)⟩
inductive EL(k:Nat)(K:Sy)(vs:List V)(H:Hp)(Q:VK):Prop where
 |mk (v w:V) (d:PyData) (h0_:vs=[v,w]) (h1_:bW K H v d) (h2_:bW K H w d) (h3_:d.depth≤k) (h4_:P4 d=true) (h5_:∀H',aP H H'->Q (.bl true) H'):EL k K vs H Q
def uL(k:Nat)(K:Sy):Sp:=λvs H Q _=>EL k K vs H Q
abbrev LG:=uL 0
abbrev LF:=uL 1
abbrev LD:=uL 2
abbrev LC:=uL 3
abbrev Fe:=uL 4
def ES(w:Wk):PyData:=.tuple [.int w.1,.int w.2.1,dR w.2.2]
def Eu(ws:List Wk):PyData:=.tuple (ws.map ES)
theorem zk.deep{K:Sy}{H:Hp}{v:V}{w:Wk}(h:zk K H v w):bW K H v (ES w):=by
 obtain⟨p,x,rfl,hS,rx⟩:=h;exact .tup hS (.cons (.int _) (.cons (.int _) (.cons rx.deep .nil)))
theorem eW.deep{K:Sy}{H:Hp}{v:V}{ws:List Wk}(h:eW K H v ws):bW K H v (Eu ws):=by
 obtain⟨p,xs,rfl,hS,al⟩:=h;exact .tup hS (al.deep λ_ _ q=>q.deep)
def Sg(y:List Nat×List Nat):PyData:=.tuple [Gk y.1,Gk y.2]
def bh:Wk:=(0,0,(0,1))
def i3(ws:List Wk)(y:List Nat×List Nat):List R:=y.2.map λi=>(ws.getD i bh).2.2
def eC(ws:List Wk)(y:List Nat×List Nat):R:=bA (eN (i3 ws y)) (1,(y.1.length:Int))
def jx(r:R)(ss:List R)(ts:List Nat):List R:=ts.foldl (λs t=>s.set t r) ss
def bn(ws:List Wk)(lys:List (List Nat×List Nat)):List R:=lys.foldl (λss y=>jx (eC ws y) ss y.1) (Tq 24 (0,1))
theorem og(r:R):∀(ts:List Nat) (ss:List R),(jx r ss ts).length=ss.length
 | [],_=>rfl
 |t::ts,ss=>by
  show(jx r (ss.set t r) ts).length=_;rw[og r ts,UH]
theorem kO(ws:List Wk):∀(lys:List (List Nat×List Nat)) (ss:List R),(lys.foldl (λss y=>jx (eC ws y) ss y.1) ss).length=ss.length
 | [],_=>rfl
 |y::r,ss=>by rw[Uz,kO ws r,og]
theorem Lb{ws:List Wk}{n:Nat}{y:List Nat×List Nat}(ok:∀w∈ws,cn w)(h:mE ws.length y):∀r∈i3 ws y,Wf 760 r:=by
 intro r hr;obtain⟨i,hi,rfl⟩:=SR.mp hr;have hl:=h.num i hi;rw[ax bh (Sz hl)];exact(ok _ (S2 hl)).am.wf
theorem Gf(ok:∀w∈ws,cn w):wO ws (SC 24)=ws.length:=by
 refine List.countP_eq_length.mpr λw hw=>iG.mpr ⟨w.1,SW.mpr ?_,?_⟩
 ·have:=(ok w hw).le;have:=(ok w hw).lt;omega
 ·unfold im;rw[decide_eq_true (SD _),decide_eq_true (ok w hw).le];rfl
theorem Kt(ws:List Wk):wO ws []=0:=Vb.mpr λw _ h=>by
 obtain⟨t,ht,_⟩:=iG.mp h
 cases ht
theorem Gy(h:EU ws ls p):ju ls.length p:=h.1.inn
def Pp(K:Sy)(H:Hp)(v:V)(lys:List (List Nat×List Nat)):Prop:=∃p xs,v=.ref p/\bV K H p xs/\cH (Iq K H) xs lys
inductive pB(K:Sy)(vs:List V)(H:Hp)(Q:VK):Prop where
 |mk (v:V) (ws:List Wk) (h0_:vs=[v]) (h1_:eW K H v ws) (h2_:ws.length≤64) (h3_:(∀w∈ws,cn w)) (h4_:∀(x:V) (lys:List (List Nat×List Nat)) (H':Hp),aP H H'->Pp K H' x lys->iu ws (SC 24) lys->(∀y∈lys,mE ws.length y)->lys.length≤64->Q x H'):pB K vs H Q
def zN(K:Sy):Sp:=λvs H Q _=>pB K vs H Q
inductive gm(K:Sy)(vs:List V)(H:Hp)(Q:VK):Prop where
 |mk (v x:V) (ws:List Wk) (y:List Nat×List Nat) (h0_:vs=[v,x]) (h1_:eW K H v ws) (h2_:ws.length≤64) (h3_:(∀w∈ws,cn w)) (h4_:Iq K H x y) (h5_:mE ws.length y) (h6_:L4 K H Q (eC ws y)):gm K vs H Q
def lU(K:Sy):Sp:=λvs H Q _=>gm K vs H Q
inductive gN(K:Sy)(vs:List V)(H:Hp)(Q:VK):Prop where
 |mk (v:V) (ws:List Wk) (h0_:vs=[v]) (h1_:eW K H v ws) (h2_:ws.length≤64) (h3_:(∀w∈ws,cn w)) (h4_:∀(p:Addr) (xs:List V) (lys:List (List Nat×List Nat)) (H':Hp),aP H H'->bV K H' p xs->cH (RV K H') xs (bn ws lys)->iu ws (SC 24) lys->Q (.ref p) H'):gN K vs H Q
def mQ(K:Sy):Sp:=λvs H Q _=>gN K vs H Q
inductive i7(K:Sy)(vs:List V)(H:Hp)(Q:VK):Prop where
 |mk (v:V) (ws:List Wk) (h0_:vs=[v]) (h1_:eW K H v ws) (h2_:ws.length≤64) (h3_:(∀w∈ws,cn w)) (h4_:∀(l:Addr) (xs:List V) (lys:List (List Nat×List Nat)) (H':Hp),aP H H'->H' l=some (.lst xs)->cH (RV K H') xs (bn ws lys)->iu ws (SC 24) lys->Q (.ref l) H'):i7 K vs H Q
def EM(K:Sy):Sp:=λvs H Q _=>i7 K vs H Q
def zS(n:Nat)(f:Nat->Bool):List V:=(SC n).map λj=>V.bl (f j)
theorem se(h:j<n):(zS n f)[j]?=some (.bl (f j)):=by
 unfold zS;rw[SU,VY h];rfl
structure G1(H:Hp)(l:Addr)(rows:List Addr)(n:Nat)(L:Nat->Nat->Bool):Prop where
 top:H l=some (.lst (rows.map V.ref))
 len:rows.length=n
 nd:rows.Nodup
 ne:l∉rows
 row:∀i r,rows[i]?=some r->H r=some (.lst (zS n (L i)))
theorem G1.same(h:G1 H l rows n L)(s:aP H H'):G1 H' l rows n L:=⟨s _ _ h.top,h.len,h.nd,h.ne,λi r e=>s _ _ (h.row i r e)⟩
structure Kp(rows:List Addr)(H H':Hp):Prop where
 keep:∀b o,b∉rows->H b=some o->H' b=some o
 ls:∀r∈rows,∃xs,H r=some (.lst xs)
 ls':∀r∈rows,∃xs,H' r=some (.lst xs)
theorem Kp.trans(a:Kp rows H H1)(b:Kp rows H1 H2):Kp rows H H2:=⟨λc o n e=>b.keep c o n (a.keep c o n e),a.ls,b.ls'⟩
theorem Kp.same(s:aP H H')(h:∀r∈rows,∃xs,H r=some (.lst xs)):Kp rows H H':=⟨λc o _ e=>s _ _ e,h,λr m=>let ⟨xs,e⟩:=h r m;⟨xs,s _ _ e⟩⟩
theorem Kp.up(m:r∈rows)(h:∀r∈rows,∃xs,H r=some (.lst xs))(ys:List V):Kp rows H (aO H r (.lst ys)):=⟨λc o n e=>by rw[aA (show c≠r from λz=>n (by rw[z];exact m))];exact e,h,λq mq=>by
 by_cases c:q=r
 ·subst c;exact⟨_,ai⟩
 ·rw[aA c];exact h q mq⟩
theorem G1.ls(h:G1 H l rows n L):∀r∈rows,∃xs,H r=some (.lst xs):=λr m=>by
 obtain⟨i,hi,e⟩:=T0.mp m;exact⟨_,h.row i r (by rw[Sz hi,e])⟩
theorem aR.kp{K:Sy}{rows:List Addr}{H H':Hp}(k:Kp rows H H'):aR K H H':=λp xs h=>by
 rcases h with h|h
 ·have n:p∉rows:=λm=>by
   obtain⟨ys,e⟩:=k.ls p m;rcases h with h | ⟨o,h⟩<;>rw[e] at h<;>cases h
  rcases h with h | ⟨o,h⟩
  ·exact .inl (.inl (k.keep _ _ n h))
  ·exact .inl (.inr ⟨o,k.keep _ _ n h⟩)
 ·exact .inr h
inductive ix(K_:Sy)(vs:List V)(H:Hp)(Q:VK):Prop where
 |mk (n:Nat) (h0_:vs=[.int n]) (h1_:n≤64) (h2_:∀(l:Addr) (rows:List Addr) (H':Hp),aP H H'->H l=none->(∀r∈rows,H r=none)->G1 H' l rows n (λ_ _=>false)->Q (.ref l) H'):ix K_ vs H Q
def nT(K_:Sy):Sp:=λvs H Q _=>ix K_ vs H Q
def uM(_:Sy):Sp:=λ_ _ _ _=>False
inductive gS(K:Sy)(vs:List V)(H:Hp)(Q:VK):Prop where
 |mk (n:Nat) (p:Addr) (h0_:vs=[.int n,.ref p]) (h1_:bV K H p []) (h2_:n≤64) (h3_:∀(l:Addr) (rows:List Addr) (H':Hp),aP H H'->G1 H' l rows n (λ_ _=>false)->Q (.ref l) H'):gS K vs H Q
def mV(K:Sy):Sp:=λvs H Q _=>gS K vs H Q
structure Sm(w:Wk):Prop where
 l1:w.1<24
 l2:w.2.1<24
 am:Wf 900 w.2.2
def vF(ws:List Wk)(j:Nat):Int:=((ws.getD j bh).1:Nat)
def vL(ws:List Wk)(j:Nat):Int:=-((ws.getD j bh).2.1:Nat)
def QD(K:Sy)(H:Hp)(v:V)(ws:List Wk):Prop:=∃p a b,v=.ref p/\bV K H p [a,.ref b]/\eW K H a ws/\bV K H b []
inductive pC(K_:Sy)(vs:List V)(H:Hp)(Q:VK):Prop where
 |mk (i:Int) (h0_:vs=[.int i]) (h1_:Q (.int i) H):pC K_ vs H Q
def LA(K_:Sy):Sp:=λvs H Q _=>pC K_ vs H Q
inductive pG(K_:Sy)(C:Addr)(vs:List V)(H:Hp)(Q:VK):Prop where
 |mk (a:Addr) (n:Int) (h0_:vs=[.ref a,.int n]) (h1_:H a=some (vh a C none)) (h2_:∀d,H d=none->d≠a->Q .non (aO (aO H a (vh a C (some d))) d (dO d [("work",.int n)]))):pG K_ C vs H Q
def LJ(K_:Sy)(C:Addr):Sp:=λvs H Q _=>pG K_ C vs H Q
theorem zb(h:Lx r):Bq (84*5354228880^23) 12 r:=by
 have a:=h.top;have b:=h.top';have c:=h.bot;refine⟨by omega,h.wf.cop,h.dvd,?_⟩;have:12*1≤12*r.2.natAbs:=WD _ (by omega);omega
theorem Bf{D N:Nat}(hD:0<D):∀{rs:List R},(∀r∈rs,Bq D N r)->∀{a:R} {M:Nat},Bq D M a->Bq D (M+N*rs.length) (rs.foldl cP a)
 | [],_,a,M,h=>by simpa using h
 |r::rs,hr,a,M,h=>by
  have:=Bf hD (λq hq=>hr q (SQ _ hq)) (h.plus hD (hr r SO));rw[Uz,Tv,Xg];refine this.mono (SV _) (by omega)
theorem GP:Bq D 0 ((0,1):R):=⟨by decide,by decide,⟨(D:Int),by show(D:Int)=1*D;omega⟩,by show 0≤_;exact S8 _⟩
theorem f9(hD:0<D)(h:∀r∈rs,Bq D N r):Bq D (N*rs.length) (eN rs):=by
 have:=Bf hD h (GP (D:=D));rw[YZ] at this;exact this
theorem Fp(ok:∀w∈ws,cn w)(hw:ws.length≤20)(lok:mE ws.length y):Bq ((84*5354228880^23)*y.1.length) 240 (eC ws y):=by
 have am:∀r∈i3 ws y,Bq (84*5354228880^23) 12 r:=λr hr=>by
  obtain⟨i,hi,rfl⟩:=SR.mp hr;have hl:=lok.num i hi;rw[ax bh (Sz hl)];exact zb (ok _ (S2 hl)).am
 have la:(i3 ws y).length=y.2.length:=SE _;have len:=lok.len;have pos:=lok.pos;have s:=(f9 (by decide) am).mono (SV _) (show 12*(i3 ws y).length≤240 by omega);have o:Bq y.1.length 1 ((1,(y.1.length:Int)):R):=⟨by show(0:Int)<_;omega,by simp,Xf _,by show(1:Int).natAbs≤1*((y.1.length:Int)).natAbs;omega⟩;exact s.times o
inductive qX(K:Sy)(vs:List V)(H:Hp)(Q:VK):Prop where
 |mk (v w:V) (r q:R) (n m:Nat) (h0_:vs=[v,w]) (h1_:RV K H v r) (h2_:RV K H w q) (h3_:Wf n r) (h4_:Wf m q) (h5_:(n≤8900/\m≤8900)) (h6_:L4 K H Q (bJ r q)):qX K vs H Q
def Bw(K:Sy):Sp:=λvs H Q _=>qX K vs H Q
inductive mP(K:Sy)(vs:List V)(H:Hp)(Q:VK):Prop where
 |mk (v w:V) (r q:R) (n m:Nat) (h0_:vs=[v,w]) (h1_:RV K H v r) (h2_:RV K H w q) (h3_:Wf n r) (h4_:Wf m q) (h5_:(n≤8900/\m≤8900)) (h6_:Q (.bl (dF r q)) H):mP K vs H Q
def nX(K:Sy):Sp:=λvs H Q _=>mP K vs H Q
theorem Ew(h:S7 a b=1):S7 (-a) b=1:=by rw[Int.neg_gcd];exact h
theorem K5:∀m,m<25->0<m->(84*5354228880^23)*m∣(84*5354228880^24):=by decide
def bS(ws:List Wk)(i:Nat):Nat:=(ws.getD i bh).2.1
def ik(ws:List Wk)(l:List Nat):List Nat:=l.filter λi=>l.all λj=>decide (bS ws i≤bS ws j)
open Classical in
open Classical in
def mH(ws:List Wk)(l:List Nat):Nat:=(ik ws l).getD 0 0
def dm(n:Nat)(come:List Nat):List Nat:=(SC n).filter λi=>!come.contains i
noncomputable def bD (ws:List Wk):Nat->List Nat
 |0=>[]
 |k+1=>bD ws k++[mH ws (dm ws.length (bD ws k))]
theorem Gj{i:Nat}(h:(bO ls)[i]?=some x):∃n,ls[i]?=some n/\x=.int (n:Nat):=by
 unfold bO at h;rw[SU] at h;obtain⟨n,hn,rfl⟩:=TQ.mp h;exact⟨n,hn,Z⟩
theorem u7(f:Nat->Nat):∀(l:List Nat),l≠[]->∃i∈l,∀j∈l,f i≤f j
 | [],h=>absurd Z h
 | [a],_=>⟨a,SO,λj hj=>by rw[SJ] at hj;rw[hj];exact SD _⟩
 |a::b::l,_=>by
  obtain⟨i,hi,m⟩:=u7 f (b::l) (by simp);by_cases c:f a≤f i
  ·refine⟨a,SO,λj hj=>?_⟩;rcases S6.mp hj with z|z
   ·rw[z];exact SD _
   ·exact Tu c (m j z)
  ·refine⟨i,SQ _ hi,λj hj=>?_⟩;rcases S6.mp hj with z|z
   ·rw[z];omega
   ·exact m j z
theorem kY:i∈ik ws l↔i∈l/\∀j∈l,bS ws i≤bS ws j:=by
 unfold ik;rw[Tw,Vi];exact and_congr_right λ_=>forall_congr' λj=>forall_congr' λ_=>decide_eq_true_iff
theorem tz(h:l≠[]):(ik ws l)[0]?=some (mH ws l):=by
 obtain⟨i,hi,m⟩:=u7 (bS ws) l h;have:=kY.mpr ⟨hi,m⟩;unfold mH
 cases e:ik ws l with
 |nil=>rw[e] at this;cases this
 |cons a r=>rfl
theorem oK(h:l≠[]):mH ws l∈l:=(kY.mp (SF (tz h))).1
theorem xW(n:Nat)(c:List Nat):(dm n c).Nodup:=Vq _ Wz
theorem fT:i∈dm n c↔i<n/\i∉c:=by
 unfold dm;rw[Tw,SW,Wp,XB,decide_eq_false_iff_not]
theorem zr(n:Nat)(c:List Nat)(x:Nat):dm n (c++[x])=(dm n c).filter λi=>decide (i≠x):=by
 unfold dm;rw[ZU];refine aai λi _=>?_
 rw[UG,Ta,Wp,Wp,XB,XB,decide_eq_false_iff_not,decide_eq_false_iff_not,decide_eq_true_iff,Ti,SJ];exact⟨λh=>⟨λz=>h (.inr z),λz=>h (.inl z)⟩,λh z=>z.elim h.2 h.1⟩
theorem vi:∀{l:List Nat} {j x:Nat},l.Nodup->l[j]?=some x->l.eraseIdx j=l.filter (λi=>decide (i≠x))/\(l.eraseIdx j).length+1=l.length
 | [],j,x,_,h=>by simp at h
 |a::l,0,x,nd,h=>by
  have e:a=x:=by simpa using h
  subst e;obtain⟨n1,n2⟩:=Uf.mp nd;refine⟨?_,Z⟩;have e1:(a::l).filter (λi=>decide (i≠a))=l.filter (λi=>decide (i≠a)):=WZ (by simp);have e2:l.filter (λi=>decide (i≠a))=l:=UR.mpr λi hi=>decide_eq_true λz=>n1 (by rw[←z];exact hi)
  rw[e1,e2];rfl
 |a::l,j+1,x,nd,h=>by
  obtain⟨n1,n2⟩:=Uf.mp nd;have h':l[j]?=some x:=by simpa using h
  obtain⟨e1,e2⟩:=vi n2 h';have ne:a≠x:=λz=>n1 (by rw[z];exact SF h')
  have e3:(a::l).filter (λi=>decide (i≠x))=a::l.filter (λi=>decide (i≠x)):=W0 (decide_eq_true ne);rw[Yy,e3,←e1];refine⟨Z,?_⟩;rw[Tv,Tv,e2]
theorem Eh{l:List Nat}{j x:Nat}(nd:l.Nodup)(h:l[j]?=some x):∀m,m<j->l[m]?≠some x:=λm hm e=>by
 obtain⟨h1,e1⟩:=SN.mp e;obtain⟨h2,e2⟩:=SN.mp h;exact Vf.mp nd m j h1 h2 hm (e1.trans e2.symm)
structure xH(ws:List Wk)(k:Nat):Prop where
 len:(bD ws k).length=k
 lt:∀i∈bD ws k,i<ws.length
 wl:(dm ws.length (bD ws k)).length+k=ws.length
theorem Do(ws:List Wk):xH ws 0:=by
 refine⟨Z,λi hi=>absurd (show i∈([]:List Nat) from hi) (by simp),?_⟩;show(dm ws.length []).length+0=_;unfold dm;have e:(SC ws.length).filter (λi=>!([]:List Nat).contains i)=SC ws.length:=UR.mpr λi _=>Z
 rw[e,TJ];rfl
theorem xH.ne(h:xH ws k)(hk:k<ws.length):dm ws.length (bD ws k)≠[]:=λz=>by
 have:=h.wl;rw[z] at this;have e:0+k=ws.length:=this;omega
theorem xH.step(h:xH ws k)(hk:k<ws.length):xH ws (k+1)/\∃j:Nat,(dm ws.length (bD ws k))[j]?=some (mH ws (dm ws.length (bD ws k)))/\(dm ws.length (bD ws k)).eraseIdx j=dm ws.length (bD ws (k+1)):=by
 have m:=oK (ws:=ws) (h.ne hk);obtain⟨j,hj⟩:=Ui m;obtain⟨e1,e2⟩:=vi (xW _ _) hj;have e3:(dm ws.length (bD ws k)).eraseIdx j=dm ws.length (bD ws (k+1)):=by
  rw[e1];exact(zr _ _ _).symm
 refine⟨⟨?_,λi hi=>?_,?_⟩,j,hj,e3⟩
 ·show(bD ws k++[_]).length=k+1;rw[SZ,h.len];rfl
 ·rcases Ti.mp (show i∈bD ws k++[_] from hi) with z|z
  ·exact h.lt i z
  ·rw[SJ.mp z];exact(fT.mp m).1
 ·rw[←e3];have:=h.wl;omega
theorem fi{ws:List Wk}:∀k,k≤ws.length->xH ws k
 |0,_=>Do ws
 |k+1,h=>((fi k (Nat.le_of_succ_le h)).step h).1
structure fw(r:R):Prop where
 bq:Bq (84*5354228880^24) 256 r
 nn:0≤r.1
theorem fw.wf(h:fw r):Wf 800 r:=h.bq.wf (by decide) (by decide) (by decide)
theorem fw.red(h:fw r):gW r:=h.bq.red
theorem GS:fw (0,1):=⟨GP.mono (SV _) (by decide),Xy _⟩
theorem jX(h:0<r.2):0≤val r↔0≤r.1:=by
 have zz:val ((0,1):R)=0:=(c8 (r:=(0,1)) (by decide)).mpr Z;rw[←zz,←fE (r:=r) (q:=(0,1)) h (by decide),u6];show 0*r.2≤r.1*1↔_;omega
theorem me{r:R}(hp:0<r.2)(hn:0≤r.1):r.1.natAbs≤N*r.2.natAbs↔val r≤(N:Rat):=by
 have e:val (((N:Nat):Int),1)=(N:Rat):=by
  show(((N:Nat):Int):Rat)/((1:Int):Rat)=_;rw[show((1:Int):Rat)=1 from Z];have:(((N:Nat):Int):Rat)=(N:Rat):=Z;rw[this];grind
 rw[←e,←fE (r:=(((N:Nat):Int),1)) (q:=r) (by show(0:Int)<1;decide) hp,u6];show _↔r.1*1≤(N:Int)*r.2;have h1:((r.1.natAbs:Nat):Int)=r.1:=by omega
 have h2:((r.2.natAbs:Nat):Int)=r.2:=by omega
 rw[←Int.ofNat_le,XH,h1,h2,aaB]
def fk(a b:R):R:=if dF b a=true then b else a
theorem tE(ha:fw a)(hb:fw b):fw (fk a b):=by
 unfold fk
 split
 ·exact hb
 ·exact ha
theorem KB(ha:fw a)(hb:fw b):val (fk a b)≤val a/\val (fk a b)≤val b:=by
 unfold fk
 cases c:dF b a with
 |true=>
  rw[if_pos Z];have:=(nH hb.bq.pos ha.bq.pos).mp c;exact⟨Up this,Ts⟩
 |false=>
  rw[if_neg Tb];exact⟨Ts,(fE hb.bq.pos ha.bq.pos).mp c⟩
theorem Bm(hx:fw x)(ha:fw a)(h:val a≤val x):fw (bJ x a):=by
 have b:=Bq.minus (by decide) hx.bq ha.bq;have ev:val (bJ x a)=val x-val a:=dh hx.bq.pos ha.bq.pos;have na:=(jX ha.bq.pos).mpr ha.nn;have nn:0≤(bJ x a).1:=(jX b.pos).mp (by rw[ev];grind);refine⟨⟨b.pos,b.cop,b.dvd,(me b.pos nn).mpr ?_⟩,nn⟩;have:=(me hx.bq.pos hx.nn).mp hx.bq.le;rw[ev];grind
abbrev Pc:=Nat×R
abbrev xL:=List R×R×List Pc
def cY(ws:List Wk)(t:Nat)(st:xL)(i:Nat):xL:=
 if im (ws.getD i bh) t=true/\fk (st.1.getD i (0,1)) st.2.1≠(0,1) then(st.1.set i (bJ (st.1.getD i (0,1)) (fk (st.1.getD i (0,1)) st.2.1)),bJ st.2.1 (fk (st.1.getD i (0,1)) st.2.1),st.2.2++[(i,fk (st.1.getD i (0,1)) st.2.1)]) else st
def fP(ws:List Wk)(ord:List Nat)(t:Nat)(lf:List R)(sp:R):xL:=ord.foldl (cY ws t) (lf,sp,[])
def bR(ws:List Wk)(ord:List Nat)(ss:List R):Nat->List R×List (List Pc)
 |0=>(ws.map λw=>w.2.2,[])
 |t+1=>((fP ws ord t (bR ws ord ss t).1 (ss.getD t (0,1))).1,(bR ws ord ss t).2++[(fP ws ord t (bR ws ord ss t).1 (ss.getD t (0,1))).2.2])
structure AN(n:Nat)(st:xL):Prop where
 len:st.1.length=n
 lf:∀r∈st.1,fw r
 rm:fw st.2.1
 pc:∀p∈st.2.2,p.1<n/\fw p.2
theorem gj{n:Nat}{l:List R}(h:∀r∈l,fw r)(i:Nat):fw (l.getD i (0,1)):=by
 rw[SG]
 cases e:l[i]? with
 |none=>exact GS
 |some r=>exact h r (SF e)
theorem AN.step{st:xL}(h:AN n st)(hi:i<n):AN n (cY ws t st i)/\(cY ws t st i).2.2.length≤st.2.2.length+1:=by
 unfold cY
 split
 ·have a:=gj (n:=n) h.lf i;have le:=KB a h.rm;have la:=tE a h.rm;refine⟨⟨by rw[UH];exact h.len,λr hr=>?_,Bm h.rm la le.2,λp hp=>?_⟩,by rw[SZ];exact SD _⟩
  ·rcases Us hr with z|z
   ·exact h.lf r z
   ·rw[z];exact Bm a la le.1
  ·rcases Ti.mp hp with z|z
   ·exact h.pc p z
   ·rw[SJ.mp z];exact⟨hi,la⟩
 ·exact⟨h,VA _⟩
theorem AN.fold{ws:List Wk}{n t:Nat}:∀{ord:List Nat} {st:xL},AN n st->(∀i∈ord,i<n)->AN n (ord.foldl (cY ws t) st)/\(ord.foldl (cY ws t) st).2.2.length≤st.2.2.length+ord.length
 | [],st,h,_=>⟨h,SD _⟩
 |i::ord,st,h,hl=>by
  obtain⟨h1,l1⟩:=h.step (ws:=ws) (t:=t) (hl i SO);obtain⟨h2,l2⟩:=h1.fold (ws:=ws) (t:=t) (ord:=ord) λj hj=>hl j (SQ _ hj)
  refine⟨h2,?_⟩;rw[Uz,Tv];omega
structure RP(n m:Nat)(p:List R×List (List Pc)):Prop where
 len:p.1.length=n
 lf:∀r∈p.1,fw r
 pc:∀q∈p.2,q.length≤m/\∀x∈q,x.1<n/\fw x.2
theorem gi{ws:List Wk}{ord:List Nat}{ss:List R}(okw:∀w∈ws,cn w)(ho:∀i∈ord,i<ws.length)(hs:∀r∈ss,fw r):∀t,RP ws.length ord.length (bR ws ord ss t)/\(bR ws ord ss t).2.length=t
 |0=>by
  refine⟨⟨SE _,λr hr=>?_,λq hq=>by cases hq⟩,Z⟩;obtain⟨w,hw,rfl⟩:=SR.mp hr;have a:=(okw w hw).am;exact⟨(zb a).mono ⟨5354228880,by decide⟩ (by decide),by have:=a.top;omega⟩
 |t+1=>by
  obtain⟨h,hl⟩:=gi okw ho hs t;obtain⟨d,dl⟩:=AN.fold (ws:=ws) (t:=t) (ord:=ord) (st:=((bR ws ord ss t).1,ss.getD t (0,1),[])) ⟨h.len,h.lf,gj (n:=0) hs t,λp hp=>by cases hp⟩ ho;refine⟨⟨d.len,d.lf,λq hq=>?_⟩,?_⟩
  ·rcases Ti.mp (show q∈(bR ws ord ss t).2++[_] from hq) with z|z
   ·exact h.pc q z
   ·rw[SJ.mp z];refine⟨?_,d.pc⟩;have:(fP ws ord t (bR ws ord ss t).1 (ss.getD t (0,1))).2.2.length≤0+ord.length:=dl;omega
  ·show((bR ws ord ss t).2++[_]).length=t+1;rw[SZ,hl];rfl
def qx(lf:List R):Option Nat:=(SC lf.length).find? λi=>decide (lf.getD i (0,1)≠(0,1))
theorem Aj(hi:i<lf.length)(h:lf.getD i (0,1)≠(0,1))(b:∀j,j<i->lf.getD j (0,1)=(0,1)):qx lf=some i:=by
 unfold qx;rw[List.find?_range_eq_some];exact⟨decide_eq_true h,SW.mpr hi,λj hj=>by rw[decide_eq_false (λz=>z (b j hj))];rfl⟩
theorem Ak(b:∀j,j<lf.length->lf.getD j (0,1)=(0,1)):qx lf=none:=by
 unfold qx;rw[List.find?_eq_none];intro j hj z;exact(of_decide_eq_true z) (b j (SW.mp hj))
noncomputable def dZ (ws:List Wk) (ss:List R):List R×List (List Pc):=bR ws (bD ws ws.length) ss 24
def vQ(K:Sy)(H:Hp)(v:V)(c:Pc):Prop:=∃p x,v=.ref p/\bV K H p [.int (c.1:Nat),x]/\RV K H x c.2
theorem vQ.mono{K:Sy}{H H':Hp}{v:V}{c:Pc}(h:vQ K H v c)(t:aR K H H'):vQ K H' v c:=let ⟨p,x,e,s,r⟩:=h;⟨p,x,e,t _ _ s,r.mono t⟩
def qR(K:Sy)(H:Hp)(v:V)(q:List Pc):Prop:=∃p xs,v=.ref p/\bV K H p xs/\cH (vQ K H) xs q
theorem qR.mono{K:Sy}{H H':Hp}{v:V}{q:List Pc}(h:qR K H v q)(t:aR K H H'):qR K H' v q:=let ⟨p,x,e,s,r⟩:=h;⟨p,x,e,t _ _ s,r.mono λ_ _ z=>z.mono t⟩
def Pe(c:Pc):PyData:=.tuple [.int (c.1:Nat),dR c.2]
def Pb(q:List Pc):PyData:=.tuple (q.map Pe)
def Il(ps:List (List Pc)):PyData:=.tuple (ps.map Pb)
theorem vQ.deep{K:Sy}{H:Hp}{v:V}{c:Pc}(h:vQ K H v c):bW K H v (Pe c):=by
 obtain⟨p,x,rfl,hS,hx⟩:=h;exact .tup hS (.cons (.int _) (.cons hx.deep .nil))
theorem qR.deep{K:Sy}{H:Hp}{v:V}{q:List Pc}(h:qR K H v q):bW K H v (Pb q):=by
 obtain⟨p,xs,rfl,hS,al⟩:=h;exact .tup hS (al.deep λ_ _ z=>z.deep)
def vO(K:Sy)(H:Hp)(v:V)(rs:List R):Prop:=∃p xs,v=.ref p/\bV K H p xs/\cH (RV K H) xs rs
theorem vO.mono{K:Sy}{H H':Hp}{v:V}{rs:List R}(h:vO K H v rs)(t:aR K H H'):vO K H' v rs:=let ⟨p,xs,e,s,a⟩:=h;⟨p,xs,e,t _ _ s,a.mono λ_ _ q=>q.mono t⟩
structure Lz(N:Nat)(r:R):Prop where
 bq:Bq (84*5354228880^24) N r
 nn:0≤r.1
theorem Lz.am(h:Lz N r)(hN:N≤256):fw r:=⟨h.bq.mono (SV _) hN,h.nn⟩
theorem IA(ok:∀w∈ws,cn w)(hw:ws.length≤20)(lok:mE ws.length y):Lz 240 (eC ws y):=by
 have b:=Fp ok hw lok;refine⟨b.mono (K5 _ (by have:=lok.few;omega) lok.pos) (SD _),?_⟩;have nn:0≤(eN (i3 ws y)).1:=by
  have go:∀(l:List R) (a:R),gW a->0≤a.1->(∀r∈l,Lx r)->0≤(l.foldl cP a).1:=by
   intro l
   induction l with
   |nil=>intro a _ na _;exact na
   |cons r l ih=>
    intro a ra na hl;have h:=hl r SO;have hr:gW r:=⟨by have:=h.bot;omega,h.wf.cop⟩;exact ih (cP a r) (jm (Ut ra.pos hr.pos)) (FN ra hr na (by have:=h.top;omega)) λq hq=>hl q (SQ _ hq)
  refine go _ (0,1) ⟨by decide,by decide⟩ (by decide) λr hr=>?_
  obtain⟨i,hi,rfl⟩:=SR.mp hr;have hl:=lok.num i hi;rw[ax bh (Sz hl)];exact(ok _ (S2 hl)).am
 show 0≤(d6 ((eN (i3 ws y)).1*1) _).1;exact DN (by omega)
theorem Br{ws:List Wk}(ok:∀w∈ws,cn w)(hw:ws.length≤20):∀{lys:List Ly} {ss:List R},(∀y∈lys,mE ws.length y)->(∀r∈ss,Lz 240 r)->∀r∈lys.foldl (λss y=>jx (eC ws y) ss y.1) ss,Lz 240 r
 | [],ss,_,h=>h
 |y::lys,ss,hl,h=>by
  refine Br (lys:=lys) ok hw (λz hz=>hl z (SQ _ hz)) ?_;have sp:=IA ok hw (hl y SO);have go:∀(ts:List Nat) (ss:List R),(∀r∈ss,Lz 240 r)->∀r∈jx (eC ws y) ss ts,Lz 240 r:=by
   intro ts
   induction ts with
   |nil=>intro ss h;exact h
   |cons t ts ih=>
    intro ss h;refine ih (ss.set t (eC ws y)) λr hr=>?_
    rcases Us hr with z|z
    ·exact h r z
    ·rw[z];exact sp
  exact go y.1 ss h
inductive pA(K:Sy)(vs:List V)(H:Hp)(Q:VK):Prop where
 |mk (v w:V) (r q:R) (h0_:vs=[v,w]) (h1_:RV K H v r) (h2_:RV K H w q) (h3_:fw r) (h4_:fw q) (h5_:∀u,RV K H u (fk r q)->Q u H):pA K vs H Q
def zM(K:Sy):Sp:=λvs H Q _=>pA K vs H Q
structure QR(K:Sy)(H:Hp)(v:V)(b:Addr)(ws:List Wk):Prop where
 wv:eW K H v ws
 w8:ws.length≤20
 ok:∀w∈ws,cn w
 lv:bV K H b []
inductive gu(K:Sy)(vs:List V)(H:Hp)(Q:VK):Prop where
 |mk (v:V) (l wl:Addr) (ws:List Wk) (rows:List Addr) (ls:List Nat) (h0_:vs=[v,.ref l,.ref wl]) (h1_:eW K H v ws) (h2_:ws.length≤20) (h3_:G1 H l rows ws.length (λ_ _=>false)) (h4_:bu K H wl (bO ls)) (h5_:(∀i∈ls,i<ws.length)) (h6_:ls≠[]) (h7_:ls.length≤20) (h8_:∀H',aP H H'->Q (.int (mH ws ls:Nat)) H'):gu K vs H Q
def lW(K:Sy):Sp:=λvs H Q _=>gu K vs H Q
inductive lE(K:Sy)(vs:List V)(H:Hp)(Q:VK):Prop where
 |mk (v:V) (b:Addr) (ws:List Wk) (h0_:vs=[v,.ref b]) (h1_:QR K H v b ws) (h2_:∀(l:Addr) (H':Hp),aP H H'->H l=none->H' l=some (.lst (bO (bD ws ws.length)))->Q (.ref l) H'):lE K vs H Q
def uD(K:Sy):Sp:=λvs H Q _=>lE K vs H Q
inductive jR(K:Sy)(vs:List V)(H:Hp)(Q:VK):Prop where
 |mk (v u:V) (o lf:Addr) (ws:List Wk) (ord:List Nat) (xs:List V) (rs:List R) (t:Nat) (sp:R) (h0_:vs=[v,.ref o,.ref lf,.int (t:Nat),u]) (h1_:eW K H v ws) (h2_:H o=some (.lst (bO ord))) (h3_:H lf=some (.lst xs)) (h4_:o≠lf) (h5_:cH (RV K H) xs rs) (h6_:rs.length=ws.length) (h7_:(∀r∈rs,fw r)) (h8_:RV K H u sp) (h9_:fw sp) (h10_:(∀i∈ord,i<ws.length)) (h11_:ord.length≤20) (h12_:∀(w:V) (ys:List V) (H':Hp),eX lf H H'->H' lf=some (.lst ys)->cH (RV K H') ys (fP ws ord t rs sp).1->qR K H' w (fP ws ord t rs sp).2.2->Q w H'):jR K vs H Q
def rO(K:Sy):Sp:=λvs H Q _=>jR K vs H Q
inductive qY(K:Sy)(vs:List V)(H:Hp)(Q:VK):Prop where
 |mk (v s:V) (b:Addr) (ws:List Wk) (ss:List R) (h0_:vs=[v,.ref b,s]) (h1_:QR K H v b ws) (h2_:vO K H s ss) (h3_:ss.length=24) (h4_:(∀r∈ss,fw r)) (h5_:qx (dZ ws ss).1=none) (h6_:∀(w:V) (H':Hp),aP H H'->bW K H' w (Il (dZ ws ss).2)->Q w H'):qY K vs H Q
def Bx(K:Sy):Sp:=λvs H Q _=>qY K vs H Q
inductive jN(K:Sy)(C:Addr)(vs:List V)(H:Hp)(Q:VK):Prop where
 |mk (x dd:Addr) (fs:List (TB×V)) (h0_:vs=[.ref x]) (h1_:H x=some (Nw x C dd)) (h2_:H dd=some (dO dd fs)) (h3_:∀(l:Addr) (H':Hp),aP H H'->H' l=some (.lst [.bl true,.bl true,.bl true,.bl false])->Q (.ref l) H'):jN K C vs H Q
def Fd(K:Sy)(C:Addr):Sp:=λvs H Q _=>jN K C vs H Q
def bX(b:Bool)(x:Rat):Rat:=if b=true then x else 0
theorem c6(x:Rat):bX true x=x:=Z
theorem cm(x:Rat):bX false x=0:=Z
def sQ{α:Type}(f:α->Rat):List α->Rat
 | []=>0
 |x::l=>f x+sQ f l
theorem jB{α:Type}{f g:α->Rat}:∀{l:List α},(∀x∈l,f x≤g x)->sQ f l≤sQ g l
 | [],_=>Ts
 |x::l,h=>by
  have a:=h x SO;have b:=jB (l:=l) λy hy=>h y (SQ _ hy)
  show f x+sQ f l≤g x+sQ g l;grind
theorem aN{α:Type}{f g:α->Rat}:∀{l:List α},(∀x∈l,f x=g x)->sQ f l=sQ g l
 | [],_=>rfl
 |x::l,h=>by
  show f x+sQ f l=g x+sQ g l;rw[h x SO,aN λy hy=>h y (SQ _ hy)]
theorem fe{α:Type}{f g:α->Rat}:∀l:List α,sQ (λx=>f x+g x) l=sQ f l+sQ g l
 | []=>by show(0:Rat)=0+0;grind
 |x::l=>by
  show f x+g x+sQ (λx=>f x+g x) l=(f x+sQ f l)+(g x+sQ g l);rw[fe l];grind
theorem di{α:Type}(c:Rat){f:α->Rat}:∀l:List α,sQ (λx=>c*f x) l=c*sQ f l
 | []=>by show(0:Rat)=c*0;grind
 |x::l=>by
  show c*f x+sQ (λx=>c*f x) l=c*(f x+sQ f l);rw[di c l];grind
theorem d0{α:Type}{f:α->Rat}:∀a b:List α,sQ f (a++b)=sQ f a+sQ f b
 | [],b=>by show sQ f b=0+sQ f b;grind
 |x::a,b=>by
  show f x+sQ f (a++b)=(f x+sQ f a)+sQ f b;rw[d0 a b];grind
theorem gH{α:Type}{f:α->Rat}(c:α->Bool):∀l:List α,sQ f (l.filter c)=sQ (λx=>bX (c x) (f x)) l
 | []=>rfl
 |x::l=>by
  have ih:=gH (f:=f) c l
  cases e:c x with
  |true=>
   rw[W0 e];show f x+sQ f (l.filter c)=bX (c x) (f x)+sQ _ l;rw[ih,e];rfl
  |false=>
   rw[WZ (by rw[e];simp)];show sQ f (l.filter c)=bX (c x) (f x)+sQ _ l;rw[ih,e,cm];grind
theorem fc{α β:Type}{f:β->Rat}(m:α->β):∀l:List α,sQ f (l.map m)=sQ (λx=>f (m x)) l
 | []=>rfl
 |x::l=>by
  show f (m x)+sQ f (l.map m)=f (m x)+sQ _ l;rw[fc m l]
theorem mF{f:α->Rat}{l:List α}(h:∀x∈l,0≤f x):0≤sQ f l:=by
 have:=jB (f:=λ_:α=>(0:Rat)) (g:=f) (l:=l) h;have z:∀l:List α,sQ (λ_:α=>(0:Rat)) l=0:=λl=>by
  induction l with
  |nil=>rfl
  |cons x l ih=>show(0:Rat)+_=0;rw[ih];grind
 rw[z] at this;exact this
theorem fH(d:α)(l:List α):sQ f l=sQ (λi=>f (l.getD i d)) (SC l.length):=by
 have e:=dW (β:=α) d id l;have e':(SC l.length).filter (λ_=>true)=SC l.length:=by simp
 rw[e',List.map_id] at e;have:=fc (f:=f) (λi=>id (l.getD i d)) (SC l.length);rw[e] at this;exact this
def lA(P:Nat->Bool):Rat:=sQ (λt=>bX (P t) 1) (SC 24)
theorem eI(b:Bool)(h:0≤x):0≤bX b x:=by cases b with|true=>exact h|false=>exact Ts
theorem Dq:(0:Rat)≤1:=by decide +kernel
theorem Ex(P:Nat->Bool):0≤lA P:=mF λ_ _=>eI _ Dq
theorem mw(h:∀t,t<24->P t=Q t):lA P=lA Q:=aN λt ht=>by rw[h t (SW.mp ht)]
theorem gK(h:∀t,t<24->bX (X t) 1=bX (P t) 1+bX (Q t) 1):lA X=lA P+lA Q:=by
 unfold lA;rw[←fe];exact aN λt ht=>h t (SW.mp ht)
theorem t0(ht:t<24)(h:P t=true):0<lA P:=by
 have e:=gK (X:=P) (P:=λu=>decide (u=t)) (Q:=λu=>P u&&!decide (u=t)) (λu _=>by
  by_cases c:u=t
  ·subst c;rw[h,decide_eq_true Z];show(1:Rat)=1+0;grind
  ·rw[decide_eq_false c,Zp,Yr];show bX (P u) 1=0+bX (P u) 1;grind)
 have n:=Ex λu=>P u&&!decide (u=t)
 have o:lA (λu=>decide (u=t))=1:=by
  have:∀t:Fin 24,lA (λu=>decide (u=t.1))=1:=by decide +kernel
  exact this ⟨t,ht⟩
 rw[o] at e;grind
theorem wA{P:Nat->Bool}{x:Nat}:∀d,(∀i,x≤i->i<x+d->P i=true)->sQ (λt=>bX (P t) 1) (SC (x+d))=sQ (λt=>bX (P t) 1) (SC x)+(d:Rat)
 |0,_=>by show sQ _ (SC x)=sQ _ (SC x)+((0:Nat):Rat);rw[show((0:Nat):Rat)=0 from Z];grind
 |d+1,h=>by
  have ih:=wA (P:=P) (x:=x) d λi a b=>h i a (by omega)
  rw[←Nat.add_assoc,Ua,d0,ih];show _+(bX (P (x+d)) 1+0)=_;rw[h (x+d) (by omega) (by omega),c6,show((d+1:Nat):Rat)=(d:Rat)+1 from Y6 d 1];grind
theorem sd{P:Nat->Bool}{x:Nat}:∀d,(∀i,x≤i->i<x+d->P i=false)->sQ (λt=>bX (P t) 1) (SC (x+d))=sQ (λt=>bX (P t) 1) (SC x)
 |0,_=>rfl
 |d+1,h=>by
  have ih:=sd (P:=P) (x:=x) d λi a b=>h i a (by omega)
  rw[←Nat.add_assoc,Ua,d0,ih];show _+(bX (P (x+d)) 1+0)=_;rw[h (x+d) (by omega) (by omega),cm];grind
theorem oo(P:Nat->Bool):∀k,∃x,x≤k/\(∀i,x≤i->i<k->P i=true)/\(x=0∨P (x-1)=false)
 |0=>⟨0,SD _,λi a b=>by omega,.inl Z⟩
 |k+1=>by
  cases c:P k with
  |false=>exact⟨k+1,SD _,λi a b=>by omega,.inr c⟩
  |true=>
   obtain⟨x,h1,h2,h3⟩:=oo P k;refine⟨x,by omega,λi a b=>?_,h3⟩;by_cases z:i=k
   ·rw[z];exact c
   ·exact h2 i a (by omega)
def gU(A:Nat->Bool)(w:Wk):Bool:=(SC 24).all λt=>!im w t||A t
theorem da:gU A w=true↔∀t,t<24->im w t=true->A t=true:=by
 unfold gU;rw[Vi];constructor
 ·intro h t ht e;have:=h t (SW.mpr ht);rw[e] at this
  simpa using this
 ·intro h t ht
  cases e:im w t with
  |false=>rfl
  |true=>rw[h t (SW.mp ht) e];rfl
theorem fU(h:∀t,t<24->A t=true->A' t=true)(q:gU A w=true):gU A' w=true:=da.mpr λt ht e=>h t ht (da.mp q t ht e)
def fY(w:Wk):Rat:=val w.2.2
def FM(ws:List Wk)(A:Nat->Bool):Rat:=sQ (λw=>bX (gU A w) (fY w)) ws
theorem EB(h:cn w):0<fY w:=by
 have a:=h.am;show 0<val w.2.2;unfold val;have h1:(0:Rat)<(w.2.2.1:Rat):=Uu.mpr (show(0:Int)<w.2.2.1 by have:=a.top;omega);have h2:(0:Rat)<(w.2.2.2:Rat):=Uu.mpr (show(0:Int)<w.2.2.2 by have:=a.bot;omega);generalize (w.2.2.1:Rat)=x at *;generalize (w.2.2.2:Rat)=y at *;exact(Rat.lt_div_iff h2).mpr (by grind)
theorem ph{ws:List Wk}(ok:∀w∈ws,cn w):∀w∈ws,0≤fY w:=λw hw=>Up (EB (ok w hw))
theorem wW(hx:0≤x)(h:b=true->c=true):bX b x≤bX c x:=by
 cases b with
 |false=>exact eI c hx
 |true=>rw[h Z];exact Ts
theorem G5(nn:∀w∈ws,0≤fY w)(h:∀t,t<24->A t=true->A' t=true):FM ws A≤FM ws A':=jB λw hw=>wW (nn w hw) (fU h)
theorem pH(nn:∀w∈ws,0≤fY w)(A B:Nat->Bool):FM ws A+FM ws B≤FM ws (λt=>A t||B t)+FM ws (λt=>A t&&B t):=by
 unfold FM;rw[←fe,←fe];refine jB λw hw=>?_
 have x:=nn w hw;have o1:gU A w=true->gU (λt=>A t||B t) w=true:=fU λt _ e=>by rw[e];rfl
 have o2:gU B w=true->gU (λt=>A t||B t) w=true:=fU λt _ e=>by rw[e,Y0]
 have o3:gU A w=true->gU B w=true->gU (λt=>A t&&B t) w=true:=λa b=>da.mpr λt ht e=>by rw[da.mp a t ht e,da.mp b t ht e];rfl
 have n3:=eI (gU (λt=>A t&&B t) w) x
 cases a:gU A w with
 |true=>
  cases b:gU B w with
  |true=>rw[o1 a,o3 a b];exact Ts
  |false=>rw[o1 a,c6,cm];grind
 |false=>
  cases b:gU B w with
  |true=>rw[o2 b,c6,cm];grind
  |false=>
   have n4:=eI (gU (λt=>A t||B t) w) x;rw[cm];grind
theorem jU:(bZ ((SC 24).filter q) w).isSome=!gU (λt=>!q t) w:=by
 rw[UG,iG];constructor
 ·rintro⟨t,ht,e⟩;obtain⟨h1,h2⟩:=Tw.mp ht
  cases c:gU (λt=>!q t) w with
  |false=>rfl
  |true=>
   have:=da.mp c t (SW.mp h1) e;rw[h2] at this
   cases this
 ·intro h;apply SS;intro n;have:gU (λt=>!q t) w=true:=da.mpr λt ht e=>by
   cases c:q t with
   |false=>rfl
   |true=>exact absurd ⟨t,Tw.mpr ⟨SW.mpr ht,c⟩,e⟩ n
  rw[this] at h
  cases h
def eK(ls:List Nat)(p:Pl)(w:Wk):Bool:=io p.1 p.2 (bZ ls w)
def SM(ws:List Wk)(ls:List Nat)(p:Pl):Rat:=sQ (λw=>bX (eK ls p w) (fY w)) ws
theorem yP(ws:List Wk)(ls:List Nat)(p:Pl):c7 (ws.map (bZ ls)) p=(SC ws.length).filter λi=>eK ls p (ws.getD i bh):=by
 unfold c7 eK;rw[SE];refine aai λi hi=>?_
 have hl:=SW.mp hi;have h:=Sz hl;rw[ax bh h,ax none (show(ws.map (bZ ls))[i]?=some (bZ ls ws[i]) by rw[SU,h];rfl)]
theorem EA(ws:List Wk)(ls:List Nat)(p:Pl):i3 ws (iU ws ls p)=(ws.filter (eK ls p)).map λw=>w.2.2:=by
 unfold i3 iU;rw[yP];exact fX bh (eK ls p) (λw:Wk=>w.2.2) ws
theorem kK:∀rs:List R,jW rs=sQ val rs
 | []=>rfl
 |r::rs=>by
  show val r+jW rs=val r+sQ val rs;rw[kK rs]
theorem EY(ws:List Wk)(ls:List Nat)(p:Pl):jW (i3 ws (iU ws ls p))=SM ws ls p:=by
 rw[EA,kK,fc];exact gH _ ws
theorem AZ(h:cn w):((w.2.2.1*(84*5354228880^23)/w.2.2.2:Int):Rat)=(84*5354228880^23)*fY w:=by
 obtain⟨n,hn⟩:=h.am.dvd;have b:=h.am.bot;have e:w.2.2.1*(84*5354228880^23)/w.2.2.2=w.2.2.1*n:=by
  rw[hn,Xe];exact Tt _ (by omega)
 have e2:((84*5354228880^23):Rat)=(w.2.2.2:Rat)*(n:Rat):=by
  rw[←T7,←hn];first | (rw[T7,Rat.intCast_pow];rfl)|simp|grind
 have nz:(w.2.2.2:Rat)≠0:=dE (by omega);rw[e,T7,e2];show _=_*val w.2.2;unfold val;generalize (w.2.2.1:Rat)=x at *;generalize (w.2.2.2:Rat)=y at *;generalize (n:Rat)=z at *;grind
theorem uz:∀l:List Int,((l.sum:Int):Rat)=sQ (λx:Int=>(x:Rat)) l
 | []=>rfl
 |x::l=>by
  rw[Wj,XI,uz l];rfl
theorem yJ(ok:∀w∈ws,cn w)(ls:List Nat)(p:Pl):((dJ (ws.map (bZ ls)) (jt (df ws)) p:Int):Rat)=(84*5354228880^23)*SM ws ls p:=by
 unfold dJ;have e:(c7 (ws.map (bZ ls)) p).map (jt (df ws))=(ws.filter (eK ls p)).map λw=>w.2.2.1*(84*5354228880^23)/w.2.2.2:=by
  rw[yP,←fX bh (eK ls p) (λw:Wk=>w.2.2.1*(84*5354228880^23)/w.2.2.2) ws];refine WH λi hi=>?_
  have h:=Sz (SW.mp (Tw.mp hi).1);rw[ax bh h];exact ax 0 (by unfold df;rw[SU,h];rfl)
 rw[e,uz,fc,gH];unfold SM;rw[←di];refine aN λw hw=>?_
 rw[AZ (ok w hw)]
 cases eK ls p w with
 |true=>rfl
 |false=>show(0:Rat)=(84*5354228880^23)*0;grind
theorem k7(h:ju n p):(0:Rat)<(cU p:Rat):=Uu.mpr h.pos
theorem A3(ok:∀w∈ws,cn w)(h:EU ws ls p)(hr:ju ls.length r):SM ws ls r*(cU p:Rat)≤SM ws ls p*(cU r:Rat):=by
 have a:dJ (ws.map (bZ ls)) (jt (df ws)) r*cU p≤dJ (ws.map (bZ ls)) (jt (df ws)) p*cU r:=by
  rcases h.1.all r hr with z | ⟨z,_⟩<;>omega
 have b:=Rat.intCast_le_intCast.mpr a;rw[T7,T7,yJ ok,yJ ok] at b;generalize SM ws ls r=x at *;generalize SM ws ls p=y at *;generalize (cU p:Rat)=u at *;generalize (cU r:Rat)=v at *;grind
theorem Aq(h:eK ls p w=true):(bZ ls w).isSome=true:=by
 unfold eK at h
 cases c:bZ ls w with
 |none=>rw[c] at h;cases h
 |some x=>rfl
theorem Ea(e:bZ ls w=some (a,b)):eK ls p w=(decide (p.1≤a)&&decide (b≤p.2)):=by
 unfold eK;rw[e];rfl
def nx(q:Nat->Bool)(p:Pl):Nat->Bool:=λt=>!(dU ((SC 24).filter q) p).contains t&&q t
theorem kP(q:Nat->Bool)(p:Pl):eO ((SC 24).filter q) p=(SC 24).filter (nx q p):=by
 unfold eO nx;rw[ZU]
theorem HX(q:Nat->Bool):((SC 24).filter q).Nodup:=Vq _ Wz
theorem Na(hp:ju ((SC 24).filter q).length p):FM ws (λt=>!nx q p t)=FM ws (λt=>!q t)+SM ws ((SC 24).filter q) p:=by
 unfold FM SM;rw[←fe];refine aN λw _=>?_
 have e:=qk (w:=w) (HX q) hp;rw[kP,jU,jU] at e;have hs:=Aq (ls:=(SC 24).filter q) (p:=p) (w:=w);rw[jU] at hs;show bX (gU _ w) _=bX (gU _ w) _+bX (eK _ p w) _;have e':gU (λt=>!nx q p t) w=(gU (λt=>!q t) w||eK ((SC 24).filter q) p w):=by
  have:io p.1 p.2 (bZ ((SC 24).filter q) w)=eK ((SC 24).filter q) p w:=Z;rw[this] at e
  cases a:gU (λt=>!nx q p t) w<;>cases b:gU (λt=>!q t) w<;>cases c:eK ((SC 24).filter q) p w<;>rw[a,b,c] at e<;>first|rfl|cases e
 rw[e']
 cases b:gU (λt=>!q t) w with
 |true=>
  cases c:eK ((SC 24).filter q) p w with
  |true=>rw[b] at hs;cases hs c
  |false=>show fY w=fY w+0;grind
 |false=>
  cases c:eK ((SC 24).filter q) p w with
  |true=>show fY w=0+fY w;grind
  |false=>show(0:Rat)=0+0;grind
theorem Ey(q P:Nat->Bool):lA (λt=>q t&&P t)=sQ (λi=>bX (P (((SC 24).filter q).getD i 0)) 1) (SC ((SC 24).filter q).length):=by
 rw[←fH (f:=λt=>bX (P t) 1) 0 ((SC 24).filter q),gH];refine aN λt _=>?_
 show bX (q t&&P t) 1=bX (q t) (bX (P t) 1)
 cases q t<;>rfl
theorem DH(hp:ju ((SC 24).filter q).length p):lA (λt=>q t&&!nx q p t)=(cU p:Rat):=by
 have e1:lA (λt=>q t&&!nx q p t)=lA (λt=>q t&&(dU ((SC 24).filter q) p).contains t):=mw λt _=>by
  unfold nx
  cases q t<;>cases(dU ((SC 24).filter q) p).contains t<;>rfl
 rw[e1,Ey];have h1:=hp.1;have h2:=hp.2;have e2:sQ (λi=>bX ((dU ((SC 24).filter q) p).contains (((SC 24).filter q).getD i 0)) 1) (SC ((SC 24).filter q).length)=sQ (λi=>bX (decide (p.1≤i)&&decide (i≤p.2)) 1) (SC ((SC 24).filter q).length):=aN λi hi=>by
  have hi':=SW.mp hi;have m:=tD (HX q) hp hi';rw[ax 0 (Sz hi')]
  congr 1
  rw[UG,VH,m,Ta,decide_eq_true_iff,decide_eq_true_iff]
 rw[e2];generalize ((SC 24).filter q).length=n at *;obtain⟨d,rfl⟩:∃d,n=(p.2+1)+d:=⟨n-(p.2+1),by omega⟩;rw[sd (x:=p.2+1) d λi a b=>by rw[decide_eq_false (show ¬i≤p.2 by omega),UY]];obtain⟨e,he⟩:∃e,p.2+1=p.1+e:=⟨p.2+1-p.1,by omega⟩;rw[he,wA (x:=p.1) e λi a b=>by rw[decide_eq_true a,decide_eq_true (show i≤p.2 by omega)];rfl];have z:=sd (P:=λi=>decide (p.1≤i)&&decide (i≤p.2)) (x:=0) p.1 λi a b=>by
  show(decide (p.1≤i)&&_)=false;rw[decide_eq_false (show ¬p.1≤i by omega)];rfl
 rw[YZ] at z;rw[z];show(0:Rat)+(e:Rat)=_;have:cU p=(e:Int):=by unfold cU;omega
 rw[this,Vc];grind
theorem zO(q:Nat->Bool):((SC 24).filter q).Pairwise (· < ·):=Vq _ YY
theorem FO(e:bZ ((SC 24).filter q) w=some (a,b))(h1:a≤i)(h2:i≤b):i∈hX ((SC 24).filter q) w:=by
 obtain⟨m1,m2,_⟩:=kH e;have srt:=Vf.mp (zO q);generalize (SC 24).filter q=ls at *;obtain⟨la,wa⟩:=fJ.mp m1;obtain⟨lb,wb⟩:=fJ.mp m2;have li:i<ls.length:=by omega
 rw[ax 0 (Sz la)] at wa;rw[ax 0 (Sz lb)] at wb;refine fJ.mpr ⟨li,?_⟩;rw[ax 0 (Sz li)];unfold im at wa wb ⊢;rw[Ta,decide_eq_true_iff,decide_eq_true_iff] at wa wb ⊢;have u1:ls[a]≤ls[i]:=by
  by_cases z:a=i
  ·subst z;exact SD _
  ·exact VN (srt a i la li (by omega))
 have u2:ls[i]≤ls[b]:=by
  by_cases z:i=b
  ·subst z;exact SD _
  ·exact VN (srt i b li lb (by omega))
 omega
def gB(ls:List Nat)(P:Nat->Bool)(k:Nat)(w:Wk):Bool:=(bZ ls w).isSome&&(hX ls w).all λi=>decide (i<k)&&P i
theorem mh:gB ls P k w=true↔(bZ ls w).isSome=true/\∀i∈hX ls w,i<k/\P i=true:=by
 unfold gB;rw[Ta,Vi];constructor
 ·rintro⟨a,b⟩;refine⟨a,λi hi=>?_⟩;have:=b i hi;rw[Ta,decide_eq_true_iff] at this;exact this
 ·rintro⟨a,b⟩;refine⟨a,λi hi=>?_⟩;rw[Ta,decide_eq_true_iff];exact b i hi
def GM(ws:List Wk)(ls:List Nat)(P:Nat->Bool)(k:Nat):Rat:=sQ (λw=>bX (gB ls P k w) (fY w)) ws
theorem NZ(ok:∀w∈ws,cn w)(h:EU ws ((SC 24).filter q) p)(P:Nat->Bool):∀n k,k≤n->k≤((SC 24).filter q).length->GM ws ((SC 24).filter q) P k*(cU p:Rat)≤SM ws ((SC 24).filter q) p*sQ (λi=>bX (P i) 1) (SC k):=by
 have nn:=ph ok;have lp:=k7 h.1.inn;intro n
 induction n with
 |zero=>
  intro k hk _;obtain rfl:k=0:=by omega
  have z:GM ws ((SC 24).filter q) P 0=0:=by
   have le:GM ws ((SC 24).filter q) P 0≤sQ (λ_:Wk=>bX false 0) ws:=jB λw _=>by
    cases c:gB ((SC 24).filter q) P 0 w with
    |false=>exact Ts
    |true=>
     obtain⟨a,b⟩:=mh.mp c;obtain⟨⟨x,y⟩,e⟩:=UV.mp a;have:=(b x (kH e).1).1;omega
   have z0:∀l:List Wk,sQ (λ_:Wk=>bX false 0) l=0:=λl=>by
    induction l with
    |nil=>rfl
    |cons x l ih=>show bX false 0+_=0;rw[ih,cm];grind
   rw[z0] at le;have ge:0≤GM ws ((SC 24).filter q) P 0:=mF λw hw=>eI _ (nn w hw)
   grind
  rw[z];show(0:Rat)*_≤_*0;grind
 |succ n ih=>
  intro k hk hl;by_cases k0:k≤n
  ·exact ih k k0 hl
  obtain rfl:k=n+1:=by omega
  cases c:P n with
  |false=>
   have e:GM ws ((SC 24).filter q) P (n+1)≤GM ws ((SC 24).filter q) P n:=jB λw hw=>wW (nn w hw) λg=>by
    obtain⟨a,b⟩:=mh.mp g;refine mh.mpr ⟨a,λi hi=>?_⟩;obtain⟨x,y⟩:=b i hi;refine⟨?_,y⟩;by_cases z:i=n
    ·rw[z,c] at y;cases y
    ·omega
   have e2:=Ue e (Up lp);have i1:=ih n (SD _) (by omega);rw[Ua (n:=n),d0];show _≤_*(_+(bX (P n) 1+0));rw[c,cm];grind
  |true=>
   obtain⟨x,x1,x2,x3⟩:=oo P (n+1);have xn:x≤n:=by
    by_cases z:x=n+1
    ·subst z;rcases x3 with y|y
     ·omega
     ·rw[show n+1-1=n by omega,c] at y;cases y
    ·omega
   have e:GM ws ((SC 24).filter q) P (n+1)≤GM ws ((SC 24).filter q) P x+SM ws ((SC 24).filter q) (x,n):=by
    unfold GM SM;rw[←fe];refine jB λw hw=>?_
    have w0:=nn w hw;have n1:=eI (gB ((SC 24).filter q) P x w) w0;have n2:=eI (eK ((SC 24).filter q) (x,n) w) w0
    cases g:gB ((SC 24).filter q) P (n+1) w with
    |false=>rw[cm];grind
    |true=>
     obtain⟨a,b⟩:=mh.mp g;obtain⟨⟨u,v⟩,eu⟩:=UV.mp a;obtain⟨m1,m2,bd⟩:=kH eu;by_cases z:v<x
     ·have:gB ((SC 24).filter q) P x w=true:=mh.mpr ⟨a,λi hi=>⟨by have:=bd i hi;omega,(b i hi).2⟩⟩;rw[this,c6];grind
     ·have xu:x≤u:=by
       apply SS;intro nu;have m:=FO eu (i:=x-1) (by omega) (by omega);have y:=(b _ m).2;rcases x3 with y'|y'
       ·omega
       ·rw[y'] at y;cases y
      have vn:=(b v m2).1;have:eK ((SC 24).filter q) (x,n) w=true:=by
       rw[Ea eu,Ta,decide_eq_true_iff,decide_eq_true_iff];exact⟨xu,by show v≤n;omega⟩
      rw[this,c6];grind
   have i1:=ih x xn (by omega);have t1:=A3 ok h (r:=(x,n)) ⟨xn,by show n<_;omega⟩;obtain⟨d,hd⟩:∃d,n+1=x+d:=⟨n+1-x,by omega⟩;have r:=wA (P:=P) (x:=x) d λi a b=>x2 i a (by omega)
   rw[←hd] at r;rw[r];have ld:(cU (x,n):Rat)=(d:Rat):=by
    have:cU (x,n)=(d:Int):=by show(n:Int)-(x:Int)+1=_;omega
    rw[this,Vc]
   rw[ld] at t1;have e2:=Ue e (Up lp);generalize GM ws ((SC 24).filter q) P (n+1)=g1 at *;generalize GM ws ((SC 24).filter q) P x=g0 at *;generalize SM ws ((SC 24).filter q) (x,n)=s1 at *;generalize SM ws ((SC 24).filter q) p=sp at *;generalize (cU p:Rat)=l at *;generalize sQ (λt=>bX (P t) 1) (SC x)=c0 at *;generalize (d:Rat)=dd at *;grind
theorem KY(ok:∀w∈ws,cn w)(h:EU ws ((SC 24).filter q) p)(hA:∀t,t<24->q t=false->A t=true):(FM ws A-FM ws (λt=>!q t))*(cU p:Rat)≤SM ws ((SC 24).filter q) p*lA (λt=>q t&&A t):=by
 have g:=NZ ok h (λi=>A (((SC 24).filter q).getD i 0)) _ _ (SD _) (SD ((SC 24).filter q).length);rw[Ey];have e:FM ws A=FM ws (λt=>!q t)+GM ws ((SC 24).filter q) (λi=>A (((SC 24).filter q).getD i 0)) ((SC 24).filter q).length:=by
  unfold FM GM;rw[←fe];refine aN λw _=>?_
  have wi:=jU (q:=q) (w:=w)
  cases c:gU (λt=>!q t) w with
  |true=>
   have g0:gB ((SC 24).filter q) (λi=>A (((SC 24).filter q).getD i 0)) ((SC 24).filter q).length w=false:=by
    unfold gB;rw[wi,c];rfl
   have a1:gU A w=true:=fU (λt ht e=>hA t ht (by simpa using e)) c;rw[g0,a1,c6,cm];grind
  |false=>
   rw[c] at wi;have eq:gU A w=gB ((SC 24).filter q) (λi=>A (((SC 24).filter q).getD i 0)) ((SC 24).filter q).length w:=by
    rw[UG,mh,da];constructor
    ·intro z;refine⟨wi,λi hi=>?_⟩;obtain⟨li,wl⟩:=fJ.mp hi;refine⟨li,?_⟩;have m:=S2 li;rw[ax 0 (Sz li)] at wl ⊢;exact z _ (SW.mp (Tw.mp m).1) wl
    ·rintro⟨_,z⟩ t ht e
     cases cq:q t with
     |false=>exact hA t ht cq
     |true=>
      obtain⟨i,li,ei⟩:=T0.mp (Tw.mpr ⟨SW.mpr ht,cq⟩);have gd:((SC 24).filter q).getD i 0=t:=by rw[ax 0 (Sz li)];exact ei
      have y:=(z i (fJ.mpr ⟨li,by rw[gd];exact e⟩)).2;rw[gd] at y;exact y
   rw[eq,cm];grind
 rw[e];grind
def EO(ws:List Wk):List Ly->Nat->Option R
 | [],_=>none
 |y::r,t=>if y.1.contains t then some (eC ws y) else EO ws r t
theorem n5(ws:List Wk)(y:Ly)(r:List Ly)(t:Nat):EO ws (y::r) t=if y.1.contains t then some (eC ws y) else EO ws r t:=by rw[EO]
def iL(ws:List Wk)(lys:List Ly)(t:Nat):Rat:=match EO ws lys t with
 |none=>0
 |some r=>val r
theorem rQ(ws:List Wk)(t:Nat):iL ws [] t=0:=Z
theorem iK(ws:List Wk)(y:Ly)(r:List Ly)(t:Nat):iL ws (y::r) t=if y.1.contains t then val (eC ws y) else iL ws r t:=by
 unfold iL;rw[n5]
 cases y.1.contains t<;>rfl
theorem BC(h:iu ws ls lys):(EO ws lys t).isSome=true->t∈ls:=by
 induction h with
 |nil z=>intro e;cases e
 | @cons ls p r h tl ih=>
  intro e;rw[n5] at e
  cases c:(iU ws ls p).1.contains t with
  |true=>exact XA (Uv (show t∈(ls.drop p.1).take (p.2+1-p.1) from VH.mp c))
  |false=>
   rw[c] at e;exact(Tw.mp (ih e)).1
theorem uN(r:R)(d:R):∀(ts:List Nat) (ss:List R) (t:Nat),t<ss.length->(jx r ss ts).getD t d=if ts.contains t then r else ss.getD t d
 | [],ss,t,_=>rfl
 |u::ts,ss,t,h=>by
  show(jx r (ss.set u r) ts).getD t d=_;rw[uN r d ts (ss.set u r) t (by rw[UH];exact h),ZT]
  cases c:ts.contains t with
  |true=>simp
  |false=>
   by_cases z:t=u
   ·subst z;simp[SG,h]
   ·have z':¬u=t:=λq=>z q.symm
    simp[SG,z,z',Ug]
theorem Fa(h:iu ws ls lys):∀(ss:List R) (t:Nat) (d:R),t<ss.length->(lys.foldl (λss y=>jx (eC ws y) ss y.1) ss).getD t d=(EO ws lys t).getD (ss.getD t d):=by
 induction h with
 |nil z=>intro ss t d _;rfl
 | @cons ls p r h tl ih=>
  intro ss t d ht;rw[Uz,ih _ t d (by rw[og];exact ht),uN _ _ _ _ _ ht,n5]
  cases c:(iU ws ls p).1.contains t with
  |false=>rfl
  |true=>
   have:EO ws r t=none:=by
    cases e:EO ws r t with
    |none=>rfl
    |some x=>
     have m:=BC tl (t:=t) (by rw[e];rfl);have:=(Tw.mp m).2;rw[show(dU ls p).contains t=true from c] at this
     cases this
   rw[this];rfl
theorem kN(h:iu ws (SC 24) lys)(ht:t<24)(d:R):val ((bn ws lys).getD t d)=iL ws lys t:=by
 unfold bn;rw[Fa h _ t d (by rw[VG];exact ht)];unfold iL
 cases EO ws lys t with
 |some r=>rfl
 |none=>
  show val ((Tq 24 ((0,1):R)).getD t d)=0;rw[ax d (show(Tq 24 ((0,1):R))[t]?=some (0,1) by rw[V2,if_pos ht])];exact gY
theorem GR(ok:∀w∈ws,cn w)(ls:List Nat)(p:Pl):∀r∈i3 ws (iU ws ls p),gW r:=by
 intro r hr;rw[EA] at hr;obtain⟨w,hw,rfl⟩:=SR.mp hr;exact(ok w (Tw.mp hw).1).am.wf.red
theorem GL(hp:ju ls.length p):(((dU ls p).length:Nat):Rat)=(cU p:Rat):=by
 have h1:=hp.1;have h2:=hp.2;have e:(dU ls p).length=p.2+1-p.1:=by unfold dU;rw[Uk,V3];omega
 have:cU p=(((dU ls p).length:Nat):Int):=by rw[e];unfold cU;omega
 rw[this,Vc]
theorem m7(ok:∀w∈ws,cn w)(hp:ju ls.length p):val (eC ws (iU ws ls p))*(cU p:Rat)=SM ws ls p:=by
 obtain⟨rd,e⟩:=jd (GR ok ls p);have lp:=k7 hp;have cl:=GL hp;have pos:(0:Int)<(((iU ws ls p).1.length:Nat):Int):=by
  refine Uu.mp ?_;rw[Vc];show((0:Int):Rat)<(((dU ls p).length:Nat):Rat);rw[cl];exact lp
 unfold eC;rw[eJ rd.pos pos,e,EY];have v1:val ((1,(((iU ws ls p).1.length:Nat):Int)):R)=1/(cU p:Rat):=by
  unfold val;show((1:Int):Rat)/((((dU ls p).length:Nat):Int):Rat)=_;rw[Vc,cl];rfl
 rw[v1];generalize SM ws ls p=s at *;generalize (cU p:Rat)=l at *;have:l≠0:=λz=>by rw[z] at lp;exact absurd lp (by decide +kernel)
 grind
theorem NG(ok:∀w∈ws,cn w)(ls:List Nat)(p:Pl):0≤SM ws ls p:=mF λw hw=>eI _ (ph ok w hw)
theorem IB(ok:∀w∈ws,cn w)(hp:ju ls.length p):0≤val (eC ws (iU ws ls p)):=by
 have e:=m7 ok hp;have s:=NG ok ls p;have lp:=k7 hp;rw[←e] at s;generalize val (eC ws (iU ws ls p))=d at *;generalize (cU p:Rat)=l at *;by_cases z:0≤d
 ·exact z
 ·have z':d<0:=Wx.mp z;have:=U5 z' lp;grind
theorem BB(ok:∀w∈ws,cn w)(h:iu ws ls lys)(t:Nat):0≤iL ws lys t:=by
 induction h with
 |nil z=>exact Ts
 | @cons ls p r h tl ih=>
  rw[iK]
  cases c:(iU ws ls p).1.contains t with
  |true=>exact IB ok h.1.inn
  |false=>exact ih
theorem iW(ok:∀w∈ws,cn w)(h:EU ws ((SC 24).filter q) p)(hA:∀t,t<24->q t=false->A t=true):FM ws A-FM ws (λt=>!q t)≤val (eC ws (iU ws ((SC 24).filter q) p))*lA (λt=>q t&&A t):=by
 have g:=KY ok h hA;have e:=m7 ok h.1.inn;have lp:=k7 h.1.inn;rw[←e] at g;generalize FM ws A-FM ws (λt=>!q t)=x at *;generalize val (eC ws (iU ws ((SC 24).filter q) p))=d at *;generalize lA (λt=>q t&&A t)=c at *;generalize (cU p:Rat)=l at *;by_cases z:x≤d*c
 ·exact z
 ·have z':d*c<x:=Wx.mp z;have:=U5 z' lp;grind
theorem Kv{a b c:Rat}(h:a≤b)(hc:0≤c):a*c≤b*c:=Ue h hc
theorem Ai{a b c:Rat}(hc:0<c)(h:a*c≤b*c):a≤b:=by
 by_cases z:a≤b
 ·exact z
 ·have:=U5 (Wx.mp z) hc;grind
theorem RG{d c1 c2 l f0 fC:Rat}(g:fC-f0≤d*c2)(sp:l=c1+c2):d*c1≤f0+d*l-fC:=by
 subst sp;rw[aaJ];grind
theorem RF{d s0 c1 c2 l f0 fA fN:Rat}(g:fA-f0≤d*c2)(k0:s0*c1≤fA-fN)(nF:fN=f0+d*l)(sp:c2=c1+l):s0*c1≤d*c1:=by
 subst sp nF;rw[aaJ] at g;grind
theorem RE{d s0 c1 c2 c3 l f1 f2 f3 f4 f5:Rat}(k1:s0*c2≤f4-f1)(k2:f3+(f5+d*l)≤f1+f2)(g2:f2-f5≤d*c3)(sp2:l=c1+c3)(m:s0*c1≤d*c1):s0*(c2+c1)≤f4-f3:=by
 subst sp2;rw[aaJ] at k2 ⊢;grind
theorem tH:(dU ((SC 24).filter q) p).contains t=true->q t=true:=λh=>by
 have:=XA (Uv (show t∈(((SC 24).filter q).drop p.1).take (p.2+1-p.1) from VH.mp h));exact(Tw.mp this).2
theorem OV(ok:∀w∈ws,cn w)(h:iu ws ls lys):∀(q:Nat->Bool),ls=(SC 24).filter q->∀t,t<24->0<iL ws lys t->∃A:Nat->Bool,A t=true/\q t=true/\(∀u,u<24->q u=false->A u=true)/\∀C:Nat->Bool,(∀u,u<24->q u=false->C u=true)->(∀u,u<24->C u=true->A u=true)->iL ws lys t*lA (λu=>A u&&!C u)≤FM ws A-FM ws C:=by
 have nn:=ph ok
 induction h with
 |nil z=>intro q e t ht s;exact absurd s (by rw[rQ];decide +kernel)
 | @cons ls p r h tl ih=>
  intro q e t ht s;subst e;have hp:ju ((SC 24).filter q).length p:=h.1.inn;have nF:=Na (ws:=ws) hp;have nC:=DH hp;have sv:=m7 ok hp;rw[iK] at s ⊢
  cases c:(iU ws ((SC 24).filter q) p).1.contains t with
  |true=>
   rw[c,if_pos Z] at s;rw[if_pos Z];have qt:=tH (q:=q) (p:=p) c;refine⟨λu=>!nx q p u,?_,qt,λu _ qu=>?_,λC hC hA=>?_⟩
   ·show(!nx q p t)=true;unfold nx;rw[show(dU ((SC 24).filter q) p).contains t=true from c];rfl
   ·show(!nx q p u)=true;unfold nx;rw[qu,UY];rfl
   ·have g:=iW ok h hC;have sp:=gK (X:=λt=>q t&&!nx q p t) (P:=λu=>!nx q p u&&!C u) (Q:=λt=>q t&&C t) (λu hu=>by
     have a1:=hC u hu;have a2:C u=true->(!nx q p u)=true:=hA u hu;show bX (q u&&!nx q p u) 1=bX (!nx q p u&&!C u) 1+bX (q u&&C u) 1
     cases x:q u<;>cases y:nx q p u<;>cases z:C u<;>rw[x,z] at a1<;>rw[y,z] at a2<;>first | (exact absurd (a1 Z) (by decide)) | (exact absurd (a2 Z) (by decide)) | (show(1:Rat)=1+0;grind) | (show(1:Rat)=0+1;grind) | (show(0:Rat)=0+0;grind))
    rw[nC] at sp;rw[nF,←sv];exact RG g sp
  |false=>
   rw[c,if_neg (by simp)] at s;rw[if_neg (by simp)];obtain⟨A,At,nt,hA,key⟩:=ih (nx q p) (kP q p) t ht s;have nq:∀u,nx q p u=true->q u=true:=λu e=>by
    unfold nx at e;rw[Ta] at e;exact e.2
   have hA':∀u,u<24->q u=false->A u=true:=λu hu e=>hA u hu (by cases x:nx q p u with|false=>rfl|true=>rw[nq u x] at e;cases e)
   have g:=iW ok h hA';have k0:=key (λu=>!nx q p u) (λu _ e=>by show(!nx q p u)=true;rw[e];rfl) (λu hu e=>hA u hu (by simpa using e));have pos:0<lA (λu=>A u&&!!nx q p u):=t0 ht (by show(A t&&!!nx q p t)=true;rw[At,nt];rfl);have sp:=gK (X:=λt=>q t&&A t) (P:=λu=>A u&&!!nx q p u) (Q:=λt=>q t&&!nx q p t) (λu hu=>by
    have a1:=nq u;have a2:=hA u hu;show bX (q u&&A u) 1=bX (A u&&!!nx q p u) 1+bX (q u&&!nx q p u) 1
    cases x:q u<;>cases y:nx q p u<;>cases z:A u<;>rw[x,y] at a1<;>rw[y,z] at a2<;>first | (exact absurd (a1 Z) (by decide)) | (exact absurd (a2 Z) (by decide)) | (show(1:Rat)=1+0;grind) | (show(1:Rat)=0+1;grind) | (show(0:Rat)=0+0;grind))
   rw[nC] at sp;have dle:iL ws r t≤val (eC ws (iU ws ((SC 24).filter q) p)):=by
    refine Ai pos ?_;rw[←sv] at nF;exact RF g k0 nF sp
   refine⟨A,At,nq t nt,hA',λC hC hCA=>?_⟩;have k1:=key (λu=>C u||!nx q p u) (λu _ e=>by show(C u||!nx q p u)=true;rw[e,Zp,Y0]) (λu hu e=>by
    cases x:nx q p u with
    |false=>exact hA u hu x
    |true=>
     have e':(C u||!nx q p u)=true:=e;rw[x,Yo,abe] at e';exact hCA u hu e')
   have k2:=pH nn C (λu=>!nx q p u);have g2:=iW ok h (A:=λt=>C t&&!nx q p t) (λu hu e=>by
    show(C u&&!nx q p u)=true;rw[hC u hu e];unfold nx;rw[e,UY];rfl)
   have sp2:=gK (X:=λt=>q t&&!nx q p t) (P:=λu=>!nx q p u&&!C u) (Q:=λt=>q t&&(C t&&!nx q p t)) (λu hu=>by
    have a1:=hC u hu;have a2:=nq u;show bX (q u&&!nx q p u) 1=bX (!nx q p u&&!C u) 1+bX (q u&&(C u&&!nx q p u)) 1
    cases x:q u<;>cases y:nx q p u<;>cases z:C u<;>rw[x,z] at a1<;>rw[x,y] at a2<;>first | (exact absurd (a1 Z) (by decide)) | (exact absurd (a2 Z) (by decide)) | (show(1:Rat)=1+0;grind) | (show(1:Rat)=0+1;grind) | (show(0:Rat)=0+0;grind))
   rw[nC] at sp2;have sp3:=gK (X:=λu=>A u&&!C u) (P:=λu=>A u&&!(C u||!nx q p u)) (Q:=λu=>!nx q p u&&!C u) (λu hu=>by
    have a1:=hA u hu;show bX (A u&&!C u) 1=bX (A u&&!(C u||!nx q p u)) 1+bX (!nx q p u&&!C u) 1
    cases x:A u<;>cases y:nx q p u<;>cases z:C u<;>rw[x,y] at a1<;>first | (exact absurd (a1 Z) (by decide)) | (show(1:Rat)=1+0;grind) | (show(1:Rat)=0+1;grind) | (show(0:Rat)=0+0;grind))
   have m:=Kv dle (Ex λu=>!nx q p u&&!C u);rw[nF,←sv] at k2;rw[sp3];exact RE k1 k2 g2 sp2 m
theorem RD{d d1 c x:Rat}(h:x≤d1*c)(l:d1<d)(hc:0<c):x<d*c:=by
 have:=U5 l hc;grind
theorem OU(ok:∀w∈ws,cn w)(h:iu ws ls lys):∀(q:Nat->Bool),ls=(SC 24).filter q->∀d:Rat,0<d->∃B:Nat->Bool,(∀u,u<24->q u=false->B u=true)/\(∀u,u<24->q u=true->B u=true->d≤iL ws lys u)/\∀A:Nat->Bool,(∀u,u<24->B u=true->A u=true)->0<lA (λu=>A u&&!B u)->FM ws A-FM ws B<d*lA (λu=>A u&&!B u):=by
 induction h with
 | @nil ls z=>
  intro q e d hd;subst e;refine⟨λu=>!q u,λu _ e=>by show(!q u)=true;rw[e];rfl,λu _ a b=>?_,λA hA pos=>?_⟩
  ·have b':(!q u)=true:=b;rw[a] at b'
   cases b'
  ·have e:FM ws A=FM ws (λu=>!q u):=aN λw hw=>by
    have n:=Vb.mp z w hw;rw[jU] at n;have i0:gU (λt=>!q t) w=true:=by simpa using n
    rw[i0,fU hA i0]
   rw[e];have:=Zn hd pos;grind
 | @cons ls p r h tl ih=>
  intro q e d hd;subst e;by_cases c:val (eC ws (iU ws ((SC 24).filter q) p))<d
  ·refine⟨λu=>!q u,λu _ e=>by show(!q u)=true;rw[e];rfl,λu _ a b=>?_,λA hA pos=>?_⟩
   ·have b':(!q u)=true:=b;rw[a] at b'
    cases b'
   ·have g:=iW ok h (A:=A) λt ht e=>hA t ht (by show(!q t)=true;rw[e];rfl)
    have e:lA (λu=>A u&&!!q u)=lA (λt=>q t&&A t):=mw λu _=>by cases A u<;>cases q u<;>rfl
    rw[e] at pos ⊢;exact RD g c pos
  ·obtain⟨B,h1,h2,h3⟩:=ih (nx q p) (kP q p) d hd;refine⟨B,λu hu e=>h1 u hu (by unfold nx;rw[e,UY]),λu hu a b=>?_,h3⟩;rw[iK]
   cases cu:(iU ws ((SC 24).filter q) p).1.contains u with
   |true=>exact WT.mp c
   |false=>
    refine h2 u hu ?_ b;unfold nx;rw[show(dU ((SC 24).filter q) p).contains u=false from cu,a];rfl
theorem zp(ok:∀w∈ws,cn w):FM ws (λ_=>false)=0:=by
 have e:FM ws (λ_=>false)=sQ (λ_:Wk=>0*(0:Rat)) ws:=aN λw hw=>by
  have:gU (λ_=>false) w=false:=by
   cases c:gU (λ_=>false) w with
   |false=>rfl
   |true=>
    have o:=ok w hw;have l1:=o.le;have l2:=o.lt;have:=da.mp c w.1 (by omega) (by unfold im;rw[decide_eq_true (SD _),decide_eq_true l1];rfl)
    cases this
  rw[this,cm];grind
 rw[e,di];grind
theorem ID(ok:∀w∈ws,cn w)(h:iu ws ls lys):∀(q:Nat->Bool),ls=(SC 24).filter q->sQ (λt=>bX (q t) (iL ws lys t)) (SC 24)=FM ws (λ_=>true)-FM ws (λt=>!q t):=by
 induction h with
 | @nil ls z=>
  intro q e;subst e;have e:FM ws (λ_=>true)=FM ws (λu=>!q u):=aN λw hw=>by
   have n:=Vb.mp z w hw;rw[jU] at n;have i0:gU (λt=>!q t) w=true:=by simpa using n
   rw[i0,fU (λ_ _ _=>Z) i0]
  rw[e];have e2:sQ (λt=>bX (q t) (iL ws [] t)) (SC 24)=sQ (λ_:Nat=>0*(0:Rat)) (SC 24):=aN λt _=>by
   rw[rQ]
   cases q t with
   |true=>rw[c6];grind
   |false=>rw[cm];grind
  rw[e2,di];grind
 | @cons ls p r h tl ih=>
  intro q e;subst e;have hp:ju ((SC 24).filter q).length p:=h.1.inn;have i1:=ih (nx q p) (kP q p);have nF:=Na (ws:=ws) hp;have nC:=DH hp;have sv:=m7 ok hp;have e2:sQ (λt=>bX (q t) (iL ws (iU ws ((SC 24).filter q) p::r) t)) (SC 24)=sQ (λt=>bX (nx q p t) (iL ws r t)+val (eC ws (iU ws ((SC 24).filter q) p))*bX (q t&&!nx q p t) 1) (SC 24):=aN λt ht=>by
   rw[iK];have n:nx q p t=(!(dU ((SC 24).filter q) p).contains t&&q t):=Z;have lf:=tH (q:=q) (p:=p) (t:=t);rw[show(iU ws ((SC 24).filter q) p).1.contains t=(dU ((SC 24).filter q) p).contains t from Z]
   cases a:(dU ((SC 24).filter q) p).contains t with
   |true=>
    rw[a] at n lf;rw[lf Z,n];show val _=0+val _*1;grind
   |false=>
    rw[a] at n;rw[n]
    cases q t with
    |true=>show iL ws r t=iL ws r t+_*0;grind
    |false=>show(0:Rat)=0+_*0;grind
  rw[e2,fe,i1,di];have:sQ (λt=>bX (q t&&!nx q p t) 1) (SC 24)=(cU p:Rat):=nC;rw[this,sv,nF];grind
theorem G6(ws:List Wk):FM ws (λ_=>true)=sQ fY ws:=aN λw _=>by
 have:gU (λ_=>true) w=true:=da.mpr λ_ _ _=>Z
 rw[this];rfl
theorem cap(ok:∀w∈ws,cn w)(h:iu ws ls lys):∀(q A:Nat->Bool),ls=(SC 24).filter q->(∀t,t<24->q t=false->A t=true)->FM ws A-FM ws (λt=>!q t)≤sQ (λt=>bX (q t&&A t) (iL ws lys t)) (SC 24):=by
 induction h with
 | @nil ls z=>
  intro q A e hA;subst e;have e:FM ws (λ_=>true)=FM ws (λu=>!q u):=aN λw hw=>by
   have n:=Vb.mp z w hw;rw[jU] at n;have i0:gU (λt=>!q t) w=true:=by simpa using n
   rw[i0,fU (λ_ _ _=>Z) i0]
  have m:=G5 (ph ok) (A:=A) (A':=λ_=>true) (λ_ _ _=>Z);have nn:0≤sQ (λt=>bX (q t&&A t) (iL ws [] t)) (SC 24):=mF λt _=>eI _ (by rw[rQ];exact Ts)
  rw[e] at m;grind
 | @cons ls p r h tl ih=>
  intro q A e hA;subst e;have i1:=ih (nx q p) (λt=>A t||!nx q p t) (kP q p) (λt _ hn=>by
   show(A t||!nx q p t)=true;rw[hn];exact Y0 _)
  have g:=iW ok h (A:=λt=>A t&&!nx q p t) (λt ht hq=>by
   show(A t&&!nx q p t)=true;rw[hA t ht hq];unfold nx;rw[hq,UY];rfl)
  have sup:=pH (ph ok) A (λt=>!nx q p t);have e2:sQ (λt=>bX (q t&&A t) (iL ws (iU ws ((SC 24).filter q) p::r) t)) (SC 24)=sQ (λt=>bX (nx q p t&&(A t||!nx q p t)) (iL ws r t)+val (eC ws (iU ws ((SC 24).filter q) p))*bX (q t&&(A t&&!nx q p t)) 1) (SC 24):=aN λt ht=>by
   rw[iK];have n:nx q p t=(!(dU ((SC 24).filter q) p).contains t&&q t):=Z;have lf:=tH (q:=q) (p:=p) (t:=t);rw[show(iU ws ((SC 24).filter q) p).1.contains t=(dU ((SC 24).filter q) p).contains t from Z]
   cases a:(dU ((SC 24).filter q) p).contains t with
   |true=>
    rw[a] at n lf;rw[lf Z,n]
    cases A t with
    |true=>show val _=0+val _*1;grind
    |false=>show(0:Rat)=0+val _*0;grind
   |false=>
    rw[a] at n;rw[n]
    cases q t with
    |true=>
     cases A t with
     |true=>show iL ws r t=iL ws r t+_*0;grind
     |false=>show(0:Rat)=0+_*0;grind
    |false=>show(0:Rat)=0+_*0;grind
  rw[e2,fe,di];have c:sQ (λt=>bX (q t&&(A t&&!nx q p t)) 1) (SC 24)=lA (λt=>q t&&(A t&&!nx q p t)):=Z;rw[c];grind
abbrev Ls:=Nat->Rat
def gC(L:Ls)(i:Nat)(x:Rat):Ls:=λj=>if j=i then x else L j
def mn(a b:Rat):Rat:=if a≤b then a else b
def c5(W:Nat->Bool)(st:Ls×Rat)(i:Nat):Ls×Rat:=if W i=true then(gC st.1 i (st.1 i-mn (st.1 i) st.2),st.2-mn (st.1 i) st.2) else st
def fQ(W:Nat->Bool)(ord:List Nat)(L:Ls)(s:Rat):Ls×Rat:=ord.foldl (c5 W) (L,s)
theorem Kx(a b:Rat):mn a b≤a:=by
 unfold mn
 split
 ·exact Ts
 ·rename_i h;exact Up (Wx.mp h)
theorem DM(a b:Rat):mn a b≤b:=by
 unfold mn
 split
 ·assumption
 ·exact Ts
theorem Nc(ha:0≤a)(hb:0≤b):0≤mn a b:=by
 unfold mn
 split
 ·exact ha
 ·exact hb
theorem HV(a b:Rat):mn a b=a∨mn a b=b:=by
 unfold mn
 split
 ·exact .inl Z
 ·exact .inr Z
structure ET(L:Ls)(s:Rat)(st:Ls×Rat):Prop where
 nn:∀i,0≤L i->0≤st.1 i
 le:∀i,st.1 i≤L i
 rm:0≤st.2
theorem ET.step{W:Nat->Bool}{L:Ls}{s:Rat}{st:Ls×Rat}(hL:∀i,0≤L i)(h:ET L s st)(i:Nat):ET L s (c5 W st i):=by
 unfold c5
 split
 ·have a1:=Kx (st.1 i) st.2;have a2:=DM (st.1 i) st.2;have a3:=Nc (h.nn i (hL i)) h.rm;refine⟨λj _=>?_,λj=>?_,?_⟩
  ·show 0≤gC st.1 i _ j;unfold gC
   split
   ·grind
   ·exact h.nn j (hL j)
  ·show gC st.1 i _ j≤L j;unfold gC;have:=h.le j
   split
   ·rename_i e;subst e;grind
   ·exact this
  ·show 0≤st.2-mn (st.1 i) st.2;grind
 ·exact h
theorem ET.fold{W:Nat->Bool}{L:Ls}{s:Rat}(hL:∀i,0≤L i):∀{ord:List Nat} {st:Ls×Rat},ET L s st->ET L s (ord.foldl (c5 W) st)
 | [],_,h=>h
 |i::ord,st,h=>ET.fold hL (ord:=ord) (h.step hL i)
theorem nP{st:Ls×Rat}(h:j≠i):(c5 W st i).1 j=st.1 j:=by
 unfold c5
 split
 ·show gC st.1 i _ j=_;unfold gC;rw[if_neg h]
 ·rfl
theorem oX{W:Nat->Bool}{j:Nat}:∀{ord:List Nat} {st:Ls×Rat},j∉ord->(ord.foldl (c5 W) st).1 j=st.1 j
 | [],_,_=>rfl
 |i::ord,st,h=>by
  rw[Uz,oX (λz=>h (SQ _ z)),nP (λz=>h (by rw[z];exact SO))]
theorem Bp{st:Ls×Rat}(hi:i<n):sQ (c5 W st i).1 (SC n)-(c5 W st i).2=sQ st.1 (SC n)-st.2:=by
 unfold c5
 split
 ·show sQ (gC st.1 i (st.1 i-mn (st.1 i) st.2)) (SC n)-(st.2-mn (st.1 i) st.2)=_;have key:∀(m:Nat) (x:Rat),sQ (gC st.1 i x) (SC m)=sQ st.1 (SC m)+(if i<m then x-st.1 i else 0):=by
   intro m x
   induction m with
   |zero=>show(0:Rat)=0+(if i<0 then _ else 0);rw[if_neg (U1 _)];grind
   |succ m ih=>
    rw[Ua,d0,d0,ih];show sQ st.1 (SC m)+_+(gC st.1 i x m+0)=sQ st.1 (SC m)+(st.1 m+0)+_;unfold gC;by_cases c:i<m
    ·rw[if_pos c,if_neg (by omega),if_pos (by omega)];grind
    ·rw[if_neg c];by_cases e:m=i
     ·subst e;rw[if_pos Z,if_pos (by omega)];grind
     ·rw[if_neg e,if_neg (by omega)];grind
  rw[key,if_pos hi];grind
 ·rfl
theorem vd{W:Nat->Bool}{n:Nat}:∀{ord:List Nat} {st:Ls×Rat},(∀i∈ord,i<n)->sQ (ord.foldl (c5 W) st).1 (SC n)-(ord.foldl (c5 W) st).2=sQ st.1 (SC n)-st.2
 | [],_,_=>rfl
 |i::ord,st,h=>by
  rw[Uz,vd (λj hj=>h j (SQ _ hj)),Bp (h i SO)]
theorem zK{st:Ls×Rat}(h0:0≤st.1 i)(hr:st.2=0):(c5 W st i).1=st.1/\(c5 W st i).2=0:=by
 unfold c5
 split
 ·have e:mn (st.1 i) st.2=0:=by
   rw[hr];rcases HV (st.1 i) 0 with z|z
   ·have:=DM (st.1 i) 0;rw[z] at this ⊢;grind
   ·exact z
  rw[e];refine⟨?_,?_⟩
  ·show gC st.1 i (st.1 i-0)=st.1
   funext j
   unfold gC
   split
   ·rename_i z;subst z;grind
   ·rfl
  ·show st.2-0=0;grind
 ·exact⟨Z,hr⟩
theorem qA{W:Nat->Bool}:∀{ord:List Nat} {st:Ls×Rat},(∀i,0≤st.1 i)->st.2=0->(ord.foldl (c5 W) st).1=st.1/\(ord.foldl (c5 W) st).2=0
 | [],_,_,hr=>⟨Z,hr⟩
 |i::ord,st,h0,hr=>by
  obtain⟨e1,e2⟩:=zK (W:=W) (h0 i) hr;rw[Uz];have:=qA (W:=W) (ord:=ord) (st:=c5 W st i) (by rw[e1];exact h0) e2;rw[e1] at this;exact this
theorem zu(hL:∀j,0≤L j)(hs:0≤s)(nd:(l1++i:: l2).Nodup)(hW:W i=true)(hl:0<(fQ W (l1++i:: l2) L s).1 i):
  (fQ W (l1++i:: l2) L s).2=0/\∀j,j∉l1->j≠i->(fQ W (l1++i:: l2) L s).1 j=L j:=by
 have e:fQ W (l1++i::l2) L s=l2.foldl (c5 W) (c5 W (l1.foldl (c5 W) (L,s)) i):=by
  unfold fQ;rw[U9,Uz]
 have i0:ET L s (L,s):=⟨λ_ h=>h,λ_=>Ts,hs⟩;have i1:=i0.fold (W:=W) hL (ord:=l1);have i2:=i1.step (W:=W) hL i;obtain⟨n1,n2,n3⟩:=Vt.mp nd;have il2:i∉l2:=(Uf.mp n2).1;rw[e] at hl ⊢;rw[oX il2] at hl;have offA:∀j,j∉l1->(l1.foldl (c5 W) (L,s)).1 j=L j:=λj hj=>oX hj
 generalize l1.foldl (c5 W) (L,s)=A at *;have room:(c5 W A i).2=0:=by
  unfold c5 at hl ⊢;rw[if_pos hW] at hl ⊢;show A.2-mn (A.1 i) A.2=0;have hl':0<A.1 i-mn (A.1 i) A.2:=by
   have:0<gC A.1 i (A.1 i-mn (A.1 i) A.2) i:=hl;unfold gC at this;rw[if_pos Z] at this;exact this
  rcases HV (A.1 i) A.2 with z|z
  ·rw[z] at hl';grind
  ·rw[z];grind
 obtain⟨e1,e2⟩:=qA (W:=W) (ord:=l2) (st:=c5 W A i) (λj=>i2.nn j (hL j)) room;refine⟨e2,λj hj hji=>?_⟩;rw[e1,nP hji];exact offA j hj
theorem ut{W:Nat->Bool}{i:Nat}(h:W i=false):∀{ord:List Nat} {st:Ls×Rat},(ord.foldl (c5 W) st).1 i=st.1 i
 | [],_=>rfl
 |j::ord,st=>by
  rw[Uz,ut h (ord:=ord)];by_cases c:i=j
  ·subst c;unfold c5;rw[if_neg (by rw[h];exact Tb)]
  ·exact nP c
theorem rZ{α β:Type}(f:α->β->Rat)(m:List β):∀l:List α,sQ (λx=>sQ (λy=>f x y) m) l=sQ (λy=>sQ (λx=>f x y) l) m
 | []=>by
  show(0:Rat)=sQ (λ_=>(0:Rat)) m;have e:sQ (λ_:β=>(0:Rat)) m=sQ (λy:β=>0*((λ_=>(0:Rat)) y)) m:=aN λ_ _=>by grind
  rw[e,di];grind
 |x::l=>by
  show sQ (λy=>f x y) m+sQ (λx=>sQ (λy=>f x y) m) l=sQ (λy=>f x y+sQ (λx=>f x y) l) m;rw[rZ f m l,fe]
theorem CI(hi:i<n)(c:Rat):sQ (λj=>if j=i then c else 0) (SC n)=c:=by
 have key:∀m:Nat,sQ (λj=>if j=i then c else 0) (SC m)=if i<m then c else 0:=by
  intro m
  induction m with
  |zero=>show(0:Rat)=_;rw[if_neg (U1 _)]
  |succ m ih=>
   rw[Ua,d0,ih];show _+((if m=i then c else 0)+0)=_;by_cases e:m=i
   ·subst e;rw[if_neg (UJ _),if_pos Z,if_pos (Xo _)];grind
   ·by_cases l:i<m
    ·rw[if_pos l,if_neg e,if_pos (by omega)];grind
    ·rw[if_neg l,if_neg e,if_neg (by omega)];grind
 rw[key,if_pos hi]
theorem yi(g:Nat->Rat)(b:Nat):∀N,b≤N->sQ (λt=>bX (decide (b≤t)) (g t-g (t+1))) (SC N)=g b-g N:=by
 intro N
 induction N with
 |zero=>intro h;rw[show b=0 by omega];show(0:Rat)=_;grind
 |succ N ih=>
  intro h;rw[Ua,d0];show _+(bX (decide (b≤N)) (g N-g (N+1))+0)=_;by_cases c:b≤N
  ·rw[ih c,decide_eq_true c,c6];grind
  ·have e:b=N+1:=by omega
   have z:sQ (λt=>bX (decide (b≤t)) (g t-g (t+1))) (SC N)=sQ (λ_:Nat=>0*(0:Rat)) (SC N):=aN λt ht=>by
    have:=SW.mp ht;rw[decide_eq_false (by omega),cm];grind
   rw[z,di,decide_eq_false c,cm,e];grind
theorem Fk(g:Nat->Rat)(d:Nat):∀k,sQ (λt=>bX (decide (t≤d)) (g t)) (SC (d+1+k))=sQ g (SC (d+1)):=by
 intro k
 induction k with
 |zero=>exact aN λt ht=>by have:=SW.mp ht;rw[decide_eq_true (by omega),c6]
 |succ k ih=>
  rw[show d+1+(k+1)=(d+1+k)+1 by omega,Ua,d0,ih];show _+(bX (decide (d+1+k≤d)) _+0)=_;rw[decide_eq_false (by omega),cm];grind
def Wt(f l:Nat->Nat)(t i:Nat):Bool:=decide (f i≤t)&&decide (t≤l i)
def dg(ord:List Nat)(f l:Nat->Nat)(a:Ls)(s:Nat->Rat):Nat->Ls
 |0=>a
 |t+1=>(fQ (Wt f l t) ord (dg ord f l a s t) (s t)).1
structure e9(n:Nat)(ord:List Nat)(f l:Nat->Nat)(a:Ls)(s:Nat->Rat):Prop where
 nd:ord.Nodup
 mem:∀i,i∈ord↔i<n
 srt:ord.Pairwise (λi j=>l i≤l j)
 win:∀i,i<n->f i≤l i/\l i<24
 an:∀i,0≤a i
 sn:∀t,0≤s t
 cap:∀b d,b≤d->d<24->sQ (λj=>bX (decide (b≤f j)&&decide (l j≤d)) (a j)) (SC n)≤sQ (λt=>bX (decide (t≤d)) (bX (decide (b≤t)) (s t))) (SC 24)
section
variable {n:Nat}{ord:List Nat}{f l:Nat->Nat}{a:Ls}{s:Nat->Rat}
theorem e9.sti(h:e9 n ord f l a s)(hL:∀i,0≤L i)(t:Nat):ET L (s t) (fQ (Wt f l t) ord L (s t)):=ET.fold hL ⟨λ_ h=>h,λ_=>Ts,h.sn t⟩
theorem e9.nn(h:e9 n ord f l a s):∀t i,0≤dg ord f l a s t i
 |0,i=>h.an i
 |t+1,i=>(h.sti (h.nn t) t).nn i (h.nn t i)
theorem e9.dn(h:e9 n ord f l a s)(t i:Nat):dg ord f l a s (t+1) i≤dg ord f l a s t i:=(h.sti (h.nn t) t).le i
theorem e9.dn'(h:e9 n ord f l a s)(t i:Nat):∀k,dg ord f l a s (t+k) i≤dg ord f l a s t i
 |0=>Ts
 |k+1=>aaj (h.dn (t+k) i) (h.dn' t i k)
theorem e9.out(h:e9 n ord f l a s)(hw:Wt f l t i=false):dg ord f l a s (t+1) i=dg ord f l a s t i:=ut hw
theorem e9.sum(h:e9 n ord f l a s)(t:Nat):sQ (λj=>dg ord f l a s t j-dg ord f l a s (t+1) j) (SC n)=s t-(fQ (Wt f l t) ord (dg ord f l a s t) (s t)).2:=by
 have q:=vd (W:=Wt f l t) (n:=n) (ord:=ord) (st:=(dg ord f l a s t,s t)) λi hi=>(h.mem i).mp hi
 have e:sQ (λj=>dg ord f l a s t j-dg ord f l a s (t+1) j) (SC n)=sQ (dg ord f l a s t) (SC n)-sQ (dg ord f l a s (t+1)) (SC n):=by
  have e1:=fe (f:=λj=>dg ord f l a s t j-dg ord f l a s (t+1) j) (g:=dg ord f l a s (t+1)) (SC n);have e2:sQ (λx=>dg ord f l a s t x-dg ord f l a s (t+1) x+dg ord f l a s (t+1) x) (SC n)=sQ (dg ord f l a s t) (SC n):=aN λx _=>by grind
  grind
 rw[e];have q':sQ (dg ord f l a s (t+1)) (SC n)-(fQ (Wt f l t) ord (dg ord f l a s t) (s t)).2=sQ (dg ord f l a s t) (SC n)-s t:=q;grind
theorem e9.all_le(h:e9 n ord f l a s)(t:Nat):sQ (λj=>dg ord f l a s t j-dg ord f l a s (t+1) j) (SC n)≤s t:=by
 rw[h.sum];have:=(h.sti (h.nn t) t).rm;grind
theorem e9.full(h:e9 n ord f l a s)(hi:i<n)(hw:Wt f l t i=true)(hl:0<dg ord f l a s (t+1) i):sQ (λj=>bX (decide (l j≤l i)) (dg ord f l a s t j-dg ord f l a s (t+1) j)) (SC n)=s t:=by
 obtain⟨l1,l2,e⟩:=List.append_of_mem ((h.mem i).mpr hi);have nd:=h.nd;have srt:=h.srt;rw[e] at nd srt;have hl':0<(fQ (Wt f l t) (l1++i::l2) (dg ord f l a s t) (s t)).1 i:=by rw[←e];exact hl
 obtain⟨r0,keep⟩:=zu (h.nn t) (h.sn t) nd hw hl';rw[←e] at r0 keep;have sm:=h.sum t;rw[r0] at sm;have e2:sQ (λj=>bX (decide (l j≤l i)) (dg ord f l a s t j-dg ord f l a s (t+1) j)) (SC n)=sQ (λj=>dg ord f l a s t j-dg ord f l a s (t+1) j) (SC n):=aN λj _=>by
  by_cases c:l j≤l i
  ·rw[decide_eq_true c,c6]
  ·rw[decide_eq_false c,cm];have j1:j∉l1:=λz=>c ((Xz.mp srt).2.2 j z i SO)
   have j2:j≠i:=λz=>c (by rw[z];exact SD _)
   have k:dg ord f l a s (t+1) j=dg ord f l a s t j:=keep j j1 j2;rw[k];grind
 rw[e2,sm];grind
theorem O9(h:e9 n ord f l a s)(hi:i<n):dg ord f l a s 24 i=0:=by
 by_cases z:dg ord f l a s 24 i=0
 ·exact z
 exfalso;have pos:0<dg ord f l a s 24 i:=by
  have:=h.nn 24 i;grind
 obtain⟨w1,w2⟩:=h.win i hi;have later:∀t,t≤24->0<dg ord f l a s t i:=λt ht=>by
  have:=h.dn' t i (24-t);rw[show t+(24-t)=24 by omega] at this;grind
 let P:Nat->Bool:=λt=>decide (sQ (λj=>bX (decide (l j≤l i)) (dg ord f l a s t j-dg ord f l a s (t+1) j)) (SC n)=s t)
 have Pin:∀t,f i≤t->t≤l i->P t=true:=λt h1 h2=>decide_eq_true (h.full hi (by unfold Wt;rw[decide_eq_true h1,decide_eq_true h2];rfl) (later (t+1) (by omega)))
 obtain⟨b,hb,hrun,hend⟩:=oo P (l i+1);have bf:b≤f i:=by
  by_cases c:b≤f i
  ·exact c
  ·rcases hend with e|e
   ·omega
   ·rw[Pin (b-1) (by omega) (by omega)] at e;cases e
 have early:∀j,j<n->l j≤l i->f j<b->dg ord f l a s b j-dg ord f l a s (l i+1) j=0:=λj hj h1 h2=>by
  have e:P (b-1)=false:=by
   rcases hend with e|e
   ·omega
   ·exact e
  by_cases c:b-1≤l j
  ·have z0:dg ord f l a s b j=0:=by
    by_cases zz:dg ord f l a s b j=0
    ·exact zz
    exfalso;have nb:=h.nn b j;have fl:=h.full (t:=b-1) hj (by unfold Wt;rw[decide_eq_true (show f j≤b-1 by omega),decide_eq_true c];rfl) (by rw[show b-1+1=b by omega];grind);have m:sQ (λk=>bX (decide (l k≤l j)) (dg ord f l a s (b-1) k-dg ord f l a s (b-1+1) k)) (SC n)≤sQ (λk=>bX (decide (l k≤l i)) (dg ord f l a s (b-1) k-dg ord f l a s (b-1+1) k)) (SC n):=jB λk _=>wW (by have:=h.dn (b-1) k;grind) λq=>decide_eq_true (by have:=of_decide_eq_true q;omega)
    have m2:sQ (λk=>bX (decide (l k≤l i)) (dg ord f l a s (b-1) k-dg ord f l a s (b-1+1) k)) (SC n)≤sQ (λk=>dg ord f l a s (b-1) k-dg ord f l a s (b-1+1) k) (SC n):=jB λk _=>by
     have:=h.dn (b-1) k
     cases decide (l k≤l i) with
     |true=>exact Ts
     |false=>rw[cm];grind
    have m3:=h.all_le (b-1);have:P (b-1)=true:=decide_eq_true (by grind);rw[this] at e
    cases e
   have d1:=h.dn' b j (l i+1-b);rw[show b+(l i+1-b)=l i+1 by omega] at d1;have d2:=h.nn (l i+1) j;grind
  ·have st:∀k,dg ord f l a s (b+k) j=dg ord f l a s b j:=λk=>by
    induction k with
    |zero=>rfl
    |succ k ih=>
     rw[←ih];exact h.out (t:=b+k) (by unfold Wt;rw[decide_eq_false (show ¬b+k≤l j by omega),UY])
   have:=st (l i+1-b);rw[show b+(l i+1-b)=l i+1 by omega] at this;rw[this];grind
 have tot:sQ (λt=>bX (decide (b≤t)) (s t)) (SC (l i+1))=sQ (λj=>bX (decide (l j≤l i)) (dg ord f l a s b j-dg ord f l a s (l i+1) j)) (SC n):=by
  have e1:sQ (λt=>bX (decide (b≤t)) (s t)) (SC (l i+1))=sQ (λt=>sQ (λj=>bX (decide (l j≤l i)) (bX (decide (b≤t)) (dg ord f l a s t j-dg ord f l a s (t+1) j))) (SC n)) (SC (l i+1)):=aN λt ht=>by
   have tl:=SW.mp ht;by_cases c:b≤t
   ·rw[decide_eq_true c,c6,←of_decide_eq_true (hrun t c tl)];exact aN λj _=>by rw[c6]
   ·rw[decide_eq_false c,cm];have e:sQ (λj=>bX (decide (l j≤l i)) (bX false (dg ord f l a s t j-dg ord f l a s (t+1) j))) (SC n)=sQ (λ_:Nat=>0*(0:Rat)) (SC n):=aN λj _=>by
     rw[cm]
     cases decide (l j≤l i) with
     |true=>rw[c6];grind
     |false=>rw[cm];grind
    rw[e,di];grind
  rw[e1,rZ];exact aN λj _=>by
   cases decide (l j≤l i) with
   |true=>
    have:=yi (λt=>dg ord f l a s t j) b (l i+1) hb;rw[c6,←this];exact aN λt _=>by rw[c6]
   |false=>
    rw[cm];have e:sQ (λt=>bX false (bX (decide (b≤t)) (dg ord f l a s t j-dg ord f l a s (t+1) j))) (SC (l i+1))=sQ (λ_:Nat=>0*(0:Rat)) (SC (l i+1)):=aN λt _=>by rw[cm];grind
    rw[e,di];grind
 have le:sQ (λj=>bX (decide (l j≤l i)) (dg ord f l a s b j-dg ord f l a s (l i+1) j)+(if j=i then dg ord f l a s (l i+1) i else 0)) (SC n)≤sQ (λj=>bX (decide (b≤f j)&&decide (l j≤l i)) (a j)) (SC n):=jB λj hj=>by
  have jn:=SW.mp hj;by_cases c1:l j≤l i
  ·rw[decide_eq_true c1,c6,Yr];by_cases c2:b≤f j
   ·rw[decide_eq_true c2,c6];have d1:=h.dn' 0 j b;rw[YZ] at d1;have d1':dg ord f l a s b j≤a j:=d1;have d2:=h.nn (l i+1) j;by_cases e:j=i
    ·subst e;rw[if_pos Z];grind
    ·rw[if_neg e];grind
   ·rw[decide_eq_false c2,cm,early j jn c1 (by omega),if_neg (λe=>c2 (by rw[e];exact bf))];grind
  ·rw[decide_eq_false c1,cm,UY,cm,if_neg (λe=>c1 (by rw[e];exact SD _))];grind
 rw[fe,CI hi,←tot] at le;have cp:=h.cap b (l i) (by omega) w2;have up:=Fk (λt=>bX (decide (b≤t)) (s t)) (l i) (24-(l i+1));rw[show l i+1+(24-(l i+1))=24 by omega] at up;rw[up] at cp;have:=later (l i+1) (by omega);grind
end
def eZ(l:List R):Ls:=λj=>val (l.getD j (0,1))
theorem qd:val ((0,1):R)=0:=(c8 (r:=(0,1)) (by decide)).mpr Z
theorem Kw(ha:fw a)(hb:fw b):mn (val a) (val b)=val (fk a b):=by
 unfold fk mn
 cases c:dF b a with
 |true=>
  rw[if_pos Z,if_neg];have:=(nH hb.bq.pos ha.bq.pos).mp c;exact Wx.mpr this
 |false=>
  rw[if_neg Tb,if_pos];exact(fE hb.bq.pos ha.bq.pos).mp c
theorem EZ(hi:i<l.length)(x:R):eZ (l.set i x)=gC (eZ l) i (val x):=by
 funext j
 unfold eZ gC;rw[SG,List.getElem?_set];by_cases c:j=i
 ·subst c;rw[if_pos Z,if_pos Z,if_pos hi];rfl
 ·rw[if_neg (λz=>c z.symm),if_neg c,←SG]
theorem Bn{ws:List Wk}{st:xL}(h:AN n st)(hi:i<n):(eZ (cY ws t st i).1,val (cY ws t st i).2.1)=c5 (λj=>im (ws.getD j bh) t) (eZ st.1,val st.2.1) i:=by
 have al:=gj (n:=n) h.lf i;have e:=Kw al h.rm;have eL:eZ st.1 i=val (st.1.getD i (0,1)):=Z;unfold cY c5;dsimp only;by_cases c:im (ws.getD i bh) t=true
 ·rw[if_pos c];show _=(gC (eZ st.1) i (eZ st.1 i-mn (eZ st.1 i) (val st.2.1)),val st.2.1-mn (eZ st.1 i) (val st.2.1));rw[eL,e];by_cases z:fk (st.1.getD i (0,1)) st.2.1=(0,1)
  ·rw[if_neg (λq=>q.2 z),z,qd];have e1:gC (eZ st.1) i (val (st.1.getD i (0,1))-0)=eZ st.1:=by
    funext j
    unfold gC
    split
    ·rename_i q;subst q;show _-0=val _;grind
    ·rfl
   rw[e1];have e2:val st.2.1-0=val st.2.1:=by grind
   rw[e2]
  ·rw[if_pos ⟨c,z⟩];have la:=tE al h.rm;show(eZ (st.1.set i _),val (bJ st.2.1 _))=_;rw[EZ (by rw[h.len];exact hi),dh al.bq.pos la.bq.pos,dh h.rm.bq.pos la.bq.pos]
 ·rw[if_neg (λz=>c z.1),if_neg c]
theorem oW{ws:List Wk}{n t:Nat}:∀{ord:List Nat} {st:xL},AN n st->(∀i∈ord,i<n)->(eZ (ord.foldl (cY ws t) st).1,val (ord.foldl (cY ws t) st).2.1)=ord.foldl (c5 (λj=>im (ws.getD j bh) t)) (eZ st.1,val st.2.1)
 | [],_,_,_=>rfl
 |i::ord,st,h,hl=>by
  rw[Uz,Uz,←Bn h (hl i SO)];exact oW (h.step (ws:=ws) (t:=t) (hl i SO)).1 λj hj=>hl j (SQ _ hj)
abbrev fW(ws:List Wk)(i:Nat):Nat:=(ws.getD i bh).1
abbrev aW(ws:List Wk):Ls:=eZ (ws.map λw=>w.2.2)
theorem kX{ws:List Wk}{ord:List Nat}{ss:List R}(okw:∀w∈ws,cn w)(ho:∀i∈ord,i<ws.length)(hs:∀r∈ss,fw r):∀t,eZ (bR ws ord ss t).1=dg ord (fW ws) (bS ws) (aW ws) (eZ ss) t
 |0=>rfl
 |t+1=>by
  obtain⟨h,hl⟩:=gi okw ho hs t;have d:AN ws.length ((bR ws ord ss t).1,ss.getD t (0,1),[]):=⟨h.len,h.lf,gj (n:=0) hs t,λp hp=>by cases hp⟩;have q:=oW (ws:=ws) (t:=t) d ho;have e:=congrArg Prod.fst q;show eZ (ord.foldl (cY ws t) ((bR ws ord ss t).1,ss.getD t (0,1),[])).1=(fQ (Wt (fW ws) (bS ws) t) ord (dg ord (fW ws) (bS ws) (aW ws) (eZ ss) t) (eZ ss t)).1;rw[←kX okw ho hs t];exact e
theorem sW{ws:List Wk}:∀k,k≤ws.length->(bD ws k).Nodup
 |0,_=>Vp
 |k+1,h=>by
  have oi:=fi (ws:=ws) k (by omega);show(bD ws k++[_]).Nodup;rw[Vt];refine⟨sW k (by omega),Uf.mpr ⟨by simp,Vp⟩,λa ha b hb z=>?_⟩;have m:=oK (ws:=ws) (oi.ne (by omega));rw[SJ.mp hb] at z;subst z;exact(fT.mp m).2 ha
theorem F6(i:Nat):i∈bD ws ws.length↔i<ws.length:=by
 have oi:=fi (ws:=ws) ws.length (SD _);refine⟨oi.lt i,λh=>?_⟩;by_cases c:i∈bD ws ws.length
 ·exact c
 ·have:i∈dm ws.length (bD ws ws.length):=fT.mpr ⟨h,c⟩;have l:=oi.wl;have e:(dm ws.length (bD ws ws.length)).length=0:=by omega
  rw[List.length_eq_zero_iff.mp e] at this
  cases this
theorem yC{ws:List Wk}:∀k,k≤ws.length->(bD ws k).Pairwise (λi j=>bS ws i≤bS ws j)/\∀i∈bD ws k,∀j,j<ws.length->j∉bD ws k->bS ws i≤bS ws j
 |0,_=>⟨.nil,λi hi=>absurd (show i∈([]:List Nat) from hi) (by simp)⟩
 |k+1,h=>by
  obtain⟨p,q⟩:=yC (ws:=ws) k (by omega);have oi:=fi (ws:=ws) k (by omega);have ne:=oi.ne (by omega);have m:=oK (ws:=ws) ne;have ml:∀j,j<ws.length->j∉bD ws k->bS ws (mH ws (dm ws.length (bD ws k)))≤bS ws j:=λj h1 h2=>by
   have a:=SF (tz (ws:=ws) ne);exact(kY.mp a).2 j (fT.mpr ⟨h1,h2⟩)
  refine⟨?_,λi hi j hj nj=>?_⟩
  ·show(bD ws k++[_]).Pairwise _;rw[Xz];exact⟨p,List.pairwise_singleton _ _,λa ha b hb=>by rw[SJ.mp hb];exact q a ha _ (fT.mp m).1 (fT.mp m).2⟩
  ·have nj':j∉bD ws k:=λz=>nj (VO _ z)
   rcases Ti.mp (show i∈bD ws k++[_] from hi) with z|z
   ·exact q i z j hj nj'
   ·rw[SJ.mp z];exact ml j hj nj'
theorem KS(h:cn w)(b d:Nat)(hd:d<24):gU (λt=>decide (b≤t)&&decide (t≤d)) w=(decide (b≤w.1)&&decide (w.2.1≤d)):=by
 have h1:=h.le;have h2:=h.lt;rw[UG,da,Ta,decide_eq_true_iff,decide_eq_true_iff];constructor
 ·intro q;have a:=q w.1 (by omega) (by unfold im;rw[decide_eq_true (SD _),decide_eq_true h1];rfl);have c:=q w.2.1 h2 (by unfold im;rw[decide_eq_true h1,decide_eq_true (SD _)];rfl);rw[Ta,decide_eq_true_iff,decide_eq_true_iff] at a c;exact⟨a.1,c.2⟩
 ·rintro⟨q1,q2⟩ t ht it;unfold im at it;rw[Ta,decide_eq_true_iff,decide_eq_true_iff] at it;rw[Ta,decide_eq_true_iff,decide_eq_true_iff];omega
theorem zh(h:i<ws.length):aW ws i=fY (ws.getD i bh):=by
 unfold aW eZ fY;rw[ax (0,1) (show(ws.map λw=>w.2.2)[i]?=some ws[i].2.2 by rw[SU,Sz h];rfl),ax bh (Sz h)]
theorem w9(ok:∀w∈ws,cn w)(h:iu ws (SC 24) lys):e9 ws.length (bD ws ws.length) (fW ws) (bS ws) (aW ws) (eZ (bn ws lys)) where
 nd:=sW _ (SD _)
 mem:=F6
 srt:=(yC _ (SD _)).1
 win:=λi hi=>by
  have o:=ok _ (S2 hi);unfold fW bS;rw[ax bh (Sz hi)];exact⟨o.le,o.lt⟩
 an:=λi=>by
  by_cases c:i<ws.length
  ·rw[zh c];refine ph ok _ ?_;rw[ax bh (Sz c)];exact S2 c
  ·unfold aW eZ;rw[SG,Vg (by rw[SE];omega)];show 0≤val ((0,1):R);rw[qd];exact Ts
 sn:=λt=>by
  by_cases c:t<24
  ·show 0≤val ((bn ws lys).getD t (0,1));rw[kN h c];exact BB ok h t
  ·have e24:(bn ws lys).length=24:=by
    unfold bn;rw[kO];rfl
   unfold eZ;rw[SG,Vg (by omega)];show 0≤val ((0,1):R);rw[qd];exact Ts
 cap:=λb d hb hd=>by
  have c:=cap ok h (λ_=>true) (λt=>decide (b≤t)&&decide (t≤d)) (UR.mpr λ_ _=>Z).symm (λt _ z=>by cases z);have e0:FM ws (λt=>!(λ_=>true) t)=0:=zp ok;rw[e0] at c;have e1:FM ws (λt=>decide (b≤t)&&decide (t≤d))=sQ (λj=>bX (decide (b≤fW ws j)&&decide (bS ws j≤d)) (aW ws j)) (SC ws.length):=by
   unfold FM;rw[fH bh];exact aN λj hj=>by
    have jl:=SW.mp hj;rw[KS (by rw[ax bh (Sz jl)];exact ok _ (S2 jl)) b d hd,zh jl];rfl
  have e2:sQ (λt=>bX (true&&(decide (b≤t)&&decide (t≤d))) (iL ws lys t)) (SC 24)=sQ (λt=>bX (decide (t≤d)) (bX (decide (b≤t)) (eZ (bn ws lys) t))) (SC 24):=aN λt ht=>by
   have tl:=SW.mp ht;have ev:eZ (bn ws lys) t=iL ws lys t:=kN h tl _;rw[ev]
   cases decide (b≤t)<;>cases decide (t≤d)<;>rfl
  rw[←e1,←e2];grind
theorem Af(ok:∀w∈ws,cn w)(h:iu ws (SC 24) lys)(hs:∀r∈bn ws lys,fw r):qx (dZ ws (bn ws lys)).1=none:=by
 have oi:=fi (ws:=ws) ws.length (SD _);obtain⟨po,_⟩:=gi (ord:=bD ws ws.length) (ss:=bn ws lys) ok oi.lt hs 24;refine Ak λj hj=>?_
 have jn:j<ws.length:=by rw[←po.len];exact hj
 have e:=O9 (w9 (ws:=ws) ok h) jn;rw[←kX ok oi.lt hs 24] at e;have a:=gj (n:=0) po.lf j;have e':val ((dZ ws (bn ws lys)).1.getD j (0,1))=0:=e;have z:=(c8 a.bq.pos).mp e';have r:=a.red;refine fG r ⟨by decide,by decide⟩ ?_;rw[qd];exact e'
structure GZ(ws:List Wk)(n t:Nat)(L0:List R)(s:R)(seen:List Nat)(st:xL):Prop where
 ok:AN n st
 sub:(st.2.2.map (·.1)).Sublist seen
 pc:∀i r,(i,r)∈st.2.2->im (ws.getD i bh) t=true/\fw r/\0<val r/\val r=eZ L0 i-eZ st.1 i
 un:∀i,i∉st.2.2.map (·.1)->st.1.getD i (0,1)=L0.getD i (0,1)
 sum:sQ (λp:Pc=>val p.2) st.2.2+val st.2.1=val s
theorem GT(h:fw r)(hz:r≠(0,1)):0<val r:=by
 have n:=(jX h.bq.pos).mpr h.nn;by_cases z:val r=0
 ·exfalso;refine hz (fG h.red ⟨by decide,by decide⟩ ?_);rw[qd];exact z
 ·grind
theorem GZ.step{ws:List Wk}{n t i:Nat}{L0:List R}{s:R}{seen:List Nat}{st:xL}(h:GZ ws n t L0 s seen st)(hi:i<n)(ni:i∉seen):GZ ws n t L0 s (seen++[i]) (cY ws t st i):=by
 have d1:=(h.ok.step (ws:=ws) (t:=t) hi).1;have nf:i∉st.2.2.map (·.1):=λz=>ni (h.sub.subset z)
 have al:=gj (n:=n) h.ok.lf i;have la:=tE al h.ok.rm;by_cases c:im (ws.getD i bh) t=true/\fk (st.1.getD i (0,1)) st.2.1≠(0,1)
 ·have e:cY ws t st i=(st.1.set i (bJ (st.1.getD i (0,1)) (fk (st.1.getD i (0,1)) st.2.1)),bJ st.2.1 (fk (st.1.getD i (0,1)) st.2.1),st.2.2++[(i,fk (st.1.getD i (0,1)) st.2.1)]):=by
   unfold cY;rw[if_pos c]
  have u0:=h.un i nf;rw[e] at d1 ⊢;have il:i<st.1.length:=by rw[h.ok.len];exact hi
  have off:∀j x,j≠i->(st.1.set i x).getD j (0,1)=st.1.getD j (0,1):=λj x hj=>by
   rw[SG,Ug (λz=>hj z.symm),←SG]
  have on:∀x,(st.1.set i x).getD i (0,1)=x:=λx=>by
   rw[SG,UF il];rfl
  refine⟨d1,?_,λj r hj=>?_,λj hj=>?_,?_⟩
  ·show((st.2.2++[(i,fk (st.1.getD i (0,1)) st.2.1)]).map (λp:Pc=>p.1)).Sublist _;rw[Ub];exact aak.append h.sub (aal _)
  ·rcases Ti.mp hj with z|z
   ·obtain⟨a1,a2,a3,a4⟩:=h.pc j r z;have jn:j≠i:=λq=>nf (by rw[←q];exact SR.mpr ⟨_,z,Z⟩)
    refine⟨a1,a2,a3,?_⟩;show val r=eZ L0 j-val ((st.1.set i _).getD j (0,1));rw[off j _ jn];exact a4
   ·cases SJ.mp z
    refine⟨c.1,la,GT la c.2,?_⟩;show val (fk (st.1.getD i (0,1)) st.2.1)=val (L0.getD i (0,1))-val ((st.1.set i _).getD i (0,1));rw[on,dh al.bq.pos la.bq.pos,u0];grind
  ·have hj':j∉(st.2.2++[(i,fk (st.1.getD i (0,1)) st.2.1)]).map (·.1):=hj;rw[Ub] at hj';have jn:j≠i:=λq=>hj' (TD _ (by rw[q];exact SO))
   show(st.1.set i _).getD j (0,1)=_;rw[off j _ jn];exact h.un j λz=>hj' (VO _ z)
  ·show sQ (λp:Pc=>val p.2) (st.2.2++[_])+val (bJ st.2.1 _)=val s;rw[d0,dh h.ok.rm.bq.pos la.bq.pos];have:=h.sum;show _+(val (fk (st.1.getD i (0,1)) st.2.1)+0)+_=_;grind
 ·have e:cY ws t st i=st:=by
   unfold cY;rw[if_neg c]
  rw[e];exact⟨h.ok,h.sub.trans (List.sublist_append_left _ _),h.pc,h.un,h.sum⟩
theorem GZ.fold{ws:List Wk}{n t:Nat}{L0:List R}{s:R}:∀{ord seen:List Nat} {st:xL},GZ ws n t L0 s seen st->(∀i∈ord,i<n)->(seen++ord).Nodup->GZ ws n t L0 s (seen++ord) (ord.foldl (cY ws t) st)
 | [],seen,st,h,_,_=>by rw[UZ];exact h
 |i::ord,seen,st,h,hl,nd=>by
  have e:seen++i::ord=(seen++[i])++ord:=by simp
  rw[e] at nd ⊢;have ni:i∉seen:=λz=>(Vt.mp (Vt.mp nd).1).2.2 i z i SO Z
  exact GZ.fold (h.step (hl i SO) ni) (λj hj=>hl j (SQ _ hj)) nd
theorem C8(okw:∀w∈ws,cn w)(ho:∀i∈ord,i<ws.length)(nd:ord.Nodup)(hs:∀r∈ss,fw r)(t:Nat):GZ ws ws.length t (bR ws ord ss t).1 (ss.getD t (0,1)) ord (fP ws ord t (bR ws ord ss t).1 (ss.getD t (0,1))):=by
 obtain⟨h,hl⟩:=gi okw ho hs t;have d:AN ws.length ((bR ws ord ss t).1,ss.getD t (0,1),[]):=⟨h.len,h.lf,gj (n:=0) hs t,λp hp=>by cases hp⟩;have q:GZ ws ws.length t (bR ws ord ss t).1 (ss.getD t (0,1)) [] ((bR ws ord ss t).1,ss.getD t (0,1),[]):=⟨d,aal _,(λi r hr=>by cases hr),(λi _=>Z),by show(0:Rat)+_=_;grind⟩;exact q.fold ho nd
theorem gc{α:Type}{f:α->Rat}:∀{l:List α},(∀x∈l,0≤f x)->sQ f l=0->∀x∈l,f x=0
 | [],_,_,x,hx=>by cases hx
 |y::l,h,e,x,hx=>by
  have h1:=h y SO;have h2:=mF (f:=f) (l:=l) λz hz=>h z (SQ _ hz)
  have e':f y+sQ f l=0:=e;rcases S6.mp hx with z|z
  ·rw[z];grind
  ·exact gc (λz hz=>h z (SQ _ hz)) (by grind) x z
theorem Jl(l:List α):sQ (λx=>f x-g x) l=sQ f l-sQ g l:=by
 have e1:=fe (f:=λx=>f x-g x) (g:=g) l;have e2:sQ (λx=>f x-g x+g x) l=sQ f l:=aN λx _=>by grind
 grind
theorem EC(ok:∀w∈ws,cn w)(h:iu ws (SC 24) lys)(ht:t<24):(fQ (Wt (fW ws) (bS ws) t) (bD ws ws.length) (dg (bD ws ws.length) (fW ws) (bS ws) (aW ws) (eZ (bn ws lys)) t) (eZ (bn ws lys) t)).2=0:=by
 have E:=w9 (ws:=ws) ok h;have tot:sQ (λt=>(fQ (Wt (fW ws) (bS ws) t) (bD ws ws.length) (dg (bD ws ws.length) (fW ws) (bS ws) (aW ws) (eZ (bn ws lys)) t) (eZ (bn ws lys) t)).2) (SC 24)=0:=by
  have e1:sQ (λt=>(fQ (Wt (fW ws) (bS ws) t) (bD ws ws.length) (dg (bD ws ws.length) (fW ws) (bS ws) (aW ws) (eZ (bn ws lys)) t) (eZ (bn ws lys) t)).2) (SC 24)=sQ (λt=>eZ (bn ws lys) t-sQ (λj=>dg (bD ws ws.length) (fW ws) (bS ws) (aW ws) (eZ (bn ws lys)) t j-dg (bD ws ws.length) (fW ws) (bS ws) (aW ws) (eZ (bn ws lys)) (t+1) j) (SC ws.length)) (SC 24):=aN λt _=>by
   have:=E.sum t;grind
  rw[e1,Jl,rZ];have e2:sQ (λj=>sQ (λt=>dg (bD ws ws.length) (fW ws) (bS ws) (aW ws) (eZ (bn ws lys)) t j-dg (bD ws ws.length) (fW ws) (bS ws) (aW ws) (eZ (bn ws lys)) (t+1) j) (SC 24)) (SC ws.length)=sQ (aW ws) (SC ws.length):=aN λj hj=>by
   have te:=yi (λt=>dg (bD ws ws.length) (fW ws) (bS ws) (aW ws) (eZ (bn ws lys)) t j) 0 24 (by decide);have z:=O9 E (SW.mp hj);have e:sQ (λt=>dg (bD ws ws.length) (fW ws) (bS ws) (aW ws) (eZ (bn ws lys)) t j-dg (bD ws ws.length) (fW ws) (bS ws) (aW ws) (eZ (bn ws lys)) (t+1) j) (SC 24)=sQ (λt=>bX (decide (0≤t)) (dg (bD ws ws.length) (fW ws) (bS ws) (aW ws) (eZ (bn ws lys)) t j-dg (bD ws ws.length) (fW ws) (bS ws) (aW ws) (eZ (bn ws lys)) (t+1) j)) (SC 24):=aN λt _=>by rw[decide_eq_true (S8 _),c6]
   rw[e,te];rw[z];show aW ws j-0=aW ws j;grind
  have e3:sQ (eZ (bn ws lys)) (SC 24)=sQ (aW ws) (SC ws.length):=by
   have sa:=ID ok h (λ_=>true) (UR.mpr λ_ _=>Z).symm;have e0:FM ws (λt=>!(λ_=>true) t)=0:=zp ok;rw[e0,G6,fH bh] at sa;have e4:sQ (eZ (bn ws lys)) (SC 24)=sQ (λt=>bX true (iL ws lys t)) (SC 24):=aN λt ht=>by
    rw[c6];exact kN h (SW.mp ht) _
   have e5:sQ (λi=>fY (ws.getD i bh)) (SC ws.length)=sQ (aW ws) (SC ws.length):=aN λj hj=>(zh (SW.mp hj)).symm
   rw[e4,sa,e5];grind
  rw[e2];have e3':sQ (λt=>eZ (bn ws lys) t) (SC 24)=sQ (aW ws) (SC ws.length):=e3;rw[e3'];grind
 exact gc (λt _=>(E.sti (E.nn t) t).rm) tot t (SW.mpr ht)
theorem A0(ok:∀w∈ws,cn w)(h:iu ws (SC 24) lys)(hs:∀r∈bn ws lys,fw r)(ht:t<24):sQ (λp:Pc=>val p.2) (fP ws (bD ws ws.length) t (bR ws (bD ws ws.length) (bn ws lys) t).1 ((bn ws lys).getD t (0,1))).2.2=iL ws lys t:=by
 have oi:=fi (ws:=ws) ws.length (SD _);have nd:=sW (ws:=ws) ws.length (SD _);have p:=(C8 (ord:=bD ws ws.length) ok oi.lt nd hs t);have u:=EC (ws:=ws) ok h ht;have q:=oW (ws:=ws) (t:=t) (n:=ws.length) (ord:=bD ws ws.length) (st:=((bR ws (bD ws ws.length) (bn ws lys) t).1,(bn ws lys).getD t (0,1),[])) (by
  obtain⟨hh,_⟩:=gi (ord:=bD ws ws.length) (ss:=bn ws lys) ok oi.lt hs t;exact⟨hh.len,hh.lf,gj (n:=0) hs t,λp hp=>by cases hp⟩) oi.lt
 have e:=congrArg Prod.snd q;have e':val (fP ws (bD ws ws.length) t (bR ws (bD ws ws.length) (bn ws lys) t).1 ((bn ws lys).getD t (0,1))).2.1=(fQ (Wt (fW ws) (bS ws) t) (bD ws ws.length) (eZ (bR ws (bD ws ws.length) (bn ws lys) t).1) (eZ (bn ws lys) t)).2:=e;rw[kX ok oi.lt hs t,u] at e';have sm:=p.sum;rw[e'] at sm;have sv:=kN h ht (0,1);rw[←sv];grind
def dA(pl:List (List Pc))(t k:Nat):Pc:=(pl.getD t []).getD k (0,(0,1))
def Rg(pl:List (List Pc))(t k i:Nat):List (Nat×Nat):=((SC k).filter λj=>decide ((dA pl t j).1=i)).map λj=>(t,j)
def Rf(pl:List (List Pc)):Nat->Nat->List (Nat×Nat)
 |0,_=>[]
 |t+1,i=>Rf pl t i++Rg pl t (pl.getD t []).length i
def yT(pl:List (List Pc))(t i:Nat)(r:R):Nat->R
 |0=>r
 |k+1=>if(dA pl t k).1=i then cP (yT pl t i r k) (dA pl t k).2 else yT pl t i r k
def ER(pl:List (List Pc))(i:Nat):Nat->R
 |0=>(0,1)
 |t+1=>yT pl t i (ER pl i t) (pl.getD t []).length
structure xD(ws:List Wk)(pl:List (List Pc)):Prop where
 len:pl.length=24
 few:∀t,(pl.getD t []).length≤20
 pc:∀t k,t<24->k<(pl.getD t []).length->(dA pl t k).1<ws.length/\fw (dA pl t k).2/\0<val (dA pl t k).2/\im (ws.getD (dA pl t k).1 bh) t=true
 nd:∀t j k,t<24->j<k->k<(pl.getD t []).length->(dA pl t j).1≠(dA pl t k).1
 fin:∀i,i<ws.length->ER pl i 24=(ws.getD i bh).2.2
theorem Em{pl:List (List Pc)}{t i:Nat}{r:R}{N:Nat}(h:Bq (84*5354228880^24) N r):∀k,k≤(pl.getD t []).length->(∀j,j<(pl.getD t []).length->fw (dA pl t j).2)->Bq (84*5354228880^24) (N+256*k) (yT pl t i r k)
 |0,_,_=>h
 |k+1,hk,ha=>by
  have ih:=Em (i:=i) h k (by omega) ha;show Bq _ _ (if(dA pl t k).1=i then cP (yT pl t i r k) (dA pl t k).2 else yT pl t i r k)
  split
  ·exact(Bq.plus (by decide) ih (ha k (by omega)).bq).mono (SV _) (by omega)
  ·exact ih.mono (SV _) (by omega)
theorem El{ws:List Wk}{pl:List (List Pc)}(few:∀t,(pl.getD t []).length≤20)(pc:∀t k,t<24->k<(pl.getD t []).length->fw (dA pl t k).2)(i:Nat):∀t,t≤24->Bq (84*5354228880^24) (5120*t) (ER pl i t)
 |0,_=>(GP.mono (SV _) (SD _))
 |t+1,h=>by
  have f:=few t;exact(Em (El (ws:=ws) few pc i t (by omega)) _ (SD _) λj hj=>pc t j (by omega) hj).mono (SV _) (by omega)
theorem tZ{pl:List (List Pc)}{t i:Nat}{r:R}(hr:0<r.2):∀k,(∀j,j<k->0<(dA pl t j).2.2)->0<(yT pl t i r k).2/\val (yT pl t i r k)=val r+sQ (λj=>bX (decide ((dA pl t j).1=i)) (val (dA pl t j).2)) (SC k)
 |0,_=>⟨hr,by show val r=val r+0;grind⟩
 |k+1,h=>by
  obtain⟨p,e⟩:=tZ (i:=i) hr k λj hj=>h j (by omega)
  have hk:=h k (by omega);rw[Ua,d0];show 0<(if(dA pl t k).1=i then cP (yT pl t i r k) (dA pl t k).2 else yT pl t i r k).2/\val (if(dA pl t k).1=i then cP (yT pl t i r k) (dA pl t k).2 else yT pl t i r k)=val r+(_+(bX (decide ((dA pl t k).1=i)) (val (dA pl t k).2)+0));by_cases c:(dA pl t k).1=i
  ·rw[if_pos c,decide_eq_true c,c6];refine⟨(jm (Ut p hk)).pos,?_⟩;rw[iH p hk,e];grind
  ·rw[if_neg c,decide_eq_false c,cm,e];exact⟨p,by grind⟩
theorem qm{ws:List Wk}{ord:List Nat}{ss:List R}:∀{N t:Nat},t<N->(bR ws ord ss N).2.length=N->(bR ws ord ss N).2.getD t []=(fP ws ord t (bR ws ord ss t).1 (ss.getD t (0,1))).2.2
 |0,t,h,_=>absurd h (U1 _)
 |N+1,t,h,hl=>by
  have e:(bR ws ord ss (N+1)).2=(bR ws ord ss N).2++[(fP ws ord N (bR ws ord ss N).1 (ss.getD N (0,1))).2.2]:=Z;have l:(bR ws ord ss N).2.length=N:=by
   rw[e,SZ] at hl;have:[(fP ws ord N (bR ws ord ss N).1 (ss.getD N (0,1))).2.2].length=1:=Z;omega
  rw[e,SG];by_cases c:t<N
  ·rw[Ul (by omega),←SG];exact qm c l
  ·have:t=N:=by omega
   subst this;rw[Uo (by omega),l,Xi];rfl
theorem r6{q:List Pc}{f:Pc->Rat}(nd:(q.map (·.1)).Nodup):sQ (λp:Pc=>bX (decide (p.1=i)) (f p)) q=0∨∃p∈q,p.1=i/\sQ (λp:Pc=>bX (decide (p.1=i)) (f p)) q=f p:=by
 induction q with
 |nil=>exact .inl Z
 |cons p q ih=>
  have nd':(p.1::q.map (·.1)).Nodup:=nd;obtain⟨n1,n2⟩:=Uf.mp nd';by_cases c:p.1=i
  ·refine .inr ⟨p,SO,c,?_⟩;have z:sQ (λp:Pc=>bX (decide (p.1=i)) (f p)) q=sQ (λ_:Pc=>0*(0:Rat)) q:=aN λx hx=>by
    rw[decide_eq_false (λe=>n1 (by rw[c,←e];exact SR.mpr ⟨x,hx,Z⟩)),cm];grind
   show bX (decide (p.1=i)) (f p)+sQ _ q=f p;rw[z,di,decide_eq_true c,c6];grind
  ·have e:sQ (λp:Pc=>bX (decide (p.1=i)) (f p)) (p::q)=sQ (λp:Pc=>bX (decide (p.1=i)) (f p)) q:=by
    show bX (decide (p.1=i)) (f p)+sQ _ q=_;rw[decide_eq_false c,cm];grind
   rw[e];rcases ih n2 with z | ⟨x,hx,e1,e2⟩
   ·exact .inl z
   ·exact .inr ⟨x,SQ _ hx,e1,e2⟩
structure Pk(K:Sy)(H:Hp)(v:V)(ws:List Wk):Prop where
 sv:QD K H v ws
 w8:ws.length≤20
 ok:∀w∈ws,cn w
inductive lL(K:Sy)(vs:List V)(H:Hp)(Q:VK):Prop where
 |mk (v:V) (ws:List Wk) (h0_:vs=[v]) (h1_:QD K H v ws) (h2_:ws.length≤20) (h3_:(∀w∈ws,cn w)) (h4_:∀(u:V) (H':Hp),aP H H'->eW K H' u ws->Q u H'):lL K vs H Q
def uJ(K:Sy):Sp:=λvs H Q _=>lL K vs H Q
inductive i6(K:Sy)(vs:List V)(H:Hp)(Q:VK):Prop where
 |mk (v:V) (ws:List Wk) (h0_:vs=[v]) (h1_:Pk K H v ws) (h2_:∀(lys:List Ly) (w:V) (H':Hp),aP H H'->iu ws (SC 24) lys->bW K H' w (Il (dZ ws (bn ws lys)).2)->Q w H'):i6 K vs H Q
def pP(K:Sy):Sp:=λvs H Q _=>i6 K vs H Q
theorem oO(h:iu ws ls lys):ls.length≤24->(∀t∈ls,t<24)->∀y∈lys,mE ws.length y:=by
 induction h with
 |nil _=>intro _ _ y hy;cases hy
 |cons h tl ih=>
  intro h1 h2 y hy;rcases S6.mp hy with z|z
  ·rw[z];exact DR h.1.inn h1 h2
  ·exact ih (Tu (UN _ _) h1) (λt ht=>h2 t (Tw.mp ht).1) y z
theorem nQ{ws:List Wk}{lys:List Ly}(ok:∀w∈ws,cn w)(hw:ws.length≤20)(lok:∀y∈lys,mE ws.length y):∀r∈bn ws lys,fw r:=λr hr=>(Br (ss:=Tq 24 (0,1)) ok hw lok (λr hr=>by rw[List.eq_of_mem_replicate hr];exact⟨GP.mono (SV _) (by decide),Xy _⟩) r hr).am (by decide)
def Sn(K:Sy)(C:Addr)(H:Hp)(u:V)(pd:PyData):Option Nat->Prop
 |none=>∃p x l,u=.ref p/\bV K H p [x,.ref l]/\bW K H x pd/\H l=some (.lst [])
 |some i=>∃p l x dd,u=.ref p/\bV K H p [.ref x,.ref l]/\H x=some (Nw x C dd)/\H dd=some (dO dd [("work",.int (i:Nat))])/\H l=some (.lst [.bl true,.bl true,.bl true,.bl false])
theorem Er{K:Sy}{H:Hp}{v:V}{r:R}(d:bW K H v (dR r)):RV K H v r:=by
 cases d with
 | @tup q zs _ hS2 hA2=>
  cases hA2 with
  |cons e1 e2=>
   cases e2 with
   |cons e3 e4=>
    cases e1
    cases e3
    cases e4
    exact⟨q,Z,hS2⟩
theorem GH{K:Sy}{H:Hp}{v:V}{c:Pc}(d:bW K H v (Pe c)):vQ K H v c:=by
 cases d with
 | @tup q zs _ hS2 hA2=>
  cases hA2 with
  |cons e1 e2=>
   cases e2 with
   |cons e3 e4=>
    cases e1
    cases e4
    exact⟨q,_,Z,hS2,Er e3⟩
theorem oY{α:Type}{K:Sy}{H:Hp}{f:α->PyData}{P:V->α->Prop}(h:∀v x,bW K H v (f x)->P v x):∀{l:List α} {xs:List V},cf K H xs (l.map f)->cH P xs l
 | [],_,d=>by cases d;exact .nil
 |x::l,_,d=>by
  cases d with
  |cons d1 d2=>exact .cons (h _ _ d1) (oY h d2)
theorem GG{K:Sy}{H:Hp}{v:V}{q:List Pc}(d:bW K H v (Pb q)):qR K H v q:=by
 cases d with
 | @tup p xs _ hS hA=>exact⟨p,xs,Z,hS,oY (P:=vQ K H) (λ_ _ z=>GH z) hA⟩
theorem yU{K:Sy}{H:Hp}{u:V}{pl:List (List Pc)}(d:bW K H u (Il pl)):∃p xs,u=.ref p/\bV K H p xs/\cH (qR K H) xs pl:=by
 cases d with
 | @tup p xs _ hS hA=>exact⟨p,xs,Z,hS,oY (P:=qR K H) (λ_ _ z=>GG z) hA⟩
def RL(K:Sy)(H:Hp)(v:V)(x:Nat×Nat):Prop:=∃p,v=.ref p/\bV K H p [.int (x.1:Nat),.int (x.2:Nat)]
structure Sq(K:Sy)(H:Hp)(D:Addr)(rows:List Addr)(n:Nat)(S:Nat->List (Nat×Nat)):Prop where
 top:H D=some (.lst (rows.map V.ref))
 len:rows.length=n
 nd:rows.Nodup
 ne:D∉rows
 row:∀i r,rows[i]?=some r->∃ys,H r=some (.lst ys)/\cH (RL K H) ys (S i)
def Sl(K:Sy)(t s lw:Addr)(m:Int)(en i:Nat)(r:Int)(H1:Hp):L2.St->Hp->Prop:=λσ H'=>∃a b:Nat,σ=[some (.ref t),some (.int m),some (.int en),some (.ref lw),some (.int (i:Nat)),some (.int (a:Nat)),some (.int (b:Nat)),some (.int r)]/\a≤b/\b<24/\eX t H1 H'/\zm K H' t s
theorem AI{z:Int}(h0:0≤z)(h:z≤(64512*5354228880^23)):z.natAbs<2^8990:=TX (show z.natAbs≤(64512*5354228880^23) by omega) (by decide)
inductive pD(K_:Sy)(C:Addr)(vs:List V)(H:Hp)(Q:VK):Prop where
 |mk (a:Addr) (v:V) (h0_:vs=[.ref a,v]) (h1_:H a=some (vh a C none)) (h2_:∀d,H d=none->d≠a->Q .non (aO (aO H a (vh a C (some d))) d (dO d [("text",v)]))):pD K_ C vs H Q
def LH(K_:Sy)(C:Addr):Sp:=λvs H Q _=>pD K_ C vs H Q
inductive pF(K_:Sy)(C:Addr)(vs:List V)(H:Hp)(Q:VK):Prop where
 |mk (a:Addr) (v:V) (h0_:vs=[.ref a,v]) (h1_:H a=some (vh a C none)) (h2_:∀d,H d=none->d≠a->Q .non (aO (aO H a (vh a C (some d))) d (dO d [("text",v)]))):pF K_ C vs H Q
def LI(K_:Sy)(C:Addr):Sp:=λvs H Q _=>pF K_ C vs H Q
inductive lJ(K:Sy)(vs:List V)(H:Hp)(Q:VK):Prop where
 |mk (v:V) (d:PyData) (h0_:vs=[v]) (h1_:bW K H v d) (h2_:Q (.bl (gX d)) H):lJ K vs H Q
def uH(K:Sy):Sp:=λvs H Q _=>lJ K vs H Q
inductive iz(K:Sy)(vs:List V)(H:Hp)(Q:VK):Prop where
 |mk (v:V) (d:PyData) (m:Nat) (h0_:vs=[v,.int m]) (h1_:bW K H v d) (h2_:Q (.bl (pM m d)) H):iz K vs H Q
def nW(K:Sy):Sp:=λvs H Q _=>iz K vs H Q
inductive lK(K:Sy)(vs:List V)(H:Hp)(Q:VK):Prop where
 |mk (v:V) (d:PyData) (h0_:vs=[v]) (h1_:bW K H v d) (h2_:Q (.bl (kQ d)) H):lK K vs H Q
def uI(K:Sy):Sp:=λvs H Q _=>lK K vs H Q
theorem jV(h:gX d=true):∃i,d=.int i:=by
 cases d with
 |int i=>exact⟨i,Z⟩
 |_=>cases h
theorem MA(h:gX x=false):kQ (.tuple [x,y])=false:=by
 cases x with
 |int i=>cases h
 |_=>rfl
theorem Mz(h:gX y=false):kQ (.tuple [x,y])=false:=by
 cases y with
 |int i=>cases h
 |_=>cases x<;>rfl
def oJ(m:Int):PyData->Bool
 | .int i=>decide (0≤i)&&decide (i<m)
 |_=>false
def eV:PyData->Bool
 | .tuple [.int a,.int b]=>(decide (1≤b)&&decide (S7 a b=1))&&decide (0<a)
 |_=>false
def OX:PyData->PyData->Bool
 | .int i,.int j=>decide (i≤j)
 |_,_=>false
def Se:PyData->PyData->Bool
 | .int i,.int j=>!decide (i=j)
 |_,_=>false
def qa:PyData->Bool
 | .tuple [a,b,c]=>oJ 24 a&&(oJ 24 b&&(OX a b&&eV c))
 |_=>false
inductive gR(K:Sy)(vs:List V)(H:Hp)(Q:VK):Prop where
 |mk (v:V) (d:PyData) (m:Int) (h0_:vs=[v,.int m]) (h1_:bW K H v d) (h2_:Q (.bl (oJ m d)) H):gR K vs H Q
def mU(K:Sy):Sp:=λvs H Q _=>gR K vs H Q
inductive fD(K:Sy)(vs:List V)(H:Hp)(Q:VK):Prop where
 |mk (v:V) (d:PyData) (h0_:vs=[v]) (h1_:bW K H v d) (h2_:Q (.bl (eV d)) H):fD K vs H Q
def ke(K:Sy):Sp:=λvs H Q _=>fD K vs H Q
inductive mO(K:Sy)(vs:List V)(H:Hp)(Q:VK):Prop where
 |mk (v:V) (d:PyData) (h0_:vs=[v]) (h1_:bW K H v d) (h2_:Q (.bl (qa d)) H):mO K vs H Q
def vW(K:Sy):Sp:=λvs H Q _=>mO K vs H Q
theorem oI(h:oJ m d=true):∃i,d=.int i/\0≤i/\i<m:=by
 cases d with
 |int i=>
  have h':(decide (0≤i)&&decide (i<m))=true:=h;rw[Ta,decide_eq_true_iff,decide_eq_true_iff] at h';exact⟨i,Z,h'⟩
 |_=>cases h
theorem Gh(h:gX d=false):oJ m d=false:=by
 cases d with
 |int i=>cases h
 |_=>rfl
theorem CN(h:kQ d=true):∃i j,d=.tuple [.int i,.int j]:=by
 unfold kQ at h
 split at h
 ·exact⟨_,_,Z⟩
 ·cases h
theorem AJ(h:kQ d=false):eV d=false:=by
 cases c:eV d with
 |false=>rfl
 |true=>
  unfold eV at c
  split at c
  ·rename_i a b;rw[Ta] at c;have h':(decide (1≤b)&&decide (S7 a b=1))=false:=h;rw[h'] at c
   cases c.1
  ·cases c
theorem xx(h:kQ (.tuple [.int i,.int j])=true):eV (.tuple [.int i,.int j])=decide (0<i):=by
 show((decide (1≤j)&&decide (S7 i j=1))&&decide (0<i))=_;have h':(decide (1≤j)&&decide (S7 i j=1))=true:=h;rw[h',Wm]
theorem bW.three{K:Sy}{H:Hp}{v:V}{d:PyData}(h:bW K H v d)(c:pM 3 d=true):∃a x y z dx dy dz,v=.ref a/\d=.tuple [dx,dy,dz]/\bV K H a [x,y,z]/\bW K H x dx/\bW K H y dy/\bW K H z dz:=by
 cases h with
 |tup e t=>
  have l:=of_decide_eq_true (show decide (_=3)=true from c)
  cases t with
  |nil=>cases l
  |cons a t=>
   cases t with
   |nil=>cases l
   |cons b t=>
    cases t with
    |nil=>cases l
    |cons c' t=>
     cases t with
     |nil=>exact⟨_,_,_,_,_,_,_,Z,Z,e,a,b,c'⟩
     |cons _ _=>simp at l
 |_=>cases c
theorem AV(h:pM 3 d=false):qa d=false:=by
 cases c:qa d with
 |false=>rfl
 |true=>
  unfold qa at c
  split at c
  ·cases h
  ·cases c
inductive lH(K_:Sy)(vs:List V)(H:Hp)(Q:VK):Prop where
 |mk (a b:Int) (h0_:vs=[.int a,.int b]) (h1_:0<b) (h2_:b.natAbs<2^8990) (h3_:pV H Q (d6 a b)):lH K_ vs H Q
def uG(K_:Sy):Sp:=λvs H Q _=>lH K_ vs H Q
structure db(H:Hp)(t l:Addr):Prop where
 ex:∃(ns:List Int) (p:Int),H t=some (.lst [.ref l,.int p])/\H l=some (.lst (ns.map V.int))/\l≠t/\0<ns.length/\ns.length≤1000
theorem db.lst(h:db H t l):∃xs,H t=some (.lst xs):=let ⟨_,_,e,_⟩:=h.ex;⟨_,e⟩
theorem db.lst'(h:db H t l):∃xs,H l=some (.lst xs):=let ⟨_,_,_,e,_⟩:=h.ex;⟨_,e⟩
theorem db.same(h:db H t l)(s:aP H H'):db H' t l:=let ⟨ns,p,a,b,c⟩:=h.ex;⟨ns,p,s _ _ a,s _ _ b,c⟩
theorem db.upl(h:db H t l)(h1:a≠t)(h2:a≠l)(o:HO):db (aO H a o) t l:=by
 obtain⟨ns,p,e,f,c⟩:=h.ex;exact⟨ns,p,by rw[aA h1.symm];exact e,by rw[aA h2.symm];exact f,c⟩
inductive lF(K_:Sy)(vs:List V)(H:Hp)(Q:VK):Prop where
 |mk (t l:Addr) (m:Int) (h0_:vs=[.ref t,.int m]) (h1_:db H t l) (h2_:0<m) (h3_:m<1073741824) (h4_:∀(r:Int) (xs:List V),0≤r->r<m->db (aO H t (.lst xs)) t l->Q (.int r) (aO H t (.lst xs))):lF K_ vs H Q
def uE(K_:Sy):Sp:=λvs H Q _=>lF K_ vs H Q
inductive iy(K:Sy)(vs:List V)(H:Hp)(Q:VK):Prop where
 |mk (a:Addr) (ns:List Int) (k:Nat) (h0_:vs=[.ref a,.int k]) (h1_:bu K H a (ns.map V.int)) (h2_:∀z:Int,Q (.int z) H):iy K vs H Q
def nV(K:Sy):Sp:=λvs H Q _=>iy K vs H Q
inductive jO(K_:Sy)(vs:List V)(H:Hp)(Q:VK):Prop where
 |mk (c:Int) (m:Nat) (h0_:vs=[.int c,.int m]) (h1_:0<m) (h2_:m≤1000) (h3_:∀(l:Addr) (ns:List Int) (H':Hp),aP H H'->H l=none->H' l=some (.lst (ns.map V.int))->ns.length=m->Q (.ref l) H'):jO K_ vs H Q
def rK(K_:Sy):Sp:=λvs H Q _=>jO K_ vs H Q
theorem fV(ok:∀w∈ws,cn w)(w8:ws.length≤20)(h:iu ws (SC 24) lys):xD ws (dZ ws (bn ws lys)).2:=by
 have hs:=nQ ok w8 (oO h (by decide) λt ht=>SW.mp ht);have oi:=fi (ws:=ws) ws.length (SD _);have nd:=sW (ws:=ws) ws.length (SD _);have E:=w9 (ws:=ws) ok h;obtain⟨po,pl24⟩:=gi (ord:=bD ws ws.length) (ss:=bn ws lys) ok oi.lt hs 24;have PC:=λt=>C8 (ord:=bD ws ws.length) ok oi.lt nd hs t
 have at_:∀t,t<24->(dZ ws (bn ws lys)).2.getD t []=(fP ws (bD ws ws.length) t (bR ws (bD ws ws.length) (bn ws lys) t).1 ((bn ws lys).getD t (0,1))).2.2:=λt ht=>qm ht pl24
 have pv:=λt=>kX (ord:=bD ws ws.length) (ss:=bn ws lys) ok oi.lt hs t
 generalize hpl:(dZ ws (bn ws lys)).2=pl at at_;have plen:pl.length=24:=by rw[←hpl];exact pl24
 have few:∀t,(pl.getD t []).length≤20:=λt=>by
  rw[SG]
  cases e:pl[t]? with
  |none=>exact S8 _
  |some q=>
   have m:q∈(bR ws (bD ws ws.length) (bn ws lys) 24).2:=by
    have:=SF e;rw[←hpl] at this;exact this
   have:=(po.pc q m).1;have l:=oi.len;show q.length≤20;omega
 have mem:∀t k,t<24->k<(pl.getD t []).length->((dA pl t k).1,(dA pl t k).2)∈(fP ws (bD ws ws.length) t (bR ws (bD ws ws.length) (bn ws lys) t).1 ((bn ws lys).getD t (0,1))).2.2:=λt k ht hk=>by
  rw[←at_ t ht];unfold dA;rw[ax (0,(0,1)) (Sz hk)];exact S2 hk
 have pc:∀t k,t<24->k<(pl.getD t []).length->(dA pl t k).1<ws.length/\im (ws.getD (dA pl t k).1 bh) t=true/\fw (dA pl t k).2/\0<val (dA pl t k).2:=λt k ht hk=>by
  have m:=mem t k ht hk;obtain⟨a,b,c,_⟩:=(PC t).pc _ _ m;exact⟨((PC t).ok.pc _ m).1,a,b,c⟩
 have ndt:∀t,t<24->((pl.getD t []).map (·.1)).Nodup:=λt ht=>by
  rw[at_ t ht];exact(PC t).sub.nodup nd
 have ndj:∀t j k,t<24->j<k->k<(pl.getD t []).length->(dA pl t j).1≠(dA pl t k).1:=λt j k ht hj hk=>by
  have p:=Vf.mp (ndt t ht) j k (by rw[SE];omega) (by rw[SE];exact hk) hj;unfold dA;rw[ax (0,(0,1)) (Sz (show j<(pl.getD t []).length by omega)),ax (0,(0,1)) (Sz hk)];rw[Xs,Xs] at p;exact p
 have turnv:∀t i,t<24->sQ (λj=>bX (decide ((dA pl t j).1=i)) (val (dA pl t j).2)) (SC (pl.getD t []).length)=eZ (bR ws (bD ws ws.length) (bn ws lys) t).1 i-eZ (bR ws (bD ws ws.length) (bn ws lys) (t+1)).1 i:=λt i ht=>by
  have e:sQ (λj=>bX (decide ((dA pl t j).1=i)) (val (dA pl t j).2)) (SC (pl.getD t []).length)=sQ (λp:Pc=>bX (decide (p.1=i)) (val p.2)) (pl.getD t []):=(fH (f:=λp:Pc=>bX (decide (p.1=i)) (val p.2)) (0,(0,1)) (pl.getD t [])).symm;rw[e];by_cases c:i∈(pl.getD t []).map (·.1)
  ·obtain⟨⟨i',r⟩,hm,e1⟩:=SR.mp c;have e1':i'=i:=e1;subst e1';rcases r6 (i:=i') (f:=λp:Pc=>val p.2) (ndt t ht) with z | ⟨p,hp,e2,e3⟩
   ·exfalso;have hm':=hm;rw[at_ t ht] at hm';obtain⟨_,_,v0,_⟩:=(PC t).pc _ _ hm';have:=gc (f:=λp:Pc=>bX (decide (p.1=i')) (val p.2)) (l:=pl.getD t []) (λx hx=>eI _ (by
     have hx':=hx;rw[at_ t ht] at hx';obtain⟨_,_,w0,_⟩:=(PC t).pc x.1 x.2 hx';exact Up w0)) z _ hm
    rw[decide_eq_true Z,c6] at this;have this':val r=0:=this;grind
   ·rw[e3];have hp':=hp;rw[at_ t ht] at hp';obtain⟨_,_,_,v1⟩:=(PC t).pc p.1 p.2 hp';rw[e2] at v1;exact v1
  ·have z:sQ (λp:Pc=>bX (decide (p.1=i)) (val p.2)) (pl.getD t [])=sQ (λ_:Pc=>0*(0:Rat)) (pl.getD t []):=aN λx hx=>by
    rw[decide_eq_false (λe=>c (by rw[←e];exact SR.mpr ⟨x,hx,Z⟩)),cm];grind
   rw[at_ t ht] at c;have u:=(PC t).un i c;have u':eZ (bR ws (bD ws ws.length) (bn ws lys) (t+1)).1 i=eZ (bR ws (bD ws ws.length) (bn ws lys) t).1 i:=congrArg val u;rw[z,di,u'];grind
 have dnv:∀i t,t≤24->0<(ER pl i t).2/\val (ER pl i t)=eZ (bR ws (bD ws ws.length) (bn ws lys) 0).1 i-eZ (bR ws (bD ws ws.length) (bn ws lys) t).1 i:=λi t=>by
  induction t with
  |zero=>intro _;exact⟨by show(0:Int)<1;decide,by show val ((0,1):R)=_;rw[qd];grind⟩
  |succ t ih=>
   intro ht;obtain⟨p,e⟩:=ih (by omega);obtain⟨p2,e2⟩:=tZ (pl:=pl) (t:=t) (i:=i) p (pl.getD t []).length λj hj=>(pc t j (by omega) hj).2.2.1.bq.pos
   refine⟨p2,?_⟩;show val (yT pl t i (ER pl i t) (pl.getD t []).length)=_;rw[e2,e,turnv t i (by omega)];grind
 have a0:∀i,i<ws.length->val (ER pl i 24)=fY (ws.getD i bh):=λi hi=>by
  have e:=(dnv i 24 (SD _)).2;rw[pv 24,O9 E hi] at e;have z:eZ (bR ws (bD ws ws.length) (bn ws lys) 0).1 i=fY (ws.getD i bh):=by
   rw[pv 0];exact zh hi
  rw[z] at e;rw[e];grind
 refine⟨plen,few,λt k ht hk=>?_,ndj,λi il=>?_⟩
 ·obtain⟨p1,p2,p3,p4⟩:=pc t k ht hk;exact⟨p1,p3,p4,p2⟩
 ·have o:=(ok _ (S2 il)).am;have bq:=El (ws:=ws) few (λt k ht hk=>(pc t k ht hk).2.2.1) i 24 (SD _);refine fG bq.red ?_ (a0 i il);rw[ax bh (Sz il)];exact(zb o).red
structure fM where
 tn:Nat
 kn:List Wk
 rs:List R
 dn:List (List Pc)
def EQ(t:Nat)(lk lr ld:Addr):List (TB×V):=[("turn",.int t),("known",.ref lk),("rest",.ref lr),("done",.ref ld)]
structure pY(K:Sy)(C:Addr)(H:Hp)(a lk lr ld:Addr)(s:fM):Prop where
 ins:∃dx,H a=some (.ins C dx (EQ s.tn lk lr ld))
 hk:∃xs,H lk=some (.lst xs)/\cH (zk K H) xs s.kn
 hr:∃xs,H lr=some (.lst xs)/\cH (RV K H) xs s.rs
 hd:∃xs,H ld=some (.lst xs)/\cH (qR K H) xs s.dn
 n1:lk≠lr
 n2:lk≠ld
 n3:lr≠ld
theorem pY.same{K:Sy}{C:Addr}{H H':Hp}{a lk lr ld:Addr}{s:fM}(h:pY K C H a lk lr ld s)(z:aP H H'):pY K C H' a lk lr ld s:=by
 obtain⟨dx,i⟩:=h.ins;obtain⟨x,k1,k2⟩:=h.hk;obtain⟨y,r1,r2⟩:=h.hr;obtain⟨u,d1,d2⟩:=h.hd;have t:=aR.same (K:=K) z;exact⟨⟨dx,z _ _ i⟩,⟨x,z _ _ k1,k2.mono λ_ _ q=>q.mono t⟩,⟨y,z _ _ r1,r2.mono λ_ _ q=>q.mono t⟩,⟨u,z _ _ d1,d2.mono λ_ _ q=>q.mono t⟩,h.n1,h.n2,h.n3⟩
def Ll(a lk lr ld:Addr)(H H':Hp):Prop:=∀b o,b≠a->b≠lk->b≠lr->b≠ld->H b=some o->H' b=some o
theorem pY.tst{K:Sy}{C:Addr}{H H':Hp}{a lk lr ld:Addr}{s:fM}(h:pY K C H a lk lr ld s)(z:Ll a lk lr ld H H'):aR K H H':=by
 obtain⟨dx,i⟩:=h.ins;obtain⟨x,k1,_⟩:=h.hk;obtain⟨y,r1,_⟩:=h.hr;obtain⟨u,d1,_⟩:=h.hd;intro p xs q;rcases q with(q | ⟨o,q⟩)|q
 ·exact .inl (.inl (z _ _ (λe=>by subst e;rw[q] at i;cases i) (λe=>by subst e;rw[q] at k1;cases k1) (λe=>by subst e;rw[q] at r1;cases r1) (λe=>by subst e;rw[q] at d1;cases d1) q))
 ·exact .inl (.inr ⟨o,z _ _ (λe=>by subst e;rw[q] at i;cases i) (λe=>by subst e;rw[q] at k1;cases k1) (λe=>by subst e;rw[q] at r1;cases r1) (λe=>by subst e;rw[q] at d1;cases d1) q⟩)
 ·exact .inr q
def vP(K:Sy)(H:Hp)(v:V)(pl:List (List Pc)):Prop:=∃p xs,v=.ref p/\bV K H p xs/\cH (qR K H) xs pl
inductive iC(K:Sy)(C:Addr)(vs:List V)(H:Hp)(Q:VK):Prop where
 |mk (x dx:Addr) (h0_:vs=[.ref x]) (h1_:H x=some (.ins C dx [])) (h2_:∀(lk lr ld:Addr) (H':Hp),(∀b o,b≠x->H b=some o->H' b=some o)->H lk=none->H lr=none->H ld=none->pY K C H' x lk lr ld ⟨0,[],[],[]⟩->Q .non H'):iC K C vs H Q
def nY(K:Sy)(C:Addr):Sp:=λvs H Q _=>iC K C vs H Q
inductive jc(K:Sy)(C:Addr)(vs:List V)(H:Hp)(Q:VK):Prop where
 |mk (a lk lr ld:Addr) (s:fM) (h0_:vs=[.ref a]) (h1_:pY K C H a lk lr ld s) (h2_:Q (.int s.tn) H):jc K C vs H Q
def EN(K:Sy)(C:Addr):Sp:=λvs H Q _=>jc K C vs H Q
inductive gT(K:Sy)(C:Addr)(vs:List V)(H:Hp)(Q:VK):Prop where
 |mk (a lk lr ld:Addr) (s:fM) (h0_:vs=[.ref a]) (h1_:pY K C H a lk lr ld s) (h2_:∀v H',aP H H'->eW K H' v s.kn->Q v H'):gT K C vs H Q
def AS(K:Sy)(C:Addr):Sp:=λvs H Q _=>gT K C vs H Q
inductive iB(K:Sy)(C:Addr)(vs:List V)(H:Hp)(Q:VK):Prop where
 |mk (a lk lr ld:Addr) (s:fM) (h0_:vs=[.ref a]) (h1_:pY K C H a lk lr ld s) (h2_:∀v H',aP H H'->vO K H' v s.rs->Q v H'):iB K C vs H Q
def Bz(K:Sy)(C:Addr):Sp:=λvs H Q _=>iB K C vs H Q
inductive iA(K:Sy)(C:Addr)(vs:List V)(H:Hp)(Q:VK):Prop where
 |mk (a lk lr ld:Addr) (s:fM) (h0_:vs=[.ref a]) (h1_:pY K C H a lk lr ld s) (h2_:∀v H',aP H H'->vP K H' v s.dn->Q v H'):iA K C vs H Q
def By(K:Sy)(C:Addr):Sp:=λvs H Q _=>iA K C vs H Q
def vw(s:fM)(dv du:PyData):Bool:=qa (.tuple [.int s.tn,dv,du])&&decide (s.kn.length<20)
def vv(s:fM)(l:Nat)(r:R):fM:=⟨s.tn,s.kn++[(s.tn,l,r)],s.rs++[r],s.dn⟩
inductive iD(K:Sy)(C:Addr)(vs:List V)(H:Hp)(Q:VK):Prop where
 |mk (a lk lr ld:Addr) (s:fM) (v u:V) (dv du:PyData) (h0_:vs=[.ref a,v,u]) (h1_:pY K C H a lk lr ld s) (h2_:s.kn.length≤20) (h3_:s.rs.length≤20) (h4_:bW K H v dv) (h5_:bW K H u du) (h6_:vw s dv du=true) (h7_:(∀(l:Nat) (r:R) (H':Hp),dv=.int (l:Nat)->du=dR r->Ll a lk lr ld H H'->pY K C H' a lk lr ld (vv s l r)->Q (.int s.kn.length) H')):iD K C vs H Q
def nZ(K:Sy)(C:Addr):Sp:=λvs H Q _=>iD K C vs H Q
theorem GN(h:qa (.tuple [.int (t:Nat),dv,du])=true):∃(l:Nat) (r:R),dv=.int (l:Nat)/\du=dR r/\t≤l/\l<24/\0<r.1/\gW r:=by
 have h':(oJ 24 (.int (t:Nat))&&(oJ 24 dv&&(OX (.int (t:Nat)) dv&&eV du)))=true:=h;rw[Ta,Ta,Ta] at h';obtain⟨_,h2,h3,h4⟩:=h';obtain⟨i,rfl,i0,i1⟩:=oI h2;obtain⟨l,rfl⟩:=Uc i0;have h3':=of_decide_eq_true (show decide (((t:Nat):Int)≤(l:Nat))=true from h3);unfold eV at h4
 split at h4
 ·rename_i x y;rw[Ta,Ta,decide_eq_true_iff,decide_eq_true_iff,decide_eq_true_iff] at h4;exact⟨l,(x,y),Z,Z,by omega,by omega,h4.2,by show(0:Int)<y;omega,h4.1.2⟩
 ·cases h4
def aT(rs:List R):List Nat:=(SC rs.length).filter λi=>decide (rs.getD i (0,1)≠(0,1))
def bv(kn:List Wk)(rs:List R)(t:Nat):List Wk:=(aT rs).map λi=>(t,(kn.getD i bh).2.1,rs.getD i (0,1))
inductive gl(K:Sy)(vs:List V)(H:Hp)(Q:VK):Prop where
 |mk (a b:Addr) (xs ys:List V) (kn:List Wk) (rs:List R) (t:Nat) (h0_:vs=[.ref a,.ref b,.int (t:Nat)]) (h1_:Lf K H a xs) (h2_:cH (zk K H) xs kn) (h3_:bu K H b ys) (h4_:cH (RV K H) ys rs) (h5_:rs.length=kn.length) (h6_:rs.length≤20) (h7_:∀(p l:Addr) (u:V) (H':Hp),aP H H'->bV K H' p [u,.ref l]->eW K H' u (bv kn rs t)->H' l=some (.lst (bO (aT rs)))->Q (.ref p) H'):gl K vs H Q
def lT(K:Sy):Sp:=λvs H Q _=>gl K vs H Q
def bI(ns:List Nat)(q:List Pc):List Pc:=q.map λc=>(ns.getD c.1 0,c.2)
inductive i4(K:Sy)(vs:List V)(H:Hp)(Q:VK):Prop where
 |mk (u:V) (l:Addr) (q:List Pc) (ns:List Nat) (h0_:vs=[u,.ref l]) (h1_:qR K H u q) (h2_:bu K H l (bO ns)) (h3_:(∀c∈q,c.1<ns.length)) (h4_:q.length≤64) (h5_:∀(v:V) (H':Hp),aP H H'->qR K H' v (bI ns q)->Q v H'):i4 K vs H Q
def pN(K:Sy):Sp:=λvs H Q _=>i4 K vs H Q
theorem wy{α:Type}{f:α->Rat}:∀{l:List α},(∀x∈l,0≤f x)->∀{x:α},x∈l->f x≤sQ f l
 |y::l,h,x,hx=>by
  show f x≤f y+sQ f l;have h0:=h y SO;have hl:=mF (f:=f) (l:=l) λz hz=>h z (SQ _ hz)
  rcases S6.mp hx with rfl|z
  ·grind
  ·have:=wy (λz hz=>h z (SQ _ hz)) z;grind
theorem sV(hk:k<(pl.getD t []).length):dA pl t k=(pl.getD t [])[k]:=ax _ (Sz hk)
theorem xD.mem(pr:xD ws pl)(ht:t<24)(hc:c∈pl.getD t []):c.1<ws.length/\fw c.2/\0<val c.2/\im (ws.getD c.1 bh) t=true:=by
 obtain⟨k,hk,e⟩:=T0.mp hc;have:=pr.pc t k ht hk;rw[sV hk,e] at this;exact this
theorem xD.nodup(pr:xD ws pl)(ht:t<24):((pl.getD t []).map (·.1)).Nodup:=by
 unfold Tz;rw[aam,Vf];intro i j hi hj hij;have:=pr.nd t i j ht hij hj;rw[sV hi,sV hj] at this;exact this
def eQ(pl:List (List Pc))(i u:Nat):Rat:=sQ (λc:Pc=>bX (decide (c.1=i)) (val c.2)) (pl.getD u [])
theorem xD.sum{ws:List Wk}{pl:List (List Pc)}(pr:xD ws pl)(i:Nat):∀t,t≤24->0<(ER pl i t).2/\val (ER pl i t)=sQ (eQ pl i) (SC t)
 |0,_=>⟨by show(0:Int)<1;decide,by show val (0,1)=0;exact(c8 (r:=(0,1)) (by decide)).mpr Z⟩
 |t+1,h=>by
  obtain⟨p,e⟩:=xD.sum pr i t (by omega);obtain⟨p2,e2⟩:=tZ (pl:=pl) (t:=t) (i:=i) p (pl.getD t []).length λj hj=>(pr.pc t j (by omega) hj).2.1.bq.pos
  refine⟨p2,?_⟩;rw[Ua,d0];show val (yT pl t i (ER pl i t) (pl.getD t []).length)=_+(eQ pl i t+0);rw[e2,e];unfold eQ;rw[fH (0,(0,1)) (pl.getD t [])];unfold dA;grind
theorem xD.pt_nn(pr:xD ws pl)(hu:u<24):0≤eQ pl i u:=mF λc hc=>eI _ (Up (pr.mem hu hc).2.2.1)
theorem xD.most(pr:xD ws pl)(ht:t<24)(hc:c∈pl.getD t []):val c.2≤fY (ws.getD c.1 bh):=by
 have m:=pr.mem ht hc;have e:=(pr.sum c.1 24 (SD _)).2;rw[pr.fin c.1 m.1] at e;unfold fY;rw[e];have h1:val c.2≤eQ pl c.1 t:=by
  have:=wy (f:=λx:Pc=>bX (decide (x.1=c.1)) (val x.2)) (λx hx=>eI _ (Up (pr.mem ht hx).2.2.1)) hc;rw[decide_eq_true Z,c6] at this;exact this
 exact aaj h1 (wy (λu hu=>pr.pt_nn (SW.mp hu)) (SW.mpr ht))
theorem xD.all(pr:xD ws pl)(ok:∀w∈ws,cn w)(ht:t<24)(hi:i<ws.length)(h1:(ws.getD i bh).1=t)(h2:(ws.getD i bh).2.1=t):∃c∈pl.getD t [],c.1=i/\c.2=(ws.getD i bh).2.2:=by
 have wo:=ok _ (S2 hi);have ew:ws.getD i bh=ws[i]:=ax bh (Sz hi);have e:=(pr.sum i 24 (SD _)).2;rw[pr.fin i hi] at e;have z:∀u∈SC 24,eQ pl i u=if u=t then eQ pl i t else 0:=λu hu=>by
  by_cases c:u=t
  ·rw[if_pos c,c]
  ·rw[if_neg c];have:∀x∈pl.getD u [],bX (decide (x.1=i)) (val x.2)=0:=λx hx=>by
    have m:=pr.mem (SW.mp hu) hx;by_cases d:x.1=i
    ·exfalso;have w:=m.2.2.2;rw[d] at w;unfold im at w;rw[Ta,decide_eq_true_iff,decide_eq_true_iff] at w;omega
    ·rw[decide_eq_false d,cm]
   unfold eQ;rw[aN (g:=λ_=>(0:Rat)) this];have:=di (0:Rat) (f:=λ_:Pc=>(0:Rat)) (pl.getD u []);grind
 rw[aN z,CI ht] at e;have pa:0<val (ws.getD i bh).2.2:=by rw[ew];exact EB wo
 rcases r6 (q:=pl.getD t []) (i:=i) (f:=λp=>val p.2) (pr.nodup ht) with y | ⟨c,hc,ei,y⟩
 ·exfalso;unfold eQ at e;rw[y] at e;rw[e] at pa;exact absurd pa (by decide)
 ·refine⟨c,hc,ei,?_⟩;unfold eQ at e;rw[y] at e;exact fG (pr.mem ht hc).2.1.red (by rw[ew];exact⟨by have:=wo.am.bot;omega,wo.am.wf.cop⟩) e.symm
def BD(D:Nat)(r:R):Prop:=gW r/\r.2∣(D:Int)
theorem BD.bq(h:BD D r):Bq D r.1.natAbs r:=⟨h.1.pos,h.1.cop,h.2,Yz _ (by have:=h.1.pos;omega)⟩
theorem ir(h:Bq D N r):BD D r:=⟨h.red,h.dvd⟩
theorem BD.minus(hD:0<D)(a:BD D x)(b:BD D y):BD D (bJ x y):=ir (Bq.minus hD a.bq b.bq)
theorem BD.les(a:BD D x)(b:BD D y):BD D (fk x y):=by
 unfold fk
 split
 ·exact b
 ·exact a
theorem BD.zero(D:Nat):BD D (0,1):=⟨⟨by decide,by decide⟩,⟨(D:Int),by show(D:Int)=1*D;omega⟩⟩
theorem BD.mono(h:BD D r)(d:D∣D'):BD D' r:=⟨h.1,VS h.2 (UC.mpr d)⟩
structure DB(D:Nat)(st:xL):Prop where
 lf:∀r∈st.1,BD D r
 rm:BD D st.2.1
 pc:∀p∈st.2.2,BD D p.2
theorem jq{l:List R}(h:∀r∈l,BD D r)(i:Nat):BD D (l.getD i (0,1)):=by
 rw[SG]
 cases e:l[i]? with
 |none=>exact BD.zero D
 |some r=>exact h r (SF e)
theorem DB.step{D:Nat}{ws:List Wk}{t i:Nat}{st:xL}(hD:0<D)(h:DB D st):DB D (cY ws t st i):=by
 unfold cY
 split
 ·have a:=jq h.lf i;have la:=a.les h.rm;refine⟨λr hr=>?_,h.rm.minus hD la,λp hp=>?_⟩
  ·rcases Us hr with z|z
   ·exact h.lf r z
   ·rw[z];exact a.minus hD la
  ·rcases Ti.mp hp with z|z
   ·exact h.pc p z
   ·rw[SJ.mp z];exact la
 ·exact h
theorem DB.fold{D:Nat}{ws:List Wk}{t:Nat}(hD:0<D):∀{ord:List Nat} {st:xL},DB D st->DB D (ord.foldl (cY ws t) st)
 | [],st,h=>h
 |i::ord,st,h=>(h.step hD).fold hD (ord:=ord)
theorem yz{D:Nat}{ws:List Wk}{ord:List Nat}{ss:List R}(hD:0<D)(hw:∀w∈ws,BD D w.2.2)(hs:∀r∈ss,BD D r):∀t,(∀r∈(bR ws ord ss t).1,BD D r)/\∀q∈(bR ws ord ss t).2,∀x∈q,BD D x.2
 |0=>⟨λr hr=>by obtain⟨w,hw',rfl⟩:=SR.mp hr;exact hw w hw',λq hq=>by cases hq⟩
 |t+1=>by
  obtain⟨h1,h2⟩:=yz (ord:=ord) hD hw hs t;have d:=DB.fold (ws:=ws) (t:=t) (ord:=ord) (st:=((bR ws ord ss t).1,ss.getD t (0,1),[])) hD ⟨h1,jq hs t,λp hp=>by cases hp⟩;refine⟨d.lf,λq hq=>?_⟩;rcases Ti.mp (show q∈(bR ws ord ss t).2++[_] from hq) with z|z
  ·exact h2 q z
  ·rw[SJ.mp z];exact d.pc
theorem Nd:∀m,m<25->0<m->m∣5354228880:=by decide
theorem IC(hd:0<d)(hw:∀w∈ws,Bq d 12 w.2.2)(lok:mE ws.length y):BD (d*5354228880) (eC ws y):=by
 have am:∀r∈i3 ws y,Bq d 12 r:=λr hr=>by
  obtain⟨i,hi,rfl⟩:=SR.mp hr;have hl:=lok.num i hi;rw[ax bh (Sz hl)];exact hw _ (S2 hl)
 have pos:=lok.pos;have few:=lok.few;have o:Bq y.1.length 1 ((1,(y.1.length:Int)):R):=⟨by show(0:Int)<_;omega,by simp,Xf _,by show(1:Int).natAbs≤1*((y.1.length:Int)).natAbs;omega⟩;exact(ir ((f9 hd am).times o)).mono (XD _ (Nd _ (by omega) pos))
theorem Bs{d:Nat}{ws:List Wk}(hd:0<d)(hw:∀w∈ws,Bq d 12 w.2.2):∀{lys:List Ly} {ss:List R},(∀y∈lys,mE ws.length y)->(∀r∈ss,BD (d*5354228880) r)->∀r∈lys.foldl (λss y=>jx (eC ws y) ss y.1) ss,BD (d*5354228880) r
 | [],ss,_,h=>h
 |y::lys,ss,hl,h=>by
  refine Bs (lys:=lys) hd hw (λz hz=>hl z (SQ _ hz)) ?_;have sp:=IC hd hw (hl y SO);have go:∀(ts:List Nat) (ss:List R),(∀r∈ss,BD (d*5354228880) r)->∀r∈jx (eC ws y) ss ts,BD (d*5354228880) r:=by
   intro ts
   induction ts with
   |nil=>intro ss h;exact h
   |cons t ts ih=>
    intro ss h;refine ih (ss.set t (eC ws y)) λr hr=>?_
    rcases Us hr with z|z
    ·exact h r z
    ·rw[z];exact sp
  exact go y.1 ss h
theorem GI(hd:0<d)(hw:∀w∈ws,Bq d 12 w.2.2)(h:iu ws (SC 24) lys):∀q∈(dZ ws (bn ws lys)).2,∀x∈q,BD (d*5354228880) x.2:=by
 have ly:=oO h (by rw[TJ];exact SD _) (λt ht=>SW.mp ht);have sp:=Bs (ss:=Tq 24 (0,1)) hd hw ly λr hr=>by rw[(ZV.mp hr).2];exact BD.zero _
 exact(yz (ord:=bD ws ws.length) (ss:=bn ws lys) (Zo hd (by decide)) (λw hw'=>(ir (hw w hw')).mono (Wq _ _)) sp 24).2
def DK(t:Nat):Nat:=84*5354228880^t
theorem xO(t:Nat):0<DK t:=Zo (by decide) (aaI (by decide))
theorem zq(t:Nat):DK (t+1)=DK t*5354228880:=by unfold DK;rw[aan,ZF]
theorem ue(h:t≤23):DK t∣(84*5354228880^23):=by
 rw[show(84*5354228880^23)=84*5354228880^23 by decide];exact XD 84 (WM _ h)
theorem G7(h:t≤24):DK t∣(84*5354228880^24):=by
 rw[show(84*5354228880^24)=84*5354228880^24 by decide];exact XD 84 (WM _ h)
structure Lm(s:fM):Prop where
 t24:s.tn≤24
 len:s.rs.length=s.kn.length
 few:s.kn.length≤20
 dl:s.dn.length=s.tn
 kn:∀w∈s.kn,w.1<24/\w.2.1<24/\Bq 84 12 w.2.2/\0≤w.2.2.1
 am:∀r∈s.rs,Bq (DK s.tn) 12 r/\0≤r.1
 due:∀i,i<s.kn.length->s.rs.getD i (0,1)≠(0,1)->s.tn≤(s.kn.getD i bh).2.1
 pcs:∀q∈s.dn,q.length≤20/\∀c∈q,c.1<20/\fw c.2
theorem ym(h:gW r)(nn:0≤r.1)(nz:r≠(0,1)):1≤r.1:=by
 by_cases z:r.1=0
 ·exfalso;apply nz;have g:=h.cop;have p:=h.pos;rw[z,Int.gcd_zero_left] at g;exact Z5 z (by show r.2=1;omega)
 ·omega
theorem eS:i∈aT rs↔i<rs.length/\rs.getD i (0,1)≠(0,1):=by
 unfold aT;rw[Tw,SW,decide_eq_true_iff]
theorem Gg(rs:List R):(aT rs).Nodup:=Vq _ Wz
theorem kJ(hj:j<(aT rs).length):(bv kn rs t).getD j bh=(t,(kn.getD (aT rs)[j] bh).2.1,rs.getD (aT rs)[j] (0,1)):=ax bh (by unfold bv;rw[SU,Sz hj];rfl)
theorem fO(kn:List Wk)(rs:List R)(t:Nat):(bv kn rs t).length=(aT rs).length:=SE _
theorem jk(rs:List R):(aT rs).length≤rs.length:=by
 unfold aT;exact Tu (UN _ _) (by rw[TJ];exact SD _)
theorem gJ{l:List R}(hi:i<l.length):l.getD i (0,1)∈l:=by
 rw[ax (0,1) (Sz hi)];exact S2 hi
theorem m4(o:Lm s)(ht:s.tn<24):∀w∈bv s.kn s.rs s.tn,cn w/\w.1=s.tn/\Bq (DK s.tn) 12 w.2.2:=λw hw=>by
 obtain⟨i,hi,rfl⟩:=SR.mp hw;obtain⟨h1,h2⟩:=eS.mp hi;have a:=o.am _ (gJ h1);have l:=o.due i (by rw[←o.len];exact h1) h2;have hk:i<s.kn.length:=by rw[←o.len];exact h1
 have k:=o.kn (s.kn.getD i bh) (by rw[ax bh (Sz hk)];exact S2 hk);have b:=a.1.pos;have le:=a.1.le;refine⟨⟨l,k.2.1,ym a.1.red a.2 h2,?_,by show 1≤(s.rs.getD i (0,1)).2;omega,VS a.1.dvd (UC.mpr (ue (by omega))),(a.1.mono (ue (by omega)) (SD _)).wf (by decide) (by decide) (by decide)⟩,Z,a.1⟩;show(s.rs.getD i (0,1)).1≤12*(s.rs.getD i (0,1)).2;have:=a.2;omega
def eB(rs:List R)(q:List Pc):List R:=q.foldl (λl c=>l.set c.1 (bJ (l.getD c.1 (0,1)) c.2)) rs
theorem jg:∀(q:List Pc) (rs:List R),(eB rs q).length=rs.length
 | [],_=>rfl
 |c::q,rs=>by
  show(eB (rs.set c.1 _) q).length=_;rw[jg q,UH]
theorem jf{i:Nat}:∀(q:List Pc) (rs:List R),i∉q.map (·.1)->(eB rs q).getD i (0,1)=rs.getD i (0,1)
 | [],_,_=>rfl
 |c::q,rs,h=>by
  rw[TZ,S6,not_or] at h;show(eB (rs.set c.1 _) q).getD i (0,1)=_;rw[jf q _ h.2,SG,Ug (λz=>h.1 z.symm),←SG]
theorem re{x:Pc}:∀(q:List Pc) (rs:List R),(q.map (·.1)).Nodup->x∈q->x.1<rs.length->(eB rs q).getD x.1 (0,1)=bJ (rs.getD x.1 (0,1)) x.2
 |c::q,rs,nd,hx,hl=>by
  rw[TZ,Uf] at nd;show(eB (rs.set c.1 _) q).getD x.1 (0,1)=_;rcases S6.mp hx with rfl|z
  ·rw[jf q _ nd.1];exact ax _ (by rw[UF hl])
  ·have ne:c.1≠x.1:=λe=>nd.1 (by rw[e];exact SR.mpr ⟨x,z,Z⟩)
   rw[re q _ nd.2 z (by rw[UH];exact hl)]
   congr 1
   rw[SG,Ug ne,←SG]
theorem Jo(nn:ns.Nodup)(hl:∀c∈q,c.1<ns.length)(nd:(q.map (·.1)).Nodup):((bI ns q).map (·.1)).Nodup:=by
 unfold bI;rw[VR];unfold Tz at nd ⊢;rw[aam] at nd ⊢;refine nd.imp_of_mem λ{a b} ha hb ne e=>ne ?_
 have e':ns.getD a.1 0=ns.getD b.1 0:=e;rw[ax 0 (Sz (hl a ha)),ax 0 (Sz (hl b hb))] at e';exact(V0 nn).mp e'
theorem Iy(hD:0<D)(hx:Bq D 12 x)(nx:0≤x.1)(hc:BD D c)(le:val c≤val x)(nc:0≤val c):Bq D 12 (bJ x c)/\0≤(bJ x c).1:=by
 have b:=BD.minus hD (ir hx) hc;have ev:val (bJ x c)=val x-val c:=dh hx.pos hc.1.pos;have nn:0≤(bJ x c).1:=(jX b.1.pos).mp (by rw[ev];grind);refine⟨⟨b.1.pos,b.1.cop,b.2,(me b.1.pos nn).mpr ?_⟩,nn⟩;have:=(me hx.pos nx).mp hx.le;rw[ev];grind
theorem sub_self(h:gW x):bJ x x=(0,1):=by
 have b:=BD.minus (D:=x.2.natAbs) (by have:=h.pos;omega) (x:=x) (y:=x) ⟨h,by have:=h.pos;exact⟨1,by omega⟩⟩ ⟨h,by have:=h.pos;exact⟨1,by omega⟩⟩;refine fG b.1 ⟨by decide,by decide⟩ ?_;rw[dh h.pos h.pos,(c8 (r:=(0,1)) (by decide)).mpr Z];grind
def Nq(s:fM)(q:List Pc):fM:=⟨s.tn+1,s.kn,eB s.rs q,s.dn++[q]⟩
structure NY(s:fM)(q0:List Pc):Prop where
 ok:Lm (Nq s (bI (aT s.rs) q0))
 lt:∀c∈q0,c.1<(aT s.rs).length
 nd:((bI (aT s.rs) q0).map (·.1)).Nodup
 pc:∀x∈bI (aT s.rs) q0,x.1<s.rs.length/\fw x.2
 few:q0.length≤20
theorem KZ(o:Lm s)(ht:s.tn<24)(h:iu (bv s.kn s.rs s.tn) (SC 24) lys):NY s ((dZ (bv s.kn s.rs s.tn) (bn (bv s.kn s.rs s.tn) lys)).2.getD s.tn []):=by
 have wok:=m4 o ht;have ok:∀w∈bv s.kn s.rs s.tn,cn w:=λw hw=>(wok w hw).1
 have wl:=fO s.kn s.rs s.tn;have w20:(bv s.kn s.rs s.tn).length≤20:=by
  have:=jk s.rs;have:=o.len;have:=o.few;omega
 have pr:=fV ok w20 h;have bd:=GI (xO s.tn) (λw hw=>(wok w hw).2.2) h;generalize (dZ (bv s.kn s.rs s.tn) (bn (bv s.kn s.rs s.tn) lys)).2=pl at pr bd ⊢;have bq:∀c∈pl.getD s.tn [],BD (DK (s.tn+1)) c.2:=λc hc=>by
  rw[zq];refine bd (pl.getD s.tn []) ?_ c hc;rw[ax [] (Sz (show s.tn<pl.length by rw[pr.len];exact ht))];exact S2 _
 have M:=λ(c:Pc) hc=>pr.mem (c:=c) ht hc
 have lt:∀c∈pl.getD s.tn [],c.1<(aT s.rs).length:=λc hc=>by rw[←wl];exact(M c hc).1
 have mo:=λ(c:Pc) hc=>pr.most (c:=c) ht hc
 have al:=λ(i:Nat) hi h1 h2=>pr.all (i:=i) ok ht hi h1 h2
 have nq:=pr.nodup ht;have few:=pr.few s.tn;generalize pl.getD s.tn []=q0 at bq M lt mo al nq few ⊢;have nr:=Jo (Gg s.rs) lt nq;have num:∀c∈q0,(aT s.rs).getD c.1 0∈aT s.rs:=λc hc=>by
  rw[ax 0 (Sz (lt c hc))];exact S2 _
 have am:∀c∈q0,val c.2≤val (s.rs.getD ((aT s.rs).getD c.1 0) (0,1)):=λc hc=>by
  have:=mo c hc;unfold fY at this;rw[kJ (lt c hc)] at this;rw[ax 0 (Sz (lt c hc))];exact this
 refine⟨⟨by show s.tn+1≤24;omega,(jg _ _).trans o.len,o.few,by show(s.dn++[_]).length=_;rw[SZ,o.dl];rfl,o.kn,?_,?_,?_⟩,lt,nr,(λx hx=>by
  obtain⟨c,hc,rfl⟩:=SR.mp hx;exact⟨(eS.mp (num c hc)).1,(M c hc).2.1⟩),few⟩
 ·intro r hr;have hr':r∈eB s.rs (bI (aT s.rs) q0):=hr;obtain⟨i,hi,rfl⟩:=T0.mp hr';have hi':i<s.rs.length:=by rw[←jg (bI (aT s.rs) q0)];exact hi
  have eg:(eB s.rs (bI (aT s.rs) q0)).getD i (0,1)=(eB s.rs (bI (aT s.rs) q0))[i]:=ax _ (Sz hi);show Bq (DK (s.tn+1)) 12 _/\_;rw[←eg];have a:=o.am _ (gJ hi');have a1:=a.1.mono (show DK s.tn∣DK (s.tn+1) by rw[zq];exact Wq _ _) (SD _);by_cases m:i∈(bI (aT s.rs) q0).map (·.1)
  ·obtain⟨x,hx,rfl⟩:=SR.mp m;rw[re _ _ nr hx hi'];obtain⟨c,hc,rfl⟩:=SR.mp hx;exact Iy (xO _) a1 a.2 (bq c hc) (am c hc) (Up (M c hc).2.2.1)
  ·rw[jf _ _ m];exact⟨a1,a.2⟩
 ·intro i hi nz;have hi':i<s.rs.length:=by rw[o.len];exact hi
  have nz':(eB s.rs (bI (aT s.rs) q0)).getD i (0,1)≠(0,1):=nz;show s.tn+1≤(s.kn.getD i bh).2.1;have nz0:s.rs.getD i (0,1)≠(0,1):=λe=>by
   have m:i∉(bI (aT s.rs) q0).map (·.1):=λm=>by
    obtain⟨x,hx,ei⟩:=SR.mp m;obtain⟨c,hc,rfl⟩:=SR.mp hx;exact(eS.mp (num c hc)).2 (by rw[show(aT s.rs).getD c.1 0=i from ei];exact e)
   rw[jf _ _ m] at nz';exact nz' e
  have d:=o.due i hi nz0;by_cases c0:(s.kn.getD i bh).2.1=s.tn
  ·exfalso;obtain⟨j,hj,ej⟩:=T0.mp (eS.mpr ⟨hi',nz0⟩);have wj:=kJ (kn:=s.kn) (t:=s.tn) hj;obtain⟨c,hc,e1,e2⟩:=al j (by rw[wl];exact hj) (by rw[wj]) (by rw[wj,ej];exact c0);rw[wj] at e2;have ei:(aT s.rs).getD c.1 0=i:=by rw[e1,ax 0 (Sz hj)];exact ej
   have z:=re (x:=((aT s.rs).getD c.1 0,c.2)) (bI (aT s.rs) q0) s.rs nr (SR.mpr ⟨c,hc,Z⟩) (by show(aT s.rs).getD c.1 0<_;rw[ei];exact hi');have z':(eB s.rs (bI (aT s.rs) q0)).getD ((aT s.rs).getD c.1 0) (0,1)=bJ (s.rs.getD ((aT s.rs).getD c.1 0) (0,1)) c.2:=z;rw[ei,e2,ej] at z';rw[z'] at nz';exact nz' (sub_self (o.am _ (gJ hi')).1.red)
  ·omega
 ·intro q hq;rcases Ti.mp (show q∈s.dn++[bI (aT s.rs) q0] from hq) with z|z
  ·exact o.pcs q z
  ·rw[SJ.mp z];refine⟨by unfold bI;rw[SE];exact few,λx hx=>?_⟩;obtain⟨c,hc,rfl⟩:=SR.mp hx;have:=(eS.mp (num c hc)).1;have:=o.len;have:=o.few;exact⟨by show(aT s.rs).getD c.1 0<20;omega,(M c hc).2.1⟩
theorem No(o:Lm s)(ht:s.tn<24)(h:iu (bv s.kn s.rs s.tn) (SC 24) lys):∀x∈bI (aT s.rs) ((dZ (bv s.kn s.rs s.tn) (bn (bv s.kn s.rs s.tn) lys)).2.getD s.tn []),0<val x.2:=λx hx=>by
 obtain⟨c,hc,rfl⟩:=SR.mp hx;have l1:=jk s.rs;have l2:=o.len;have l3:=o.few;exact((fV (λw hw=>(m4 o ht w hw).1) (by rw[fO];omega) h).mem ht hc).2.2.1
structure G4(s:fM)(q0:List Pc):Prop extends NY s q0 where
 ps:∀x∈bI (aT s.rs) q0,0<val x.2
 ex:∃lys,iu (bv s.kn s.rs s.tn) (SC 24) lys/\q0=(dZ (bv s.kn s.rs s.tn) (bn (bv s.kn s.rs s.tn) lys)).2.getD s.tn []
theorem G4.uniq(h:G4 s q0)(h':G4 s q1):q0=q1:=by
 obtain⟨l,a,e⟩:=h.ex;obtain⟨l',a',e'⟩:=h'.ex;have el:=a.uniq a';rw[e,e',el]
theorem Np(o:Lm s)(ht:s.tn<24)(h:iu (bv s.kn s.rs s.tn) (SC 24) lys):G4 s ((dZ (bv s.kn s.rs s.tn) (bn (bv s.kn s.rs s.tn) lys)).2.getD s.tn []):=⟨KZ o ht h,No o ht h,lys,h,Z⟩
structure d9(ws:List Wk):Prop where
 few:ws.length≤20
 wk:∀w∈ws,w.1≤w.2.1/\w.2.1<24/\Bq 84 12 w.2.2/\0<w.2.2.1
theorem d9.at(h:d9 ws)(hj:j<ws.length):(ws.getD j bh).1≤(ws.getD j bh).2.1/\(ws.getD j bh).2.1<24/\Bq 84 12 (ws.getD j bh).2.2/\0<(ws.getD j bh).2.2.1:=by
 rw[ax bh (Sz hj)];exact h.wk _ (S2 hj)
def rc(dn:List (List Pc))(i:Nat):Rat:=sQ (λq:List Pc=>sQ (λc:Pc=>bX (decide (c.1=i)) (val c.2)) q) dn
structure KI(ws:List Wk)(s:fM)(ns:List Nat):Prop where
 ok:Lm s
 len:ns.length=s.kn.length
 at_:∀i,i<ns.length->s.kn.getD i bh=ws.getD (ns.getD i 0) bh
 lt:∀j∈ns,j<ws.length/\(ws.getD j bh).1≤s.tn
 nd:ns.Nodup
 dn:∀(u:Nat) (q:List Pc),s.dn[u]?=some q->(q.map (·.1)).Nodup/\∀c∈q,c.1<s.kn.length/\(s.kn.getD c.1 bh).1≤u/\u≤(s.kn.getD c.1 bh).2.1/\fw c.2/\0<val c.2
 sum:∀i,i<s.kn.length->val (s.kn.getD i bh).2.2=val (s.rs.getD i (0,1))+rc s.dn i
theorem tO(ws:List Wk):KI ws ⟨0,[],[],[]⟩ []:=⟨⟨by decide,Z,by decide,Z,(λw h=>by cases h),(λr h=>by cases h),(λi h=>by cases h),(λq h=>by cases h)⟩,Z,(λi h=>by cases h),(λj h=>by cases h),Vp,(λu q h=>by simp at h),(λi h=>by cases h)⟩
theorem DJ:∀{n:Nat} {l:List Nat},l.Nodup->(∀j∈l,j<n)->l.length≤n
 |0,l,_,h=>by
  cases l with
  |nil=>exact SD _
  |cons a r=>exact absurd (h a SO) (by omega)
 |n+1,l,nd,h=>by
  have a:=DJ (n:=n) (l:=l.erase n) (nd.sublist List.erase_sublist) λj hj=>by
   obtain⟨h1,h2⟩:=(Tz.mem_erase_iff nd).mp hj;have:=h j h2;omega
  have b:=List.length_erase (a:=n) (l:=l)
  split at b<;>omega
theorem KI.room(h:KI ws s ns)(o:d9 ws)(hj:j<ws.length)(nj:j∉ns):s.kn.length<20:=by
 have a:=DJ (n:=ws.length) (l:=j::ns) (Uf.mpr ⟨nj,h.nd⟩) λx hx=>by
  rcases S6.mp hx with z|z
  ·rw[z];exact hj
  ·exact(h.lt x z).1
 rw[Tv] at a;have:=o.few;have:=h.len;omega
theorem Bg(h:∀q∈dn,∀c∈q,c.1≠i):rc dn i=0:=by
 unfold rc;have e:sQ (λq:List Pc=>sQ (λc:Pc=>bX (decide (c.1=i)) (val c.2)) q) dn=sQ (λ_=>(0:Rat)*0) dn:=aN λq hq=>by
  have e2:sQ (λc:Pc=>bX (decide (c.1=i)) (val c.2)) q=sQ (λ_=>(0:Rat)*0) q:=aN λc hc=>by
   rw[decide_eq_false (h q hq c hc),cm];grind
  rw[e2,di];grind
 rw[e,di];grind
theorem KI.come(h:KI ws s ns)(o:d9 ws)(hj:j<ws.length)(nj:j∉ns)(e:(ws.getD j bh).1=s.tn):KI ws (vv s (ws.getD j bh).2.1 (ws.getD j bh).2.2) (ns++[j]):=by
 have w:=o.at hj;have rm:=h.room o hj nj;have kl:=h.ok.len;have nl:=h.len;have gk:∀i,(s.kn++[(s.tn,(ws.getD j bh).2.1,(ws.getD j bh).2.2)]).getD i bh=if i<s.kn.length then s.kn.getD i bh else if i=s.kn.length then ws.getD j bh else bh:=λi=>by
  rw[SG];by_cases c:i<s.kn.length
  ·rw[if_pos c,Ul c,←SG]
  ·rw[if_neg c,Uo (by omega)];by_cases d:i=s.kn.length
   ·rw[if_pos d,d,Xi];show(s.tn,_,_)=_;rw[←e]
   ·rw[if_neg d,Vg (by show 1≤_;omega)];rfl
 have gr:∀i,(s.rs++[(ws.getD j bh).2.2]).getD i (0,1)=if i<s.rs.length then s.rs.getD i (0,1) else if i=s.rs.length then(ws.getD j bh).2.2 else(0,1):=λi=>by
  rw[SG];by_cases c:i<s.rs.length
  ·rw[if_pos c,Ul c,←SG]
  ·rw[if_neg c,Uo (by omega)];by_cases d:i=s.rs.length
   ·rw[if_pos d,d,Xi];rfl
   ·rw[if_neg d,Vg (by show 1≤_;omega)];rfl
 refine⟨⟨h.ok.t24,?_,?_,h.ok.dl,?_,?_,?_,h.ok.pcs⟩,?_,?_,?_,?_,?_,?_⟩
 ·show(s.rs++[_]).length=(s.kn++[_]).length;rw[SZ,SZ,kl];rfl
 ·show(s.kn++[_]).length≤20;rw[SZ,UL];omega
 ·intro x hx;rcases Ti.mp (show x∈s.kn++[_] from hx) with z|z
  ·exact h.ok.kn x z
  ·rw[SJ.mp z];exact⟨by show s.tn<24;omega,w.2.1,w.2.2.1,by show 0≤(ws.getD j bh).2.2.1;omega⟩
 ·intro r hr;rcases Ti.mp (show r∈s.rs++[_] from hr) with z|z
  ·exact h.ok.am r z
  ·rw[SJ.mp z];exact⟨w.2.2.1.mono (Wq 84 _) (SD _),by omega⟩
 ·intro i hi nz;have hi':i<(s.kn++[(s.tn,(ws.getD j bh).2.1,(ws.getD j bh).2.2)]).length:=hi;rw[SZ,UL] at hi';show s.tn≤((s.kn++[(s.tn,(ws.getD j bh).2.1,(ws.getD j bh).2.2)]).getD i bh).2.1;rw[gk];by_cases c:i<s.kn.length
  ·rw[if_pos c];refine h.ok.due i c λz=>nz ?_
   show(s.rs++[_]).getD i (0,1)=_;rw[gr,if_pos (by omega)];exact z
  ·rw[if_neg c,if_pos (by omega)];omega
 ·show(ns++[j]).length=(s.kn++[_]).length;rw[SZ,SZ,nl];rfl
 ·intro i hi;rw[SZ,UL] at hi;show(s.kn++[_]).getD i bh=_;rw[gk];by_cases c:i<s.kn.length
  ·rw[if_pos c,h.at_ i (by omega)]
   congr 1
   rw[SG,SG,Ul (by omega)]
  ·rw[if_neg c,if_pos (by omega)]
   congr 1
   rw[SG,Uo (by omega),show i-ns.length=0 by omega];rfl
 ·intro x hx;rcases Ti.mp hx with z|z
  ·exact h.lt x z
  ·rw[SJ.mp z];exact⟨hj,Xc e⟩
 ·rw[Vt];exact⟨h.nd,Uf.mpr ⟨by simp,Vp⟩,λa ha b hb z=>nj (by rw[←SJ.mp hb,←z];exact ha)⟩
 ·intro u q hq;obtain⟨a,b⟩:=h.dn u q hq;refine⟨a,λc hc=>?_⟩;obtain⟨b1,b2,b3,b4⟩:=b c hc;show c.1<(s.kn++[_]).length/\((s.kn++[_]).getD c.1 bh).1≤u/\u≤((s.kn++[_]).getD c.1 bh).2.1/\_;rw[gk,if_pos b1,SZ];exact⟨by omega,b2,b3,b4⟩
 ·intro i hi;have hi':i<(s.kn++[(s.tn,(ws.getD j bh).2.1,(ws.getD j bh).2.2)]).length:=hi;rw[SZ,UL] at hi';show val ((s.kn++[_]).getD i bh).2.2=val ((s.rs++[_]).getD i (0,1))+rc s.dn i;rw[gk,gr];by_cases c:i<s.kn.length
  ·rw[if_pos c,if_pos (by omega)];exact h.sum i c
  ·rw[if_neg c,if_pos (by omega),if_neg (by omega),if_pos (by omega),Bg λq hq c hc z=>?_]
   ·grind
   ·obtain⟨u,hu⟩:=Ui hq;have:=((h.dn u q hu).2 c hc).1;omega
theorem KI.go(h:KI ws s ns)(G:G4 s q0)(ht:s.tn<24):KI ws (Nq s (bI (aT s.rs) q0)) ns:=by
 have kl:=h.ok.len;have dl:=h.ok.dl;refine⟨G.ok,h.len,h.at_,λj hj=>⟨(h.lt j hj).1,by have:=(h.lt j hj).2;show _≤s.tn+1;omega⟩,h.nd,?_,?_⟩
 ·intro u q hq;have hq':(s.dn++[bI (aT s.rs) q0])[u]?=some q:=hq;by_cases c:u<s.dn.length
  ·rw[Ul c] at hq';exact h.dn u q hq'
  ·rw[Uo (by omega)] at hq';have hu:u=s.dn.length:=by
    have:=(SN.mp hq').1;rw[UL] at this;omega
   rw[hu,Xi] at hq';have e:bI (aT s.rs) q0=q:=by simpa using hq'
   rw[←e];refine⟨G.nd,λc hc=>?_⟩;have p:=G.pc c hc;have hk:c.1<s.kn.length:=by omega
   have nz:s.rs.getD c.1 (0,1)≠(0,1):=by
    obtain⟨d,hd,rfl⟩:=SR.mp hc;have m:(aT s.rs).getD d.1 0∈aT s.rs:=by
     rw[ax 0 (Sz (G.lt d hd))];exact S2 _
    exact(eS.mp m).2
   have due:=h.ok.due c.1 hk nz;refine⟨hk,?_,?_,p.2,G.ps c hc⟩
   ·show(s.kn.getD c.1 bh).1≤u;have hn:c.1<ns.length:=by rw[h.len];exact hk
    rw[h.at_ c.1 hn];have:=(h.lt (ns.getD c.1 0) (by rw[ax 0 (Sz hn)];exact S2 hn)).2;omega
   ·show u≤(s.kn.getD c.1 bh).2.1;omega
 ·intro i hi;have hi':i<s.kn.length:=hi;have a:=h.sum i hi';show val (s.kn.getD i bh).2.2=val ((eB s.rs (bI (aT s.rs) q0)).getD i (0,1))+rc (s.dn++[bI (aT s.rs) q0]) i;have e:rc (s.dn++[bI (aT s.rs) q0]) i=rc s.dn i+sQ (λc:Pc=>bX (decide (c.1=i)) (val c.2)) (bI (aT s.rs) q0):=by
   unfold rc;rw[d0];show _+(_+0)=_;grind
  rw[e];have ar:=h.ok.am _ (gJ (show i<s.rs.length by omega));rcases r6 (q:=bI (aT s.rs) q0) (i:=i) (f:=λp=>val p.2) G.nd with y | ⟨c,hc,ei,y⟩
  ·rw[y];have m:i∉(bI (aT s.rs) q0).map (·.1):=λm=>by
    obtain⟨c,hc,ec⟩:=SR.mp m;have nn:=gc (f:=λp:Pc=>bX (decide (p.1=i)) (val p.2)) (λx hx=>eI _ (Up (G.ps x hx))) y c hc;have ec':c.1=i:=ec;rw[decide_eq_true ec',c6] at nn;have:=G.ps c hc;rw[nn] at this;exact absurd this (by decide)
   rw[jf _ _ m,a];grind
  ·rw[y,←ei];have p:=G.pc c hc;rw[re _ _ G.nd hc p.1,dh (by rw[ei];exact ar.1.pos) p.2.bq.pos,ei,a];grind
def jp(ws:List Wk)(t i:Nat):List Nat:=(SC i).filter λj=>decide ((ws.getD j bh).1=t)
theorem tT(h:(ws.getD i bh).1=t):jp ws t (i+1)=jp ws t i++[i]:=by
 unfold jp;rw[Ua,WR,W0 (p:=λj=>decide ((ws.getD j bh).1=t)) (decide_eq_true h),aaQ]
theorem wX(h:(ws.getD i bh).1≠t):jp ws t (i+1)=jp ws t i:=by
 unfold jp;rw[Ua,WR,WZ (p:=λj=>decide ((ws.getD j bh).1=t)) (by rw[decide_eq_false h];decide),aaQ,UZ]
theorem nv:j∈jp ws t i↔j<i/\(ws.getD j bh).1=t:=by
 unfold jp;rw[Tw,SW,decide_eq_true_iff]
def dY(ws:List Wk)(t:Nat):List Nat:=(SC t).flatMap λu=>jp ws u ws.length
theorem uW(ws:List Wk)(t:Nat):dY ws (t+1)=dY ws t++jp ws t ws.length:=by
 unfold dY;rw[Ua,List.flatMap_append,List.flatMap_singleton]
theorem ia:j∈dY ws t↔j<ws.length/\(ws.getD j bh).1<t:=by
 unfold dY;rw[List.mem_flatMap];constructor
 ·rintro⟨u,hu,h⟩;have a:=nv.mp h;exact⟨a.1,by rw[a.2];exact SW.mp hu⟩
 ·rintro⟨h1,h2⟩;exact⟨_,SW.mpr h2,nv.mpr ⟨h1,Z⟩⟩
def vx(ws:List Wk)(s:fM)(l:List Nat):fM:=l.foldl (λs j=>vv s (ws.getD j bh).2.1 (ws.getD j bh).2.2) s
theorem o4(ws:List Wk)(s:fM)(l:List Nat)(j:Nat):vx ws s (l++[j])=vv (vx ws s l) (ws.getD j bh).2.1 (ws.getD j bh).2.2:=by
 unfold vx;rw[U9];rfl
theorem ky(ws:List Wk):∀(l:List Nat) (s:fM),(vx ws s l).tn=s.tn/\(vx ws s l).dn=s.dn
 | [],_=>⟨Z,Z⟩
 |j::l,s=>ky ws l (vv s (ws.getD j bh).2.1 (ws.getD j bh).2.2)
inductive xC(ws:List Wk):Nat->fM->Prop where
 |zero:xC ws 0 ⟨0,[],[],[]⟩
 |next {t:Nat} {s:fM} {q0:List Pc} (r:xC ws t s) (G:G4 (vx ws s (jp ws t ws.length)) q0):xC ws (t+1) (Nq (vx ws s (jp ws t ws.length)) (bI (aT (vx ws s (jp ws t ws.length)).rs) q0))
theorem xC.uniq(h:xC ws t s):∀{s':fM},xC ws t s'->s=s':=by
 induction h with
 |zero=>
  intro s' h'
  cases h' with
  |zero=>rfl
 |next r G ih=>
  intro s' h'
  cases h' with
  |next r' G'=>
   have e:=ih r';subst e;rw[G.uniq G']
theorem xC.tn(h:xC ws t s):s.tn=t:=by
 induction h with
 |zero=>rfl
 |next r G ih=>
  show(vx ws _ _).tn+1=_;rw[(ky ws _ _).1,ih]
theorem CM(h:∀c∈q,c.1<ns.length):bI (ns++l) q=bI ns q:=by
 unfold bI;refine WH λc hc=>?_
 rw[SG,Ul (h c hc),←SG]
theorem KI.grow(h:KI ws s ns)(l:List Nat):s.dn.map (bI (ns++l))=s.dn.map (bI ns):=WH λq hq=>by
 obtain⟨u,hu⟩:=Ui hq;exact CM λc hc=>by rw[h.len];exact((h.dn u q hu).2 c hc).1
def MY(ps:List Pc)(j:Nat):List R:=(ps.filter λc=>decide (c.1=j)).map (·.2)
structure RO(ws:List Wk)(pl:List (List Pc)):Prop where
 len:pl.length=24
 few:∀q∈pl,q.length≤20
 row:∀(u:Nat) (q:List Pc),pl[u]?=some q->(q.map (·.1)).Nodup/\∀c∈q,c.1<ws.length/\(ws.getD c.1 bh).1≤u/\u≤(ws.getD c.1 bh).2.1/\fw c.2/\0<val c.2
 fin:∀j,j<ws.length->eN (MY pl.flatten j)=(ws.getD j bh).2.2
def sr(f:Nat->Rat):Nat->Rat
 |0=>0
 |n+1=>sr f n+f n
theorem aG{f g:Nat->Rat}:∀{n:Nat},(∀i,i<n->f i=g i)->sr f n=sr g n
 |0,_=>rfl
 |n+1,h=>by
  show sr f n+f n=sr g n+g n;rw[aG λi hi=>h i (by omega),h n (by omega)]
theorem iJ{f g:Nat->Rat}:∀{n:Nat},(∀i,i<n->f i≤g i)->sr f n≤sr g n
 |0,_=>Ts
 |n+1,h=>by
  show sr f n+f n≤sr g n+g n;have a:=iJ (f:=f) (g:=g) (n:=n) λi hi=>h i (by omega)
  have b:=h n (by omega);grind
theorem gv(f g:Nat->Rat):∀n:Nat,sr (λi=>f i+g i) n=sr f n+sr g n
 |0=>by show(0:Rat)=0+0;grind
 |n+1=>by
  show sr _ n+(f n+g n)=sr f n+f n+(sr g n+g n);rw[gv f g n];grind
theorem j8(f g:Nat->Rat):∀n:Nat,sr (λi=>f i-g i) n=sr f n-sr g n
 |0=>by show(0:Rat)=0-0;grind
 |n+1=>by
  show sr _ n+(f n-g n)=sr f n+f n-(sr g n+g n);rw[j8 f g n];grind
theorem gZ(c:Rat)(f:Nat->Rat):∀n:Nat,sr (λi=>c*f i) n=c*sr f n
 |0=>by show(0:Rat)=c*0;grind
 |n+1=>by
  show sr _ n+c*f n=c*(sr f n+f n);rw[gZ c f n];grind
theorem cC:∀n:Nat,sr (λ_=>0) n=0
 |0=>rfl
 |n+1=>by
  show sr _ n+0=0;rw[cC n];grind
theorem uB(h:∀i,i<n->0≤f i):0≤sr f n:=by
 have:=iJ (f:=λ_=>0) (g:=f) (n:=n) h;rw[cC] at this;exact this
theorem m6(f:Nat->Nat->Rat)(m:Nat):∀n:Nat,sr (λi=>sr (λt=>f i t) m) n=sr (λt=>sr (λi=>f i t) n) m
 |0=>(cC m).symm
 |n+1=>by
  show sr _ n+sr (λt=>f n t) m=sr (λt=>sr (λi=>f i t) n+f n t) m;rw[m6 f m n,gv]
theorem Ld(w f:Nat->Rat):∀n:Nat,sr (λu=>(w u-w (u+1))*sr f (u+1)) n=sr (λu=>w u*f u) n-w n*sr f n
 |0=>by show(0:Rat)=0-w 0*0;grind
 |n+1=>by
  show sr _ n+(w n-w (n+1))*(sr f n+f n)=sr _ n+w n*f n-w (n+1)*(sr f n+f n);rw[Ld w f n];grind
theorem Qv{k:Nat}(hk:k=2∨k=3∨k=4)(hs:0≤s)(hy:0≤y):s^k+(k:Rat)*s^(k-1)*(y-s)≤y^k:=by
 have q:=Mi (y-s);have a:=UX hs hs;have b:=UX hs hy;have c:=UX hy hy;rcases hk with rfl|rfl|rfl
 ·show s^2+((2:Nat):Rat)*s^1*(y-s)≤y^2;have e:((2:Nat):Rat)=2:=Z;rw[e];grind
 ·show s^3+((3:Nat):Rat)*s^2*(y-s)≤y^3;have e:((3:Nat):Rat)=3:=Z;rw[e];have z:=UX q (show 0≤y+2*s by grind);have i:y^3-(s^3+3*s^2*(y-s))=(y-s)*(y-s)*(y+2*s):=by grind
  grind
 ·show s^4+((4:Nat):Rat)*s^3*(y-s)≤y^4;have e:((4:Nat):Rat)=4:=Z;rw[e];have z:=UX q (show 0≤y*y+2*(s*y)+3*(s*s) by grind);have i:y^4-(s^4+4*s^3*(y-s))=(y-s)*(y-s)*(y*y+2*(s*y)+3*(s*s)):=by grind
  grind
theorem DL(a b:Rat):∀n:Nat,(a*b)^n=a^n*b^n
 |0=>by rw[Xj,Xj,Xj];grind
 |n+1=>by
  rw[Vy,Vy,Vy,DL a b n];grind
theorem Ry{K P P' C A' W B' Bo:Rat}(k0:0≤K)(cv:P'+K*(C-P')≤P)(g:A'≤C)(o':A'+W=P')(bb:Bo≤B'):K*P'-K*K*(B'+W)≤K*P-K*K*Bo:=by
 have x1:=Ur g k0;have x2:P'-K*W≤P:=by
  have:A'=P'-W:=by grind
  subst this;grind
 have x3:=Ur x2 k0;have x4:=Ur bb (UX k0 k0);grind
theorem Q1{K q st A A' Bo B' o zz:Rat}(ea:A-A'=q*st)(x:K*K*(Bo-B')≤K*K*(q*o))(cv:q*st+K*q*(K*o-st)≤zz):q*st+(K*A'-K*K*B'-(K*A-K*K*Bo))≤zz:=by
 have e:A=A'+q*st:=by grind
 subst e;grind
theorem kW{a b:Rat}(h0:0≤a)(h:a≤b):∀n:Nat,a^n≤b^n/\0≤a^n
 |0=>by rw[Xj,Xj];exact⟨Ts,by decide⟩
 |n+1=>by
  obtain⟨i,j⟩:=kW h0 h n;rw[Vy,Vy];refine⟨?_,UX j h0⟩;have x:=Ue i h0;have b0:0≤b^n:=by grind
  have y:=Ur h b0;grind
def f7(n:Nat)(d:Nat->Nat)(a:Nat->Rat)(u:Nat):Rat:=sr (λi=>if d i≤u then a i else 0) n
structure Oa(t:Nat)(D s:Nat->Rat):Prop where
 nn:∀u,0≤s u
 bf:∀u,u<t->s u=0
 z:∀u,24≤u->s u=0
 dec:∀u,t≤u->s (u+1)≤s u
 ge:∀u,u<24->D u≤sr s (u+1)
 eq:∀u,t≤u->u<24->s (u+1)<s u->D u=sr s (u+1)
theorem Oa.le(O:Oa t D s)(h:t≤u)(h':u≤v):s v≤s u:=by
 induction v with
 |zero=>
  obtain rfl:u=0:=by omega
  exact Ts
 |succ v ih=>
  by_cases c:u=v+1
  ·subst c;exact Ts
  ·have:=ih (by omega);have:=O.dec v (by omega);grind
section
variable {n t k:Nat}{d:Nat->Nat}{a b:Nat->Rat}{D s:Nat->Rat}
theorem Ej(w:Nat->Rat)(hw:w 24=0)(hd:∀i,i<n->d i<24):sr (λi=>w (d i)*a i) n=sr (λu=>(w u-w (u+1))*f7 n d a u) 24:=by
 have tel:∀(e m:Nat),e≤m->sr (λu=>if e≤u then w u-w (u+1) else 0) m=w e-w m:=λe m=>by
  induction m with
  | zero=>
   intro h;obtain rfl:e=0:=by omega
   show(0:Rat)=w 0-w 0;grind
  |succ m ih=>
   intro h;show sr _ m+(if e≤m then w m-w (m+1) else 0)=_;by_cases c:e=m+1
   ·subst c;rw[if_neg (by omega),aG (g:=λ_=>0) (λu hu=>if_neg (by omega)),cC];grind
   ·rw[ih (by omega),if_pos (by omega)];grind
 have e1:sr (λi=>w (d i)*a i) n=sr (λi=>sr (λu=>(w u-w (u+1))*if d i≤u then a i else 0) 24) n:=aG λi hi=>by
  have q:=tel (d i) 24 (by have:=hd i hi;omega);rw[hw] at q;rw[aG (g:=λu=>a i*if d i≤u then w u-w (u+1) else 0) (λu _=>by
   by_cases c:d i≤u
   ·rw[if_pos c,if_pos c];grind
   ·rw[if_neg c,if_neg c];grind),gZ,q]
  grind
 rw[e1,m6];refine aG λu _=>?_
 rw[gZ];rfl
theorem Rz(O:Oa t D s)(m:Nat)(h:t≤u):s (u+1)^m≤s u^m:=(kW (O.nn _) (O.dec u h) m).1
theorem O5(O:Oa t D s)(hm:0<m)(bf:∀u,u<t->s' u=0)(ge:∀u,u<24->f7 n d b u≤sr s' (u+1))(hd:∀i,i<n->d i<24/\t≤d i):sr (λi=>s (d i)^m*b i) n≤sr (λu=>s u^m*s' u) 24:=by
 have z24:s 24^m=0:=by
  rw[O.z 24 (SD _)]
  cases m with
  |zero=>omega
  |succ m=>rw[Vy,Rat.mul_zero]
 rw[Ej (λu=>s u^m) z24 λi hi=>(hd i hi).1];have ab:=Ld (λu=>s u^m) s' 24;rw[z24,Rat.zero_mul] at ab;have e:sr (λu=>s u^m*s' u) 24=sr (λu=>(s u^m-s (u+1)^m)*sr s' (u+1)) 24:=by rw[ab];grind
 rw[e];refine iJ λu hu=>?_
 by_cases c:t≤u
 ·have:=Rz O m c;exact Ur (ge u hu) (by grind)
 ·have z:f7 n d b u=0:=by
   unfold f7;rw[aG (g:=λ_=>0) (λi hi=>if_neg (by have:=(hd i hi).2;omega)),cC]
  have z2:sr s' (u+1)=0:=by
   rw[aG (g:=λ_=>0) (λi hi=>bf i (by omega)),cC]
  rw[z,z2];exact Ts
theorem own(O:Oa t (f7 n d a) s)(hm:0<m)(hd:∀i,i<n->d i<24/\t≤d i):sr (λi=>s (d i)^m*a i) n=sr (λu=>s u^m*s u) 24:=by
 have z24:s 24^m=0:=by
  rw[O.z 24 (SD _)]
  cases m with
  |zero=>omega
  |succ m=>rw[Vy,Rat.mul_zero]
 rw[Ej (λu=>s u^m) z24 λi hi=>(hd i hi).1];have ab:=Ld (λu=>s u^m) s 24;rw[z24,Rat.zero_mul] at ab;have e:sr (λu=>s u^m*s u) 24=sr (λu=>(s u^m-s (u+1)^m)*sr s (u+1)) 24:=by rw[ab];grind
 rw[e];refine aG λu hu=>?_
 by_cases c:t≤u
 ·by_cases q:s (u+1)<s u
  ·rw[O.eq u c hu q]
  ·have:s (u+1)=s u:=VL (O.dec u c) (WT.mp q);rw[this];grind
 ·have z:f7 n d a u=0:=by
   unfold f7;rw[aG (g:=λ_=>0) (λi hi=>if_neg (by have:=(hd i hi).2;omega)),cC]
  have z2:sr s (u+1)=0:=by
   rw[aG (g:=λ_=>0) (λi hi=>O.bf i (by omega)),cC]
  rw[z,z2]
def nh(k n:Nat)(d:Nat->Nat)(s a b:Nat->Rat):Rat:=(k:Rat)*sr (λi=>s (d i)^(k-1)*(a i-(k:Rat)*b i)) n
theorem sU(s:Nat->Rat):nh k n d s a b=(k:Rat)*sr (λi=>s (d i)^(k-1)*a i) n-(k:Rat)*(k:Rat)*sr (λi=>s (d i)^(k-1)*b i) n:=by
 unfold nh;rw[aG (g:=λi=>s (d i)^(k-1)*a i-(k:Rat)*(s (d i)^(k-1)*b i)) (λi _=>by grind),j8,gZ];grind
theorem La(hk:k=2∨k=3∨k=4){w s':Nat->Rat}(O:Oa t (f7 n d a) s)(O':Oa t (f7 n d λi=>a i+w i) s')(up:∀u,s u≤s' u)(b0:∀i,i<n->0≤b i)(hd:∀i,i<n->d i<24/\t≤d i):nh k n d s' (λi=>a i+w i) (λi=>b i+w i)≤nh k n d s a b:=by
 have m0:0<k-1:=by omega
 have k0:(0:Rat)<(k:Rat):=by rcases hk with rfl|rfl|rfl<;>decide
 rw[sU,sU,own O m0 hd,own O' m0 hd];have g:=O5 (n:=n) (d:=d) (b:=a) O' m0 (s':=s) O.bf O.ge hd;have o':=own O' m0 hd;have ea:sr (λi=>s' (d i)^(k-1)*(a i+w i)) n=sr (λi=>s' (d i)^(k-1)*a i) n+sr (λi=>s' (d i)^(k-1)*w i) n:=by
  rw[←gv];exact aG λi _=>by grind
 have eb:sr (λi=>s' (d i)^(k-1)*(b i+w i)) n=sr (λi=>s' (d i)^(k-1)*b i) n+sr (λi=>s' (d i)^(k-1)*w i) n:=by
  rw[←gv];exact aG λi _=>by grind
 have bb:sr (λi=>s (d i)^(k-1)*b i) n≤sr (λi=>s' (d i)^(k-1)*b i) n:=iJ λi hi=>Ue (kW (O.nn _) (up _) (k-1)).1 (b0 i hi)
 have cv:sr (λu=>s' u^k+(k:Rat)*s' u^(k-1)*(s u-s' u)) 24≤sr (λu=>s u^k) 24:=iJ λu _=>Qv hk (O'.nn u) (O.nn u)
 have pk:∀x:Rat,x^(k-1)*x=x^k:=λx=>by
  rw[←Vy,show k-1+1=k by omega]
 have ec:sr (λu=>s' u^k+(k:Rat)*s' u^(k-1)*(s u-s' u)) 24=sr (λu=>s' u^k) 24+(k:Rat)*(sr (λu=>s' u^(k-1)*s u) 24-sr (λu=>s' u^k) 24):=by
  rw[←j8,←gZ,←gv];refine aG λu _=>?_
  rw[←pk (s' u)];grind
 have e1:sr (λu=>s' u^(k-1)*s' u) 24=sr (λu=>s' u^k) 24:=aG λu _=>pk _
 have e2:sr (λu=>s u^(k-1)*s u) 24=sr (λu=>s u^k) 24:=aG λu _=>pk _
 rw[e1,e2,eb];rw[e1,ea] at o';rw[ec] at cv;exact Ry (Up k0) cv g o' bb
theorem zt(hk:k=2∨k=3∨k=4)(O:Oa t (f7 n d a) s)(own1:∀i,i<n->s (d i)^(k-1)*(a i-a' i)=s t^(k-1)*(a i-a' i))(done:sr (λi=>a i-a' i) n=s t)(oth:sr (λi=>b i-b' i) n=o)(b1:∀i,i<n->0≤b i-b' i)(o0:0≤o)(hd:∀i,i<n->t≤d i):s t^k+(nh k n d s a' b'-nh k n d s a b)≤(k:Rat)^k*o^k:=by
 have k0:(0:Rat)<(k:Rat):=by rcases hk with rfl|rfl|rfl<;>decide
 have pk:s t^(k-1)*s t=s t^k:=by rw[←Vy,show k-1+1=k by omega]
 rw[sU,sU];have ea:sr (λi=>s (d i)^(k-1)*a i) n-sr (λi=>s (d i)^(k-1)*a' i) n=s t^k:=by
  rw[←j8,aG (g:=λi=>s t^(k-1)*(a i-a' i)) (λi hi=>by rw[←own1 i hi];grind),gZ,done,pk]
 have eb:sr (λi=>s (d i)^(k-1)*b i) n-sr (λi=>s (d i)^(k-1)*b' i) n≤s t^(k-1)*o:=by
  rw[←j8,←oth,←gZ];refine iJ λi hi=>?_
  have:=Ue (kW (O.nn _) (O.le (SD _) (hd i hi)) (k-1)).1 (b1 i hi);grind
 have cv:=Qv hk (O.nn t) (UX (Up k0) o0);rw[DL] at cv;have kk:=UX (Up k0) (Up k0);have x:=Ur eb kk;rw[←pk] at ea;rw[←pk] at cv ⊢;exact Q1 ea x cv
end
theorem u8(E:Nat->Rat):∀n:Nat,∃u,u≤n/\(∀x,x≤n->E x≤E u)/\∀x,u<x->x≤n->E x<E u
 |0=>⟨0,SD _,(λx hx=>by rw[show x=0 by omega];exact Ts),λx h h'=>by omega⟩
 |n+1=>by
  obtain⟨u,h1,h2,h3⟩:=u8 E n;by_cases c:E u≤E (n+1)
  ·refine⟨n+1,SD _,λx hx=>?_,λx h h'=>by omega⟩;by_cases q:x=n+1
   ·subst q;exact Ts
   ·have:=h2 x (by omega);grind
  ·have c:=Wx.mp c;refine⟨u,by omega,λx hx=>?_,λx h h'=>?_⟩
   ·by_cases q:x=n+1
    ·subst q;exact Up c
    ·exact h2 x (by omega)
   ·by_cases q:x=n+1
    ·subst q;exact c
    ·exact h3 x h (by omega)
section
variable {t:Nat}{D s s':Nat->Rat}
theorem Oa.sum_le(O:Oa t D s)(O':Oa t D s')(ht:t<24):∀u,u<24->sr s (u+1)≤sr s' (u+1):=by
 obtain⟨u,hu,mx,lt⟩:=u8 (λu=>sr s (u+1)-sr s' (u+1)) 23;have key:sr s (u+1)-sr s' (u+1)≤0:=by
  apply SS;intro no;have pos:=Wx.mp no;have tu:t≤u:=by
   apply SS;intro c;have z1:sr s (u+1)=0:=by rw[aG (g:=λ_=>0) (λi hi=>O.bf i (by omega)),cC]
   have z2:sr s' (u+1)=0:=by rw[aG (g:=λ_=>0) (λi hi=>O'.bf i (by omega)),cC]
   rw[z1,z2] at pos;grind
  have flat:¬s (u+1)<s u:=λf=>by
   have e:=O.eq u tu (by omega) f;have g:=O'.ge u (by omega);grind
  have fl:s (u+1)=s u:=VL (O.dec u tu) (WT.mp flat);have su:s' u≤s u:=by
   by_cases c:u=0
   ·subst c;have e1:sr s (0+1)=0+s 0:=Z;have e2:sr s' (0+1)=0+s' 0:=Z;rw[e1,e2] at pos;grind
   ·have m:=mx (u-1) (by omega);have e0:u-1+1=u:=by omega
    have m':sr s (u-1+1)-sr s' (u-1+1)≤sr s (u+1)-sr s' (u+1):=m;rw[e0] at m';have e1:sr s (u+1)=sr s u+s u:=Z;have e2:sr s' (u+1)=sr s' u+s' u:=Z;rw[e1,e2] at m';grind
  by_cases c:u=23
  ·subst c;have z:s (23+1)=0:=O.z 24 (by omega);have z':s' (23+1)=0:=O'.z 24 (by omega);rw[z] at fl;have n':=O'.nn 23;have tot:sr s 24≤sr s' 24:=by
    have all:∀m,m≤24->(∀v,24-m≤v->v<24->t≤v->s v=0)∨∃v,t≤v/\v<24/\s (v+1)<s v/\∀x,v<x->x<24->s x=0:=λm=>by
     induction m with
     |zero=>intro _;exact .inl λv h1 h2=>by omega
     |succ m ih=>
      intro hm;rcases ih (by omega) with h|h
      ·by_cases q:t≤24-(m+1)
       ·by_cases p:s (24-(m+1))=0
        ·refine .inl λv h1 h2 h3=>?_
         by_cases r:v=24-(m+1)
         ·rw[r];exact p
         ·exact h v (by omega) h2 h3
        ·refine .inr ⟨24-(m+1),q,by omega,?_,λx h1 h2=>h x (by omega) h2 (by omega)⟩;have nx:s (24-(m+1)+1)=0:=by
          by_cases r:m=0
          ·subst r;exact O.z 24 (by omega)
          ·exact h _ (by omega) (by omega) (by omega)
         rw[nx];have:=O.nn (24-(m+1));grind
       ·exact .inl λv h1 h2 h3=>h v (by omega) h2 h3
      ·exact .inr h
    rcases all 24 (by omega) with h | ⟨v,v1,v2,v3,v4⟩
    ·have z0:sr s 24=0:=by
      rw[aG (g:=λ_=>0) (λi hi=>by
       by_cases q:t≤i
       ·exact h i (by omega) hi q
       ·exact O.bf i (by omega)),cC]
     rw[z0];exact uB λi _=>O'.nn i
    ·have e:=O.eq v v1 v2 v3;have g:=O'.ge v v2;have ex:∀m,v+1≤m->m≤24->sr s m=sr s (v+1)/\sr s' (v+1)≤sr s' m:=λm=>by
      induction m with
      |zero=>intro h;omega
      |succ m ih=>
       intro h1 h2;by_cases r:m=v
       ·subst r;exact⟨Z,Ts⟩
       ·obtain⟨a,b⟩:=ih (by omega) (by omega);have z0:=v4 m (by omega) (by omega);have nn:=O'.nn m;have e1:sr s (m+1)=sr s m+s m:=Z;have e2:sr s' (m+1)=sr s' m+s' m:=Z;rw[e1,e2,z0,a];exact⟨by grind,by grind⟩
     obtain⟨a,b⟩:=ex 24 (by omega) (by omega);rw[a,←e];grind
   have tot':sr s (23+1)≤sr s' (23+1):=tot;grind
  ·have l:=lt (u+1) (by omega) (by omega);have l':sr s (u+1+1)-sr s' (u+1+1)<sr s (u+1)-sr s' (u+1):=l;have e1:sr s (u+1+1)=sr s (u+1)+s (u+1):=Z;have e2:sr s' (u+1+1)=sr s' (u+1)+s' (u+1):=Z;have d':=O'.dec u tu;rw[e1,e2,fl] at l';grind
 intro x hx;have:=mx x (by omega);have h':sr s (x+1)-sr s' (x+1)≤sr s (u+1)-sr s' (u+1):=this;grind
theorem Oa.uniq(O:Oa t D s)(O':Oa t D s')(ht:t<24):s=s':=by
 have a:=O.sum_le O' ht;have b:=O'.sum_le O ht;have e:∀u,u<24->sr s (u+1)=sr s' (u+1):=λu hu=>VL (a u hu) (b u hu)
 funext u
 by_cases h:u<24
 ·have e1:sr s (u+1)=sr s u+s u:=Z;have e2:sr s' (u+1)=sr s' u+s' u:=Z;have x:=e u h;rw[e1,e2] at x;by_cases c:u=0
  ·subst c;have z1:sr s 0=0:=Z;have z2:sr s' 0=0:=Z;rw[z1,z2] at x;grind
  ·have y:=e (u-1) (by omega);rw[show u-1+1=u by omega] at y;rw[y] at x;grind
 ·rw[O.z u (by omega),O'.z u (by omega)]
end
theorem jA(f:Nat->Rat):∀n:Nat,sQ f (SC n)=sr f n
 |0=>rfl
 |n+1=>by
  rw[Ua,d0,jA f n];show sr f n+(f n+0)=sr f n+f n;grind
theorem Iz(cv:c≤v):∀n:Nat,v≤n->sr (λu=>if c≤u/\u<v then(1:Rat) else 0) n=((v-c:Nat):Rat):=λn=>by
 have key:∀n,sr (λu=>if c≤u/\u<v then(1:Rat) else 0) n=((min n v-min n c:Nat):Rat):=λn=>by
  induction n with
  |zero=>show(0:Rat)=((min 0 v-min 0 c:Nat):Rat);rw[show min 0 v-min 0 c=0 by omega];rfl
  |succ n ih=>
   show sr _ n+(if c≤n/\n<v then(1:Rat) else 0)=_;rw[ih];by_cases q:c≤n/\n<v
   ·rw[if_pos q,show min (n+1) v-min (n+1) c=(min n v-min n c)+1 by omega,Y6];rfl
   ·rw[if_neg q,show min (n+1) v-min (n+1) c=min n v-min n c by omega];grind
 intro h;rw[key n,show min n v-min n c=v-c by omega]
def dP(ws:List Wk)(c:Nat):Rat:=FM ws λu=>decide (u<c)
section
variable {ws:List Wk}{t:Nat}{lys:List Ly}
theorem xK(ok:∀w∈ws,cn w)(h1:∀w∈ws,w.1=t)(tv:t≤v)(v24:v≤24)(hA:∀u,t≤u->u<v->A u=true)(hv:v<24->A v=false):FM ws A=dP ws v:=by
 unfold FM dP;refine aN λw hw=>?_
 have o:=ok w hw;have e:=h1 w hw;have ole:=o.le;have olt:=o.lt
 congr 1
 rw[UG,da,da];constructor
 ·intro h u hu hi;have hi':w.1≤u/\u≤w.2.1:=by
   unfold im at hi;rw[Ta,decide_eq_true_iff,decide_eq_true_iff] at hi;exact hi
  refine decide_eq_true ?_;apply SS;intro z;have q:=h v (by omega) (by unfold im;rw[decide_eq_true (by omega),decide_eq_true (by omega)];rfl);rw[hv (by omega)] at q
  cases q
 ·intro h u hu hi;have hi':w.1≤u/\u≤w.2.1:=by
   unfold im at hi;rw[Ta,decide_eq_true_iff,decide_eq_true_iff] at hi;exact hi
  exact hA u (by omega) (of_decide_eq_true (h u hu hi))
theorem K7(cv:c≤v)(v24:v≤24)(h:∀u,c≤u->u<v->P u=true):((v-c:Nat):Rat)≤lA P:=by
 unfold lA;rw[jA,←Iz cv 24 v24];refine iJ λu _=>?_
 by_cases q:c≤u/\u<v
 ·rw[if_pos q,h u q.1 q.2];exact Ts
 ·rw[if_neg q];exact eI _ Dq
theorem Gp(ok:∀w∈ws,cn w)(h1:∀w∈ws,w.1=t)(h:iu ws (SC 24) lys)(hx:x<24)(p:0<iL ws lys x):∃v,t≤x/\x<v/\v≤24/\(∀c,t≤c->c≤v->iL ws lys x*((v-c:Nat):Rat)≤dP ws v-dP ws c)/\∀y,t≤y->y<v->iL ws lys x≤iL ws lys y:=by
 obtain⟨A,Ax,_,_,hC⟩:=OV ok h (λ_=>true) (UR.mpr (λ_ _=>Z)).symm x hx p;obtain⟨B,_,hBd,hB⟩:=OU ok h (λ_=>true) (UR.mpr (λ_ _=>Z)).symm (iL ws lys x) p;have AB:∀y,y<24->A y=true->B y=true:=λy hy ay=>by
  apply SS;intro z;have sup:=pH (ph ok) A B;have q1:=hC (λu=>A u&&B u) (λu _ z=>by cases z) λu _ z=>(U4.mp z).1
  have cp:0<lA (λu=>(A u||B u)&&!B u):=t0 hy (by show((A y||B y)&&!B y)=true;rw[ay,Yi.mpr z];rfl);have q2:=hB (λu=>A u||B u) (λu _ e=>by show(A u||B u)=true;rw[e,Y0]) cp;have ec:lA (λu=>A u&&!(A u&&B u))=lA (λu=>(A u||B u)&&!B u):=mw λu _=>by cases A u<;>cases B u<;>rfl
  rw[ec] at q1;grind
 have no:∀C:Nat->Bool,(∀u,u<24->C u=true->A u=true)->FM ws C=FM ws A->∀u,u<24->A u=true->C u=true:=λC cA e u hu au=>by
  apply SS;intro z;have c1:=t0 (P:=λu=>A u&&!C u) hu (by show(A u&&!C u)=true;rw[au,Yi.mpr z];rfl);have q:=hC C (λu _ z=>by cases z) cA;rw[e] at q;have:=Zn p c1;grind
 have tx:t≤x:=by
  apply SS;intro z;have e:FM ws (λu=>A u&&decide (t≤u))=FM ws A:=aN λw hw=>by
   have ew:=h1 w hw
   congr 1
   rw[UG,da,da];constructor
   ·intro q u hu hi;exact(U4.mp (q u hu hi)).1
   ·intro q u hu hi;have hi':w.1≤u/\u≤w.2.1:=by
     unfold im at hi;rw[Ta,decide_eq_true_iff,decide_eq_true_iff] at hi;exact hi
    show(A u&&decide (t≤u))=true;rw[q u hu hi,decide_eq_true (by omega)];rfl
  have q:=no _ (λu _ z=>(U4.mp z).1) e x hx Ax;have:=of_decide_eq_true (U4.mp q).2;omega
 obtain⟨v,tv,v24,hA,hv⟩:∃v,t≤v/\v≤24/\(∀u,t≤u->u<v->A u=true)/\(v<24->A v=false):=by
  have key:∀m,t+m≤24->(∀u,t≤u->u<t+m->A u=true)∨∃v,t≤v/\v≤24/\(∀u,t≤u->u<v->A u=true)/\(v<24->A v=false):=λm=>by
   induction m with
   |zero=>intro _;exact .inl λu a b=>by omega
   |succ m ih=>
    intro hm;rcases ih (by omega) with q|q
    ·cases c:A (t+m) with
     |true=>
      refine .inl λu a b=>?_
      by_cases r:u=t+m
      ·rw[r];exact c
      ·exact q u a (by omega)
     |false=>exact .inr ⟨t+m,by omega,by omega,q,λ_=>c⟩
    ·exact .inr q
  rcases key (24-t) (by omega) with q|q
  ·exact⟨24,by omega,SD _,λu a b=>q u a (by omega),λz=>by omega⟩
  ·exact q
 have fA:=xK ok h1 tv v24 hA hv;have sub:=no (λu=>decide (u<v)&&A u) (λu _ z=>(U4.mp z).2) (by
  rw[fA];exact xK ok h1 tv v24 (λu a b=>by show(decide (u<v)&&A u)=true;rw[hA u a b,decide_eq_true b];rfl) λz=>by show(decide (v<v)&&A v)=false;rw[decide_eq_false (by omega)];rfl)
 have xv:x<v:=of_decide_eq_true (U4.mp (sub x hx Ax)).1;refine⟨v,tx,xv,v24,λc tc cv=>?_,λy ty yv=>hBd y (by omega) Z (AB y (by omega) (hA y ty yv))⟩;have q:=hC (λu=>decide (u<c)&&A u) (λu _ z=>by cases z) λu _ z=>(U4.mp z).2
 have fC:FM ws (λu=>decide (u<c)&&A u)=dP ws c:=xK ok h1 tc (by omega) (λu a b=>by show(decide (u<c)&&A u)=true;rw[hA u a (by omega),decide_eq_true b];rfl) λz=>by show(decide (c<c)&&A c)=false;rw[decide_eq_false (by omega)];rfl
 rw[fA,fC] at q;have g:=K7 (P:=λu=>A u&&!(decide (u<c)&&A u)) cv v24 λu a b=>by
  show(A u&&!(decide (u<c)&&A u))=true;rw[hA u (by omega) b,decide_eq_false (by omega)];rfl
 have:=Ur g (Up p);grind
end
theorem rj{f:Nat->Rat}{m:Nat}:∀{M:Nat},m≤M->(∀v,m≤v->v<M->f v=0)->sr f M=sr f m
 |0,h,_=>by rw[show m=0 by omega]
 |M+1,h,z=>by
  by_cases c:m=M+1
  ·rw[c]
  ·have i:=rj (f:=f) (m:=m) (M:=M) (by omega) λv a b=>z v a (by omega)
   show sr f M+f M=_;rw[i,z M (by omega) (by omega)];grind
theorem lS{f g:Nat->Rat}:∀{n:Nat},(∀i,i<n->f i≤g i)->sr f n=sr g n->∀i,i<n->f i=g i
 |0,_,_,i,hi=>absurd hi (U1 _)
 |n+1,h,e,i,hi=>by
  have a:=iJ (f:=f) (g:=g) (n:=n) λi hi=>h i (by omega)
  have b:=h n (by omega);have e':sr f n+f n=sr g n+g n:=e;by_cases c:i=n
  ·subst c;grind
  ·exact lS (n:=n) (λi hi=>h i (by omega)) (by grind) i (by omega)
theorem uA(h:∀i,i<n->0≤f i)(e:sr f n=0)(i:Nat)(hi:i<n):f i=0:=(lS (f:=λ_=>0) h (by rw[cC,e]) i hi).symm
theorem lR{f:Nat->Rat}{j:Nat}:∀{n:Nat},j<n->sr (λi=>if i=j then f i else 0) n=f j
 |0,h=>absurd h (U1 _)
 |n+1,h=>by
  show sr _ n+(if n=j then f n else 0)=f j;by_cases c:n=j
  ·rw[if_pos c,aG (g:=λ_=>0) (λi hi=>if_neg (by omega)),cC,c];grind
  ·rw[if_neg c,lR (n:=n) (by omega)];grind
theorem Ho{f g:Nat->Rat}{b:Nat}:∀{e:Nat},b≤e->(∀y,b≤y->y≤e->f y<g y)->sr f (e+1)-sr f b<sr g (e+1)-sr g b
 |0,h,l=>by
  obtain rfl:b=0:=by omega
  have:=l 0 (by omega) (by omega);show sr f 0+f 0-sr f 0<sr g 0+g 0-sr g 0;grind
 |e+1,h,l=>by
  have y:=l (e+1) h (SD _);show sr f (e+1)+f (e+1)-sr f b<sr g (e+1)+g (e+1)-sr g b;by_cases c:b=e+1
  ·rw[c];grind
  ·have:=Ho (f:=f) (g:=g) (b:=b) (e:=e) (by omega) λy a b=>l y a (by omega)
   grind
structure Fl(n t:Nat)(d:Nat->Nat)(a:Nat->Rat)(P:Nat->Nat->Rat)(s:Nat->Rat):Prop where
 nn:∀i,i<n->∀u,u<24->0≤P i u
 win:∀i,i<n->∀u,u<24->P i u≠0->t≤u/\u≤d i
 am:∀i,i<n->a i=sr (P i) 24
 sum:∀u,u<24->s u=sr (λi=>P i u) n
section
variable {n t k:Nat}{d:Nat->Nat}{a:Nat->Rat}{P:Nat->Nat->Rat}{s:Nat->Rat}{D D' s':Nat->Rat}
theorem Fl.part(F:Fl n t d a P s)(hu:u<24)(hi:i<n):(if d i≤u then a i else 0)≤sr (P i) (u+1):=by
 by_cases c:d i≤u
 ·rw[if_pos c,F.am i hi,rj (m:=u+1) (M:=24) (by omega) λv a b=>?_]
  ·exact Ts
  ·apply SS;intro z;have:=(F.win i hi v b z).2;omega
 ·rw[if_neg c];exact uB λv hv=>F.nn i hi v (by omega)
theorem Fl.sums(F:Fl n t d a P s)(hu:u<24):sr s (u+1)=sr (λi=>sr (P i) (u+1)) n:=by
 rw[m6];exact aG λv hv=>F.sum v (by omega)
theorem Fl.ge(F:Fl n t d a P s)(hu:u<24):f7 n d a u≤sr s (u+1):=by
 rw[F.sums hu];exact iJ λi hi=>F.part hu hi
theorem Fl.full(F:Fl n t d a P s)(hu:u<24)(e:f7 n d a u=sr s (u+1))(hi:i<n)(h:u<d i)(hv:v≤u):P i v=0:=by
 rw[F.sums hu] at e;have q:=lS (λi hi=>F.part hu hi) e i hi;rw[if_neg (by omega)] at q;exact uA (λv hv=>F.nn i hi v (by omega)) q.symm v (by omega)
theorem Fl.next(F:Fl n t d a P s)(ht:t<24):Fl n (t+1) d (λi=>a i-P i t) (λi u=>if u≤t then 0 else P i u) (λu=>if u≤t then 0 else s u):=by
 refine⟨λi hi u hu=>?_,λi hi u hu z=>?_,λi hi=>?_,λu hu=>?_⟩
 ·show 0≤if u≤t then 0 else P i u
  split
  ·exact Ts
  ·exact F.nn i hi u hu
 ·have z':(if u≤t then 0 else P i u)≠0:=z;by_cases c:u≤t
  ·rw[if_pos c] at z';exact absurd Z z'
  ·rw[if_neg c] at z';exact⟨by omega,(F.win i hi u hu z').2⟩
 ·show a i-P i t=sr (λu=>if u≤t then 0 else P i u) 24;have e:sr (P i) 24=sr (λu=>if u=t then P i u else 0) 24+sr (λu=>if u≤t then 0 else P i u) 24:=by
   rw[←gv];refine aG λu hu=>?_
   by_cases c:u=t
   ·rw[if_pos c,if_pos (by omega)];grind
   ·rw[if_neg c];by_cases c2:u≤t
    ·rw[if_pos c2];have:P i u=0:=by
      apply SS;intro z;have:=(F.win i hi u hu z).1;omega
     rw[this];grind
    ·rw[if_neg c2];grind
  rw[F.am i hi,e,lR ht];grind
 ·show(if u≤t then 0 else s u)=sr (λi=>if u≤t then 0 else P i u) n;by_cases c:u≤t
  ·rw[if_pos c,aG (g:=λ_=>0) (λi _=>if_pos c),cC]
  ·rw[if_neg c,F.sum u hu];exact aG λi _=>(if_neg c).symm
theorem Oa.nextF(O:Oa t (f7 n d a) s)(F:Fl n t d a P s)(ht:t<24):Oa (t+1) (f7 n d λi=>a i-P i t) λu=>if u≤t then 0 else s u:=by
 have su:∀u,t<u->sr (λu=>if u≤t then 0 else s u) u=sr s u-s t:=λu=>by
  induction u with
  |zero=>intro h;omega
  |succ u ih=>
   intro h;show sr _ u+(if u≤t then 0 else s u)=sr s u+s u-s t;by_cases c:u=t
   ·subst c;rw[if_pos (SD _),aG (g:=λ_=>0) (λi hi=>if_pos (by omega)),cC,aG (f:=s) (g:=λ_=>0) (λi hi=>O.bf i hi),cC];grind
   ·rw[ih (by omega),if_neg (by omega)];grind
 refine⟨λu=>?_,λu hu=>if_pos (by omega),λu hu=>?_,λu hu=>?_,λu hu=>(F.next ht).ge hu,λu h hu f=>?_⟩
 ·show 0≤if u≤t then 0 else s u
  split
  ·exact Ts
  ·exact O.nn u
 ·show(if u≤t then 0 else s u)=0;rw[if_neg (by omega)];exact O.z u hu
 ·show(if u+1≤t then 0 else s (u+1))≤if u≤t then 0 else s u
  rw[if_neg (by omega),if_neg (by omega)];exact O.dec u (by omega)
 ·have f':(if u+1≤t then 0 else s (u+1))<if u≤t then 0 else s u:=f
  rw[if_neg (by omega),if_neg (by omega)] at f';have e:=O.eq u (by omega) hu f';rw[su (u+1) (by omega),←e,F.sum t ht];unfold f7;rw[←j8];refine aG λi hi=>?_
  by_cases c:d i≤u
  ·rw[if_pos c,if_pos c]
  ·rw[if_neg c,if_neg c,F.full hu e hi (by omega) (by omega)];grind
theorem tY{v:Nat}(dec:∀u,t≤u->s (u+1)≤s u):∀(m u:Nat),t≤u->u+m=v->s v<s u->∃e,u≤e/\e<v/\s (e+1)<s e/\s e=s u
 |0,u,_,h,l=>by
  rw[show v=u by omega] at l;grind
 |m+1,u,tu,h,l=>by
  by_cases c:s (u+1)<s u
  ·exact⟨u,SD _,by omega,c,Z⟩
  ·have e:s (u+1)=s u:=VL (dec u tu) (WT.mp c);obtain⟨e',h1,h2,h3,h4⟩:=tY (v:=v) dec m (u+1) (by omega) (by omega) (by rw[e];exact l);exact⟨e',by omega,h2,h3,by rw[h4,e]⟩
theorem Oa.own1(O:Oa t (f7 n d a) s)(F:Fl n t d a P s)(ht:t<24)(hi:i<n)(hd:d i<24)(z:P i t≠0):s (d i)=s t:=by
 have w:=(F.win i hi t ht z).2;apply SS;intro ne;have l:s (d i)<s t:=by
  have:=O.le (SD _) w;grind
 obtain⟨e,h1,h2,h3,_⟩:=tY (v:=d i) O.dec (d i-t) t (SD _) (by omega) l;exact z (F.full (u:=e) (by omega) (O.eq e h1 (by omega) h3) hi h2 h1)
theorem sf(dec:∀u,t≤u->s (u+1)≤s u):∀u,t≤u->∃b,t≤b/\b≤u/\s b=s u/\(b=t∨(t<b/\s b<s (b-1)))
 |0,h=>⟨0,h,SD _,Z,.inl (by omega)⟩
 |u+1,h=>by
  by_cases c:t=u+1
  ·exact⟨u+1,h,SD _,Z,.inl c.symm⟩
  ·by_cases q:s (u+1)<s u
   ·exact⟨u+1,h,SD _,Z,.inr ⟨by omega,q⟩⟩
   ·have e:s (u+1)=s u:=VL (dec u (by omega)) (WT.mp q);obtain⟨b,h1,h2,h3,h4⟩:=sf dec u (by omega);exact⟨b,h1,by omega,by rw[h3,e],h4⟩
theorem Oa.up(O:Oa t D s)(O':Oa t D' s')(mo:∀u v,u≤v->v<24->D' u-D u≤D' v-D v)(p:∀u,u<24->D u≤D' u)(u:Nat):s u≤s' u:=by
 by_cases c1:u<t
 ·rw[O.bf u c1];exact O'.nn u
 by_cases c2:24≤u
 ·rw[O.z u c2];exact O'.nn u
 apply SS;intro no;have l:=Wx.mp no;have n':=O'.nn u;obtain⟨e,e1,e2,e3,e4⟩:=tY (v:=24) O.dec (24-u) u (by omega) (by omega) (by rw[O.z 24 (SD _)];grind);obtain⟨b,b1,b2,b3,b4⟩:=sf O'.dec u (by omega);have de:=O.eq e (by omega) e2 e3;have ge:=O'.ge e e2;have lt:=Ho (f:=s') (g:=s) (b:=b) (e:=e) (by omega) λy h1 h2=>by
  have a1:=O'.le b1 h1;have a2:=O.le (u:=y) (v:=e) (by omega) h2;grind
 have q:sr s (e+1)-sr s b≤sr s' (e+1)-sr s' b:=by
  rcases b4 with rfl | ⟨tb,f⟩
  ·rw[aG (f:=s) (g:=λ_=>0) (λi hi=>O.bf i hi),aG (f:=s') (g:=λ_=>0) (λi hi=>O'.bf i hi)];have:=p e e2;grind
  ·obtain⟨x,rfl⟩:∃x,b=x+1:=⟨b-1,by omega⟩;have e0:=O'.eq x (by omega) (by omega) f;have g0:=O.ge x (by omega);have m0:=mo x e (by omega) e2;grind
 grind
end
def m8(ws:List Wk)(lys:List Ly)(u:Nat):Rat:=if u<24 then iL ws lys u else 0
theorem D6:im w t=true↔w.1≤t/\t≤w.2.1:=by
 unfold im;rw[Ta,decide_eq_true_iff,decide_eq_true_iff]
theorem yj{f:Pc->Rat}{m:Nat}(g:Nat->Rat):∀{q:List Pc},(∀c∈q,c.1<m)->sQ (λc=>g c.1*f c) q=sr (λj=>g j*sQ (λc:Pc=>bX (decide (c.1=j)) (f c)) q) m
 | [],_=>by
  rw[aG (g:=λ_=>0) λj _=>by show g j*0=0;grind,cC];rfl
 |c::q,h=>by
  have e:sr (λj=>g j*sQ (λc:Pc=>bX (decide (c.1=j)) (f c)) (c::q)) m=sr (λj=>if j=c.1 then g j*f c else 0) m+sr (λj=>g j*sQ (λc:Pc=>bX (decide (c.1=j)) (f c)) q) m:=by
   rw[←gv];refine aG λj _=>?_
   show g j*(bX (decide (c.1=j)) (f c)+_)=_;by_cases z:j=c.1
   ·rw[decide_eq_true z.symm,if_pos z,c6];grind
   ·rw[decide_eq_false (λy=>z y.symm),if_neg z,cm];grind
  rw[e,lR (f:=λj=>g j*f c) (h c SO),←yj g λx hx=>h x (SQ _ hx)];rfl
section
variable {ws:List Wk}{t:Nat}{lys:List Ly}
theorem Im(ok:∀w∈ws,cn w)(h1:∀w∈ws,w.1=t):dP ws (u+1)=f7 ws.length (λj=>(ws.getD j bh).2.1) (λj=>fY (ws.getD j bh)) u:=by
 unfold dP FM f7;rw[fH bh ws,jA];refine aG λj hj=>?_
 have e:ws.getD j bh=ws[j]:=ax bh (Sz hj);have o:=ok _ (S2 hj);rw[e];have b:gU (λx=>decide (x<u+1)) ws[j]=decide (ws[j].2.1≤u):=by
  rw[UG,da,decide_eq_true_iff];constructor
  ·intro q;have:=of_decide_eq_true (q ws[j].2.1 o.lt (D6.mpr ⟨o.le,SD _⟩));omega
  ·intro q x _ i;have:=(D6.mp i).2;exact decide_eq_true (by omega)
 rw[b];show _=if(ws.getD j bh).2.1≤u then fY (ws.getD j bh) else 0
 rw[e];by_cases c:ws[j].2.1≤u
 ·rw[decide_eq_true c,if_pos c,c6]
 ·rw[decide_eq_false c,if_neg c,cm]
theorem Et(ok:∀w∈ws,cn w)(w20:ws.length≤20)(h:iu ws (SC 24) lys)(hu:u<24):sQ (λp:Pc=>val p.2) ((dZ ws (bn ws lys)).2.getD u [])=iL ws lys u:=by
 have lok:=oO h (by rw[TJ];exact SD _) (λt ht=>SW.mp ht);have z:=A0 (ws:=ws) ok h (nQ ok w20 lok) hu;have g:∀n,u<n->(bR ws (bD ws ws.length) (bn ws lys) n).2.getD u []=(fP ws (bD ws ws.length) u (bR ws (bD ws ws.length) (bn ws lys) u).1 ((bn ws lys).getD u (0,1))).2.2:=by
  intro n
  induction n with
  |zero=>intro z;omega
  |succ n ih=>
   intro hn;have ln:=(gi (ord:=bD ws ws.length) (ss:=bn ws lys) ok (fi (ws:=ws) ws.length (SD _)).lt (nQ ok w20 lok) n).2;show((bR ws (bD ws ws.length) (bn ws lys) n).2++[_]).getD u []=_;by_cases c:u<n
   ·rw[SG,Ul (by omega),←SG];exact ih c
   ·have:u=n:=by omega
    subst this;rw[SG,Uo (by omega),ln,Xi];rfl
 rw[←g 24 hu] at z;exact z
theorem yY(ok:∀w∈ws,cn w)(h1:∀w∈ws,w.1=t)(w20:ws.length≤20)(h:iu ws (SC 24) lys):Fl ws.length t (λj=>(ws.getD j bh).2.1) (λj=>fY (ws.getD j bh)) (λj u=>eQ (dZ ws (bn ws lys)).2 j u) (m8 ws lys):=by
 have pr:=fV ok w20 h;have row:=λ(u:Nat) hu=>Et (u:=u) ok w20 h hu
 generalize (dZ ws (bn ws lys)).2=pl at pr row ⊢;refine⟨λj _ u hu=>pr.pt_nn hu,λj hj u hu z=>?_,λj hj=>?_,λu hu=>?_⟩
 ·apply SS;intro no;refine z ?_;have e:∀c∈pl.getD u [],bX (decide (c.1=j)) (val c.2)=(0:Rat)*0:=λc hc=>by
   by_cases q:c.1=j
   ·exfalso;have m:=(pr.mem hu hc).2.2.2;rw[q] at m;have i:=D6.mp m;rw[show(ws.getD j bh).1=t from by rw[ax bh (Sz hj)];exact h1 _ (S2 hj)] at i;exact no i
   ·rw[decide_eq_false q,cm];grind
  show sQ _ _=0;rw[aN e,di];grind
 ·have e:=(pr.sum j 24 (SD _)).2;rw[pr.fin j hj,jA] at e;exact e
 ·show(if u<24 then _ else _)=_;rw[if_pos hu,←row u hu];have:=yj (f:=λc:Pc=>val c.2) (m:=ws.length) (λ_=>1) (q:=pl.getD u []) λc hc=>(pr.mem hu hc).1
  rw[aN (g:=λc:Pc=>(1:Rat)*val c.2) λc _=>by grind,this];refine aG λj _=>?_
  show 1*eQ pl j u=eQ pl j u;grind
theorem Ql(ok:∀w∈ws,cn w)(h1:∀w∈ws,w.1=t)(ht:t<24)(w20:ws.length≤20)(h:iu ws (SC 24) lys):Oa t (f7 ws.length (λj=>(ws.getD j bh).2.1) λj=>fY (ws.getD j bh)) (m8 ws lys):=by
 have F:=yY ok h1 w20 h;have nn:∀u,0≤m8 ws lys u:=λu=>by
  unfold m8
  split
  ·exact BB ok h u
  ·exact Ts
 have X:∀u,u<24->m8 ws lys u=iL ws lys u:=λu hu=>if_pos hu
 have M:=λ(x:Nat) (hx:x<24) (p:0<m8 ws lys x)=>Gp ok h1 h hx (by rw[←X x hx];exact p)
 have bf:∀u,u<t->m8 ws lys u=0:=λu hu=>by
  apply SS;intro z;obtain⟨v,tx,_⟩:=M u (by omega) (by have:=nn u;grind);omega
 have dec:∀u,t≤u->m8 ws lys (u+1)≤m8 ws lys u:=λu tu=>by
  by_cases c:u+1<24
  ·apply SS;intro z;have l:=Wx.mp z;have n0:=nn u;obtain⟨v,a1,a2,a3,_,a4⟩:=M (u+1) c (by grind);have:=a4 u tu (by omega);rw[X _ c,X u (by omega)] at l;grind
  ·rw[show m8 ws lys (u+1)=0 from if_neg c];exact nn u
 refine⟨nn,bf,λu hu=>if_neg (by omega),dec,λu hu=>F.ge hu,?_⟩;have go:∀m u,u<m->t≤u->u<24->m8 ws lys (u+1)<m8 ws lys u->dP ws (u+1)=sr (m8 ws lys) (u+1):=λm=>by
  induction m with
  |zero=>intro u h;omega
  |succ m ih=>
   intro u hm tu hu f;have n0:=nn (u+1);obtain⟨v,_,a2,a3,ac,a4⟩:=M u hu (by grind);have ev:v=u+1:=by
    apply SS;intro z;have:=a4 (u+1) (by omega) (by omega);rw[X u hu,X (u+1) (by omega)] at f;grind
   subst ev;obtain⟨b,b1,b2,b3,b4⟩:=sf dec u tu;have le:∀y w,t≤y->y≤w->m8 ws lys w≤m8 ws lys y:=λy w hy=>by
    induction w with
    |zero=>intro q;rw[show y=0 by omega];exact Ts
    |succ w ihw=>
     intro q;by_cases c:y=w+1
     ·rw[c];exact Ts
     ·have:=ihw (by omega);have:=dec w (by omega);grind
   have sm:∀k,b+k≤u+1->sr (m8 ws lys) (b+k)=sr (m8 ws lys) b+(k:Rat)*m8 ws lys u:=λk=>by
    induction k with
    |zero=>intro _;show sr _ b=sr _ b+((0:Nat):Rat)*_;rw[show((0:Nat):Rat)=0 from Z];grind
    |succ k ihk=>
     intro q;have e1:=le b (b+k) b1 (by omega);have e2:=le (b+k) u (by omega) (by omega);have e3:m8 ws lys (b+k)=m8 ws lys u:=by rw[b3] at e1;exact VL e1 e2
     show sr _ (b+k)+m8 ws lys (b+k)=_;rw[ihk (by omega),e3,show((k+1:Nat):Rat)=(k:Rat)+1 from Y6 k 1];grind
   have s1:=sm (u+1-b) (by omega);rw[show b+(u+1-b)=u+1 by omega] at s1;have c1:=ac b b1 (by omega);rw[←X u hu] at c1;have ge:=F.ge hu;rw[←Im ok h1] at ge;have base:sr (m8 ws lys) b=dP ws b:=by
    rcases b4 with rfl | ⟨tb,fb⟩
    ·rw[aG (g:=λ_=>0) (λi hi=>bf i hi),cC];unfold dP FM;have e:∀w∈ws,bX (gU (λx=>decide (x<b)) w) (fY w)=(0:Rat)*0:=λw hw=>by
      have o:=ok w hw;have ole:=o.le;have olt:=o.lt;have e1:=h1 w hw;have z:gU (λx=>decide (x<b)) w=false:=Yi.mpr λy=>by
       have:=of_decide_eq_true (da.mp y w.1 (by omega) (D6.mpr ⟨SD _,o.le⟩));omega
      rw[z,cm];grind
     rw[aN e,di];grind
    ·obtain⟨x,rfl⟩:∃x,b=x+1:=⟨b-1,by omega⟩;exact(ih x (by omega) (by omega) (by omega) fb).symm
   refine VL ge ?_;rw[s1,base];grind
 intro u tu hu f;rw[←Im ok h1];exact go (u+1) u (by omega) tu hu f
end
def push(m:Nat)(σ:Nat->Nat)(x:Nat->Rat)(i:Nat):Rat:=sr (λj=>if σ j=i then x j else 0) m
section
variable {n m t:Nat}{σ d d':Nat->Nat}{x y a:Nat->Rat}{P:Nat->Nat->Rat}{s:Nat->Rat}
theorem uR(hσ:∀j,j<m->σ j<n)(g:Nat->Rat):sr (λi=>g i*push m σ x i) n=sr (λj=>g (σ j)*x j) m:=by
 have e:sr (λi=>g i*push m σ x i) n=sr (λi=>sr (λj=>if σ j=i then g i*x j else 0) m) n:=aG λi _=>by
  unfold push;rw[←gZ];refine aG λj _=>?_
  by_cases c:σ j=i
  ·rw[if_pos c,if_pos c]
  ·rw[if_neg c,if_neg c];grind
 rw[e,m6];refine aG λj hj=>?_
 rw[aG (g:=λi=>if i=σ j then g i*x j else 0) λi _=>by
  by_cases c:σ j=i
  ·rw[if_pos c,if_pos c.symm]
  ·rw[if_neg c,if_neg λz=>c z.symm],lR (f:=λi=>g i*x j) (hσ j hj)]
theorem C1(i:Nat):push m σ (λj=>x j-y j) i=push m σ x i-push m σ y i:=by
 unfold push;rw[←j8];refine aG λj _=>?_
 by_cases c:σ j=i
 ·rw[if_pos c,if_pos c,if_pos c]
 ·rw[if_neg c,if_neg c,if_neg c];grind
theorem Fy(h:push m σ x i≠0):∃j,j<m/\σ j=i/\x j≠0:=by
 apply SS;intro no;refine h ?_;unfold push;rw[aG (g:=λ_=>0) λj hj=>?_,cC];by_cases c:σ j=i
 ·rw[if_pos c];apply SS;intro z;exact no ⟨j,hj,c,z⟩
 ·rw[if_neg c]
theorem sI(hσ:∀j,j<m->σ j<n/\d (σ j)=d' j):f7 n d (push m σ x)=f7 m d' x:=by
 funext u
 have e:=uR (x:=x) (λj hj=>(hσ j hj).1) λi=>if d i≤u then(1:Rat) else 0
 unfold f7;rw[aG (g:=λi=>(if d i≤u then(1:Rat) else 0)*push m σ x i) λi _=>by
  by_cases c:d i≤u
  ·rw[if_pos c,if_pos c];grind
  ·rw[if_neg c,if_neg c];grind,e]
 refine aG λj hj=>?_
 rw[(hσ j hj).2];by_cases c:d' j≤u
 ·rw[if_pos c,if_pos c];grind
 ·rw[if_neg c,if_neg c];grind
structure Tf(n t:Nat)(d:Nat->Nat)(c p:Nat->Rat)(s:Nat->Rat):Prop where
 oa:Oa t (f7 n d c) s
 nx:Oa (t+1) (f7 n d λi=>c i-p i) λu=>if u≤t then 0 else s u
 sum:sr p n=s t
 own:∀i,i<n->p i≠0->s (d i)=s t
theorem E3(hσ:∀j,j<m->σ j<n/\d (σ j)=d' j)(O:Oa t (f7 m d' a) s)(F:Fl m t d' a P s)(ht:t<24)(hd:∀j,j<m->d' j<24):Tf n t d (push m σ a) (push m σ λj=>P j t) s:=by
 refine⟨by rw[sI hσ];exact O,?_,?_,λi hi z=>?_⟩
 ·have e:(λi=>push m σ a i-push m σ (λj=>P j t) i)=push m σ λj=>a j-P j t:=by
   funext i
   exact(C1 i).symm
  rw[e,sI hσ];exact O.nextF F ht
 ·have e:=uR (x:=λj=>P j t) (λj hj=>(hσ j hj).1) λ_=>(1:Rat)
  rw[F.sum t ht,aG (g:=λi=>(1:Rat)*push m σ (λj=>P j t) i) λi _=>by grind,e];exact aG λj _=>by grind
 ·obtain⟨j,hj,rfl,zj⟩:=Fy z;rw[(hσ j hj).2];exact O.own1 F ht hj (hd j hj) zj
theorem Tf.congr(h:Tf n t d c p s)(e1:∀i,i<n->c i=c' i)(e2:∀i,i<n->p i=p' i):Tf n t d c' p' s:=by
 have q1:f7 n d c=f7 n d c':=by
  funext u
  exact aG λi hi=>by rw[e1 i hi]
 have q2:(f7 n d λi=>c i-p i)=f7 n d λi=>c' i-p' i:=by
  funext u
  exact aG λi hi=>by dsimp only;rw[e1 i hi,e2 i hi]
 exact⟨q1▸h.oa,q2▸h.nx,by rw[←h.sum];exact aG λi hi=>(e2 i hi).symm,λi hi z=>h.own i hi (by rw[e2 i hi];exact z)⟩
end
def aV(ws:List Wk)(pl:List (List Pc))(t i:Nat):Rat:=(if(ws.getD i bh).1<t then fY (ws.getD i bh) else 0)-sr (eQ pl i) t
def wV(ws:List Wk)(t i:Nat):Rat:=if(ws.getD i bh).1=t then fY (ws.getD i bh) else 0
def bx(ws:List Wk)(pl:List (List Pc))(t:Nat):List R:=eB (ws.map λw=>if w.1<t then w.2.2 else(0,1)) (pl.take t).flatten
theorem k8(ws:List Wk)(pl:List (List Pc))(t:Nat):(bx ws pl t).length=ws.length:=by
 unfold bx;rw[jg,SE]
theorem Bj{D:Nat}(hD:0<D):∀{q:List Pc} {rs:List R},(∀c∈q,BD D c.2)->(∀r∈rs,BD D r)->(∀r∈eB rs q,BD D r)/\∀i,i<rs.length->val ((eB rs q).getD i (0,1))=val (rs.getD i (0,1))-sQ (λc:Pc=>bX (decide (c.1=i)) (val c.2)) q
 | [],rs,_,h=>⟨h,λi _=>by show _=_-(0:Rat);rw[Rat.sub_eq_add_neg];show _=_+-0;show val (rs.getD i (0,1))=_;grind⟩
 |c::q,rs,hq,h=>by
  have hc:=hq c SO;have hx:=jq h c.1;have h':∀r∈rs.set c.1 (bJ (rs.getD c.1 (0,1)) c.2),BD D r:=λr hr=>by
   rcases Us hr with z|z
   ·exact h r z
   ·rw[z];exact hx.minus hD hc
  obtain⟨a,b⟩:=Bj hD (λx hx=>hq x (SQ _ hx)) h';refine⟨a,λi hi=>?_⟩;show val ((eB (rs.set c.1 _) q).getD i (0,1))=val (rs.getD i (0,1))-(bX (decide (c.1=i)) (val c.2)+sQ _ q);rw[b i (by rw[UH];exact hi)];by_cases z:c.1=i
  ·rw[decide_eq_true z,c6,z,ax (0,1) (UF hi),dh (by have:=jq h i;exact this.1.pos) hc.1.pos];grind
  ·rw[decide_eq_false z,cm,SG,Ug z,←SG];grind
theorem vg{pl:List (List Pc)}{i:Nat}:∀{t:Nat},t≤pl.length->sQ (λc:Pc=>bX (decide (c.1=i)) (val c.2)) (pl.take t).flatten=sr (eQ pl i) t
 |0,_=>by rw[Zm];rfl
 |t+1,h=>by
  have e:pl[t]?=some (pl.getD t []):=by rw[Sz (show t<pl.length by omega),ax [] (Sz (show t<pl.length by omega))]
  rw[TY,e,ZA,d0,vg (t:=t) (by omega)];show _+sQ _ ([pl.getD t []].flatten)=sr (eQ pl i) t+eQ pl i t;rw[show [pl.getD t []].flatten=pl.getD t [] by simp];rfl
theorem nw(hD:0<D)(h:t≤pl.length)(hw:∀w∈ws,BD D w.2.2)(hp:∀q∈pl,∀c∈q,BD D c.2):(∀r∈bx ws pl t,BD D r)/\∀i,i<ws.length->val ((bx ws pl t).getD i (0,1))=aV ws pl t i:=by
 obtain⟨a,b⟩:=Bj hD (q:=(pl.take t).flatten) (rs:=ws.map λw=>if w.1<t then w.2.2 else(0,1)) (λc hc=>by
  obtain⟨q,hq,hcq⟩:=aaz.mp hc;exact hp q (Uv hq) c hcq) λr hr=>by
  obtain⟨w,hw',rfl⟩:=SR.mp hr;by_cases c:w.1<t
  ·rw[if_pos c];exact hw w hw'
  ·rw[if_neg c];exact BD.zero D
 refine⟨a,λi hi=>?_⟩;unfold bx;rw[b i (by rw[SE];exact hi),vg h];unfold aV
 congr 1
 rw[ax bh (Sz hi),ax (0,1) (show(ws.map λw=>if w.1<t then w.2.2 else(0,1))[i]?=some (if ws[i].1<t then ws[i].2.2 else(0,1)) by rw[SU,Sz hi];rfl)];by_cases c:ws[i].1<t
 ·rw[if_pos c,if_pos c];rfl
 ·rw[if_neg c,if_neg c];exact(c8 (r:=(0,1)) (by decide)).mpr Z
theorem E7:sr (λj=>f (l.getD j 0)) l.length=sQ f l:=by rw[fH 0 l,jA]
section
variable {kn:List Wk}{rs:List R}{t:Nat}{ns:List Nat}
theorem EX(hj:j<(aT rs).length):fY ((bv kn rs t).getD j bh)=val (rs.getD ((aT rs).getD j 0) (0,1)):=by
 rw[kJ hj,ax 0 (Sz hj)];rfl
theorem qb(len:ns.length=rs.length)(i:Nat):push (bv kn rs t).length (λj=>ns.getD ((aT rs).getD j 0) 0) (λj=>fY ((bv kn rs t).getD j bh)) i=sr (λk=>if ns.getD k 0=i then val (rs.getD k (0,1)) else 0) ns.length:=by
 unfold push;rw[fO,aG (g:=λj=>(λk=>if ns.getD k 0=i then val (rs.getD k (0,1)) else 0) ((aT rs).getD j 0)) λj hj=>?_,E7 (f:=λk=>if ns.getD k 0=i then val (rs.getD k (0,1)) else 0)]
 ·unfold aT;rw[gH,jA,len];refine aG λk _=>?_
  by_cases c:rs.getD k (0,1)=(0,1)
  ·rw[decide_eq_false λz=>z c,cm,c,(c8 (r:=(0,1)) (by decide)).mpr Z]
   split<;>rfl
  ·rw[decide_eq_true c,c6]
 ·dsimp only;rw[EX hj]
theorem xX(len:ns.length=rs.length)(nd:ns.Nodup)(hk:k<ns.length):push (bv kn rs t).length (λj=>ns.getD ((aT rs).getD j 0) 0) (λj=>fY ((bv kn rs t).getD j bh)) (ns.getD k 0)=val (rs.getD k (0,1)):=by
 rw[qb len,←lR (f:=λk=>val (rs.getD k (0,1))) hk];refine aG λj hj=>?_
 by_cases c:j=k
 ·subst c;rw[if_pos Z,if_pos Z]
 ·rw[if_neg c,if_neg λz=>c ?_];rw[ax 0 (Sz hj),ax 0 (Sz hk)] at z;exact(V0 nd).mp z
theorem AW(len:ns.length=rs.length)(hi:i∉ns):push (bv kn rs t).length (λj=>ns.getD ((aT rs).getD j 0) 0) (λj=>fY ((bv kn rs t).getD j bh)) i=0:=by
 rw[qb len,aG (g:=λ_=>0) λj hj=>if_neg λz=>hi ?_,cC];rw[←z,ax 0 (Sz hj)];exact S2 hj
end
section
variable {ws:List Wk}{s:fM}{ns:List Nat}{t:Nat}
theorem Jp(nd:ns.Nodup)(h:∀c∈q,c.1<ns.length)(hk:k<ns.length):sQ (λc:Pc=>bX (decide (c.1=ns.getD k 0)) (val c.2)) (bI ns q)=sQ (λc:Pc=>bX (decide (c.1=k)) (val c.2)) q:=by
 unfold bI;rw[fc];refine aN λc hc=>?_
 show bX (decide (ns.getD c.1 0=ns.getD k 0)) (val c.2)=_
 congr 1
 refine decide_eq_decide.mpr ⟨λz=>?_,λz=>by rw[z]⟩;rw[ax 0 (Sz (h c hc)),ax 0 (Sz hk)] at z;exact(V0 nd).mp z
theorem Fo(h:∀c∈q,c.1<ns.length)(hi:i∉ns):sQ (λc:Pc=>bX (decide (c.1=i)) (val c.2)) (bI ns q)=0:=by
 unfold bI;rw[fc,aN (g:=λ_=>(0:Rat)*0) λc hc=>?_,di]
 ·grind
 ·show bX (decide (ns.getD c.1 0=i)) (val c.2)=_;rw[decide_eq_false λz=>hi (by rw[←z,ax 0 (Sz (h c hc))];exact S2 _),cm];grind
theorem uS(pl:List (List Pc))(i:Nat):sr (eQ pl i) pl.length=sQ (λq=>sQ (λc:Pc=>bX (decide (c.1=i)) (val c.2)) q) pl:=by
 rw[fH [] pl,jA];rfl
theorem KI.rest(h:KI ws s ns)(hk:k<ns.length):val (s.rs.getD k (0,1))=fY (ws.getD (ns.getD k 0) bh)-sr (eQ (s.dn.map (bI ns)) (ns.getD k 0)) s.tn:=by
 have kl:=h.len;have a:=h.sum k (by omega);have e:=uS (s.dn.map (bI ns)) (ns.getD k 0);rw[SE,h.ok.dl,fc,aN λq hq=>Jp h.nd (λc hc=>by
  obtain⟨u,hu⟩:=Ui hq;have:=((h.dn u q hu).2 c hc).1;omega) hk] at e
 rw[e];rw[h.at_ k hk] at a;unfold fY;unfold rc at a;rw[a];grind
theorem KI.none(h:KI ws s ns)(hi:i∉ns):sr (eQ (s.dn.map (bI ns)) i) s.tn=0:=by
 have kl:=h.len;have e:=uS (s.dn.map (bI ns)) i;rw[SE,h.ok.dl,fc,aN (g:=λ_=>(0:Rat)*0) λq hq=>by
  rw[Fo (λc hc=>by
   obtain⟨u,hu⟩:=Ui hq;have:=((h.dn u q hu).2 c hc).1;omega) hi]
  grind,di] at e
 rw[e];grind
theorem HZ(o:d9 ws)(h:KI ws s (dY ws t))(tn:s.tn=t):∀j,j≤ws.length->KI ws (vx ws s (jp ws t j)) (dY ws t++jp ws t j)
 |0,_=>by rw[show jp ws t 0=[] from Z,UZ];exact h
 |j+1,hj=>by
  have ih:=HZ o h tn j (by omega);by_cases c:(ws.getD j bh).1=t
  ·rw[tT c,←Xk,o4];refine ih.come o (by omega) (λz=>?_) (by rw[(ky ws _ _).1,tn];exact c);rcases Ti.mp z with z|z
   ·have:=(ia.mp z).2;omega
   ·have:=(nv.mp z).1;omega
  ·rw[wX c];exact ih
def kC(ws:List Wk)(pl:List (List Pc))(t:Nat):Prop:=∀i,i<ws.length->Bq (DK t) 12 ((bx ws pl t).getD i (0,1))/\0≤((bx ws pl t).getD i (0,1)).1
def AK(ws:List Wk)(pl:List (List Pc))(t:Nat):Prop:=∃sp,Tf ws.length t (λi=>(ws.getD i bh).2.1) (λi=>aV ws pl t i+wV ws t i) (λi=>eQ pl i t) sp
theorem yL(o:d9 ws)(h:KI ws s (dY ws t))(tn:s.tn=t):kC ws (s.dn.map (bI (dY ws t))) t:=by
 have t24:=h.ok.t24;have kl:=h.len;have D0:0<DK 24:=xO 24;have L:=nw (t:=t) (ws:=ws) (pl:=s.dn.map (bI (dY ws t))) D0 (by rw[SE,h.ok.dl,tn];exact SD _) (λw hw=>by
  have b:=(o.wk w hw).2.2.1;exact ir (b.mono (show 84∣DK 24 from Wq 84 _) (SD _))) λq hq c hc=>by
  obtain⟨q0,h0,rfl⟩:=SR.mp hq;obtain⟨c0,hc0,rfl⟩:=SR.mp hc;have b:=(h.ok.pcs q0 h0).2 c0 hc0;exact(ir b.2.bq).mono (by decide)
 intro i hi;have rd:gW ((bx ws (s.dn.map (bI (dY ws t))) t).getD i (0,1)):=(jq L.1 i).1;have v:=L.2 i hi;by_cases m:i∈dY ws t
 ·obtain⟨k,hk,ek⟩:=T0.mp m;have gk:(dY ws t).getD k 0=i:=by rw[ax 0 (Sz hk)];exact ek
  have r:=h.rest hk;have am:=h.ok.am _ (gJ (show k<s.rs.length by have:=h.ok.len;omega));rw[gk,tn] at r;have e:(bx ws (s.dn.map (bI (dY ws t))) t).getD i (0,1)=s.rs.getD k (0,1):=fG rd am.1.red (by
   rw[v,r];unfold aV;rw[if_pos (ia.mp m).2])
  rw[e,←tn];exact am
 ·have z:=h.none m;have nf:¬(ws.getD i bh).1<t:=λf=>m (ia.mpr ⟨hi,f⟩)
  have e:(bx ws (s.dn.map (bI (dY ws t))) t).getD i (0,1)=(0,1):=fG rd ⟨by decide,by decide⟩ (by
   rw[v,(c8 (r:=(0,1)) (by decide)).mpr Z];unfold aV;rw[tn] at z;rw[if_neg nf,z];grind)
  rw[e];exact⟨⟨by decide,by decide,⟨(DK t:Int),by show(DK t:Int)=1*DK t;omega⟩,by show 0≤_;exact S8 _⟩,Xy _⟩
theorem C2(h:u<pl.length):eQ (pl++[r]) i u=eQ pl i u:=by
 unfold eQ;rw[SG,Ul h,←SG]
theorem EG(h:u≤pl.length):aV ws (pl++[r]) u i=aV ws pl u i:=by
 unfold aV;rw[aG λv hv=>C2 (pl:=pl) (r:=r) (i:=i) (show v<pl.length by omega)]
theorem kC.app(h:u≤pl.length)(k:kC ws pl u):kC ws (pl++[r]) u:=by
 unfold kC bx;rw[List.take_append_of_le_length h];exact k
theorem AK.app(h:u<pl.length)(k:AK ws pl u):AK ws (pl++[r]) u:=by
 obtain⟨sp,T⟩:=k;exact⟨sp,T.congr (λi _=>by rw[EG (by omega)]) λi _=>(C2 h).symm⟩
theorem L5(h:KI ws s (dY ws (t+1)))(tn:s.tn=t)(ht:t<24)(G:G4 s q0):AK ws (s.dn.map (bI (dY ws (t+1)))++[bI (dY ws (t+1)) (bI (aT s.rs) q0)]) t:=by
 obtain⟨lys,L,eq⟩:=G.ex;have kl:=h.len;have ol:=h.ok.len;have few:=h.ok.few;have wl:=fO s.kn s.rs s.tn;have nl:=jk s.rs;have wok:=m4 h.ok (by omega);have ok:∀w∈bv s.kn s.rs s.tn,cn w:=λw hw=>(wok w hw).1
 have h1:∀w∈bv s.kn s.rs s.tn,w.1=t:=λw hw=>by rw[(wok w hw).2.1,tn]
 have w20:(bv s.kn s.rs s.tn).length≤20:=by omega
 have F:=yY ok h1 w20 L;have O:=Ql ok h1 ht w20 L;have num:∀j,j<(aT s.rs).length->(aT s.rs).getD j 0<(dY ws (t+1)).length:=λj hj=>by
  have m:(aT s.rs).getD j 0∈aT s.rs:=by rw[ax 0 (Sz hj)];exact S2 _
  have:=(eS.mp m).1;omega
 have hσ:∀j,j<(bv s.kn s.rs s.tn).length->(dY ws (t+1)).getD ((aT s.rs).getD j 0) 0<ws.length/\(ws.getD ((dY ws (t+1)).getD ((aT s.rs).getD j 0) 0) bh).2.1=((bv s.kn s.rs s.tn).getD j bh).2.1:=λj hj=>by
  rw[wl] at hj;have n1:=num j hj;refine⟨(h.lt _ (by rw[ax 0 (Sz n1)];exact S2 _)).1,?_⟩;rw[kJ hj,←h.at_ _ n1,ax 0 (Sz hj)]
 have T:=E3 (d:=λi=>(ws.getD i bh).2.1) hσ O F ht λj hj=>by
  rw[ax bh (Sz hj)];exact(ok _ (S2 hj)).lt
 refine⟨_,T.congr (λi hi=>?_) λi hi=>?_⟩
 ·have pl:(s.dn.map (bI (dY ws (t+1)))).length=t:=by rw[SE,h.ok.dl,tn]
  rw[EG (by omega)];unfold aV wV;by_cases m:i∈dY ws (t+1)
  ·obtain⟨k,hk,ek⟩:=T0.mp m;have gk:(dY ws (t+1)).getD k 0=i:=by rw[ax 0 (Sz hk)];exact ek
   have e:=xX (kn:=s.kn) (t:=s.tn) (show(dY ws (t+1)).length=s.rs.length by omega) h.nd hk;have r:=h.rest hk;have f:=(ia.mp m).2;rw[gk] at e r;rw[tn] at r;rw[e,r];by_cases c:(ws.getD i bh).1<t
   ·rw[if_pos c,if_neg (by omega)];grind
   ·rw[if_neg c,if_pos (by omega)];grind
  ·have e:=AW (kn:=s.kn) (t:=s.tn) (show(dY ws (t+1)).length=s.rs.length by omega) m;have z:=h.none m;have nf:¬(ws.getD i bh).1<t+1:=λf=>m (ia.mpr ⟨hi,f⟩)
   rw[tn] at z;rw[e,z,if_neg (by omega),if_neg (by omega)];grind
 ·have pl:(s.dn.map (bI (dY ws (t+1)))).length=t:=by rw[SE,h.ok.dl,tn]
  have e:eQ (s.dn.map (bI (dY ws (t+1)))++[bI (dY ws (t+1)) (bI (aT s.rs) q0)]) i t=sQ (λc:Pc=>bX (decide (c.1=i)) (val c.2)) (bI (dY ws (t+1)) (bI (aT s.rs) q0)):=by
   unfold eQ;rw[SG,Uo (by omega),pl,Xi];rfl
  rw[e];unfold bI;rw[fc,fc];have b:=yj (f:=λc:Pc=>val c.2) (m:=(bv s.kn s.rs s.tn).length) (λj=>if(dY ws (t+1)).getD ((aT s.rs).getD j 0) 0=i then 1 else 0) (q:=q0) λc hc=>by rw[wl];exact G.lt c hc
  rw[aN (g:=λc:Pc=>(if(dY ws (t+1)).getD ((aT s.rs).getD c.1 0) 0=i then(1:Rat) else 0)*val c.2) λc _=>by
   show bX (decide ((dY ws (t+1)).getD ((aT s.rs).getD c.1 0) 0=i)) (val c.2)=_;by_cases z:(dY ws (t+1)).getD ((aT s.rs).getD c.1 0) 0=i
   ·rw[decide_eq_true z,c6,if_pos z];grind
   ·rw[decide_eq_false z,cm,if_neg z];grind,b]
  unfold push;refine aG λj _=>?_
  have e2:eQ (dZ (bv s.kn s.rs s.tn) (bn (bv s.kn s.rs s.tn) lys)).2 j t=sQ (λc:Pc=>bX (decide (c.1=j)) (val c.2)) q0:=by
   unfold eQ;rw[eq,tn]
  dsimp only;rw[e2];by_cases z:(dY ws (t+1)).getD ((aT s.rs).getD j 0) 0=i
  ·rw[if_pos z,if_pos z];grind
  ·rw[if_neg z,if_neg z];grind
theorem CK(o:d9 ws)(r:xC ws t s):t≤24->KI ws s (dY ws t)/\(∀u,u≤t->kC ws (s.dn.map (bI (dY ws t))) u)/\∀u,u<t->AK ws (s.dn.map (bI (dY ws t))) u:=by
 induction r with
 |zero=>
  intro _;exact⟨tO ws,λu hu=>by
   obtain rfl:u=0:=by omega
   exact yL o (tO ws) Z,λu hu=>absurd hu (U1 _)⟩
 | @next t s₁ q0 r G ih=>
  intro ht;obtain⟨ki,ka,ta⟩:=ih (by omega);have tn:=r.tn;have k2:=HZ o ki tn ws.length (SD _);have gr:=ki.grow (jp ws t ws.length);have c2:=ky ws (jp ws t ws.length) s₁;rw[←uW] at k2 gr;generalize vx ws s₁ (jp ws t ws.length)=s₂ at G k2 c2 ⊢;have k3:=k2.go G (by rw[c2.1,tn];omega);have T:=L5 k2 (by rw[c2.1,tn]) (by omega) G;have e:(Nq s₂ (bI (aT s₂.rs) q0)).dn.map (bI (dY ws (t+1)))=s₁.dn.map (bI (dY ws t))++[bI (dY ws (t+1)) (bI (aT s₂.rs) q0)]:=by
   show(s₂.dn++[_]).map _=_;rw[Ub,c2.2,gr];rfl
  rw[c2.2,gr] at T;have ln:(s₁.dn.map (bI (dY ws t))).length=t:=by rw[SE,ki.ok.dl,tn]
  have K:=yL o k3 (by show s₂.tn+1=t+1;rw[c2.1,tn]);rw[e] at K ⊢;refine⟨k3,λu hu=>?_,λu hu=>?_⟩
  ·by_cases c:u=t+1
   ·rw[c];exact K
   ·exact(ka u (by omega)).app (by omega)
  ·by_cases c:u=t
   ·rw[c];exact T
   ·exact(ta u (by omega)).app (by omega)
end
inductive jS(K:Sy)(C:Addr)(vs:List V)(H:Hp)(Q:VK):Prop where
 |mk (a lk lr ld:Addr) (s:fM) (h0_:vs=[.ref a]) (h1_:pY K C H a lk lr ld s) (h2_:Lm s) (h3_:s.tn<24) (h4_:(∀(q0:List Pc) (v:V) (H':Hp),G4 s q0->Ll a lk lr ld H H'->pY K C H' a lk lr ld (Nq s (bI (aT s.rs) q0))->qR K H' v (bI (aT s.rs) q0)->Q v H')):jS K C vs H Q
def rP(K:Sy)(C:Addr):Sp:=λvs H Q _=>jS K C vs H Q
theorem aR.steps{K:Sy}{t:Addr}{H H':Hp}{xs:List V}(h:H t=some (.lst xs))(k:∀b o,b≠t->H b=some o->H' b=some o)(h':∃ys,H' t=some (.lst ys)):aR K H H':=aR.step ⟨k,⟨xs,h⟩,h'⟩
theorem Bh(rs:List R)(q:List Pc)(c:Pc):eB rs (q++[c])=(eB rs q).set c.1 (bJ ((eB rs q).getD c.1 (0,1)) c.2):=by
 unfold eB;rw[U9];rfl
theorem A5{q:List Pc}{c:Pc}(nd:(q.map (·.1)).Nodup)(hc:q[i]?=some c):c.1∉(q.take i).map (·.1):=λm=>by
 obtain⟨hi,ei⟩:=SN.mp hc;obtain⟨z,hz,ez⟩:=SR.mp m;obtain⟨j,hj,ej⟩:=T0.mp hz;have hj':=hj;rw[Uk] at hj';rw[Yh] at ej;have e:(q.map (·.1))[j]'(by rw[SE];omega)=(q.map (·.1))[i]'(by rw[SE];exact hi):=by
  rw[Xs,Xs,ej,ei];exact ez
 have:=(V0 nd).mp e;omega
theorem IG(h:i.natAbs<2^n)(hn:n≤1900):Sh 0 1921 (.int i):=by
 refine⟨?_,Z,SD _,KC h hn⟩;show decide (i.natAbs.log2<1920)=true;refine decide_eq_true ?_;by_cases z:i.natAbs=0
 ·rw[z];decide
 ·exact Td ((Zg z).mpr h) (by omega)
theorem IF(h:i≤100):Sh 0 1921 (.int (i:Nat)):=IG (n:=7) (by show((i:Nat):Int).natAbs<128;omega) (by decide)
theorem Mn(h:Wf n r)(hn:n≤1900):Sh 1 3856 (dR r):=by
 refine Sh.tup (k:=0) (n:=1921) (m:=2) (λd hd=>?_) (SD _) (by decide);simp only[S6,UB,or_false] at hd;rcases hd with rfl|rfl
 ·exact IG h.top hn
 ·exact IG h.bot hn
theorem GO(h1:(s.tn:Int)≤i)(h2:i≤23):vw s (.int i) du=(eV du&&decide (s.kn.length<20)):=by
 unfold vw
 congr 1
 show((decide ((0:Int)≤(s.tn:Nat))&&decide (((s.tn:Nat):Int)<24))&&((decide (0≤i)&&decide (i<24))&&(decide (((s.tn:Nat):Int)≤i)&&eV du)))=eV du;rw[decide_eq_true (show(0:Int)≤(s.tn:Nat) by omega),decide_eq_true (show((s.tn:Nat):Int)<24 by omega),decide_eq_true (show 0≤i by omega),decide_eq_true (show i<24 by omega),decide_eq_true h1];rfl
theorem db.keep(h:db H t l)(h1:∀o,H t=some o->H' t=some o)(h2:∀o,H l=some o->H' l=some o):db H' t l:=by
 obtain⟨ns,p,e,f,c⟩:=h.ex;exact⟨ns,p,h1 _ e,h2 _ f,c⟩
theorem GW(h:gW r)(p:0<r.1):eV (dR r)=true:=by
 show((decide (1≤r.2)&&decide (S7 r.1 r.2=1))&&decide (0<r.1))=true;rw[decide_eq_true (show 1≤r.2 by have:=h.pos;omega),decide_eq_true h.cop,decide_eq_true p];rfl
theorem w6(h:aO (aO H dx o1) a o2 b=none)(ha:H a=none)(hd:H dx=none):H b=none:=by
 cases e:H b with
 |none=>rfl
 |some o=>
  exfalso;rw[aA (λz=>by rw[z,ha] at e;cases e),aA (λz=>by rw[z,hd] at e;cases e),e] at h
  cases h
theorem K4(h:dR r=dR q):r=q:=by
 have z:PyData.tuple [.int r.1,.int r.2]=PyData.tuple [.int q.1,.int q.2]:=h;injection z with z;injection z with z1 z;injection z with z2 _;injection z1 with z1;injection z2 with z2;exact Z5 z1 z2
theorem pY.keep{K:Sy}{C:Addr}{H H':Hp}{a lk lr ld:Addr}{s:fM}(h:pY K C H a lk lr ld s)(z:∀b∈[a,lk,lr,ld],∀o,H b=some o->H' b=some o)(t:aR K H H'):pY K C H' a lk lr ld s:=by
 obtain⟨dx,i⟩:=h.ins;obtain⟨x,k1,k2⟩:=h.hk;obtain⟨y,r1,r2⟩:=h.hr;obtain⟨u,d1,d2⟩:=h.hd;exact⟨⟨dx,z _ (by simp) _ i⟩,⟨x,z _ (by simp) _ k1,k2.mono λ_ _ q=>q.mono t⟩,⟨y,z _ (by simp) _ r1,r2.mono λ_ _ q=>q.mono t⟩,⟨u,z _ (by simp) _ d1,d2.mono λ_ _ q=>q.mono t⟩,h.n1,h.n2,h.n3⟩
theorem pY.cls{K:Sy}{C:Addr}{H:Hp}{a lk lr ld:Addr}{s:fM}(h:pY K C H a lk lr ld s):∀b∈[a,lk,lr,ld],∃o,H b=some o:=λb hb=>by
 obtain⟨dx,i⟩:=h.ins;obtain⟨x,k1,_⟩:=h.hk;obtain⟨y,r1,_⟩:=h.hr;obtain⟨u,d1,_⟩:=h.hd;simp only[S6,UB,or_false] at hb;rcases hb with rfl|rfl|rfl|rfl
 ·exact⟨_,i⟩
 ·exact⟨_,k1⟩
 ·exact⟨_,r1⟩
 ·exact⟨_,d1⟩
def qS(S:List Addr)(H H':Hp):Prop:=∀b o,b∉S->H b=some o->H' b=some o
theorem qS.trans(a:qS S H H1)(b:qS S H1 H2):qS S H H2:=λc o n e=>b c o n (a c o n e)
theorem qS.of(z:aP H H'):qS S H H':=λb o _ e=>z b o e
theorem Ll.stl{a lk lr ld:Addr}{H H':Hp}(h:Ll a lk lr ld H H'):qS [a,lk,lr,ld] H H':=λb o n e=>by
 simp only[S6,UB,or_false,not_or] at n;exact h b o n.1 n.2.1 n.2.2.1 n.2.2.2 e
theorem qS.tp(o:HO):qS [t] H (aO H t o):=λb o' n e=>by rw[aA (λz=>n (by rw[z];exact SJ.mpr Z))];exact e
theorem DP(h1:1≤a)(h3:1≤b):0<(d6 a b).1:=Go (by omega) (by omega)
theorem DX{H H1:Hp}{a dx lk lr ld:Addr}{o1 o2:HO}(ha:H a=none)(hd:H dx=none)(f1:∀b o,b≠a->aO (aO H dx o1) a o2 b=some o->H1 b=some o)(nk:aO (aO H dx o1) a o2 lk=none)(nr:aO (aO H dx o1) a o2 lr=none)(nd:aO (aO H dx o1) a o2 ld=none):aP H H1/\∀x∈[a,lk,lr,ld],H x=none:=by
 refine⟨λb o e=>?_,λx hx=>?_⟩
 ·have n1:b≠a:=λz=>by rw[z,ha] at e;cases e
  have n2:b≠dx:=λz=>by rw[z,hd] at e;cases e
  exact f1 b o n1 (by rw[aA n1,aA n2];exact e)
 ·simp only[S6,UB,or_false] at hx;rcases hx with rfl|rfl|rfl|rfl
  ·exact ha
  ·exact w6 nk ha hd
  ·exact w6 nr ha hd
  ·exact w6 nd ha hd
theorem fh(z:aP H H')(e:H' x=none):H x=none:=by
 cases q:H x with
 |none=>rfl
 |some o=>rw[z x o q] at e;cases e
structure FB(H0:Hp)(a lk lr ld ln lp:Addr):Prop where
 fa:∀x∈[a,lk,lr,ld],H0 x=none
 fn:H0 ln=none
 fp:H0 lp=none
 nn:ln∉[a,lk,lr,ld]
 np:lp∉[a,lk,lr,ld]
 nl:ln≠lp
structure Bk(K:Sy)(C:Addr)(H0:Hp)(a lk lr ld ln lp:Addr)(H:Hp)(s:fM)(ns:List Nat)(pl:List (List Pc)):Prop where
 sm:aP H0 H
 kp:pY K C H a lk lr ld s
 hn:H ln=some (.lst (bO ns))
 hp:∃ys,H lp=some (.lst ys)/\cH (qR K H) ys pl
section
variable {K:Sy}{C:Addr}{H0 H H':Hp}{a lk lr ld ln lp:Addr}{s s':fM}{ns:List Nat}{pl:List (List Pc)}
theorem Bk.same(h:Bk K C H0 a lk lr ld ln lp H s ns pl)(z:aP H H'):Bk K C H0 a lk lr ld ln lp H' s ns pl:=by
 obtain⟨ys,e,al⟩:=h.hp;exact⟨h.sm.trans z,h.kp.same z,z _ _ h.hn,⟨ys,z _ _ e,al.mono λ_ _ q=>q.mono (aR.same z)⟩⟩
theorem Bk.kst(h:Bk K C H0 a lk lr ld ln lp H s ns pl)(F:FB H0 a lk lr ld ln lp)(z:Ll a lk lr ld H H')(kp:pY K C H' a lk lr ld s'):Bk K C H0 a lk lr ld ln lp H' s' ns pl:=by
 obtain⟨ys,e,al⟩:=h.hp;have t:=h.kp.tst z;have zz:=Ll.stl z;exact⟨λb o q=>zz b o (λm=>by rw[F.fa b m] at q;cases q) (h.sm b o q),kp,zz _ _ F.nn h.hn,⟨ys,zz _ _ F.np e,al.mono λ_ _ q=>q.mono t⟩⟩
theorem Bk.num(h:Bk K C H0 a lk lr ld ln lp H s ns pl)(F:FB H0 a lk lr ld ln lp)(j:Nat):Bk K C H0 a lk lr ld ln lp (aO H ln (.lst (bO ns++[.int (j:Nat)]))) s (ns++[j]) pl:=by
 obtain⟨ys,e,al⟩:=h.hp;have t:=aR.up (K:=K) h.hn (bO ns++[.int (j:Nat)]);refine⟨λb o q=>by rw[aA (aU q F.fn)];exact h.sm b o q,h.kp.keep (λb hb o q=>by rw[aA (λz=>F.nn (by rw[←z];exact hb))];exact q) t,?_,⟨ys,by rw[aA F.nl.symm];exact e,al.mono λ_ _ q=>q.mono t⟩⟩;rw[ai];unfold bO;rw[Ub];rfl
theorem Bk.row(h:Bk K C H0 a lk lr ld ln lp H s ns pl)(F:FB H0 a lk lr ld ln lp)(e:H lp=some (.lst ys))(al:cH (qR K H) ys pl)(tv:qR K H v q):Bk K C H0 a lk lr ld ln lp (aO H lp (.lst (ys++[v]))) s ns (pl++[q]):=by
 have t:=aR.up (K:=K) e (ys++[v]);exact⟨λb o q=>by rw[aA (aU q F.fp)];exact h.sm b o q,h.kp.keep (λb hb o q=>by rw[aA (λz=>F.np (by rw[←z];exact hb))];exact q) t,by rw[aA F.nl];exact h.hn,⟨_,ai,(al.mono λ_ _ q=>q.mono t).snoc (tv.mono t)⟩⟩
end
inductive jP(K:Sy)(vs:List V)(H:Hp)(Q:VK):Prop where
 |mk (v:V) (ws:List Wk) (h0_:vs=[v]) (h1_:eW K H v ws) (h2_:d9 ws) (h3_:∀(v':V) (s:fM) (H':Hp),aP H H'->xC ws 24 s->KI ws s (dY ws 24)->vP K H' v' (s.dn.map (bI (dY ws 24)))->Q v' H'):jP K vs H Q
def rM(K:Sy):Sp:=λvs H Q _=>jP K vs H Q
def Px(w:Wk):Prop:=w.1≤w.2.1/\w.2.1<24/\Bq 84 12 w.2.2/\0<w.2.2.1
structure Wl(K:Sy)(H0:Hp)(t l lw:Addr)(H:Hp)(ws:List Wk):Prop where
 st:qS [t] H0 H
 tb:db H t l
 hw:∃zs,H lw=some (.lst zs)/\cH (zk K H) zs ws
 ne:lw≠t
 nl:lw≠l
 f0:H0 lw=none
 gd:∀w∈ws,Px w
section
variable {K:Sy}{H0 H H':Hp}{t l lw:Addr}{ws:List Wk}
theorem Wl.same(h:Wl K H0 t l lw H ws)(z:aP H H'):Wl K H0 t l lw H' ws:=by
 obtain⟨zs,e,al⟩:=h.hw;exact⟨h.st.trans (qS.of z),h.tb.same z,⟨zs,z _ _ e,al.mono λ_ _ q=>q.mono (aR.same z)⟩,h.ne,h.nl,h.f0,h.gd⟩
theorem Wl.tape(h:Wl K H0 t l lw H ws)(tb:db (aO H t (.lst xs)) t l):Wl K H0 t l lw (aO H t (.lst xs)) ws:=by
 obtain⟨zs,e,al⟩:=h.hw;obtain⟨ys,et⟩:=h.tb.lst;exact⟨h.st.trans (qS.tp _),tb,⟨zs,by rw[aA h.ne];exact e,al.mono λ_ _ q=>q.mono (aR.up et xs)⟩,h.ne,h.nl,h.f0,h.gd⟩
theorem Wl.push(h:Wl K H0 t l lw H ws)(e:H lw=some (.lst zs))(al:cH (zk K H) zs ws)(wv:zk K H v w)(gd:Px w):Wl K H0 t l lw (aO H lw (.lst (zs++[v]))) (ws++[w]):=by
 have t':=aR.up (K:=K) e (zs++[v]);refine⟨λb o n q=>by rw[aA (aU q h.f0)];exact h.st b o n q,h.tb.keep (λo q=>by rw[aA h.ne.symm];exact q) (λo q=>by rw[aA h.nl.symm];exact q),⟨_,ai,(al.mono λ_ _ q=>q.mono t').snoc (wv.mono t')⟩,h.ne,h.nl,h.f0,λx hx=>?_⟩;rcases Ti.mp hx with z|z
 ·exact h.gd x z
 ·rw[SJ.mp z];exact gd
end
def Pn(K:Sy)(H:Hp)(v:V)(x y:Int):Prop:=∃p,v=.ref p/\bV K H p [.int x,.int y]
theorem DV(ws:List Wk):(PyData.list (ws.map ES)).canLay0=true:=qw λd hd=>by
 obtain⟨c,_,rfl⟩:=SR.mp hd;rfl
theorem Ep(ws:List Wk):(PyData.list (ws.map ES)).depth≤32:=by
 show XJ (ws.map ES)+1≤32;have:=mN (k:=2) (ds:=ws.map ES) λd hd=>by
  obtain⟨x,hx,rfl⟩:=SR.mp hd;exact SD 2
 omega
inductive jH(K:Sy)(vs:List V)(H:Hp)(Q:VK):Prop where
 |mk (t l:Addr) (mo tu:Int) (h0_:vs=[.ref t,.int mo,.int tu]) (h1_:db H t l) (h2_:0≤mo) (h3_:mo≤20) (h4_:1≤tu) (h5_:tu≤24) (h6_:∀(v:V) (ws:List Wk) (H':Hp),qS [t] H H'->db H' t l->eW K H' v ws->(ws.length:Int)≤mo->(∀w∈ws,Px w)->Q v H'):jH K vs H Q
def rq(K:Sy):Sp:=λvs H Q _=>jH K vs H Q
abbrev DZ:Nat:=84*5354228880^24*410555180440430163438262940577600
theorem wZ(h:Bq DZ 100000 r):Wf 920 r:=h.wf (by decide) (by decide) (by decide)
abbrev NB:Nat:=1000000000000
abbrev DQ:Nat:=DZ^4
theorem w4(h:Bq DQ 100000000000000000000 r):Wf 3640 r:=h.wf (by decide) (by decide) (by decide)
theorem kA{D N:Nat}{r:R}(h:Bq D N r):∀m,Bq (D^m) (N^m) (dk r m)
 |0=>⟨by show(0:Int)<1;decide,by show S7 1 1=1;decide,⟨1,by show((D^0:Nat):Int)=1*1;rw[Nat.pow_zero];rfl⟩,by show(1:Int).natAbs≤N^0*(1:Int).natAbs;rw[Nat.pow_zero];decide⟩
 |m+1=>by
  rw[aan,aan];exact(kA h m).times h
theorem yy{x:Int}(h:x.natAbs<2^n)(hn:n≤1000)(hi:i≤4):(x^i).natAbs<2^8990:=by
 rw[Int.natAbs_pow];refine TX (Nat.pow_le_pow_left (VN h) i) ?_;rw[←Nat.pow_mul];refine Nat.pow_lt_pow_right (by decide) ?_;have:=Zj hn hi;omega
theorem G9(h0:0≤n)(h1:n≤100):-(2^62)≤n/\n<2^62:=by constructor<;>omega
def r0:R:=(0,1)
inductive pj(K:Sy)(vs:List V)(H:Hp)(Q:VK):Prop where
 |mk (v:V) (r:R) (k:Int) (n:Nat) (h0_:vs=[v,.int k]) (h1_:RV K H v r) (h2_:Wf n r) (h3_:n≤1000) (h4_:0≤k) (h5_:k≤4) (h6_:L4 K H Q (dk r k.toNat)):pj K vs H Q
def zL(K:Sy):Sp:=λvs H Q _=>pj K vs H Q
theorem Gv{X:Cx}{K:Sy}(hK:X.K=K):zn X (OL K):=hK▸KN
theorem Fm{K:Sy}{H:Hp}{Q:VK}{a:Addr}{xs:List V}{i:Int}{x:V}(h:Lf K H a xs)(e:ug xs i=some x)(q:Q x H):OL K (.ref a) (.int i) H Q:=by
 rcases h with h|h
 ·exact .inl ⟨a,xs,i,x,Z,Z,h,e,q⟩
 ·exact .inr (.inl ⟨a,xs,i,x,Z,Z,h,e,q⟩)
theorem Lf.tst{K:Sy}{H H':Hp}{a:Addr}{xs:List V}(s:aP H H')(h:Lf K H a xs):Lf K H' a xs:=h.imp (λz=>s.seq z) (λz=>aR.same s _ _ z)
structure ig(ws:List Wk)(pl:List (List Pc)):Prop where
 len:pl.length=24
 few:∀q∈pl,q.length≤20
 row:∀q∈pl,∀c∈q,c.1<ws.length/\Bq DZ 256 c.2/\0<val c.2
 win:∀i,i<ws.length->∀u,u<24->eQ pl i u≠0->(ws.getD i bh).1≤u/\u≤(ws.getD i bh).2.1
 fin:∀i,i<ws.length->sr (eQ pl i) 24=fY (ws.getD i bh)
def mW(pl:List (List Pc))(u:Nat):Rat:=sQ (λc:Pc=>val c.2) (pl.getD u [])
section
variable {ws:List Wk}{pl kp:List (List Pc)}{t:Nat}
theorem ig.mem(h:ig ws pl)(hu:u<24):pl.getD u []∈pl:=by
 rw[ax [] (Sz (show u<pl.length by rw[h.len];exact hu))];exact S2 _
theorem ig.nn(h:ig ws pl)(hu:u<24):0≤eQ pl i u:=mF λc hc=>eI _ (Up (h.row _ (h.mem hu) c hc).2.2)
theorem ig.sum(h:ig ws pl)(hu:u<24):sr (λi=>eQ pl i u) ws.length=mW pl u:=by
 have b:=yj (f:=λc:Pc=>val c.2) (m:=ws.length) (λ_=>1) (q:=pl.getD u []) λc hc=>(h.row _ (h.mem hu) c hc).1
 unfold mW;rw[aN (g:=λc:Pc=>(1:Rat)*val c.2) λc _=>by grind,b];refine aG λj _=>?_
 show eQ pl j u=1*eQ pl j u;grind
theorem ig.wz(h:ig ws pl)(hi:i<ws.length)(hu:u<24)(z:¬((ws.getD i bh).1≤u/\u≤(ws.getD i bh).2.1)):eQ pl i u=0:=by
 apply SS;intro n;exact z (h.win i hi u hu n)
theorem ig.early(h:ig ws pl)(hi:i<ws.length)(ht:t≤24)(f:¬(ws.getD i bh).1<t):sr (eQ pl i) t=0:=by
 rw[aG (g:=λ_=>0) λu hu=>h.wz hi (by omega) (by omega),cC]
theorem ig.late(h:ig ws pl)(hi:i<ws.length)(ht:t≤24)(l:(ws.getD i bh).2.1<t):sr (eQ pl i) t=fY (ws.getD i bh):=by
 rw[←h.fin i hi];exact(rj ht λv a b=>h.wz hi b (by omega)).symm
theorem ig.part(h:ig ws pl)(hi:i<ws.length)(ht:t≤24):sr (eQ pl i) t≤fY (ws.getD i bh):=by
 rw[←h.fin i hi];have go:∀m,t≤m->m≤24->sr (eQ pl i) t≤sr (eQ pl i) m:=λm=>by
  induction m with
  |zero=>intro a _;rw[show t=0 by omega];exact Ts
  |succ m ih=>
   intro a b;by_cases c:t=m+1
   ·rw[c];exact Ts
   ·have:=ih (by omega) (by omega);have n:=h.nn (i:=i) (u:=m) (by omega);show _≤sr _ m+eQ pl i m;grind
 exact go 24 ht (SD _)
theorem Lc(o:d9 ws)(hi:i<ws.length):0≤fY (ws.getD i bh):=by
 have w:=o.at hi;exact(jX w.2.2.1.pos).mpr (by omega)
theorem ig.aV_nn(h:ig ws pl)(hi:i<ws.length)(ht:t≤24):0≤aV ws pl t i/\aV ws pl t i≤fY (ws.getD i bh):=by
 unfold aV;have n:=uB (f:=eQ pl i) (n:=t) λu hu=>h.nn (by omega)
 have p:=h.part hi ht;by_cases c:(ws.getD i bh).1<t
 ·rw[if_pos c];exact⟨by grind,by grind⟩
 ·rw[if_neg c,h.early hi ht c];exact⟨by grind,by grind⟩
theorem ig.aV_late(h:ig ws pl)(o:d9 ws)(hi:i<ws.length)(ht:t≤24)(l:(ws.getD i bh).2.1<t):aV ws pl t i=0:=by
 have w:=o.at hi;unfold aV;rw[if_pos (by omega),h.late hi ht l];grind
theorem zi(i:Nat):aV ws pl 0 i=0:=by
 unfold aV;rw[if_neg (U1 _)];show(0:Rat)-0=0;grind
theorem uc(i:Nat):aV ws pl (t+1) i=aV ws pl t i+wV ws t i-eQ pl i t:=by
 unfold aV wV;show _-(sr (eQ pl i) t+eQ pl i t)=_;by_cases c:(ws.getD i bh).1<t
 ·rw[if_pos (by omega),if_pos c,if_neg (by omega)];grind
 ·rw[if_neg c];by_cases c2:(ws.getD i bh).1=t
  ·rw[if_pos (by omega),if_pos c2];grind
  ·rw[if_neg (by omega),if_neg c2];grind
end
section
variable {n t k:Nat}{d:Nat->Nat}{a a' b b' w:Nat->Rat}{s s':Nat->Rat}
theorem Ek(h:∀i,i<n->d i<t->a i=0):f7 n (λi=>max (d i) t) a=f7 n d a:=by
 funext u
 refine aG λi hi=>?_
 by_cases c:d i<t
 ·rw[h i hi c]
  split<;>split<;>rfl
 ·have e:max (d i) t=d i:=by omega
  show(if max (d i) t≤u then a i else 0)=_;simp only[e]
theorem yA(h:∀i,i<n->d i<t->a i=0/\b i=0):nh k n (λi=>max (d i) t) s a b=nh k n d s a b:=by
 unfold nh
 congr 1
 refine aG λi hi=>?_
 by_cases c:d i<t
 ·obtain⟨x,y⟩:=h i hi c;rw[x,y];grind
 ·dsimp only;rw[show max (d i) t=d i by omega]
theorem JL(h:∀i,i<n->s (d i)=s' (d i)∨(a i=0/\b i=0)):nh k n d s a b=nh k n d s' a b:=by
 unfold nh
 congr 1
 refine aG λi hi=>?_
 rcases h i hi with z | ⟨x,y⟩
 ·rw[z]
 ·rw[x,y];grind
theorem Aa(h1:∀i,i<n->a i=a' i)(h2:∀i,i<n->b i=b' i):nh k n d s a b=nh k n d s a' b':=by
 unfold nh
 congr 1
 exact aG λi hi=>by rw[h1 i hi,h2 i hi]
theorem uV(h:∀i,i<n->a i=0/\b i=0):nh k n d s a b=0:=by
 unfold nh;rw[aG (g:=λ_=>0) λi hi=>?_,cC]
 ·grind
 ·rw[(h i hi).1,(h i hi).2];grind
theorem AH(hk:k=2∨k=3∨k=4)(O:Oa t (f7 n d a) s)(T:Tf n t d (λi=>a i+w i) p s')(w0:∀i,i<n->0≤w i)(b0:∀i,i<n->0≤b i)(z:∀i,i<n->d i<t->a i=0/\w i=0/\b i=0/\p i=0/\q i=0)(q0:∀i,i<n->0≤q i)(hd:∀i,i<n->d i<24)(ht:t<24):s' t^k+(nh k n d s' (λi=>a i+w i-p i) (λi=>b i+w i-q i)-nh k n d s a b)≤(k:Rat)^k*(sr q n)^k:=by
 have hm:∀i,i<n->(λi=>max (d i) t) i<24/\t≤(λi=>max (d i) t) i:=λi hi=>by
  have:=hd i hi;dsimp only;omega
 have O1:Oa t (f7 n (λi=>max (d i) t) a) s:=by rw[Ek λi hi c=>(z i hi c).1];exact O
 have O2:Oa t (f7 n (λi=>max (d i) t) λi=>a i+w i) s':=by
  rw[Ek λi hi c=>by rw[(z i hi c).1,(z i hi c).2.1];grind];exact T.oa
 have dif:∀u,f7 n (λi=>max (d i) t) (λi=>a i+w i) u=f7 n (λi=>max (d i) t) a u+f7 n (λi=>max (d i) t) w u:=λu=>by
  unfold f7;rw[←gv];refine aG λi _=>?_
  split
  ·rfl
  ·grind
 have up:=λu=>O1.up O2 (λu v uv _=>by
  rw[dif,dif];have:f7 n (λi=>max (d i) t) w u≤f7 n (λi=>max (d i) t) w v:=iJ λi hi=>by
   have:=w0 i hi
   split
   ·rw[if_pos (by omega)];exact Ts
   ·split
    ·exact this
    ·exact Ts
  grind) (λu _=>by
  rw[dif];have:0≤f7 n (λi=>max (d i) t) w u:=uB λi hi=>by
   split
   ·exact w0 i hi
   ·exact Ts
  grind) u
 have A:=La (b:=b) hk O1 O2 up b0 hm;have P:=zt (b:=λi=>b i+w i) (a':=λi=>a i+w i-p i) (b':=λi=>b i+w i-q i) (o:=sr q n) hk O2 (λi hi=>by
  by_cases c:p i=0
  ·rw[c];grind
  ·have e:=T.own i hi c;have dt:¬d i<t:=λl=>c (z i hi l).2.2.2.1
   rw[show max (d i) t=d i by omega,e]) (by
  rw[←T.sum];exact aG λi _=>by grind) (aG λi _=>by grind) (λi hi=>by have:=q0 i hi;grind) (uB q0) λi hi=>(hm i hi).2
 rw[yA (a:=λi=>a i+w i-p i) (b:=λi=>b i+w i-q i) λi hi c=>by
  obtain⟨z1,z2,z3,z4,z5⟩:=z i hi c;rw[z1,z2,z3,z4,z5];exact⟨by grind,by grind⟩] at P
 rw[yA (a:=a) (b:=b) λi hi c=>⟨(z i hi c).1,(z i hi c).2.2.1⟩] at A;grind
end
structure G3(ws:List Wk)(kp:List (List Pc)):Prop where
 ok:ig ws kp
 at_:∀u,u≤24->kC ws kp u
 tf:∀u,u<24->AK ws kp u
section
variable {ws:List Wk}{pl kp:List (List Pc)}{k:Nat}
def GY(ws:List Wk)(kp:List (List Pc))(t:Nat)(s:Nat->Rat):Prop:=t<24->Oa t (f7 ws.length (λi=>(ws.getD i bh).2.1) (aV ws kp t)) s
def jF(k:Nat)(ws:List Wk)(kp pl:List (List Pc))(S:Nat->Nat->Rat)(t:Nat):Rat:=nh k ws.length (λi=>(ws.getD i bh).2.1) (S t) (aV ws kp t) (aV ws pl t)
theorem qO(hk:k=2∨k=3∨k=4)(o:d9 ws)(K:G3 ws kp)(P:ig ws pl)(hS:∀t,GY ws kp t (S t))(ht:t<24):mW kp t^k+(jF k ws kp pl S (t+1)-jF k ws kp pl S t)≤(k:Rat)^k*mW pl t^k:=by
 obtain⟨s',T⟩:=K.tf t ht;have O:=hS t ht;have b:=AH (b:=aV ws pl t) (q:=λi=>eQ pl i t) hk O T (λi hi=>by
  unfold wV
  split
  ·exact Lc o hi
  ·exact Ts) (λi hi=>(P.aV_nn hi (by omega)).1) (λi hi l=>⟨K.ok.aV_late o hi (by omega) l,by
   have:=(o.at hi).1;unfold wV;rw[if_neg (by omega)],P.aV_late o hi (by omega) l,K.ok.wz hi ht (by omega),P.wz hi ht (by omega)⟩) (λi hi=>P.nn ht) (λi hi=>(o.at hi).2.1) ht
 rw[P.sum ht] at b;have e1:s' t=mW kp t:=by rw[←T.sum,K.ok.sum ht]
 rw[e1] at b;have e2:nh k ws.length (λi=>(ws.getD i bh).2.1) s' (λi=>aV ws kp t i+wV ws t i-eQ kp i t) (λi=>aV ws pl t i+wV ws t i-eQ pl i t)=jF k ws kp pl S (t+1):=by
  unfold jF;rw[Aa (a':=aV ws kp (t+1)) (b':=aV ws pl (t+1)) (λi _=>(uc i).symm) λi _=>(uc i).symm];refine JL λi hi=>?_
  by_cases l:(ws.getD i bh).2.1<t+1
  ·exact .inr ⟨K.ok.aV_late o hi (by omega) l,P.aV_late o hi (by omega) l⟩
  ·have d24:=(o.at hi).2.1;have nx:=T.nx;have e:(λi=>aV ws kp t i+wV ws t i-eQ kp i t)=aV ws kp (t+1):=funext λi=>(uc i).symm
   rw[e] at nx;have u:=(hS (t+1) (by omega)).uniq nx (by omega);refine .inl ?_;rw[u];dsimp only;rw[if_neg (by omega)]
 rw[e2] at b;exact b
theorem pf(S:Nat->Nat->Rat):jF k ws kp pl S 0=0:=uV λi _=>⟨zi i,zi i⟩
theorem vD(o:d9 ws)(K:G3 ws kp)(P:ig ws pl)(S:Nat->Nat->Rat):jF k ws kp pl S 24=0:=uV λi hi=>⟨K.ok.aV_late o hi (SD _) (o.at hi).2.1,P.aV_late o hi (SD _) (o.at hi).2.1⟩
theorem xi(hk:k=2∨k=3∨k=4)(o:d9 ws)(K:G3 ws kp)(P:ig ws pl){S:Nat->Nat->Rat}(hS:∀t,GY ws kp t (S t)):sr (λt=>mW kp t^k) 24≤(k:Rat)^k*sr (λt=>mW pl t^k) 24:=by
 have tel:∀m,sr (λt=>jF k ws kp pl S (t+1)-jF k ws kp pl S t) m=jF k ws kp pl S m-jF k ws kp pl S 0:=λm=>by
  induction m with
  |zero=>show(0:Rat)=_;grind
  |succ m ih=>show sr _ m+_=_;rw[ih];grind
 have h:=iJ (n:=24) λt ht=>qO hk o K P hS ht
 rw[gv,gZ,tel 24,pf,vD o K P] at h;grind
theorem Ah(o:d9 ws)(K:G3 ws kp)(ht:t<24)(h:iu (bv ws (bx ws kp t) t) (SC 24) lys)(wok:∀w∈bv ws (bx ws kp t) t,cn w):Oa t (f7 ws.length (λi=>(ws.getD i bh).2.1) (aV ws kp t)) (m8 (bv ws (bx ws kp t) t) lys):=by
 have wl:=fO ws (bx ws kp t) t;have nl:=jk (bx ws kp t);have ll:=k8 ws kp t;have few:=o.few;have h1:∀w∈bv ws (bx ws kp t) t,w.1=t:=λw hw=>by
  obtain⟨i,_,rfl⟩:=SR.mp hw;rfl
 have O:=Ql wok h1 ht (by omega) h;have rg:∀k,k<ws.length->(SC ws.length).getD k 0=k:=λk hk=>by
  rw[ax 0 (VY hk)]
 have num:∀j,j<(aT (bx ws kp t)).length->(aT (bx ws kp t)).getD j 0<ws.length:=λj hj=>by
  have m:(aT (bx ws kp t)).getD j 0∈aT (bx ws kp t):=by rw[ax 0 (Sz hj)];exact S2 _
  have:=(eS.mp m).1;omega
 have hσ:∀j,j<(bv ws (bx ws kp t) t).length->(SC ws.length).getD ((aT (bx ws kp t)).getD j 0) 0<ws.length/\(ws.getD ((SC ws.length).getD ((aT (bx ws kp t)).getD j 0) 0) bh).2.1=((bv ws (bx ws kp t) t).getD j bh).2.1:=λj hj=>by
  rw[wl] at hj;rw[rg _ (num j hj),kJ hj];exact⟨num j hj,by rw[ax 0 (Sz hj)]⟩
 rw[←sI (n:=ws.length) (σ:=λj=>(SC ws.length).getD ((aT (bx ws kp t)).getD j 0) 0) (d:=λi=>(ws.getD i bh).2.1) (d':=λj=>((bv ws (bx ws kp t) t).getD j bh).2.1) (x:=λj=>fY ((bv ws (bx ws kp t) t).getD j bh)) hσ] at O;have e:∀i,i<ws.length->push (bv ws (bx ws kp t) t).length (λj=>(SC ws.length).getD ((aT (bx ws kp t)).getD j 0) 0) (λj=>fY ((bv ws (bx ws kp t) t).getD j bh)) i=aV ws kp t i:=λi hi=>by
  have q:=xX (kn:=ws) (t:=t) (ns:=SC ws.length) (rs:=bx ws kp t) (by rw[TJ,ll]) Wz (k:=i) (by rw[TJ];exact hi);rw[rg i hi] at q;rw[q];refine(nw (D:=DZ) (by decide) (by rw[K.ok.len];omega) (λw hw=>?_) λr hr c hc=>?_).2 i hi
  ·exact ir ((o.wk w hw).2.2.1.mono (D':=DZ) (by decide) (SD _))
  ·exact ir (K.ok.row r hr c hc).2.1
 have ed:f7 ws.length (λi=>(ws.getD i bh).2.1) (push (bv ws (bx ws kp t) t).length (λj=>(SC ws.length).getD ((aT (bx ws kp t)).getD j 0) 0) λj=>fY ((bv ws (bx ws kp t) t).getD j bh))=f7 ws.length (λi=>(ws.getD i bh).2.1) (aV ws kp t):=by
  funext u
  exact aG λi hi=>by dsimp only;rw[e i hi]
 rw[ed] at O;exact O
theorem tG(o:d9 ws)(K:G3 ws kp)(ht:t≤24):∀w∈bv ws (bx ws kp t) t,cn w:=λw hw=>by
 obtain⟨i,hi,rfl⟩:=SR.mp hw;obtain⟨h1,h2⟩:=eS.mp hi;rw[k8] at h1;have a:=K.at_ t ht i h1;have b:=a.1.pos;have le:=a.1.le;have wo:=o.at h1;have due:t≤(ws.getD i bh).2.1:=by
  apply SS;intro z;have v:=K.ok.aV_late o h1 (t:=t) (by omega) (by omega);have q:=(nw (D:=DZ) (by decide) (ws:=ws) (pl:=kp) (t:=t) (by rw[K.ok.len];omega) (λw hw=>ir ((o.wk w hw).2.2.1.mono (D':=DZ) (by decide) (SD _))) λr hr c hc=>ir (K.ok.row r hr c hc).2.1).2 i h1;rw[v] at q;exact h2 (fG a.1.red ⟨by decide,by decide⟩ (by rw[q,(c8 (r:=(0,1)) (by decide)).mpr Z]))
 refine⟨due,wo.2.1,ym a.1.red a.2 h2,?_,by show 1≤((bx ws kp t).getD i (0,1)).2;omega,VS a.1.dvd (UC.mpr (ue (by omega))),(a.1.mono (ue (by omega)) (SD _)).wf (by decide) (by decide) (by decide)⟩;show((bx ws kp t).getD i (0,1)).1≤12*((bx ws kp t).getD i (0,1)).2;have:=a.2;omega
end
theorem Mw{f:α->Rat}{l:List α}(h:sQ f l≠0):∃x∈l,f x≠0:=by
 apply SS;intro no;refine h ?_;rw[aN (g:=λ_=>(0:Rat)*0) λx hx=>?_,di]
 ·grind
 ·have:f x=0:=by
   apply SS;intro z;exact no ⟨x,hx,z⟩
  rw[this];grind
theorem yr(h:eQ pl i u≠0):∃c∈pl.getD u [],c.1=i:=by
 obtain⟨c,hc,z⟩:=Mw h;refine⟨c,hc,?_⟩;apply SS;intro n;rw[decide_eq_false n,cm] at z;exact z Z
theorem MR(h:xD ws pl):ig ws pl:=by
 have row:∀q∈pl,∃u,u<24/\pl.getD u []=q:=λq hq=>by
  obtain⟨u,hu⟩:=Ui hq;exact⟨u,by have:=(SN.mp hu).1;rw[h.len] at this;exact this,ax [] hu⟩
 refine⟨h.len,λq hq=>?_,λq hq c hc=>?_,λi hi u hu z=>?_,λi hi=>?_⟩
 ·obtain⟨u,_,e⟩:=row q hq;rw[←e];exact h.few u
 ·obtain⟨u,hu,e⟩:=row q hq;have m:=h.mem hu (c:=c) (by rw[e];exact hc);exact⟨m.1,m.2.1.bq.mono (by decide) (SD _),m.2.2.1⟩
 ·obtain⟨c,hc,rfl⟩:=yr z;exact D6.mp (h.mem hu hc).2.2.2
 ·have e:=(h.sum i 24 (SD _)).2;rw[h.fin i hi,jA] at e;exact e.symm
theorem yK(o:d9 ws)(r:xC ws 24 s):G3 ws (s.dn.map (bI (dY ws 24))):=by
 obtain⟨ki,ka,ta⟩:=CK o r (SD _);have tn:=r.tn;have kl:=ki.len;have dl:=ki.ok.dl;have num:∀{u:Nat} {q:List Pc} {c:Pc},s.dn[u]?=some q->c∈q->(dY ws 24).getD c.1 0<ws.length/\(ws.getD ((dY ws 24).getD c.1 0) bh).1≤u/\u≤(ws.getD ((dY ws 24).getD c.1 0) bh).2.1/\fw c.2/\0<val c.2:=λ{u q c} hu hc=>by
  obtain⟨p1,p2,p3,p4⟩:=(ki.dn u q hu).2 c hc;have hn:c.1<(dY ws 24).length:=by omega
  have m:=(ki.lt ((dY ws 24).getD c.1 0) (by rw[ax 0 (Sz hn)];exact S2 hn)).1;rw[ki.at_ c.1 hn] at p2 p3;exact⟨m,p2,p3,p4⟩
 refine⟨⟨by rw[SE,dl,tn],λq hq=>?_,λq hq c hc=>?_,λi hi u hu z=>?_,λi hi=>?_⟩,ka,ta⟩
 ·obtain⟨q0,h0,rfl⟩:=SR.mp hq;unfold bI;rw[SE];exact(ki.ok.pcs q0 h0).1
 ·obtain⟨q0,h0,rfl⟩:=SR.mp hq;obtain⟨u,hu⟩:=Ui h0;obtain⟨c0,hc0,rfl⟩:=SR.mp hc;obtain⟨m,_,_,am,p⟩:=num hu hc0;exact⟨m,am.bq.mono (by decide) (SD _),p⟩
 ·obtain⟨c,hc,rfl⟩:=yr z;have hl:u<s.dn.length:=by omega
  rw[ax [] (show(s.dn.map (bI (dY ws 24)))[u]?=some (bI (dY ws 24) s.dn[u]) by rw[SU,Sz hl];rfl)] at hc;obtain⟨c0,hc0,rfl⟩:=SR.mp hc;obtain⟨_,a,b,_⟩:=num (Sz hl) hc0;exact⟨a,b⟩
 ·have m:i∈dY ws 24:=ia.mpr ⟨hi,by have:=o.at hi;omega⟩;obtain⟨k,hk,ek⟩:=T0.mp m;have gk:(dY ws 24).getD k 0=i:=by rw[ax 0 (Sz hk)];exact ek
  have r:=ki.rest hk;have z:s.rs.getD k (0,1)=(0,1):=by
   apply SS;intro nz;have d:=ki.ok.due k (by omega) nz;have w:=o.at hi;rw[ki.at_ k hk,gk] at d;omega
  rw[z,(c8 (r:=(0,1)) (by decide)).mpr Z,gk,tn] at r;grind
theorem o7{X:Cx}{K:Sy}(hK:X.K=K):eM X (.type "tuple") (λxs H Q=>∃p ys,xs=[.ref p]/\((bu K H p ys/\∀l,H l=none->Q (.ref l) (aO H l (.tup ys)))∨(bV K H p ys/\Q (.ref p) H))):=by subst hK;exact bG
theorem yS{pl:List (List Pc)}(few:∀q∈pl,q.length≤20):pl.flatten.length≤20*pl.length:=by
 induction pl with
 |nil=>exact SD _
 |cons q l ih=>
  rw[aao,SZ,Tv];have:=few q SO;have:=ih λx hx=>few x (SQ _ hx)
  omega
theorem cH.app{α:Type}{P:V->α->Prop}:∀{ys:List V} {ds:List α} {zs:List V} {es:List α},cH P ys ds->cH P zs es->cH P (ys++zs) (ds++es)
 |_,_,_,_,.nil,h=>h
 |_,_,_,_,.cons a t,h=>.cons a (cH.app t h)
theorem cH.tk{α:Type}{P:V->α->Prop}:∀(n:Nat) {ys:List V} {ds:List α},cH P ys ds->cH P (ys.take n) (ds.take n)
 |0,_,_,_=>.nil
 |_+1,_,_,.nil=>.nil
 |n+1,_,_,.cons a t=>.cons a (cH.tk n t)
inductive fB(K:Sy)(vs:List V)(H:Hp)(Q:VK):Prop where
 |mk (p:Addr) (xs:List V) (pl:List (List Pc)) (h0_:vs=[.ref p]) (h1_:bV K H p xs) (h2_:cH (qR K H) xs pl) (h3_:pl.length≤24) (h4_:(∀q∈pl,q.length≤20)) (h5_:∀(l:Addr) (ys:List V) (H':Hp),aP H H'->H l=none->H' l=some (.lst ys)->cH (vQ K H') ys pl.flatten->Q (.ref l) H'):fB K vs H Q
def kd(K:Sy):Sp:=λvs H Q _=>fB K vs H Q
inductive i5(K:Sy)(vs:List V)(H:Hp)(Q:VK):Prop where
 |mk (v u:V) (ws:List Wk) (pl:List (List Pc)) (t:Nat) (h0_:vs=[v,u,.int (t:Nat)]) (h1_:eW K H v ws) (h2_:d9 ws) (h3_:vP K H u pl) (h4_:ig ws pl) (h5_:t≤24) (h6_:∀(l:Addr) (ys:List V) (H':Hp),aP H H'->H' l=some (.lst ys)->cH (RV K H') ys (bx ws pl t)->Q (.ref l) H'):i5 K vs H Q
def pO(K:Sy):Sp:=λvs H Q _=>i5 K vs H Q
theorem Bi{D N M:Nat}(hD:0<D):∀{q:List Pc} {rs:List R} {n:Nat},(∀c∈q,Bq D M c.2)->(∀r∈rs,Bq D n r)->n+M*q.length≤N->∀r∈eB rs q,Bq D N r
 | [],rs,n,_,h,hn=>λr hr=>(h r hr).mono (SV _) (by simpa using hn)
 |c::q,rs,n,hq,h,hn=>by
  refine Bi (q:=q) (rs:=rs.set c.1 (bJ (rs.getD c.1 (0,1)) c.2)) (n:=n+M) hD (λx hx=>hq x (SQ _ hx)) (λr hr=>?_) (by rw[Tv,Xg] at hn;omega);rcases Us hr with z|z
  ·exact(h r z).mono (SV _) (by omega)
  ·rw[z];refine Bq.minus hD ?_ (hq c SO);rw[SG]
   cases e:rs[c.1]? with
   |none=>exact⟨by decide,by decide,⟨(D:Int),by show(D:Int)=1*D;omega⟩,by show 0≤_;exact S8 _⟩
   |some r=>exact h r (SF e)
theorem zI(rs:List R)(q:List Pc)(c:Pc):eB rs (q++[c])=(eB rs q).set c.1 (bJ ((eB rs q).getD c.1 (0,1)) c.2):=by
 unfold eB;rw[U9];rfl
def NC(ws:List Wk)(t:Nat):List R:=ws.map λw=>if w.1<t then w.2.2 else(0,1)
theorem Gs(o:d9 ws)(P:ig ws pl)(q:List Pc)(hq:∀c∈q,Bq DZ 256 c.2)(ql:q.length≤480):∀r∈eB (NC ws t) q,Bq DZ 150000 r:=by
 refine Bi (n:=12) (M:=256) (by decide) hq (λr hr=>?_) (by omega);obtain⟨w,hw,rfl⟩:=SR.mp hr;by_cases c:w.1<t
 ·rw[if_pos c];exact(o.wk w hw).2.2.1.mono (by decide) (SD _)
 ·rw[if_neg c];exact⟨by decide,by decide,by decide,by decide⟩
theorem QY(h:Bq DZ 150000 r):Wf 920 r:=h.wf (by decide) (by decide) (by decide)
theorem oB(h:gW s)(n:Nat):gW (dk s n):=by cases n with|zero=>exact⟨by show(0:Int)<1;decide,by show S7 1 1=1;decide⟩|succ n=>exact zx (oB h n) h
theorem nI(k:Int):val (k,1)=(k:Rat):=by unfold val;show(k:Rat)/((1:Int):Rat)=k;rw[show((1:Int):Rat)=1 from Z];grind
theorem je{s:R}(h:gW s):∀n:Nat,val (dk s n)=val s^n
 |0=>by show val (1,1)=_;rw[nI,Xj];rfl
 |n+1=>by
  show val (bA (dk s n) s)=_;rw[eJ (oB h n).pos h.pos,je h n,Vy]
def k9(k:Int):Int:=if k=2 then 4 else if k=3 then 27 else 256
theorem KD{k:Int}(h2:2≤k)(h4:k≤4)(x:Rat):((k:Rat)*x)^k.toNat=(k9 k:Rat)*x^k.toNat:=by
 rcases(show k=2∨k=3∨k=4 by omega) with rfl|rfl|rfl
 ·show((2:Rat)*x)^2=(4:Rat)*x^2;grind
 ·show((3:Rat)*x)^3=(27:Rat)*x^3;grind
 ·show((4:Rat)*x)^4=(256:Rat)*x^4;grind
def AQ(k:Nat)(ws:List Wk)(kp pl:List (List Pc))(t:Nat)(r:R):Prop:=Bq DQ NB r/\∃s,GY ws kp t s/\val r=nh k ws.length (λi=>(ws.getD i bh).2.1) s (aV ws kp t) (aV ws pl t)
def pR(kk:Int)(sp o p:R):R:=bA (dk sp (kk-1).toNat) (bJ o (bA (kk,1) p))
theorem An(k2:2≤kk)(k4:kk≤4):Bq 1 4 ((kk,1):R):=⟨by show(0:Int)<1;decide,by show S7 kk 1=1;simp,Xf 1,by show kk.natAbs≤4*1;omega⟩
theorem vG(k2:2≤kk)(k4:kk≤4)(ho:Bq DZ 12 o)(hp:Bq DZ 12 p):Bq DZ 48 (bA (kk,1) p)/\Bq DZ 60 (bJ o (bA (kk,1) p)):=by
 have h:=((An k2 k4).times hp).mono (D':=DZ) (N':=48) (by rw[Xx];exact SV _) (by decide);exact⟨h,(Bq.minus (by decide) ho h).mono (SV _) (by decide)⟩
theorem MZ(k2:2≤kk)(k4:kk≤4)(hs:fw sp)(ho:Bq DZ 12 o)(hp:Bq DZ 12 p):Bq DQ 1100000000 (pR kk sp o p)/\val (pR kk sp o p)=val sp^(kk.toNat-1)*(val o-(kk.toNat:Rat)*val p):=by
 obtain⟨h1,h2⟩:=vG k2 k4 ho hp;have hz:Bq DZ 256 sp:=hs.bq.mono (by decide) (SD _);have e:(kk-1).toNat=kk.toNat-1:=by omega
 have ek:((kk:Int):Rat)=((kk.toNat:Nat):Rat):=by
  rw[←Vc,show((kk.toNat:Nat):Int)=kk by omega]
 unfold pR;refine⟨?_,?_⟩
 ·rcases(show kk=2∨kk=3∨kk=4 by omega) with rfl|rfl|rfl
  ·exact((kA hz 1).times h2).mono (by decide) (by decide)
  ·exact((kA hz 2).times h2).mono (by decide) (by decide)
  ·exact((kA hz 3).times h2).mono (by decide) (by decide)
 ·rw[eJ (oB hz.red _).pos h2.pos,je hz.red,e,dh ho.pos h1.pos,eJ (by show(0:Int)<1;decide) hp.pos,nI,ek]
theorem jo(o:d9 ws)(P:ig ws pl)(ht:t≤24)(hi:i<ws.length):Bq DZ 12 ((bx ws pl t).getD i (0,1))/\val ((bx ws pl t).getD i (0,1))=aV ws pl t i:=by
 obtain⟨a,b⟩:=nw (D:=DZ) (by decide) (ws:=ws) (pl:=pl) (t:=t) (by rw[P.len];omega) (λw hw=>ir ((o.wk w hw).2.2.1.mono (D':=DZ) (by decide) (SD _))) λr hr c hc=>ir (P.row r hr c hc).2.1
 have v:=b i hi;have d:=jq a i;obtain⟨n0,n1⟩:=P.aV_nn hi ht;have nn:0≤((bx ws pl t).getD i (0,1)).1:=(jX d.1.pos).mp (by rw[v];exact n0);refine⟨⟨d.1.pos,d.1.cop,d.2,(me d.1.pos nn).mpr ?_⟩,v⟩;have w:=o.at hi;have am:fY (ws.getD i bh)≤((12:Nat):Rat):=(me w.2.2.1.pos (by omega)).mp w.2.2.1.le;rw[v];exact aaj n1 am
def sS(kk:Int)(ws:List Wk)(kp pl:List (List Pc))(t:Nat)(ss:List R)(n:Nat):List R:=(SC n).map λi=>pR kk (ss.getD (ws.getD i bh).2.1 (0,1)) ((bx ws kp t).getD i (0,1)) ((bx ws pl t).getD i (0,1))
theorem NA(k2:2≤kk)(k4:kk≤4)(o:d9 ws)(K:G3 ws kp)(P:ig ws pl)(ht:t≤24)(h:iu (bv ws (bx ws kp t) t) (SC 24) lys)(am:∀r∈bn (bv ws (bx ws kp t) t) lys,fw r):(∀r∈sS kk ws kp pl t (bn (bv ws (bx ws kp t) t) lys) ws.length,Bq DQ 1100000000 r)/\AQ kk.toNat ws kp pl t (bA (kk,1) (eN (sS kk ws kp pl t (bn (bv ws (bx ws kp t) t) lys) ws.length))):=by
 have am':∀i,fw ((bn (bv ws (bx ws kp t) t) lys).getD i (0,1)):=λi=>by
  rw[SG]
  cases e:(bn (bv ws (bx ws kp t) t) lys)[i]? with
  |none=>exact⟨⟨by decide,by decide,by decide,by decide⟩,by decide⟩
  |some r=>exact am r (SF e)
 have P1:=λi hi=>MZ k2 k4 (am' (ws.getD i bh).2.1) (jo o K.ok ht (i:=i) hi).1 (jo o P ht hi).1
 have b:∀r∈sS kk ws kp pl t (bn (bv ws (bx ws kp t) t) lys) ws.length,Bq DQ 1100000000 r:=λr hr=>by
  obtain⟨i,hi,rfl⟩:=SR.mp hr;exact(P1 i (SW.mp hi)).1
 have l:(sS kk ws kp pl t (bn (bv ws (bx ws kp t) t) lys) ws.length).length≤20:=by
  unfold sS;rw[SE,TJ];exact o.few
 have sb:=(f9 (by decide) b).mono (SV _) (show 1100000000*(sS kk ws kp pl t (bn (bv ws (bx ws kp t) t) lys) ws.length).length≤22000000000 by omega);refine⟨b,?_,m8 (bv ws (bx ws kp t) t) lys,λt24=>Ah o K t24 h (tG o K ht),?_⟩
 ·exact((An k2 k4).times sb).mono (by rw[Xx];exact SV _) (by decide)
 ·have ek:((kk:Int):Rat)=((kk.toNat:Nat):Rat):=by
   rw[←Vc,show((kk.toNat:Nat):Int)=kk by omega]
  rw[eJ (by show(0:Int)<1;decide) sb.pos,nI,ek,(jd λr hr=>(b r hr).red).2,kK];unfold nh sS;rw[fc,jA]
  congr 1
  refine aG λi hi=>?_
  rw[(P1 i hi).2,(jo o K.ok ht hi).2,(jo o P ht hi).2];have d24:=(o.at hi).2.1;rw[kN h d24];show _=(if(ws.getD i bh).2.1<24 then _ else(0:Rat))^_*_;rw[if_pos d24]
theorem FF(n:Nat):sS kk ws kp pl t ss (n+1)=sS kk ws kp pl t ss n++[pR kk (ss.getD (ws.getD n bh).2.1 (0,1)) ((bx ws kp t).getD n (0,1)) ((bx ws pl t).getD n (0,1))]:=by
 unfold sS;rw[Ua,Ub];rfl
inductive jb(K:Sy)(vs:List V)(H:Hp)(Q:VK):Prop where
 |mk (v u x:V) (kk:Int) (ws:List Wk) (kp pl:List (List Pc)) (t:Nat) (h0_:vs=[v,.int kk,u,x,.int (t:Nat)]) (h1_:eW K H v ws) (h2_:d9 ws) (h3_:2≤kk) (h4_:kk≤4) (h5_:vP K H u kp) (h6_:G3 ws kp) (h7_:vP K H x pl) (h8_:ig ws pl) (h9_:t≤24) (h10_:∀(y:V) (r:R) (H':Hp),aP H H'->RV K H' y r->AQ kk.toNat ws kp pl t r->Q y H'):jb K vs H Q
def pT(K:Sy):Sp:=λvs H Q _=>jb K vs H Q
def G8(K:Sy)(k:Nat)(ws:List Wk)(kp pl:List (List Pc))(H:Hp)(v:V)(t:Nat):Prop:=∃r,RV K H v r/\AQ k ws kp pl t r
inductive vM(K:Sy)(vs:List V)(H:Hp)(Q:VK):Prop where
 |mk (v x:V) (kk:Int) (ws:List Wk) (pl:List (List Pc)) (h0_:vs=[v,.int kk,x]) (h1_:eW K H v ws) (h2_:d9 ws) (h3_:2≤kk) (h4_:kk≤4) (h5_:vP K H x pl) (h6_:ig ws pl) (h7_:∀(p:Addr) (ys:List V) (s:fM) (H':Hp),aP H H'->xC ws 24 s->bV K H' p ys->cH (G8 K kk.toNat ws (s.dn.map (bI (dY ws 24))) pl H') ys (SC 25)->Q (.ref p) H'):vM K vs H Q
def Fg(K:Sy):Sp:=λvs H Q _=>vM K vs H Q
theorem vP.mono{K:Sy}{H H':Hp}{v:V}{pl:List (List Pc)}(h:vP K H v pl)(t:aR K H H'):vP K H' v pl:=by
 obtain⟨q1,x1,rfl,g1,a1⟩:=h;exact⟨q1,x1,Z,t _ _ g1,a1.mono λ_ _ z=>z.mono t⟩
theorem Gu(h2:2≤k)(h4:k≤4):((k.toNat:Nat):Rat)^k.toNat=(k9 k:Rat):=by
 rcases(show k=2∨k=3∨k=4 by omega) with rfl|rfl|rfl<;>decide +kernel
structure Bl(k:Int)(os ps ts:List R):Prop where
 k2:2≤k
 k4:k≤4
 lo:os.length=24
 lp:ps.length=24
 lt:ts.length=25
 wo:∀r∈os,Bq DZ 5120 r
 wp:∀r∈ps,Bq DZ 5120 r
 wt:∀r∈ts,Bq DQ NB r
 b:val (ts.getD 0 r0)=0
 e:val (ts.getD 24 r0)=0
 step:∀i,i<24->val (os.getD i r0)^k.toNat+(val (ts.getD (i+1) r0)-val (ts.getD i r0))≤(k9 k:Rat)*val (ps.getD i r0)^k.toNat
theorem jh(h:n≤4)(b:Bq DZ 5120 r):Bq DQ 1000000000000000 (dk r n):=(kA b n).mono (WM _ h) (Tu (UD (by decide) h) (by decide))
theorem xT(p:0<r.2)(h:val r=0):r.1=0:=(c8 p).mp h
section
variable {k:Int}{o p a b:R}
def oF(k:Int)(o a b:R):R:=cP (dk o k.toNat) (bJ b a)
theorem yB(k2:2≤k)(k4:k≤4)(ho:Bq DZ 5120 o)(ha:Bq DQ NB a)(hb:Bq DQ NB b):Bq DQ (NB+NB) (bJ b a)/\Bq DQ 100000000000000000000 (oF k o a b)/\val (oF k o a b)=val o^k.toNat+(val b-val a):=by
 have h1:=jh (n:=k.toNat) (by omega) ho;have h2:=Bq.minus (by decide) hb ha;refine⟨h2,(Bq.plus (by decide) h1 h2).mono (SV _) (by decide),?_⟩;unfold oF;rw[iH h1.pos h2.pos,je ho.red,dh hb.pos ha.pos]
theorem Oz(k2:2≤k)(k4:k≤4)(hp:Bq DZ 5120 p):Bq DZ 20480 (bA (k,1) p)/\Bq DQ 1000000000000000000 (dk (bA (k,1) p) k.toNat)/\val (dk (bA (k,1) p) k.toNat)=(k9 k:Rat)*val p^k.toNat:=by
 have h1:=((An k2 k4).times hp).mono (D':=DZ) (N':=20480) (by rw[Xx];exact SV _) (by decide);refine⟨h1,(kA h1 k.toNat).mono (WM _ (by omega)) (Tu (UD (by decide) (show k.toNat≤4 by omega)) (by decide)),?_⟩;rw[je h1.red,eJ (by show(0:Int)<1;decide) hp.pos,nI,KD k2 k4]
theorem HY(k2:2≤k)(k4:k≤4):Bq 1 256 ((k9 k,1):R):=⟨by show(0:Int)<1;decide,by show S7 (k9 k) 1=1;simp,Xf 1,by
 show(k9 k).natAbs≤256*1;rcases(show k=2∨k=3∨k=4 by omega) with rfl|rfl|rfl<;>decide⟩
theorem Nh(k2:2≤k)(k4:k≤4):Wf 9 ((k9 k,1):R):=(HY k2 k4).wf (by decide) (by decide) (by decide)
theorem L3(k2:2≤k)(k4:k≤4)(hp:Bq DQ 100000000000000000 q):Bq DQ 100000000000000000000 (bA (k9 k,1) q)/\val (bA (k9 k,1) q)=(k9 k:Rat)*val q:=by
 refine⟨((HY k2 k4).times hp).mono (by rw[Xx];exact SV _) (by decide),?_⟩;rw[eJ (by show(0:Int)<1;decide) hp.pos,nI]
end
theorem Jq(h:gW r):kQ (dR r)=true:=by
 show(decide (1≤r.2)&&decide (S7 r.1 r.2=1))=true;rw[decide_eq_true (show 1≤r.2 by have:=h.pos;omega),decide_eq_true h.cop];rfl
theorem Av{rs:List R}(h:i<rs.length):rs.getD i r0∈rs:=by
 rw[ax r0 (Sz h)];exact S2 _
inductive jG(K:Sy)(vs:List V)(H:Hp)(Q:VK):Prop where
 |mk (k:Int) (a b c:V) (os ps ts:List R) (h0_:vs=[.int k,a,b,c]) (h1_:vO K H a os) (h2_:vO K H b ps) (h3_:vO K H c ts) (h4_:Bl k os ps ts) (h5_:∀H',aP H H'->Q (.bl true) H'):jG K vs H Q
def rp(K:Sy):Sp:=λvs H Q _=>jG K vs H Q
theorem sT{n:Nat}{r:R}(h:Wf n r):∀k:Nat,Wf (1+n*k) (dk r k)
 |0=>⟨by show(0:Int)<1;decide,by show(1:Int).natAbs<2^1;decide,by show(1:Int).natAbs<2^1;decide,by show S7 1 1=1;decide⟩
 |k+1=>(A2 (sT h k) h).mono (by rw[Xg];omega)
theorem Bd{rs:List R}(h:rs[i]?=some r):eN (rs.take (i+1))=cP (eN (rs.take i)) r:=by
 unfold eN;rw[TY,h,U9];rfl
inductive lG(K:Sy)(vs:List V)(H:Hp)(Q:VK):Prop where
 |mk (v w:V) (r q:R) (n m:Nat) (h0_:vs=[v,w]) (h1_:RV K H v r) (h2_:RV K H w q) (h3_:Wf n r) (h4_:Wf m q) (h5_:n+m+1≤8900) (h6_:pV H Q (cP r q)):lG K vs H Q
def uF(K:Sy):Sp:=λvs H Q _=>lG K vs H Q
inductive jM(K:Sy)(vs:List V)(H:Hp)(Q:VK):Prop where
 |mk (v w:V) (r q:R) (n m:Nat) (h0_:vs=[v,w]) (h1_:RV K H v r) (h2_:RV K H w q) (h3_:Wf n r) (h4_:Wf m q) (h5_:n+m+1≤8900) (h6_:pV H Q (bJ r q)):jM K vs H Q
def rJ(K:Sy):Sp:=λvs H Q _=>jM K vs H Q
inductive jJ(K:Sy)(vs:List V)(H:Hp)(Q:VK):Prop where
 |mk (v w:V) (r q:R) (n m:Nat) (h0_:vs=[v,w]) (h1_:RV K H v r) (h2_:RV K H w q) (h3_:Wf n r) (h4_:Wf m q) (h5_:n+m+1≤8900) (h6_:pV H Q (bA r q)):jJ K vs H Q
def rC(K:Sy):Sp:=λvs H Q _=>jJ K vs H Q
abbrev nU:=nX
inductive i9(K:Sy)(vs:List V)(H:Hp)(Q:VK):Prop where
 |mk (v:V) (r:R) (k:Int) (n:Nat) (h0_:vs=[v,.int k]) (h1_:RV K H v r) (h2_:Wf n r) (h3_:n≤1000) (h4_:0≤k) (h5_:k≤4) (h6_:L4 K H Q (dk r k.toNat)):i9 K vs H Q
def pQ(K:Sy):Sp:=λvs H Q _=>i9 K vs H Q
inductive jI(K:Sy)(vs:List V)(H:Hp)(Q:VK):Prop where
 |mk (a:Addr) (xs:List V) (rs:List R) (h0_:vs=[.ref a]) (h1_:bu K H a xs) (h2_:cH (RV K H) xs rs) (h3_:(∀r∈rs,Bq DQ 1000000000000000 r)) (h4_:rs.length≤24) (h5_:∀(v':V) (H':Hp),aP H H'->RV K H' v' (eN rs)->Q v' H'):jI K vs H Q
def rB(K:Sy):Sp:=λvs H Q _=>jI K vs H Q
def fj(pl:List (List Pc)):List R:=pl.map λq=>eN (q.map λc=>c.2)
inductive gs(K:Sy)(vs:List V)(H:Hp)(Q:VK):Prop where
 |mk (v:V) (ws:List Wk) (pl:List (List Pc)) (h0_:vs=[v]) (h1_:vP K H v pl) (h2_:ig ws pl) (h3_:∀(v':V) (H':Hp),aP H H'->vO K H' v' (fj pl)->Q v' H'):gs K vs H Q
def lV(K:Sy):Sp:=λvs H Q _=>gs K vs H Q
inductive jL(K:Sy)(vs:List V)(H:Hp)(Q:VK):Prop where
 |mk (k:Int) (v:V) (rs:List R) (h0_:vs=[.int k,v]) (h1_:vO K H v rs) (h2_:(∀r∈rs,Bq DZ 5120 r)) (h3_:rs.length=24) (h4_:2≤k) (h5_:k≤4) (h6_:∀(v':V) (H':Hp),aP H H'->RV K H' v' (eN (rs.map λr=>dk r k.toNat))->Q v' H'):jL K vs H Q
def rH(K:Sy):Sp:=λvs H Q _=>jL K vs H Q
inductive gO(K:Sy)(vs:List V)(H:Hp)(Q:VK):Prop where
 |mk (v:V) (r:R) (n:Nat) (h0_:vs=[v]) (h1_:RV K H v r) (h2_:Wf n r) (h3_:n≤8900) (h4_:∀H',aP H H'->Q (.bl true) H'):gO K vs H Q
def mR(K:Sy):Sp:=λvs H Q _=>gO K vs H Q
inductive ja(K:Sy)(vs:List V)(H:Hp)(Q:VK):Prop where
 |mk (k:Int) (a b c:V) (os ps ts:List R) (h0_:vs=[.int k,a,b,c]) (h1_:vO K H a os) (h2_:vO K H b ps) (h3_:vO K H c ts) (h4_:Bl k os ps ts) (h5_:∀H',aP H H'->Q .non H'):ja K vs H Q
def pS(K:Sy):Sp:=λvs H Q _=>ja K vs H Q
theorem uK(P:ig ws pl):(∀r∈fj pl,Bq DZ 5120 r)/\(fj pl).length=24/\∀t,t<24->val ((fj pl).getD t r0)=mW pl t:=by
 refine⟨λr hr=>?_,by unfold fj;rw[SE,P.len],λt ht=>?_⟩
 ·obtain⟨q,hq,rfl⟩:=SR.mp hr;refine(f9 (N:=256) (by decide) λx hx=>?_).mono (SV _) ?_
  ·obtain⟨c,hc,rfl⟩:=SR.mp hx;exact(P.row q hq c hc).2.1
  ·rw[SE];have:=P.few q hq;omega
 ·have hl:t<pl.length:=by rw[P.len];exact ht
  unfold fj mW;rw[ax r0 (show(pl.map λq=>eN (q.map λc:Pc=>c.2))[t]?=some (eN ((pl[t]).map λc=>c.2)) by rw[SU,Sz hl];rfl),ax [] (Sz hl),(jd λx hx=>?_).2,kK,fc];obtain⟨c,hc,rfl⟩:=SR.mp hx;exact(P.row _ (S2 hl) c hc).2.1.red
structure AR(ws:List Wk)(n:Nat)(pl:List (List Pc)):Prop where
 len:pl.length=24
 row:∀(u:Nat) (q:List Pc),pl[u]?=some q->q.length≤n/\∀c∈q,c.1<n/\(ws.getD c.1 bh).1≤u/\u≤(ws.getD c.1 bh).2.1/\Bq DZ 256 c.2/\0<val c.2
 fin:∀i,i<n->sr (eQ pl i) 24=fY (ws.getD i bh)
theorem Ez(ws:List Wk):AR ws 0 (Tq 24 []):=⟨VG,λu q h=>by
 rw[(ZV.mp (SF h)).2];exact⟨SD _,λc hc=>by cases hc⟩,λi h=>absurd h (U1 _)⟩
theorem ND(o:d9 ws)(h:AR ws ws.length pl):ig ws pl:=by
 have few:=o.few;refine⟨h.len,λq hq=>?_,λq hq c hc=>?_,λi hi u hu z=>?_,h.fin⟩
 ·obtain⟨u,hu⟩:=Ui hq;have:=(h.row u q hu).1;omega
 ·obtain⟨u,hu⟩:=Ui hq;obtain⟨a,_,_,b,c'⟩:=(h.row u q hu).2 c hc;exact⟨a,b,c'⟩
 ·obtain⟨c,hc,rfl⟩:=yr z;have hl:u<pl.length:=by rw[h.len];exact hu
  rw[ax [] (Sz hl)] at hc;obtain⟨_,a,b,_⟩:=(h.row u _ (Sz hl)).2 c hc;exact⟨a,b⟩
theorem JA(hq:pl[u]?=some q)(i v:Nat):eQ (pl.set u (q++[c])) i v=eQ pl i v+if v=u then bX (decide (c.1=i)) (val c.2) else 0:=by
 have ul:=(SN.mp hq).1;unfold eQ;by_cases e:v=u
 ·subst e;rw[if_pos Z,ax [] (UF ul),ax [] hq,d0];show _+(_+0)=_;grind
 ·rw[if_neg e,SG,Ug (V9 e),←SG];grind
theorem yd(hq:pl[u]?=some q)(hu:u<24)(i:Nat):sr (eQ (pl.set u (q++[c])) i) 24=sr (eQ pl i) 24+bX (decide (c.1=i)) (val c.2):=by
 rw[aG λv _=>JA hq i v,gv,lR (f:=λ_=>bX (decide (c.1=i)) (val c.2)) hu]
structure pZ(ws:List Wk)(n k:Nat)(ns:List Int)(S:Int)(pl:List (List Pc)):Prop where
 len:pl.length=24
 row:∀(u:Nat) (q:List Pc),pl[u]?=some q->q.length≤n+(if(ws.getD n bh).1≤u/\u<(ws.getD n bh).1+k then 1 else 0)/\∀c∈q,c.1<n+1/\(ws.getD c.1 bh).1≤u/\u≤(ws.getD c.1 bh).2.1/\Bq DZ 256 c.2/\0<val c.2
 fin:∀i,i<n->sr (eQ pl i) 24=fY (ws.getD i bh)
 now:sr (eQ pl n) 24*(S:Rat)=fY (ws.getD n bh)*(((ns.take k).sum:Int):Rat)
theorem AR.start(h:AR ws n pl)(ns:List Int)(S:Int):pZ ws n 0 ns S pl:=by
 refine⟨h.len,λu q hq=>?_,h.fin,?_⟩
 ·obtain⟨a,b⟩:=h.row u q hq;refine⟨by omega,λc hc=>?_⟩;obtain⟨c1,c2⟩:=b c hc;exact⟨by omega,c2⟩
 ·have z:sr (eQ pl n) 24=0:=by
   rw[aG (g:=λ_=>0) λu hu=>?_,cC];apply SS;intro y;obtain⟨c,hc,e⟩:=yr y;have hl:u<pl.length:=by rw[h.len];exact hu
   rw[ax [] (Sz hl)] at hc;have:=((h.row u _ (Sz hl)).2 c hc).1;omega
  rw[z,Zm,show(([]:List Int).sum:Int)=0 from Z,show((0:Int):Rat)=0 from Z];grind
theorem Bc{ns:List Int}(h:ns[k]?=some a):(ns.take (k+1)).sum=(ns.take k).sum+a:=by
 rw[TY,h,List.sum_append];simp
theorem pZ.skip(h:pZ ws n k ns S pl)(e:ns[k]?=some 0):pZ ws n (k+1) ns S pl:=by
 refine⟨h.len,λu q hq=>?_,h.fin,by rw[Bc e,Int.add_zero];exact h.now⟩;obtain⟨a,b⟩:=h.row u q hq;refine⟨Tu a (WC ?_ n),b⟩
 split
 ·rw[if_pos (by omega)];exact SD _
 ·exact S8 _
theorem Ng:∀k:Fin 74,0<k.val->84*k.val∣DZ:=by decide
theorem F4(h1:1≤a)(h2:a≤S)(h3:S≤73)(hr:Bq 84 12 r)(hp:0<r.1):Bq DZ 256 (bA r (d6 a S))/\0<val (bA r (d6 a S))/\val (bA r (d6 a S))*(S:Rat)=val r*(a:Rat):=by
 have sp:0<S:=by omega
 have b:Bq S.toNat 1 (d6 a S):=vB sp (by rw[show((S.toNat:Nat):Int)=S by omega];exact Xf _) (by omega);have d:=Ng ⟨S.toNat,by omega⟩ (show 0<S.toNat by omega);have v:=lP (a:=a) sp;have vp:0<val r:=by
  have:=(jX hr.pos).mpr (UQ hp);have ne:val r≠0:=λz=>by
   have:=(c8 hr.pos).mp z;omega
  grind
 have S0:(0:Rat)<(S:Rat):=Uu.mpr sp;have a0:(0:Rat)<(a:Rat):=Uu.mpr (show(0:Int)<a by omega);have e:val (bA r (d6 a S))*(S:Rat)=val r*(a:Rat):=by
  rw[eJ hr.pos b.pos,v];generalize (S:Rat)=x at *;generalize (a:Rat)=y at *;have:x≠0:=by grind
  grind
 refine⟨(hr.times b).mono d (by decide),?_,e⟩;have p:=Zn vp a0;rw[←e] at p;apply SS;intro z;have:=Ue (WT.mp z) (Up S0);grind
theorem pZ.put(h:pZ ws n k ns S pl)(e:ns[k]?=some a)(hq:pl[(ws.getD n bh).1+k]?=some q)(hl:(ws.getD n bh).1+k≤(ws.getD n bh).2.1)(u24:(ws.getD n bh).1+k<24)(b:Bq DZ 256 r)(p:0<val r)(v:val r*(S:Rat)=fY (ws.getD n bh)*(a:Rat)):pZ ws n (k+1) ns S (pl.set ((ws.getD n bh).1+k) (q++[(n,r)])):=by
 refine⟨by rw[UH];exact h.len,λu q' hq'=>?_,λi hi=>?_,?_⟩
 ·by_cases c:u=(ws.getD n bh).1+k
  ·subst c;rw[UF (SN.mp hq).1] at hq'
   cases hq'
   obtain⟨x,y⟩:=h.row _ _ hq;rw[if_neg (by omega)] at x;rw[if_pos (by omega),SZ,UL];refine⟨by omega,λd hd=>?_⟩;rcases Ti.mp hd with z|z
   ·exact y d z
   ·rw[SJ.mp z];exact⟨Xo n,Nat.le_add_right _ _,hl,b,p⟩
  ·rw[Ug (V9 c)] at hq';obtain⟨x,y⟩:=h.row _ _ hq';refine⟨Tu x (WC ?_ n),y⟩
   split
   ·rw[if_pos (by omega)];exact SD _
   ·exact S8 _
 ·rw[yd hq u24 i,h.fin i hi,decide_eq_false (show ¬n=i by omega),cm];grind
 ·rw[yd hq u24 n,decide_eq_true Z,c6,Bc e,XI];have w:=h.now;show(_+val r)*_=_;grind
theorem pZ.done(h:pZ ws n ns.length ns S pl)(hS:S=ns.sum)(sp:0<S):AR ws (n+1) pl:=by
 refine⟨h.len,λu q hq=>?_,λi hi=>?_⟩
 ·obtain⟨a,b⟩:=h.row u q hq;refine⟨Tu a (WC ?_ n),b⟩
  split
  ·exact SD _
  ·exact S8 _
 ·by_cases c:i=n
  ·subst c;have w:=h.now;rw[Ud,←hS] at w;have S0:(0:Rat)<(S:Rat):=Uu.mpr sp;generalize (S:Rat)=x at *;have:x≠0:=by grind
   grind
  ·exact h.fin i (by omega)
structure AU(K:Sy)(H:Hp)(D:Addr)(rows:List Addr)(pl:List (List Pc)):Prop where
 top:H D=some (.lst (rows.map V.ref))
 len:rows.length=24
 nd:rows.Nodup
 nD:D∉rows
 row:∀(i:Nat) (r:Addr) (c:List Pc),rows[i]?=some r->pl[i]?=some c->∃xs,H r=some (.lst xs)/\cH (vQ K H) xs c
section
variable {K:Sy}{H H':Hp}{D t:Addr}{rows:List Addr}{pl:List (List Pc)}
theorem AU.steps(g:AU K H D rows pl)(nt:D≠t)(nr:t∉rows)(s:∀b o,b≠t->H b=some o->H' b=some o)(tt:aR K H H'):AU K H' D rows pl:=by
 refine⟨s _ _ nt g.top,g.len,g.nd,g.nD,λi r c hr hc=>?_⟩;obtain⟨xs,hx,al⟩:=g.row i r c hr hc;exact⟨xs,s _ _ (λz=>nr (z▸SF hr)) hx,al.mono λ_ _ z=>z.mono tt⟩
theorem AU.same(g:AU K H D rows pl)(s:aP H H'):AU K H' D rows pl:=by
 refine⟨s _ _ g.top,g.len,g.nd,g.nD,λi r c hr hc=>?_⟩;obtain⟨xs,hx,al⟩:=g.row i r c hr hc;exact⟨xs,s _ _ hx,al.mono λ_ _ z=>z.mono (aR.same s)⟩
theorem AU.put(g:AU K H D rows pl)(hr:rows[i]?=some r)(hc:pl[i]?=some c)(hx:H r=some (.lst xs))(al:cH (vQ K H) xs c)(hy:vQ K H y pc):AU K (aO H r (.lst (xs++[y]))) D rows (pl.set i (c++[pc])):=by
 have tu:aR K H (aO H r (.lst (xs++[y]))):=aR.up hx _;have mr:=SF hr;have nDr:D≠r:=λz=>g.nD (by rw[z];exact mr)
 refine⟨by rw[aA nDr];exact g.top,g.len,g.nd,g.nD,λi' r' c' hr' hc'=>?_⟩;have il:=(SN.mp hc).1;by_cases e:i'=i
 ·subst e;rw[hr] at hr'
  cases hr'
  rw[UF il] at hc'
  cases hc'
  exact⟨_,ai,(al.mono λ_ _ z=>z.mono tu).snoc (hy.mono tu)⟩
 ·rw[Ug (V9 e)] at hc';obtain⟨ys,hys,aly⟩:=g.row i' r' c' hr' hc';have ne:r'≠r:=λz=>by
   obtain⟨h1,e1⟩:=SN.mp hr;obtain⟨h2,e2⟩:=SN.mp hr';exact e ((V0 (h₀:=h2) (h₁:=h1) g.nd).mp (by rw[e1,e2,z]))
  exact⟨ys,by rw[aA ne];exact hys,aly.mono λ_ _ z=>z.mono tu⟩
end
theorem D7{M:Int}(m0:0≤M):∀{ns:List Int},(∀z∈ns,0≤z/\z≤M)->0≤ns.sum/\ns.sum≤M*ns.length/\∀a∈ns,a≤ns.sum
 | [],_=>⟨Xy _,by show(0:Int)≤M*0;omega,λa h=>by cases h⟩
 |n::t,h=>by
  obtain⟨a,b,c⟩:=D7 m0 (ns:=t) λz hz=>h z (SQ _ hz)
  have hn:=h n SO;rw[Wj,Tv];refine⟨by omega,?_,λx hx=>?_⟩
  ·have e:M*((t.length+1:Nat):Int)=M*(t.length:Int)+M:=by rw[aaR,Int.mul_add];show _+M*1=_;rw[aaB]
   omega
  ·rcases S6.mp hx with z|z
   ·omega
   ·have:=c x z;omega
theorem Ic{a:Int}:∀{i:Nat} {ns:List Int},ns[i]?=some a->(ns.set i (a+1)).sum=ns.sum+1
 |_,[],h=>by cases h
 |0,n::t,h=>by
  cases h
  show(a+1+t.sum)=a+t.sum+1;omega
 |i+1,n::t,h=>by
  have:=Ic (i:=i) (ns:=t) h;show n+(t.set i (a+1)).sum=n+t.sum+1;omega
inductive gP(K:Sy)(vs:List V)(H:Hp)(Q:VK):Prop where
 |mk (t l:Addr) (v:V) (ws:List Wk) (h0_:vs=[.ref t,v]) (h1_:db H t l) (h2_:eW K H v ws) (h3_:d9 ws) (h4_:∀(v':V) (pl:List (List Pc)) (H':Hp),qS [t] H H'->db H' t l->vP K H' v' pl->ig ws pl->Q v' H'):gP K vs H Q
def mS(K:Sy):Sp:=λvs H Q _=>gP K vs H Q
theorem JJ(k2:2≤k)(k4:k≤4)(o:d9 ws)(KF:G3 ws kp)(PB:ig ws pl)(lt:ts.length=25)(h:∀t,t<25->AQ k.toNat ws kp pl t (ts.getD t r0)):Bl k (fj kp) (fj pl) ts/\sr (λt=>mW kp t^k.toNat) 24≤(k9 k:Rat)*sr (λt=>mW pl t^k.toNat) 24:=by
 obtain⟨a1,a2,a3⟩:=uK KF.ok;obtain⟨b1,b2,b3⟩:=uK PB;have hk:k.toNat=2∨k.toNat=3∨k.toNat=4:=by omega
 have ex:∀t,∃s,GY ws kp t s/\(t<25->val (ts.getD t r0)=nh k.toNat ws.length (λi=>(ws.getD i bh).2.1) s (aV ws kp t) (aV ws pl t)):=λt=>by
  by_cases c:t<25
  ·obtain⟨s,p,e⟩:=(h t c).2;exact⟨s,p,λ_=>e⟩
  ·exact⟨λ_=>0,λz=>by omega,λz=>absurd z c⟩
 have hS:=λt=>(Y9 (ex t)).1
 have hV:=λt=>(Y9 (ex t)).2
 generalize (λt=>YC (ex t))=S at *;have kp_:=Gu k2 k4;refine⟨⟨k2,k4,a2,b2,lt,a1,b1,λr hr=>?_,?_,?_,λi hi=>?_⟩,?_⟩
 ·obtain⟨t,ht⟩:=Ui hr;have tl:=(SN.mp ht).1;have:=(h t (by omega)).1;rw[ax r0 ht] at this;exact this
 ·rw[hV 0 (by decide)];exact pf (k:=k.toNat) (ws:=ws) (kp:=kp) (pl:=pl) λt=>YC (ex t)
 ·rw[hV 24 (by decide)];exact vD (k:=k.toNat) o KF PB λt=>YC (ex t)
 ·have b:=qO hk o KF PB hS hi;rw[a3 i hi,b3 i hi,hV i (by omega),hV (i+1) (by omega),←kp_];exact b
 ·rw[←kp_];exact xi hk o KF PB hS
theorem yx{k:Int}(k4:k≤4)(PB:ig ws pl):Bq DQ 100000000000000000 (eN ((fj pl).map λr=>dk r k.toNat))/\val (eN ((fj pl).map λr=>dk r k.toNat))=sr (λt=>mW pl t^k.toNat) 24:=by
 obtain⟨b1,b2,b3⟩:=uK PB;have b:∀r∈(fj pl).map λr=>dk r k.toNat,Bq DQ 1000000000000000 r:=λr hr=>by
  obtain⟨q,hq,rfl⟩:=SR.mp hr;exact jh (by omega) (b1 q hq)
 refine⟨(f9 (by decide) b).mono (SV _) (by rw[SE,b2];decide),?_⟩;rw[(jd λr hr=>(b r hr).red).2,kK,fc,fH r0 (fj pl),b2,jA];refine aG λt ht=>?_
 rw[je (b1 _ (Av (by omega))).red,b3 t ht]
theorem Mm(o:d9 ws):Sh 4 3800000 (Eu ws):=by
 refine(Sh.tup (k:=2) (n:=12000) (m:=20) (N:=300000) (λd hd=>?_) (by rw[SE];exact o.few) (by decide)).mono (by decide) (by decide);obtain⟨w,hw,rfl⟩:=SR.mp hd;obtain⟨w1,w2,wb,_⟩:=o.wk w hw;refine Sh.tup (k:=1) (n:=3856) (m:=3) (λd hd=>?_) (SD _) (by decide);simp only[S6,UB,or_false] at hd;rcases hd with rfl|rfl|rfl
 ·exact(IF (by omega)).mono (by decide) (by decide)
 ·exact(IF (by omega)).mono (by decide) (by decide)
 ·exact Mn (wb.wf (n:=20) (by decide) (by decide) (by decide)) (by decide)
theorem Mo(o:d9 ws)(h:ig ws pl):Sh 4 3800000 (Il pl):=by
 have few:=o.few;refine(Sh.tup (k:=3) (n:=154588) (m:=24) (N:=3800000) (λd hd=>?_) (by rw[SE,h.len];exact SD _) (by decide));obtain⟨q,hq,rfl⟩:=SR.mp hd;refine Sh.tup (k:=2) (n:=7726) (m:=20) (λd hd=>?_) (by rw[SE];exact h.few q hq) (by decide);obtain⟨c,hc,rfl⟩:=SR.mp hd;obtain⟨c1,c2,_⟩:=h.row q hq c hc;refine Sh.tup (k:=1) (n:=3856) (m:=2) (λd hd=>?_) (SD _) (by decide);simp only[S6,UB,or_false] at hd;rcases hd with rfl|rfl
 ·exact(IF (by omega)).mono (by decide) (by decide)
 ·exact Mn (wZ (c2.mono (SV _) (by decide))) (by decide)
theorem BF(o:d9 ws)(h:ig ws pl):EI (.tuple [Eu ws,Il pl]):=by
 refine Sh.shows (k:=5) (n:=7600020) (Sh.tup (k:=4) (n:=3800000) (m:=2) (λd hd=>?_) (SD _) (by decide)) (by decide) (by decide);simp only[S6,UB,or_false] at hd;rcases hd with rfl|rfl
 ·exact Mm o
 ·exact Mo o h
theorem vP.deep{K:Sy}{H:Hp}{v:V}{pl:List (List Pc)}(h:vP K H v pl):bW K H v (Il pl):=by
 obtain⟨q1,x1,rfl,g1,a1⟩:=h;exact .tup g1 (a1.deep λ_ _ z=>z.deep)
theorem K9{K:Sy}{H:Hp}{k:Nat}{ws:List Wk}{kp pl:List (List Pc)}:∀{n:Nat} {ys:List V},cH (G8 K k ws kp pl H) ys (SC n)->∃ts,ts.length=n/\cH (RV K H) ys ts/\∀t,t<n->AQ k ws kp pl t (ts.getD t r0):=λ{n ys} h=>by
 have go:∀{ys:List V} {l:List Nat},cH (G8 K k ws kp pl H) ys l->∃ts,ts.length=l.length/\cH (RV K H) ys ts/\∀t,t<l.length->AQ k ws kp pl (l.getD t 0) (ts.getD t r0):=λ{ys l} h=>by
  induction h with
  |nil=>exact⟨[],Z,.nil,λt h=>absurd h (U1 _)⟩
  |cons a _ ih=>
   obtain⟨r,ra,rb⟩:=a;obtain⟨ts,e1,e2,e3⟩:=ih;refine⟨r::ts,by rw[Tv,Tv,e1],.cons ra e2,λt ht=>?_⟩
   cases t with
   |zero=>exact rb
   |succ t=>exact e3 t (by rw[Tv] at ht;omega)
 obtain⟨ts,e1,e2,e3⟩:=go h;rw[TJ] at e1 e3;refine⟨ts,e1,e2,λt ht=>?_⟩;have:=e3 t ht;rw[ax 0 (VY ht)] at this;exact this
theorem LZ(o:d9 ws):∀w∈ws,cn w:=λw hw=>by
 obtain⟨a,b,c,d⟩:=o.wk w hw;have p:=c.pos;have le:=c.le;refine⟨a,b,by omega,?_,by omega,VS c.dvd (by decide),(c.mono (SV _) (SD _)).wf (by decide) (by decide) (by decide)⟩;omega
theorem A4{K:Sy}{H H':Hp}{t l:Addr}(a:db H t l)(s:qS [t] H H')(b:db H' t l):aR K H H':=by
 obtain⟨ys,e⟩:=a.lst;exact aR.steps e (λx o n q=>s x o (λz=>n (SJ.mp z)) q) b.lst
theorem iI(n:H t=none)(a:aP H H1)(b:qS [t] H1 H2):aP H H2:=λx o e=>b x o (λz=>by rw[SJ.mp z,n] at e;cases e) (a x o e)
def Lh(K:Sy)(ws:List Wk)(H:Hp)(v:V):Prop:=∃pl,vP K H v pl/\ig ws pl
theorem Lh.mono{K:Sy}{ws:List Wk}{H H':Hp}{v:V}(h:Lh K ws H v)(t:aR K H H'):Lh K ws H' v:=let ⟨pl,a,b⟩:=h;⟨pl,a.mono t,b⟩
inductive jK(K:Sy)(vs:List V)(H:Hp)(Q:VK):Prop where
 |mk (v u x:V) (kk:Int) (ws:List Wk) (pl:List (List Pc)) (s:fM) (h0_:vs=[v,.int kk,u,x]) (h1_:eW K H v ws) (h2_:d9 ws) (h3_:2≤kk) (h4_:kk≤4) (h5_:xC ws 24 s) (h6_:vO K H u (fj (s.dn.map (bI (dY ws 24))))) (h7_:vP K H x pl) (h8_:ig ws pl) (h9_:∀H',aP H H'->Q (.bl true) H'):jK K vs H Q
def rD(K:Sy):Sp:=λvs H Q _=>jK K vs H Q
inductive zo(K:Sy)(vs:List V)(H:Hp)(Q:VK):Prop where
 |mk (a:Addr) (ns:List Int) (h0_:vs=[.ref a]) (h1_:bu K H a (ns.map V.int)) (h2_:ns.length≤63) (h3_:∀H',Q (.bl true) H'):zo K vs H Q
def rL(K:Sy):Sp:=λvs H Q _=>zo K vs H Q
theorem IQ:aL ["thing"] ["thing"] (aC Cb):=eD
theorem I0:aL ["thing","length"] ["thing","length"] (aC CC):=eD
theorem Mr:aL ["thing","count"] ["thing","count"] (aC Jc):=eD
theorem qj:aL ["one","other","high","low","rest"] ["one","other"] (aC Jk):=eD
theorem we:aL ["thing","top","bottom"] ["thing"] (aC Ca):=eD
theorem Mv:aL ["thing"] ["thing"] (aC Jj):=eD
theorem v6:aL ["top","bottom","shared"] ["top","bottom"] (aC BW):=eD
theorem rR:aL ["one","other","shared","top","rest"] ["one","other"] (aC BQ):=eD
theorem IJ:aL ["one","other"] ["one","other"] (aC BV):=eD
theorem v5:aL ["one","other","left","right"] ["one","other"] (aC BU):=eD
theorem II:aL ["one","other"] ["one","other"] (aC BP):=eD
theorem lX:aL ["one","power","top","bottom","step"] ["one","power"] (aC BZ):=eD
theorem IL:aL ["one","other"] ["one","other"] (aC B2):=eD
theorem IK:aL ["one","other"] ["one","other"] (aC BY):=eD
theorem kg:aL ["some","tops","one","so_far","bottom","top"] ["some"] (aC BS):=eD
theorem rX:aL ["some","bottom","one"] ["some"] (aC CB):=eD
theorem v9:aL ["thing","first","last"] ["thing"] (aC B1):=eD
theorem IU:aL ["work","turn"] ["work","turn"] (aC Co):=eD
theorem IZ:aL ["count"] ["count"] (aC CA):=eD
theorem IP:aL ["leanings","lean","ahead","behind","numbers","bases","leaners","leaner","base"] ["leanings","lean"] (aC B9):=eD
theorem BG:aL ["count","leans","leanings","lean"] ["count","leans"] (aC Jb):=eD
theorem gx:aL ["sheet","works","leanings","drawn","number","work","firsts","lasts","first","last"] ["sheet"] (aC B8):=eD
theorem rY:aL ["works","left","windows","work","places"] ["works","left"] (aC CH):=eD
theorem IH:aL ["windows","begin","end"] ["windows","begin","end"] (aC BO):=eD
theorem iO:aL ["windows","amounts","count","best","best_load","best_length","begin","end","load","length"] ["windows","amounts","count"] (aC Ji):=eD
theorem wd:aL ["works","left","windows","places"] ["works","left"] (aC B7):=eD
theorem kh:aL ["works","told","left","waiting","layer"] ["works"] (aC BX):=eD
theorem Mu:aL ["works","layer"] ["works","layer"] (aC Jg):=eD
theorem om:aL ["works","speeds","layer","speed","turn"] ["works"] (aC CG):=eD
theorem yh:aL ["works","leanings","waiting","earliest","like","free"] ["works","leanings","waiting"] (aC Jf):=eD
theorem oh:aL ["works","leans","leanings","waiting","order","number"] ["works","leans"] (aC B6):=eD
theorem lY:aL ["works","order","left","turn","speed","pieces","room","number","amount"] ["works","order","left","turn","speed"] (aC Cn):=eD
theorem kf:aL ["works","leans","speeds","order","left","plan","turn","number","amount"] ["works","leans","speeds"] (aC BR):=eD
theorem BJ:aL ["sheet","works"] ["sheet"] (aC Cu):=eD
theorem Hr:aL ["works","amounts","turn","numbers"] ["works","amounts","turn"] (aC Je):=eD
theorem IV:aL ["pieces","numbers"] ["pieces","numbers"] (aC Ct):=eD
theorem kj:aL ["works","keeper","numbers","plan","turn","number","work"] ["works"] (aC Cm):=eD
theorem BI:aL ["plan","row","pieces"] ["plan"] (aC Jh):=eD
theorem rV:aL ["k","one","other","thing","count","turn","spent"] ["k","one","other","thing"] (aC Ck):=eD
theorem wx:aL ["works","plan","turn","amounts","piece"] ["works","plan","turn"] (aC Cs):=eD
theorem iN:aL ["works","k","kept","plan","turn","own","others","speeds","parts","number","work","ahead"] ["works","k","kept","plan","turn"] (aC Cr):=eD
theorem BH:aL ["works","k","plan","kept"] ["works","k","plan"] (aC BN):=eD
theorem IY:aL ["_law_script","_law_k"] ["_law_script","_law_k"] (aC Cz):=eD
theorem iM:aL ["_law_cell","_law_many","_law_found","_law_number","_law_mixed","_law_k"] ["_law_cell","_law_many"] (aC Cj):=eD
theorem IN:aL ["_law_tape","_law_many"] ["_law_tape","_law_many"] (aC B5):=eD
theorem wc:aL ["_law_top","_law_bottom","_law_one","_law_other"] ["_law_top","_law_bottom"] (aC B4):=eD
theorem IM:aL ["_law_one","_law_other"] ["_law_one","_law_other"] (aC B3):=eD
theorem IT:aL ["_law_one","_law_other"] ["_law_one","_law_other"] (aC Ci):=eD
theorem IS:aL ["_law_one","_law_other"] ["_law_one","_law_other"] (aC Ch):=eD
theorem IX:aL ["_law_one","_law_other"] ["_law_one","_law_other"] (aC Cy):=eD
theorem rT:aL ["_law_some","_law_found","_law_one"] ["_law_some"] (aC Cg):=eD
theorem fR:aL ["_law_tape","_law_most","_law_turns","_law_works_here","_law_k","_law_way","_law_first","_law_last","_law_amount"] ["_law_tape","_law_most","_law_turns"] (aC Cf):=eD
theorem iP:aL ["_law_tape","_law_works_here","_law_rows","_law_j","_law_first","_law_last","_law_amount","_law_parts","_law_k"] ["_law_tape","_law_works_here"] (aC CF):=eD
theorem rW:aL ["_law_one","_law_many","_law_found","_law_k"] ["_law_one","_law_many"] (aC Cq):=eD
theorem Ja:aL ["_law_thing"] ["_law_thing"] (aC CD):=eD
theorem ww:aL ["_law_k","_law_one","_law_other","_law_thing","_law_t","_law_paid"] ["_law_k","_law_one","_law_other","_law_thing"] (aC Cp):=eD
theorem Mt:aL ["_law_plan"] ["_law_plan"] (aC Jd):=eD
theorem IR:aL ["_law_k","_law_speeds"] ["_law_k","_law_speeds"] (aC Ce):=eD
theorem oj:aL ["_law_works_here","_law_k","_law_kept_speeds","_law_plan","_law_speeds","_law_before","_law_found","_law_most"] ["_law_works_here","_law_k","_law_kept_speeds","_law_plan"] (aC Cd):=eD
theorem hG:aL ["_law_script","_law_tape","_law_works_here","_law_kept_speeds","_law_plans","_law_j"] ["_law_script"] (aC BL):=eD
theorem IW:aL ["self"] ["self"] (aC Cw):=eD
theorem BK:aL ["self","last","amount","work"] ["self","last","amount"] (aC Cv):=eD
theorem rS:aL ["self","waiting","pieces","piece"] ["self"] (aC Cc):=eD
end My
namespace My
open PySem L2 B PyProof.Rows
section
variable {P:Tx}{w:T9}{K:Sy}{mg:TB->Option Value}{base:SY}{t:Ad}
theorem wJ(T:eA K mg t):bQ P w K mg base dQ 1 t.a_Q39 t.d_Q39 ["thing"] (uH K):=by
 refine T.F_Q39.ok IQ (λvs H Q E h=>?_) (λcdv A outer s H vs Q E hr h=>?_)
 ·obtain⟨_,_,rfl,_⟩:=h;rfl
 obtain⟨v,d,rfl,hD,k⟩:=h;obtain⟨b,c,e1,e2,e3⟩:=Gx hD;refine dG.ok (av (aQ (l4 (aZ mC (by rfl) T.z_isinstance VM (ae (qv 0) (ae (hU (v:=V.ty "int") Z T.z_int boot_int Z) ag af) af)) (lZ (CU (aZ mC (by rfl) T.z_isinstance VM (ae (qv 0) (ae (hU (v:=V.ty "bool") Z T.z_bool boot_bool Z) ag af) af))))))) ?_;nofun
 rw[e3] at k;refine⟨_,Z,_,_,_,_,Z,hD,e1,_,Z,?_⟩
 cases b with
 |false=>exact k
 |true=>exact⟨_,Z,_,_,_,_,Z,hD,e2,_,Z,k⟩
theorem wN(T:eA K mg t):bQ P w K mg base dQ 1 t.a_Q14 t.d_Q14 ["thing","length"] (nW K):=by
 refine T.F_Q14.ok I0 (λvs H Q E h=>?_) (λcdv A outer s H vs Q E hr h=>?_)
 ·obtain⟨_,_,_,rfl,_⟩:=h;rfl
 obtain⟨v,d,m,rfl,hD,k⟩:=h;refine dG.ok (av (aQ (l4 (aZ mC (by rfl) T.z_isinstance VM (ae (qv 0) (ae (hU (v:=V.ty "tuple") Z T.z_tuple UO Z) ag af) af)) (lZ (gg jD (aZ ba (by rfl) T.z_len UI (ae (qv 0) ag af)) (qv 1) (bB _)))))) ?_;nofun
 rcases Gw hD with⟨e,p,xs,ds,rfl,rfl,hS,hA⟩ | ⟨e,no⟩
 ·refine⟨_,Z,_,_,_,_,Z,hD,e,_,Z,?_⟩;refine⟨_,Z,p,_,Z,.inr hS,_,Z,Z,?_⟩;have q:decide ((V.int xs.length:V)=.int m)=pM m (.tuple ds):=by
   show _=decide (ds.length=m);rw[hA.len];refine decide_eq_decide.mpr ⟨λz=>by injection z with z;omega,λz=>by rw[z]⟩
  rw[q];exact k
 ·refine⟨_,Z,_,_,_,_,Z,hD,e,_,Z,?_⟩;rw[E1 no] at k;exact k
theorem Hy(T:eA K mg t):bQ P w K mg base dQ 2 t.a_Q8 t.d_Q8 ["thing","count"] (mU K):=by
 refine T.F_Q8.ok Mr (λvs H Q E h=>?_) (λcdv A outer s H vs Q E hr h=>?_)
 ·obtain⟨_,_,_,rfl,_⟩:=h;rfl
 obtain⟨v,d,m,rfl,hD,k⟩:=h;refine dG.ok (av (aQ (l4 (cr (wJ T) hr T.m_Q39 T.F_Q39.kp T.b_Q39 (ae (qv 0) ag af)) (lZ (uQ qo mG aj (qv 0) (qv 1)))))) ?_;nofun
 refine⟨_,Z,v,d,Z,hD,?_⟩
 cases c:gX d with
 |false=>
  rw[Gh c] at k;exact⟨_,Z,k⟩
 |true=>
  obtain⟨i,rfl⟩:=jV c
  cases hD
  have kk:Q (.bl (decide (0≤i)&&decide (i<m))) H:=k;refine⟨_,Z,?_⟩;refine⟨_,Z,_,_,Z,Z,_,Z,?_⟩;by_cases c1:0≤i
  ·refine d8 c1 ?_;rw[decide_eq_true c1,Wm] at kk;exact⟨_,Z,_,_,Z,Z,kk⟩
  ·refine dj c1 ?_;rw[decide_eq_false c1,VE] at kk;exact kk
theorem oH(T:eA K mg t):bQ P w K mg base dQ 1 t.a_Q0 t.d_Q0 ["one","other"] (jw K):=by
 refine T.F_Q0.ok qj (λvs H Q E h=>?_) (λcdv A outer s H vs Q E hr h=>?_)
 ·obtain⟨_,_,rfl,_⟩:=h;rfl
 obtain⟨a,b,rfl,k⟩:=h;refine dG.ok (ah (cM 2 qj.nd (aZ o9 (by rfl) T.z_abs boot_abs (ae (qv 0) ag af))) (ah (cM 3 qj.nd (aZ o9 (by rfl) T.z_abs boot_abs (ae (qv 1) ag af))) (ah (kU S9 (bj yF (qv 3) aj (bB _)) (ah (cM 4 qj.nd (aY hZ (qv 2) (qv 3))) (ah (cM 2 qj.nd (qv 3)) (av (cM 3 qj.nd (qv 4)))))) (av (aQ (qv 2)))))) ?_
 nofun
 refine⟨_,Z,_,Z,_,Z,_,Z,?_⟩;rw[xm,xm];refine⟨λm σ H'=>∃(x y:Int) (v:Option V),σ=[some (.int a),some (.int b),some (.int x),some (.int y),v]/\H'=H/\0≤x/\0≤y/\S7 x y=S7 a b/\m=y.toNat,⟨_,_,_,_,Z,Z,by omega,by omega,(by simp[S7]),Z⟩,?_⟩;rintro m σ H' ⟨x,y,v,rfl,rfl,hx,hy,hg,rfl⟩;refine⟨_,Z,Z,_,Z,?_⟩;by_cases c:y=0
 ·subst c;refine yN Z ?_;rw[←hg] at k;refine⟨_,Z,?_⟩;have e:(x:Int)=(S7 x 0:Nat):=by simp[S7];omega
  rw[←e] at k;exact k
 ·refine Nj (λz=>c (by injection z)) ?_;refine⟨_,λ_ _ z=>z,?_⟩;refine⟨_,Z,_,Z,_,_,Z,Z,(by omega),_,Z,_,Z,?_⟩;refine⟨_,?_,y,x%y,_,Z,Z,hy,U2 _ c,?_,Z⟩
  ·have:=U3 x (show 0<y by omega);have:=U2 x c;omega
  ·rw[vc hx (by omega),hg]
theorem Dv(T:eA K mg t):bQ P w K mg base dQ 2 t.a_Q40 t.d_Q40 ["thing"] (uI K):=by
 refine T.F_Q40.ok we (λvs H Q E h=>?_) (λcdv A outer s H vs Q E hr h=>?_)
 ·obtain⟨_,_,rfl,_⟩:=h;rfl
 obtain⟨v,d,rfl,hD,k⟩:=h;refine dG.ok (ah (cF (d5 (cS (cr (wN T) hr T.m_Q14 T.F_Q14.kp T.b_Q14 (ae (qv 0) (ae aj ag aX) af)))) (av (aQ gI)) bC) (ah (cM 1 we.nd (b8 aD (qv 0) aj)) (ah (cM 2 we.nd (b8 aD (qv 0) aj)) (ah (cF (jC (kT (d5 (cS (cr (wJ T) hr T.m_Q39 T.F_Q39.kp T.b_Q39 (ae (qv 1) ag af)))) (kT (d5 (cS (cr (wJ T) hr T.m_Q39 T.F_Q39.kp T.b_Q39 (ae (qv 2) ag af)))) (km (bj mG (qv 2) aj (bB _)))))) (av (aQ gI)) bC) (av (aQ (gg jD (cr (oH T) hr T.m_Q0 T.F_Q0.kp T.b_Q0 (ae (qv 1) (ae (qv 2) ag af) af)) aj (bB _)))))))) ?_
 nofun
 refine⟨_,Z,v,d,2,Z,hD,⟨_,Z,?_⟩⟩
 cases c2:pM 2 d with
 |false=>
  refine mX ?_;rw[Fq c2] at k;exact k
 |true=>
  refine d7 ?_;obtain⟨p,x,y,dx,dy,rfl,rfl,hS,hx,hy⟩:=hD.two c2;refine⟨_,Z,p,_,_,_,Z,Z,hS,Z,_,Z,p,_,_,_,Z,Z,hS,Z,?_⟩;refine⟨_,Z,x,dx,Z,hx,_,Z,?_⟩
  cases cx:gX dx with
  |false=>
   refine mX (mX ?_);rw[MA cx] at k;exact k
  |true=>
   refine d7 ?_;refine⟨_,Z,y,dy,Z,hy,_,Z,?_⟩
   cases cy:gX dy with
   |false=>
    refine mX (mX ?_);rw[Mz cy] at k;exact k
   |true=>
    refine d7 ?_;obtain⟨i,rfl⟩:=jV cx;obtain⟨j,rfl⟩:=jV cy
    cases hx
    cases hy
    have kk:Q (.bl (decide (1≤j)&&decide (S7 i j=1))) H:=k;refine⟨_,Z,_,_,Z,Z,_,Z,?_⟩;by_cases c:j<1
    ·refine d8 c ?_;rw[decide_eq_false (show ¬1≤j by omega)] at kk;exact kk
    ·refine dj c ?_;refine⟨_,Z,_,Z,i,j,Z,Z,?_⟩;rw[decide_eq_true (show 1≤j by omega),Wm] at kk;have q:decide ((V.int (S7 i j:Nat):V)=.int 1)=decide (S7 i j=1):=decide_eq_decide.mpr ⟨λz=>by injection z with z;omega,λz=>by rw[z];rfl⟩;rw[q];exact kk
theorem M9(T:eA K mg t):bQ P w K mg base dQ 3 t.a_Q1 t.d_Q1 ["thing"] (ke K):=by
 refine T.F_Q1.ok Mv (λvs H Q E h=>?_) (λcdv A outer s H vs Q E hr h=>?_)
 ·obtain⟨_,_,rfl,_⟩:=h;rfl
 obtain⟨v,d,rfl,hD,k⟩:=h;refine dG.ok (av (aQ (l4 (cr (Dv T) hr T.m_Q40 T.F_Q40.kp T.b_Q40 (ae (qv 0) ag af)) (lZ (gg iT (b8 aD (qv 0) aj) aj (bB _)))))) ?_;nofun
 refine⟨_,Z,v,d,Z,hD,?_⟩
 cases c:kQ d with
 |false=>
  rw[AJ c] at k;exact⟨_,Z,k⟩
 |true=>
  obtain⟨i,j,rfl⟩:=CN c;obtain⟨p,x,y,dx,dy,rfl,e,hS,hx,hy⟩:=hD.two Z
  cases e
  cases hx
  rw[xx c] at k;exact⟨_,Z,_,Z,p,_,_,_,Z,Z,hS,Z,_,_,Z,Z,k⟩
theorem Dt(T:eA K mg t):bQ P w K mg base dQ 2 t.a_Q53 t.d_Q53 ["top","bottom"] (Bv K):=by
 refine T.F_Q53.ok v6 (λvs H Q E h=>?_) (λcdv A outer s H vs Q E hr h=>?_)
 ·obtain⟨_,_,rfl,_⟩:=h;rfl
 obtain⟨a,b,rfl,hb,hz,k⟩:=h;refine dG.ok (ah (cF (bj jD (qv 1) aj (bB _)) (av dH) bC) (ah (cM 2 v6.nd (cr (oH T) hr T.m_Q0 T.F_Q0.kp T.b_Q0 (ae (qv 0) (ae (qv 1) ag af) af))) (ah (cF (bj mG (qv 1) aj (bB _)) (av (cM 2 v6.nd (ou jZ (qv 2)))) bC) (av (aQ (bT (ae (aY eG (qv 0) (qv 2)) (ae (aY eG (qv 1) (qv 2)) ag bw) bw))))))) ?_
 nofun
 have gp:=cV (a:=a) hb;have gb:((S7 a b:Nat):Int).natAbs<2^8990:=by
  have z:S7 a b≤b.natAbs:=ZG (by omega) (by have:=VP a b;exact Xl.mpr this);have e:((S7 a b:Nat):Int).natAbs=S7 a b:=WP _;omega
 refine⟨_,Z,Z,_,Z,?_⟩;refine dj (λz=>by injection z with z;omega) ?_;refine⟨_,rfl,_,rfl,a,b,rfl,?_⟩;refine⟨_,rfl,_,_,rfl,rfl,_,rfl,?_⟩;refine dj (by omega) ?_;refine⟨_,rfl,_,rfl,_,_,rfl,rfl,⟨gp,gb⟩,_,rfl,_,rfl,_,_,rfl,rfl,⟨gp,gb⟩,jz,λp hp=>?_⟩;exact k p hp
theorem wH(T:eA K mg t):bQ P w K mg base dQ 2 t.a_Q58 t.d_Q58 ["one","other"] (Fb K):=by
 refine T.F_Q58.ok rR (λvs H Q E h=>?_) (λcdv A outer s H vs Q E hr h=>?_)
 ·obtain⟨_,_,_,_,_,_,rfl,_⟩:=h;rfl
 obtain⟨v,w,r,q,n,m,rfl,hv,hw,wr,wq,hz,k⟩:=h;refine dG.ok (ah (cM 2 rR.nd (cr (oH T) hr T.m_Q0 T.F_Q0.kp T.b_Q0 (ae (b8 aD (qv 0) aj) (ae (b8 aD (qv 1) aj) ag aH) aH))) (ah (cM 3 rR.nd (aY cX (aY cJ (b8 aD (qv 0) aj) (aY eG (b8 aD (qv 1) aj) (qv 2))) (aY cJ (b8 aD (qv 1) aj) (aY eG (b8 aD (qv 0) aj) (qv 2))))) (ah (cM 4 rR.nd (cr (oH T) hr T.m_Q0 T.F_Q0.kp T.b_Q0 (ae (qv 3) (ae (qv 2) ag af) af))) (av (aQ (bT (ae (aY eG (qv 3) (qv 4)) (ae (aY cJ (aY eG (b8 aD (qv 0) aj) (qv 2)) (aY eG (b8 aD (qv 1) aj) (qv 4))) ag bw) bw))))))) ?_
 nofun
 obtain⟨p,rfl,hv⟩:=hv;obtain⟨p',rfl,hw⟩:=hw;have c1:=bU wr.top (show n≤8990 by omega);have c2:=bU wr.bot (show n≤8990 by omega);have c3:=bU wq.top (show m≤8990 by omega);have c4:=bU wq.bot (show m≤8990 by omega);have gp:(0:Int)<(S7 r.2 q.2:Nat):=cV wq.pos;have gb:=oV (a:=r.2) wq.pos c4;refine⟨_,Z,p,_,_,_,Z,Z,hv,Z,_,Z,p',_,_,_,Z,Z,hw,Z,r.2,q.2,Z,?_⟩;have z:=C7 ⟨wr.pos,wr.cop⟩ ⟨wq.pos,wq.cop⟩;have kk:pV H Q (uU r q):=by rw[z];exact k
 unfold uU at kk;simp only at kk;generalize ((S7 r.2 q.2:Nat):Int)=d at gp gb kk ⊢;refine⟨_,Z,p,_,_,_,Z,Z,hv,Z,_,Z,p',_,_,_,Z,Z,hw,Z,_,Z,_,_,Z,Z,⟨gp,gb⟩,_,_,Z,Z,⟨c1,iY gp c4⟩,_,Z,p',_,_,_,Z,Z,hw,Z,_,Z,p,_,_,_,Z,Z,hv,Z,_,Z,_,_,Z,Z,⟨gp,gb⟩,_,_,Z,Z,⟨c3,iY gp c2⟩,_,_,Z,Z,?_⟩;refine⟨_,Z,_,Z,_,_,Z,?_⟩;have ep:(0:Int)<(S7 (r.1*(q.2/d)+q.1*(r.2/d)) d:Nat):=cV gp;have eb:=oV (a:=r.1*(q.2/d)+q.1*(r.2/d)) gp gb;generalize ((S7 (r.1*(q.2/d)+q.1*(r.2/d)) d:Nat):Int)=e at ep eb kk ⊢;refine⟨_,Z,_,Z,_,_,Z,Z,⟨ep,eb⟩,_,Z,p,_,_,_,Z,Z,hv,Z,_,Z,_,_,Z,Z,⟨gp,gb⟩,_,Z,p',_,_,_,Z,Z,hw,Z,_,Z,_,_,Z,Z,⟨ep,eb⟩,_,_,Z,Z,⟨iY gp c2,iY ep c4⟩,jz,kk⟩
theorem l6(T:eA K mg t):bQ P w K mg base dQ 3 t.a_Q54 t.d_Q54 ["one","other"] (Bw K):=by
 refine T.F_Q54.ok IJ (λvs H Q E h=>?_) (λcdv A outer s H vs Q E hr h=>?_)
 ·obtain⟨_,_,_,_,_,_,rfl,_⟩:=h;rfl
 obtain⟨v,w,r,q,n,m,rfl,hv,hw,wr,wq,hz,k⟩:=h;refine dG.ok (av (aQ (cr (wH T) hr T.m_Q58 T.F_Q58.kp T.b_Q58 (ae (qv 0) (ae (bT (ae (ou jZ (b8 aD (qv 1) aj)) (ae (b8 aD (qv 1) aj) ag aH) rh)) ag cL) af)))) ?_;nofun
 obtain⟨p',rfl,hw⟩:=hw;refine⟨_,Z,_,Z,p',_,_,_,Z,Z,hw,Z,_,Z,_,Z,p',_,_,_,Z,Z,hw,Z,jz,λpt ht=>?_⟩;have s1:=aw ht (.tup [.int (-q.1),.int q.2]);refine⟨v,.ref pt,r,(-q.1,q.2),n,m,Z,hv.mono (aR.same s1),RV.of ai,wr,⟨wq.pos,by show(-q.1).natAbs<_;rw[aa8];exact wq.top,wq.bot,Ew wq.cop⟩,hz,λp hp=>?_⟩;refine k _ _ (s1.trans (aw hp _)) ?_;rw[←u3];exact RV.of ai
theorem oG(T:eA K mg t):bQ P w K mg base dQ 2 t.a_Q55 t.d_Q55 ["one","other"] (Bu K):=by
 refine T.F_Q55.ok v5 (λvs H Q E h=>?_) (λcdv A outer s H vs Q E hr h=>?_)
 ·obtain⟨_,_,_,_,_,_,rfl,_⟩:=h;rfl
 obtain⟨v,w,r,q,n,m,rfl,hv,hw,wr,wq,hz,k⟩:=h;refine dG.ok (ah (cM 2 v5.nd (cr (oH T) hr T.m_Q0 T.F_Q0.kp T.b_Q0 (ae (b8 aD (qv 0) aj) (ae (b8 aD (qv 1) aj) ag aH) aH))) (ah (cM 3 v5.nd (cr (oH T) hr T.m_Q0 T.F_Q0.kp T.b_Q0 (ae (b8 aD (qv 1) aj) (ae (b8 aD (qv 0) aj) ag aH) aH))) (av (aQ (bT (ae (aY cJ (aY eG (b8 aD (qv 0) aj) (qv 2)) (aY eG (b8 aD (qv 1) aj) (qv 3))) (ae (aY cJ (aY eG (b8 aD (qv 0) aj) (qv 3)) (aY eG (b8 aD (qv 1) aj) (qv 2))) ag bw) bw)))))) ?_
 nofun
 obtain⟨p,rfl,hv⟩:=hv;obtain⟨p',rfl,hw⟩:=hw;have c1:=bU wr.top (show n≤8990 by omega);have c2:=bU wr.bot (show n≤8990 by omega);have c3:=bU wq.top (show m≤8990 by omega);have c4:=bU wq.bot (show m≤8990 by omega);have lp:(0:Int)<(S7 r.1 q.2:Nat):=cV wq.pos;have lb:=oV (a:=r.1) wq.pos c4;have mp:(0:Int)<(S7 q.1 r.2:Nat):=cV wr.pos;have mb:=oV (a:=q.1) wr.pos c2;have z:=zy ⟨wr.pos,wr.cop⟩ ⟨wq.pos,wq.cop⟩;have kk:pV H Q (nM r q):=by rw[z];exact k
 unfold nM at kk;simp only at kk;refine⟨_,Z,p,_,_,_,Z,Z,hv,Z,_,Z,p',_,_,_,Z,Z,hw,Z,r.1,q.2,Z,_,Z,p',_,_,_,Z,Z,hw,Z,_,Z,p,_,_,_,Z,Z,hv,Z,q.1,r.2,Z,?_⟩;generalize ((S7 r.1 q.2:Nat):Int)=l at lp lb kk ⊢;generalize ((S7 q.1 r.2:Nat):Int)=m' at mp mb kk ⊢;refine⟨_,Z,p,_,_,_,Z,Z,hv,Z,_,Z,_,_,Z,Z,⟨lp,lb⟩,_,Z,p',_,_,_,Z,Z,hw,Z,_,Z,_,_,Z,Z,⟨mp,mb⟩,_,_,Z,Z,⟨iY lp c1,iY mp c3⟩,_,Z,p,_,_,_,Z,Z,hv,Z,_,Z,_,_,Z,Z,⟨mp,mb⟩,_,Z,p',_,_,_,Z,Z,hw,Z,_,Z,_,_,Z,Z,⟨lp,lb⟩,_,_,Z,Z,⟨iY mp c2,iY lp c4⟩,jz,kk⟩
theorem J3(T:eA K mg t):bQ P w K mg base dQ 3 t.a_Q59 t.d_Q59 ["one","other"] (Fc K):=by
 refine T.F_Q59.ok II (λvs H Q E h=>?_) (λcdv A outer s H vs Q E hr h=>?_)
 ·obtain⟨_,_,_,_,_,rfl,_⟩:=h;rfl
 obtain⟨v,w,r,n,m,rfl,hv,⟨pw,rfl,hw⟩,wr,m0,m24,hn,k⟩:=h;refine dG.ok (ah (cF (bj jD (b8 aD (qv 1) aj) aj (bB _)) (av dH) bC) (av (aQ (cr (oG T) hr T.m_Q55 T.F_Q55.kp T.b_Q55 (ae (qv 0) (ae (cr (Dt T) hr T.m_Q53 T.F_Q53.kp T.b_Q53 (ae (b8 aD (qv 1) aj) (ae (b8 aD (qv 1) aj) ag aH) aH)) ag aK) af))))) ?_
 nofun
 refine⟨_,Z,pw,_,_,_,Z,Z,hw,Z,Z,_,Z,dj (λz=>by injection z with z;omega) ?_⟩;refine⟨_,rfl,_,rfl,pw,_,_,_,rfl,rfl,hw,rfl,_,rfl,pw,_,_,_,rfl,rfl,hw,rfl,1,m,rfl,by omega,bU (n:=5) (by show((m:Int)).natAbs<32;omega) (by decide),λpr hpr=>?_⟩;have s1:=aw hpr (.tup [.int (d6 1 m).1,.int (d6 1 m).2]);have rr:RV K _ (.ref pr) (d6 1 m):=RV.of (ai (H:=H) (a:=pr) (o:=.tup [.int (d6 1 m).1,.int (d6 1 m).2]));rw[Ky m0] at rr s1 ⊢;refine⟨v,.ref pr,r,(1,(m:Int)),n,5,Z,hv.mono (aR.same s1),rr,wr,JZ m0 m24,by omega,λpt hpt=>?_⟩;exact k _ _ (s1.trans (aw hpt _)) (RV.of ai)
theorem wI(T:eA K mg t):bQ P w K mg base dQ 1 t.a_Q50 t.d_Q50 ["one","power"] (zL K):=by
 refine T.F_Q50.ok lX (λvs H Q E h=>?_) (λcdv A outer s H vs Q E hr h=>?_)
 ·obtain⟨_,_,_,_,rfl,_⟩:=h;rfl
 obtain⟨v,r,k₁,n,rfl,hv,wr,n1,h0,h6,k⟩:=h;refine dG.ok (ah (cM 2 lX.nd aj) (ah (cM 3 lX.nd aj) (ah (cB S9 Z (cD Z T.z_range (ae (qv 1) ag af)) (aJ (i:=4) lX.nd Z (by first|exact To Z|exact Tn Z)) (ah (cM 2 lX.nd (aY cJ (qv 2) (b8 aD (qv 0) aj))) (av (cM 3 lX.nd (aY cJ (qv 3) (b8 aD (qv 0) aj)))))) (av (aQ (bT (ae (qv 2) (ae (qv 3) ag af) af))))))) ?_
 nofun
 have kb:=G9 h0 (by omega:k₁≤100);obtain⟨p,rfl,hv⟩:=hv;refine⟨_,Z,k₁,Z,kb.1,kb.2,cR (lo:=0) (n:=k₁.toNat) (λi σ H'=>∃(x:Option V),σ=[some (.ref p),some (.int k₁),some (.int (r.1^i)),some (.int (r.2^i)),x]/\H'=H) ⟨none,by rw[YU,YU]<;>rfl,Z⟩ ?_ ?_⟩
 ·rintro i σ H1 hi ⟨x,rfl,rfl⟩;have b1:=yy (i:=i) wr.top n1 (by omega);have b2:=yy (i:=i) wr.bot n1 (by omega);refine⟨_,Z,_,Z,p,_,_,_,Z,Z,hv,Z,_,_,Z,Z,⟨b1,bU wr.top (by omega)⟩,?_⟩;refine⟨_,Z,_,Z,p,_,_,_,Z,Z,hv,Z,_,_,Z,Z,⟨b2,bU wr.bot (by omega)⟩,?_⟩;exact⟨_,by rw[YV,YV]<;>rfl,Z⟩
 ·rintro σ H1 ⟨x,rfl,rfl⟩;refine⟨_,Z,_,Z,jz,λq hq=>?_⟩;have e:=oC ⟨wr.pos,wr.cop⟩ k₁.toNat;refine k _ _ (aw hq _) ?_;rw[e];exact RV.of ai
theorem sZ(T:eA K mg t):bQ P w K mg base dQ 1 t.a_Q48 t.d_Q48 ["one","other"] (nX K):=by
 refine T.F_Q48.ok IL (λvs H Q E h=>?_) (λcdv A outer s H vs Q E hr h=>?_)
 ·obtain⟨_,_,_,_,_,_,rfl,_⟩:=h;rfl
 obtain⟨v,w,r,q,n,m,rfl,hv,hw,wr,wq,hz,k⟩:=h;refine dG.ok (av (aQ (gg mG (aY cJ (b8 aD (qv 0) aj) (b8 aD (qv 1) aj)) (aY cJ (b8 aD (qv 1) aj) (b8 aD (qv 0) aj)) (bB _)))) ?_;nofun
 obtain⟨p,rfl,hv⟩:=hv;obtain⟨p',rfl,hw⟩:=hw;have c1:=bU wr.top (show n≤8990 by omega);have c2:=bU wr.bot (show n≤8990 by omega);have c3:=bU wq.top (show m≤8990 by omega);have c4:=bU wq.bot (show m≤8990 by omega);refine⟨_,Z,p,_,_,_,Z,Z,hv,Z,_,Z,p',_,_,_,Z,Z,hw,Z,_,_,Z,Z,⟨c1,c4⟩,_,Z,p',_,_,_,Z,Z,hw,Z,_,Z,p,_,_,_,Z,Z,hv,Z,_,_,Z,Z,⟨c3,c2⟩,_,_,Z,Z,k⟩
theorem J6(T:eA K mg t):bQ P w K mg base dQ 2 t.a_Q51 t.d_Q51 ["one","other"] (zM K):=by
 refine T.F_Q51.ok IK (λvs H Q E h=>?_) (λcdv A outer s H vs Q E hr h=>?_)
 ·obtain⟨_,_,_,_,rfl,_⟩:=h;rfl
 obtain⟨v,w,r,q,rfl,hv,hw,ar,aq,k⟩:=h;refine dG.ok (ah (cF (cS (cr (sZ T) hr T.m_Q48 T.F_Q48.kp T.b_Q48 (ae (qv 1) (ae (qv 0) ag af) af))) (av (aQ (qv 1))) bC) (av (aQ (qv 0)))) ?_
 nofun
 refine⟨_,Z,_,Z,w,v,q,r,800,800,Z,hw,hv,aq.wf,ar.wf,by decide,_,Z,?_⟩
 cases c:dF q r with
 |true=>exact mX ⟨_,Z,k _ (by unfold fk;rw[if_pos c];exact hw)⟩
 |false=>exact d7 ⟨_,Z,k _ (by unfold fk;rw[if_neg (by rw[c];exact Tb)];exact hv)⟩
theorem Ds(T:eA K mg t):bQ P w K mg base dQ 3 t.a_Q56 t.d_Q56 ["some"] (Bt K):=by
 refine T.F_Q56.ok kg (λvs H Q E h=>?_) (λcdv A outer s H vs Q E hr h=>?_)
 ·obtain⟨_,_,_,_,_,rfl,_⟩:=h;rfl
 obtain⟨a,xs,rs,n,D₀,rfl,hS,hR,hWD,h0,hDn₀,hlen,hn,k⟩:=h;refine dG.ok (ah (cM 1 kg.nd CY) (ah (cB S9 Z (Jw (qv 0)) (aJ (i:=2) kg.nd Z (by first|exact To Z|exact Tn Z)) (av (Ft (yO hr) (qv 1) (b8 aD (qv 2) aj) (aY cX (CZ (yO hr) (qv 1) (b8 aD (qv 2) aj) aj ⟨Z,Z,Z,Z⟩) (b8 aD (qv 2) aj)) Z))) (ah (cM 3 kg.nd (c9 (v:=.ref t.c_NOUGHT) Z T.m_NOUGHT Z)) (ah (cB S9 Z (CT (qv 1)) (kq Z (bL (aJ (i:=4) kg.nd Z (by first|exact To Z|exact Tn Z)) (bL (aJ (i:=5) kg.nd Z (by first|exact To Z|exact Tn Z)) dS))) (av (cM 3 kg.nd (cr (wH T) hr T.m_Q58 T.F_Q58.kp T.b_Q58 (ae (qv 3) (ae (cr (Dt T) hr T.m_Q53 T.F_Q53.kp T.b_Q53 (ae (qv 5) (ae (qv 4) ag af) af)) ag aK) af))))) (av (aQ (qv 3))))))) ?_
 nofun
 refine λD hDn=>⟨_,Z,?_⟩
 have sD:=aw hDn (.dK []);rcases hS with hS|hS
 ·refine .inl ⟨a,Z,⟨_,sD.seq hS⟩,iX (K:=K) (a:=a) (xs:=xs) (λi σ H'=>∃(x:Option V) (ps:List (Int×Int)),σ=[some (.ref a),some (.ref D),x,none,none,none]/\aP H H'/\H' D=some (.dK (pW ps))/\mZ n i ps/\(∀p∈ps,p.1∣(D₀:Int))/\j0 ps=jW (rs.take i)) ⟨none,[],Z,sD,ai,mZ.nil n,(λ_ h=>nomatch h),Z⟩ (λi σ H1 _ ⟨_,_,_,s1,_⟩=>s1.seq hS) ?_ ?_⟩
  ·rintro i y σ H1 hi ⟨x,ps,rfl,s1,hD1,ok,dv,ev⟩;obtain⟨ry,hry,hyv⟩:=hR.at hi;have my:ry∈rs:=SF hry;have hil:=(SN.mp hry).1;obtain⟨py,rfl,hSy⟩:=hyv.mono (aR.same s1);have el:(pW ps).length=ps.length:=SE _;have hlp:(pW ps).length<sizeLine:=by rw[el];exact bi (by have:=ok.len;omega)
   refine⟨_,Z,D,Z,.inl ⟨_,.inl hD1⟩,_,Z,py,_,_,_,Z,Z,hSy,Z,_,kG.k (k:=TL ry.2) hD1,_,Z,py,_,_,_,Z,Z,hSy,Z,vU ps ry.2,ry.1,tW ps ry.2,Z,_,Z,_,Z,py,_,_,_,Z,Z,hSy,Z,D,_,Z,xN.k (k:=TL ry.2) hD1 hlp,?_⟩;refine⟨_,gz ps ry.2 ry.1,Z,λb o q=>?_,?_,ok.add (hWD ry my).1,zg (i:=0) (n:=0) dv (hWD ry my).2,?_⟩
   ·rw[aA (aU q hDn)];exact s1 b o q
   ·rw[sy ps _ _ ok.nd];exact ai
   ·rw[nO,ev,TY,hry];exact(lO _ _).symm
  ·rintro σ H1 ⟨x,ps,rfl,s1,hD1,ok,dv,ev⟩;rw[hR.1,Ud] at ev;rw[hR.1] at ok;refine⟨_,Z,D,pW ps,Z,hD1,λob=>qz (d:=D) (ob:=ob) (kvs:=pW ps) (λj σ H'=>∃(u:V) (acc:R) (y4 y5:Option V),σ=[some (.ref a),some (.ref D),x,some u,y4,y5]/\aP H H'/\H' D=some (.frz ob (.dK (pW ps)))/\RV K H' u acc/\Bq D₀ (64*2^n*j) acc/\val acc=j0 (ps.take j)) ⟨_,(0,1),none,none,Z,?_,ai,⟨_,Z,T.q_NOUGHT _⟩,⟨by decide,by decide,⟨(D₀:Int),by show(D₀:Int)=1*D₀;omega⟩,by show 0≤_;exact S8 _⟩,gY⟩ (λi σ H1 ⟨_,_,_,_,_,_,z,_⟩=>z) ?_ ?_⟩
   ·intro b o q;rw[aA (aU q hDn)];exact s1 b o q
   ·rintro j kk v p σ H2 hkv ⟨u,acc,y4,y5,rfl,s2,hD2,r2,w2,ev2⟩ hp;have hkv':(ps.map λp=>((TL p.1:cW),V.int p.2))[j]?=some (kk,v):=hkv;rw[SU] at hkv';obtain⟨q,hq,e⟩:=TQ.mp hkv'
    cases e
    have mq:=SF hq;have hjl:=(SN.mp hq).1;have wq:=ok.wf (by omega) mq;have lps:=ok.len;have gq:=Ec ok dv hlen mq;have wa:=EE w2 (by omega) h0 hDn₀;have bq:=ok.bot q mq;have e1:=aw hp (.tup [kV (TL q.1),V.int q.2]);refine⟨p,_,Z,bV.of ai,Z,_,_,Z,_,_,Z,Z,?_⟩;refine⟨_,Z,_,Z,_,Z,q.2,q.1,Z,bq.1,bU bq.2 (by omega),λp1 g1=>?_⟩;have e2:=aw g1 (.tup [.int (d6 q.2 q.1).1,.int (d6 q.2 q.1).2]);refine⟨u,.ref p1,acc,d6 q.2 q.1,2*n+12,n+8,Z,(r2.mono (aR.same e1)).mono (aR.same e2),RV.of ai,wa,wq,by omega,λp2 g2=>?_⟩;have e3:=aw g2 (.tup [.int (cP acc (d6 q.2 q.1)).1,.int (cP acc (d6 q.2 q.1)).2]);have s3:=((e1.trans e2).trans e3);refine⟨_,cP acc (d6 q.2 q.1),_,_,Z,s2.trans s3,s3 _ _ hD2,RV.of ai,(by rw[Xg];exact Bq.plus h0 w2 gq),?_⟩;rw[iH w2.pos wq.pos,lP bq.1,ev2,TY,hq];exact(lQ _ _).symm
   ·rintro σ H2 ⟨u,acc,y4,y5,rfl,s2,hD2,r2,w2,ev2⟩;have el:(pW ps).length=ps.length:=SE _;rw[el,Ud] at ev2;have es:=Be (λr hr=>(hWD r hr).1.red) w2.red (ev2.trans ev);rw[es] at r2;exact⟨_,Z,k u H2 s2 r2⟩
 ·refine .inr ⟨a,Z,⟨_,aR.same sD _ _ hS⟩,ic (K:=K) (a:=a) (xs:=xs) (λi σ H'=>∃(x:Option V) (ps:List (Int×Int)),σ=[some (.ref a),some (.ref D),x,none,none,none]/\aP H H'/\H' D=some (.dK (pW ps))/\mZ n i ps/\(∀p∈ps,p.1∣(D₀:Int))/\j0 ps=jW (rs.take i)) ⟨none,[],Z,sD,ai,mZ.nil n,(λ_ h=>nomatch h),Z⟩ (λi σ H1 _ ⟨_,_,_,s1,_⟩=>aR.same s1 _ _ hS) ?_ ?_⟩
  ·rintro i y σ H1 hi ⟨x,ps,rfl,s1,hD1,ok,dv,ev⟩;obtain⟨ry,hry,hyv⟩:=hR.at hi;have my:ry∈rs:=SF hry;have hil:=(SN.mp hry).1;obtain⟨py,rfl,hSy⟩:=hyv.mono (aR.same s1);have el:(pW ps).length=ps.length:=SE _;have hlp:(pW ps).length<sizeLine:=by rw[el];exact bi (by have:=ok.len;omega)
   refine⟨_,Z,D,Z,.inl ⟨_,.inl hD1⟩,_,Z,py,_,_,_,Z,Z,hSy,Z,_,kG.k (k:=TL ry.2) hD1,_,Z,py,_,_,_,Z,Z,hSy,Z,vU ps ry.2,ry.1,tW ps ry.2,Z,_,Z,_,Z,py,_,_,_,Z,Z,hSy,Z,D,_,Z,xN.k (k:=TL ry.2) hD1 hlp,?_⟩;refine⟨_,gz ps ry.2 ry.1,Z,λb o q=>?_,?_,ok.add (hWD ry my).1,zg (i:=0) (n:=0) dv (hWD ry my).2,?_⟩
   ·rw[aA (aU q hDn)];exact s1 b o q
   ·rw[sy ps _ _ ok.nd];exact ai
   ·rw[nO,ev,TY,hry];exact(lO _ _).symm
  ·rintro σ H1 ⟨x,ps,rfl,s1,hD1,ok,dv,ev⟩;rw[hR.1,Ud] at ev;rw[hR.1] at ok;refine⟨_,Z,D,pW ps,Z,hD1,λob=>qz (d:=D) (ob:=ob) (kvs:=pW ps) (λj σ H'=>∃(u:V) (acc:R) (y4 y5:Option V),σ=[some (.ref a),some (.ref D),x,some u,y4,y5]/\aP H H'/\H' D=some (.frz ob (.dK (pW ps)))/\RV K H' u acc/\Bq D₀ (64*2^n*j) acc/\val acc=j0 (ps.take j)) ⟨_,(0,1),none,none,Z,?_,ai,⟨_,Z,T.q_NOUGHT _⟩,⟨by decide,by decide,⟨(D₀:Int),by show(D₀:Int)=1*D₀;omega⟩,by show 0≤_;exact S8 _⟩,gY⟩ (λi σ H1 ⟨_,_,_,_,_,_,z,_⟩=>z) ?_ ?_⟩
   ·intro b o q;rw[aA (aU q hDn)];exact s1 b o q
   ·rintro j kk v p σ H2 hkv ⟨u,acc,y4,y5,rfl,s2,hD2,r2,w2,ev2⟩ hp;have hkv':(ps.map λp=>((TL p.1:cW),V.int p.2))[j]?=some (kk,v):=hkv;rw[SU] at hkv';obtain⟨q,hq,e⟩:=TQ.mp hkv'
    cases e
    have mq:=SF hq;have hjl:=(SN.mp hq).1;have wq:=ok.wf (by omega) mq;have lps:=ok.len;have gq:=Ec ok dv hlen mq;have wa:=EE w2 (by omega) h0 hDn₀;have bq:=ok.bot q mq;have e1:=aw hp (.tup [kV (TL q.1),V.int q.2]);refine⟨p,_,Z,bV.of ai,Z,_,_,Z,_,_,Z,Z,?_⟩;refine⟨_,Z,_,Z,_,Z,q.2,q.1,Z,bq.1,bU bq.2 (by omega),λp1 g1=>?_⟩;have e2:=aw g1 (.tup [.int (d6 q.2 q.1).1,.int (d6 q.2 q.1).2]);refine⟨u,.ref p1,acc,d6 q.2 q.1,2*n+12,n+8,Z,(r2.mono (aR.same e1)).mono (aR.same e2),RV.of ai,wa,wq,by omega,λp2 g2=>?_⟩;have e3:=aw g2 (.tup [.int (cP acc (d6 q.2 q.1)).1,.int (cP acc (d6 q.2 q.1)).2]);have s3:=((e1.trans e2).trans e3);refine⟨_,cP acc (d6 q.2 q.1),_,_,Z,s2.trans s3,s3 _ _ hD2,RV.of ai,(by rw[Xg];exact Bq.plus h0 w2 gq),?_⟩;rw[iH w2.pos wq.pos,lP bq.1,ev2,TY,hq];exact(lQ _ _).symm
   ·rintro σ H2 ⟨u,acc,y4,y5,rfl,s2,hD2,r2,w2,ev2⟩;have el:(pW ps).length=ps.length:=SE _;rw[el,Ud] at ev2;have es:=Be (λr hr=>(hWD r hr).1.red) w2.red (ev2.trans ev);rw[es] at r2;exact⟨_,Z,k u H2 s2 r2⟩
theorem Ko(T:eA K mg t):bQ P w K mg base dQ 2 t.a_Q15 t.d_Q15 ["some"] (nS K):=by
 refine T.F_Q15.ok rX (λvs H Q E h=>?_) (λcdv A outer s H vs Q E hr h=>?_)
 ·obtain⟨_,_,_,rfl,_⟩:=h;rfl
 obtain⟨a,xs,ws,rfl,hS,al,hn,ok,k⟩:=h;refine dG.ok (ah (cM 1 rX.nd aj) (ah (cB S9 Z (eh (qv 0)) (aJ (i:=2) rX.nd Z (by first|exact To Z|exact Tn Z)) (av (cM 1 rX.nd (aY cJ (qv 1) (aY eG (b8 aD (qv 2) aj) (cr (oH T) hr T.m_Q0 T.F_Q0.kp T.b_Q0 (ae (qv 1) (ae (b8 aD (qv 2) aj) ag aH) af))))))) (av (aQ (cj (N':=["one","bottom"]) (src:=[none,some 1]) Z (by exact(eh (qv 0))) (λ_ _ _ _ _=>(by exact(by exact aJ (i:=0) (by show Tz (["one","bottom"]:List TB);decide +kernel) (by exact Z) (by first|exact To Z|exact Tn Z)))) (λ_ _ _ _ _=>cN) (λ_ _ _ _ _=>(by exact(by exact(aY cJ (by exact(cO (cQ (K:=K) (by exact Z)) (by exact(qv 0)) aj (by exact λ_ _=>Z))) (by exact(aY eG (by exact(qv 1)) (by exact(cO (cQ (K:=K) (by exact Z)) (by exact(qv 0)) aj (by exact λ_ _=>Z))))))))) (by exact⟨Z,Z,Z,Z,trivial⟩) Z (by decide +kernel) Z (by decide +kernel) (by exact bH Z ⟨Z,trivial⟩)))))) ?_
 nofun
 have hlen:=al.len;rw[SE] at hlen;let Iv1:Nat->L2.St->Hp->Prop:=λi σ H'=>∃(B:Int) (x3:Option V),σ=[some (.ref a),some (.int B),x3]/\H'=H/\0<B/\B∣(84*5354228880^23)/\∀w∈ws.take i,w.2.2.2∣B
 refine⟨_,Z,a,Z,⟨_,hS⟩,iX (K:=K) (a:=a) (xs:=xs) Iv1 ⟨1,none,Z,Z,by decide,⟨(84*5354228880^23),Z⟩,by simp⟩ (λi σ H1 _ ⟨_,_,_,e,_⟩=>by rw[e];exact hS) ?_ ?_⟩
 ·rintro i x σ H1 hx ⟨B,x3,rfl,rfl,b0,bd,all⟩;obtain⟨r,hr,px,rfl,hSx⟩:=al.at hx;rw[SU] at hr;obtain⟨w,hw,er⟩:=TQ.mp hr;subst er;have okw:=ok w (SF hw);have c1:=okw.am.bot;have c2:=VU (by decide) okw.am.dvd;have B84:=VU (by decide) bd;have g0:0<(S7 B w.2.2.2:Int):=cV (by omega);have g1:(S7 B w.2.2.2:Int)≤w.2.2.2:=VU (by omega) (VP _ _);obtain⟨l0,l1,l2,l3⟩:=DU b0 (show 0<w.2.2.2 by omega) bd okw.am.dvd;refine⟨_,Z,_,Z,px,_,_,_,Z,Z,hSx,Z,_,Z,_,Z,px,_,_,_,Z,Z,hSx,Z,B,w.2.2.2,Z,_,_,Z,Z,⟨g0,AI (by omega) (by omega)⟩,_,_,Z,Z,⟨AI (by omega) (by omega),AI (Wd (by omega) (by omega)) (Int.le_trans (YA _ (by omega)) (by omega))⟩,?_⟩;refine⟨_,_,Z,Z,l0,l1,λz hz=>?_⟩;rw[TY,hw] at hz;rcases Ti.mp hz with h|h
  ·exact VS (all z h) l2
  ·have:z=w:=by simpa using h
   subst this;exact l3
 ·rintro σ H1 ⟨B,x3,rfl,rfl,b0,bd,all⟩;rw[hlen,Ud] at all;have B84:=VU (by decide) bd;refine⟨_,Z,a,Z,⟨_,hS⟩,λD hD=>dB (f8 hS) (λ_=>true) (λi=>V.int ((fq B ws).getD i 0)) hD (by omega) (λi x H' hi s' hx R E kR kE=>?_) λH4 s4 h4=>?_⟩
  ·obtain⟨r,hr,px,rfl,hSx⟩:=al.at hx;rw[SU] at hr;obtain⟨w,hw,er⟩:=TQ.mp hr;subst er;have okw:=ok w (SF hw);have t':=aR.same (K:=K) s';have e:(fq B ws).getD i 0=w.2.2.1*(B/w.2.2.2):=ax 0 (by unfold fq;rw[SU,hw];rfl);have q:=kR Z _ (aP.refl _);rw[e] at q;have:=okw.am.bot;have:=VU (by decide) okw.am.dvd;have:=okw.am.top;have:=okw.am.top';exact⟨ii.set Z,_,Z,px,_,_,_,Z,Z,t' _ _ hSx,Z,_,Z,_,Z,px,_,_,_,Z,Z,t' _ _ hSx,Z,_,_,Z,Z,⟨by omega,AI (by omega) (by omega)⟩,_,_,Z,Z,⟨AI (by omega) (by omega),AI (Wd (by omega) (by omega)) (Int.le_trans (YA _ (by omega)) (by omega))⟩,q⟩
  ·refine k D B H4 s4 hD b0 bd all ?_;rw[h4,show xs.length=(fq B ws).length by unfold fq;rw[SE];exact hlen,dW 0 V.int]
theorem J9(T:eA K mg t):bQ P w K mg base dQ 4 t.a_Q49 t.d_Q49 ["thing"] (vW K):=by
 refine T.F_Q49.ok v9 (λvs H Q E h=>?_) (λcdv A outer s H vs Q E hr h=>?_)
 ·obtain⟨_,_,rfl,_⟩:=h;rfl
 obtain⟨v,d,rfl,hD,k⟩:=h;refine dG.ok (ah (cF (d5 (cS (cr (wN T) hr T.m_Q14 T.F_Q14.kp T.b_Q14 (ae (qv 0) (ae aj ag aX) af)))) (av (aQ gI)) bC) (ah (cM 1 v9.nd (b8 aD (qv 0) aj)) (ah (cM 2 v9.nd (b8 aD (qv 0) aj)) (ah (cF (jC (kT (d5 (cS (cr (Hy T) hr T.m_Q8 T.F_Q8.kp T.b_Q8 (ae (qv 1) (ae (c9 (v:=.int (24)) Z T.m_TURNS ⟨_,Z⟩) ag af) af)))) (km (d5 (cS (cr (Hy T) hr T.m_Q8 T.F_Q8.kp T.b_Q8 (ae (qv 2) (ae (c9 (v:=.int (24)) Z T.m_TURNS ⟨_,Z⟩) ag af) af))))))) (av (aQ gI)) bC) (av (aQ (l4 (gg qo (qv 1) (qv 2) (bB _)) (lZ (cr (M9 T) hr T.m_Q1 T.F_Q1.kp T.b_Q1 (ae (b8 aD (qv 0) aj) ag aH)))))))))) ?_
 nofun
 refine⟨_,Z,v,d,3,Z,hD,⟨_,Z,?_⟩⟩
 cases c3:pM 3 d with
 |false=>
  refine mX ?_;rw[AV c3] at k;exact k
 |true=>
  refine d7 ?_;obtain⟨p,x,y,z,dx,dy,dz,rfl,rfl,hS,hx,hy,hz⟩:=bW.three hD c3;have kk:Q (.bl (oJ 24 dx&&(oJ 24 dy&&(OX dx dy&&eV dz)))) H:=k;refine⟨_,Z,p,_,_,_,Z,Z,hS,Z,_,Z,p,_,_,_,Z,Z,hS,Z,?_⟩;refine⟨_,Z,x,dx,24,Z,hx,_,Z,?_⟩
  cases cx:oJ 24 dx with
  |false=>
   rw[cx,VE] at kk;exact mX (mX kk)
  |true=>
   rw[cx,Wm] at kk;refine d7 ?_;refine⟨_,Z,y,dy,24,Z,hy,_,Z,?_⟩
   cases cy:oJ 24 dy with
   |false=>
    rw[cy,VE] at kk;exact mX kk
   |true=>
    rw[cy,Wm] at kk;refine d7 ?_;obtain⟨i,rfl,_⟩:=oI cx;obtain⟨j,rfl,_⟩:=oI cy
    cases hx
    cases hy
    have k3:Q (.bl (decide (i≤j)&&eV dz)) H:=kk;refine⟨_,Z,_,Z,_,_,Z,Z,_,Z,?_⟩;by_cases c:i≤j
    ·rw[decide_eq_true c,Wm] at k3;refine d8 c ?_;exact⟨_,Z,p,_,_,_,Z,Z,hS,Z,z,dz,Z,hz,k3⟩
    ·rw[decide_eq_false c,VE] at k3;exact dj c k3
theorem Dz(T:eA K mg t):bQ P w K mg base dQ 1 t.a_Q27 t.d_Q27 ["work","turn"] (rN K):=by
 refine T.F_Q27.ok IU (λvs H Q E h=>?_) (λcdv A outer s H vs Q E hr h=>?_)
 ·obtain⟨_,_,_,rfl,_⟩:=h;rfl
 obtain⟨v,w,t₀,rfl,⟨p,x,rfl,hS,rx⟩,k⟩:=h;refine dG.ok (av (aQ (uQ qo qo (b8 aD (qv 0) aj) (qv 1) (b8 aD (qv 0) aj)))) ?_;nofun
 refine⟨_,Z,p,_,_,_,Z,Z,hS,Z,_,Z,_,_,Z,Z,_,Z,?_⟩;by_cases c:w.1≤t₀
 ·refine d8 (by omega) ?_;have e:im w t₀=decide ((t₀:Int)≤(w.2.1:Int)):=by
   unfold im;rw[decide_eq_true c,Wm];exact decide_eq_decide.mpr (by omega)
  rw[e] at k;exact⟨_,Z,p,_,_,_,Z,Z,hS,Z,_,_,Z,Z,k⟩
 ·refine dj (by omega) ?_;have e:im w t₀=false:=by
   unfold im;rw[decide_eq_false c,VE]
  rw[e] at k;exact k
theorem Kn(T:eA K mg t):bQ P w K mg base dQ 1 t.a_Q16 t.d_Q16 ["count"] (nT K):=by
 refine T.F_Q16.ok IZ (λvs H Q E h=>?_) (λcdv A outer s H vs Q E hr h=>?_)
 ·obtain⟨_,rfl,_⟩:=h;rfl
 obtain⟨n,rfl,hn,k⟩:=h;refine dG.ok (av (aQ (cj (N':=["work","count"]) (src:=[none,some 0]) Z (by exact(cD Z T.z_range (ae (qv 0) ag af))) (λ_ _ _ _ _=>(by exact(by exact aJ (i:=0) (by show Tz (["work","count"]:List TB);decide +kernel) (by exact Z) (by first|exact To Z|exact Tn Z)))) (λ_ _ _ _ _=>cN) (λ_ _ _ _ _=>(by exact(by exact(aY yD (by exact(cE (ae gI ag aX))) (by exact(qv 1)))))) (by exact⟨Z,Z,Z,Z,trivial⟩) Z (by decide +kernel) Z (by decide +kernel) (by exact bH Z ⟨Z,trivial⟩)))) ?_;nofun
 refine⟨_,Z,n,Z,by omega,by omega,λD hD=>oZ (J:=EK 0 n) (n:=n) (λi ys H'=>∃rows:List Addr,ys=rows.map V.ref/\rows.length=i/\rows.Nodup/\D∉rows/\(∀r∈rows,H r=none)/\aP H H'/\H' D=some (.lst ys)/\∀r∈rows,H' r=some (.lst (zS n λ_=>false))) ⟨[],Z,Z,Vp,(λz=>by cases z),(λr hr=>by cases hr),aw hD _,ai,λr hr=>by cases hr⟩ (λi ys H' hi _=>hi) (λys H' ⟨rows,e1,e2,e3,e4,e5,e6,e7,e8⟩=>⟨SD _,k D rows H' e6 hD e5 ⟨by rw[e7,e1],e2,e3,e4,λi r e=>e8 r (SF e)⟩⟩) ?_⟩;rintro i ys H1 x H2 hi ⟨rows,rfl,e2,e3,e4,e5,e6,e7,e8⟩ ⟨rfl,rfl⟩ R E kR kE;refine⟨ii.set Z,?_⟩;refine⟨LR,λq hq=>?_⟩;have s1:=aw hq (.lst [.bl false]);refine⟨_,Z,q,.bl false,n,Z,Z,ai,by omega,λr hr=>?_⟩;have s2:=aw hr (.lst (Tq n (.bl false)));have s12:=s1.trans s2;have nr:r∉rows:=λm=>by rw[s1 _ _ (e8 r m)] at hr;cases hr
 have nD:r≠D:=λz=>by subst z;rw[s1 _ _ e7] at hr;cases hr
 have er:Tq n (V.bl false)=zS n λ_=>false:=by
  unfold zS;apply List.ext_getElem?;intro j;rw[V2,SU];by_cases c:j<n
  ·rw[if_pos c,VY c];rfl
  ·rw[if_neg c,Vg (by rw[TJ];omega)];rfl
 have hD4:=s12 _ _ e7;refine kR (.ref r) _ hD4 (bi (by rw[SE];omega)) ⟨rows++[r],by rw[Ub];rfl,by rw[SZ,e2];rfl,?_,?_,λz hz=>?_,λb o q=>?_,ai,λz hz=>?_⟩
 ·rw[Vt];exact⟨e3,Uf.mpr ⟨(λz=>by cases z),Vp⟩,λa ha b hb=>by rw[SJ.mp hb];exact λz=>nr (by rw[←z];exact ha)⟩
 ·intro m;rcases Ti.mp m with z|z
  ·exact e4 z
  ·exact nD (SJ.mp z).symm
 ·rcases Ti.mp hz with y|y
  ·exact e5 z y
  ·rw[SJ.mp y]
   cases c:H r with
   |none=>rfl
   |some o=>rw[s1 _ _ (e6 _ _ c)] at hr;cases hr
 ·rw[aA (aU q hD)];exact s12 _ _ (e6 _ _ q)
 ·rcases Ti.mp hz with y|y
  ·rw[aA (show z≠D from λw=>e4 (by rw[←w];exact y))];exact s12 _ _ (e8 z y)
  ·rw[SJ.mp y,aA nD,ai,er]
theorem Kd(T:eA K mg t):bQ P w K mg base dQ 1 t.a_Q41 t.d_Q41 ["leanings","lean"] (uM K):=by
 exact T.F_Q41.ok IP (λvs H Q E h=>h.elim) (λcdv A outer s H vs Q E hr h=>h.elim)
theorem Hx(T:eA K mg t):bQ P w K mg base dQ 2 t.a_Q9 t.d_Q9 ["count","leans"] (mV K):=by
 refine T.F_Q9.ok BG (λvs H Q E h=>?_) (λcdv A outer s H vs Q E hr h=>?_)
 ·obtain⟨_,_,rfl,_⟩:=h;rfl
 obtain⟨n,p,rfl,hS,hn,k⟩:=h;refine dG.ok (ah (cM 2 BG.nd (cr (Kn T) hr T.m_Q16 T.F_Q16.kp T.b_Q16 (ae (qv 0) ag af))) (ah (cB S9 Z (dI (qv 1)) (aJ (i:=3) BG.nd Z (by first|exact To Z|exact Tn Z)) (av (cI (cr (Kd T) hr T.m_Q41 T.F_Q41.kp T.b_Q41 (ae (qv 2) (ae (qv 3) ag af) af))))) (av (aQ (qv 2))))) ?_
 nofun
 refine⟨_,Z,n,Z,hn,λl rows H1 s1 hl hr m1=>?_⟩;let Iv1:Nat->L2.St->Hp->Prop:=λi σ H'=>∃(x4:Option V),σ=[some (.int n),some (.ref p),some (.ref l),x4]/\aP H1 H'
 refine⟨_,Z,p,Z,⟨_,aR.same (K:=K) s1 _ _ hS⟩,ic (K:=K) (a:=p) (xs:=[]) Iv1 ⟨none,Z,aP.refl _⟩ (λi σ H' _ ⟨_,_,s⟩=>aR.same (K:=K) (s1.trans s) _ _ hS) (λi x σ H' hx _=>by cases hx) ?_⟩;rintro σ H2 ⟨x4,rfl,s2⟩;exact⟨_,Z,k l rows H2 (s1.trans s2) (m1.same s2)⟩
theorem Kc(T:eA K mg t):bQ P w K mg base dQ 3 t.a_Q42 t.d_Q42 ["sheet"] (uJ K):=by
 refine T.F_Q42.ok gx (λvs H Q E h=>?_) (λcdv A outer s H vs Q E hr h=>?_)
 ·obtain⟨_,_,rfl,_⟩:=h;rfl
 obtain⟨v,ws,rfl,⟨p,a,b,rfl,hS,wv,hb⟩,w20,ok,k⟩:=h;refine dG.ok (ah (cM 1 gx.nd (b8 aD (qv 0) aj)) (ah (cM 2 gx.nd (cr (Hx T) hr T.m_Q9 T.F_Q9.kp T.b_Q9 (ae (aZ ba (by rfl) T.z_len UI (ae (qv 1) ag af)) (ae (b8 aD (qv 0) aj) ag aH) aK))) (ah (cM 3 gx.nd (cE ag)) (ah (cB S9 Z (ji Z T.z_enumerate (ae (qv 1) ag af)) (kq Z (bL (aJ (i:=4) gx.nd Z (by first|exact To Z|exact Tn Z)) (bL (aJ (i:=5) gx.nd Z (by first|exact To Z|exact Tn Z)) dS))) (ah (gf (i:=6) (N':=["base","other","leanings","number"]) (src:=[none,none,some 2,some 4]) gx.nd Z (by first|exact To Z|exact Tn Z) Z (by exact(ji Z T.z_enumerate (ae (qv 1) ag af))) (λ_ _ _ _ _=>(by exact(by exact jj (K:=K) (n:=2) (by exact Z) (by exact Z) (by exact bL (by exact aJ (i:=0) (by show Tz (["base","other","leanings","number"]:List TB);decide +kernel) (by exact Z) (by first|exact To Z|exact Tn Z)) (by exact bL (by exact aJ (i:=1) (by show Tz (["base","other","leanings","number"]:List TB);decide +kernel) (by exact Z) (by first|exact To Z|exact Tn Z)) dS))))) (λ_ _ _ _ _=>(fI (cS (by exact(cO (eT (K:=K) (by exact Z)) (by exact(cO (eT (K:=K) (by exact Z)) (by exact(qv 2)) (by exact(qv 3)) (by exact λ_ _=>Z))) (by exact(qv 0)) (by exact λ_ _=>Z)))))) (λ_ _ _ _ _=>(by exact(by exact(cO (cQ (K:=K) (by exact Z)) (by exact(qv 1)) aj (by exact λ_ _=>Z))))) (by exact⟨Z,Z,Z,Z,⟨Z,Z,Z,Z,trivial⟩⟩) Z (by decide +kernel) Z (by decide +kernel) (by exact bH Z ⟨Z,⟨Z,trivial⟩⟩)) (ah (gf (i:=7) (N':=["leaner","other","number","leanings"]) (src:=[none,none,some 4,some 2]) gx.nd Z (by first|exact To Z|exact Tn Z) Z (by exact(ji Z T.z_enumerate (ae (qv 1) ag af))) (λ_ _ _ _ _=>(by exact(by exact jj (K:=K) (n:=2) (by exact Z) (by exact Z) (by exact bL (by exact aJ (i:=0) (by show Tz (["leaner","other","number","leanings"]:List TB);decide +kernel) (by exact Z) (by first|exact To Z|exact Tn Z)) (by exact bL (by exact aJ (i:=1) (by show Tz (["leaner","other","number","leanings"]:List TB);decide +kernel) (by exact Z) (by first|exact To Z|exact Tn Z)) dS))))) (λ_ _ _ _ _=>(fI (cS (by exact(cO (eT (K:=K) (by exact Z)) (by exact(cO (eT (K:=K) (by exact Z)) (by exact(qv 3)) (by exact(qv 0)) (by exact λ_ _=>Z))) (by exact(qv 2)) (by exact λ_ _=>Z)))))) (λ_ _ _ _ _=>(by exact(by exact(cO (cQ (K:=K) (by exact Z)) (by exact(qv 1)) aj (by exact λ_ _=>Z))))) (by exact⟨Z,Z,Z,Z,⟨Z,Z,Z,Z,trivial⟩⟩) Z (by decide +kernel) Z (by decide +kernel) (by exact bH Z ⟨Z,⟨Z,trivial⟩⟩)) (ah (cM 8 gx.nd (aZ (AE Z) (by rfl) T.z_max boot_max (ae (aY wG (cE (ae (b8 aD (qv 5) aj) ag aH)) (qv 6)) ag bw))) (ah (cM 9 gx.nd (aZ (qH Z) (by rfl) T.z_min boot_min (ae (aY wG (cE (ae (b8 aD (qv 5) aj) ag aH)) (qv 7)) ag bw))) (ah (cF (bj iT (qv 8) (qv 9) (bB _)) (av dH) bC) (av (cI (eP Te Tk Tl ca (qv 3) (ae (bT (ae (qv 8) (ae (qv 9) (ae (b8 aD (qv 5) aj) ag aH) af) af)) ag cL)))))))))) (av (aQ (ck bG (by rfl) T.z_tuple UO (ae (qv 3) ag af)))))))) ?_
 nofun
 obtain⟨pa,xs,rfl,hpa,al⟩:=id wv;have hxl:=al.len;refine⟨_,Z,p,_,_,_,Z,Z,hS,Z,?_⟩;refine⟨_,Z,pa,_,Z,.inr hpa,_,Z,p,_,_,_,Z,Z,hS,Z,ws.length,b,(by rw[hxl];rfl),hb,by omega,λl rows H1 s1 MX1=>?_⟩;refine⟨(by show 0≤sizeLine;exact S8 _),λdl hdl=>?_⟩;obtain⟨s2,hd2⟩:=jy hdl (.lst []);have MX2:=MX1.same s2;have s02:=s1.trans s2;generalize aO H1 dl _=H2 at s2 hd2 MX2 s02 ⊢;have hdN:H dl=none:=by
  cases e:H dl with
  |none=>rfl
  |some o=>rw[s1 _ _ e] at hdl;cases hdl
 have ndl:dl≠l:=λz=>by subst z;rw[MX1.top] at hdl;cases hdl
 have ndr:dl∉rows:=λz=>by obtain⟨ys,e⟩:=MX1.ls _ z;rw[hdl] at e;cases e
 have t02:=aR.same (K:=K) s02;have mst:∀H',eX dl H2 H'->G1 H' l rows ws.length (λ_ _=>false):=λH' S=>⟨S.keep _ _ (λz=>ndl z.symm) MX2.top,MX2.len,MX2.nd,MX2.ne,λi r e=>S.keep _ _ (λz=>ndr (by rw[←z];exact SF e)) (MX2.row i r e)⟩
 have sst:∀H',eX dl H2 H'->aP H H':=λH' S b' o e=>S.keep b' o (λz=>by subst z;rw[hdN] at e;cases e) (s02 _ _ e)
 let Iv1:Nat->L2.St->Hp->Prop:=λi σ H'=>∃(ys:List V) (x5 x6 x7 x8 x9 x10:Option V),σ=[some (.ref p),some (.ref pa),some (.ref l),some (.ref dl),x5,x6,x7,x8,x9,x10]/\eX dl H2 H'/\H' dl=some (.lst ys)/\cH (zk K H') ys (ws.take i)
 refine⟨_,Z,pa,Z,⟨_,t02 _ _ hpa⟩,jr (sq:=bV K) (a:=pa) (xs:=xs) Iv1 ⟨[],none,none,none,none,none,none,Z,eX.refl ⟨_,hd2⟩,hd2,.nil⟩ (λi σ H' _ ⟨_,_,_,_,_,_,_,_,S,_⟩=>aR.step (K:=K) S _ _ (t02 _ _ hpa)) ?_ ?_⟩
 ·rintro i x pe σ H3 hx ⟨ys,x5,x6,x7,x8,x9,x10,rfl,S3,hd3,alI⟩ hpe;have hi:i<ws.length:=by have:=(SN.mp hx).1;omega
  obtain⟨w,hw,pw,am,rfl,hpw,ram⟩:=al.at hx;have wok:=(ok w (SF hw)).le;obtain⟨s4,hpe4⟩:=jy hpe (.tup [.int i,.ref pw]);generalize aO H3 pe _=H4 at s4 hpe4 ⊢;have S4:=S3.trans (eX.same s4 ⟨_,hd3⟩);have t4:=t02.trans (aR.step (K:=K) S4);refine⟨pe,_,Z,bV.of hpe4,Z,_,_,Z,_,_,Z,Z,?_⟩;have MX:=mst _ S4;have SM:=t4;have no0:((SC xs.length).filter λ_=>false).map (λ_=>V.int 0)=[]:=by rw[List.filter_eq_nil_iff.mpr λ_ _=>Tb];rfl
  refine⟨_,Z,pa,Z,⟨_,(SM _ _ hpa)⟩,λD1 hD1=>dB (qZ ((SM _ _ hpa))) (λ_=>false) (λ_=>V.int 0) hD1 (by omega) (λj y H' hj s' hy R E kR kE=>?_) λH5 s5 h5=>?_⟩
  ·obtain⟨pt,x',rfl,hx',hpt⟩:=hy;have hj':j<ws.length:=by omega
   have Ms:=MX.same s';obtain⟨rr,hrr⟩:∃r,rows[i]?=some r:=⟨_,Sz (by rw[MX.len];omega)⟩;refine⟨pt,_,Z,bV.of hpt,Z,_,_,Z,_,_,Z,Z,(ii.set Z).set' Z,?_⟩;exact⟨_,Z,_,Z,l,_,_,_,Z,Z,bu.of Ms.top,be (v:=V.ref rr) (by rw[SU,hrr];rfl),_,Z,rr,_,_,_,Z,Z,bu.of (Ms.row _ _ hrr),be (se (by omega)),_,Z,d7 (kE Z _ (aP.refl _))⟩
  rw[no0] at h5;have MX5:=MX.same s5;have SM5:=SM.trans (aR.same (K:=K) s5);refine⟨_,Z,pa,Z,⟨_,(SM5 _ _ hpa)⟩,λD2 hD2=>dB (qZ ((SM5 _ _ hpa))) (λ_=>false) (λ_=>V.int 0) hD2 (by omega) (λj y H' hj s' hy R E kR kE=>?_) λH6 s6 h6=>?_⟩
  ·obtain⟨pt,x',rfl,hx',hpt⟩:=hy;have hj':j<ws.length:=by omega
   have Ms:=MX5.same s';obtain⟨rr,hrr⟩:∃r,rows[j]?=some r:=⟨_,Sz (by rw[MX5.len];omega)⟩;refine⟨pt,_,Z,bV.of hpt,Z,_,_,Z,_,_,Z,Z,(ii.set Z).set' Z,?_⟩;exact⟨_,Z,_,Z,l,_,_,_,Z,Z,bu.of Ms.top,be (v:=V.ref rr) (by rw[SU,hrr];rfl),_,Z,rr,_,_,_,Z,Z,bu.of (Ms.row _ _ hrr),be (se (by omega)),_,Z,d7 (kE Z _ (aP.refl _))⟩
  rw[no0] at h6;have s46:=s5.trans s6;have h5':=s6 _ _ h5;have t6:=SM5.trans (aR.same (K:=K) s6);refine⟨_,Z,pw,_,_,_,Z,Z,t6 _ _ hpw,Z,LR,λq1 hq1=>?_⟩;have s7:=aw hq1 (.lst [.int (w.1:Nat)]);refine⟨_,Z,q1,D1,_,_,Z,Z,ai,s7 _ _ h5',VN (bi (by show 1≤1000;decide)),λq2 hq2=>?_⟩;have s8:=aw hq2 (.lst ([.int (w.1:Nat)]++[]));refine⟨q2,[((w.1:Nat):Int)],Z,bu.of ai,aaS,λM hM _=>?_⟩;rw[SJ.mp hM];have s78:=s7.trans s8;have h6':=s78 _ _ h6;have t8:=t6.trans (aR.same (K:=K) s78);refine⟨_,Z,pw,_,_,_,Z,Z,t8 _ _ hpw,Z,LR,λq3 hq3=>?_⟩;have s9:=aw hq3 (.lst [.int (w.2.1:Nat)]);refine⟨_,Z,q3,D2,_,_,Z,Z,ai,s9 _ _ h6',VN (bi (by show 1≤1000;decide)),λq4 hq4=>?_⟩;have sA:=aw hq4 (.lst ([.int (w.2.1:Nat)]++[]));refine⟨q4,[((w.2.1:Nat):Int)],Z,bu.of ai,aaS,λM hM _=>?_⟩;rw[SJ.mp hM];have s4A:=(s46.trans s78).trans (s9.trans sA);generalize aO (aO (aO (aO H6 q1 _) q2 _) q3 _) q4 _=HA at s4A ⊢;have SA:=S4.trans (eX.same s4A ⟨_,s4 _ _ hd3⟩);have hdA:=s4A _ _ (s4 _ _ hd3);refine⟨_,Z,_,Z,_,_,Z,Z,_,Z,dj (by omega) ?_⟩;refine⟨_,Z,.inl ⟨Z,_,bu.of hdA⟩,_,Z,_,Z,_,Z,pw,_,_,_,Z,Z,(t02.trans (aR.step (K:=K) SA)) _ _ hpw,Z,N4,λpn hpn=>?_⟩;obtain⟨sB,hpB⟩:=jy hpn (.tup [.int (w.1:Nat),.int (w.2.1:Nat),am]);generalize aO HA pn _=HB at sB hpB ⊢;have hdB:=sB _ _ hdA;have SB:=SA.trans (eX.same sB ⟨_,hdA⟩);have li:=alI.len;rw[Uk] at li;refine⟨dl,ys,_,Z,Z,hdB,bi (by omega),?_⟩;have tC:aR K HB (aO HB dl (.lst (ys++[.ref pn]))):=aR.up hdB _;have tI:=(((aR.same (K:=K) s4).trans (aR.same s4A)).trans (aR.same sB)).trans tC;refine⟨_,_,_,_,_,_,_,Z,SB.trans (eX.up hdB),ai,?_⟩;rw[TY,hw];exact(alI.mono λ_ _ z=>z.mono tI).snoc ⟨pn,am,Z,tC _ _ (bV.of hpB),((ram.mono t02).mono (aR.step (K:=K) SB)).mono tC⟩
 ·rintro σ H3 ⟨ys,x5,x6,x7,x8,x9,x10,rfl,S3,hd3,alI⟩;refine⟨_,Z,dl,_,Z,.inl ⟨bu.of hd3,λpt hpt=>?_⟩⟩;have s4:=aw hpt (.tup ys);rw[hxl,Ud] at alI;exact k (.ref pt) _ ((sst _ S3).trans s4) ⟨pt,ys,Z,bV.of ai,alI.mono λ_ _ z=>z.mono (aR.same s4)⟩
theorem Ks(T:eA K mg t):bQ P w K mg base dQ 2 t.a_Q10 t.d_Q10 ["works","left"] (mT K):=by
 refine T.F_Q10.ok rY (λvs H Q E h=>?_) (λcdv A outer s H vs Q E hr h=>?_)
 ·obtain⟨_,_,_,_,rfl,_⟩:=h;rfl
 obtain⟨v,q,ws,ls,rfl,⟨p,xs,rfl,hS,al⟩,hw,hq,hl,k⟩:=h;refine dG.ok (ah (cM 2 rY.nd (cE ag)) (ah (cB S9 Z (dI (qv 0)) (aJ (i:=3) rY.nd Z (by first|exact To Z|exact Tn Z)) (ah (gf (i:=4) (N':=["place","turn","work"]) (src:=[none,none,some 3]) rY.nd Z (by first|exact To Z|exact Tn Z) Z (by exact(ji Z T.z_enumerate (ae (qv 1) ag af))) (λ_ _ _ _ _=>(by exact(by exact jj (K:=K) (n:=2) (by exact Z) (by exact Z) (by exact bL (by exact aJ (i:=0) (by show Tz (["place","turn","work"]:List TB);decide +kernel) (by exact Z) (by first|exact To Z|exact Tn Z)) (by exact bL (by exact aJ (i:=1) (by show Tz (["place","turn","work"]:List TB);decide +kernel) (by exact Z) (by first|exact To Z|exact Tn Z)) dS))))) (λ_ _ _ _ _=>(fI (cS (by exact(gh (Dz T) (by exact hr.mono (by decide)) (by exact Z) T.m_Q27 T.F_Q27.kp T.b_Q27 (by exact .nil) (by exact iQ) (ae (by exact(qv 2)) (ae (by exact(qv 1)) ag af) af)))))) (λ_ _ _ _ _=>(by exact(by exact(qv 0)))) (by exact⟨Z,Z,Z,Z,trivial⟩) Z (by decide +kernel) Z (by decide +kernel) (by exact bH Z ⟨Z,trivial⟩)) (av (cI (eP Te Tk Tl ca (qv 2) (ae (oz (bj iT (aZ ba (by rfl) T.z_len UI (ae (qv 4) ag af)) aj (bB _)) (bT (ae (b8 cc (qv 4) aj) (ae (b8 cc (qv 4) (ou jZ aj)) ag aH) aH)) sx) ag E6)))))) (av (aQ (qv 2))))) ?_
 nofun
 have hlen:=al.len;refine⟨(by show 0≤sizeLine;exact S8 _),λl h0=>?_⟩;have s0:=aw h0 (.lst []);let Iv1:Nat->L2.St->Hp->Prop:=λi σ H'=>∃(ys:List V) (x4 x5:Option V),σ=[some (.ref p),some (.ref q),some (.ref l),x4,x5]/\aP H H'/\H' l=some (.lst ys)/\cH (xI K H') ys ((ws.take i).map (bZ ls))
 refine⟨_,Z,p,Z,⟨_,aR.same (K:=K) s0 _ _ hS⟩,ic (K:=K) (a:=p) (xs:=xs) Iv1 ⟨[],none,none,Z,s0,ai,.nil⟩ (λi σ H1 _ ⟨_,_,_,_,sm,_⟩=>aR.same sm _ _ hS) ?_ ?_⟩
 ·rintro i x σ H1 hx ⟨ys,x4,x5,rfl,s1,hl1,al1⟩;obtain⟨w,hwi,wv⟩:=al.at hx;have hq1:=aR.same (K:=K) s1 _ _ hq;have nl:(bO ls).length=ls.length:=SE _;refine⟨_,Z,q,Z,⟨_,hq1⟩,λD hD=>dB (qZ hq1) (λi=>im w (ls.getD i 0)) (λi=>V.int i) hD (by omega) (λj y H' hj s' hy R E kR kE=>?_) λH4 s4 h4=>?_⟩
  ·obtain⟨pt,z,rfl,hz,hpt⟩:=hy;obtain⟨z',hz',rfl⟩:∃z',ls[j]?=some z'/\V.int (z':Nat)=z:=by
    unfold bO at hz;rw[SU] at hz;exact TQ.mp hz
   rw[ax 0 hz'] at kR kE;refine⟨pt,_,Z,bV.of hpt,Z,_,_,Z,_,_,Z,Z,(ii.set Z).set' Z,?_⟩;refine⟨_,Z,_,Z,x,w,z',Z,wv.mono (aR.same (s1.trans s')),_,Z,?_⟩
   cases c:im w z' with
   |true=>exact mX ⟨_,Z,kR c _ (aP.refl _)⟩
   |false=>exact d7 (kE c _ (aP.refl _))
  rw[nl] at h4
  replace h4:H4 D=some (.lst ((hX ls w).map λi:Nat=>V.int i)):=h4
  have hl4:=s4 _ _ hl1;have ne:D≠l:=λz=>by subst z;rw[hl1] at hD;cases hD
  have hle:=al1.len;rw[SE,Uk] at hle;have ewi:(ws.take (i+1)).map (bZ ls)=(ws.take i).map (bZ ls)++[bZ ls w]:=by
   rw[TY,hwi,Ub];rfl
  refine⟨_,Z,.inl ⟨Z,_,bu.of hl4⟩,_,Z,D,_,Z,.inl (bu.of h4),_,_,Z,Z,_,Z,?_⟩
  cases c:hX ls w with
  |nil=>
   rw[c] at h4;refine d7 ?_;refine⟨l,_,_,Z,Z,hl4,bi (by omega),?_⟩;refine⟨_,_,_,Z,?_,ai,?_⟩
   ·intro b o e;rw[aA (aU e h0)];exact s4 _ _ (s1 _ _ e)
   ·rw[ewi];refine(al1.mono λv d m=>m.mono ((aR.same s4).trans (aR.up hl4 _))).snoc ?_;unfold bZ;rw[c];rfl
  |cons a r=>
   rw[c] at h4;refine d8 (by show(0:Int)<((List.map (λi:Nat=>V.int i) (a::r)).length:Int);rw[SE,Tv];omega) ?_;have hlast:ug ((a::r).map λi:Nat=>V.int i) (-1)=some (.int ((a::r).getLast (by simp):Nat)):=by
    have e:=XM (show(a::r)≠[] by simp);have e2:(a::r).map (λi:Nat=>V.int i)=(a::r).dropLast.map (λi:Nat=>V.int i)++[V.int ((a::r).getLast (by simp):Nat)]:=by
     conv=>lhs;rw[←e]
     rw[Ub];rfl
    rw[e2];exact vE _ _
   have hfst:ug ((a::r).map λi:Nat=>V.int i) 0=some (.int (a:Nat)):=be (j:=0) Z;refine⟨_,Z,D,_,_,_,Z,Z,bu.of h4,hfst,_,Z,_,Z,D,_,_,_,Z,Z,bu.of h4,hlast,jz,λpt hpt=>?_⟩;have s5:=aw hpt (.tup [.int a,.int ((a::r).getLast (by simp):Nat)]);have hl5:=s5 _ _ hl4;refine⟨l,_,_,Z,Z,hl5,bi (by omega),?_⟩;refine⟨_,_,_,Z,?_,ai,?_⟩
   ·intro b o e;rw[aA (aU e h0)];exact s5 _ _ (s4 _ _ (s1 _ _ e))
   ·rw[ewi];refine(al1.mono λv d m=>m.mono (((aR.same s4).trans (aR.same s5)).trans (aR.up hl5 _))).snoc ?_;unfold bZ;rw[c];exact⟨pt,Z,aR.up (K:=K) hl5 _ _ _ (bV.of ai)⟩
 ·rintro σ H1 ⟨ys,x4,x5,rfl,s1,hl1,al1⟩;rw[hlen,Ud] at al1;exact⟨_,Z,k l ys H1 s1 h0 hl1 al1⟩
theorem Dr(T:eA K mg t):bQ P w K mg base dQ 1 t.a_Q60 t.d_Q60 ["windows","begin","end"] (Ff K):=by
 refine T.F_Q60.ok IH (λvs H Q E h=>?_) (λcdv A outer s H vs Q E hr h=>?_)
 ·obtain⟨_,_,_,_,rfl,_⟩:=h;rfl
 obtain⟨l,xs,os,p,rfl,hS,al,hn,k⟩:=h;refine dG.ok (av (aQ (cj (N':=["number","window","begin","end"]) (src:=[none,none,some 1,some 2]) Z (by exact(oq Z T.z_enumerate (ae (qv 0) ag af))) (λ_ _ _ _ _=>(by exact(by exact jj (K:=K) (n:=2) (by exact Z) (by exact Z) (by exact bL (by exact aJ (i:=0) (by show Tz (["number","window","begin","end"]:List TB);decide +kernel) (by exact Z) (by first|exact To Z|exact Tn Z)) (by exact bL (by exact aJ (i:=1) (by show Tz (["number","window","begin","end"]:List TB);decide +kernel) (by exact Z) (by first|exact To Z|exact Tn Z)) dS))))) (λ_ _ _ _ _=>(fI (jC (si (bj yE (by exact(qv 1)) sx (bB _)) (si (bj qo (by exact(qv 2)) (by exact(cO (cQ (K:=K) (by exact Z)) (by exact(qv 1)) aj (by exact λ_ _=>Z))) (bB _)) (sg (bj qo (by exact(cO (cQ (K:=K) (by exact Z)) (by exact(qv 1)) aj (by exact λ_ _=>Z))) (by exact(qv 3)) (bB _)))))))) (λ_ _ _ _ _=>(by exact(by exact(qv 0)))) (by exact⟨Z,Z,Z,Z,⟨Z,Z,Z,Z,trivial⟩⟩) Z (by decide +kernel) Z (by decide +kernel) (by exact bH Z ⟨Z,⟨Z,trivial⟩⟩)))) ?_;nofun
 have hlen:=al.len;refine⟨_,Z,l,Z,⟨_,hS⟩,λD hD=>dB (xU hS) (λi=>io p.1 p.2 (os.getD i none)) (λi=>V.int i) hD (by omega) (λi y H' hi s' hx R E kR kE=>?_) λH4 s4 h4=>?_⟩
 ·obtain⟨pt,x,rfl,hx,hpt⟩:=hx;obtain⟨o,ho,ow⟩:=al.at hx;have eo:os.getD i none=o:=ax none ho;rw[eo] at kR kE;refine⟨pt,_,Z,bV.of hpt,Z,_,_,Z,_,_,Z,Z,(ii.set Z).set' Z,?_⟩
  cases o with
  |none=>
   obtain rfl:x=.non:=ow;exact⟨_,Z,Z,_,Z,d7 (d7 (kE Z _ (aP.refl _)))⟩
  |some q=>
   obtain⟨pw,rfl,hw⟩:=ow;have hw':=aR.same (K:=K) s' _ _ hw;refine⟨_,Z,Z,_,Z,mX ?_⟩;refine⟨_,Z,_,Z,pw,_,_,_,Z,Z,hw',Z,_,_,Z,Z,_,Z,?_⟩;by_cases c:p.1≤q.1
   ·refine d8 (by omega) ?_;refine⟨_,Z,pw,_,_,_,Z,Z,hw',Z,_,Z,_,_,Z,Z,_,Z,?_⟩;by_cases c':q.2≤p.2
    ·refine d8 (by omega) ?_;exact⟨_,Z,kR (by show(decide (p.1≤q.1)&&decide (q.2≤p.2))=true;rw[decide_eq_true c,decide_eq_true c'];rfl) _ (aP.refl _)⟩
    ·refine dj (by omega) ?_;exact kE (by show(decide (p.1≤q.1)&&decide (q.2≤p.2))=false;rw[decide_eq_false c',UY]) _ (aP.refl _)
   ·refine dj (by omega) (d7 ?_);exact kE (by show(decide (p.1≤q.1)&&decide (q.2≤p.2))=false;rw[decide_eq_false c,VE]) _ (aP.refl _)
 ·refine k D H4 s4 hD ?_;rw[h4,hlen];rfl
theorem M8(T:eA K mg t):bQ P w K mg base dQ 2 t.a_Q2 t.d_Q2 ["windows","amounts","count"] (j9 K):=by
 refine T.F_Q2.ok iO (λvs H Q E h=>?_) (λcdv A outer s H vs Q E hr h=>?_)
 ·obtain⟨_,_,_,_,_,_,rfl,_⟩:=h;rfl
 obtain⟨l,a,xs,os,as,n,rfl,hS,al,hn,ha,hlen,hb,n1,n24,k⟩:=h;refine dG.ok (ah (cM 3 iO.nd (bT (ae aj (ae aj ag aX) aX))) (ah (cM 4 iO.nd (ou jZ aj)) (ah (cM 5 iO.nd aj) (ah (cB S9 Z (cD Z T.z_range (ae (qv 2) ag af)) (aJ (i:=6) iO.nd Z (by first|exact To Z|exact Tn Z)) (av (cB S9 Z (zU Z T.z_range (ae (aY iR (qv 2) aj) (ae (aY iR (qv 6) aj) (ae (ou jZ aj) ag rh) bw) bw)) (aJ (i:=7) iO.nd Z (by first|exact To Z|exact Tn Z)) (ah (cM 8 iO.nd (aZ (qE Z) (by rfl) T.z_sum boot_sum (ae (cj (N':=["number","amounts"]) (src:=[none,some 1]) Z (by exact(eh (cr (Dr T) hr T.m_Q60 T.F_Q60.kp T.b_Q60 (ae (qv 0) (ae (qv 6) (ae (qv 7) ag af) af) af)))) (λ_ _ _ _ _=>(by exact(by exact aJ (i:=0) (by show Tz (["number","amounts"]:List TB);decide +kernel) (by exact Z) (by first|exact To Z|exact Tn Z)))) (λ_ _ _ _ _=>cN) (λ_ _ _ _ _=>(by exact(by exact(cO (eT (K:=K) (by exact Z)) (by exact(qv 1)) (by exact(qv 0)) (by exact λ_ _=>Z))))) (by exact⟨Z,Z,Z,Z,trivial⟩) Z (by decide +kernel) Z (by decide +kernel) (by exact bH Z ⟨Z,trivial⟩)) ag dq))) (ah (cM 9 iO.nd (aY cX (aY iR (qv 7) (qv 6)) aj)) (av (cF (bj iT (aY iS (qv 8) (qv 5)) (aY iS (qv 4) (qv 9)) (bB _)) (ah (cM 3 iO.nd (bT (ae (qv 6) (ae (qv 7) ag af) af))) (ah (cM 4 iO.nd (qv 8)) (av (cM 5 iO.nd (qv 9))))) bC))))))) (av (aQ (qv 3))))))) ?_
 nofun
 have hxl:=al.len;have LB:=λq=>Gr hb hn q
 generalize hL:dJ os (jt as)=L at LB k;refine⟨jz,λp0 h0=>?_⟩;have s0:=aw h0 (.tup [.int 0,.int 0]);let Iv1:Nat->L2.St->Hp->Prop:=λi σ H'=>∃(vb:Addr) (ld ln:Int) (x7 x8 x9 x10:Option V),σ=[some (.ref l),some (.ref a),some (.int n),some (.ref vb),some (.int ld),some (.int ln),x7,x8,x9,x10]/\aP H H'/\pJ K H' (gM n i n) L vb ld ln
 refine⟨_,Z,_,Z,n,Z,by omega,by omega,cR (lo:=0) (n:=(n:Int).toNat) Iv1 ⟨p0,-1,1,none,none,none,none,Z,s0,.inl ⟨Z,Z,λr hr=>?_⟩⟩ ?_ ?_⟩
 ·unfold gM ju at hr;omega
 ·rintro i σ H1 hi ⟨vb,ld,ln,x7,x8,x9,x10,rfl,s1,best⟩;have hin:i<n:=by omega
  rw[Vm];refine⟨_,Z,_,_,Z,Z,_,Z,_,_,Z,Z,_,Z,_,_,Z,⟨by omega,by omega,by omega,by omega⟩,Ef (hi:=(n:Int)-1) (n:=((n:Int)-1-((i:Int)-1)).toNat) (λj σ H'=>∃(vb:Addr) (ld ln:Int) (x8 x9 x10:Option V),σ=[some (.ref l),some (.ref a),some (.int n),some (.ref vb),some (.int ld),some (.int ln),some (.int i),x8,x9,x10]/\aP H H'/\pJ K H' (gM n i (n-j)) L vb ld ln) ⟨vb,ld,ln,x8,x9,x10,Z,s1,best⟩ ?_ ?_⟩
  ·rintro j σ H2 hj ⟨vb,ld,ln,x8,x9,x10,rfl,s2,best⟩;obtain⟨e,he⟩:∃e:Nat,n-j=e+1:=⟨n-j-1,by omega⟩;rw[he] at best;rw[show(n:Int)-1-(j:Int)=(e:Nat) by omega,show n-(j+1)=e by omega];have t2:=aR.same (K:=K) s2;refine⟨_,Z,_,Z,_,Z,l,xs,os,(i,e),Z,s2.seq hS,al.mono (λ_ _ m=>m.mono t2),hn,λD H3 s3 hD h3=>?_⟩;refine⟨D,Z,⟨_,bu.of h3⟩,λE hE=>dB (f8 (bu.of h3)) (λ_=>true) (λm=>V.int (jt as ((c7 os (i,e)).getD m 0))) hE ?_ (λm x H' hm s' hx R E kR kE=>?_) λH4 s4 h4=>?_⟩
   ·unfold bO c7;rw[SE];have:=UN (λi_1=>io i e (os.getD i_1 none)) (SC os.length);rw[TJ] at this;exact Tu this (by omega)
   ·unfold bO at hx;rw[SU] at hx;obtain⟨z,hz,rfl⟩:=TQ.mp hx;have q:=kR Z _ (aP.refl _);rw[ax 0 hz] at q;have hzl:z<os.length:=by
     have:=SF hz;unfold c7 at this;exact SW.mp (Tw.mp this).1
    obtain⟨y,hy⟩:∃y,as[z]?=some y:=⟨_,Sz (by omega)⟩;rw[show jt as z=y from ax 0 hy] at q;exact⟨ii.set Z,_,Z,_,Z,a,_,_,_,Z,Z,((s2.trans s3).trans s').seq ha,be (by rw[SU,hy];rfl),q⟩
   have e4:H4 E=some (.lst (((c7 os (i,e)).map (jt as)).map V.int)):=by
    rw[h4,show(bO (c7 os (i,e))).length=(c7 os (i,e)).length from SE _,dW 0 (λk=>V.int (jt as k)),VR];rfl
   have s24:=s3.trans s4;have sH:=s2.trans s24;refine⟨E,_,Z,bu.of e4,?_⟩;have eL:((c7 os (i,e)).map (jt as)).sum=L (i,e):=by rw[←hL];rfl
   rw[eL];have lb:=LB (i,e);have elen:(e:Int)-(i:Int)+1=cU (i,e):=Z;refine⟨_,Z,_,Z,_,_,Z,Z,_,_,Z,Z,?_⟩;have lp:1≤cU (i,e)/\cU (i,e)≤24:=by rw[←elen];omega
   have bl:(ld=-1∨(0≤ld/\ld≤(64512*5354228880^23)))/\0<ln/\ln≤24:=by
    rcases best with⟨r1,r2,_⟩ | ⟨q,_,r1,r2,b⟩
    ·exact⟨.inl r1,by omega,by omega⟩
    ·exact⟨.inr (by rw[r1];exact LB q),by rw[r2];exact(show ju n q from b.inn.1).pos,by
      have z:=(show ju n q from b.inn.1);unfold ju at z;rw[r2];unfold cU;omega⟩
   refine⟨_,Z,_,Z,_,_,Z,Z,.inr ⟨by omega,by omega⟩,_,Z,_,Z,_,_,Z,Z,.inr ⟨by omega,by omega⟩,_,_,Z,Z,_,Z,?_⟩;have st:=λr=>vY (n:=n) (b:=i) (e:=e) (by omega) (by omega) r
   by_cases c:ld*cU (i,e)<L (i,e)*ln
   ·refine d8 c ?_;refine⟨_,Z,_,Z,jz,λpt hpt=>?_⟩;have s5:=aw hpt (.tup [.int (i:Nat),.int (e:Nat)]);refine⟨_,Z,_,Z,?_⟩;refine⟨pt,L (i,e),cU (i,e),_,_,_,Z,sH.trans s5,.inr ⟨(i,e),bV.of ai,Z,Z,?_⟩⟩;rcases best with⟨_,_,r3⟩ | ⟨q,_,r1,r2,b⟩
    ·exact AG λr=>⟨λh=>((st r).mp h).elim (λz=>absurd z (r3 r)) id,λh=>(st r).mpr (.inr h)⟩
    ·subst r1 r2;exact b.more (n:=n) (λr hr=>hr.1) st c
   ·refine dj c ?_;refine⟨vb,ld,ln,_,_,_,Z,sH,?_⟩;rcases best with⟨r1,r2,r3⟩ | ⟨q,hq,r1,r2,b⟩
    ·exfalso;subst r1 r2;apply c;omega
    ·subst r1 r2;refine .inr ⟨q,aR.same s24 _ _ hq,Z,Z,b.stay st (by omega) (.inl ?_)⟩;have:=b.inn;unfold gM at this;unfold uf;show q.1<i∨q.1=i/\e≤q.2;omega
  ·rintro σ H2 ⟨vb,ld,ln,x8,x9,x10,rfl,s2,best⟩;refine⟨vb,ld,ln,_,_,_,_,Z,s2,best.mono (λ_ _ h=>h) λr=>?_⟩;rw[show n-((n:Int)-1-((i:Int)-1)).toNat=i by omega];exact vZ r
 ·rintro σ H1 ⟨vb,ld,ln,x7,x8,x9,x10,rfl,s1,best⟩;rw[show(n:Int).toNat=n by omega] at best;refine⟨_,Z,?_⟩;rcases best with⟨_,_,r3⟩ | ⟨q,hq,_,_,b⟩
  ·exact absurd (show gM n n n (0,0) from⟨⟨SD _,by show 0<n;omega⟩,.inl (by show 0<n;omega)⟩) (r3 _)
  ·exact k vb q H1 s1 hq (b.congr zP)
theorem Kb(T:eA K mg t):bQ P w K mg base dQ 3 t.a_Q43 t.d_Q43 ["works","left"] (uC K):=by
 refine T.F_Q43.ok wd (λvs H Q E h=>?_) (λcdv A outer s H vs Q E hr h=>?_)
 ·obtain⟨_,_,_,_,rfl,_⟩:=h;rfl
 obtain⟨v,q,ws,ls,rfl,⟨p,xs,rfl,hS,al⟩,hw,ok,hq,l1,l24,k⟩:=h;refine dG.ok (ah (cM 2 wd.nd (cr (Ks T) hr T.m_Q10 T.F_Q10.kp T.b_Q10 (ae (qv 0) (ae (qv 1) ag af) af))) (ah (cM 3 wd.nd (cr (M8 T) hr T.m_Q2 T.F_Q2.kp T.b_Q2 (ae (qv 2) (ae (cr (Ko T) hr T.m_Q15 T.F_Q15.kp T.b_Q15 (ae (cj (N':=["work"]) (src:=[none]) Z (by exact(dI (qv 0))) (λ_ _ _ _ _=>(by exact(by exact aJ (i:=0) (by show Tz (["work"]:List TB);decide +kernel) (by exact Z) (by first|exact To Z|exact Tn Z)))) (λ_ _ _ _ _=>cN) (λ_ _ _ _ _=>(by exact(by exact(cO (cQ (K:=K) (by exact Z)) (by exact(qv 0)) aj (by exact λ_ _=>Z))))) (by exact trivial) Z (by decide +kernel) Z (by decide +kernel) (by exact bH Z trivial)) ag dq)) (ae (aZ ba (by rfl) T.z_len UI (ae (qv 1) ag af)) ag aK) aK) af))) (av (aQ (bT (ae (oy yf (qv 1) (m9 (b8 aD (qv 3) aj)) (m9 (aY cX (b8 aD (qv 3) aj) aj))) (ae (ck bG (by rfl) T.z_tuple UO (ae (cr (Dr T) hr T.m_Q60 T.F_Q60.kp T.b_Q60 (ae (qv 2) (ae (b8 aD (qv 3) aj) (ae (b8 aD (qv 3) aj) ag aH) aH) af)) ag aK)) ag aK) aH)))))) ?_
 nofun
 have nl:(bO ls).length=ls.length:=SE _;refine⟨_,Z,_,Z,.ref p,q,ws,ls,Z,⟨p,xs,Z,hS,al⟩,hw,hq,l24,λl ys H1 s1 hl0 hl1 al1=>?_⟩;have t1:=aR.same (K:=K) s1;refine⟨_,Z,_,Z,p,Z,⟨_,t1 _ _ hS⟩,λD hD=>dC (K:=K) (P:=RV K) (ds:=ws) (f:=λw:Wk=>w.2.2) (λ_ _ _ _ t p=>p.mono t) hD (ef (t1 _ _ hS)) al.len (by omega) (λi x d H' hx hd s' R E kR=>?_) λH2 ys2 s2 hD2 al2=>?_⟩
 ·obtain⟨d',hd',pw,xw,rfl,hSw,rx⟩:=al.at hx;rw[hd] at hd'
  cases hd'
  have t':=aR.same (K:=K) (s1.trans s');exact⟨ii.set Z,_,Z,pw,_,_,_,Z,Z,t' _ _ hSw,Z,kR _ _ (aP.refl _) (rx.mono t')⟩
 refine⟨D,ys2,ws,Z,bu.of hD2,al2,hw,ok,λl2 B H3 s3 hl2 b0 bd dv hl3=>?_⟩;have s13:=s2.trans s3;have t13:=aR.same (K:=K) s13;have sH3:=s1.trans s13;refine⟨_,Z,q,_,Z,.inr (aR.same (K:=K) sH3 _ _ hq),?_⟩;refine⟨l,l2,ys,ws.map (bZ ls),fq B ws,ls.length,(by rw[nl];rfl),s13.seq (bu.of hl1),al1.mono (λ_ _ m=>m.mono t13),by rw[SE];exact hw,bu.of hl3,by unfold fq;rw[SE,SE],Dn ok b0 bd,l1,l24,λpp pl H4 s4 hpp bst=>?_⟩;have sec:=bst.inn;have c1:pl.1≤pl.2:=sec.1;have c2:pl.2<ls.length:=sec.2;have sH4:=sH3.trans s4;refine⟨_,Z,_,Z,pp,_,_,_,Z,Z,hpp,Z,_,Z,_,Z,pp,_,_,_,Z,Z,hpp,Z,_,_,Z,Z,_,Z,q,_,Z,aR.same (K:=K) sH4 _ _ hq,λpc H5 s5 hpc=>?_⟩;rw[show(pl.2:Int)+1=((pl.2+1:Nat):Int) by omega,GK (by omega) (by omega)] at hpc;have t5:=aR.same (K:=K) s5;have t45:=aR.same (K:=K) (s13.trans (s4.trans s5));refine⟨_,Z,_,Z,pp,_,_,_,Z,Z,t5 _ _ hpp,Z,_,Z,pp,_,_,_,Z,Z,t5 _ _ hpp,Z,l,ys,ws.map (bZ ls),pl,Z,(s13.trans (s4.trans s5)).seq (bu.of hl1),al1.mono (λ_ _ m=>m.mono t45),by rw[SE];exact hw,λE H6 s6 hE hE6=>?_⟩;refine⟨E,_,Z,.inl ⟨bu.of hE6,λpe hpe=>?_⟩⟩;have s7:=aw hpe (.tup (bO (c7 (ws.map (bZ ls)) pl)));refine⟨jz,λpr hpr=>?_⟩;have s8:=aw hpr (.tup [.ref pc,.ref pe]);refine k (.ref pr) B pl _ ((((sH4.trans s5).trans s6).trans s7).trans s8) b0 bd dv bst ?_;exact⟨pr,pc,pe,Z,bV.of ai,aR.same (K:=K) ((s6.trans s7).trans s8) _ _ hpc,aR.same (K:=K) s8 _ _ (bV.of ai)⟩
theorem J5(T:eA K mg t):bQ P w K mg base dQ 4 t.a_Q52 t.d_Q52 ["works"] (zN K):=by
 refine T.F_Q52.ok kh (λvs H Q E h=>?_) (λcdv A outer s H vs Q E hr h=>?_)
 ·obtain⟨_,_,rfl,_⟩:=h;rfl
 obtain⟨v,ws,rfl,⟨p,xs,rfl,hS,al⟩,hw,ok,k⟩:=h;refine dG.ok (ah (cM 1 kh.nd (cE ag)) (ah (cM 2 kh.nd (ck (vA Z) (by rfl) T.z_tuple UO (ae (yq Z T.z_range (ae (c9 (v:=.int (24)) Z T.m_TURNS ⟨_,Z⟩) ag af)) ag aK))) (ah (cM 3 kh.nd (aZ ba (by rfl) T.z_len UI (ae (qv 0) ag af))) (ah (kU S9 (bj iT (qv 3) aj (bB _)) (ah (cM 4 kh.nd (cr (Kb T) hr T.m_Q43 T.F_Q43.kp T.b_Q43 (ae (qv 0) (ae (qv 2) ag af) af))) (ah (cI (eP Te Tk Tl ca (qv 1) (ae (qv 4) ag af))) (ah (cM 2 kh.nd (ck bG (by rfl) T.z_tuple UO (ae (cj (N':=["turn","layer"]) (src:=[none,some 4]) Z (by exact(dI (qv 2))) (λ_ _ _ _ _=>(by exact(by exact aJ (i:=0) (by show Tz (["turn","layer"]:List TB);decide +kernel) (by exact Z) (by first|exact To Z|exact Tn Z)))) (λ_ _ _ _ _=>(fI (bj (pU (K:=K) (by exact Z)) (by exact(qv 0)) (by exact(cO (cQ (K:=K) (by exact Z)) (by exact(qv 1)) aj (by exact λ_ _=>Z))) (by with_unfolding_all rfl)))) (λ_ _ _ _ _=>(by exact(by exact(qv 0)))) (by exact⟨Z,Z,Z,Z,trivial⟩) Z (by decide +kernel) Z (by decide +kernel) (by exact bH Z ⟨Z,trivial⟩)) ag dq))) (av (Jv (i:=3) kh.nd Z (by first|exact To Z|exact Tn Z) (aZ ba (by rfl) T.z_len UI (ae (b8 aD (qv 4) aj) ag aH)) KQ)))))) (av (aQ (ck bG (by rfl) T.z_tuple UO (ae (qv 1) ag af)))))))) ?_
 nofun
 have hlen:=al.len;refine⟨(by show 0≤sizeLine;exact S8 _),λl h0=>?_⟩;obtain⟨s0,hl0⟩:=jy h0 (.lst []);refine⟨_,Z,λpr hpr=>?_⟩;have s1:=aw hpr (.rng 0 24);refine⟨pr,24,Z,ai,by decide,λq0 hq0=>?_⟩;have s2:=aw hq0 (.tup ((B.upTo 24).map V.int));have hq0':bV K (aO (aO (aO H l (.lst [])) pr (.rng 0 24)) q0 (.tup ((B.upTo 24).map V.int))) q0 (bO (SC 24)):=by
  have e:bO (SC 24)=(B.upTo 24).map V.int:=by unfold bO B.upTo;rw[VR];rfl
  rw[e];exact bV.of (ai (H:=aO (aO H l (.lst [])) pr (.rng 0 24)) (a:=q0) (o:=.tup ((B.upTo 24).map V.int)))
 have s02:=(s0.trans s1).trans s2;have hl2:=s2 _ _ (s1 _ _ hl0);refine⟨_,Z,p,_,Z,.inr (aR.same (K:=K) s02 _ _ hS),?_⟩;have nf:=Gf ok;let Iv1:Nat->L2.St->Hp->Prop:=λm σ H'=>∃(acc:List (List Nat×List Nat)) (ys:List V) (q:Addr) (ls:List Nat) (x5:Option V),σ=[some (.ref p),some (.ref l),some (.ref q),some (.int (wO ws ls)),x5]/\aP H H'/\H' l=some (.lst ys)/\cH (Iq K H') ys acc/\bV K H' q (bO ls)/\ls.Nodup/\(∀t∈ls,t<24)/\ls.length≤24/\acc.length+wO ws ls≤ws.length/\(∀y∈acc,mE ws.length y)/\(∀r,iu ws ls r->iu ws (SC 24) (acc++r))/\m=wO ws ls
 refine⟨Iv1,⟨_,[],[],q0,SC 24,none,(by rw[nf,hlen];rfl),s02,hl2,.nil,hq0',Wz,(λt ht=>SW.mp ht),by decide,(by rw[nf];exact Xc (YZ _)),(λy hy=>by cases hy),(λr h=>h),Z⟩,?_⟩;rintro m σ H1 ⟨acc,ys,q,ls,x5,rfl,sm,hl1,al1,hq,nd,lt,l24,few,lok,con,rfl⟩;refine⟨_,Z,_,_,Z,Z,_,Z,?_⟩;by_cases c:wO ws ls=0
 ·refine dj (by omega) ?_;have ly:=con [] (.nil c);rw[UZ] at ly;refine⟨_,Z,l,_,Z,.inl ⟨bu.of hl1,λpt hpt=>?_⟩⟩;have s5:=aw hpt (.tup ys);exact k (.ref pt) acc _ (sm.trans s5) ⟨pt,ys,Z,bV.of ai,al1.mono λ_ _ m=>m.mono (aR.same s5)⟩ ly lok (by omega)
 ·refine d8 (by omega) ?_;refine⟨_,λ_ _ z=>z,?_⟩;have ln1:1≤ls.length:=by
   cases ls with
   |nil=>exact absurd (Kt ws) c
   |cons a r=>exact Xq (S8 _)
  refine⟨_,Z,_,Z,.ref p,q,ws,ls,Z,⟨p,xs,Z,aR.same (K:=K) sm _ _ hS,al.mono λ_ _ m=>m.mono (aR.same sm)⟩,hw,ok,hq,ln1,l24,λx B pl H2 s2 b0 bd dv bst lv=>?_⟩;have it:EU ws ls pl:=KP ok (bst.scale b0 (by decide) λq=>qh _ λi _=>uo ok dv i) c;have sec:=Gy it;have hl2:=s2 _ _ hl1;have hy:=al1.len;have sm2:=sm.trans s2;have lyo:mE ws.length (iU ws ls pl):=DR sec l24 lt;refine⟨_,Z,.inl ⟨Z,_,bu.of hl2⟩,_,Z,l,_,_,Z,Z,hl2,bi (by omega),?_⟩;have t3:aR K H2 (aO H2 l (.lst (ys++[x]))):=aR.up hl2 _;have sm3:aP H (aO H2 l (.lst (ys++[x]))):=λb o e=>by rw[aA (aU e h0)];exact sm2 _ _ e
  have hl3:aO H2 l (.lst (ys++[x])) l=some (.lst (ys++[x])):=ai;have al3:cH (Iq K (aO H2 l (.lst (ys++[x])))) (ys++[x]) (acc++[iU ws ls pl]):=(al1.mono λ_ _ m=>m.mono ((aR.same s2).trans t3)).snoc (lv.mono t3);have lv3:=lv.mono t3;have hq3:=t3 _ _ (aR.same (K:=K) s2 _ _ hq);generalize aO H2 l _=H3 at sm3 hl3 al3 lv3 hq3 ⊢;obtain⟨pL,a,b,rfl,hpL,ha,hb⟩:=lv3;have nl:(bO ls).length=ls.length:=SE _;refine⟨_,Z,q,Z,⟨_,hq3⟩,λD hD=>dB (ef hq3) (λi=>!(dU ls pl).contains (ls.getD i 0)) (λi=>V.int (ls.getD i 0:Nat)) hD (by omega) (λi x H' hi s' hx R E kR kE=>?_) λH4 s4 h4=>?_⟩
  ·unfold bO at hx;rw[SU] at hx;obtain⟨z,hz,rfl⟩:=TQ.mp hx;rw[ax 0 hz] at kR kE;have t':=aR.same (K:=K) s';refine⟨ii.set Z,_,Z,_,Z,pL,_,_,_,Z,Z,t' _ _ hpL,Z,a,_,Z,.inr (t' _ _ ha),Z,Eg _,_,Z,?_⟩;have e:KW (.int (z:Nat)) (bO (iU ws ls pl).1)=(dU ls pl).contains z:=Gz z (dU ls pl)
   cases cz:(dU ls pl).contains z with
   |true=>exact oQ (by show(!KW (.int (z:Nat)) (bO (iU ws ls pl).1))=false;rw[e,cz];rfl) (kE (by rw[cz];rfl) _ (aP.refl _))
   |false=>exact mL (by show(!KW (.int (z:Nat)) (bO (iU ws ls pl).1))=true;rw[e,cz];rfl) ⟨_,Z,kR (by rw[cz];rfl) _ (aP.refl _)⟩
  rw[nl,fX 0 (λt=>!(dU ls pl).contains t) (λt:Nat=>V.int t)] at h4
  replace h4:H4 D=some (.lst (bO (eO ls pl))):=h4
  refine⟨D,_,Z,.inl ⟨bu.of h4,λqn hqn=>?_⟩⟩;have s5:=aw hqn (.tup (bO (eO ls pl)));have hqn5:bV K _ qn (bO (eO ls pl)):=bV.of (ai (H:=H4) (a:=qn) (o:=.tup (bO (eO ls pl))));have s35:=s4.trans s5;generalize aO H4 qn _=H5 at s35 hqn5 ⊢;have t5:=aR.same (K:=K) s35;have rst:=Ge (ws:=ws) nd sec;have hp:=it.held;have lb:(bO (iU ws ls pl).2).length=(c7 (ws.map (bZ ls)) pl).length:=SE _;refine⟨_,Z,_,Z,pL,_,_,_,Z,Z,t5 _ _ hpL,Z,b,_,Z,.inr (t5 _ _ hb),_,_,Z,Z,?_⟩;have ew:((wO ws ls:Nat):Int)-((bO (iU ws ls pl).2).length:Int)=((wO ws (eO ls pl):Nat):Int):=by rw[lb];omega
  have rl:(eO ls pl).length≤ls.length:=UN _ _;refine⟨_,?_,acc++[iU ws ls pl],ys++[.ref pL],qn,eO ls pl,_,(by rw[←ew];rfl),sm3.trans s35,s35 _ _ hl3,al3.mono (λ_ _ m=>m.mono t5),hqn5,Fn nd pl,(λt ht=>lt t (Tw.mp ht).1),by omega,(by rw[SZ];show acc.length+1+_≤_;omega),(λy hy=>?_),(λr hr=>?_),Z⟩
  ·omega
  ·rcases Ti.mp hy with h|h
   ·exact lok y h
   ·rw[SJ.mp h];exact lyo
  ·have:=con _ (iu.cons it hr);rw[Xk];exact this
theorem M6(T:eA K mg t):bQ P w K mg base dQ 4 t.a_Q4 t.d_Q4 ["works","layer"] (lU K):=by
 refine T.F_Q4.ok Mu (λvs H Q E h=>?_) (λcdv A outer s H vs Q E hr h=>?_)
 ·obtain⟨_,_,_,_,rfl,_⟩:=h;rfl
 obtain⟨v,x,ws,y,rfl,⟨p,xs,rfl,hS,al⟩,hw,ok,lv,lok,k⟩:=h;refine dG.ok (av (aQ (cr (J3 T) hr T.m_Q59 T.F_Q59.kp T.b_Q59 (ae (cr (Ds T) hr T.m_Q56 T.F_Q56.kp T.b_Q56 (ae (cj (N':=["number","works"]) (src:=[none,some 0]) Z (by exact(dI (cO aD (qv 1) aj (λ_ _=>Z)))) (λ_ _ _ _ _=>(by exact(by exact aJ (i:=0) (by show Tz (["number","works"]:List TB);decide +kernel) (by exact Z) (by first|exact To Z|exact Tn Z)))) (λ_ _ _ _ _=>cN) (λ_ _ _ _ _=>(by exact(by exact(cO (cQ (K:=K) (by exact Z)) (by exact(cO (cQ (K:=K) (by exact Z)) (by exact(qv 1)) (by exact(qv 0)) (by exact λ_ _=>Z))) aj (by exact λ_ _=>Z))))) (by exact⟨Z,Z,Z,Z,trivial⟩) Z (by decide +kernel) Z (by decide +kernel) (by exact bH Z ⟨Z,trivial⟩)) ag dq)) (ae (bT (ae (aZ ba (by rfl) T.z_len UI (ae (cO aD (qv 1) aj (λ_ _=>Z)) ag aH)) (ae aj ag aX) aK)) ag cL) aK)))) ?_;nofun
 have hSl:=al.len;obtain⟨pL,a,b,rfl,hpL,ha,hb⟩:=lv;have nb:(bO y.2).length=y.2.length:=SE _;have na:(bO y.1).length=y.1.length:=SE _;have len:=lok.len;refine⟨_,Z,pL,_,_,_,Z,Z,hpL,Z,b,Z,⟨_,hb⟩,λD hD=>dC (K:=K) (P:=RV K) (ds:=y.2) (f:=λi=>(ws.getD i bh).2.2) (λ_ _ _ _ t p=>p.mono t) hD (ef hb) nb (by omega) (λi x d H' hx hd s' R E kR=>?_) λH2 ys2 s2 hD2 al2=>?_⟩
 ·have hx':(bO y.2)[i]?=some (V.int (d:Nat)):=by unfold bO;rw[SU,hd];rfl
  rw[hx] at hx'
  cases hx'
  have hdl:=lok.num d (SF hd);obtain⟨xw,hxw⟩:∃xw,xs[d]?=some xw:=⟨_,Sz (by omega)⟩;obtain⟨w,hwd,pw,xa,rfl,hSw,rx⟩:=al.at hxw;rw[ax bh hwd] at kR;have t':=aR.same (K:=K) s';exact⟨ii.set Z,_,Z,_,Z,p,_,_,_,Z,Z,t' _ _ hS,be hxw,pw,_,_,_,Z,Z,t' _ _ hSw,Z,kR _ _ (aP.refl _) (rx.mono t')⟩
 have wf:=Lb (n:=ws.length) ok lok;have la:(i3 ws y).length=y.2.length:=SE _;have am:∀r∈i3 ws y,Bq (84*5354228880^23) 12 r:=λr hr=>by
  obtain⟨i,hi,rfl⟩:=SR.mp hr;have hl:=lok.num i hi;rw[ax bh (Sz hl)];exact zb (ok _ (S2 hl)).am
 have sq:=((f9 (by decide) am).mono (SV _) (show 12*(i3 ws y).length≤768 by omega)).wf (n:=800) (by decide) (by decide) (by decide);refine⟨D,ys2,i3 ws y,760,(84*5354228880^23),Z,.inl (bu.of hD2),zc al2,λr hr=>⟨wf r hr,(am r hr).dvd⟩,by decide,by decide,by omega,by decide,λv' H3 s3 rv3=>?_⟩;have t23:=aR.same (K:=K) (s2.trans s3);refine⟨_,Z,pL,_,_,_,Z,Z,t23 _ _ hpL,Z,a,_,Z,.inr (t23 _ _ ha),jz,λpt hpt=>?_⟩;rw[na];have s4:=aw hpt (.tup [.int (y.1.length:Int),.int 1]);have pos:=lok.pos;have few:=lok.few;refine⟨v',.ref pt,eN (i3 ws y),800,y.1.length,Z,rv3.mono (aR.same s4),RV.of ai,sq,pos,few,by omega,λu H5 s5 r5=>?_⟩;exact k u H5 (((s2.trans s3).trans s4).trans s5) r5
theorem DF(T:eA K mg t):bQ P w K mg base dQ 5 t.a_Q11 t.d_Q11 ["works"] (mQ K):=by
 refine T.F_Q11.ok om (λvs H Q E h=>?_) (λcdv A outer s H vs Q E hr h=>?_)
 ·obtain⟨_,_,rfl,_⟩:=h;rfl
 obtain⟨v,ws,rfl,⟨p,xs,rfl,hS,al⟩,hw,ok,k⟩:=h;refine dG.ok (ah (cM 1 om.nd (aY yD (cE (ae (c9 (v:=.ref t.c_NOUGHT) Z T.m_NOUGHT Z) ag af)) (c9 (v:=.int (24)) Z T.m_TURNS ⟨_,Z⟩))) (ah (cB S9 Z (dI (cr (J5 T) hr T.m_Q52 T.F_Q52.kp T.b_Q52 (ae (qv 0) ag af))) (aJ (i:=2) om.nd Z (by first|exact To Z|exact Tn Z)) (ah (cM 3 om.nd (cr (M6 T) hr T.m_Q4 T.F_Q4.kp T.b_Q4 (ae (qv 0) (ae (qv 2) ag af) af))) (av (cB S9 Z (dI (b8 aD (qv 2) aj)) (aJ (i:=4) om.nd Z (by first|exact To Z|exact Tn Z)) (av (ko (qv 3) (ot (qv 1) (qv 4) gG))))))) (av (aQ (ck bG (by rfl) T.z_tuple UO (ae (qv 1) ag af)))))) ?_
 nofun
 refine⟨LR,λl0 h0=>?_⟩;have s0:=aw h0 (.lst [.ref t.c_NOUGHT]);refine⟨l0,.ref t.c_NOUGHT,24,Z,Z,ai,by decide,λl hl=>?_⟩;have s1:=aw hl (.lst (Tq 24 (.ref t.c_NOUGHT)));have s01:=s0.trans s1;have hln:H l=none:=by
  cases e:H l with
  |none=>rfl
  |some o=>rw[s0 _ _ e] at hl;cases hl
 have hl1:aO (aO H l0 (.lst [.ref t.c_NOUGHT])) l (.lst (Tq 24 (.ref t.c_NOUGHT))) l=some (.lst (Tq 24 (.ref t.c_NOUGHT))):=ai;generalize aO (aO H l0 _) l _=H1 at hl1 s01 ⊢;refine⟨_,Z,.ref p,ws,Z,⟨p,xs,Z,aR.same (K:=K) s01 _ _ hS,al.mono λ_ _ m=>m.mono (aR.same s01)⟩,hw,ok,λx lys H2 s2 lv ly lok ll=>?_⟩;obtain⟨pl,xl,rfl,hpl,all⟩:=lv;have hl2:=s2 _ _ hl1;have s02:=s01.trans s2;have wvS:∀H',aP H H'->eW K H' (.ref p) ws:=λH' s=>⟨p,xs,Z,aR.same (K:=K) s _ _ hS,al.mono λ_ _ m=>m.mono (aR.same s)⟩
 have smS:∀H',eX l H2 H'->aP H H':=λH' S b o e=>S.keep b o (λz=>by subst z;rw[hln] at e;cases e) (s02 _ _ e)
 let Iv1:Nat->L2.St->Hp->Prop:=λi σ H'=>∃(ys:List V) (x3 x4 x5:Option V),σ=[some (.ref p),some (.ref l),x3,x4,x5]/\eX l H2 H'/\H' l=some (.lst ys)/\cH (RV K H') ys (bn ws (lys.take i))
 refine⟨pl,Z,⟨_,hpl⟩,ic (K:=K) (a:=pl) (xs:=xl) Iv1 ⟨_,none,none,none,Z,eX.refl ⟨_,hl2⟩,hl2,cH.rep ⟨_,Z,T.q_NOUGHT _⟩ 24⟩ (λi σ H' _ ⟨_,_,_,_,_,S,_⟩=>aR.step (K:=K) S _ _ hpl) ?_ ?_⟩
 ·rintro i x σ H3 hx ⟨ys,x3,x4,x5,rfl,S3,hl3,al3⟩;obtain⟨y,hy,lvy⟩:=all.at hx;have lyo:=lok y (SF hy);have sm3:=smS _ S3;have lv3:=lvy.mono (aR.step (K:=K) S3);refine⟨_,Z,_,Z,.ref p,x,ws,y,Z,wvS _ sm3,hw,ok,lv3,lyo,λsv H4 s4 rv4=>?_⟩;have hl4:=s4 _ _ hl3;have lv4:=lv3.mono (aR.same s4);obtain⟨pL,a,b,rfl,hpL,ha,hb⟩:=lv4;have S4:=S3.trans (eX.same s4 ⟨_,hl3⟩);have al4:=al3.mono λ_ _ m=>m.mono (aR.same s4)
  have ly24:=al4.len;rw[show(bn ws (lys.take i)).length=24 by unfold bn;rw[kO];rfl] at ly24;let Iv2:Nat->L2.St->Hp->Prop:=λj σ H'=>∃(zs:List V) (x5:Option V),σ=[some (.ref p),some (.ref l),some (.ref pL),some sv,x5]/\eX l H4 H'/\H' l=some (.lst zs)/\zs.length=24/\cH (RV K H') zs (jx (eC ws y) (bn ws (lys.take i)) (y.1.take j))
  refine⟨_,Z,pL,_,_,_,Z,Z,hpL,Z,a,Z,⟨_,ha⟩,ic (K:=K) (a:=a) (xs:=bO y.1) Iv2 ⟨ys,_,Z,eX.refl ⟨_,hl4⟩,hl4,ly24,al4⟩ (λj σ H' _ ⟨_,_,_,S,_⟩=>aR.step (K:=K) S _ _ ha) ?_ ?_⟩
  ·rintro j tv σ H5 ht ⟨zs,x5,rfl,S5,hl5,zl,al5⟩;unfold bO at ht;rw[SU] at ht;obtain⟨tt,htt,rfl⟩:=TQ.mp ht;have lt:=lyo.lt tt (SF htt);refine⟨_,Z,_,Z,_,Z,l,zs,_,tt,Z,Z,hl5,lg (by omega),?_⟩;have t6:aR K H5 (aO H5 l (.lst (zs.set tt sv))):=aR.up hl5 _;refine⟨_,_,Z,S5.trans (eX.up hl5),ai,by rw[UH];exact zl,?_⟩;have e:jx (eC ws y) (bn ws (lys.take i)) (y.1.take (j+1))=(jx (eC ws y) (bn ws (lys.take i)) (y.1.take j)).set tt (eC ws y):=by
    unfold jx;rw[TY,htt,U9];rfl
   rw[e];exact cH.setI (rv4.mono ((aR.step (K:=K) S5).trans t6)) tt (al5.mono λ_ _ m=>m.mono t6)
  ·rintro σ H5 ⟨zs,x5,rfl,S5,hl5,zl,al5⟩;rw[show(bO y.1).length=y.1.length from SE _,Ud] at al5;refine⟨zs,_,_,_,Z,S4.trans S5,hl5,?_⟩;have e:bn ws (lys.take (i+1))=jx (eC ws y) (bn ws (lys.take i)) y.1:=by
    unfold bn;rw[TY,hy,U9];rfl
   rw[e];exact al5
 ·rintro σ H3 ⟨ys,x3,x4,x5,rfl,S3,hl3,al3⟩;rw[all.len,Ud] at al3;refine⟨_,Z,l,_,Z,.inl ⟨bu.of hl3,λpt hpt=>?_⟩⟩;have s5:=aw hpt (.tup ys);exact k pt ys lys _ ((smS _ S3).trans s5) (bV.of ai) (al3.mono λ_ _ m=>m.mono (aR.same s5)) ly
theorem M5(T:eA K mg t):bQ P w K mg base dQ 1 t.a_Q5 t.d_Q5 ["works","leanings","waiting"] (lW K):=by
 refine T.F_Q5.ok yh (λvs H Q E h=>?_) (λcdv A outer s H vs Q E hr h=>?_)
 ·obtain⟨_,_,_,_,_,_,rfl,_⟩:=h;rfl
 obtain⟨v,l,wl,ws,rows,ls,rfl,⟨p,xs,rfl,hS,al⟩,w8,m0,hwl,lt,ne,l8,k⟩:=h;refine dG.ok (ah (cM 3 yh.nd (aZ (qH Z) (by rfl) T.z_min boot_min (ae (cj (N':=["number","works"]) (src:=[none,some 0]) Z (by exact(eh (qv 2))) (λ_ _ _ _ _=>(by exact(by exact aJ (i:=0) (by show Tz (["number","works"]:List TB);decide +kernel) (by exact Z) (by first|exact To Z|exact Tn Z)))) (λ_ _ _ _ _=>cN) (λ_ _ _ _ _=>(by exact(by exact(cO (cQ (K:=K) (by exact Z)) (by exact(cO (cQ (K:=K) (by exact Z)) (by exact(qv 1)) (by exact(qv 0)) (by exact λ_ _=>Z))) aj (by exact λ_ _=>Z))))) (by exact⟨Z,Z,Z,Z,trivial⟩) Z (by decide +kernel) Z (by decide +kernel) (by exact bH Z ⟨Z,trivial⟩)) ag dq))) (ah (cM 4 yh.nd (cj (N':=["number","earliest","works"]) (src:=[none,some 3,some 0]) Z (by exact(eh (qv 2))) (λ_ _ _ _ _=>(by exact(by exact aJ (i:=0) (by show Tz (["number","earliest","works"]:List TB);decide +kernel) (by exact Z) (by first|exact To Z|exact Tn Z)))) (λ_ _ _ _ _=>(fI (bj jD (by exact(cO (cQ (K:=K) (by exact Z)) (by exact(cO (cQ (K:=K) (by exact Z)) (by exact(qv 2)) (by exact(qv 0)) (by exact λ_ _=>Z))) aj (by exact λ_ _=>Z))) (by exact(qv 1)) (bB _)))) (λ_ _ _ _ _=>(by exact(by exact(qv 0)))) (by exact⟨Z,Z,Z,Z,⟨Z,Z,Z,Z,trivial⟩⟩) Z (by decide +kernel) Z (by decide +kernel) (by exact bH Z ⟨Z,⟨Z,trivial⟩⟩))) (ah (CP (i:=5) (N':=["number","like","leanings"]) (y := "number") (src:=[none,some 4,some 1]) yh.nd Z (by first|exact To Z|exact Tn Z) Z (by exact(eh (qv 4))) (λ_ _ _ _ _=>(by exact(by exact aJ (i:=0) (by show Tz (["number","like","leanings"]:List TB);decide +kernel) (by exact Z) (by first|exact To Z|exact Tn Z)))) (λ_ _ _ _ _=>(fI (d5 (cS (by exact(aZ (xh (K:=K) (by exact Z) (by exact Z)) (by exact Z) T.z_any boot_any (ae (by exact(zW (N':=["base","leanings","number"]) (src:=[none,some 2,some 0]) (by exact Z) (by exact Z) (by exact(CS (K:=K) (by exact Z) (by exact(qv 1)))) (by exact λ_ _ _ _ _=>(by exact(by exact aJ (i:=0) (by show Tz (["base","leanings","number"]:List TB);decide +kernel) (by exact Z) (by first|exact To Z|exact Tn Z)))) (by exact λ_ _ _ _ _=>cN) (by exact λ_ _ _ _ _=>(by exact(by exact(cO (eT (K:=K) (by exact Z)) (by exact(cO (eT (K:=K) (by exact Z)) (by exact(qv 1)) (by exact(qv 2)) (by exact λ_ _=>Z))) (by exact(qv 0)) (by exact λ_ _=>Z))))) (by exact⟨Z,Z,Z,Z,⟨Z,Z,Z,Z,trivial⟩⟩) (by decide +kernel) (by exact Z) (by decide +kernel) (by exact bH Z ⟨Z,⟨Z,trivial⟩⟩))) ag dq))))))) (λ_ _ _ _ _=>(by exact(by exact(qv 0)))) (by exact⟨Z,Z,Z,Z,⟨Z,Z,Z,Z,trivial⟩⟩) Z (λ_=>Z) (λ_=>Z) Z (by decide +kernel) (by exact AD Z ⟨Z,⟨Z,trivial⟩⟩ Z)) (av (aQ (b8 cc (qv 5) aj)))))) ?_
 nofun
 have lx:xs.length=ws.length:=al.len;have lv:(bO ls).length=ls.length:=SE _;have pos:0<ls.length:=XQ.mpr ne;have at_:∀{H':Hp},aP H H'->∀i,i<ws.length->∃pw x,xs[i]?=some (.ref pw)/\bV K H' pw [.int (ws.getD i bh).1,.int (bS ws i:Nat),x]:=λ{H'} s i hi=>by
  have e:xs[i]?=some (xs[i]'(by omega)):=Sz _;obtain⟨w,hw,pw,x,ex,hSw,_⟩:=al.at e;refine⟨pw,x,by rw[e,ex],?_⟩;have g:ws.getD i bh=w:=ax bh hw;unfold bS;rw[g];exact aR.same s _ _ hSw
 have nat_:∀{zs:List Nat} {i:Nat} {x:V},(bO zs)[i]?=some x->∃n,zs[i]?=some n/\x=.int (n:Nat):=λ{zs i x} h=>by
  unfold bO at h;rw[SU] at h;obtain⟨n,hn,rfl⟩:=TQ.mp h;exact⟨n,hn,Z⟩
 refine⟨_,Z,wl,Z,⟨_,hwl⟩,λD1 hD1=>dB (f8 hwl) (λ_=>true) (λi=>V.int (bS ws (ls.getD i 0):Nat)) hD1 (by omega) (λi x H' hi sm hx Rk E kR _=>?_) λH1 s1 h1=>?_⟩
 ·obtain⟨n,hn,rfl⟩:=nat_ hx;obtain⟨pw,y,ex,hSw⟩:=at_ sm n (lt n (SF hn));rw[ax 0 hn] at kR;exact⟨ii.set Z,_,Z,_,Z,p,_,_,_,Z,Z,aR.same sm _ _ hS,be ex,pw,_,_,_,Z,Z,hSw,Z,kR Z _ (aP.refl _)⟩
 have e1:((SC (bO ls).length).filter λ_=>true).map (λi=>V.int (bS ws (ls.getD i 0):Nat))=(ls.map λi=>((bS ws i:Nat):Int)).map V.int:=by
  rw[lv,VR];exact dW 0 (λn=>V.int (bS ws n:Nat)) ls
 rw[e1] at h1;refine⟨D1,_,Z,bu.of h1,by rw[SE];exact pos,λM hM hle=>?_⟩;have key:∀i,i∈ls->(((bS ws i:Nat):Int)=M↔∀j∈ls,bS ws i≤bS ws j):=λi hi=>by
  constructor
  ·intro e j hj;have:=hle _ (SR.mpr ⟨j,hj,Z⟩);omega
  ·intro h;obtain⟨j,hj,e⟩:=SR.mp hM;have a:=h j hj;have b:=hle _ (SR.mpr ⟨i,hi,Z⟩);omega
 have hw1:bu K H1 wl (bO ls):=s1.seq hwl;refine⟨_,Z,wl,Z,⟨_,hw1⟩,λD2 hD2=>dB (f8 hw1) (λi=>ls.all λj=>decide (bS ws (ls.getD i 0)≤bS ws j)) (λi=>V.int (ls.getD i 0:Nat)) hD2 (by omega) (λi x H' hi sm hx Rk E kR kE=>?_) λH2 s2 h2=>?_⟩
 ·obtain⟨n,hn,rfl⟩:=nat_ hx;have sm':=s1.trans sm;have mn:=SF hn;obtain⟨pw,y,ex,hSw⟩:=at_ sm' n (lt n mn);rw[ax 0 hn] at kR kE;refine⟨ii.set Z,_,Z,_,Z,p,_,_,_,Z,Z,aR.same sm' _ _ hS,be ex,pw,_,_,_,Z,Z,hSw,Z,_,Z,Z,_,Z,?_⟩;by_cases c:((bS ws n:Nat):Int)=M
  ·refine d8 (by rw[c]) ⟨_,Z,kR ?_ _ (aP.refl _)⟩;rw[Vi];exact λj hj=>decide_eq_true ((key n mn).mp c j hj)
  ·refine dj (λz=>c (by injection z)) (kE ?_ _ (aP.refl _))
   cases q:ls.all λj=>decide (bS ws n≤bS ws j) with
   |false=>rfl
   |true=>
    rw[Vi] at q;exact absurd ((key n mn).mpr λj hj=>of_decide_eq_true (q j hj)) c
 have e2:((SC (bO ls).length).filter λi=>ls.all λj=>decide (bS ws (ls.getD i 0)≤bS ws j)).map (λi=>V.int (ls.getD i 0:Nat))=bO (ik ws ls):=by
  rw[lv];exact fX 0 (λn=>ls.all λj=>decide (bS ws n≤bS ws j)) (λn=>V.int (n:Nat)) ls
 rw[e2] at h2;have s12:=s1.trans s2;have lkl:∀i∈ik ws ls,i<ws.length:=λi hi=>lt i (kY.mp hi).1
 have ll:(ik ws ls).length≤ls.length:=UN _ _;have lk:(bO (ik ws ls)).length=(ik ws ls).length:=SE _;have hl2:bu K H2 D2 (bO (ik ws ls)):=bu.of h2;generalize hlk:ik ws ls=lk_ at h2 hl2 lkl ll lk;refine⟨_,Z,D2,Z,⟨_,hl2⟩,λD3 hD3=>dB (f8 hl2) (λ_=>true) (λi=>V.int (lk_.getD i 0:Nat)) hD3 (by omega) (λi x H' hi sm hx Rk E kR _=>?_) λH3 s3 h3=>?_⟩
 ·obtain⟨n,hn,rfl⟩:=nat_ hx;have nl:=lkl n (SF hn);have hl3:bu K H' D2 (bO lk_):=sm.seq hl2;have mm:=m0.same (s12.trans sm);rw[ax 0 hn] at kR;refine⟨ii.set Z,_,Z,D2,Z,⟨_,hl3⟩,λD4 hD4=>dB (f8 hl3) (λ_=>true) (λ_=>V.bl false) hD4 (by omega) (λj y H5 hj sm5 hy Rk2 E2 kR2 _=>?_) λH6 s6 h6=>?_⟩
  ·obtain⟨b,hb,rfl⟩:=nat_ hy;have m5:=mm.same sm5;obtain⟨rr,hrr⟩:∃r,rows[n]?=some r:=⟨_,Sz (by rw[mm.len];exact nl)⟩;exact⟨ii.set Z,_,Z,_,Z,l,_,_,_,Z,Z,bu.of m5.top,be (show(rows.map V.ref)[n]?=some (V.ref rr) by rw[SU,hrr];rfl),_,Z,rr,_,_,_,Z,Z,bu.of (m5.row n rr hrr),be (se (lkl b (SF hb))),kR2 Z _ (aP.refl _)⟩
  ·have e6:((SC (bO lk_).length).filter λ_=>true).map (λ_=>V.bl false)=(lk_.map λ_=>false).map V.bl:=by
    rw[lk,VR];exact dW 0 (λ_=>V.bl false) lk_
   rw[e6] at h6;refine⟨D4,_,Z,bu.of h6,_,Z,?_⟩;rw[aae,show lk_.any (id∘λ_=>false)=false from ZZ.mpr λ_ _=>Tb];exact mL (b:=!false) Z ⟨_,Z,kR Z _ s6⟩
 have e3:((SC (bO lk_).length).filter λ_=>true).map (λi=>V.int (lk_.getD i 0:Nat))=bO lk_:=by
  rw[lk];exact dW 0 (λn=>V.int (n:Nat)) lk_
 rw[e3] at h3;have nx:=tz (ws:=ws) ne;rw[hlk] at nx;exact⟨_,Z,D3,_,_,_,Z,Z,bu.of h3,be (j:=0) (show(bO lk_)[0]?=some (V.int (mH ws ls:Nat)) by unfold bO;rw[SU,nx];rfl),k _ (s12.trans s3)⟩
theorem Ka(T:eA K mg t):bQ P w K mg base dQ 3 t.a_Q44 t.d_Q44 ["works","leans"] (uD K):=by
 refine T.F_Q44.ok oh (λvs H Q E h=>?_) (λcdv A outer s H vs Q E hr h=>?_)
 ·obtain⟨_,_,_,rfl,_⟩:=h;rfl
 obtain⟨v,b,ws,rfl,ak,k⟩:=h;refine dG.ok (ah (cM 2 oh.nd (cr (Hx T) hr T.m_Q9 T.F_Q9.kp T.b_Q9 (ae (aZ ba (by rfl) T.z_len UI (ae (qv 0) ag af)) (ae (qv 1) ag af) aK))) (ah (cM 3 oh.nd (ck (xf Z) (by rfl) T.z_list boot_list (ae (yq Z T.z_range (ae (aZ ba (by rfl) T.z_len UI (ae (qv 0) ag af)) ag aK)) ag aK))) (ah (cM 4 oh.nd (cE ag)) (ah (kU S9 (bj iT (aZ ba (by rfl) T.z_len UI (ae (qv 3) ag af)) aj (bB _)) (ah (cM 5 oh.nd (cr (M5 T) hr T.m_Q5 T.F_Q5.kp T.b_Q5 (ae (qv 0) (ae (qv 2) (ae (qv 3) ag af) af) af))) (ah (cI (eP Te PySem.F.slot_list_remove PySem.F.type_list_remove Gm (qv 3) (ae (qv 5) ag af))) (av (cI (eP Te Tk Tl ca (qv 4) (ae (qv 5) ag af))))))) (av (aQ (qv 4))))))) ?_
 nofun
 obtain⟨p,xs,rfl,hS,al⟩:=id ak.wv;have lx:xs.length=ws.length:=al.len;have w8:=ak.w8;refine⟨_,Z,p,_,Z,.inr hS,_,Z,ws.length,b,(by rw[←lx];rfl),ak.lv,by omega,λlm rows H1 s1 m1=>?_⟩;have hS1:=aR.same (K:=K) s1 _ _ hS;refine⟨_,Z,p,_,Z,.inr hS1,_,Z,λpr hpr=>?_⟩;rw[lx];have s2:=aw hpr (.rng 0 ws.length);refine⟨pr,ws.length,Z,ai,by omega,λwl hwl=>?_⟩;have s3:=aw hwl (.lst ((B.upTo ws.length).map V.int));have s23:=s2.trans s3;have hw3:aO (aO H1 pr (.rng 0 ws.length)) wl (.lst ((B.upTo ws.length).map V.int)) wl=some (.lst ((B.upTo ws.length).map V.int)):=ai;have wl0:H1 wl=none:=by
  cases e:H1 wl with
  |none=>rfl
  |some o=>rw[s2 _ _ e] at hwl;cases hwl
 generalize aO (aO H1 pr _) wl _=H3 at s23 hw3 ⊢;refine⟨(by show 0≤sizeLine;exact S8 _),λlo hlo=>?_⟩;have s4:=aw hlo (.lst []);have nlw:lo≠wl:=λz=>by subst z;rw[hw3] at hlo;cases hlo
 have hw4:=s4 _ _ hw3;have ho4:aO H3 lo (.lst []) lo=some (.lst []):=ai;have s14:=s23.trans s4;have lo0:H1 lo=none:=by
  cases e:H1 lo with
  |none=>rfl
  |some o=>rw[s23 _ _ e] at hlo;cases hlo
 have eup:(B.upTo ws.length).map V.int=bO (dm ws.length (bD ws 0)):=by
  show _=bO ((SC ws.length).filter λi=>!([]:List Nat).contains i);have e:(SC ws.length).filter (λi=>!([]:List Nat).contains i)=SC ws.length:=UR.mpr λi _=>Z
  rw[e];unfold B.upTo bO;rw[VR];rfl
 rw[eup] at hw4;generalize aO H3 lo _=H4 at s14 hw4 ho4 ⊢;have keep:∀H',(∀b o,b≠wl->b≠lo->H4 b=some o->H' b=some o)->aP H1 H':=λH' kp b o e=>kp b o (λz=>by subst z;rw[wl0] at e;cases e) (λz=>by subst z;rw[lo0] at e;cases e) (s14 _ _ e)
 let Iv1:Nat->L2.St->Hp->Prop:=λm σ H'=>∃(i:Nat) (x5:Option V),σ=[some (.ref p),some (.ref b),some (.ref lm),some (.ref wl),some (.ref lo),x5]/\(∀b o,b≠wl->b≠lo->H4 b=some o->H' b=some o)/\H' wl=some (.lst (bO (dm ws.length (bD ws i))))/\H' lo=some (.lst (bO (bD ws i)))/\i≤ws.length/\m=ws.length-i
 refine⟨Iv1,⟨_,0,none,Z,λ_ _ _ _ e=>e,hw4,ho4,S8 _,Z⟩,?_⟩;rintro m σ H5 ⟨i,x5,rfl,kp,hw5,ho5,hi,rfl⟩;have oi:=fi (ws:=ws) i hi;have s5:=keep H5 kp;have wl_:=oi.wl;refine⟨_,Z,wl,_,Z,.inl (bu.of hw5),_,_,Z,Z,_,Z,?_⟩;have lnv:(bO (dm ws.length (bD ws i))).length=(dm ws.length (bD ws i)).length:=SE _;by_cases c:i<ws.length
 ·refine d8 (by omega) ⟨_,λ_ _ z=>z,?_⟩;obtain⟨oi1,j,hj,ej⟩:=oi.step c;refine⟨_,Z,_,Z,_,Z,.ref p,lm,wl,ws,rows,dm ws.length (bD ws i),Z,⟨p,xs,Z,aR.same s5 _ _ hS1,(al.mono λ_ _ z=>z.mono (aR.same s1)).mono λ_ _ z=>z.mono (aR.same s5)⟩,w8,m1.same s5,bu.of hw5,(λn hn=>(fT.mp hn).1),oi.ne c,by omega,λH6 s6=>?_⟩;refine⟨_,Z,.inl ⟨Z,_,bu.of (s6 _ _ hw5)⟩,_,Z,wl,_,j,_,Z,Z,s6 _ _ hw5,hj,Eh (xW _ _) hj,?_⟩;rw[ej];have ho6:=s6 _ _ ho5;have ho7:aO H6 wl (.lst ((dm ws.length (bD ws (i+1))).map λi:Nat=>V.int i)) lo=some (.lst (bO (bD ws i))):=by rw[aA nlw];exact ho6
  refine⟨_,Z,.inl ⟨Z,_,bu.of ho7⟩,_,Z,lo,_,_,Z,Z,ho7,bi (by unfold bO;rw[SE,oi.len];omega),?_⟩;refine⟨_,(by omega),i+1,_,Z,λb o n1 n2 e=>?_,?_,?_,c,Z⟩
  ·rw[aA n2,aA n1];exact s6 _ _ (kp b o n1 n2 e)
  ·rw[aA (V9 nlw),ai];rfl
  ·rw[ai];show some (HO.lst (bO (bD ws i)++[_]))=some (HO.lst (bO (bD ws i++[_])));unfold bO;rw[Ub];rfl
 ·refine dj (by omega) ?_;have e:i=ws.length:=by omega
  subst e;exact⟨_,Z,k lo H5 (s1.trans s5) (by
   cases e:H lo with
   |none=>rfl
   |some o=>rw[s1 _ _ e] at lo0;cases lo0) ho5⟩
theorem Ki(T:eA K mg t):bQ P w K mg base dQ 4 t.a_Q28 t.d_Q28 ["works","order","left","turn","speed"] (rO K):=by
 refine T.F_Q28.ok lY (λvs H Q E h=>?_) (λcdv A outer s H vs Q E hr h=>?_)
 ·obtain⟨_,_,_,_,_,_,_,_,_,_,rfl,_⟩:=h;rfl
 obtain⟨v,u,o,lf,ws,ord,xs,rs,t_,sp,rfl,⟨p,xw,rfl,hS,al⟩,ho,hlf,nol,alr,lr,okr,hu,asp,olt,o8,k⟩:=h;refine dG.ok (ah (cM 5 lY.nd (cE ag)) (ah (cM 6 lY.nd (qv 4)) (ah (cB S9 Z (eh (qv 1)) (aJ (i:=7) lY.nd Z (by first|exact To Z|exact Tn Z)) (ah (cF (d5 (cS (cr (Dz T) hr T.m_Q27 T.F_Q27.kp T.b_Q27 (ae (b8 aD (qv 0) (qv 7)) (ae (qv 3) ag af) aH)))) (av uP) bC) (ah (cM 8 lY.nd (cr (J6 T) hr T.m_Q51 T.F_Q51.kp T.b_Q51 (ae (b8 cc (qv 2) (qv 7)) (ae (qv 6) ag af) aH))) (av (cF (bj (l5 hr) (qv 8) (c9 (v:=.ref t.c_NOUGHT) Z T.m_NOUGHT Z) (bB _)) (ah (cI (eP Te Tk Tl ca (qv 5) (ae (bT (ae (qv 7) (ae (qv 8) ag af) af)) ag cL))) (ah (ko (cr (l6 T) hr T.m_Q54 T.F_Q54.kp T.b_Q54 (ae (b8 cc (qv 2) (qv 7)) (ae (qv 8) ag af) aH)) (ot (qv 2) (qv 7) gG)) (av (cM 6 lY.nd (cr (l6 T) hr T.m_Q54 T.F_Q54.kp T.b_Q54 (ae (qv 6) (ae (qv 8) ag af) af)))))) bC))))) (av (aQ (ck bG (by rfl) T.z_tuple UO (ae (qv 5) ag af))))))) ?_
 nofun
 refine⟨(by show 0≤sizeLine;exact S8 _),λdl hdl=>?_⟩;obtain⟨s1,hd1⟩:=jy hdl (.lst []);have ndf:dl≠lf:=λz=>by subst z;rw[hlf] at hdl;cases hdl
 have ndo:dl≠o:=λz=>by subst z;rw[ho] at hdl;cases hdl
 have hlf1:=s1 _ _ hlf;have ho1:=s1 _ _ ho;generalize aO H dl _=H1 at s1 hd1 hlf1 ho1 ⊢;have l12:∀r∈[dl,lf],∃xs,H1 r=some (.lst xs):=λr m=>by
  rcases S6.mp m with z|z
  ·exact⟨_,by rw[z];exact hd1⟩
  ·exact⟨_,by rw[SJ.mp z];exact hlf1⟩
 have t1:=aR.same (K:=K) s1;have onot:o∉[dl,lf]:=λm=>by
  rcases S6.mp m with z|z
  ·exact ndo z.symm
  ·exact nol (SJ.mp z)
 have md:dl∈[dl,lf]:=SO;have ml:lf∈[dl,lf]:=SQ _ SO;let Iv1:Nat->L2.St->Hp->Prop:=λi σ H'=>∃(rv:V) (zs ys:List V) (st:xL) (x8 x9:Option V),σ=[some (.ref p),some (.ref o),some (.ref lf),some (.int (t_:Nat)),some u,some (.ref dl),some rv,x8,x9]/\st=(ord.take i).foldl (cY ws t_) (rs,sp,[])/\Kp [dl,lf] H1 H'/\H' lf=some (.lst zs)/\cH (RV K H') zs st.1/\RV K H' rv st.2.1/\H' dl=some (.lst ys)/\cH (vQ K H') ys st.2.2/\AN ws.length st/\st.2.2.length≤i
 refine⟨_,Z,_,Z,o,Z,⟨_,bu.of ho1⟩,iX (K:=K) (a:=o) (xs:=bO ord) Iv1 ⟨u,xs,[],(rs,sp,[]),none,none,Z,Z,Kp.same (aP.refl _) l12,hlf1,alr.mono λ_ _ z=>z.mono t1,hu.mono t1,hd1,.nil,⟨lr,okr,asp,λp hp=>by cases hp⟩,SD _⟩ (λi σ H' _ ⟨_,_,_,_,_,_,_,_,kp,_⟩=>bu.of (kp.keep _ _ onot ho1)) ?_ ?_⟩
 ·rintro i x σ H3 hx ⟨rv,zs,ys,st,x8,x9,rfl,est,kp,hl3,alz,hrv,hd3,aly,dok,few⟩;obtain⟨n,hn,rfl⟩:=Gj hx;have nl:=olt n (SF hn);have i8:i<ord.length:=(SN.mp hn).1;have t3:=t1.trans (aR.kp kp);have es:(ord.take (i+1)).foldl (cY ws t_) (rs,sp,[])=cY ws t_ st n:=by rw[TY,hn,U9,est];rfl
  obtain⟨wv,hwv⟩:∃wv,xw[n]?=some wv:=⟨_,Sz (by rw[al.len];exact nl)⟩;obtain⟨w,hw,hwk⟩:=al.at hwv;have ew:ws.getD n bh=w:=ax bh hw;obtain⟨zv,hzv⟩:∃zv,zs[n]?=some zv:=⟨_,Sz (by rw[alz.len,dok.len];exact nl)⟩;obtain⟨r,hr_,hrz⟩:=alz.at hzv;have er:st.1.getD n (0,1)=r:=ax (0,1) hr_;have ar:fw r:=dok.lf r (SF hr_);refine⟨_,Z,_,Z,p,_,_,_,Z,Z,t3 _ _ hS,be hwv,_,Z,_,w,t_,Z,hwk.mono t3,_,Z,?_⟩;obtain⟨dk1,fw1⟩:=dok.step (ws:=ws) (t:=t_) nl
  cases c:im w t_ with
  |false=>
   refine mL (b:=!false) Z ?_;have e0:cY ws t_ st n=st:=by
    unfold cY;rw[if_neg];rintro⟨z,_⟩;rw[ew,c] at z
    cases z
   exact⟨rv,zs,ys,st,_,_,Z,(es.trans e0).symm,kp,hl3,alz,hrv,hd3,aly,dok,by omega⟩
  |true=>
   refine oQ (b:=!true) Z ?_;refine⟨_,Z,_,Z,lf,_,_,_,Z,Z,bu.of hl3,be hzv,_,Z,_,rv,r,st.2.1,Z,hrz,hrv,ar,dok.rm,λa ha=>?_⟩;have aa:=tE ar dok.rm;generalize ea:fk r st.2.1=am at ha aa;refine⟨_,Z,dR am,dR (0,1),ha.deep,RV.deep ⟨_,Z,T.q_NOUGHT _⟩,Z,Z,lj _,_,Z,?_⟩;rw[tX];by_cases cz:am=(0,1)
   ·refine oQ (b:=!decide (am=(0,1))) (by rw[decide_eq_true cz];rfl) ?_;have e0:cY ws t_ st n=st:=by
     unfold cY;rw[if_neg];rintro⟨_,z⟩;rw[er,ea] at z;exact z cz
    exact⟨rv,zs,ys,st,_,_,Z,(es.trans e0).symm,kp,hl3,alz,hrv,hd3,aly,dok,by omega⟩
   ·refine mL (b:=!decide (am=(0,1))) (by rw[decide_eq_false cz];rfl) ?_;have e1:cY ws t_ st n=(st.1.set n (bJ r am),bJ st.2.1 am,st.2.2++[(n,am)]):=by
     unfold cY;rw[if_pos ⟨by rw[ew];exact c,by rw[er,ea];exact cz⟩,er,ea]
    refine⟨_,Z,.inl ⟨Z,_,bu.of hd3⟩,_,Z,_,Z,jz,λpn hpn=>?_⟩;obtain⟨s4,hp4⟩:=jy hpn (.tup [.int (n:Nat),a]);generalize aO H3 pn _=H4 at s4 hp4 ⊢;have hd4:=s4 _ _ hd3;have kp4:=kp.trans (Kp.same s4 kp.ls');refine⟨dl,ys,_,Z,Z,hd4,bi (by rw[aly.len];omega),?_⟩;have kp5:=Kp.up md kp4.ls' (ys++[.ref pn]);have hd5:aO H4 dl (.lst (ys++[.ref pn])) dl=some (.lst (ys++[.ref pn])):=ai;have hl5:aO H4 dl (.lst (ys++[.ref pn])) lf=some (.lst zs):=by rw[aA (V9 ndf)];exact s4 _ _ hl3
    generalize aO H4 dl _=H5 at kp5 hd5 hl5 ⊢;have t35:=(aR.same (K:=K) s4).trans (aR.kp kp5);have kq5:=kp4.trans kp5;refine⟨_,Z,_,Z,lf,_,_,_,Z,Z,bu.of hl5,be hzv,_,Z,_,a,r,am,800,800,Z,hrz.mono t35,ha.mono t35,ar.wf,aa.wf,by decide,λmv H6 s6 hmv=>?_⟩;have hl6:=s6 _ _ hl5;have hd6:=s6 _ _ hd5;have kq6:=kq5.trans (Kp.same s6 kq5.ls');have t36:=t35.trans (aR.same s6);refine⟨_,Z,_,Z,lf,zs,_,n,Z,Z,hl6,lg (by rw[alz.len,dok.len];exact nl),?_⟩;have kp7:=Kp.up ml kq6.ls' (zs.set n mv);have hl7:aO H6 lf (.lst (zs.set n mv)) lf=some (.lst (zs.set n mv)):=ai;have hd7:aO H6 lf (.lst (zs.set n mv)) dl=some (.lst (ys++[.ref pn])):=by rw[aA ndf];exact hd6
    generalize aO H6 lf _=H7 at kp7 hl7 hd7 ⊢;have t67:=aR.kp (K:=K) kp7;have t37:=t36.trans t67;have kq7:=kq6.trans kp7;refine⟨_,Z,_,Z,rv,a,st.2.1,am,800,800,Z,hrv.mono t37,ha.mono t37,dok.rm.wf,aa.wf,by decide,λrv2 H8 s8 hrv2=>?_⟩;have t78:=aR.same (K:=K) s8;have t38:=t37.trans t78;have est':cY ws t_ st n=(ord.take (i+1)).foldl (cY ws t_) (rs,sp,[]):=es.symm;rw[e1] at est' dk1 fw1;exact⟨rv2,_,_,_,_,_,Z,est',kq7.trans (Kp.same s8 kq7.ls'),s8 _ _ hl7,cH.setI (hmv.mono (t67.trans t78)) n (alz.mono λ_ _ z=>z.mono t38),hrv2,s8 _ _ hd7,cH.snoc ⟨pn,a,Z,(((aR.kp kp5).trans (aR.same s6)).trans (t67.trans t78)) _ _ (bV.of hp4),ha.mono t38⟩ (aly.mono λ_ _ z=>z.mono t38),dk1,by omega⟩
 ·rintro σ H3 ⟨rv,zs,ys,st,x8,x9,rfl,est,kp,hl3,alz,hrv,hd3,aly,dok,few⟩;rw[show(bO ord).length=ord.length from SE _,Ud] at est;refine⟨_,Z,dl,_,Z,.inl ⟨bu.of hd3,λpt hpt=>?_⟩⟩;have s4:=aw hpt (.tup ys);have t34:=aR.same (K:=K) s4;have e:fP ws ord t_ rs sp=st:=est.symm;refine k (.ref pt) zs _ ⟨λb o' nb e=>s4 _ _ (kp.keep b o' (λm=>?_) (s1 _ _ e)),⟨_,hlf⟩,⟨_,s4 _ _ hl3⟩⟩ (s4 _ _ hl3) (by rw[e];exact alz.mono λ_ _ z=>z.mono t34) (by rw[e];exact⟨pt,ys,Z,bV.of ai,aly.mono λ_ _ z=>z.mono t34⟩);rcases S6.mp m with z|z
  ·rw[z,hdl] at e;cases e
  ·exact nb (SJ.mp z)
theorem J4(T:eA K mg t):bQ P w K mg base dQ 5 t.a_Q57 t.d_Q57 ["works","leans","speeds"] (Bx K):=by
 refine T.F_Q57.ok kf (λvs H Q E h=>?_) (λcdv A outer s H vs Q E hr h=>?_)
 ·obtain⟨_,_,_,_,_,rfl,_⟩:=h;rfl
 obtain⟨v,s_,b,ws,ss,rfl,ak,⟨q,qs,rfl,hq,alq⟩,l24,oks,nl_,k⟩:=h;refine dG.ok (ah (cM 3 kf.nd (cr (Ka T) hr T.m_Q44 T.F_Q44.kp T.b_Q44 (ae (qv 0) (ae (qv 1) ag af) af))) (ah (gf (i:=4) (N':=["work"]) (src:=[none]) kf.nd Z (by first|exact To Z|exact Tn Z) Z (by exact(dI (qv 0))) (λ_ _ _ _ _=>(by exact(by exact aJ (i:=0) (by show Tz (["work"]:List TB);decide +kernel) (by exact Z) (by first|exact To Z|exact Tn Z)))) (λ_ _ _ _ _=>cN) (λ_ _ _ _ _=>(by exact(by exact(cO (cQ (K:=K) (by exact Z)) (by exact(qv 0)) aj (by exact λ_ _=>Z))))) (by exact trivial) Z (by decide +kernel) Z (by decide +kernel) (by exact bH Z trivial)) (ah (cM 5 kf.nd (cE ag)) (ah (cB S9 Z (cD Z T.z_range (ae (c9 (v:=.int (24)) Z T.m_TURNS ⟨_,Z⟩) ag af)) (aJ (i:=6) kf.nd Z (by first|exact To Z|exact Tn Z)) (av (cI (eP Te Tk Tl ca (qv 5) (ae (cr (Ki T) hr T.m_Q28 T.F_Q28.kp T.b_Q28 (ae (qv 0) (ae (qv 3) (ae (qv 4) (ae (qv 6) (ae (b8 aD (qv 2) (qv 6)) ag aH) af) af) af) af)) ag aK))))) (ah (cB S9 Z (oq Z T.z_enumerate (ae (qv 4) ag af)) (kq Z (bL (aJ (i:=7) kf.nd Z (by first|exact To Z|exact Tn Z)) (bL (aJ (i:=8) kf.nd Z (by first|exact To Z|exact Tn Z)) dS))) (av (cF (bj (l5 hr) (qv 8) (c9 (v:=.ref t.c_NOUGHT) Z T.m_NOUGHT Z) (bB _)) (av dH) bC))) (av (aQ (ck bG (by rfl) T.z_tuple UO (ae (qv 5) ag af))))))))) ?_
 nofun
 obtain⟨p,xs,rfl,hS,al⟩:=id ak.wv;have w8:=ak.w8;have lx:xs.length=ws.length:=al.len;refine⟨_,Z,_,Z,_,b,ws,Z,ak,λo H1 s1 _ ho=>?_⟩;have hS1:=aR.same (K:=K) s1 _ _ hS;refine⟨_,Z,p,Z,⟨_,hS1⟩,λlf hlf0=>dC (K:=K) (P:=RV K) (ds:=ws) (f:=λw=>w.2.2) (λ_ _ _ _ t z=>z.mono t) hlf0 (ef hS1) lx (by omega) (λi x d H' hx hd sm Rk E kR=>?_) λH2 ys s2 hlf al2=>?_⟩
 ·obtain⟨d',hd',pw,xa,rfl,hSw,rx⟩:=al.at hx;rw[hd] at hd'
  cases hd'
  have t':=aR.same (K:=K) (s1.trans sm);exact⟨ii.set Z,_,Z,pw,_,_,_,Z,Z,t' _ _ hSw,Z,kR _ _ (aP.refl _) (rx.mono t')⟩
 have ho2:=s2 _ _ ho;have nol:o≠lf:=λz=>by subst z;rw[ho] at hlf0;cases hlf0
 have lfN:H lf=none:=by
  cases e:H lf with
  |none=>rfl
  |some o'=>rw[s1 _ _ e] at hlf0;cases hlf0
 refine⟨(by show 0≤sizeLine;exact S8 _),λpl hpl=>?_⟩;obtain⟨s3,hp3⟩:=jy hpl (.lst []);have npf:pl≠lf:=λz=>by subst z;rw[hlf] at hpl;cases hpl
 have npo:pl≠o:=λz=>by subst z;rw[ho2] at hpl;cases hpl
 have hl3:=s3 _ _ hlf;have ho3:=s3 _ _ ho2;have al3:=al2.mono λ_ _ z=>z.mono (aR.same s3)
 have s03:=(s1.trans s2).trans s3;have plN:H pl=none:=by
  cases e:H pl with
  |none=>rfl
  |some o'=>rw[s2 _ _ (s1 _ _ e)] at hpl;cases hpl
 generalize aO H2 pl _=H3 at s03 hp3 hl3 ho3 al3 ⊢;have t03:=aR.same (K:=K) s03;have oi:=fi (ws:=ws) ws.length (SD _);have pk:=gi (ord:=bD ws ws.length) ak.ok oi.lt oks;have md:pl∈[pl,lf]:=SO;have l12:∀r∈[pl,lf],∃xs,H3 r=some (.lst xs):=λr m=>by
  rcases S6.mp m with z|z
  ·exact⟨_,by rw[z];exact hp3⟩
  ·exact⟨_,by rw[SJ.mp z];exact hl3⟩
 have onot:o∉[pl,lf]:=λm=>by
  rcases S6.mp m with z|z
  ·exact npo z.symm
  ·exact nol (SJ.mp z)
 have sk:∀H',Kp [pl,lf] H3 H'->aP H H':=λH' kp b o' e=>kp.keep b o' (λm=>by
  rcases S6.mp m with z|z
  ·rw[z,plN] at e;cases e
  ·rw[SJ.mp z,lfN] at e;cases e) (s03 _ _ e)
 have olt:=oi.lt;have olen:=oi.len;generalize hod:bD ws ws.length=od at ho3 pk olt olen;let Iv1:Nat->L2.St->Hp->Prop:=λi σ H'=>∃(zs ys:List V) (x7 x8 x9:Option V),σ=[some (.ref p),some (.ref b),some (.ref q),some (.ref o),some (.ref lf),some (.ref pl),x7,x8,x9]/\Kp [pl,lf] H3 H'/\H' lf=some (.lst zs)/\cH (RV K H') zs (bR ws od ss i).1/\H' pl=some (.lst ys)/\cH (qR K H') ys (bR ws od ss i).2
 refine⟨24,Z,by decide,by decide,cR (lo:=0) (n:=24) Iv1 ⟨_,[],none,none,none,Z,Kp.same (aP.refl _) l12,hl3,al3,hp3,.nil⟩ ?_ ?_⟩
 ·rintro i σ H4 hi ⟨zs,ys,x7,x8,x9,rfl,kp,hl4,alz,hp4,aly⟩;obtain⟨po,pl_⟩:=pk i;have t4:=t03.trans (aR.kp kp);obtain⟨sv,hsv⟩:∃sv,qs[i]?=some sv:=⟨_,Sz (by rw[alq.len,l24];exact hi)⟩;obtain⟨sp,hsp,rsp⟩:=alq.at hsv;have esp:ss.getD i (0,1)=sp:=ax (0,1) hsp;have z0:(0:Int)+(i:Int)=(i:Int):=Vm _;refine⟨_,Z,.inl ⟨Z,_,bu.of hp4⟩,_,Z,_,Z,_,Z,_,Z,_,Z,_,Z,q,_,_,_,Z,Z,t4 _ _ hq,(by rw[z0];exact be hsv),.ref p,sv,o,lf,ws,od,zs,(bR ws od ss i).1,i,sp,(by rw[z0];rfl),⟨p,xs,Z,t4 _ _ hS,al.mono λ_ _ z=>z.mono t4⟩,kp.keep _ _ onot ho3,hl4,nol,alz,po.len,po.lf,rsp.mono t4,oks _ (SF hsp),olt,by rw[olen];omega,λw ys' H5 S5 hl5 al5 tn5=>?_⟩;have hp5:=S5.keep _ _ npf hp4;have t45:=aR.step (K:=K) S5;have kp5:Kp [pl,lf] H4 H5:=⟨λb o' nb e=>S5.keep b o' (λz=>nb (by rw[z];exact SQ _ SO)) e,kp.ls',λr m=>by
   rcases S6.mp m with z|z
   ·exact⟨_,by rw[z];exact hp5⟩
   ·exact⟨_,by rw[SJ.mp z];exact hl5⟩⟩
  have kq5:=kp.trans kp5;refine⟨pl,ys,_,Z,Z,hp5,bi (by rw[aly.len,pl_];omega),?_⟩;have kp6:=Kp.up md kq5.ls' (ys++[w]);have t56:=aR.kp (K:=K) kp6;rw[←esp] at al5 tn5;exact⟨ys',_,_,_,_,Z,kq5.trans kp6,by rw[aA (V9 npf)];exact hl5,al5.mono λ_ _ z=>z.mono t56,ai,cH.snoc (tn5.mono t56) (aly.mono λ_ _ z=>(z.mono t45).mono t56)⟩
 rintro σ H4 ⟨zs,ys,x7,x8,x9,rfl,kp,hl4,alz,hp4,aly⟩;obtain⟨po,pl_⟩:=pk 24;have ed:dZ ws ss=bR ws od ss 24:=by unfold dZ;rw[hod]
 rw[ed] at k nl_;have s04:=sk H4 kp;generalize bR ws od ss 24=pm at k nl_ alz aly po pl_;have lz:zs.length=ws.length:=by rw[alz.len,po.len]
 let Iv2:Nat->L2.St->Hp->Prop:=λi σ H'=>∃(x8 x9:Option V),σ=[some (.ref p),some (.ref b),some (.ref q),some (.ref o),some (.ref lf),some (.ref pl),x7,x8,x9]/\aP H4 H'/\∀j,j<i->pm.1.getD j (0,1)=(0,1)
 refine⟨_,Z,lf,Z,⟨_,bu.of hl4⟩,jr (sq:=bu K) (a:=lf) (xs:=zs) Iv2 ⟨_,_,Z,aP.refl _,λj hj=>absurd hj (U1 _)⟩ (λi σ H' _ ⟨_,_,_,sm,_⟩=>bu.of (sm _ _ hl4)) ?_ ?_⟩
 ·rintro i x pe σ H5 hx ⟨x8,x9,rfl,s5,le⟩ hpe;obtain⟨r,hr_,hrz⟩:=alz.at hx;have er:pm.1.getD i (0,1)=r:=ax (0,1) hr_;have il:i<pm.1.length:=(SN.mp hr_).1;obtain⟨s6,hpe6⟩:=jy hpe (.tup [.int i,x]);generalize aO H5 pe _=H6 at s6 hpe6 ⊢;have s46:=s5.trans s6;have t46:=aR.same (K:=K) s46;refine⟨pe,_,Z,bV.of hpe6,Z,_,_,Z,_,_,Z,Z,?_⟩;refine⟨_,Z,dR r,dR (0,1),(hrz.mono t46).deep,RV.deep ⟨_,Z,T.q_NOUGHT _⟩,Z,Z,lj _,_,Z,?_⟩;rw[tX];by_cases cz:r=(0,1)
  ·refine oQ (b:=!decide (r=(0,1))) (by rw[decide_eq_true cz];rfl) ?_;refine⟨_,_,Z,s46,λj hj=>?_⟩;by_cases z:j<i
   ·exact le j z
   ·rw[show j=i by omega,er];exact cz
  ·refine mL (b:=!decide (r=(0,1))) (by rw[decide_eq_false cz];rfl) ?_;exact absurd nl_ (by rw[Aj il (by rw[er];exact cz) le];exact λz=>nomatch z)
 ·rintro σ H5 ⟨x8,x9,rfl,s5,le⟩;refine⟨_,Z,pl,_,Z,.inl ⟨bu.of (s5 _ _ hp4),λpt hpt=>?_⟩⟩;have s6:=aw hpt (.tup ys);have t46:=(aR.same (K:=K) s5).trans (aR.same s6);refine k (.ref pt) _ ((s04.trans s5).trans s6) ?_;exact .tup (bV.of ai) ((aly.mono λ_ _ z=>z.mono t46).deep λ_ _ z=>z.deep)
theorem DD(T:eA K mg t):bQ P w K mg base dQ 6 t.a_Q21 t.d_Q21 ["sheet"] (pP K):=by
 refine T.F_Q21.ok BJ (λvs H Q E h=>?_) (λcdv A outer s H vs Q E hr h=>?_)
 ·obtain⟨_,_,rfl,_⟩:=h;rfl
 obtain⟨v,ws,rfl,sa,k⟩:=h;refine dG.ok (ah (cM 1 BJ.nd (cr (Kc T) hr T.m_Q42 T.F_Q42.kp T.b_Q42 (ae (qv 0) ag af))) (av (aQ (cr (J4 T) hr T.m_Q57 T.F_Q57.kp T.b_Q57 (ae (qv 1) (ae (b8 aD (qv 0) aj) (ae (cr (DF T) hr T.m_Q11 T.F_Q11.kp T.b_Q11 (ae (qv 1) ag af)) ag aK) aH) af))))) ?_
 nofun
 obtain⟨p,a,b,rfl,hS,wv,hb⟩:=id sa.sv;have w8:=sa.w8;refine⟨_,Z,.ref p,ws,Z,sa.sv,w8,sa.ok,λu H1 s1 wv'=>?_⟩;have t1:=aR.same (K:=K) s1;refine⟨_,Z,_,Z,p,_,_,_,Z,Z,t1 _ _ hS,Z,_,Z,u,ws,Z,wv',by omega,sa.ok,λq xs lys H2 s2 hq al ly=>?_⟩;have ams:=nQ sa.ok w8 (oO ly (by decide) (λt ht=>SW.mp ht));refine⟨u,.ref q,b,ws,bn ws lys,Z,⟨wv'.mono (aR.same s2),w8,sa.ok,aR.same (K:=K) s2 _ _ (t1 _ _ hb)⟩,⟨q,xs,Z,hq,al⟩,(by unfold bn;rw[kO];rfl),ams,Af sa.ok ly ams,λw H3 s3 dw=>?_⟩;exact k lys w H3 ((s1.trans s2).trans s3) ly dw
theorem HU(T:eA K mg t):bQ P w K mg base dQ 1 t.a_Q6 t.d_Q6 ["works","amounts","turn"] (lT K):=by
 refine T.F_Q6.ok Hr (λvs H Q E h=>?_) (λcdv A outer s H vs Q E hr h=>?_)
 ·obtain⟨_,_,_,_,_,_,_,rfl,_⟩:=h;rfl
 obtain⟨a,b,xs,ys,kn,rs,t₀,rfl,hA,ak,hB,ar,len,l20,k⟩:=h;refine dG.ok (ah (gf (i:=3) (N':=["number","amount"]) (src:=[none,none]) Hr.nd Z (by first|exact To Z|exact Tn Z) Z (by exact(oq Z T.z_enumerate (ae (qv 1) ag af))) (λ_ _ _ _ _=>(by exact(by exact jj (K:=K) (n:=2) (by exact Z) (by exact Z) (by exact bL (by exact aJ (i:=0) (by show Tz (["number","amount"]:List TB);decide +kernel) (by exact Z) (by first|exact To Z|exact Tn Z)) (by exact bL (by exact aJ (i:=1) (by show Tz (["number","amount"]:List TB);decide +kernel) (by exact Z) (by first|exact To Z|exact Tn Z)) dS))))) (λ_ _ _ _ _=>(fI (bj (F9 (K:=K) (by exact Z) hr) (by exact(qv 1)) (by exact(c9 (v:=.ref t.c_NOUGHT) (by exact Z) T.m_NOUGHT Z)) (bB _)))) (λ_ _ _ _ _=>(by exact(by exact(qv 0)))) (by exact trivial) Z (by decide +kernel) Z (by decide +kernel) (by exact bH Z trivial)) (av (aQ (bT (ae (ck bG (by rfl) T.z_tuple UO (ae (cj (N':=["number","turn","amounts","works"]) (src:=[none,some 2,some 1,some 0]) Z (by exact(eh (qv 3))) (λ_ _ _ _ _=>(by exact(by exact aJ (i:=0) (by show Tz (["number","turn","amounts","works"]:List TB);decide +kernel) (by exact Z) (by first|exact To Z|exact Tn Z)))) (λ_ _ _ _ _=>cN) (λ_ _ _ _ _=>(by exact(by exact(bT (ae (by exact(qv 1)) (ae (by exact(cO (cQ (K:=K) (by exact Z)) (by exact(cO (Gv (K:=K) (by exact Z)) (by exact(qv 3)) (by exact(qv 0)) (by exact λ_ _=>Z))) aj (by exact λ_ _=>Z))) (ae (by exact(cO (eT (K:=K) (by exact Z)) (by exact(qv 2)) (by exact(qv 0)) (by exact λ_ _=>Z))) ag aH) aH) af))))) (by exact⟨Z,Z,Z,Z,⟨Z,Z,Z,Z,⟨Z,Z,Z,Z,trivial⟩⟩⟩) Z (by decide +kernel) Z (by decide +kernel) (by exact bH Z ⟨Z,⟨Z,⟨Z,trivial⟩⟩⟩)) ag dq)) (ae (qv 3) ag af) aK))))) ?_
 nofun
 have lx:=ak.len;have ly:=ar.len;refine⟨_,Z,b,Z,⟨_,hB⟩,λD hD=>dB (xU hB) (λi=>decide (rs.getD i (0,1)≠(0,1))) (λi=>V.int (i:Nat)) hD (by omega) (λi x H' hi s' hx R E kR kE=>?_) λH4 s4 h4=>?_⟩
 ·obtain⟨pe,y,rfl,hy,hpe⟩:=hx;obtain⟨r,hr_,hrz⟩:=ar.at hy;have er:rs.getD i (0,1)=r:=ax (0,1) hr_;have t':=aR.same (K:=K) s';rw[er] at kR kE;refine⟨pe,_,Z,bV.of hpe,Z,_,_,Z,_,_,Z,Z,(ii.set Z).set' Z,?_⟩;refine⟨_,Z,dR r,dR (0,1),(hrz.mono t').deep,RV.deep ⟨_,Z,T.q_NOUGHT _⟩,Z,Z,lj _,_,Z,?_⟩;rw[tX];by_cases cz:r=(0,1)
  ·refine oQ (b:=!decide (r=(0,1))) (by rw[decide_eq_true cz];rfl) ?_;exact kE (decide_eq_false λz=>z cz) _ (aP.refl _)
  ·refine mL (b:=!decide (r=(0,1))) (by rw[decide_eq_false cz];rfl) ?_;exact⟨_,Z,kR (decide_eq_true cz) _ (aP.refl _)⟩
 have e4:H4 D=some (.lst (bO (aT rs))):=by rw[h4,ly];rfl
 have nl:(bO (aT rs)).length=(aT rs).length:=SE _;have nm:(aT rs).length≤rs.length:=by
  unfold aT;exact Tu (UN _ _) (by rw[TJ];exact SD _)
 refine⟨_,Z,D,Z,⟨_,bu.of e4⟩,λD2 hD2=>dC (K:=K) (P:=zk K) (ds:=aT rs) (f:=λi=>((t₀,(kn.getD i bh).2.1,rs.getD i (0,1)):Wk)) (λ_ _ _ _ t p=>p.mono t) hD2 (f8 (bu.of e4)) nl (by omega) (λi x d H' hx hd s' R E kR=>?_) λH5 ys5 s5 hD5 al5=>?_⟩
 ·have hx':(bO (aT rs))[i]?=some (V.int (d:Nat)):=by unfold bO;rw[SU,hd];rfl
  rw[hx] at hx'
  cases hx'
  have hdl:d<rs.length:=by
   have m:=SF hd;unfold aT at m;exact SW.mp (Tw.mp m).1
  obtain⟨xw,hxw⟩:∃xw,xs[d]?=some xw:=⟨_,Sz (by omega)⟩;obtain⟨yw,hyw⟩:∃yw,ys[d]?=some yw:=⟨_,Sz (by omega)⟩;obtain⟨w,hwd,pw,xa,rfl,hSw,rx⟩:=ak.at hxw;obtain⟨r,hrd,ry⟩:=ar.at hyw;rw[ax bh hwd,ax (0,1) hrd] at kR;have s0':=s4.trans s';have t':=aR.same (K:=K) s0';refine⟨ii.set Z,_,Z,_,Z,_,Z,Fm (Lf.tst s0' hA) (be hxw) ⟨pw,_,_,_,Z,Z,t' _ _ hSw,Z,_,Z,_,Z,b,_,_,_,Z,Z,s0'.seq hB,be hyw,N4,λpn hpn=>?_⟩⟩;exact kR _ _ (aw hpn _) ⟨pn,yw,Z,bV.of ai,(ry.mono t').mono (aR.new hpn _)⟩
 ·refine⟨D2,ys5,Z,.inl ⟨bu.of hD5,λpt hpt=>?_⟩⟩;have z:=aw hpt (.tup ys5);have wz:eW K (aO H5 pt (.tup ys5)) (.ref pt) (bv kn rs t₀):=⟨pt,ys5,Z,bV.of ai,al5.mono λ_ _ q=>q.mono (aR.same z)⟩;refine⟨_,Z,jz,λpp hpp=>?_⟩;have z2:=aw hpp (.tup [.ref pt,.ref D]);exact k pp D (.ref pt) _ (((s4.trans s5).trans z).trans z2) (bV.of ai) (wz.mono (aR.same z2)) (z2 _ _ (z _ _ (s5 _ _ e4)))
theorem DC(T:eA K mg t):bQ P w K mg base dQ 1 t.a_Q22 t.d_Q22 ["pieces","numbers"] (pN K):=by
 refine T.F_Q22.ok IV (λvs H Q E h=>?_) (λcdv A outer s H vs Q E hr h=>?_)
 ·obtain⟨_,_,_,_,rfl,_⟩:=h;rfl
 obtain⟨u,l,q,ns,rfl,⟨p,xs,rfl,hS,al⟩,hL,lt,l64,k⟩:=h;refine dG.ok (av (aQ (ck bG (by rfl) T.z_tuple UO (ae (cj (N':=["piece","numbers"]) (src:=[none,some 1]) Z (by exact(dI (qv 0))) (λ_ _ _ _ _=>(by exact(by exact aJ (i:=0) (by show Tz (["piece","numbers"]:List TB);decide +kernel) (by exact Z) (by first|exact To Z|exact Tn Z)))) (λ_ _ _ _ _=>cN) (λ_ _ _ _ _=>(by exact(by exact(bT (ae (by exact(cO (eT (K:=K) (by exact Z)) (by exact(qv 1)) (by exact(cO (cQ (K:=K) (by exact Z)) (by exact(qv 0)) aj (by exact λ_ _=>Z))) (by exact λ_ _=>Z))) (ae (by exact(cO (cQ (K:=K) (by exact Z)) (by exact(qv 0)) aj (by exact λ_ _=>Z))) ag aH) aH))))) (by exact⟨Z,Z,Z,Z,trivial⟩) Z (by decide +kernel) Z (by decide +kernel) (by exact bH Z ⟨Z,trivial⟩)) ag dq)))) ?_;nofun
 have lx:=al.len;refine⟨_,Z,p,Z,⟨_,hS⟩,λD hD=>dC (K:=K) (P:=vQ K) (ds:=q) (f:=λc:Pc=>((ns.getD c.1 0,c.2):Pc)) (λ_ _ _ _ t p=>p.mono t) hD (ef hS) lx (by omega) (λi x c H' hx hc s' R E kR=>?_) λH2 ys2 s2 hD2 al2=>?_⟩
 ·obtain⟨c',hc',pc,xa,rfl,hSc,rx⟩:=al.at hx;rw[hc] at hc'
  cases hc'
  have hl:=lt c (SF hc);have t':=aR.same (K:=K) s';refine⟨ii.set Z,_,Z,_,Z,pc,_,_,_,Z,Z,t' _ _ hSc,Z,l,_,_,_,Z,Z,s'.seq hL,be (v:=V.int ((ns.getD c.1 0:Nat):Int)) (by unfold bO;rw[SU,Sz hl,ax 0 (Sz hl)];rfl),_,Z,pc,_,_,_,Z,Z,t' _ _ hSc,Z,jz,λpn hpn=>?_⟩;exact kR _ _ (aw hpn _) ⟨pn,xa,Z,bV.of ai,(rx.mono t').mono (aR.new hpn _)⟩
 ·refine⟨D,ys2,Z,.inl ⟨bu.of hD2,λpt hpt=>?_⟩⟩;have z:=aw hpt (.tup ys2);exact k _ _ (s2.trans z) ⟨pt,ys2,Z,bV.of ai,al2.mono λ_ _ q=>q.mono (aR.same z)⟩
theorem M7(T:eA K mg t):bQ P w K mg base dQ 1 t.a_Q3 t.d_Q3 ["plan"] (kd K):=by
 refine T.F_Q3.ok BI (λvs H Q E h=>?_) (λcdv A outer s H vs Q E hr h=>?_)
 ·obtain⟨_,_,_,rfl,_⟩:=h;rfl
 obtain⟨p,xs,pl,rfl,hS,al,p24,few,k⟩:=h;refine dG.ok (ah (cM 1 BI.nd (cE ag)) (ah (cB S9 Z (dI (qv 0)) (aJ (i:=2) BI.nd Z (by first|exact To Z|exact Tn Z)) (av (cI (eP Te PySem.F.slot_list_extend PySem.F.type_list_extend Gn (qv 1) (ae (qv 2) ag af))))) (av (aQ (qv 1))))) ?_
 nofun
 have len:=al.len;refine⟨(by show 0≤sizeLine;exact S8 _),λl hl=>?_⟩;have nl:∀b o,H b=some o->b≠l:=λb o q=>aU q hl
 refine⟨_,Z,p,Z,⟨_,aR.same (aw hl _) _ _ hS⟩,ic (K:=K) (a:=p) (xs:=xs) (λi σ H'=>∃(x2:Option V) (ys:List V),σ=[some (.ref p),some (.ref l),x2]/\aP H H'/\H' l=some (.lst ys)/\cH (vQ K H') ys (pl.take i).flatten) ⟨none,[],Z,aw hl _,ai,.nil⟩ (λi σ H1 _ ⟨_,_,_,sm,_⟩=>aR.same sm _ _ hS) ?_ ?_⟩
 ·rintro i x σ H1 hx ⟨x2,ys,rfl,sm,hl1,al1⟩;obtain⟨q,ht,tv⟩:=al.at hx;obtain⟨pt,zs,rfl,hSt,alt⟩:=tv.mono (aR.same sm);have lt:zs.length≤20:=by rw[alt.len];exact few q (SF ht)
  have ly:ys.length≤480:=by
   rw[al1.len];have:=yS (pl:=pl.take i) λq hq=>few q (Uv hq)
   have:(pl.take i).length≤pl.length:=by rw[Uk];omega
   omega
  refine⟨_,Z,.inl ⟨Z,_,bu.of hl1⟩,_,Z,l,pt,ys,zs,Z,Z,hl1,hSt,(by omega),?_⟩;have tm:=aR.up (K:=K) hl1 (ys++zs);refine⟨_,ys++zs,Z,λb o q=>?_,ai,?_⟩
  ·rw[aA (nl b o q)];exact sm _ _ q
  ·rw[TY,ht,show(some q).toList=[q] from Z,ZA,aao,List.flatten_nil,UZ];exact cH.app (al1.mono λ_ _ z=>z.mono tm) (alt.mono λ_ _ z=>z.mono tm)
 ·rintro σ H1 ⟨x2,ys,rfl,sm,hl1,al1⟩;rw[len,Ud] at al1;exact⟨_,Z,k l ys H1 sm hl hl1 al1⟩
theorem Kh(T:eA K mg t):bQ P w K mg base dQ 4 t.a_Q30 t.d_Q30 ["k","one","other","thing"] (rp K):=by
 refine T.F_Q30.ok rV (λvs H Q E h=>?_) (λcdv A outer s H vs Q E hr h=>?_)
 ·obtain⟨_,_,_,_,_,_,_,rfl,_⟩:=h;rfl
 obtain⟨kk,a,b,c,os,ps,ts,rfl,⟨pa,xa,rfl,hA,alA⟩,⟨pb,xb,rfl,hB,alB⟩,⟨pc,xc,rfl,hC,alC⟩,ok,k⟩:=h;refine dG.ok (ah (cM 4 rV.nd (aZ ba (by rfl) T.z_len UI (ae (qv 1) ag af))) (ah (cF (jC (kT (d5 (cS (cr (wN T) hr T.m_Q14 T.F_Q14.kp T.b_Q14 (ae (qv 3) (ae (aY cX (qv 4) aj) ag bw) af)))) (km (d5 (cS (aZ (qI Z) (by rfl) T.z_all boot_all (ae (cj (N':=["part"]) (src:=[none]) Z (by exact(dI (qv 3))) (λ_ _ _ _ _=>(by exact(by exact aJ (i:=0) (by show Tz (["part"]:List TB);decide +kernel) (by exact Z) (by first|exact To Z|exact Tn Z)))) (λ_ _ _ _ _=>cN) (λ_ _ _ _ _=>(by exact(by exact(gh (Dv T) (by exact hr.mono (by decide)) (by exact Z) T.m_Q40 T.F_Q40.kp T.b_Q40 (by exact .nil) (by exact iQ) (ae (by exact(qv 0)) ag af))))) (by exact trivial) Z (by decide +kernel) Z (by decide +kernel) (by exact bH Z trivial)) ag dq))))))) (av dH) bC) (ah (cF (cS (cr (sZ T) hr T.m_Q48 T.F_Q48.kp T.b_Q48 (ae (c9 (v:=.ref t.c_NOUGHT) Z T.m_NOUGHT Z) (ae (b8 aD (qv 3) aj) ag aH) af))) (av dH) bC) (ah (cB S9 Z (cD Z T.z_range (ae (qv 4) ag af)) (aJ (i:=5) rV.nd Z (by first|exact To Z|exact Tn Z)) (ah (cM 6 rV.nd (cr (wH T) hr T.m_Q58 T.F_Q58.kp T.b_Q58 (ae (cr (wI T) hr T.m_Q50 T.F_Q50.kp T.b_Q50 (ae (b8 aD (qv 1) (qv 5)) (ae (qv 0) ag af) aH)) (ae (cr (l6 T) hr T.m_Q54 T.F_Q54.kp T.b_Q54 (ae (b8 aD (qv 3) (aY cX (qv 5) aj)) (ae (b8 aD (qv 3) (qv 5)) ag aH) aH)) ag aK) aK))) (av (cF (cS (cr (sZ T) hr T.m_Q48 T.F_Q48.kp T.b_Q48 (ae (cr (wI T) hr T.m_Q50 T.F_Q50.kp T.b_Q50 (ae (cr (oG T) hr T.m_Q55 T.F_Q55.kp T.b_Q55 (ae (bT (ae (qv 0) (ae aj ag aX) af)) (ae (b8 aD (qv 2) (qv 5)) ag aH) cL)) (ae (qv 0) ag af) aK)) (ae (qv 6) ag af) aK))) (av dH) bC)))) (ah (cF (cS (cr (sZ T) hr T.m_Q48 T.F_Q48.kp T.b_Q48 (ae (b8 aD (qv 3) (qv 4)) (ae (c9 (v:=.ref t.c_NOUGHT) Z T.m_NOUGHT Z) ag af) aH))) (av dH) bC) (av (aQ gI))))))) ?_
 nofun
 have la:=alA.len;have lb:=alB.len;have lc:=alC.len;have lo:=ok.lo;have lp:=ok.lp;have lt:=ok.lt;have k2:=ok.k2;have k4:=ok.k4;refine⟨_,Z,pa,_,Z,.inr hA,?_⟩;refine⟨_,Z,_,Z,_,_,Z,Z,.ref pc,_,xa.length+1,Z,.tup hC (alC.deep λ_ _ q=>q.deep),⟨_,Z,?_⟩⟩;rw[show pM (xa.length+1) (.tuple (ts.map dR))=true from decide_eq_true (by rw[SE];omega)];refine d7 ?_;refine⟨_,Z,pc,Z,⟨_,hC⟩,λD hD=>dB (ef hC) (λ_=>true) (λ_=>V.bl true) hD (by omega) (λi x H' hi s' hx R E kR kE=>?_) λH1 s1 h1=>?_⟩
 ·obtain⟨r,hr,rv⟩:=alC.at hx;have w:=ok.wt r (SF hr);refine⟨ii.set Z,_,Z,x,dR r,Z,(rv.mono (aR.same s')).deep,?_⟩;rw[Jq w.red];exact kR Z _ (aP.refl _)
 have e1:(((SC xc.length).filter λ_=>true).map λ_=>V.bl true)=(((SC xc.length).filter λ_=>true).map λ_=>true).map V.bl:=by rw[VR];rfl
 rw[e1] at h1;refine⟨D,_,Z,bu.of h1,⟨_,Z,?_⟩⟩;rw[show((((SC xc.length).filter λ_=>true).map λ_=>true).all id)=true by simp];refine d7 ?_;have t1:=aR.same (K:=K) s1;obtain⟨x0,hx0⟩:∃x0,xc[0]?=some x0:=⟨_,Sz (by omega)⟩;obtain⟨q0,hq0,rv0⟩:=alC.at hx0;have w0:=ok.wt q0 (SF hq0);have z0:=ok.b;rw[ax r0 hq0] at z0;refine⟨_,Z,pc,_,_,_,Z,Z,t1 _ _ hC,be hx0,.ref t.c_NOUGHT,x0,(0,1),q0,1,3640,Z,⟨_,Z,T.q_NOUGHT _⟩,rv0.mono t1,xS,w4 (w0.mono (SV _) (by decide)),by decide,_,Z,?_⟩;rw[show dF (0,1) q0=false from(fE (by decide) w0.pos).mpr (by rw[z0,(c8 (r:=(0,1)) (by decide)).mpr Z];exact Ts)];refine d7 ?_;let Iv1:Nat->L2.St->Hp->Prop:=λi σ H'=>∃(x6 x7:Option V),σ=[some (.int kk),some (.ref pa),some (.ref pb),some (.ref pc),some (.int xa.length),x6,x7]/\aP H H'
 refine⟨_,Z,_,Z,by omega,by omega,cR (lo:=0) (n:=(xa.length:Int).toNat) Iv1 ⟨none,none,Z,s1⟩ ?_ ?_⟩
 ·rintro i σ H2 hi ⟨x6,x7,rfl,s2⟩;rw[Vm];have t2:=aR.same (K:=K) s2;obtain⟨xo,hxo⟩:∃x,xa[i]?=some x:=⟨_,Sz (by omega)⟩;obtain⟨o,ho,rvo⟩:=alA.at hxo;obtain⟨xp,hxp⟩:∃x,xb[i]?=some x:=⟨_,Sz (by omega)⟩;obtain⟨p,hp,rvp⟩:=alB.at hxp;obtain⟨xu,hxu⟩:∃x,xc[i]?=some x:=⟨_,Sz (by omega)⟩;obtain⟨u,hu,rvu⟩:=alC.at hxu;obtain⟨xv,hxv⟩:∃x,xc[i+1]?=some x:=⟨_,Sz (by omega)⟩;obtain⟨v,hv,rvv⟩:=alC.at hxv;have wo:=ok.wo o (SF ho);have wp:=ok.wp p (SF hp);have wu:=ok.wt u (SF hu);have wv:=ok.wt v (SF hv);have st:=ok.step i (by omega);rw[ax r0 ho,ax r0 hp,ax r0 hu,ax r0 hv] at st;obtain⟨m1,m2,m3⟩:=yB k2 k4 wo wu wv;have wu4:Wf 3640 u:=w4 (wu.mono (SV _) (by decide));have wv4:Wf 3640 v:=w4 (wv.mono (SV _) (by decide));have wpo:Wf 3640 (dk o kk.toNat):=w4 ((jh (by omega) wo).mono (SV _) (by decide));have wm:Wf 3640 (bJ v u):=w4 (m1.mono (SV _) (by decide));have wo9:Wf 920 o:=wZ (wo.mono (SV _) (by decide));have wp9:Wf 920 p:=wZ (wp.mono (SV _) (by decide));obtain⟨n1,n2,n3⟩:=Oz k2 k4 wp;refine⟨_,Z,_,Z,pa,_,_,_,Z,Z,t2 _ _ hA,be hxo,_,Z,xo,o,kk,920,Z,rvo.mono t2,wo9,by decide,by omega,by omega,λv1 H3 s3 r3=>?_⟩;have s23:=s2.trans s3;have t3:=aR.same (K:=K) s23;refine⟨_,Z,_,Z,_,_,Z,Z,pc,_,_,_,Z,Z,t3 _ _ hC,be (j:=i+1) hxv,_,Z,_,Z,pc,_,_,_,Z,Z,t3 _ _ hC,be hxu,xv,xu,v,u,3640,3640,Z,rvv.mono t3,rvu.mono t3,wv4,wu4,by decide,λv2 H4 s4 r4=>?_⟩;refine⟨v1,v2,dk o kk.toNat,bJ v u,3640,3640,Z,r3.mono (aR.same s4),r4,wpo,wm,by decide,nR K λp5 H5 s5 r5=>?_⟩;have s25:=(s23.trans s4).trans s5;refine⟨_,Z,jz,λpk hpk=>?_⟩;have s6:=aw hpk (.tup [.int kk,.int 1]);have rk:RV K (aO H5 pk (.tup [.int kk,.int 1])) (.ref pk) (kk,1):=RV.of ai;generalize aO H5 pk _=H6 at rk s6 ⊢;have t6:=aR.same (K:=K) (s25.trans s6);refine⟨_,Z,_,Z,pb,_,_,_,Z,Z,t6 _ _ hB,be hxp,.ref pk,xp,(kk,1),p,920,920,Z,rk,rvp.mono t6,wZ ((An k2 k4).mono (by decide) (by decide)),wp9,by decide,λp7 h7=>?_⟩;have s7:=aw h7 (.tup [.int (bA (kk,1) p).1,.int (bA (kk,1) p).2]);refine⟨_,Z,.ref p7,bA (kk,1) p,kk,920,Z,RV.of ai,wZ (n1.mono (SV _) (by decide)),by decide,by omega,by omega,λv8 H8 s8 r8=>?_⟩;have s78:=s7.trans s8;refine⟨_,Z,v8,.ref p5,dk (bA (kk,1) p) kk.toNat,oF kk o u v,3640,3640,Z,r8,r5.mono (aR.same (s6.trans s78)),w4 (n2.mono (SV _) (by decide)),w4 m2,by decide,_,Z,?_⟩;rw[show dF (dk (bA (kk,1) p) kk.toNat) (oF kk o u v)=false from(fE n2.pos m2.pos).mpr (by rw[n3,m3];exact st)];exact d7 ⟨_,_,Z,(s25.trans s6).trans s78⟩
 ·rintro σ H2 ⟨x6,x7,rfl,s2⟩;have t2:=aR.same (K:=K) s2;obtain⟨xn,hxn⟩:∃x,xc[xa.length]?=some x:=⟨_,Sz (by omega)⟩;obtain⟨q,hq,rvq⟩:=alC.at hxn;have wq:=ok.wt q (SF hq);have ze:=ok.e;rw[ax r0 (show ts[24]?=some q by rw[←hq,la,lo])] at ze;refine⟨_,Z,_,Z,pc,_,_,_,Z,Z,t2 _ _ hC,be hxn,xn,.ref t.c_NOUGHT,q,(0,1),3640,1,Z,rvq.mono t2,⟨_,Z,T.q_NOUGHT _⟩,w4 (wq.mono (SV _) (by decide)),xS,by decide,_,Z,?_⟩;rw[show dF q (0,1)=false from(fE wq.pos (by decide)).mpr (by rw[ze,(c8 (r:=(0,1)) (by decide)).mpr Z];exact Ts)];exact d7 (k H2 s2)
theorem DA(T:eA K mg t):bQ P w K mg base dQ 4 t.a_Q23 t.d_Q23 ["works","plan","turn"] (pO K):=by
 refine T.F_Q23.ok wx (λvs H Q E h=>?_) (λcdv A outer s H vs Q E hr h=>?_)
 ·obtain⟨_,_,_,_,_,rfl,_⟩:=h;rfl
 obtain⟨v,u,ws,pl,t₀,rfl,⟨pa,xs,rfl,hpa,al⟩,wo,⟨pp,ys,rfl,hpp,ap⟩,P,t24,k⟩:=h;refine dG.ok (ah (gf (i:=3) (N':=["work","turn"]) (src:=[none,some 2]) wx.nd Z (by first|exact To Z|exact Tn Z) Z (by exact(dI (qv 0))) (λ_ _ _ _ _=>(by exact(by exact aJ (i:=0) (by show Tz (["work","turn"]:List TB);decide +kernel) (by exact Z) (by first|exact To Z|exact Tn Z)))) (λ_ _ _ _ _=>cN) (λ_ _ _ _ _=>(by exact(by exact(oz (bj mG (by exact(cO (cQ (K:=K) (by exact Z)) (by exact(qv 0)) aj (by exact λ_ _=>Z))) (by exact(qv 1)) (bB _)) (by exact(cO (cQ (K:=K) (by exact Z)) (by exact(qv 0)) aj (by exact λ_ _=>Z))) (by exact(c9 (v:=.ref t.c_NOUGHT) (by exact Z) T.m_NOUGHT Z)))))) (by exact⟨Z,Z,Z,Z,trivial⟩) Z (by decide +kernel) Z (by decide +kernel) (by exact bH Z ⟨Z,trivial⟩)) (ah (cB S9 Z (eh (cr (M7 T) hr T.m_Q3 T.F_Q3.kp T.b_Q3 (ae (oy yf (qv 1) yn (m9 (qv 2))) ag aH))) (aJ (i:=4) wx.nd Z (by first|exact To Z|exact Tn Z)) (av (ko (cr (l6 T) hr T.m_Q54 T.F_Q54.kp T.b_Q54 (ae (b8 cc (qv 3) (b8 aD (qv 4) aj)) (ae (b8 aD (qv 4) aj) ag aH) aH)) (ot (qv 3) (b8 aD (qv 4) aj) gG)))) (av (aQ (qv 3))))) ?_
 nofun
 have hxl:=al.len;have few:=wo.few;have lp:=ap.len;have pl24:=P.len;refine⟨_,Z,pa,Z,⟨_,hpa⟩,λl hl=>dC (K:=K) (P:=RV K) (ds:=ws) (f:=λw:Wk=>if w.1<t₀ then w.2.2 else((0,1):R)) (λ_ _ _ _ t p=>p.mono t) hl (ef hpa) hxl (by omega) (λi x w H' hx hw s' R E kR=>?_) λH1 zs s1 hz al1=>?_⟩
 ·obtain⟨w',hw',pw,am,rfl,hpw,ram⟩:=al.at hx;rw[hw] at hw'
  cases hw'
  have t':=aR.same (K:=K) s';refine⟨ii.set Z,?_⟩;refine⟨_,Z,pw,_,_,_,Z,Z,t' _ _ hpw,Z,_,Z,_,_,Z,Z,_,Z,?_⟩;by_cases c:w.1<t₀
  ·refine d8 (by omega) ?_;rw[if_pos c] at kR;exact⟨_,Z,pw,_,_,_,Z,Z,t' _ _ hpw,Z,kR _ _ (aP.refl _) (ram.mono t')⟩
  ·refine dj (by omega) ?_;rw[if_neg c] at kR;exact kR _ _ (aP.refl _) ⟨_,Z,T.q_NOUGHT _⟩
 have t1:=aR.same (K:=K) s1;have nl:∀b o,H b=some o->b≠l:=λb o q=>aU q hl
 refine⟨_,Z,_,Z,_,Z,pp,ys,Z,t1 _ _ hpp,λq H2 s2 sq=>?_⟩;rw[show mj ys none (some ((t₀:Nat):Int))=ys.take t₀ from K6 (by omega)] at sq;have a2:=cH.tk t₀ (ap.mono λ_ _ z=>(z.mono t1).mono (aR.same s2));refine⟨q,_,pl.take t₀,Z,sq,a2,by rw[Uk];omega,λr hr=>P.few r (Uv hr),λl2 es H3 s3 hl2 h2 a3=>?_⟩;have hz3:=s3 _ _ (s2 _ _ hz);have n2:l2≠l:=λz=>by rw[z,s2 _ _ hz] at hl2;cases hl2
 have s13:=(s1.trans s2).trans s3;have mem:∀c∈(pl.take t₀).flatten,c.1<ws.length/\Bq DZ 256 c.2:=λc hc=>by
  obtain⟨r,hr,hcr⟩:=aaz.mp hc;have m:=P.row r (Uv hr) c hcr;exact⟨m.1,m.2.1⟩
 have fl:(pl.take t₀).flatten.length≤480:=by
  have:=yS (pl:=pl.take t₀) λq hq=>P.few q (Uv hq)
  rw[Uk] at this;omega
 have le:=a3.len;have a1:cH (RV K H3) zs (NC ws t₀):=al1.mono λ_ _ z=>z.mono (aR.same (s2.trans s3))
 clear al1 a2 sq;let Iv1:Nat->L2.St->Hp->Prop:=λi σ H'=>∃(ds:List V) (x4:Option V),σ=[some (.ref pa),some (.ref pp),some (.int (t₀:Nat)),some (.ref l),x4]/\(∀b o,b≠l->H3 b=some o->H' b=some o)/\H' l=some (.lst ds)/\cH (RV K H') ds (eB (NC ws t₀) ((pl.take t₀).flatten.take i))
 refine⟨l2,Z,⟨_,bu.of h2⟩,iX (K:=K) (a:=l2) (xs:=es) Iv1 ⟨zs,none,Z,λb o _ e=>e,hz3,a1⟩ (λi σ H' _ ⟨_,_,_,kk,_⟩=>bu.of (kk _ _ n2 h2)) ?_ ?_⟩
 ·rintro i x σ HI hx ⟨ds,x4,rfl,kI,hI,aI⟩;obtain⟨c,hc,pc,xa,rfl,hSc,rx⟩:=a3.at hx;have mc:=mem c (SF hc);have tI:=aR.steps (K:=K) hz3 kI ⟨_,hI⟩;have lI:=aI.len;rw[jg] at lI;unfold NC at lI;rw[SE] at lI;obtain⟨yv,hyv⟩:∃yv,ds[c.1]?=some yv:=⟨_,Sz (by omega)⟩;obtain⟨r,hrd,ry⟩:=aI.at hyv;have wr:Wf 920 r:=QY (Gs wo P _ (λc hc=>(mem c (Uv hc)).2) (by rw[Uk];omega) r (SF hrd));refine⟨_,Z,_,Z,pc,_,_,_,Z,Z,tI _ _ hSc,Z,l,_,_,_,Z,Z,bu.of hI,be hyv,_,Z,pc,_,_,_,Z,Z,tI _ _ hSc,Z,yv,xa,r,c.2,920,920,Z,ry,rx.mono tI,wr,wZ (mc.2.mono (SV _) (by decide)),by decide,λw_ HJ sJ rw_=>?_⟩;have tJ:=aR.same (K:=K) sJ;have hJ:=sJ _ _ hI;refine⟨_,Z,_,Z,pc,_,_,_,Z,Z,tJ _ _ (tI _ _ hSc),Z,l,ds,_,c.1,Z,Z,hJ,lg (by omega),?_⟩;have tu:=aR.up (K:=K) hJ (ds.set c.1 w_);refine⟨_,_,Z,λb o nb e=>by rw[aA nb];exact sJ _ _ (kI b o nb e),ai,?_⟩;rw[TY,hc];show cH _ _ (eB (NC ws t₀) ((pl.take t₀).flatten.take i++[c]));rw[zI,ax (0,1) hrd];exact cH.setI (rw_.mono tu) c.1 (aI.mono λ_ _ z=>(z.mono tJ).mono tu)
 ·rintro σ HI ⟨ds,x4,rfl,kI,hI,aI⟩;rw[le,Ud] at aI;exact⟨_,Z,k l ds HI (λb o e=>kI b o (nl b o e) (s13 _ _ e)) hI aI⟩
theorem Kk(T:eA K mg t):bQ P w K mg base dQ 6 t.a_Q24 t.d_Q24 ["works","k","kept","plan","turn"] (pT K):=by
 refine T.F_Q24.ok iN (λvs H Q E h=>?_) (λcdv A outer s H vs Q E hr h=>?_)
 ·obtain⟨_,_,_,_,_,_,_,_,rfl,_⟩:=h;rfl
 obtain⟨v,u,x,kk,ws,kp,pl,t₀,rfl,wv,wo,k2,k4,pu,KF,px,PB,t24,k⟩:=h;refine dG.ok (ah (cM 5 iN.nd (cr (DA T) hr T.m_Q23 T.F_Q23.kp T.b_Q23 (ae (qv 0) (ae (qv 2) (ae (qv 4) ag af) af) af))) (ah (cM 6 iN.nd (cr (DA T) hr T.m_Q23 T.F_Q23.kp T.b_Q23 (ae (qv 0) (ae (qv 3) (ae (qv 4) ag af) af) af))) (ah (cM 7 iN.nd (cr (DF T) hr T.m_Q11 T.F_Q11.kp T.b_Q11 (ae (b8 aD (cr (HU T) hr T.m_Q6 T.F_Q6.kp T.b_Q6 (ae (qv 0) (ae (qv 5) (ae (qv 4) ag af) af) af)) aj) ag aH))) (ah (cM 8 iN.nd (cE ag)) (ah (cB S9 Z (ji Z T.z_enumerate (ae (qv 0) ag af)) (kq Z (bL (aJ (i:=9) iN.nd Z (by first|exact To Z|exact Tn Z)) (bL (aJ (i:=10) iN.nd Z (by first|exact To Z|exact Tn Z)) dS))) (ah (cM 11 iN.nd (cr (l6 T) hr T.m_Q54 T.F_Q54.kp T.b_Q54 (ae (b8 cc (qv 5) (qv 9)) (ae (cr (oG T) hr T.m_Q55 T.F_Q55.kp T.b_Q55 (ae (bT (ae (qv 1) (ae aj ag aX) af)) (ae (b8 cc (qv 6) (qv 9)) ag aH) cL)) ag aK) aH))) (av (cI (eP Te Tk Tl ca (qv 8) (ae (cr (oG T) hr T.m_Q55 T.F_Q55.kp T.b_Q55 (ae (cr (wI T) hr T.m_Q50 T.F_Q50.kp T.b_Q50 (ae (b8 aD (qv 7) (b8 aD (qv 10) aj)) (ae (aY iR (qv 1) aj) ag bw) aH)) (ae (qv 11) ag af) aK)) ag aK)))))) (av (aQ (cr (oG T) hr T.m_Q55 T.F_Q55.kp T.b_Q55 (ae (bT (ae (qv 1) (ae aj ag aX) af)) (ae (cr (Ds T) hr T.m_Q56 T.F_Q56.kp T.b_Q56 (ae (qv 8) ag af)) ag aK) cL))))))))) ?_
 nofun
 refine⟨_,Z,_,Z,_,Z,v,u,ws,kp,t₀,Z,wv,wo,pu,KF.ok,t24,λlo yo H1 s1 ho ao=>?_⟩;have t1:=aR.same (K:=K) s1;refine⟨_,Z,_,Z,_,Z,v,x,ws,pl,t₀,Z,wv.mono t1,wo,px.mono t1,PB,t24,λlt yt H2 s2 hlt at2=>?_⟩;have s12:=s1.trans s2;have t2:=aR.same (K:=K) s12;have ho2:=s2 _ _ ho;have ao2:cH (RV K H2) yo (bx ws kp t₀):=ao.mono λ_ _ z=>z.mono (aR.same s2)
 clear ho ao t1;obtain⟨pa,xs,rfl,hpa,al⟩:=wv;have few:=wo.few;have ll:=k8 ws kp t₀;have ll':=k8 ws pl t₀;have lo_:=ao2.len;have lt_:=at2.len;have lx:=al.len;refine⟨_,Z,_,Z,_,Z,pa,lo,xs,yo,ws,bx ws kp t₀,t₀,Z,.inr (t2 _ _ hpa),al.mono λ_ _ z=>z.mono t2,bu.of ho2,ao2,ll,by omega,λpw l9 uw H3 s3 hpw wvw _=>?_⟩;have nl:=jk (bx ws kp t₀);have wl:=fO ws (bx ws kp t₀) t₀;refine⟨pw,_,_,_,Z,Z,hpw,Z,uw,_,Z,wvw,by omega,tG wo KF t24,λps zs lys H4 s4 hps als L=>?_⟩;have lok:=oO L (by rw[TJ];exact SD _) (λt ht=>SW.mp ht);have am:=nQ (tG wo KF t24) (by omega) lok;obtain⟨bb,br⟩:=NA k2 k4 wo KF PB t24 L am;have s14:=(s12.trans s3).trans s4;have s24:=s3.trans s4;have lz:=als.len;have ls:(bn (bv ws (bx ws kp t₀) t₀) lys).length=24:=by
  unfold bn;rw[kO,VG]
 generalize bn (bv ws (bx ws kp t₀) t₀) lys=ss at bb br als lz am ls;refine⟨(by show 0≤sizeLine;exact S8 _),λlp hlp=>?_⟩;obtain⟨s5,e5⟩:=jy hlp (.lst []);have n0:H lp=none:=fh s14 hlp;generalize aO H4 lp _=H5 at s5 e5 ⊢;have s05:=s14.trans s5;have t5:=aR.same (K:=K) s05;have s25:=s24.trans s5;have a5:cH (RV K H5) zs ss:=als.mono λ_ _ z=>z.mono (aR.same s5)
 have o5:cH (RV K H5) yo (bx ws kp t₀):=ao2.mono λ_ _ z=>z.mono (aR.same s25)
 have r5:cH (RV K H5) yt (bx ws pl t₀):=at2.mono λ_ _ z=>z.mono (aR.same s25)
 have ho5:=s25 _ _ ho2;have hl5:=s25 _ _ hlt;have hp5:=aR.same (K:=K) s5 _ _ hps;have nlo:lo≠lp:=λz=>by rw[←z] at hlp;rw[s24 _ _ ho2] at hlp;cases hlp
 have nlt:lt≠lp:=λz=>by rw[←z] at hlp;rw[s24 _ _ hlt] at hlp;cases hlp
 clear als ao2 at2 ho2 hlt hps hpw wvw hlp s5;let Iv1:Nat->L2.St->Hp->Prop:=λi σ H'=>∃(ys:List V) (y9 y10 y11:Option V),σ=[some (.ref pa),some (.int kk),some u,some x,some (.int (t₀:Nat)),some (.ref lo),some (.ref lt),some (.ref ps),some (.ref lp),y9,y10,y11]/\(∀b o,b≠lp->H5 b=some o->H' b=some o)/\H' lp=some (.lst ys)/\cH (RV K H') ys (sS kk ws kp pl t₀ ss i)
 refine⟨_,Z,pa,Z,⟨_,t5 _ _ hpa⟩,jr (sq:=bV K) (a:=pa) (xs:=xs) Iv1 ⟨[],none,none,none,Z,λb o _ e=>e,e5,.nil⟩ (λj σ H' _ ⟨_,_,_,_,_,kk',h',_⟩=>aR.steps e5 kk' ⟨_,h'⟩ _ _ (t5 _ _ hpa)) ?_ ?_⟩
 ·rintro i y pe σ HB hx ⟨ys,y9,y10,y11,rfl,kB,hB,aB⟩ hpe;have hi:i<ws.length:=by have:=(SN.mp hx).1;omega
  obtain⟨s6,q6⟩:=jy hpe (.tup [.int i,y]);have hB6:=s6 _ _ hB;have tB:=(aR.steps (K:=K) e5 kB ⟨_,hB⟩).trans (aR.same s6);have k6:∀b o,b≠lp->H5 b=some o->aO HB pe (.tup [.int i,y]) b=some o:=λb o nb e=>s6 _ _ (kB b o nb e)
  have a6:cH (RV K (aO HB pe (.tup [.int i,y]))) ys (sS kk ws kp pl t₀ ss i):=aB.mono λ_ _ z=>z.mono (aR.same s6)
  generalize aO HB pe _=HC at q6 hB6 tB k6 a6 ⊢;clear kB hB aB s6;obtain⟨w,hw,pw2,am2,rfl,hpw2,ram⟩:=al.at hx;have ew:ws.getD i bh=w:=ax bh hw;have wa:=wo.at hi;rw[ew] at wa;obtain⟨xo,hxo⟩:∃xo,yo[i]?=some xo:=⟨_,Sz (by omega)⟩;obtain⟨ro,hro,rvo⟩:=o5.at hxo;obtain⟨xt,hxt⟩:∃xt,yt[i]?=some xt:=⟨_,Sz (by omega)⟩;obtain⟨rt,hrt,rvt⟩:=r5.at hxt;obtain⟨xz,hxz⟩:∃xz,zs[w.2.1]?=some xz:=⟨_,Sz (by omega)⟩;obtain⟨rz,hrz,rvz⟩:=a5.at hxz;have bo:Bq DZ 12 ro:=by have:=(jo wo KF.ok t24 hi).1;rw[ax (0,1) hro] at this;exact this
  have bt:Bq DZ 12 rt:=by have:=(jo wo PB t24 hi).1;rw[ax (0,1) hrt] at this;exact this
  have bz:fw rz:=am rz (SF hrz);obtain⟨b1,b2⟩:=vG k2 k4 bo bt;have b3:=(kA (bz.bq.mono (D':=DZ) (N':=256) (by decide) (SD _)) (kk-1).toNat);have b3w:Wf 3640 (dk rz (kk-1).toNat):=w4 (b3.mono (WM _ (by omega)) (Tu (UD (by decide) (show(kk-1).toNat≤3 by omega)) (by decide)));refine⟨pe,_,Z,bV.of q6,Z,_,_,Z,_,_,Z,Z,?_⟩;refine⟨_,Z,_,Z,lo,_,_,_,Z,Z,bu.of (k6 _ _ nlo ho5),be hxo,?_⟩;refine⟨_,Z,jz,λp7 g7=>?_⟩;have s7:=aw g7 (.tup [.int kk,.int 1]);have rk:RV K (aO HC p7 (.tup [.int kk,.int 1])) (.ref p7) (kk,1):=RV.of ai;generalize aO HC p7 _=H7 at s7 rk ⊢;have t7:=tB.trans (aR.same s7);refine⟨_,Z,_,Z,lt,_,_,_,Z,Z,bu.of (s7 _ _ (k6 _ _ nlt hl5)),be hxt,.ref p7,xt,(kk,1),rt,920,920,Z,rk,rvt.mono t7,wZ ((An k2 k4).mono (by decide) (by decide)),wZ (bt.mono (SV _) (by decide)),by decide,nR K λp8 H8 s8 r8=>?_⟩;have t8:=t7.trans (aR.same s8);refine⟨xo,.ref p8,ro,bA (kk,1) rt,920,920,Z,rvo.mono t8,r8,wZ (bo.mono (SV _) (by decide)),wZ (b1.mono (SV _) (by decide)),by decide,λva H9 s9 ra=>?_⟩;have s69:=(s7.trans s8).trans s9;have t9:=t8.trans (aR.same s9);refine⟨_,Z,.inl ⟨Z,_,bu.of (s69 _ _ hB6)⟩,?_⟩;refine⟨_,Z,_,Z,pw2,_,_,_,Z,Z,t9 _ _ (t5 _ _ hpw2),Z,ps,_,_,_,Z,Z,t9 _ _ hp5,be hxz,_,Z,_,_,Z,Z,xz,rz,kk-1,920,Z,rvz.mono t9,wZ (bz.bq.mono (by decide) (by decide)),by decide,by omega,by omega,λvb HD sD rb=>?_⟩;refine⟨_,Z,vb,va,dk rz (kk-1).toNat,bJ ro (bA (kk,1) rt),3640,920,Z,rb,ra.mono (aR.same sD),b3w,wZ (b2.mono (SV _) (by decide)),by decide,nR K λpE HE sE rE=>?_⟩;have s6E:=(s69.trans sD).trans sE;have hE:=s6E _ _ hB6;have aE:cH (RV K HE) ys (sS kk ws kp pl t₀ ss i):=a6.mono λ_ _ z=>z.mono (aR.same s6E)
  have le:=aE.len;have lps:(sS kk ws kp pl t₀ ss i).length=i:=by unfold sS;rw[SE,TJ]
  have tu:=aR.up (K:=K) hE (ys++[.ref pE]);refine⟨lp,_,_,Z,Z,hE,bi (by omega),?_⟩;refine⟨_,_,_,_,Z,λb o nb e=>by rw[aA nb];exact s6E _ _ (k6 b o nb e),ai,?_⟩;rw[FF,ew,ax (0,1) hrz,ax (0,1) hro,ax (0,1) hrt];exact(aE.mono λ_ _ z=>z.mono tu).snoc (rE.mono tu)
 ·rintro σ HB ⟨ys,y9,y10,y11,rfl,kB,hB,aB⟩;rw[lx] at aB;have lps:(sS kk ws kp pl t₀ ss ws.length).length=ws.length:=by unfold sS;rw[SE,TJ]
  refine⟨_,Z,jz,λp7 g7=>?_⟩;have s7:=aw g7 (.tup [.int kk,.int 1]);have rk:RV K (aO HB p7 (.tup [.int kk,.int 1])) (.ref p7) (kk,1):=RV.of ai;have s07:aP H (aO HB p7 (.tup [.int kk,.int 1])):=λb o e=>s7 _ _ (kB b o (aU e n0) (s05 _ _ e))
  have h7:=s7 _ _ hB;have a7:cH (RV K (aO HB p7 (.tup [.int kk,.int 1]))) ys (sS kk ws kp pl t₀ ss ws.length):=aB.mono λ_ _ z=>z.mono (aR.same s7)
  generalize aO HB p7 _=H7 at rk s07 h7 a7 ⊢;refine⟨_,Z,lp,ys,_,3640,DQ,Z,.inl (bu.of h7),zc a7,λr hr=>⟨w4 ((bb r hr).mono (SV _) (by decide)),(bb r hr).dvd⟩,by decide,by decide,by omega,by decide,λvs_ H8 s8 r8=>?_⟩;have sb:=(f9 (by decide) bb).mono (SV _) (show 1100000000*(sS kk ws kp pl t₀ ss ws.length).length≤22000000000 by omega);refine⟨.ref p7,vs_,(kk,1),_,920,3640,Z,rk.mono (aR.same s8),r8,wZ ((An k2 k4).mono (by decide) (by decide)),w4 (sb.mono (SV _) (by decide)),by decide,λp9 g9=>?_⟩;exact k _ _ _ ((s07.trans s8).trans (aw g9 _)) (RV.of ai) br
theorem tw(T:eA K mg t):bQ P w K mg base dQ 1 t.a_Q17 t.d_Q17 ["_law_script","_law_k"] (nV K):=by
 refine T.F_Q17.ok IY (λvs H Q E h=>?_) (λcdv A outer s H vs Q E hr h=>?_)
 ·obtain⟨_,_,_,rfl,_⟩:=h;rfl
 obtain⟨a,ns,k₀,rfl,hS,k⟩:=h;refine dG.ok (ah (cF (bj mG (qv 1) (aZ ba (by rfl) T.z_len UI (ae (qv 0) ag af)) (bB _)) (av (aQ (b8 cc (qv 0) (qv 1)))) bC) (av (aQ aj))) ?_
 nofun
 have hlm:((ns.map V.int).length:Int)=(ns.length:Int):=by rw[SE]
 refine⟨_,Z,_,Z,a,_,Z,.inl hS,_,_,Z,Z,_,Z,?_⟩;by_cases c:(k₀:Int)<((ns.map V.int).length:Int)
 ·refine d8 c ?_;obtain⟨z,hz⟩:=Hw (ns:=ns) (r:=(k₀:Int)) (by omega) (by omega);exact⟨_,Z,_,Z,a,_,_,_,Z,Z,hS,hz,k z⟩
 ·exact dj c (k 0)
theorem wK(T:eA K mg t):bQ P w K mg base dQ 1 t.a_Q31 t.d_Q31 ["_law_cell","_law_many"] (rK K):=by
 refine T.F_Q31.ok iM (λvs H Q E h=>?_) (λcdv A outer s H vs Q E hr h=>?_)
 ·obtain⟨_,_,rfl,_⟩:=h;rfl
 obtain⟨c,m,rfl,m0,m1,k⟩:=h;refine dG.ok (ah (cM 2 iM.nd (cE ag)) (ah (cM 3 iM.nd aj) (ah (cF (bj Dp (qv 0) (aY JX aj aj) (bB _)) (av (cM 3 iM.nd (qv 0))) bC) (ah (cM 4 iM.nd (aY cX (aY hZ (qv 0) aj) aj)) (ah (cB S9 Z (cD Z T.z_range (ae (qv 1) ag af)) (aJ (i:=5) iM.nd Z (by first|exact To Z|exact Tn Z)) (ah (cM 4 iM.nd (aY hZ (aY cX (aY cX (aY iS (qv 4) (qv 4)) (aY iS aj (qv 4))) (aY iS aj (qv 5))) aj)) (av (cF (bj iT (qv 3) aj (bB _)) (ah (cI (eP Te Tk Tl ca (qv 2) (ae (aY hZ (qv 3) aj) ag bw))) (av (cM 3 iM.nd (aY yG (qv 3) aj)))) (av (cI (eP Te Tk Tl ca (qv 2) (ae (aY yG (aY hZ (aY cX (aY iS (qv 4) aj) (aY iS aj (qv 5))) aj) aj) ag bw)))))))) (av (aQ (qv 2)))))))) ?_
 nofun
 refine⟨(by show 0≤sizeLine;exact S8 _),λl h0=>?_⟩;have s0:=aw h0 (.lst []);have q0:=U2 c (show(2147483629:Int)≠0 by decide);have q1:=U3 c (show(0:Int)<2147483629 by decide);refine⟨_,Z,_,_,Z,Z,⟨by decide,by decide,by decide⟩,_,_,Z,Z,_,Z,KO (λ_=>?_) (λ_=>?_)⟩
 ·refine⟨_,Z,?_⟩;refine⟨_,Z,_,_,Z,Z,(by show(0:Int)<_;decide),_,_,Z,Z,?_⟩;refine⟨_,Z,m,Z,by omega,by omega,cR (lo:=0) (n:=(m:Int).toNat) (λi σ H'=>∃(ns:List Int) (num mx:Int) (x6:Option V),σ=[some (.int c),some (.int m),some (.ref l),some (.int num),some (.int mx),x6]/\aP H H'/\H' l=some (.lst (ns.map V.int))/\ns.length=i/\0≤mx/\mx<2147540000) ⟨[],c,_,none,Z,s0,ai,Z,by omega,by omega⟩ ?_ ?_⟩
  ·rintro i σ H1 hi ⟨ns,num,mx,x6,rfl,s1,hl1,hn,x0,x1⟩;refine⟨_,Z,_,Z,_,_,Z,Z,.inl ⟨by omega,by omega⟩,_,Z,_,_,Z,Z,.inl ⟨by decide,by decide⟩,_,_,Z,Z,_,Z,_,_,Z,Z,.inl ⟨by decide,by decide⟩,_,_,Z,Z,_,_,Z,Z,(by show(0:Int)<_;decide),?_⟩;have y0:=U2 (mx*mx+48271*mx+7*(0+(i:Int))) (show(2147483647:Int)≠0 by decide);have y1:=U3 (mx*mx+48271*mx+7*(0+(i:Int))) (show(0:Int)<2147483647 by decide);have fin:∀(z:Int),∃ns':List Int,aO H1 l (.lst (ns.map V.int++[.int z])) l=some (.lst (ns'.map V.int))/\ns'.length=i+1:=λz=>⟨ns++[z],by rw[ai,Ub];rfl,by rw[SZ,hn];rfl⟩
   have sm:∀o,aP H (aO H1 l o):=λo b u e=>by rw[aA (aU e h0)];exact s1 _ _ e
   refine⟨_,Z,_,_,Z,Z,_,Z,KO (λ_=>?_) (λ_=>?_)⟩
   ·refine⟨_,Z,.inl ⟨Z,_,bu.of hl1⟩,_,Z,_,_,Z,Z,(by show(0:Int)<_;decide),l,_,_,Z,Z,hl1,bi (by rw[SE];omega),?_⟩;refine⟨_,Z,_,_,Z,Z,⟨by decide,by decide⟩,?_⟩;obtain⟨ns',e,el⟩:=fin (num%720720);exact⟨ns',_,_,_,Z,sm _,e,el,y0,by omega⟩
   ·refine⟨_,Z,.inl ⟨Z,_,bu.of hl1⟩,_,Z,_,_,Z,Z,.inr ⟨by decide,by decide⟩,_,Z,_,_,Z,Z,.inl ⟨by decide,by decide⟩,_,_,Z,Z,_,_,Z,Z,(by show(0:Int)<_;decide),_,_,Z,Z,⟨by decide,by decide⟩,l,_,_,Z,Z,hl1,bi (by rw[SE];omega),?_⟩;obtain⟨ns',e,el⟩:=fin (((mx*mx+48271*mx+7*(0+(i:Int)))%2147483647*69621+13*(0+(i:Int)))%2147483629/3);exact⟨ns',_,_,_,Z,sm _,e,el,y0,by omega⟩
  ·rintro σ H1 ⟨ns,num,mx,x6,rfl,s1,hl1,hn,x0,x1⟩;exact⟨_,Z,k l ns H1 s1 h0 hl1 (by rw[hn];omega)⟩
 ·refine⟨_,Z,_,_,Z,Z,(by show(0:Int)<_;decide),_,_,Z,Z,?_⟩;refine⟨_,Z,m,Z,by omega,by omega,cR (lo:=0) (n:=(m:Int).toNat) (λi σ H'=>∃(ns:List Int) (num mx:Int) (x6:Option V),σ=[some (.int c),some (.int m),some (.ref l),some (.int num),some (.int mx),x6]/\aP H H'/\H' l=some (.lst (ns.map V.int))/\ns.length=i/\0≤mx/\mx<2147540000) ⟨[],0,_,none,Z,s0,ai,Z,by omega,by omega⟩ ?_ ?_⟩
  ·rintro i σ H1 hi ⟨ns,num,mx,x6,rfl,s1,hl1,hn,x0,x1⟩;refine⟨_,Z,_,Z,_,_,Z,Z,.inl ⟨by omega,by omega⟩,_,Z,_,_,Z,Z,.inl ⟨by decide,by decide⟩,_,_,Z,Z,_,Z,_,_,Z,Z,.inl ⟨by decide,by decide⟩,_,_,Z,Z,_,_,Z,Z,(by show(0:Int)<_;decide),?_⟩;have y0:=U2 (mx*mx+48271*mx+7*(0+(i:Int))) (show(2147483647:Int)≠0 by decide);have y1:=U3 (mx*mx+48271*mx+7*(0+(i:Int))) (show(0:Int)<2147483647 by decide);have fin:∀(z:Int),∃ns':List Int,aO H1 l (.lst (ns.map V.int++[.int z])) l=some (.lst (ns'.map V.int))/\ns'.length=i+1:=λz=>⟨ns++[z],by rw[ai,Ub];rfl,by rw[SZ,hn];rfl⟩
   have sm:∀o,aP H (aO H1 l o):=λo b u e=>by rw[aA (aU e h0)];exact s1 _ _ e
   refine⟨_,Z,_,_,Z,Z,_,Z,KO (λ_=>?_) (λ_=>?_)⟩
   ·refine⟨_,Z,.inl ⟨Z,_,bu.of hl1⟩,_,Z,_,_,Z,Z,(by show(0:Int)<_;decide),l,_,_,Z,Z,hl1,bi (by rw[SE];omega),?_⟩;refine⟨_,Z,_,_,Z,Z,⟨by decide,by decide⟩,?_⟩;obtain⟨ns',e,el⟩:=fin (num%720720);exact⟨ns',_,_,_,Z,sm _,e,el,y0,by omega⟩
   ·refine⟨_,Z,.inl ⟨Z,_,bu.of hl1⟩,_,Z,_,_,Z,Z,.inr ⟨by decide,by decide⟩,_,Z,_,_,Z,Z,.inl ⟨by decide,by decide⟩,_,_,Z,Z,_,_,Z,Z,(by show(0:Int)<_;decide),_,_,Z,Z,⟨by decide,by decide⟩,l,_,_,Z,Z,hl1,bi (by rw[SE];omega),?_⟩;obtain⟨ns',e,el⟩:=fin (((mx*mx+48271*mx+7*(0+(i:Int)))%2147483647*69621+13*(0+(i:Int)))%2147483629/3);exact⟨ns',_,_,_,Z,sm _,e,el,y0,by omega⟩
  ·rintro σ H1 ⟨ns,num,mx,x6,rfl,s1,hl1,hn,x0,x1⟩;exact⟨_,Z,k l ns H1 s1 h0 hl1 (by rw[hn];omega)⟩
theorem fu(T:eA K mg t):bQ P w K mg base dQ 1 t.a_Q45 t.d_Q45 ["_law_tape","_law_many"] (uE K):=by
 refine T.F_Q45.ok IN (λvs H Q E h=>?_) (λcdv A outer s H vs Q E hr h=>?_)
 ·obtain⟨_,_,_,rfl,_⟩:=h;rfl
 obtain⟨t₁,l,m,rfl,tp,hm0,hm1,k⟩:=h;refine dG.ok (ah (ko (aY cX (b8 cc (qv 0) aj) aj) (ot (qv 0) aj gG)) (av (aQ (aY hZ (b8 cc (b8 cc (qv 0) aj) (aY hZ (aY iR (b8 cc (qv 0) aj) aj) (aZ ba (by rfl) T.z_len UI (ae (b8 cc (qv 0) aj) ag aH)))) (qv 1))))) ?_
 nofun
 obtain⟨ns,p,ht,hl,nl,n0,n1⟩:=tp.ex;refine⟨_,Z,t₁,_,_,_,Z,Z,bu.of ht,Z,_,_,Z,Z,_,Z,t₁,_,_,_,Z,Z,ht,Z,?_⟩;have hl':∀o,aO H t₁ o l=some (.lst (ns.map V.int)):=λo=>by rw[aA nl];exact hl
 have hlm:((ns.map V.int).length:Int)=(ns.length:Int):=by rw[SE]
 obtain⟨z,hz⟩:=Hw (ns:=ns) (r:=(p+1-1)%((ns.map V.int).length:Int)) (U2 _ (by omega)) (by have:=U3 (p+1-1) (show(0:Int)<((ns.map V.int).length:Int) by omega);omega);refine⟨_,Z,t₁,_,_,_,Z,Z,bu.of ai,Z,_,Z,t₁,_,_,_,Z,Z,bu.of ai,Z,_,_,Z,Z,_,Z,t₁,_,_,_,Z,Z,bu.of ai,Z,l,_,Z,.inl (bu.of (hl' _)),_,_,Z,Z,(by omega),l,_,_,_,Z,Z,bu.of (hl' _),hz,_,Z,_,_,Z,Z,hm0,?_⟩;exact k _ _ (U2 _ (by omega)) (U3 _ hm0) ⟨ns,_,ai,hl' _,nl,n0,n1⟩
theorem l7(T:eA K mg t):bQ P w K mg base dQ 1 t.a_Q46 t.d_Q46 ["_law_top","_law_bottom"] (uG K):=by
 refine T.F_Q46.ok wc (λvs H Q E h=>?_) (λcdv A outer s H vs Q E hr h=>?_)
 ·obtain⟨_,_,rfl,_⟩:=h;rfl
 obtain⟨a,b,rfl,hb,hz,k⟩:=h;refine dG.ok (ah (CQ (i:=2) (j:=3) Z wc.nd Z Z (by decide) Z Z (ae (aZ o9 (by rfl) T.z_abs boot_abs (ae (qv 0) ag af)) (ae (qv 1) ag af) aK) Z) (ah (kU S9 (bj iT (qv 3) aj (bB _)) (av (CQ (i:=2) (j:=3) Z wc.nd Z Z (by decide) Z Z (ae (qv 3) (ae (aY hZ (qv 2) (qv 3)) ag bw) af) Z))) (av (aQ (bT (ae (aY eG (qv 0) (qv 2)) (ae (aY eG (qv 1) (qv 2)) ag bw) bw)))))) ?_
 nofun
 have gp:=cV (a:=a) hb;have gb:=oV (a:=a) hb hz;refine⟨_,Z,_,Z,_,Z,_,_,Z,?_⟩;rw[xm];refine⟨λm σ H'=>∃(x y:Int),σ=[some (.int a),some (.int b),some (.int x),some (.int y)]/\H'=H/\0≤x/\0≤y/\S7 x y=S7 a b/\m=y.toNat,⟨_,_,_,Z,Z,by omega,by omega,(by simp[S7]),Z⟩,?_⟩;rintro m σ H' ⟨x,y,rfl,rfl,hx,hy,hg,rfl⟩;refine⟨_,Z,_,_,Z,Z,_,Z,?_⟩;by_cases c:y=0
 ·subst c;refine dj (by decide) ?_;have e:(x:Int)=(S7 x 0:Nat):=by simp[S7];omega
  rw[hg] at e;subst e;exact⟨_,Z,_,Z,_,_,Z,Z,⟨gp,gb⟩,_,Z,_,Z,_,_,Z,Z,⟨gp,gb⟩,jz,λp hp=>k p hp⟩
 ·refine d8 (by omega) ?_;refine⟨_,λ_ _ z=>z,?_⟩;refine⟨_,Z,_,Z,_,Z,_,_,Z,Z,(by omega),_,_,Z,?_⟩;refine⟨_,?_,y,x%y,Z,Z,hy,U2 _ c,?_,Z⟩
  ·have:=U3 x (show 0<y by omega);have:=U2 x c;omega
  ·rw[vc hx (by omega),hg]
theorem Du(T:eA K mg t):bQ P w K mg base dQ 2 t.a_Q47 t.d_Q47 ["_law_one","_law_other"] (uF K):=by
 refine T.F_Q47.ok IM (λvs H Q E h=>?_) (λcdv A outer s H vs Q E hr h=>?_)
 ·obtain⟨_,_,_,_,_,_,rfl,_⟩:=h;rfl
 obtain⟨v,w,r,q,n,m,rfl,hv,hw,wr,wq,hz,k⟩:=h;refine dG.ok (av (aQ (cr (l7 T) hr T.m_Q46 T.F_Q46.kp T.b_Q46 (ae (aY cX (aY cJ (b8 aD (qv 0) aj) (b8 aD (qv 1) aj)) (aY cJ (b8 aD (qv 1) aj) (b8 aD (qv 0) aj))) (ae (aY cJ (b8 aD (qv 0) aj) (b8 aD (qv 1) aj)) ag bw) bw)))) ?_;nofun
 obtain⟨p,rfl,hv⟩:=hv;obtain⟨p',rfl,hw⟩:=hw;have c1:=bU wr.top (show n≤8990 by omega);have c2:=bU wr.bot (show n≤8990 by omega);have c3:=bU wq.top (show m≤8990 by omega);have c4:=bU wq.bot (show m≤8990 by omega);refine⟨_,Z,p,_,_,_,Z,Z,hv,Z,_,Z,p',_,_,_,Z,Z,hw,Z,_,_,Z,Z,⟨c1,c4⟩,_,Z,p',_,_,_,Z,Z,hw,Z,_,Z,p,_,_,_,Z,Z,hv,Z,_,_,Z,Z,⟨c3,c2⟩,_,_,Z,Z,_,Z,p,_,_,_,Z,Z,hv,Z,_,Z,p',_,_,_,Z,Z,hw,Z,_,_,Z,Z,⟨c2,c4⟩,_,_,Z,Ut wr.pos wq.pos,bU (oM wr.bot wq.bot) (by omega),k⟩
theorem Kg(T:eA K mg t):bQ P w K mg base dQ 2 t.a_Q32 t.d_Q32 ["_law_one","_law_other"] (rJ K):=by
 refine T.F_Q32.ok IT (λvs H Q E h=>?_) (λcdv A outer s H vs Q E hr h=>?_)
 ·obtain⟨_,_,_,_,_,_,rfl,_⟩:=h;rfl
 obtain⟨v,w,r,q,n,m,rfl,hv,hw,wr,wq,hz,k⟩:=h;refine dG.ok (av (aQ (cr (l7 T) hr T.m_Q46 T.F_Q46.kp T.b_Q46 (ae (aY iR (aY cJ (b8 aD (qv 0) aj) (b8 aD (qv 1) aj)) (aY cJ (b8 aD (qv 1) aj) (b8 aD (qv 0) aj))) (ae (aY cJ (b8 aD (qv 0) aj) (b8 aD (qv 1) aj)) ag bw) bw)))) ?_;nofun
 obtain⟨p,rfl,hv⟩:=hv;obtain⟨p',rfl,hw⟩:=hw;have c1:=bU wr.top (show n≤8990 by omega);have c2:=bU wr.bot (show n≤8990 by omega);have c3:=bU wq.top (show m≤8990 by omega);have c4:=bU wq.bot (show m≤8990 by omega);refine⟨_,Z,p,_,_,_,Z,Z,hv,Z,_,Z,p',_,_,_,Z,Z,hw,Z,_,_,Z,Z,⟨c1,c4⟩,_,Z,p',_,_,_,Z,Z,hw,Z,_,Z,p,_,_,_,Z,Z,hv,Z,_,_,Z,Z,⟨c3,c2⟩,_,_,Z,Z,_,Z,p,_,_,_,Z,Z,hv,Z,_,Z,p',_,_,_,Z,Z,hw,Z,_,_,Z,Z,⟨c2,c4⟩,_,_,Z,Ut wr.pos wq.pos,bU (oM wr.bot wq.bot) (by omega),k⟩
theorem tj(T:eA K mg t):bQ P w K mg base dQ 2 t.a_Q33 t.d_Q33 ["_law_one","_law_other"] (rC K):=by
 refine T.F_Q33.ok IS (λvs H Q E h=>?_) (λcdv A outer s H vs Q E hr h=>?_)
 ·obtain⟨_,_,_,_,_,_,rfl,_⟩:=h;rfl
 obtain⟨v,w,r,q,n,m,rfl,hv,hw,wr,wq,hz,k⟩:=h;refine dG.ok (av (aQ (cr (l7 T) hr T.m_Q46 T.F_Q46.kp T.b_Q46 (ae (aY cJ (b8 aD (qv 0) aj) (b8 aD (qv 1) aj)) (ae (aY cJ (b8 aD (qv 0) aj) (b8 aD (qv 1) aj)) ag bw) bw)))) ?_;nofun
 obtain⟨p,rfl,hv⟩:=hv;obtain⟨p',rfl,hw⟩:=hw;have c1:=bU wr.top (show n≤8990 by omega);have c2:=bU wr.bot (show n≤8990 by omega);have c3:=bU wq.top (show m≤8990 by omega);have c4:=bU wq.bot (show m≤8990 by omega);refine⟨_,Z,p,_,_,_,Z,Z,hv,Z,_,Z,p',_,_,_,Z,Z,hw,Z,_,_,Z,Z,⟨c1,c3⟩,_,Z,p,_,_,_,Z,Z,hv,Z,_,Z,p',_,_,_,Z,Z,hw,Z,_,_,Z,Z,⟨c2,c4⟩,_,_,Z,Ut wr.pos wq.pos,bU (oM wr.bot wq.bot) (by omega),k⟩
theorem DE(T:eA K mg t):bQ P w K mg base dQ 1 t.a_Q18 t.d_Q18 ["_law_one","_law_other"] (nU K):=by
 refine T.F_Q18.ok IX (λvs H Q E h=>?_) (λcdv A outer s H vs Q E hr h=>?_)
 ·obtain⟨_,_,_,_,_,_,rfl,_⟩:=h;rfl
 obtain⟨v,w,r,q,n,m,rfl,hv,hw,wr,wq,hz,k⟩:=h;refine dG.ok (av (aQ (gg mG (aY cJ (b8 aD (qv 0) aj) (b8 aD (qv 1) aj)) (aY cJ (b8 aD (qv 1) aj) (b8 aD (qv 0) aj)) (bB _)))) ?_;nofun
 obtain⟨p,rfl,hv⟩:=hv;obtain⟨p',rfl,hw⟩:=hw;have c1:=bU wr.top (show n≤8990 by omega);have c2:=bU wr.bot (show n≤8990 by omega);have c3:=bU wq.top (show m≤8990 by omega);have c4:=bU wq.bot (show m≤8990 by omega);refine⟨_,Z,p,_,_,_,Z,Z,hv,Z,_,Z,p',_,_,_,Z,Z,hw,Z,_,_,Z,Z,⟨c1,c4⟩,_,Z,p',_,_,_,Z,Z,hw,Z,_,Z,p,_,_,_,Z,Z,hv,Z,_,_,Z,Z,⟨c3,c2⟩,_,_,Z,Z,k⟩
theorem Dy(T:eA K mg t):bQ P w K mg base dQ 3 t.a_Q34 t.d_Q34 ["_law_some"] (rB K):=by
 refine T.F_Q34.ok rT (λvs H Q E h=>?_) (λcdv A outer s H vs Q E hr h=>?_)
 ·obtain⟨_,_,_,rfl,_⟩:=h;rfl
 obtain⟨a,xs,rs,rfl,hS,al,bq,hl,k⟩:=h;refine dG.ok (ah (cM 1 rT.nd (bT (ae aj (ae aj ag aX) aX))) (ah (cB S9 Z (eh (qv 0)) (aJ (i:=2) rT.nd Z (by first|exact To Z|exact Tn Z)) (av (cM 1 rT.nd (cr (Du T) hr T.m_Q47 T.F_Q47.kp T.b_Q47 (ae (qv 1) (ae (qv 2) ag af) af))))) (av (aQ (qv 1))))) ?_
 nofun
 have hlen:=al.len;refine⟨jz,λp0 hp0=>?_⟩;have s0:=aw hp0 (.tup [.int 0,.int 1]);refine⟨_,Z,a,Z,⟨_,s0.seq hS⟩,iX (K:=K) (a:=a) (xs:=xs) (λi σ H'=>∃(u:V) (x3:Option V),σ=[some (.ref a),some u,x3]/\aP H H'/\RV K H' u (eN (rs.take i))) ⟨_,none,Z,s0,RV.of ai⟩ (λi σ H1 _ ⟨_,_,_,s1,_⟩=>s1.seq hS) ?_ ?_⟩
 ·rintro i y σ H1 hi ⟨u,x3,rfl,s1,ru⟩;obtain⟨r,hr,rv⟩:=al.at hi;have br:=bq r (SF hr);have hil:=(SN.mp hr).1;have wu:Wf 3640 (eN (rs.take i)):=w4 ((f9 (N:=1000000000000000) (by decide) λx hx=>bq x (Uv hx)).mono (SV _) (by rw[Uk];omega));have wr:Wf 3640 r:=w4 (br.mono (SV _) (by decide));refine⟨_,Z,_,Z,u,y,eN (rs.take i),r,3640,3640,Z,ru,rv.mono (aR.same s1),wu,wr,by decide,λp hp=>?_⟩;have s2:=aw hp (.tup [.int (cP (eN (rs.take i)) r).1,.int (cP (eN (rs.take i)) r).2]);refine⟨_,_,Z,s1.trans s2,?_⟩;rw[Bd hr];exact RV.of ai
 ·rintro σ H1 ⟨u,x3,rfl,s1,ru⟩;rw[hlen,Ud] at ru;exact⟨_,Z,k u H1 s1 ru⟩
theorem Dx(T:eA K mg t):bQ P w K mg base dQ 2 t.a_Q35 t.d_Q35 ["_law_tape","_law_most","_law_turns"] (rq K):=by
 refine T.F_Q35.ok fR (λvs H Q E h=>?_) (λcdv A outer s H vs Q E hr h=>?_)
 ·obtain⟨_,_,_,_,rfl,_⟩:=h;rfl
 obtain⟨t₁,l,mo,tu,rfl,tb,m0,m20,u1,u24,k⟩:=h;refine dG.ok (ah (cM 3 fR.nd (cE ag)) (ah (cB S9 Z (cD Z T.z_range (ae (cr (fu T) hr T.m_Q45 T.F_Q45.kp T.b_Q45 (ae (qv 0) (ae (aY cX (qv 1) aj) ag bw) af)) ag aK)) (aJ (i:=4) fR.nd Z (by first|exact To Z|exact Tn Z)) (ah (cM 5 fR.nd (cr (fu T) hr T.m_Q45 T.F_Q45.kp T.b_Q45 (ae (qv 0) (ae aj ag aX) af))) (ah (cM 6 fR.nd (cr (fu T) hr T.m_Q45 T.F_Q45.kp T.b_Q45 (ae (qv 0) (ae (qv 2) ag af) af))) (ah (cM 7 fR.nd (aY cX (qv 6) (cr (fu T) hr T.m_Q45 T.F_Q45.kp T.b_Q45 (ae (qv 0) (ae (aY iR (qv 2) (qv 6)) ag bw) af)))) (ah (so (cF (bj jD (qv 5) aj (bB _)) (av (cM 7 fR.nd (qv 6))) bC)) (ah (so (cF (jC (si (bj jD (qv 5) aj (bB _)) (sg (bj (l5 hr) (qv 3) (cE ag) (bB _))))) (av (ko (oy BE (b8 cc (qv 3) (cr (fu T) hr T.m_Q45 T.F_Q45.kp T.b_Q45 (ae (qv 0) (ae (aZ ba (by rfl) T.z_len UI (ae (qv 3) ag af)) ag aK) af))) yn (m9 aj)) (kq Z (bL (aJ (i:=6) fR.nd Z (by first|exact To Z|exact Tn Z)) (bL (aJ (i:=7) fR.nd Z (by first|exact To Z|exact Tn Z)) dS))))) bC)) (ah (cM 8 fR.nd (bT (ae (aY cX aj (cr (fu T) hr T.m_Q45 T.F_Q45.kp T.b_Q45 (ae (qv 0) (ae aj ag aX) af))) (ae (b8 cc (cE (ae aj (ae aj (ae aj (ae aj (ae aj (ae aj ag aX) aX) aX) aX) aX) aX)) (cr (fu T) hr T.m_Q45 T.F_Q45.kp T.b_Q45 (ae (qv 0) (ae aj ag aX) af))) ag aH) bw))) (ah (so (cF (jC (si (bj jD (qv 5) aj (bB _)) (sg (bj (l5 hr) (qv 3) (cE ag) (bB _))))) (av (cM 8 fR.nd (b8 aD (b8 cc (qv 3) (cr (fu T) hr T.m_Q45 T.F_Q45.kp T.b_Q45 (ae (qv 0) (ae (aZ ba (by rfl) T.z_len UI (ae (qv 3) ag af)) ag aK) af))) aj))) bC)) (av (cI (eP Te Tk Tl ca (qv 3) (ae (bT (ae (qv 6) (ae (qv 7) (ae (cr (l7 T) hr T.m_Q46 T.F_Q46.kp T.b_Q46 (ae (b8 aD (qv 8) aj) (ae (b8 aD (qv 8) aj) ag aH) aH)) ag aK) af) af)) ag cL)))))))))))) (av (aQ (ck bG (by rfl) T.z_tuple UO (ae (qv 3) ag af)))))) ?_
 nofun
 refine⟨(by show 0≤sizeLine;exact S8 _),λlw hlw=>?_⟩;have s1:=aw hlw (.lst []);have nt:lw≠t₁:=λz=>by obtain⟨ys,e⟩:=tb.lst;rw[←z,hlw] at e;cases e
 have nl:lw≠l:=λz=>by obtain⟨ys,e⟩:=tb.lst';rw[←z,hlw] at e;cases e
 have W1:Wl K H t₁ l lw (aO H lw (.lst [])) []:=⟨qS.of s1,tb.same s1,⟨[],ai,.nil⟩,nt,nl,hlw,λw h=>by cases h⟩;generalize aO H lw _=H1 at W1 ⊢;refine⟨_,Z,_,Z,_,_,Z,Z,t₁,l,mo+1,Z,W1.tb,by omega,by omega,λr2 x2 a2 b2 tb2=>?_⟩;have W2:=W1.tape tb2;generalize aO H1 t₁ _=H2 at W2 ⊢;obtain⟨m,rfl⟩:=Uc a2;let Iv1:Nat->L2.St->Hp->Prop:=λi σ H'=>∃(x4 x5 x6 x7 x8:Option V) (ws:List Wk),σ=[some (.ref t₁),some (.int mo),some (.int tu),some (.ref lw),x4,x5,x6,x7,x8]/\Wl K H t₁ l lw H' ws/\ws.length=i
 refine⟨m,Z,by omega,by omega,cR (lo:=0) (n:=(m:Int).toNat) Iv1 ⟨none,none,none,none,none,[],Z,W2,Z⟩ ?_ ?_⟩
 ·rintro i σ H3 hi ⟨x4,x5,x6,x7,x8,ws,rfl,W3,wl⟩;refine⟨_,Z,t₁,l,6,Z,W3.tb,by omega,by omega,λrw_ x5' a5 b5 tb5=>?_⟩;have W5:=W3.tape tb5;generalize aO H3 t₁ _=H5 at W5 ⊢;refine⟨_,Z,_,Z,t₁,l,tu,Z,W5.tb,by omega,by omega,λrf x6' a6 b6 tb6=>?_⟩;have W6:=W5.tape tb6;generalize aO H5 t₁ _=H6 at W6 ⊢;refine⟨_,Z,_,Z,_,Z,_,Z,_,_,Z,Z,t₁,l,tu-rf,Z,W6.tb,by omega,by omega,λrl x7' a7 b7 tb7=>?_⟩;have W7:=W6.tape tb7;generalize aO H6 t₁ _=H7 at W7 ⊢;refine⟨_,_,Z,Z,?_⟩;refine⟨λσ H'=>∃(f g:Int),σ=[some (.ref t₁),some (.int mo),some (.int tu),some (.ref lw),some (.int (0+(i:Nat))),some (.int rw_),some (.int f),some (.int g),x8]/\H'=H7/\0≤f/\f≤g/\g<24,?_,?_⟩
  ·refine⟨_,Z,Z,_,Z,?_⟩;by_cases c:rw_=0
   ·refine d8 (by rw[c]) ?_;exact⟨_,Z,rf,rf,Z,Z,a6,Xy _,by omega⟩
   ·refine dj (λz=>by injection z with z;exact c z) ?_;exact⟨rf,rf+rl,rfl,rfl,a6,by omega,by omega⟩
  rintro σ H7' ⟨f,g,rfl,rfl,f0,fg,g24⟩;clear a7 b7 a6 b6 rf rl a5 b5;refine⟨λσ H'=>∃(f g:Int),σ=[some (.ref t₁),some (.int mo),some (.int tu),some (.ref lw),some (.int (0+(i:Nat))),some (.int rw_),some (.int f),some (.int g),x8]/\Wl K H t₁ l lw H' ws/\0≤f/\f≤g/\g<24,?_,?_⟩
  ·refine⟨_,Z,Z,_,Z,?_⟩;by_cases c:rw_=1
   rotate_left
   ·refine dj (λz=>by injection z with z;exact c z) (d7 ?_);exact⟨f,g,rfl,W7,f0,fg,g24⟩
   refine d8 (by rw[c]) ?_;refine⟨_,Z,(by show 0≤sizeLine;exact S8 _),λpe hpe=>?_⟩;have z8:=aw hpe (.lst []);have W8:=W7.same z8;have e8:aO H7' pe (.lst []) pe=some (.lst []):=ai;generalize aO H7' pe _=H8 at W8 e8 ⊢;obtain⟨zs,ez,alz⟩:=W8.hw;refine⟨.list (ws.map ES),.list [],.lst (bu.of ez) (alz.deep λ_ _ q=>q.deep),.lst (bu.of e8) .nil,DV ws,Z,Ep ws,_,Z,?_⟩;have ev:UM (.list (ws.map ES)) (.list [])=ws.isEmpty:=by cases ws<;>rfl
   rw[ev];by_cases hw:ws=[]
   ·refine oQ (b:=!ws.isEmpty) (by rw[hw];rfl) ?_;exact⟨f,g,Z,W8,f0,fg,g24⟩
   ·have wl1:0<ws.length:=XQ.mpr hw;have lz:=alz.len;refine mL (b:=!ws.isEmpty) (by rw[Wp,X9];exact hw) ?_;refine⟨_,Z,_,Z,_,Z,lw,_,Z,.inl (bu.of ez),t₁,l,zs.length,Z,W8.tb,by omega,by omega,λr9 x9 a9 b9 tb9=>?_⟩;have W9:=W8.tape tb9;generalize aO H8 t₁ _=H9 at W9 ⊢;obtain⟨zs9,ez9,al9⟩:=W9.hw;have lz9:=al9.len;obtain⟨n,rfl⟩:=Uc a9;obtain⟨xw,hxw⟩:∃xw,zs9[n]?=some xw:=⟨_,Sz (by omega)⟩;obtain⟨w,hwd,pw,xa,rfl,hSw,rw9⟩:=al9.at hxw;have gw:=W9.gd w (SF hwd);refine⟨lw,_,_,_,Z,Z,bu.of ez9,be hxw,_,Z,pw,_,Z,hSw,(by show ¬(HT.sIx 3 0 none=0/\HT.sIx 3 3 (some 2)=3);decide),λq hq=>?_⟩;have W10:=W9.same (aw hq (.tup [.int (w.1:Nat),.int (w.2.1:Nat)]));exact⟨q,_,Z,bV.of ai,Z,_,_,Z,_,_,Z,Z,w.1,w.2.1,Z,W10,by omega,by have:=gw.1;omega,by have:=gw.2.1;omega⟩
  rintro σ H8 ⟨f,g,rfl,W8,f0,fg,g24⟩;refine⟨_,Z,t₁,l,12,Z,W8.tb,by omega,by omega,λr9 x9 a9 b9 tb9=>?_⟩;have W9:=W8.tape tb9;generalize aO H8 t₁ _=H9 at W9 ⊢;refine⟨_,_,Z,Z,QU,λpg hpg=>?_⟩;have e10:aO H9 pg (.lst [.int 1,.int 1,.int 2,.int 3,.int 4,.int 7]) pg=some (.lst [.int 1,.int 1,.int 2,.int 3,.int 4,.int 7]):=ai;have ng:pg≠t₁:=λz=>by obtain⟨ys,e⟩:=W9.tb.lst;rw[←z,hpg] at e;cases e
  have W10:=W9.same (aw hpg (.lst [.int 1,.int 1,.int 2,.int 3,.int 4,.int 7]));generalize aO H9 pg _=H10 at e10 W10 ⊢;refine⟨_,Z,t₁,l,6,Z,W10.tb,by omega,by omega,λr4 x4' a4 b4 tb11=>?_⟩;have e11:aO H10 t₁ (.lst x4') pg=some (.lst [.int 1,.int 1,.int 2,.int 3,.int 4,.int 7]):=by rw[aA ng];exact e10
  have W11:=W10.tape tb11;generalize aO H10 t₁ _=H11 at e11 W11 ⊢;obtain⟨q,hg,q0,q7,q84⟩:∃q:Int,ug [V.int 1,.int 1,.int 2,.int 3,.int 4,.int 7] r4=some (.int q)/\1≤q/\q≤7/\q∣84:=by
   rcases(show r4=0∨r4=1∨r4=2∨r4=3∨r4=4∨r4=5 by omega) with rfl|rfl|rfl|rfl|rfl|rfl
   ·exact⟨1,Z,by decide,by decide,by decide⟩
   ·exact⟨1,Z,by decide,by decide,by decide⟩
   ·exact⟨2,Z,by decide,by decide,by decide⟩
   ·exact⟨3,Z,by decide,by decide,by decide⟩
   ·exact⟨4,Z,by decide,by decide,by decide⟩
   ·exact⟨7,Z,by decide,by decide,by decide⟩
  refine⟨pg,_,_,_,Z,Z,bu.of e11,hg,jz,λpm hpm=>?_⟩;have W12:=W11.same (aw hpm (.tup [.int (1+r9),.int q]));have p12:Pn K (aO H11 pm (.tup [.int (1+r9),.int q])) (.ref pm) (1+r9) q:=⟨pm,Z,bV.of ai⟩;generalize aO H11 pm _=H12 at W12 p12 ⊢;refine⟨λσ H'=>∃(u:V) (x y:Int),σ=[some (.ref t₁),some (.int mo),some (.int tu),some (.ref lw),some (.int (0+(i:Nat))),some (.int rw_),some (.int f),some (.int g),some u]/\Wl K H t₁ l lw H' ws/\Pn K H' u x y/\1≤x/\1≤y/\y∣84/\x≤12*y,?_,?_⟩
  ·refine⟨_,Z,Z,_,Z,?_⟩;by_cases c:rw_=2
   rotate_left
   ·refine dj (λz=>by injection z with z;exact c z) (d7 ?_);exact⟨_,_,_,rfl,W12,p12,by omega,q0,q84,by omega⟩
   refine d8 (by rw[c]) ?_;refine⟨_,Z,(by show 0≤sizeLine;exact S8 _),λpe hpe=>?_⟩;have z8:=aw hpe (.lst []);have W13:=W12.same z8;have e8:aO H12 pe (.lst []) pe=some (.lst []):=ai;have p13:Pn K (aO H12 pe (.lst [])) (.ref pm) (1+r9) q:=by
    obtain⟨p',e',s'⟩:=p12;exact⟨p',e',aR.same (K:=K) z8 _ _ s'⟩
   generalize aO H12 pe _=H13 at W13 e8 p13 ⊢;obtain⟨zs,ez,alz⟩:=W13.hw;refine⟨.list (ws.map ES),.list [],.lst (bu.of ez) (alz.deep λ_ _ q=>q.deep),.lst (bu.of e8) .nil,DV ws,Z,Ep ws,_,Z,?_⟩;have ev:UM (.list (ws.map ES)) (.list [])=ws.isEmpty:=by cases ws<;>rfl
   rw[ev];by_cases hw:ws=[]
   ·refine oQ (b:=!ws.isEmpty) (by rw[hw];rfl) ?_;exact⟨_,_,_,Z,W13,p13,by omega,q0,q84,by omega⟩
   ·have wl1:0<ws.length:=XQ.mpr hw;have lz:=alz.len;refine mL (b:=!ws.isEmpty) (by rw[Wp,X9];exact hw) ?_;refine⟨_,Z,_,Z,_,Z,lw,_,Z,.inl (bu.of ez),t₁,l,zs.length,Z,W13.tb,by omega,by omega,λrE xE aE bE tbE=>?_⟩;have WE:=W13.tape tbE;generalize aO H13 t₁ _=HE at WE ⊢;obtain⟨zsE,ezE,alE⟩:=WE.hw;have lzE:=alE.len;obtain⟨n,rfl⟩:=Uc aE;obtain⟨xw,hxw⟩:∃xw,zsE[n]?=some xw:=⟨_,Sz (by omega)⟩;obtain⟨w,hwd,pw,xa,rfl,hSw,rwE⟩:=alE.at hxw;have gw:=WE.gd w (SF hwd);refine⟨lw,_,_,_,Z,Z,bu.of ezE,be hxw,pw,_,_,_,Z,Z,hSw,Z,?_⟩;have b1:=gw.2.2.1.pos;have b2:=gw.2.2.1.le;have b3:=gw.2.2.2;exact⟨xa,_,_,Z,WE,rwE,by omega,by omega,gw.2.2.1.dvd,by omega⟩
  rintro σ HE ⟨u,x,y,rfl,WE,⟨pu,rfl,hSu⟩,x1,y1,y84,xy⟩;refine⟨_,Z,.inl ⟨Z,_,bu.of WE.hw.choose_spec.1⟩,_,Z,_,Z,_,Z,pu,_,_,_,Z,Z,hSu,Z,_,Z,pu,_,_,_,Z,Z,hSu,Z,x,y,Z,by omega,(by have:=VU (by decide) y84;exact TX (show y.natAbs≤84 by omega) (by decide)),λpn hpn=>?_⟩;have am:Bq 84 12 (d6 x y):=vB (by omega) y84 (by omega);have ap:=DP (a:=x) (b:=y) x1 y1;generalize d6 x y=ra at am ap ⊢;have WF:=WE.same (aw hpn (.tup [.int ra.1,.int ra.2]));have rF:RV K (aO HE pn (.tup [.int ra.1,.int ra.2])) (.ref pn) ra:=RV.of ai;generalize aO HE pn _=HF at WF rF ⊢;refine⟨N4,λpo hpo=>?_⟩;have zG:=aw hpo (.tup [.int f,.int g,.ref pn]);have WG:=WF.same zG;have rG:=rF.mono (aR.same zG);have qG:aO HF po (.tup [.int f,.int g,.ref pn]) po=some (.tup [.int f,.int g,.ref pn]):=ai;generalize aO HF po _=HG at WG rG qG ⊢;obtain⟨zs,ez,alz⟩:=WG.hw;have lz:=alz.len;refine⟨lw,_,_,Z,Z,ez,bi (by omega),?_⟩;obtain⟨f',rfl⟩:=Uc f0;obtain⟨g',rfl⟩:=Uc (show 0≤g by omega);exact⟨_,_,_,_,_,ws++[(f',g',ra)],Z,WG.push ez alz ⟨po,.ref pn,Z,bV.of qG,rG⟩ ⟨by show f'≤g';omega,by show g'<24;omega,am,ap⟩,by rw[SZ,wl];rfl⟩
 ·rintro σ H3 ⟨x4,x5,x6,x7,x8,ws,rfl,W3,wl⟩;obtain⟨zs,e,al⟩:=W3.hw;refine⟨_,Z,lw,zs,Z,.inl ⟨bu.of e,λpt hpt=>?_⟩⟩;have z:=aw hpt (.tup zs);exact k _ ws _ (W3.st.trans (qS.of z)) (W3.tb.same z) ⟨pt,zs,Z,bV.of ai,al.mono λ_ _ q=>q.mono (aR.same z)⟩ (by omega) W3.gd
theorem Kr(T:eA K mg t):bQ P w K mg base dQ 3 t.a_Q12 t.d_Q12 ["_law_tape","_law_works_here"] (mS K):=by
 refine T.F_Q12.ok iP (λvs H Q E h=>?_) (λcdv A outer s H vs Q E hr h=>?_)
 ·obtain⟨_,_,_,_,rfl,_⟩:=h;rfl
 obtain⟨t₁,l₁,v,ws,rfl,tb,⟨p,xs,rfl,hp,al⟩,wo,k⟩:=h;refine dG.ok (ah (gf (i:=2) (N':=["_law_turn"]) (src:=[none]) iP.nd Z (by first|exact To Z|exact Tn Z) Z (by exact(cD Z T.z_range (ae aj ag aX))) (λ_ _ _ _ _=>(by exact(by exact aJ (i:=0) (by show Tz (["_law_turn"]:List TB);decide +kernel) (by exact Z) (by first|exact To Z|exact Tn Z)))) (λ_ _ _ _ _=>cN) (λ_ _ _ _ _=>(by exact(by exact(cE ag)))) (by exact trivial) Z (by decide +kernel) Z (by decide +kernel) (by exact bH Z trivial)) (ah (cB S9 Z (cD Z T.z_range (ae (aZ ba (by rfl) T.z_len UI (ae (qv 1) ag af)) ag aK)) (aJ (i:=3) iP.nd Z (by first|exact To Z|exact Tn Z)) (ah (ko (b8 aD (qv 1) (qv 3)) (kq Z (bL (aJ (i:=4) iP.nd Z (by first|exact To Z|exact Tn Z)) (bL (aJ (i:=5) iP.nd Z (by first|exact To Z|exact Tn Z)) (bL (aJ (i:=6) iP.nd Z (by first|exact To Z|exact Tn Z)) dS))))) (ah (gf (i:=7) (N':=["_law_turn","_law_tape"]) (src:=[none,some 0]) iP.nd Z (by first|exact To Z|exact Tn Z) Z (by exact(zV Z T.z_range (ae (qv 4) (ae (aY cX (qv 5) aj) ag bw) af))) (λ_ _ _ _ _=>(by exact(by exact aJ (i:=0) (by show Tz (["_law_turn","_law_tape"]:List TB);decide +kernel) (by exact Z) (by first|exact To Z|exact Tn Z)))) (λ_ _ _ _ _=>cN) (λ_ _ _ _ _=>(by exact(by exact(gh (fu T) (by exact hr.mono (by decide)) (by exact Z) T.m_Q45 T.F_Q45.kp T.b_Q45 (by exact .nil) (by exact iQ) (ae (by exact(qv 1)) (ae aj ag aX) af))))) (by exact⟨Z,Z,Z,Z,trivial⟩) Z (by decide +kernel) Z (by decide +kernel) (by exact bH Z ⟨Z,trivial⟩)) (ah (Fu (qv 7) (cr (fu T) hr T.m_Q45 T.F_Q45.kp T.b_Q45 (ae (qv 0) (ae (aZ ba (by rfl) T.z_len UI (ae (qv 7) ag af)) ag aK) af)) Au aj KR gG) (av (cB S9 Z (cD Z T.z_range (ae (aZ ba (by rfl) T.z_len UI (ae (qv 7) ag af)) ag aK)) (aJ (i:=8) iP.nd Z (by first|exact To Z|exact Tn Z)) (av (cF (bj iT (b8 cc (qv 7) (qv 8)) aj (bB _)) (av (cI (eP Te Tk Tl ca (b8 cc (qv 2) (aY cX (qv 4) (qv 8))) (ae (bT (ae (qv 3) (ae (cr (tj T) hr T.m_Q33 T.F_Q33.kp T.b_Q33 (ae (qv 6) (ae (cr (l7 T) hr T.m_Q46 T.F_Q46.kp T.b_Q46 (ae (b8 cc (qv 7) (qv 8)) (ae (aZ (qE Z) (by rfl) T.z_sum boot_sum (ae (qv 7) ag af)) ag aK) aH)) ag aK) af)) ag aK) af)) ag cL)))) bC)))))))) (av (aQ (ck bG (by rfl) T.z_tuple UO (ae (cj (N':=["_law_row"]) (src:=[none]) Z (by exact(eh (qv 2))) (λ_ _ _ _ _=>(by exact(by exact aJ (i:=0) (by show Tz (["_law_row"]:List TB);decide +kernel) (by exact Z) (by first|exact To Z|exact Tn Z)))) (λ_ _ _ _ _=>cN) (λ_ _ _ _ _=>(by exact(by exact(ck (o7 (K:=K) (by exact Z)) (by exact Z) T.z_tuple UO (ae (by exact(qv 0)) ag af))))) (by exact trivial) Z (by decide +kernel) Z (by decide +kernel) (by exact bH Z trivial)) ag dq)))))) ?_
 nofun
 obtain⟨yt,ht0⟩:=tb.lst;obtain⟨yl,hl0⟩:=tb.lst';have few:=wo.few;have lx:=al.len;refine⟨24,Z,by decide,by decide,λD hD=>oZ (J:=EK 0 24) (n:=24) (λi ys H'=>∃rows:List Addr,ys=rows.map V.ref/\rows.length=i/\rows.Nodup/\D∉rows/\(∀r∈rows,H r=none)/\aP H H'/\H' D=some (.lst ys)/\∀r∈rows,H' r=some (.lst [])) ⟨[],Z,Z,Vp,(λz=>by cases z),(λr hr=>by cases hr),aw hD _,ai,λr hr=>by cases hr⟩ (λi ys H' hi _=>hi) (λys H1 ⟨rows,e1,e2,e3,e4,e5,e6,e7,e8⟩=>⟨SD _,?_⟩) ?_⟩
 rotate_left
 ·rintro i ys H1 x H2 hi ⟨rows,rfl,e2,e3,e4,e5,e6,e7,e8⟩ ⟨rfl,rfl⟩ R E kR kE;refine⟨ii.set Z,?_⟩;refine⟨(by show 0≤sizeLine;exact S8 _),λr hr=>?_⟩;have s2:=aw hr (.lst []);have nr:r∉rows:=λm=>by rw[e8 r m] at hr;cases hr
  have nD:r≠D:=λz=>by subst z;rw[e7] at hr;cases hr
  have hD4:=s2 _ _ e7;refine kR (.ref r) _ hD4 (bi (by rw[SE];omega)) ⟨rows++[r],by rw[Ub];rfl,by rw[SZ,e2];rfl,?_,?_,λz hz=>?_,λb o q=>?_,ai,λz hz=>?_⟩
  ·rw[Vt];exact⟨e3,Uf.mpr ⟨(λz=>by cases z),Vp⟩,λa ha b hb=>by rw[SJ.mp hb];exact λz=>nr (by rw[←z];exact ha)⟩
  ·intro m;rcases Ti.mp m with z|z
   ·exact e4 z
   ·exact nD (SJ.mp z).symm
  ·rcases Ti.mp hz with y|y
   ·exact e5 z y
   ·rw[SJ.mp y];exact fh e6 hr
  ·rw[aA (aU q hD)];exact s2 _ _ (e6 _ _ q)
  ·rcases Ti.mp hz with y|y
   ·rw[aA (show z≠D from λw=>e4 (by rw[←w];exact y))];exact s2 _ _ (e8 z y)
   ·rw[SJ.mp y,aA nD,ai]
 have nDt:D≠t₁:=λz=>by rw[z,ht0] at hD;cases hD
 have nDl:D≠l₁:=λz=>by rw[z,hl0] at hD;cases hD
 have nrt:t₁∉rows:=λm=>by rw[e5 _ m] at ht0;cases ht0
 have nrl:l₁∉rows:=λm=>by rw[e5 _ m] at hl0;cases hl0
 have g1:AU K H1 D rows (Tq 24 []):=by
  refine⟨by rw[e7,e1],e2,e3,e4,λi r c hr hc=>?_⟩;rw[V2] at hc
  split at hc
  ·cases hc;exact⟨[],e8 r (SF hr),.nil⟩
  ·cases hc
 have T1:=tb.same e6;have kp1:∀b o,b≠t₁->H b=some o->H1 b=some o:=λb o _ q=>e6 _ _ q
 have I1:=Ez ws;generalize Tq 24 ([]:List Pc)=pl0 at g1 I1;have rnH:∀r∈rows,H r=none:=e5;clear e1 e6 e7 e8 e2 e3 e4 e5;have tst:∀{H':Hp},(∀b o,b≠t₁->H b=some o->H' b=some o)->db H' t₁ l₁->aR K H H':=λ{H'} kp T=>aR.steps ht0 kp T.lst
 let Iv1:Nat->L2.St->Hp->Prop:=λi σ H'=>∃(pl:List (List Pc)) (x3 x4 x5 x6 x7 x8:Option V),σ=[some (.ref t₁),some (.ref p),some (.ref D),x3,x4,x5,x6,x7,x8]/\(∀b o,b≠t₁->H b=some o->H' b=some o)/\db H' t₁ l₁/\AU K H' D rows pl/\AR ws i pl
 refine⟨_,Z,p,_,Z,.inr (tst kp1 T1 _ _ hp),xs.length,Z,by omega,by omega,cR (lo:=0) (n:=((xs.length:Nat):Int).toNat) Iv1 ⟨pl0,none,none,none,none,none,none,Z,kp1,T1,g1,I1⟩ ?_ ?_⟩
 ·rintro i σ H3 hi ⟨pl,x3,x4,x5,x6,x7,x8,rfl,kp,T3,g3,I3⟩;rw[Vm];have hiw:i<ws.length:=by omega
  obtain⟨x,hx⟩:∃x,xs[i]?=some x:=⟨_,Sz (by omega)⟩;obtain⟨w,hw,pw,am,rfl,hpw,ram⟩:=al.at hx;have ew:ws.getD i bh=w:=ax bh hw;have wa:=wo.at hiw;rw[ew] at wa;obtain⟨wle,w24,wbq,wps⟩:=wa;have t3:=tst kp T3;obtain⟨n,hn⟩:∃n:Nat,n=((((w.2.1:Nat):Int)+1)-(w.1:Nat)).toNat:=⟨_,Z⟩;refine⟨_,Z,_,Z,p,_,_,_,Z,Z,t3 _ _ hp,be hx,pw,_,Z,t3 _ _ hpw,Z,_,_,Z,_,_,Z,_,_,Z,Z,?_⟩;refine⟨_,Z,_,Z,_,_,Z,Z,_,_,Z,⟨by omega,by omega,by omega,by omega⟩,λD2 hD2=>?_⟩;rw[←hn];have n2t:D2≠t₁:=λz=>by subst z;obtain⟨_,e⟩:=T3.lst;rw[hD2] at e;cases e
  have n2l:D2≠l₁:=λz=>by subst z;obtain⟨_,e⟩:=T3.lst';rw[hD2] at e;cases e
  refine oZ (J:=EK ((w.1:Nat):Int) n) (n:=n) (λj ys H'=>∃ns:List Int,ys=ns.map V.int/\ns.length=j/\(∀z∈ns,0≤z/\z≤3)/\(∀b o,b≠t₁->b≠D2->H3 b=some o->H' b=some o)/\db H' t₁ l₁/\H' D2=some (.lst ys)) ⟨[],Z,Z,(λz hz=>by cases hz),(λb o _ nb q=>by rw[aA nb];exact q),T3.same (aw hD2 _),ai⟩ (λj ys H' hj _=>hj) (λys H4 ⟨ns,e1,e2,e3,e4,e5,e6⟩=>⟨SD _,?_⟩) ?_
  rotate_left
  ·rintro j ys H' x H'' hj ⟨ns,rfl,ln,rng,kp',T',hD'⟩ ⟨rfl,rfl⟩ Rk E kR kE;refine⟨ii.set Z,_,Z,t₁,l₁,4,Z,T',by decide,by decide,λr zs a b T8=>?_⟩;have hD8:aO H'' t₁ (.lst zs) D2=some (.lst (ns.map V.int)):=by rw[aA n2t];exact hD'
   exact kR _ _ hD8 (bi (by rw[SE];omega)) ⟨ns++[r],by rw[Ub];rfl,by rw[SZ,ln];rfl,(λz hz=>by
    rcases Ti.mp hz with h|h
    ·exact rng z h
    ·rw[SJ.mp h];omega),(λb o nb nb2 q=>by rw[aA nb2,aA nb];exact kp' b o nb nb2 q),T8.upl n2t n2l _,ai⟩
  rw[e1] at e6;have kp4:∀b o,b≠t₁->H3 b=some o->H4 b=some o:=λb o nb q=>e4 b o nb (aU q hD2) q
  have n0:H D2=none:=by
   cases c:H D2 with
   |none=>rfl
   |some o=>rw[kp _ _ n2t c] at hD2;cases hD2
  obtain⟨y3,h3t⟩:=T3.lst;have n2r:D2∉rows:=λm=>by
   obtain⟨i',hi'⟩:=Ui m;have il:=(SN.mp hi').1;obtain⟨xs',h',_⟩:=g3.row i' D2 _ hi' (Sz (show i'<pl.length by rw[I3.len,←g3.len];exact il));rw[hD2] at h'
   cases h'
  have g4:=g3.steps nDt nrt kp4 (aR.steps h3t kp4 e5.lst);have kH4:∀b o,b≠t₁->H b=some o->H4 b=some o:=λb o nb q=>kp4 b o nb (kp b o nb q)
  have hlm:(ns.map V.int).length=ns.length:=SE _;have n1:1≤n:=by omega
  clear e4 e1 kp4 g3 h3t T3 t3 kp hD2;refine⟨_,Z,_,Z,_,Z,D2,_,Z,.inl (bu.of e6),t₁,l₁,_,Z,e5,by omega,by omega,λrr zs a b T5=>?_⟩;obtain⟨m,rfl⟩:=Uc a;obtain⟨z0,hz0⟩:∃z0,ns[m]?=some z0:=⟨_,Sz (by omega)⟩;have h5:aO H4 t₁ (.lst zs) D2=some (.lst (ns.map V.int)):=by rw[aA n2t];exact e6
  have kp5:∀b o,b≠t₁->H4 b=some o->aO H4 t₁ (.lst zs) b=some o:=λb o nb q=>by rw[aA nb];exact q
  obtain⟨y4,h4t⟩:=e5.lst;have g5:=g4.steps nDt nrt kp5 (aR.up h4t zs);have kH5:∀b o,b≠t₁->H b=some o->aO H4 t₁ (.lst zs) b=some o:=λb o nb q=>kp5 b o nb (kH4 b o nb q)
  generalize aO H4 t₁ _=H5 at T5 h5 g5 kH5 ⊢;clear kp5 g4 kH4 h4t e5 e6;refine⟨D2,_,m,_,Z,Z,bu.of h5,(show(ns.map V.int)[m]?=some (V.int z0) by rw[SU,hz0];rfl),_,_,Z,Z,D2,_,_,m,Z,Z,h5,lg (by rw[hlm];omega),?_⟩;have eset:(ns.map V.int).set m (V.int (z0+1))=(ns.set m (z0+1)).map V.int:=by rw[List.map_set]
  rw[eset];have hz:=e3 z0 (SF hz0);have S1:=Ic (i:=m) (ns:=ns) hz0;have b3:=D7 (M:=3) (by decide) e3;have b4:=D7 (M:=4) (by decide) (ns:=ns.set m (z0+1)) λz hz'=>by
   rcases Us hz' with q|q
   ·have:=e3 z q;omega
   ·omega
  have nn4:∀z∈ns.set m (z0+1),0≤z:=λz hz'=>by
   rcases Us hz' with q|q
   ·exact(e3 z q).1
   ·omega
  have sl:(ns.set m (z0+1)).length=n:=by rw[UH,e2]
  generalize ns.set m (z0+1)=ps at S1 b4 sl nn4 ⊢;have Sp:1≤ps.sum/\ps.sum≤73:=by
   have:=b3.1;have:=b3.2.1;rw[e2] at this;omega
  have lps:(ps.map V.int).length=n:=by rw[SE,sl]
  have h6:aO H5 D2 (.lst (ps.map V.int)) D2=some (.lst (ps.map V.int)):=ai;have kp6:∀b o,b≠D2->H5 b=some o->aO H5 D2 (.lst (ps.map V.int)) b=some o:=λb o nb q=>by rw[aA nb];exact q
  have T6:=T5.upl n2t n2l (.lst (ps.map V.int));have t56:aR K H5 (aO H5 D2 (.lst (ps.map V.int))):=aR.up h5 _;have n2D:D≠D2:=λz=>by
   have:=g5.top;rw[z,h5] at this;injection this with this;injection this with this
   cases rows with
   |nil=>have:=g5.len;cases this
   |cons r0 rr0=>
    cases ns with
    |nil=>rw[Y4] at e2;omega
    |cons q0 qq=>cases this
  have g6:=g5.steps n2D n2r kp6 t56;have kH6:∀b o,b≠t₁->b≠D2->H b=some o->aO H5 D2 (.lst (ps.map V.int)) b=some o:=λb o nb nb2 q=>kp6 b o nb2 (kH5 b o nb q)
  have tH6:aR K H (aO H5 D2 (.lst (ps.map V.int))):=(tst kH5 T5).trans t56;generalize aO H5 D2 _=H6 at h6 T6 g6 kH6 tH6 ⊢;have J0:=I3.start (ps) ps.sum;clear kp6 t56 g5 kH5 T5 h5 S1 b3 e3 hz hz0 eset I3;let Iv2:Nat->L2.St->Hp->Prop:=λj σ H'=>∃(pl':List (List Pc)) (y8:Option V),σ=[some (.ref t₁),some (.ref p),some (.ref D),some (.int (i:Nat)),some (.int (w.1:Nat)),some (.int (w.2.1:Nat)),some am,some (.ref D2),y8]/\(∀b o,b∉rows->H6 b=some o->H' b=some o)/\aR K H6 H'/\AU K H' D rows pl'/\pZ ws i j ps ps.sum pl'
  refine⟨_,Z,D2,_,Z,.inl (bu.of h6),_,Z,by omega,by omega,cR (lo:=0) (n:=(((ps.map V.int).length:Nat):Int).toNat) Iv2 ⟨pl,x8,Z,(λb o _ q=>q),aR.refl K H6,g6,J0⟩ ?_ ?_⟩
  ·rintro j σ H7 hj ⟨pl',y8,rfl,kr,t67,g7,J7⟩;rw[Vm];have hjn:j<n:=by omega
   obtain⟨a0,ha0⟩:∃a0,ps[j]?=some a0:=⟨_,Sz (by omega)⟩;have hat:(ps.map V.int)[j]?=some (V.int a0):=by rw[SU,ha0];rfl
   have h7:=kr _ _ n2r h6;refine⟨_,Z,_,Z,D2,_,_,_,Z,Z,bu.of h7,be hat,_,_,Z,Z,_,Z,?_⟩;have a0n:=nn4 a0 (SF ha0);by_cases c:0<a0
   rotate_left
   ·refine dj c ?_;obtain rfl:a0=0:=by omega
    exact⟨pl',_,Z,kr,t67,g7,J7.skip ha0⟩
   refine d8 c ?_;have aS:=b4.2.2 a0 (SF ha0);have u24:w.1+j<24:=by omega
   obtain⟨r,hr'⟩:∃r,rows[w.1+j]?=some r:=⟨_,Sz (by rw[g7.len];exact u24)⟩;obtain⟨q,hq⟩:∃q,pl'[w.1+j]?=some q:=⟨_,Sz (by rw[J7.len];exact u24)⟩;obtain⟨zs',hzs,az⟩:=g7.row _ r q hr' hq;have hrat:(rows.map V.ref)[w.1+j]?=some (.ref r):=by rw[SU,hr'];rfl
   have mr:=SF hr';obtain⟨bp,vp,ve⟩:=F4 (by omega) aS Sp.2 wbq wps;have ql:=(J7.row _ q hq).1;have q1:(if(ws.getD i bh).1≤w.1+j/\w.1+j<(ws.getD i bh).1+j then 1 else 0)≤1:=by split<;>omega
   have lz:=az.len;have t7:=tH6.trans t67;refine⟨_,Z,_,Z,_,Z,_,_,Z,Z,D,_,_,_,Z,Z,bu.of g7.top,(show ug (rows.map V.ref) (((w.1:Nat):Int)+((j:Nat):Int))=some (.ref r) by rw[show(((w.1:Nat):Int)+((j:Nat):Int))=((w.1+j:Nat):Int) by omega];exact be hrat),.inl ⟨Z,_,bu.of hzs⟩,?_⟩;refine⟨_,Z,_,Z,_,Z,_,Z,D2,_,_,_,Z,Z,bu.of h7,be hat,_,Z,D2,ps,Z,bu.of h7,a0,ps.sum,Z,by omega,TX (show ps.sum.natAbs≤73 by omega) (by decide),nR K λq1 H8 s8 r8=>?_⟩;have wm:Wf 8 (d6 a0 ps.sum):=wP (by omega) (TX (show a0.natAbs≤73 by omega) (by decide)) (TX (show ps.sum.natAbs≤73 by omega) (by decide));have t8:=t7.trans (aR.same s8);refine⟨am,.ref q1,w.2.2,d6 a0 ps.sum,20,8,Z,ram.mono t8,r8,wbq.wf (by decide) (by decide) (by decide),wm,by decide,λq2 g2=>⟨jz,λq3 g3'=>?_⟩⟩;have s9:=aw g2 (.tup [.int (bA w.2.2 (d6 a0 ps.sum)).1,.int (bA w.2.2 (d6 a0 ps.sum)).2]);have r9:RV K (aO H8 q2 (.tup [.int (bA w.2.2 (d6 a0 ps.sum)).1,.int (bA w.2.2 (d6 a0 ps.sum)).2])) (.ref q2) (bA w.2.2 (d6 a0 ps.sum)):=RV.of ai;generalize aO H8 q2 _=H9 at s9 r9 g3' ⊢;generalize bA w.2.2 (d6 a0 ps.sum)=pr at bp vp ve r9;have s10:=aw g3' (.tup [.int (i:Nat),.ref q2]);have hpc:vQ K (aO H9 q3 (.tup [.int (i:Nat),.ref q2])) (.ref q3) (i,pr):=⟨q3,.ref q2,Z,bV.of ai,r9.mono (aR.same s10)⟩;have s7:=(s8.trans s9).trans s10;generalize aO H9 q3 _=HA at s7 hpc ⊢;have gA:=g7.same s7;have hzA:=s7 _ _ hzs;refine⟨r,zs',_,Z,Z,hzA,bi (by omega),?_⟩;have hq':pl'[(ws.getD i bh).1+j]?=some q:=by rw[ew];exact hq
   have J8:=J7.put ha0 hq' (by rw[ew];omega) (by rw[ew];exact u24) bp vp (by rw[ew];exact ve);rw[ew] at J8;refine⟨_,_,Z,λb o nb e=>?_,(t67.trans (aR.same s7)).trans (aR.up hzA _),gA.put hr' hq hzA (az.mono λ_ _ z=>z.mono (aR.same s7)) hpc,J8⟩;rw[aA (λz=>nb (by rw[z];exact mr))];exact s7 _ _ (kr b o nb e)
  ·rintro σ H7 ⟨pl',y8,rfl,kr,t67,g7,J7⟩;rw[Wo,lps,←sl] at J7;refine⟨pl',_,_,_,_,_,_,Z,λb o nb e=>?_,T6.keep (λo e=>kr _ _ nrt e) (λo e=>kr _ _ nrl e),g7,J7.done Z (by omega)⟩;exact kr b o (λm=>by rw[rnH b m] at e;cases e) (kH6 b o nb (aU e n0) e)
 ·rintro σ H2 ⟨pl,x3,x4,x5,x6,x7,x8,rfl,kp,T2,g2,I2⟩;rw[Wo,lx] at I2;have PB:=ND wo I2;have pln:=I2.len;refine⟨_,Z,D,Z,⟨_,bu.of g2.top⟩,λD2 hD2=>dC (K:=K) (ds:=pl) (P:=qR K) (f:=λc=>c) (λ_ _ _ _ t z=>z.mono t) hD2 (f8 (bu.of g2.top)) (by rw[SE,g2.len,pln]) (by omega) (λi x d H' hx hd sm Rk E kR=>?_) λHA ms sA hmA amA=>?_⟩
  ·rw[SU] at hx;obtain⟨r,hr',rfl⟩:∃r,rows[i]?=some r/\x=.ref r:=by
    cases hrr:rows[i]? with
    |none=>rw[hrr] at hx;cases hx
    |some r=>rw[hrr] at hx;cases hx;exact⟨r,Z,Z⟩
   obtain⟨zs,hz,az⟩:=g2.row i r d hr' hd;refine⟨ii.set Z,_,Z,r,zs,Z,.inl ⟨bu.of (sm _ _ hz),λl hl=>?_⟩⟩;have e:=aw hl (.tup zs);exact kR _ _ e ⟨l,zs,Z,bV.of ai,az.mono λ_ _ z=>z.mono (aR.same (sm.trans e))⟩
  rw[show pl.map (λc=>c)=pl from List.map_id' pl] at amA;refine⟨D2,ms,Z,.inl ⟨bu.of hmA,λl hl=>?_⟩⟩;have e:=aw hl (.tup ms);have sAe:=sA.trans e;exact k _ pl _ (λb o nb q=>sAe _ _ (kp b o (λz=>nb (SJ.mpr z)) q)) (T2.same sAe) ⟨l,ms,Z,bV.of ai,amA.mono λ_ _ z=>z.mono (aR.same e)⟩ PB
theorem wM(T:eA K mg t):bQ P w K mg base dQ 3 t.a_Q25 t.d_Q25 ["_law_one","_law_many"] (pQ K):=by
 refine T.F_Q25.ok rW (λvs H Q E h=>?_) (λcdv A outer s H vs Q E hr h=>?_)
 ·obtain⟨_,_,_,_,rfl,_⟩:=h;rfl
 obtain⟨v,r,k₁,n,rfl,hv,wr,n1,h0,h6,k⟩:=h;refine dG.ok (ah (cM 2 rW.nd (bT (ae aj (ae aj ag aX) aX))) (ah (cB S9 Z (cD Z T.z_range (ae (qv 1) ag af)) (aJ (i:=3) rW.nd Z (by first|exact To Z|exact Tn Z)) (av (cM 2 rW.nd (cr (tj T) hr T.m_Q33 T.F_Q33.kp T.b_Q33 (ae (qv 2) (ae (qv 0) ag af) af))))) (av (aQ (qv 2))))) ?_
 nofun
 have kb:=G9 h0 (by omega:k₁≤100);refine⟨jz,λp0 hp0=>?_⟩;have s0:=aw hp0 (.tup [.int 1,.int 1]);refine⟨_,Z,k₁,Z,kb.1,kb.2,cR (lo:=0) (n:=k₁.toNat) (λi σ H'=>∃(u:V) (x:Option V),σ=[some v,some (.int k₁),some u,x]/\aP H H'/\RV K H' u (dk r i)/\Wf (1+n*i) (dk r i)) ⟨_,none,Z,s0,RV.of ai,sT wr 0⟩ ?_ ?_⟩
 ·rintro i σ H1 hi ⟨u,x,rfl,s1,ru,wu⟩;have ni:=Zj n1 (show i≤4 by omega);refine⟨_,Z,_,Z,u,v,dk r i,r,1+n*i,n,Z,ru,hv.mono (aR.same s1),wu,wr,by omega,λp hp=>?_⟩;exact⟨_,_,Z,s1.trans (aw hp _),RV.of ai,sT wr (i+1)⟩
 ·rintro σ H1 ⟨u,x,rfl,s1,ru,wu⟩;exact⟨_,Z,k u H1 s1 ru⟩
theorem Kq(T:eA K mg t):bQ P w K mg base dQ 2 t.a_Q13 t.d_Q13 ["_law_thing"] (mR K):=by
 refine T.F_Q13.ok Ja (λvs H Q E h=>?_) (λcdv A outer s H vs Q E hr h=>?_)
 ·obtain⟨_,_,_,rfl,_⟩:=h;rfl
 obtain⟨v,r,n,rfl,⟨p,rfl,hS⟩,wr,n1,k⟩:=h;refine dG.ok (ah (cF (jC (kT (d5 (cS (aZ mB (by rfl) T.z_isinstance VM (ae (qv 0) (ae (hU (v:=V.ty "tuple") Z T.z_tuple UO Z) ag af) af)))) (km (bj yF (aZ ba (by rfl) T.z_len UI (ae (qv 0) ag af)) aj (bB _))))) (av (aQ gI)) bC) (ah (cF (bj (l5 hr) (cj (N':=["_law_one"]) (src:=[none]) Z (by exact(dI (qv 0))) (λ_ _ _ _ _=>(by exact(by exact aJ (i:=0) (by show Tz (["_law_one"]:List TB);decide +kernel) (by exact Z) (by first|exact To Z|exact Tn Z)))) (λ_ _ _ _ _=>(fI (jC (kT (cS (by exact(aZ gL (by exact Z) T.z_isinstance VM (ae (by exact(qv 0)) (ae (by exact(hU (v:=V.ty "bool") Z T.z_bool boot_bool Z)) ag af) af)))) (km (d5 (cS (by exact(aZ gL (by exact Z) T.z_isinstance VM (ae (by exact(qv 0)) (ae (by exact(hU (v:=V.ty "int") Z T.z_int boot_int Z)) ag af) af)))))))))) (λ_ _ _ _ _=>(by exact(by exact(qv 0)))) (by exact trivial) Z (by decide +kernel) Z (by decide +kernel) (by exact bH Z trivial)) (cE ag) (bB _)) (av (aQ gI)) bC) (av (aQ (l4 (gg iT (b8 aD (qv 0) aj) aj (bB _)) (lZ (gg (JY hr) (cr (l7 T) hr T.m_Q46 T.F_Q46.kp T.b_Q46 (ae (b8 aD (qv 0) aj) (ae (b8 aD (qv 0) aj) ag aH) aH)) (qv 0) (bB _)))))))) ?_
 nofun
 refine⟨_,Z,p,_,_,true,Z,hS,by decide +kernel,true,Z,d7 ?_⟩;refine⟨_,Z,p,_,Z,.inr hS,Z,_,Z,yN Z ?_⟩;refine⟨_,Z,p,Z,⟨_,hS⟩,λD hD=>dB (ef hS) (λ_=>false) (λ_=>V.non) hD (by show 2≤1000;decide) (λi x H' hi s' hx R E kR kE=>?_) λH1 s1 h1=>?_⟩
 ·obtain⟨z,rfl⟩:∃z:Int,x=.int z:=by
   have hi2:i<2:=hi;rcases(show i=0∨i=1 by omega) with rfl|rfl
   ·exact⟨_,(Um hx).symm⟩
   ·exact⟨_,(Um hx).symm⟩
  refine⟨ii.set Z,?_⟩;refine⟨_,Z,_,_,"int",false,Z,.int z,by decide +kernel,false,Z,d7 ?_⟩;refine⟨_,Z,_,_,"int",true,Z,.int z,by decide +kernel,true,Z,d7 ?_⟩;exact kE Z _ (aP.refl _)
 replace h1:H1 D=some (.lst []):=by rw[h1];simp
 refine⟨(by show 0≤sizeLine;exact S8 _),λq0 hq0=>?_⟩;have s2:=aw hq0 (.lst []);refine⟨.list [],.list [],.lst (bu.of (s2 _ _ h1)) .nil,.lst (bu.of ai) .nil,Z,Z,(by decide),_,Z,d7 ?_⟩;have s12:=s1.trans s2;have hS2:=aR.same (K:=K) s12 _ _ hS;generalize aO H1 q0 _=H2 at s12 hS2 ⊢;refine⟨_,Z,p,_,_,_,Z,Z,hS2,Z,_,_,Z,Z,_,Z,d8 wr.pos ?_⟩;refine⟨_,Z,p,_,_,_,Z,Z,hS2,Z,_,Z,p,_,_,_,Z,Z,hS2,Z,r.1,r.2,Z,wr.pos,bU wr.bot (by omega),λpm hm=>?_⟩;have s3:=aw hm (.tup [.int (d6 r.1 r.2).1,.int (d6 r.1 r.2).2]);refine⟨_,Z,dR (d6 r.1 r.2),dR r,(RV.of (K:=K) ai).deep,.tup (aR.same (K:=K) s3 _ _ hS2) (.cons (.int _) (.cons (.int _) .nil)),Ev _,Ev _,lj _,?_⟩;rw[show d6 r.1 r.2=r from eR wr.pos wr.pos wr.cop Z,vj];exact k _ (s12.trans (aw hm _))
theorem Kj(T:eA K mg t):bQ P w K mg base dQ 4 t.a_Q26 t.d_Q26 ["_law_k","_law_one","_law_other","_law_thing"] (pS K):=by
 refine T.F_Q26.ok ww (λvs H Q E h=>?_) (λcdv A outer s H vs Q E hr h=>?_)
 ·obtain⟨_,_,_,_,_,_,_,rfl,_⟩:=h;rfl
 obtain⟨kk,a,b,c,os,ps,ts,rfl,⟨pa,xa,rfl,hA,alA⟩,⟨pb,xb,rfl,hB,alB⟩,⟨pc,xc,rfl,hC,alC⟩,ok,k⟩:=h;refine dG.ok (ah (cF (jC (kT (d5 (cS (aZ mB (by rfl) T.z_isinstance VM (ae (qv 3) (ae (hU (v:=V.ty "tuple") Z T.z_tuple UO Z) ag af) af)))) (kT (bj yF (aZ ba (by rfl) T.z_len UI (ae (qv 3) ag af)) (aY cX (aZ ba (by rfl) T.z_len UI (ae (qv 1) ag af)) aj) (bB _)) (km (d5 (cS (aZ (qI Z) (by rfl) T.z_all boot_all (ae (cj (N':=["_law_row"]) (src:=[none]) Z (by exact(dI (qv 3))) (λ_ _ _ _ _=>(by exact(by exact aJ (i:=0) (by show Tz (["_law_row"]:List TB);decide +kernel) (by exact Z) (by first|exact To Z|exact Tn Z)))) (λ_ _ _ _ _=>cN) (λ_ _ _ _ _=>(by exact(by exact(gh (Kq T) (by exact hr.mono (by decide)) (by exact Z) T.m_Q13 T.F_Q13.kp T.b_Q13 (by exact .nil) (by exact iQ) (ae (by exact(qv 0)) ag af))))) (by exact trivial) Z (by decide +kernel) Z (by decide +kernel) (by exact bH Z trivial)) ag dq)))))))) (av (aQ (bT (ae sw (ae (ou jZ aj) ag rh) aX)))) bC) (ah (cF (bj iT (b8 aD (b8 aD (qv 3) aj) aj) aj (bB _)) (av (aQ (bT (ae sw (ae aj ag aX) aX)))) bC) (ah (cB S9 Z (cD Z T.z_range (ae (aZ ba (by rfl) T.z_len UI (ae (qv 1) ag af)) ag aK)) (aJ (i:=4) ww.nd Z (by first|exact To Z|exact Tn Z)) (ah (cM 5 ww.nd (cr (Du T) hr T.m_Q47 T.F_Q47.kp T.b_Q47 (ae (cr (wM T) hr T.m_Q25 T.F_Q25.kp T.b_Q25 (ae (b8 aD (qv 1) (qv 4)) (ae (qv 0) ag af) aH)) (ae (cr (Kg T) hr T.m_Q32 T.F_Q32.kp T.b_Q32 (ae (b8 aD (qv 3) (aY cX (qv 4) aj)) (ae (b8 aD (qv 3) (qv 4)) ag aH) aH)) ag aK) aK))) (av (cF (cS (cr (DE T) hr T.m_Q18 T.F_Q18.kp T.b_Q18 (ae (cr (tj T) hr T.m_Q33 T.F_Q33.kp T.b_Q33 (ae (bT (ae (Hv (yO hr) (qv 0) (λ_ _=>Z)) (ae aj ag aX) aH)) (ae (cr (wM T) hr T.m_Q25 T.F_Q25.kp T.b_Q25 (ae (cO aD (qv 2) (qv 4) (λ_ _=>Z)) (ae (qv 0) ag af) aH)) ag aK) cL)) (ae (qv 5) ag af) aK))) (av (aQ (bT (ae sw (ae (qv 4) ag af) aX)))) bC)))) (av (aQ (oz (bj mG (b8 aD (b8 aD (qv 3) (ou jZ aj)) aj) aj (bB _)) (bT (ae sw (ae (aZ ba (by rfl) T.z_len UI (ae (qv 1) ag af)) ag aK) aX)) sx)))))) ?_
 nofun
 have la:=alA.len;have lb:=alB.len;have lc:=alC.len;have lo:=ok.lo;have lp:=ok.lp;have lt:=ok.lt;have k2:=ok.k2;have k4:=ok.k4;have hdg:jY (fS [] [((TL 2:cW),V.int 4),((TL 3:cW),V.int 27),((TL 4:cW),V.int 256)]) (TL kk)=some (V.int (k9 kk)):=by
  rcases(show kk=2∨kk=3∨kk=4 by omega) with rfl|rfl|rfl<;>rfl
 refine⟨_,Z,pc,_,_,true,Z,hC,by decide +kernel,true,Z,d7 ?_⟩;refine⟨_,Z,pc,_,Z,.inr hC,_,Z,pa,_,Z,.inr hA,_,_,Z,Z,Z,_,Z,yN (by rw[show(xc.length:Int)=(xa.length:Int)+1 by omega]) ?_⟩;refine⟨_,Z,pc,Z,⟨_,hC⟩,λD hD=>dB (ef hC) (λ_=>true) (λ_=>V.bl true) hD (by omega) (λi x H' hi s' hx R E kR kE=>?_) λH1 s1 h1=>?_⟩
 ·obtain⟨r,hr,rv⟩:=alC.at hx;have w:=ok.wt r (SF hr);exact⟨ii.set Z,_,Z,x,r,3640,Z,rv.mono (aR.same s'),w4 (w.mono (SV _) (by decide)),by decide,λH'' s''=>kR Z _ s''⟩
 have e1:(((SC xc.length).filter λ_=>true).map λ_=>V.bl true)=(((SC xc.length).filter λ_=>true).map λ_=>true).map V.bl:=by rw[VR];rfl
 rw[e1] at h1;refine⟨D,_,Z,bu.of h1,⟨_,Z,?_⟩⟩;rw[show((((SC xc.length).filter λ_=>true).map λ_=>true).all id)=true by simp];refine d7 ?_;have t1:=aR.same (K:=K) s1;obtain⟨x0,hx0⟩:∃x0,xc[0]?=some x0:=⟨_,Sz (by omega)⟩;obtain⟨q0,hq0,p0,rfl,rv0⟩:=alC.at hx0;have w0:=ok.wt q0 (SF hq0);have z0:=ok.b;rw[ax r0 hq0] at z0;have z0':=xT w0.pos z0;refine⟨_,Z,pc,_,_,_,Z,Z,t1 _ _ hC,be (j:=0) hx0,p0,_,_,_,Z,Z,t1 _ _ rv0,Z,_,_,Z,Z,_,Z,dj (by omega) ?_⟩;let Iv1:Nat->L2.St->Hp->Prop:=λi σ H'=>∃(x6 x7:Option V),σ=[some (.int kk),some (.ref pa),some (.ref pb),some (.ref pc),x6,x7]/\aP H H'
 refine⟨_,Z,pa,_,Z,.inr (t1 _ _ hA),_,Z,by omega,by omega,cR (lo:=0) (n:=(xa.length:Int).toNat) Iv1 ⟨none,none,Z,s1⟩ ?_ ?_⟩
 ·rintro i σ H2 hi ⟨x6,x7,rfl,s2⟩;rw[Vm];have t2:=aR.same (K:=K) s2;obtain⟨xo,hxo⟩:∃x,xa[i]?=some x:=⟨_,Sz (by omega)⟩;obtain⟨o,ho,rvo⟩:=alA.at hxo;obtain⟨xp,hxp⟩:∃x,xb[i]?=some x:=⟨_,Sz (by omega)⟩;obtain⟨p,hp,rvp⟩:=alB.at hxp;obtain⟨xu,hxu⟩:∃x,xc[i]?=some x:=⟨_,Sz (by omega)⟩;obtain⟨u,hu,rvu⟩:=alC.at hxu;obtain⟨xv,hxv⟩:∃x,xc[i+1]?=some x:=⟨_,Sz (by omega)⟩;obtain⟨v,hv,rvv⟩:=alC.at hxv;have wo:=ok.wo o (SF ho);have wp:=ok.wp p (SF hp);have wu:=ok.wt u (SF hu);have wv:=ok.wt v (SF hv);have st:=ok.step i (by omega);rw[ax r0 ho,ax r0 hp,ax r0 hu,ax r0 hv] at st;obtain⟨m1,m2,m3⟩:=yB k2 k4 wo wu wv;have wu4:Wf 3640 u:=w4 (wu.mono (SV _) (by decide));have wv4:Wf 3640 v:=w4 (wv.mono (SV _) (by decide));have wpo:Wf 3640 (dk o kk.toNat):=w4 ((jh (by omega) wo).mono (SV _) (by decide));have wm:Wf 3640 (bJ v u):=w4 (m1.mono (SV _) (by decide));have wo9:Wf 920 o:=wZ (wo.mono (SV _) (by decide));have wp9:Wf 920 p:=wZ (wp.mono (SV _) (by decide));refine⟨_,Z,_,Z,pa,_,_,_,Z,Z,t2 _ _ hA,be hxo,_,Z,xo,o,kk,920,Z,rvo.mono t2,wo9,by decide,by omega,by omega,λv1 H3 s3 r3=>?_⟩;have s23:=s2.trans s3;have t3:=aR.same (K:=K) s23;refine⟨_,Z,_,Z,_,_,Z,Z,pc,_,_,_,Z,Z,t3 _ _ hC,be (j:=i+1) hxv,_,Z,_,Z,pc,_,_,_,Z,Z,t3 _ _ hC,be hxu,xv,xu,v,u,3640,3640,Z,rvv.mono t3,rvu.mono t3,wv4,wu4,by decide,nR K λp4 H4 s4 r4=>?_⟩;refine⟨v1,.ref p4,dk o kk.toNat,bJ v u,3640,3640,Z,r3.mono (aR.same s4),r4,wpo,wm,by decide,nR K λp5 H5 s5 r5=>?_⟩;have s25:=(s23.trans s4).trans s5;refine λpd hpd=>⟨ai,[((TL 2:cW),V.int 4),((TL 3:cW),V.int 27),((TL 4:cW),V.int 256)],Z,by decide,_,Z,pd,.int (k9 kk),Z,?_,?_⟩
  ·have:=kG.k (k:=TL kk) (ai (H:=aO H5 pd (.dK [])) (a:=pd) (o:=.dK (fS [] [((TL 2:cW),V.int 4),((TL 3:cW),V.int 27),((TL 4:cW),V.int 256)])));rw[hdg] at this;exact this
  have sK:aP H5 (aO (aO H5 pd (.dK [])) pd (.dK (fS [] [((TL 2:cW),V.int 4),((TL 3:cW),V.int 27),((TL 4:cW),V.int 256)]))):=by rw[xY];exact aw hpd _
  generalize aO (aO H5 pd _) pd _=HK at sK ⊢;refine⟨jz,λpk hpk=>?_⟩;have s6:=aw hpk (.tup [.int (k9 kk),.int 1]);have rk:RV K (aO HK pk (.tup [.int (k9 kk),.int 1])) (.ref pk) (k9 kk,1):=RV.of ai;generalize aO HK pk _=H6 at s6 rk ⊢;have s26:=(s25.trans sK).trans s6;have t6:=aR.same (K:=K) s26;refine⟨_,Z,_,Z,pb,_,_,_,Z,Z,t6 _ _ hB,be hxp,_,Z,xp,p,kk,920,Z,rvp.mono t6,wp9,by decide,by omega,by omega,λv7 H7 s7 r7=>?_⟩;have b7:=(jh (n:=kk.toNat) (by omega) wp).mono (SV _) (show 1000000000000000≤100000000000000000 by decide);obtain⟨n1,n2⟩:=L3 k2 k4 b7;rw[je wp.red] at n2;refine⟨.ref pk,v7,(k9 kk,1),dk p kk.toNat,9,3640,Z,rk.mono (aR.same s7),r7,Nh k2 k4,w4 (b7.mono (SV _) (by decide)),by decide,λp8 h8=>?_⟩;have s8:=aw h8 (.tup [.int (bA (k9 kk,1) (dk p kk.toNat)).1,.int (bA (k9 kk,1) (dk p kk.toNat)).2]);have s78:=s7.trans s8;refine⟨_,Z,.ref p8,.ref p5,bA (k9 kk,1) (dk p kk.toNat),oF kk o u v,3640,3640,Z,RV.of ai,r5.mono (aR.same ((sK.trans s6).trans s78)),w4 n1,w4 m2,by decide,_,Z,?_⟩;rw[show dF (bA (k9 kk,1) (dk p kk.toNat)) (oF kk o u v)=false from(fE n1.pos m2.pos).mpr (by rw[n2,m3];exact st)];exact d7 ⟨_,_,Z,s26.trans s78⟩
 ·rintro σ H2 ⟨x6,x7,rfl,s2⟩;have t2:=aR.same (K:=K) s2;obtain⟨xn,q,hlast,hq,⟨pq,rfl,rvq⟩,hxn⟩:=alC.last (n:=24) lt;have wq:=ok.wt q (SF hq);have ze:=ok.e;rw[ax r0 hq] at ze;have ze':=xT wq.pos ze;refine⟨_,Z,_,Z,pc,_,_,_,Z,Z,t2 _ _ hC,hlast,pq,_,_,_,Z,Z,t2 _ _ rvq,Z,_,_,Z,Z,_,Z,dj (by omega) ?_⟩;exact k _ s2
theorem HS(T:eA K mg t):bQ P w K mg base dQ 4 t.a_Q7 t.d_Q7 ["_law_plan"] (lV K):=by
 refine T.F_Q7.ok Mt (λvs H Q E h=>?_) (λcdv A outer s H vs Q E hr h=>?_)
 ·obtain⟨_,_,_,rfl,_⟩:=h;rfl
 obtain⟨v,ws,pl,rfl,⟨p,xs,rfl,hS,al⟩,P,k⟩:=h;refine dG.ok (av (aQ (ck bG (by rfl) T.z_tuple UO (ae (cj (N':=["_law_pieces"]) (src:=[none]) Z (by exact(dI (qv 0))) (λ_ _ _ _ _=>(by exact(by exact aJ (i:=0) (by show Tz (["_law_pieces"]:List TB);decide +kernel) (by exact Z) (by first|exact To Z|exact Tn Z)))) (λ_ _ _ _ _=>cN) (λ_ _ _ _ _=>(by exact(by exact(gh (Dy T) (by exact hr.mono (by decide)) (by exact Z) T.m_Q34 T.F_Q34.kp T.b_Q34 (by exact .nil) (by exact iQ) (ae (by exact(cj (N':=["_law_j","_law_amount"]) (src:=[none,none]) (by exact Z) (by exact(Fv (K:=K) (by exact Z) (by exact(qv 0)))) (by exact λ_ _ _ _ _=>(by exact(by exact jj (K:=K) (n:=2) (by exact Z) (by exact Z) (by exact bL (by exact aJ (i:=0) (by show Tz (["_law_j","_law_amount"]:List TB);decide +kernel) (by exact Z) (by first|exact To Z|exact Tn Z)) (by exact bL (by exact aJ (i:=1) (by show Tz (["_law_j","_law_amount"]:List TB);decide +kernel) (by exact Z) (by first|exact To Z|exact Tn Z)) dS))))) (by exact λ_ _ _ _ _=>cN) (by exact λ_ _ _ _ _=>(by exact(by exact(qv 1)))) (by exact trivial) (by exact Z) (by decide +kernel) (by exact Z) (by decide +kernel) (by exact bH Z trivial))) ag dq))))) (by exact trivial) Z (by decide +kernel) Z (by decide +kernel) (by exact bH Z trivial)) ag dq)))) ?_;nofun
 have lx:=al.len;have p24:=P.len;refine⟨_,Z,p,Z,⟨_,hS⟩,λD hD=>dC (K:=K) (P:=RV K) (ds:=pl) (f:=λq=>eN (q.map λc:Pc=>c.2)) (λ_ _ _ _ t p=>p.mono t) hD (ef hS) lx (by omega) (λi x q H' hx hq s' R E kR=>?_) λH2 ys s2 hD2 al2=>?_⟩
 ·obtain⟨q',hq',pq,xq,rfl,hSq,alq⟩:=al.at hx;rw[hq] at hq'
  cases hq'
  have t':=aR.same (K:=K) s';have lq:=alq.len;have mq:=SF hq;have few:=P.few q mq;refine⟨ii.set Z,_,Z,pq,Z,⟨_,t' _ _ hSq⟩,λD2 hD2=>dC (K:=K) (P:=RV K) (ds:=q) (f:=λc:Pc=>c.2) (λ_ _ _ _ t p=>p.mono t) hD2 (ef (t' _ _ hSq)) lq (by omega) (λj z c H3 hz hc s3 R' E' kR'=>?_) λH4 ys4 s4 hD4 al4=>?_⟩
  ·obtain⟨c',hc',pc,xa,rfl,hSc,rx⟩:=alq.at hz;rw[hc] at hc'
   cases hc'
   have t3:=t'.trans (aR.same (K:=K) s3);refine⟨pc,_,Z,t3 _ _ hSc,Z,_,_,Z,_,_,Z,Z,(ii.set Z).set' Z,?_⟩;exact⟨_,Z,kR' _ _ (aP.refl _) (rx.mono t3)⟩
  ·refine⟨D2,ys4,q.map λc=>c.2,Z,bu.of hD4,al4,λr hr=>?_,by rw[SE];omega,λv' H5 s5 r5=>?_⟩
   ·obtain⟨c,hc,rfl⟩:=SR.mp hr;exact(P.row q mq c hc).2.1.mono (Wq _ (DZ^3)) (by decide)
   ·exact kR _ _ (s4.trans s5) r5
 ·refine⟨D,ys,Z,.inl ⟨bu.of hD2,λpt hpt=>?_⟩⟩;have z:=aw hpt (.tup ys);exact k _ _ (s2.trans z) ⟨pt,ys,Z,bV.of ai,al2.mono λ_ _ q=>q.mono (aR.same z)⟩
theorem Dw(T:eA K mg t):bQ P w K mg base dQ 4 t.a_Q36 t.d_Q36 ["_law_k","_law_speeds"] (rH K):=by
 refine T.F_Q36.ok IR (λvs H Q E h=>?_) (λcdv A outer s H vs Q E hr h=>?_)
 ·obtain⟨_,_,_,rfl,_⟩:=h;rfl
 obtain⟨k₁,v,rs,rfl,⟨p,xs,rfl,hS,al⟩,bq,l24,k2,k4,k⟩:=h;refine dG.ok (av (aQ (cr (Dy T) hr T.m_Q34 T.F_Q34.kp T.b_Q34 (ae (cj (N':=["_law_speed","_law_k"]) (src:=[none,some 0]) Z (by exact(dI (qv 1))) (λ_ _ _ _ _=>(by exact(by exact aJ (i:=0) (by show Tz (["_law_speed","_law_k"]:List TB);decide +kernel) (by exact Z) (by first|exact To Z|exact Tn Z)))) (λ_ _ _ _ _=>cN) (λ_ _ _ _ _=>(by exact(by exact(gh (wM T) (by exact hr.mono (by decide)) (by exact Z) T.m_Q25 T.F_Q25.kp T.b_Q25 (by exact .nil) (by exact iQ) (ae (by exact(qv 0)) (ae (by exact(qv 1)) ag af) af))))) (by exact⟨Z,Z,Z,Z,trivial⟩) Z (by decide +kernel) Z (by decide +kernel) (by exact bH Z ⟨Z,trivial⟩)) ag dq)))) ?_;nofun
 have lx:=al.len;refine⟨_,Z,p,Z,⟨_,hS⟩,λD hD=>dC (K:=K) (P:=RV K) (ds:=rs) (f:=λr=>dk r k₁.toNat) (λ_ _ _ _ t p=>p.mono t) hD (ef hS) lx (by omega) (λi x r H' hx hr s' R E kR=>?_) λH2 ys s2 hD2 al2=>?_⟩
 ·obtain⟨r',hr',rx⟩:=al.at hx;rw[hr] at hr'
  cases hr'
  have t':=aR.same (K:=K) s';refine⟨ii.set Z,_,Z,_,Z,x,r,k₁,920,Z,rx.mono t',wZ ((bq r (SF hr)).mono (SV _) (by decide)),by decide,by omega,by omega,λv' H3 s3 r3=>?_⟩;exact kR _ _ s3 r3
 ·refine⟨D,ys,rs.map λr=>dk r k₁.toNat,Z,bu.of hD2,al2,λr hr=>?_,by rw[SE];omega,λv' H5 s5 r5=>?_⟩
  ·obtain⟨q,hq,rfl⟩:=SR.mp hr;exact jh (by omega) (bq q hq)
  ·exact k _ _ (s2.trans s5) r5
theorem Km(T:eA K mg t):bQ P w K mg base dQ 1 t.a_Q19 t.d_Q19 ["self"] (nY K t.c_Keeper):=by
 refine T.F_Q19.ok IW (λvs H Q E h=>?_) (λcdv A outer s H vs Q E hr h=>?_)
 ·obtain⟨_,_,rfl,_⟩:=h;rfl
 obtain⟨x,dx,rfl,hx,k⟩:=h;refine dG.ok (ah (sj (qv 0) aj Z) (ah (sj (qv 0) (cE ag) Z) (ah (sj (qv 0) (cE ag) Z) (av (sj (qv 0) (cE ag) Z))))) ?_
 nofun
 refine⟨_,Z,x,_,_,_,Z,hx,T.cl_Keeper,T.n_Keeper_turn,by decide,?_⟩;refine⟨(by show 0≤sizeLine;exact S8 _),λlk hlk=>⟨_,Z,x,_,_,_,Z,aw hlk _ _ _ ai,T.cl_Keeper,T.n_Keeper_known,(by show 1<1000;decide),?_⟩⟩;refine⟨(by show 0≤sizeLine;exact S8 _),λlr hlr=>⟨_,Z,x,_,_,_,Z,aw hlr _ _ _ ai,T.cl_Keeper,T.n_Keeper_rest,(by show 2<1000;decide),?_⟩⟩;refine⟨(by show 0≤sizeLine;exact S8 _),λld hld=>⟨_,Z,x,_,_,_,Z,aw hld _ _ _ ai,T.cl_Keeper,T.n_Keeper_done,(by show 3<1000;decide),?_⟩⟩;have nk:x≠lk:=aU ai hlk;have nr:x≠lr:=aU ai hlr;have nd:x≠ld:=aU ai hld;have n1:lk≠lr:=aU (by rw[aA nk.symm];exact ai) hlr;have n2:lk≠ld:=aU (by rw[aA nk.symm,aA n1,aA nk.symm];exact ai) hld;have n3:lr≠ld:=aU (by rw[aA nr.symm];exact ai) hld;refine k lk lr ld _ (λb o nb e=>?_) (by rw[aA nk.symm] at hlk;exact hlk) (by rw[aA nr.symm,aA n1.symm,aA nr.symm] at hlr;exact hlr) (by rw[aA nd.symm,aA n3.symm,aA nd.symm,aA n2.symm,aA nd.symm] at hld;exact hld) ⟨⟨dx,ai⟩,⟨[],(by rw[aA nk.symm,aA n2,aA nk.symm,aA n1,aA nk.symm];exact ai),.nil⟩,⟨[],(by rw[aA nr.symm,aA n3,aA nr.symm];exact ai),.nil⟩,⟨[],(by rw[aA nd.symm];exact ai),.nil⟩,n1,n2,n3⟩;rw[aA nb];refine aw hld _ _ _ ?_;rw[aA nb];refine aw hlr _ _ _ ?_;rw[aA nb];refine aw hlk _ _ _ ?_;rw[aA nb];exact e
theorem Kl(T:eA K mg t):bQ P w K mg base dQ 5 t.a_Q20 t.d_Q20 ["self","last","amount"] (nZ K t.c_Keeper):=by
 refine T.F_Q20.ok BK (λvs H Q E h=>?_) (λcdv A outer s H vs Q E hr h=>?_)
 ·obtain⟨_,_,_,_,_,_,_,_,_,rfl,_⟩:=h;rfl
 obtain⟨a,lk,lr,ld,s,v,u,dv,du,rfl,kp,k20,r20,hv,hu,cb,k⟩:=h;refine dG.ok (ah (cM 3 BK.nd (bT (ae (ff (qv 0) Z) (ae (qv 1) (ae (qv 2) ag af) af) gE))) (ah (cF (d5 (cS (cr (J9 T) hr T.m_Q49 T.F_Q49.kp T.b_Q49 (ae (qv 3) ag af)))) (av dH) bC) (ah (cF (bj Dp (aZ ba (by rfl) T.z_len UI (ae (ff (qv 0) Z) ag gE)) (c9 (v:=.int (20)) Z T.m_MOST_WORKS ⟨_,Z⟩) (bB _)) (av dH) bC) (ah (cI (eP Te Tk Tl ca (ff (qv 0) Z) (ae (qv 3) ag af))) (ah (cI (eP Te Tk Tl ca (ff (qv 0) Z) (ae (qv 2) ag af))) (av (aQ (aY iR (aZ ba (by rfl) T.z_len UI (ae (ff (qv 0) Z) ag gE)) aj)))))))) ?_
 nofun
 obtain⟨dx,hi⟩:=kp.ins;obtain⟨xk,hk,ak⟩:=kp.hk;obtain⟨xr,hr_,ar⟩:=kp.hr;have lxk:=ak.len;have lxr:=ar.len;refine⟨_,Z,a,_,_,_,_,Z,hi,T.cl_Keeper,T.n_Keeper_turn,Z,_,Z,_,Z,N4,λpw hpw=>?_⟩;obtain⟨s1,q1⟩:=jy hpw (.tup [.int s.tn,v,u]);generalize aO H pw _=H1 at s1 q1 ⊢;refine⟨_,Z,.ref pw,.tuple [.int s.tn,dv,du],Z,.tup (bV.of q1) (.cons (.int _) (.cons (hv.same s1) (.cons (hu.same s1) .nil))),_,Z,?_⟩;rw[vw,Ta,decide_eq_true_eq] at cb;obtain⟨cw,c20⟩:=cb;rw[cw];refine d7 ?_;have hi1:=s1 _ _ hi;have hk1:=s1 _ _ hk;refine⟨_,Z,a,_,_,_,_,Z,hi1,T.cl_Keeper,T.n_Keeper_known,Z,lk,_,Z,.inl (bu.of hk1),_,_,Z,Z,_,Z,?_⟩;refine dj (by omega) ?_;obtain⟨l,r,el,er,_,_,_,_⟩:=GN cw;subst el;subst er;obtain rfl:v=.int (l:Nat):=by cases hv;rfl
 refine⟨_,Z,a,_,_,_,_,Z,hi1,T.cl_Keeper,T.n_Keeper_known,Z,.inl ⟨Z,_,bu.of hk1⟩,_,Z,lk,_,_,Z,Z,hk1,bi (by omega),?_⟩;have nka:lk≠a:=λz=>by subst z;rw[hi] at hk;cases hk
 have nra:lr≠a:=λz=>by subst z;rw[hi] at hr_;cases hr_
 have hi2:aO H1 lk (.lst (xk++[.ref pw])) a=some (.ins t.c_Keeper dx (EQ s.tn lk lr ld)):=by rw[aA nka.symm];exact hi1
 have hr2:aO H1 lk (.lst (xk++[.ref pw])) lr=some (.lst xr):=by rw[aA kp.n1.symm];exact s1 _ _ hr_
 have hk2:aO H1 lk (.lst (xk++[.ref pw])) lk=some (.lst (xk++[.ref pw])):=ai;have t2:=aR.up (K:=K) hk1 (xk++[.ref pw]);have f2:∀b o,b≠lk->H1 b=some o->aO H1 lk (.lst (xk++[.ref pw])) b=some o:=λb o nb e=>by rw[aA nb];exact e
 generalize aO H1 lk _=H2 at hi2 hr2 hk2 t2 f2 ⊢;refine⟨_,Z,a,_,_,_,_,Z,hi2,T.cl_Keeper,T.n_Keeper_rest,Z,.inl ⟨Z,_,bu.of hr2⟩,_,Z,lr,_,_,Z,Z,hr2,bi (by omega),?_⟩;have hi3:aO H2 lr (.lst (xr++[u])) a=some (.ins t.c_Keeper dx (EQ s.tn lk lr ld)):=by rw[aA nra.symm];exact hi2
 have hk3:aO H2 lr (.lst (xr++[u])) lk=some (.lst (xk++[.ref pw])):=by rw[aA kp.n1];exact hk2
 have t3:=aR.up (K:=K) hr2 (xr++[u]);have hr3:aO H2 lr (.lst (xr++[u])) lr=some (.lst (xr++[u])):=ai;have f3:∀b o,b≠lr->H2 b=some o->aO H2 lr (.lst (xr++[u])) b=some o:=λb o nb e=>by rw[aA nb];exact e
 generalize aO H2 lr _=H3 at hi3 hk3 t3 hr3 f3 ⊢;refine⟨_,Z,a,_,_,_,_,Z,hi3,T.cl_Keeper,T.n_Keeper_known,Z,lk,_,Z,.inl (bu.of hk3),_,_,Z,Z,?_⟩;obtain⟨xd,hd,ad⟩:=kp.hd;have t1:=aR.same (K:=K) s1;have t13:=t2.trans t3;have t03:=t1.trans t13;have rvu:RV K H1 u r:=Er (hu.same s1);have e1:(((xk++[V.ref pw]).length:Nat):Int)-1=(s.kn.length:Nat):=by rw[SZ,UL];omega
 have q:Q (.int (s.kn.length:Nat)) H3:=by
  refine k l r H3 Z Z (λb o b1 b2 b3 _ e=>f3 b o b3 (f2 b o b2 (s1 _ _ e))) ⟨⟨dx,hi3⟩,⟨_,hk3,?_⟩,⟨_,hr3,?_⟩,⟨xd,f3 _ _ kp.n3.symm (f2 _ _ kp.n2.symm (s1 _ _ hd)),ad.mono λ_ _ z=>z.mono t03⟩,kp.n1,kp.n2,kp.n3⟩
  ·exact(ak.mono λ_ _ z=>z.mono t03).snoc ⟨pw,u,Z,t13 _ _ (bV.of q1),rvu.mono t13⟩
  ·exact(ar.mono λ_ _ z=>z.mono t03).snoc (rvu.mono t13)
 rw[←e1] at q;exact q
theorem Ke(T:eA K mg t):bQ P w K mg base dQ 7 t.a_Q38 t.d_Q38 ["self"] (rP K t.c_Keeper):=by
 refine T.F_Q38.ok rS (λvs H Q E h=>?_) (λcdv A outer s H vs Q E hr h=>?_)
 ·obtain⟨_,_,_,_,_,rfl,_⟩:=h;rfl
 obtain⟨a,lk,lr,ld,s,rfl,kp,o,ht,k⟩:=h;refine dG.ok (ah (cF (bj Dp (ff (qv 0) Z) (c9 (v:=.int (24)) Z T.m_TURNS ⟨_,Z⟩) (bB _)) (av dH) bC) (ah (cM 1 rS.nd (cr (HU T) hr T.m_Q6 T.F_Q6.kp T.b_Q6 (ae (ff (qv 0) Z) (ae (ff (qv 0) Z) (ae (ff (qv 0) Z) ag gE) gE) gE))) (ah (cM 2 rS.nd (cr (DC T) hr T.m_Q22 T.F_Q22.kp T.b_Q22 (ae (b8 aD (cr (DD T) hr T.m_Q21 T.F_Q21.kp T.b_Q21 (ae (bT (ae (b8 aD (qv 1) aj) (ae (bT ag) ag cL) aH)) ag cL)) (ff (qv 0) Z)) (ae (b8 aD (qv 1) aj) ag aH) aH))) (ah (cB S9 Z (dI (qv 2)) (aJ (i:=3) rS.nd Z (by first|exact To Z|exact Tn Z)) (av (ko (cr (l6 T) hr T.m_Q54 T.F_Q54.kp T.b_Q54 (ae (b8 cc (ff (qv 0) Z) (b8 aD (qv 3) aj)) (ae (b8 aD (qv 3) aj) ag aH) aH)) (ot (ff (qv 0) Z) (b8 aD (qv 3) aj) gG)))) (ah (cI (eP Te Tk Tl ca (ff (qv 0) Z) (ae (qv 2) ag af))) (ah (zT (qv 0) aj KU) (av (aQ (qv 2))))))))) ?_
 nofun
 obtain⟨dx,hi⟩:=kp.ins;obtain⟨xk,hk,ak⟩:=kp.hk;obtain⟨xr,hr_,ar⟩:=kp.hr;obtain⟨xd,hd_,ad⟩:=kp.hd;have nka:lk≠a:=λz=>by subst z;rw[hi] at hk;cases hk
 have nra:lr≠a:=λz=>by subst z;rw[hi] at hr_;cases hr_
 have nda:ld≠a:=λz=>by subst z;rw[hi] at hd_;cases hd_
 refine⟨_,Z,a,_,_,_,_,Z,hi,T.cl_Keeper,T.n_Keeper_turn,Z,_,_,Z,Z,_,Z,?_⟩;refine dj (by omega) ?_;have o20:=o.few;have ole:=o.len;refine⟨_,Z,a,_,_,_,_,Z,hi,T.cl_Keeper,T.n_Keeper_known,Z,_,Z,a,_,_,_,_,Z,hi,T.cl_Keeper,T.n_Keeper_rest,Z,_,Z,a,_,_,_,_,Z,hi,T.cl_Keeper,T.n_Keeper_turn,Z,lk,lr,xk,xr,s.kn,s.rs,s.tn,Z,.inl (bu.of hk),ak,bu.of hr_,ar,o.len,by omega,λp l u H1 s1 hp wv hl=>?_⟩;have wok:=m4 o ht;have ok:∀w∈bv s.kn s.rs s.tn,cn w:=λw hw=>(wok w hw).1
 have wl:=fO s.kn s.rs s.tn;have w20:(bv s.kn s.rs s.tn).length≤20:=by
  have:=jk s.rs;omega
 have gk:=λlys hly=>Np (lys:=lys) o ht hly
 have pk:=λlys hly=>fV (lys:=lys) ok w20 hly
 generalize bv s.kn s.rs s.tn=ws at ok w20 wv gk pk;refine⟨_,Z,p,_,_,_,Z,Z,hp,Z,(by show 0≤sizeLine;exact S8 _),λpe he=>⟨jz,λps hs=>?_⟩⟩;have e6:=aw he (.tup []);have e7:=aw hs (.tup [u,.ref pe]);have h6:aO (aO H1 pe (.tup [])) ps (.tup [u,.ref pe]) pe=some (.tup []):=e7 _ _ ai;have h7:aO (aO H1 pe (.tup [])) ps (.tup [u,.ref pe]) ps=some (.tup [u,.ref pe]):=ai;have e67:=e6.trans e7;generalize aO (aO H1 pe _) ps _=H7 at h6 h7 e67 ⊢;have sa:Pk K H7 (.ref ps) ws:=⟨⟨ps,u,pe,Z,bV.of h7,wv.mono (aR.same e67),bV.of h6⟩,w20,ok⟩;refine⟨.ref ps,ws,Z,sa,λlys x H8 s8 ly d=>?_⟩;have G:=gk lys ly;have P24:=(pk lys ly).len;generalize (dZ ws (bn ws lys)).2=pl at d G P24;obtain⟨px,xs,rfl,hx,alx⟩:=yU d;have lx:=alx.len;obtain⟨xt,hxt⟩:∃xt,xs[s.tn]?=some xt:=⟨_,Sz (by omega)⟩;obtain⟨q0,hq0,tq⟩:=alx.at hxt;rw[ax [] hq0] at G;have s08:=(s1.trans e67).trans s8;have s18:=e67.trans s8;have hi8:=s08 _ _ hi;refine⟨_,Z,a,_,_,_,_,Z,hi8,T.cl_Keeper,T.n_Keeper_turn,Z,px,_,_,_,Z,Z,hx,be hxt,_,Z,p,_,_,_,Z,Z,aR.same (K:=K) s18 _ _ hp,Z,xt,l,q0,aT s.rs,Z,tq,bu.of (s18 _ _ hl),G.lt,(by have:=G.few;omega),λv H9 s9 tv=>?_⟩;have s09:=s08.trans s9;have qp:=G.pc;have qn:=G.nd;have kk:=k q0;have bq:∀r∈s.rs,Wf 800 r:=λr hr=>((o.am r hr).1.mono (G7 (by omega)) (SD _)).wf (by decide) (by decide) (by decide)
 generalize bI (aT s.rs) q0=q at tv qp qn kk;obtain⟨pv,xs9,rfl,hv,alv⟩:=tv;have lv:=alv.len;have t09:=aR.same (K:=K) s09;have hi9:=s09 _ _ hi;have hr9:=s09 _ _ hr_;have hd9:=s09 _ _ hd_;have hk9:=s09 _ _ hk;let Iv1:Nat->L2.St->Hp->Prop:=λi σ H'=>∃(ys:List V) (x3:Option V),σ=[some (.ref a),some (.ref p),some (.ref pv),x3]/\(∀b o,b≠lr->H9 b=some o->H' b=some o)/\H' lr=some (.lst ys)/\cH (RV K H') ys (eB s.rs (q.take i))
 refine⟨_,Z,pv,Z,⟨_,hv⟩,ic (K:=K) (a:=pv) (xs:=xs9) Iv1 ⟨xr,none,Z,λb o _ e=>e,hr9,ar.mono λ_ _ z=>z.mono t09⟩ (λi σ H' _ ⟨_,_,_,k',h',_⟩=>aR.steps hr9 k' ⟨_,h'⟩ _ _ hv) ?_ ?_⟩
 ·rintro i x σ HI hx ⟨ys,x3,rfl,kI,hrI,alI⟩;obtain⟨c,hc,pc,xa,rfl,hSc,rx⟩:=alv.at hx;have tI:=aR.steps (K:=K) hr9 kI ⟨_,hrI⟩;obtain⟨lc,ac⟩:=qp c (SF hc);have cur:=jf (q.take i) s.rs (A5 qn hc);have lI:=alI.len;rw[jg] at lI;obtain⟨yv,hyv⟩:∃yv,ys[c.1]?=some yv:=⟨_,Sz (by omega)⟩;obtain⟨r,hrd,ry⟩:=alI.at hyv;have er:r=s.rs.getD c.1 (0,1):=by rw[←cur];exact(ax (0,1) hrd).symm
  have wr:Wf 800 r:=by rw[er];exact bq _ (gJ lc)
  have hiI:=kI _ _ nra.symm hi9;refine⟨_,Z,a,_,_,_,_,Z,hiI,T.cl_Keeper,T.n_Keeper_rest,Z,_,Z,pc,_,_,_,Z,Z,tI _ _ hSc,Z,lr,_,_,_,Z,Z,bu.of hrI,be hyv,_,Z,pc,_,_,_,Z,Z,tI _ _ hSc,Z,yv,xa,r,c.2,800,800,Z,ry,rx.mono tI,wr,ac.wf,by decide,λw_ HJ sJ rw_=>?_⟩;have hiJ:=sJ _ _ hiI;have hrJ:=sJ _ _ hrI;have tJ:=aR.same (K:=K) sJ;refine⟨_,Z,a,_,_,_,_,Z,hiJ,T.cl_Keeper,T.n_Keeper_rest,Z,_,Z,pc,_,_,_,Z,Z,tJ _ _ (tI _ _ hSc),Z,lr,ys,_,c.1,Z,Z,hrJ,lg (by omega),?_⟩;have tu:=aR.up (K:=K) hrJ (ys.set c.1 w_);refine⟨_,_,Z,λb o' nb e=>by rw[aA nb];exact sJ _ _ (kI b o' nb e),ai,?_⟩;rw[TY,hc];show cH _ _ (eB s.rs (q.take i++[c]));rw[Bh,cur,←er];exact cH.setI (rw_.mono tu) c.1 (alI.mono λ_ _ z=>(z.mono tJ).mono tu)
 ·rintro σ HI ⟨ys,x3,rfl,kI,hrI,alI⟩;rw[lv,Ud] at alI;have tI:=aR.steps (K:=K) hr9 kI ⟨_,hrI⟩;have hiI:=kI _ _ nra.symm hi9;have hdI:=kI _ _ kp.n3.symm hd9;have hkI:=kI _ _ kp.n1 hk9;have lxd:=ad.len;have ldl:=o.dl;refine⟨_,Z,a,_,_,_,_,Z,hiI,T.cl_Keeper,T.n_Keeper_done,Z,.inl ⟨Z,_,bu.of hdI⟩,_,Z,ld,_,_,Z,Z,hdI,bi (by omega),?_⟩;have hiL:aO HI ld (.lst (xd++[.ref pv])) a=some (.ins t.c_Keeper dx (EQ s.tn lk lr ld)):=by rw[aA nda.symm];exact hiI
  have tL:=aR.up (K:=K) hdI (xd++[.ref pv]);have fL:∀b o',b≠ld->HI b=some o'->aO HI ld (.lst (xd++[.ref pv])) b=some o':=λb o' nb e=>by rw[aA nb];exact e
  have hdL:aO HI ld (.lst (xd++[.ref pv])) ld=some (.lst (xd++[.ref pv])):=ai;generalize aO HI ld _=HL at hiL tL fL hdL ⊢;refine⟨_,Z,a,_,_,_,_,Z,hiL,T.cl_Keeper,T.n_Keeper_turn,Z,_,_,Z,Z,dx,_,hiL,(by show 4<1000;decide),?_⟩;have eF:iE (Wy "turn") (V.int ((s.tn:Int)+1)) (EQ s.tn lk lr ld)=EQ (s.tn+1) lk lr ld:=Z;rw[eF];have tF:aR K HL (aO HL a (.ins t.c_Keeper dx (EQ (s.tn+1) lk lr ld))):=λb xs h=>by
   rcases h with(h | ⟨o',h⟩)|h
   ·exact .inl (.inl (by rw[aA (λz=>by subst z;rw[h] at hiL;cases hiL)];exact h))
   ·exact .inl (.inr ⟨o',by rw[aA (λz=>by subst z;rw[h] at hiL;cases hiL)];exact h⟩)
   ·exact .inr h
  have fF:∀b o',b≠a->HL b=some o'->aO HL a (.ins t.c_Keeper dx (EQ (s.tn+1) lk lr ld)) b=some o':=λb o' nb e=>by rw[aA nb];exact e
  have hiF:aO HL a (.ins t.c_Keeper dx (EQ (s.tn+1) lk lr ld)) a=some (.ins t.c_Keeper dx (EQ (s.tn+1) lk lr ld)):=ai;generalize aO HL a _=HF at tF fF hiF ⊢;have tIF:=tL.trans tF;have t9F:=tI.trans tIF;refine⟨_,Z,kk (.ref pv) HF G (λb o' b1 b2 b3 b4 e=>fF b o' b1 (fL b o' b4 (kI b o' b3 (s09 _ _ e)))) ⟨⟨dx,hiF⟩,⟨xk,fF _ _ nka (fL _ _ kp.n2 hkI),ak.mono λ_ _ z=>(z.mono t09).mono t9F⟩,⟨ys,fF _ _ nra (fL _ _ kp.n3 hrI),alI.mono λ_ _ z=>z.mono tIF⟩,⟨xd++[.ref pv],fF _ _ nda hdL,(ad.mono λ_ _ z=>(z.mono t09).mono t9F).snoc ⟨pv,xs9,Z,t9F _ _ hv,alv.mono λ_ _ z=>z.mono t9F⟩⟩,kp.n1,kp.n2,kp.n3⟩ ⟨pv,xs9,Z,t9F _ _ hv,alv.mono λ_ _ z=>z.mono t9F⟩⟩
theorem wL(T:eA K mg t):bQ P w K mg base dQ 8 t.a_Q29 t.d_Q29 ["works"] (rM K):=by
 refine T.F_Q29.ok kj (λvs H Q E h=>?_) (λcdv A outer s H vs Q E hr h=>?_)
 ·obtain⟨_,_,rfl,_⟩:=h;rfl
 obtain⟨v,ws,rfl,wv,wo,k⟩:=h;refine dG.ok (ah (cM 1 kj.nd (CW T.K_Keeper (Km T) (hr.mono (by decide)) Z T.m_Keeper T.b_Q19 .nil iQ)) (ah (cM 2 kj.nd (cE ag)) (ah (cM 3 kj.nd (cE ag)) (ah (cB S9 Z (cD Z T.z_range (ae (c9 (v:=.int (24)) Z T.m_TURNS ⟨_,Z⟩) ag af)) (aJ (i:=4) kj.nd Z (by first|exact To Z|exact Tn Z)) (ah (cB S9 Z (ji Z T.z_enumerate (ae (qv 0) ag af)) (kq Z (bL (aJ (i:=5) kj.nd Z (by first|exact To Z|exact Tn Z)) (bL (aJ (i:=6) kj.nd Z (by first|exact To Z|exact Tn Z)) dS))) (av (cF (bj jD (b8 aD (qv 6) aj) (qv 4) (bB _)) (ah (cI (Fw (qv 1) T.cl_Keeper T.M_Keeper_come (Kl T) (hr.mono (by decide)) T.b_Q20 .nil iQ (ae (b8 aD (qv 6) aj) (ae (b8 aD (qv 6) aj) ag aH) aH))) (av (cI (eP Te Tk Tl ca (qv 2) (ae (qv 5) ag af))))) bC))) (av (cI (eP Te Tk Tl ca (qv 3) (ae (cr (DC T) hr T.m_Q22 T.F_Q22.kp T.b_Q22 (ae (CV (qv 1) T.cl_Keeper T.M_Keeper_go (Ke T) (hr.mono (by decide)) T.b_Q38 .nil iQ) (ae (qv 2) ag af) aK)) ag aK)))))) (av (aQ (ck bG (by rfl) T.z_tuple UO (ae (qv 3) ag af)))))))) ?_
 nofun
 obtain⟨pa,xs,rfl,hpa,al⟩:=wv;have hxl:=al.len;have few:=wo.few;refine λa dx ha hdx ndx=>⟨a,dx,Z,ai,λlk lr ld H1 f1 nk nr nd kp1=>⟨Z,?_⟩⟩
 obtain⟨m1,fA⟩:=DX ha hdx f1 nk nr nd;clear f1 nk nr nd ha hdx ndx;refine⟨(by show 0≤sizeLine;exact S8 _),λln hln=>?_⟩;obtain⟨m2,e2⟩:=jy hln (.lst []);generalize aO H1 ln _=H2 at m2 e2 ⊢;refine⟨(by show 0≤sizeLine;exact S8 _),λlp hlp=>?_⟩;obtain⟨m3,e3⟩:=jy hlp (.lst []);generalize aO H2 lp _=H3 at m3 e3 ⊢;have F:FB H a lk lr ld ln lp:=⟨fA,fh m1 hln,fh (m1.trans m2) hlp,(λz=>by obtain⟨o,e⟩:=kp1.cls ln z;rw[hln] at e;cases e),(λz=>by obtain⟨o,e⟩:=(kp1.same m2).cls lp z;rw[hlp] at e;cases e),λz=>by rw[←z,e2] at hlp;cases hlp⟩;have B0:Bk K t.c_Keeper H a lk lr ld ln lp H3 ⟨0,[],[],[]⟩ [] []:=⟨(m1.trans m2).trans m3,(kp1.same m2).same m3,m3 _ _ e2,⟨[],e3,.nil⟩⟩;clear m1 m2 m3 e2 e3 kp1 fA hln hlp;let Iv1:Nat->L2.St->Hp->Prop:=λi σ H'=>∃(x4 x5 x6:Option V) (s:fM),σ=[some (.ref pa),some (.ref a),some (.ref ln),some (.ref lp),x4,x5,x6]/\xC ws i s/\KI ws s (dY ws i)/\Bk K t.c_Keeper H a lk lr ld ln lp H' s (dY ws i) (s.dn.map (bI (dY ws i)))
 refine⟨24,Z,by decide,by decide,cR (lo:=0) (n:=24) Iv1 ⟨none,none,none,_,Z,.zero,tO ws,B0⟩ ?_ ?_⟩
 ·rintro i σ HA hi ⟨x4,x5,x6,s₁,rfl,rn,ki,bk⟩;rw[Vm];have tn:=rn.tn;let Iv2:Nat->L2.St->Hp->Prop:=λj σ H'=>∃(y5 y6:Option V),σ=[some (.ref pa),some (.ref a),some (.ref ln),some (.ref lp),some (.int (i:Nat)),y5,y6]/\KI ws (vx ws s₁ (jp ws i j)) (dY ws i++jp ws i j)/\Bk K t.c_Keeper H a lk lr ld ln lp H' (vx ws s₁ (jp ws i j)) (dY ws i++jp ws i j) (s₁.dn.map (bI (dY ws i)))
  refine⟨_,Z,pa,Z,⟨_,aR.same (K:=K) bk.sm _ _ hpa⟩,jr (sq:=bV K) (a:=pa) (xs:=xs) Iv2 ⟨x5,x6,Z,(by rw[show jp ws i 0=[] from Z,UZ];exact ki),(by rw[show jp ws i 0=[] from Z,UZ];exact bk)⟩ (λj σ H' _ ⟨_,_,_,_,b⟩=>aR.same (K:=K) b.sm _ _ hpa) ?_ ?_⟩
  ·rintro j x pe σ HB hx ⟨y5,y6,rfl,kiB,bkB⟩ hpe;have hj:j<ws.length:=by have:=(SN.mp hx).1;omega
   obtain⟨w,hw,pw,am,rfl,hpw,ram⟩:=al.at hx;have ew:ws.getD j bh=w:=ax bh hw;have wa:=wo.at hj;rw[ew] at wa;obtain⟨s4,hpe4⟩:=jy hpe (.tup [.int j,.ref pw]);have bkC:=bkB.same s4;generalize aO HB pe _=HC at s4 hpe4 bkC ⊢;have tC:=aR.same (K:=K) bkC.sm;refine⟨pe,_,Z,bV.of hpe4,Z,_,_,Z,_,_,Z,Z,?_⟩;refine⟨_,Z,pw,_,_,_,Z,Z,tC _ _ hpw,Z,_,Z,Z,_,Z,?_⟩;by_cases c:w.1=i
   rotate_left
   ·refine dj (λz=>by injection z with z;omega) ?_;refine⟨_,_,rfl,?_,?_⟩
    ·rw[wX (by rw[ew];exact c)];exact kiB
    ·rw[wX (by rw[ew];exact c)];exact bkC
   refine d8 (by rw[c]) ?_;have nj:j∉dY ws i++jp ws i j:=λz=>by
    rcases Ti.mp z with z|z
    ·have:=(ia.mp z).2;rw[ew] at this;omega
    ·have:=(nv.mp z).1;omega
   have ct:=(ky ws (jp ws i j) s₁).1;have rm:=kiB.room wo hj nj;have kD:=kiB.come wo hj nj (by rw[ew,ct,tn];exact c);obtain⟨dxC,hiC⟩:=bkC.kp.ins;have olen:=kiB.ok.len;have cb:vw (vx ws s₁ (jp ws i j)) (.int (w.2.1:Nat)) (dR w.2.2)=true:=by rw[GO (by omega) (by omega),GW wa.2.2.1.red wa.2.2.2,decide_eq_true rm];rfl
   refine⟨_,Z,a,_,_,Z,hiC,Z,_,Z,pw,_,_,_,Z,Z,tC _ _ hpw,Z,_,Z,pw,_,_,_,Z,Z,tC _ _ hpw,Z,a,lk,lr,ld,vx ws s₁ (jp ws i j),.int (w.2.1:Nat),am,.int (w.2.1:Nat),dR w.2.2,Z,bkC.kp,by omega,by omega,.int _,(ram.mono tC).deep,cb,λl' r' HD e1 e2 ks kpD=>?_⟩;obtain rfl:w.2.1=l':=by injection e1 with e1;omega
   obtain rfl:w.2.2=r':=K4 e2;have bkD:=bkC.kst F ks kpD;refine⟨_,Z,.inl ⟨Z,_,bu.of bkD.hn⟩,_,Z,ln,_,_,Z,Z,bkD.hn,?_,?_⟩
   ·have l1:=kiB.len;refine bi ?_;unfold bO;rw[SE];omega
   have bkE:=bkD.num F j;refine⟨_,_,Z,?_,?_⟩
   ·rw[tT (by rw[ew];exact c),←Xk,o4];exact kD
   ·rw[tT (by rw[ew];exact c),←Xk,o4,ew];exact bkE
  ·rintro σ HB ⟨y5,y6,rfl,kiB,bkB⟩;rw[hxl] at kiB bkB;have ct:=(ky ws (jp ws i ws.length) s₁).1;have cd:=(ky ws (jp ws i ws.length) s₁).2;have rnx:=λ(q0:List Pc) (G:G4 (vx ws s₁ (jp ws i ws.length)) q0)=>xC.next rn G
   have gr:=ki.grow (jp ws i ws.length);rw[←uW] at kiB bkB gr;rw[←gr,←cd] at bkB;generalize vx ws s₁ (jp ws i ws.length)=s₂ at kiB bkB rnx ct;obtain⟨dxB,hiB⟩:=bkB.kp.ins;obtain⟨ysB,hpB,alB⟩:=bkB.hp;refine⟨_,Z,.inl ⟨Z,_,bu.of hpB⟩,_,Z,a,_,_,Z,hiB,Z,a,lk,lr,ld,s₂,Z,bkB.kp,kiB.ok,by omega,λq0 v2 HC G ks kpC tv=>?_⟩;have bkC:=bkB.kst F ks kpC;have kiC:=kiB.go G (by omega);have kl:=kiB.len;have ol:=kiB.ok.len;have qf:=G.few;refine⟨_,Z,v2,ln,bI (aT s₂.rs) q0,dY ws (i+1),Z,tv,bu.of bkC.hn,(λc hc=>by have:=(G.pc c hc).1;omega),(by unfold bI;rw[SE];omega),λv3 HD s3 tv3=>?_⟩;have bkD:=bkC.same s3;obtain⟨ysD,hpD,alD⟩:=bkD.hp;have lD:=alD.len;have dl:=kiB.ok.dl;rw[SE] at lD;refine⟨lp,_,_,Z,Z,hpD,bi (by omega),?_⟩;refine⟨_,_,_,_,Z,rnx q0 G,kiC,?_⟩;have z:=bkD.row F hpD alD tv3;show Bk K t.c_Keeper H a lk lr ld ln lp _ _ _ ((s₂.dn++[bI (aT s₂.rs) q0]).map (bI (dY ws (i+1))));rw[Ub];exact z
 ·rintro σ HA ⟨x4,x5,x6,s₁,rfl,rn,ki,bk⟩;obtain⟨ys,hp,alp⟩:=bk.hp;refine⟨_,Z,lp,ys,Z,.inl ⟨bu.of hp,λpt hpt=>?_⟩⟩;have z:=aw hpt (.tup ys);exact k _ s₁ _ (bk.sm.trans z) rn ki ⟨pt,ys,Z,bV.of ai,alp.mono λ_ _ q=>q.mono (aR.same z)⟩
theorem J2(T:eA K mg t):bQ P w K mg base dQ 9 t.a_Q61 t.d_Q61 ["works","k","plan"] (Fg K):=by
 refine T.F_Q61.ok BH (λvs H Q E h=>?_) (λcdv A outer s H vs Q E hr h=>?_)
 ·obtain⟨_,_,_,_,_,rfl,_⟩:=h;rfl
 obtain⟨v,x,kk,ws,pl,rfl,wv,wo,k2,k4,px,PB,k⟩:=h;refine dG.ok (ah (cM 3 BH.nd (cr (wL T) hr T.m_Q29 T.F_Q29.kp T.b_Q29 (ae (qv 0) ag af))) (av (aQ (ck bG (by rfl) T.z_tuple UO (ae (cj (N':=["turn","works","k","kept","plan"]) (src:=[none,some 0,some 1,some 3,some 2]) Z (by exact(cD Z T.z_range (ae (aY cX (c9 (v:=.int (24)) Z T.m_TURNS ⟨_,Z⟩) aj) ag bw))) (λ_ _ _ _ _=>(by exact(by exact aJ (i:=0) (by show Tz (["turn","works","k","kept","plan"]:List TB);decide +kernel) (by exact Z) (by first|exact To Z|exact Tn Z)))) (λ_ _ _ _ _=>cN) (λ_ _ _ _ _=>(by exact(by exact(gh (Kk T) (by exact hr.mono (by decide)) (by exact Z) T.m_Q24 T.F_Q24.kp T.b_Q24 (by exact .nil) (by exact iQ) (ae (by exact(qv 1)) (ae (by exact(qv 2)) (ae (by exact(qv 3)) (ae (by exact(qv 4)) (ae (by exact(qv 0)) ag af) af) af) af) af))))) (by exact⟨Z,Z,Z,Z,⟨Z,Z,Z,Z,⟨Z,Z,Z,Z,⟨Z,Z,Z,Z,trivial⟩⟩⟩⟩) Z (by decide +kernel) Z (by decide +kernel) (by exact bH Z ⟨Z,⟨Z,⟨Z,⟨Z,trivial⟩⟩⟩⟩)) ag dq))))) ?_
 nofun
 refine⟨_,Z,v,ws,Z,wv,wo,λu s H1 s1 rn _ pu=>?_⟩;have KF:=yK wo rn;have t1:=aR.same (K:=K) s1;have wv1:=wv.mono t1;have px1:=px.mono t1;refine⟨_,_,Z,Z,25,Z,by decide,by decide,λD hD=>qD (K:=K) (P:=G8 K kk.toNat ws (s.dn.map (bI (dY ws 24))) pl) (EW (lo:=0) (n:=25)) (λt:Nat=>t) (λ_ _ _ _ t ⟨r,a,b⟩=>⟨r,a.mono t,b⟩) hD (by decide) (λi y H' hi s' hy R E kR=>?_) λH2 ys s2 hD2 al2=>?_⟩
 ·subst hy;have t':=aR.same (K:=K) s';refine⟨ii.set Z,_,Z,_,Z,_,Z,_,Z,_,Z,v,u,x,kk,ws,_,pl,i,(by rw[Vm];rfl),wv1.mono t',wo,k2,k4,pu.mono t',KF,px1.mono t',PB,by omega,λz r H3 s3 rz bz=>?_⟩;exact kR _ _ s3 ⟨r,rz,bz⟩
 ·refine⟨D,ys,Z,.inl ⟨bu.of hD2,λpt hpt=>?_⟩⟩;have z:=aw hpt (.tup ys);refine k pt ys s _ ((s1.trans s2).trans z) rn (bV.of ai) ?_;rw[List.map_id'] at al2;exact al2.mono λ_ _ ⟨r,a,b⟩=>⟨r,a.mono (aR.same z),b⟩
theorem Kf(T:eA K mg t):bQ P w K mg base dQ 10 t.a_Q37 t.d_Q37 ["_law_works_here","_law_k","_law_kept_speeds","_law_plan"] (rD K):=by
 refine T.F_Q37.ok oj (λvs H Q E h=>?_) (λcdv A outer s H vs Q E hr h=>?_)
 ·obtain⟨_,_,_,_,_,_,_,rfl,_⟩:=h;rfl
 obtain⟨v,u,x,kk,ws,pl,s,rfl,wv,wo,k2,k4,rn,ru,px,PB,k⟩:=h;refine dG.ok (ah (cM 4 oj.nd (cr (HS T) hr T.m_Q7 T.F_Q7.kp T.b_Q7 (ae (qv 3) ag af))) (ah (cM 5 oj.nd (aZ (qF hr) (by rfl) T.z_repr boot_repr (ae (bT (ae (qv 0) (ae (qv 3) ag af) af)) ag cL))) (ah (cM 6 oj.nd (cr (J2 T) hr T.m_Q61 T.F_Q61.kp T.b_Q61 (ae (qv 0) (ae (qv 1) (ae (qv 3) ag af) af) af))) (ah (cF (bj yF (aZ (qF hr) (by rfl) T.z_repr boot_repr (ae (bT (ae (qv 0) (ae (qv 3) ag af) af)) ag cL)) (qv 5) (bB _)) (av (aQ gI)) bC) (ah (cF (jC (kT (bj yE (cr (Kj T) hr T.m_Q26 T.F_Q26.kp T.b_Q26 (ae (qv 1) (ae (qv 2) (ae (qv 4) (ae (qv 6) ag af) af) af) af)) sx (bB _)) (km (bj F8 (cr (Kh T) hr T.m_Q30 T.F_Q30.kp T.b_Q30 (ae (qv 1) (ae (qv 2) (ae (qv 4) (ae (qv 6) ag af) af) af) af)) gI (bB _))))) (av (aQ gI)) bC) (ah (cM 7 oj.nd (cr (tj T) hr T.m_Q33 T.F_Q33.kp T.b_Q33 (ae (bT (ae (Hv (yO hr) (qv 1) (λ_ _=>Z)) (ae aj ag aX) aH)) (ae (cr (Dw T) hr T.m_Q36 T.F_Q36.kp T.b_Q36 (ae (qv 1) (ae (qv 4) ag af) af)) ag aK) cL))) (av (aQ (CU (cr (DE T) hr T.m_Q18 T.F_Q18.kp T.b_Q18 (ae (qv 7) (ae (cr (Dw T) hr T.m_Q36 T.F_Q36.kp T.b_Q36 (ae (qv 1) (ae (qv 2) ag af) af)) ag aK) af))))))))))) ?_
 nofun
 have hdg:jY (fS [] [((TL 2:cW),V.int 4),((TL 3:cW),V.int 27),((TL 4:cW),V.int 256)]) (TL kk)=some (V.int (k9 kk)):=by
  rcases(show kk=2∨kk=3∨kk=4 by omega) with rfl|rfl|rfl<;>rfl
 refine⟨_,Z,x,ws,pl,Z,px,PB,λsv H1 s1 rs=>?_⟩;have t1:=aR.same (K:=K) s1;have wv1:=wv.mono t1;have px1:=px.mono t1;refine⟨_,Z,_,Z,jz,λp2 g2=>?_⟩;have s2:=aw g2 (.tup [v,x]);have d2:bW K (aO H1 p2 (.tup [v,x])) (.ref p2) (.tuple [Eu ws,Il pl]):=.tup (bV.of ai) (.cons (wv1.mono (aR.same s2)).deep (.cons (px1.mono (aR.same s2)).deep .nil));generalize aO H1 p2 _=H2 at s2 d2 ⊢;have s12:=s1.trans s2;have t2:=aR.same (K:=K) s2;refine⟨.ref p2,_,Z,d2,BF wo PB,?_⟩;refine⟨_,Z,_,Z,_,Z,v,x,kk,ws,pl,Z,wv1.mono t2,wo,k2,k4,px1.mono t2,PB,λpb ys s' H3 s3 rn' hpb alb=>?_⟩;have es:=rn'.uniq rn;subst es;have KF:=yK wo rn';obtain⟨ts,lt,at_,bt⟩:=K9 alb;obtain⟨bl,pw⟩:=JJ k2 k4 wo KF PB lt bt;obtain⟨w1,w2⟩:=yx k4 KF.ok;obtain⟨w3,w4'⟩:=yx k4 PB;obtain⟨c1,c2,_⟩:=uK KF.ok;obtain⟨c3,c4,_⟩:=uK PB;have s13:=s12.trans s3;have t13:=aR.same (K:=K) s13;have rt3:vO K H3 (.ref pb) ts:=⟨pb,ys,Z,hpb,at_⟩;generalize s'.dn.map (bI (dY ws 24))=kp at *;clear alb bt;refine⟨_,Z,_,Z,jz,λp4 g4=>?_⟩;have s4:=aw g4 (.tup [v,x]);have t4:=t13.trans (aR.same (K:=K) s4);have d4:bW K (aO H3 p4 (.tup [v,x])) (.ref p4) (.tuple [Eu ws,Il pl]):=.tup (bV.of ai) (.cons (wv.mono t4).deep (.cons (px.mono t4).deep .nil));generalize aO H3 p4 _=H4 at s4 t4 d4 ⊢;refine⟨.ref p4,_,Z,d4,BF wo PB,_,Z,Z,_,Z,yN Z ?_⟩;have s14:=s13.trans s4;have ru4:=ru.mono t4;have rs4:=rs.mono (aR.same ((s2.trans s3).trans s4));have rt4:=rt3.mono (aR.same s4);refine⟨_,Z,_,Z,_,Z,_,Z,kk,u,sv,.ref pb,_,_,ts,Z,ru4,rs4,rt4,bl,λH5 s5=>?_⟩;refine⟨Z,_,Z,d7 ?_⟩;have t5:=aR.same (K:=K) s5;refine⟨_,Z,_,Z,_,Z,_,Z,kk,u,sv,.ref pb,_,_,ts,Z,ru4.mono t5,rs4.mono t5,rt4.mono t5,bl,λH6 s6=>?_⟩;refine⟨_,_,Z,Z,_,Z,d7 ?_⟩;have s56:=s5.trans s6;have s16:=s14.trans s56;have ru6:=ru4.mono (aR.same s56);have rs6:=rs4.mono (aR.same s56);clear s5 t5 s6 s14 rt3 rt4 ru4 rs4 t13 d4 s13 s12 d2;generalize H6=H5 at *;refine λpd hpd=>⟨ai,[((TL 2:cW),V.int 4),((TL 3:cW),V.int 27),((TL 4:cW),V.int 256)],Z,by decide,_,Z,pd,.int (k9 kk),Z,?_,?_⟩
 ·have:=kG.k (k:=TL kk) (ai (H:=aO H5 pd (.dK [])) (a:=pd) (o:=.dK (fS [] [((TL 2:cW),V.int 4),((TL 3:cW),V.int 27),((TL 4:cW),V.int 256)])));rw[hdg] at this;exact this
 have sK:aP H5 (aO (aO H5 pd (.dK [])) pd (.dK (fS [] [((TL 2:cW),V.int 4),((TL 3:cW),V.int 27),((TL 4:cW),V.int 256)]))):=by rw[xY];exact aw hpd _
 generalize aO (aO H5 pd _) pd _=HK at sK ⊢;refine⟨jz,λpk hpk=>?_⟩;have s6:=aw hpk (.tup [.int (k9 kk),.int 1]);have rk:RV K (aO HK pk (.tup [.int (k9 kk),.int 1])) (.ref pk) (k9 kk,1):=RV.of ai;generalize aO HK pk _=H7 at s6 rk ⊢;have s57:=sK.trans s6;refine⟨_,Z,_,Z,kk,sv,fj pl,Z,rs6.mono (aR.same s57),c3,c4,k2,k4,λv8 H8 s8 r8=>?_⟩;obtain⟨n1,n2⟩:=L3 k2 k4 w3;refine⟨.ref pk,v8,(k9 kk,1),_,9,3640,Z,rk.mono (aR.same s8),r8,Nh k2 k4,w4 (w3.mono (SV _) (by decide)),by decide,nR K λp9 H9 s9 r9=>?_⟩;have s59:=(s57.trans s8).trans s9;refine⟨_,Z,_,Z,_,Z,kk,u,_,Z,ru6.mono (aR.same s59),c1,c2,k2,k4,λv10 HA sA rA=>?_⟩;refine⟨.ref p9,v10,_,_,3640,3640,Z,r9.mono (aR.same sA),rA,w4 n1,w4 (w1.mono (SV _) (by decide)),by decide,?_⟩;rw[show dF (bA (k9 kk,1) (eN ((fj pl).map λr=>dk r kk.toNat))) (eN ((fj kp).map λr=>dk r kk.toNat))=false from(fE n1.pos w1.pos).mpr (by rw[n2,w2,w4'];exact pw)];exact⟨_,Z,k _ ((s16.trans s59).trans sA)⟩
theorem J1(T:eA K mg t):bQ P w K mg base dQ 11 t.a_Q62 t.d_Q62 ["_law_script"] (rL K):=by
 refine T.F_Q62.ok hG (λvs H Q E h=>?_) (λcdv A outer s H vs Q E hr h=>?_)
 ·obtain⟨_,_,rfl,_⟩:=h;rfl
 obtain⟨a₀,ns,rfl,hS,hl,k⟩:=h;refine dG.ok (ah (cM 1 hG.nd (cE (ae (aY wG (cr (wK T) hr T.m_Q31 T.F_Q31.kp T.b_Q31 (ae (cr (tw T) hr T.m_Q17 T.F_Q17.kp T.b_Q17 (ae (qv 0) (ae aj ag aX) af)) (ae aj ag aX) aK)) (cr (wK T) hr T.m_Q31 T.F_Q31.kp T.b_Q31 (ae (cr (tw T) hr T.m_Q17 T.F_Q17.kp T.b_Q17 (ae (qv 0) (ae aj ag aX) af)) (ae aj ag aX) aK))) (ae aj ag aX) bw))) (ah (cM 2 hG.nd (cr (Dx T) hr T.m_Q35 T.F_Q35.kp T.b_Q35 (ae (qv 1) (ae aj (ae aj ag aX) aX) af))) (ah (so (cF (bj jD (cr (fu T) hr T.m_Q45 T.F_Q45.kp T.b_Q45 (ae (qv 1) (ae aj ag aX) af)) aj (bB _)) (av (cM 2 hG.nd (cr (Dx T) hr T.m_Q35 T.F_Q35.kp T.b_Q35 (ae (qv 1) (ae aj (ae aj ag aX) aX) af)))) bC)) (ah (cM 3 hG.nd (cr (HS T) hr T.m_Q7 T.F_Q7.kp T.b_Q7 (ae (cr (wL T) hr T.m_Q29 T.F_Q29.kp T.b_Q29 (ae (qv 2) ag af)) ag aK))) (ah (cM 4 hG.nd (cE (ae (b8 cc (cE (ae (cr (DD T) hr T.m_Q21 T.F_Q21.kp T.b_Q21 (ae (bT (ae (qv 2) (ae (bT ag) ag cL) af)) ag cL)) (ae (cr (wL T) hr T.m_Q29 T.F_Q29.kp T.b_Q29 (ae (qv 2) ag af)) ag aK) aK)) (cr (fu T) hr T.m_Q45 T.F_Q45.kp T.b_Q45 (ae (qv 1) (ae aj ag aX) af))) ag aH))) (ah (cB S9 Z (cD Z T.z_range (ae aj ag aX)) (aJ (i:=5) hG.nd Z (by first|exact To Z|exact Tn Z)) (ah (cM 1 hG.nd (cE (ae (cr (wK T) hr T.m_Q31 T.F_Q31.kp T.b_Q31 (ae (aY cX (cr (tw T) hr T.m_Q17 T.F_Q17.kp T.b_Q17 (ae (qv 0) (ae (aY cX aj (qv 5)) ag bw) af)) (aY iS aj (qv 5))) (ae aj ag aX) bw)) (ae aj ag aX) aK))) (av (cI (eP Te Tk Tl ca (qv 4) (ae (cr (Kr T) hr T.m_Q12 T.F_Q12.kp T.b_Q12 (ae (qv 1) (ae (qv 2) ag af) af)) ag aK)))))) (ah (cB S9 Z (cD Z T.z_range (ae (aZ ba (by rfl) T.z_len UI (ae (qv 4) ag af)) ag aK)) (aJ (i:=5) hG.nd Z (by first|exact To Z|exact Tn Z)) (av (cF (d5 (cS (cr (Kf T) hr T.m_Q37 T.F_Q37.kp T.b_Q37 (ae (qv 2) (ae (aY cX aj (aY hZ (aY cX (qv 5) (cr (tw T) hr T.m_Q17 T.F_Q17.kp T.b_Q17 (ae (qv 0) (ae aj ag aX) af))) aj)) (ae (qv 3) (ae (b8 cc (qv 4) (qv 5)) ag aH) af) bw) af)))) (av (aQ gI)) bC))) (av (aQ gI))))))))) ?_
 nofun
 refine⟨_,Z,a₀,ns,0,Z,hS,λz0=>⟨_,60,Z,by decide,by decide,λl1 n1 HA sA l10 hA1 hn1=>?_⟩⟩;refine⟨_,Z,a₀,ns,1,Z,sA.seq hS,λz1=>⟨_,60,Z,by decide,by decide,λl2 n2 HB sB l20 hB2 hn2=>?_⟩⟩;refine⟨l1,l2,_,_,Z,Z,sB _ _ hA1,hB2,Tu (show _≤120 by rw[SE,SE];omega) (by decide),λl3 g3=>?_⟩;have sAB:=sA.trans sB;have s3:=aw g3 (.lst (n1.map V.int++n2.map V.int));have h3:aO HB l3 (.lst (n1.map V.int++n2.map V.int)) l3=some (.lst ((n1++n2).map V.int)):=by rw[ai,Ub]
 generalize aO HB l3 _=HC at s3 h3 ⊢;have n12:(n1++n2).length=120:=by rw[SZ];omega
 have sC:=sAB.trans s3;refine⟨jz,λt₁ ht=>?_⟩;have nl:l3≠t₁:=λz=>by subst z;rw[h3] at ht;cases ht
 have s4:=aw ht (.lst [.ref l3,.int 0]);have T1:db (aO HC t₁ (.lst [.ref l3,.int 0])) t₁ l3:=⟨n1++n2,0,ai,s4 _ _ h3,nl,by omega,by omega⟩;have ft:H t₁=none:=fh sC ht;have sD:=sC.trans s4;generalize aO HC t₁ _=HD at T1 sD ⊢;clear sA sB sAB s3 sC s4 h3 hA1 hB2 l10 l20 hn1 hn2 g3 ht n12;refine⟨_,Z,t₁,l3,5,8,Z,T1,by decide,by decide,by decide,by decide,λv ws HE zE T2 wv wl wg=>?_⟩;have sE:=iI ft sD zE;have wo:d9 ws:=⟨by omega,wg⟩;refine⟨λσ H'=>∃(v:V) (ws:List Wk),σ=[some (.ref a₀),some (.ref t₁),some v,none,none,none]/\aP H H'/\db H' t₁ l3/\eW K H' v ws/\d9 ws,?_,?_⟩
 ·refine⟨_,Z,t₁,l3,12,Z,T2,by omega,by omega,λr xF aF bF T3=>?_⟩;have sF:=iI ft sE (qS.tp (.lst xF));obtain⟨ye,ee⟩:=T2.lst;have wvF:=wv.mono (aR.up (K:=K) ee xF);generalize aO HE t₁ _=HF at T3 sF wvF ⊢;refine⟨Z,_,Z,?_⟩;by_cases c0:r=0
  rotate_left
  ·refine dj (λz=>by injection z with z;exact c0 z) ?_;exact⟨v,ws,rfl,sF,T3,wvF,wo⟩
  refine d8 (by rw[c0]) ?_;refine⟨_,Z,t₁,l3,9,24,Z,T3,by decide,by decide,by decide,by decide,λv2 w2 HG zG T4 wv2 wl2 wg2=>?_⟩;exact⟨v2,w2,Z,iI ft sF zG,T4,wv2,⟨by omega,wg2⟩⟩
 rintro σ HF ⟨v,ws,rfl,sF,T3,wv,wo⟩;clear sE sD T1 T2 wl wg zE;refine⟨_,Z,v,ws,Z,wv,wo,λuk s HG sG rn ki pu=>⟨uk,ws,_,Z,pu,(yK wo rn).ok,λks HH sH rk=>?_⟩⟩;have sFH:=sG.trans sH;have s0H:=sF.trans sFH;have wvH:=wv.mono (aR.same sFH);have TH:=T3.same sFH;have few:=wo.few;clear sF T3 sG sH sFH pu ki;refine⟨_,Z,(by show 0≤sizeLine;exact S8 _),λpe he=>⟨jz,λps hs=>?_⟩⟩;have e6:=aw he (.tup []);have e7:=aw hs (.tup [v,.ref pe]);have h6:aO (aO HH pe (.tup [])) ps (.tup [v,.ref pe]) pe=some (.tup []):=e7 _ _ ai;have h7:aO (aO HH pe (.tup [])) ps (.tup [v,.ref pe]) ps=some (.tup [v,.ref pe]):=ai;have e67:=e6.trans e7;generalize aO (aO HH pe _) ps _=HI at h6 h7 e67 ⊢;have ok:=LZ wo;have sa:Pk K HI (.ref ps) ws:=⟨⟨ps,v,pe,Z,bV.of h7,wvH.mono (aR.same e67),bV.of h6⟩,few,ok⟩;refine⟨.ref ps,ws,Z,sa,λlys x HJ sJ ly d=>?_⟩;have P1:=MR (fV ok few ly);generalize (dZ ws (bn ws lys)).2=pl at d P1;have p1:vP K HJ x pl:=yU d;have sHJ:=e67.trans sJ;refine⟨_,Z,v,ws,Z,wvH.mono (aR.same sHJ),wo,λy s' HK sK rn' _ py=>?_⟩;have P2:=(yK wo rn').ok;have sHK:=sHJ.trans sK;refine⟨jz,λp8 g8=>?_⟩;have n8:p8≠t₁:=λz=>by obtain⟨_,e⟩:=(TH.same sHK).lst;rw[←z,g8] at e;cases e
 obtain⟨s8,h8⟩:=jy g8 (.lst [x,y]);generalize aO HK p8 _=HL at s8 h8 ⊢;have sHL:=sHK.trans s8;have T8:=TH.same sHL;have b1:Lh K ws HL x:=⟨pl,p1.mono (aR.same (sK.trans s8)),P1⟩;have b2:Lh K ws HL y:=⟨_,py.mono (aR.same s8),P2⟩;have sL:=s0H.trans sHL;have wvL:=wvH.mono (aR.same sHL);have rkL:=rk.mono (aR.same sHL);clear sHL sHK sHJ sK sJ e67 e6 e7 h6 h7 sa d p1 py P1 P2 rn' s8 s0H wvH TH rk ok ly;refine⟨_,Z,t₁,l3,2,Z,T8,by omega,by omega,λr xM aM bM TM=>?_⟩;obtain⟨yl,el⟩:=T8.lst;have tM:=aR.up (K:=K) el xM;have sM:=iI ft sL (qS.tp (.lst xM));have hM8:aO HL t₁ (.lst xM) p8=some (.lst [x,y]):=by rw[aA n8];exact h8
 have b1M:=b1.mono tM;have b2M:=b2.mono tM;have wvM:=wvL.mono tM;have rkM:=rkL.mono tM;generalize aO HL t₁ _=HM at sM hM8 b1M b2M wvM rkM ⊢;obtain⟨z,hz,bz⟩:∃z,ug [x,y] r=some z/\Lh K ws HM z:=by
  rcases(show r=0∨r=1 by omega) with rfl|rfl
  ·exact⟨x,Z,b1M⟩
  ·exact⟨y,Z,b2M⟩
 refine⟨p8,_,_,_,Z,Z,bu.of hM8,hz,LR,λlp hlp=>?_⟩;have fl:=fh sM hlp;obtain⟨sN,hN⟩:=jy hlp (.lst [z]);generalize aO HM lp _=HN at sN hN ⊢;have tN:=aR.same (K:=K) sN;let Iv1:Nat->L2.St->Hp->Prop:=λj σ H'=>∃(y1 y5:Option V) (zs:List V),σ=[some (.ref a₀),y1,some v,some ks,some (.ref lp),y5]/\aP H H'/\eW K H' v ws/\vO K H' ks (fj (s.dn.map (bI (dY ws 24))))/\H' lp=some (.lst zs)/\zs.length=j+1/\∀z∈zs,Lh K ws H' z
 refine⟨2,Z,by decide,by decide,cR (lo:=0) (n:=2) Iv1 ⟨_,_,[z],Z,sM.trans sN,wvM.mono tN,rkM.mono tN,hN,Z,λq hq=>by rw[SJ.mp hq];exact bz.mono tN⟩ ?_ ?_⟩
 ·rintro i σ HO hi ⟨y1,y5,zs,rfl,sO,wvO,rkO,hpO,lz,pz⟩;rw[Vm];refine⟨_,Z,_,Z,_,_,Z,Z,a₀,ns,2+i,(show [V.ref a₀,V.int (2+((i:Nat):Int))]=[V.ref a₀,V.int ((2+i:Nat):Int)] by rw[aaR];rfl),sO.seq hS,λz=>?_⟩;refine⟨_,Z,_,_,Z,Z,.inl ⟨by omega,by omega⟩,_,_,Z,Z,_,90,Z,by decide,by decide,λl nz HP sP hl0 hlP hln=>⟨jz,λt₂ ht2=>?_⟩⟩;have nl2:l≠t₂:=λz=>by subst z;rw[hlP] at ht2;cases ht2
  have s5:=aw ht2 (.lst [.ref l,.int 0]);have T2:db (aO HP t₂ (.lst [.ref l,.int 0])) t₂ l:=⟨nz,0,ai,s5 _ _ hlP,nl2,by omega,by omega⟩;have f2:H t₂=none:=fh (sO.trans sP) ht2;have n2:lp≠t₂:=λz=>by rw[←z,sP _ _ hpO] at ht2;cases ht2
  have sOQ:=sP.trans s5;generalize aO HP t₂ _=HQ at T2 sOQ ⊢;have tQ:=aR.same (K:=K) sOQ;have hpQ:=sOQ _ _ hpO;refine⟨_,Z,.inl ⟨Z,_,bu.of hpQ⟩,_,Z,_,Z,t₂,l,v,ws,Z,T2,wvO.mono tQ,wo,λy' pl' HR zR TR py pb=>?_⟩;have tR:=A4 (K:=K) T2 zR TR;have sR:=iI f2 (sO.trans sOQ) zR;have hpR:HR lp=some (.lst zs):=zR _ _ (λz=>n2 (SJ.mp z)) hpQ;have tu:=aR.up (K:=K) hpR (zs++[y']);have tOR:=(tQ.trans tR).trans tu;refine⟨lp,_,_,Z,Z,hpR,bi (by omega),?_⟩;refine⟨_,_,zs++[y'],Z,λb o e=>by rw[aA (aU e fl)];exact sR _ _ e,wvO.mono tOR,rkO.mono tOR,ai,by rw[SZ,lz];rfl,λq hq=>?_⟩;rcases Ti.mp hq with c|c
  ·exact(pz q c).mono tOR
  ·rw[SJ.mp c];exact⟨pl',py.mono tu,pb⟩
 ·rintro σ HO ⟨y1,y5,zs,rfl,sO,wvO,rkO,hpO,lz,pz⟩;let Iv2:Nat->L2.St->Hp->Prop:=λj σ H'=>∃(y5:Option V),σ=[some (.ref a₀),y1,some v,some ks,some (.ref lp),y5]/\aP HO H'
  refine⟨_,Z,lp,_,Z,.inl (bu.of hpO),_,Z,by omega,by omega,cR (lo:=0) (n:=((zs.length:Nat):Int).toNat) Iv2 ⟨y5,Z,aP.refl _⟩ ?_ ?_⟩
  ·rintro i σ HP hi ⟨y6,rfl,sP⟩;rw[Vm];have tP:=aR.same (K:=K) sP;obtain⟨q,hq⟩:∃q,zs[i]?=some q:=⟨_,Sz (by omega)⟩;obtain⟨pl',p1,p2⟩:=pz q (SF hq);refine⟨_,Z,_,Z,_,Z,a₀,ns,5,Z,(sO.trans sP).seq hS,λz5=>?_⟩;have m0:=U2 (((i:Nat):Int)+z5) (show(3:Int)≠0 by decide);have m1:=U3 (((i:Nat):Int)+z5) (show(0:Int)<3 by decide);refine⟨_,_,Z,Z,_,_,Z,Z,(by show(0:Int)<3;decide),_,_,Z,Z,_,Z,_,Z,_,Z,lp,_,_,_,Z,Z,bu.of (sP _ _ hpO),be hq,v,ks,q,_,ws,pl',s,Z,wvO.mono tP,wo,by omega,by omega,rn,rkO.mono tP,p1.mono tP,p2,λHQ sQ=>?_⟩;exact⟨_,Z,d7 ⟨_,Z,sP.trans sQ⟩⟩
  ·rintro σ HP ⟨y6,rfl,sP⟩;exact k _
end
set_option autoImplicit true in
set_option relaxedAutoImplicit true in
open PySem.W in
theorem all_mk{l:OpenLaw}{w:T9}{K:Frag}{h:SY}{mg:TB->Option Value}{fa:Addr}(X:K.In h)(G:h.Ns TC mg)(hfa:mg "law"=some (.ref fa))
  {c_Keeper:Addr} (p_Keeper:nsIn K TC "Keeper"=some (some (.ref c_Keeper))) (x1_Keeper:plainGet K c_Keeper TB.empty=true) (x2_Keeper:hasDictIn K c_Keeper=true) (x3_Keeper:plainOver K c_Keeper=true) (x4_Keeper:findIn K (.ref c_Keeper) "__setattr__"=some (some (.builtin "object.__setattr__"))) (x5_Keeper:makesIn K c_Keeper=true) (x6_Keeper:keepIn K (.ref c_Keeper)=true)
  (na_Keeper_turn:findIn K (.ref c_Keeper) "turn"=some none) (na_Keeper_known:findIn K (.ref c_Keeper) "known"=some none) (na_Keeper_rest:findIn K (.ref c_Keeper) "rest"=some none) (na_Keeper_done:findIn K (.ref c_Keeper) "done"=some none)
  (h0:dM K "is_whole" Cb f_Q39 d_Q39)
  (h1:dM K "is_tuple_of" CC f_Q14 d_Q14)
  (h2:dM K "is_number_of" Jc f_Q8 d_Q8)
  (h3:dM K "greatest_divisor" Jk f_Q0 d_Q0)
  (h4:dM K "is_ratio" Ca f_Q40 d_Q40)
  (h5:dM K "is_above_nought" Jj f_Q1 d_Q1)
  (h6:dM K "ratio" BW f_Q53 d_Q53)
  (h7:dM K "plus" BQ f_Q58 d_Q58)
  (h8:dM K "minus" BV f_Q54 d_Q54)
  (h9:dM K "times" BU f_Q55 d_Q55)
  (h10:dM K "over" BP f_Q59 d_Q59)
  (h11:dM K "raised" BZ f_Q50 d_Q50)
  (h12:dM K "is_less" B2 f_Q48 d_Q48)
  (h13:dM K "lesser" BY f_Q51 d_Q51)
  (h14:dM K "total" BS f_Q56 d_Q56)
  (h15:dM K "whole_parts" CB f_Q15 d_Q15)
  (h16:dM K "is_work" B1 f_Q49 d_Q49)
  (h17:dM K "in_window" Co f_Q27 d_Q27)
  (h18:dM K "no_leanings" CA f_Q16 d_Q16)
  (h19:dM K "add_lean" B9 f_Q41 d_Q41)
  (h20:dM K "all_leanings" Jb f_Q9 d_Q9)
  (h21:dM K "drawn_in" B8 f_Q42 d_Q42)
  (h22:dM K "kept_windows" CH f_Q10 d_Q10)
  (h23:dM K "held" BO f_Q60 d_Q60)
  (h24:dM K "tightest_places" Ji f_Q2 d_Q2)
  (h25:dM K "tightest" B7 f_Q43 d_Q43)
  (h26:dM K "layers" BX f_Q52 d_Q52)
  (h27:dM K "layer_density" Jg f_Q4 d_Q4)
  (h28:dM K "layer_speeds" CG f_Q11 d_Q11)
  (h29:dM K "first_to_come" Jf f_Q5 d_Q5)
  (h30:dM K "order_of" B6 f_Q44 d_Q44)
  (h31:dM K "deal_turn" Cn f_Q28 d_Q28)
  (h32:dM K "dealt" BR f_Q57 d_Q57)
  (h33:dM K "least_plan" Cu f_Q21 d_Q21)
  (h34:dM K "waiting_works" Je f_Q6 d_Q6)
  (h35:dM K "renumbered" Ct f_Q22 d_Q22)
  (h36:dM K "kept_plan" Cm f_Q29 d_Q29)
  (h37:dM K "pieces_in_order" Jh f_Q3 d_Q3)
  (h38:dM K "lets_bill" Ck f_Q30 d_Q30)
  (h39:dM K "left_ahead" Cs f_Q23 d_Q23)
  (h40:dM K "bill_ahead" Cr f_Q24 d_Q24)
  (h41:dM K "bill" BN f_Q61 d_Q61)
  (h42:dM K "_law_cell_at" Cz f_Q17 d_Q17)
  (h43:dM K "_law_draws" Cj f_Q31 d_Q31)
  (h44:dM K "_law_take" B5 f_Q45 d_Q45)
  (h45:dM K "_law_made" B4 f_Q46 d_Q46)
  (h46:dM K "_law_plus" B3 f_Q47 d_Q47)
  (h47:dM K "_law_minus" Ci f_Q32 d_Q32)
  (h48:dM K "_law_times" Ch f_Q33 d_Q33)
  (h49:dM K "_law_is_less" Cy f_Q18 d_Q18)
  (h50:dM K "_law_total" Cg f_Q34 d_Q34)
  (h51:dM K "_law_works" Cf f_Q35 d_Q35)
  (h52:dM K "_law_any_plan" CF f_Q12 d_Q12)
  (h53:dM K "_law_raised" Cq f_Q25 d_Q25)
  (h54:dM K "_law_is_ratio" CD f_Q13 d_Q13)
  (h55:dM K "_law_billed" Cp f_Q26 d_Q26)
  (h56:dM K "_law_speeds_of" Jd f_Q7 d_Q7)
  (h57:dM K "_law_power" Ce f_Q36 d_Q36)
  (h58:dM K "_law_right" Cd f_Q37 d_Q37)
  {f_Q62:Addr} {d_Q62:SI} (h59:dM K "law" BL f_Q62 d_Q62)
  (h60:EV K c_Keeper "__init__" "Keeper.__init__" Cw f_Q19 d_Q19)
  (h61:EV K c_Keeper "come" "Keeper.come" Cv f_Q20 d_Q20)
  (h62:EV K c_Keeper "go" "Keeper.go" Cc f_Q38 d_Q38)
  {f_NOUGHT:Addr} {od_NOUGHT:Option Addr} {sl_NOUGHT:Array (Option Value)} {tkNOUGHT0 tkNOUGHT1:Tok} {n_NOUGHT:Nat} (p_NOUGHT:nsIn K TC "NOUGHT"=some (some (.ref f_NOUGHT))) (l_NOUGHT:K.lookup f_NOUGHT=some ⟨.type "tuple",od_NOUGHT,.seq #[.int (0) tkNOUGHT0,.int (1) tkNOUGHT1] n_NOUGHT,sl_NOUGHT⟩)
  {tkTURNS:Tok} (p_TURNS:nsIn K TC "TURNS"=some (some (.int (24) tkTURNS)))
  {tkMOST_WORKS:Tok} (p_MOST_WORKS:nsIn K TC "MOST_WORKS"=some (some (.int (20) tkMOST_WORKS)))
  (z_abs:nsIn K TC "abs"=some none)
  (z_all:nsIn K TC "all"=some none)
  (z_any:nsIn K TC "any"=some none)
  (z_bool:nsIn K TC "bool"=some none)
  (z_enumerate:nsIn K TC "enumerate"=some none)
  (z_int:nsIn K TC "int"=some none)
  (z_isinstance:nsIn K TC "isinstance"=some none)
  (z_len:nsIn K TC "len"=some none)
  (z_list:nsIn K TC "list"=some none)
  (z_max:nsIn K TC "max"=some none)
  (z_min:nsIn K TC "min"=some none)
  (z_range:nsIn K TC "range"=some none)
  (z_repr:nsIn K TC "repr"=some none)
  (z_sum:nsIn K TC "sum"=some none)
  (z_tuple:nsIn K TC "tuple"=some none)
  : ∃fd:SI,(∀(s:SH) (v:Value),YK s fd ⟨[v],[]⟩ [("_law_script",v)])/\∀base:SY,K.In base->base.Ns TC mg->bQ l.prog w K mg base dQ 11 fa fd ["_law_script"] (rL K):=by
 have e:=hfa.symm.trans (mg_of X G h59.p)
 cases e
 have μ:=fun(n:Str) (v:Value) (e:nsIn K TC n=some (some v))=>mg_of X G e
 obtain⟨_,_,_,_,_,_,_,_,_,rfl,_,_⟩:=h59.F.ex;have T:eA K mg ⟨f_Q39,_,f_Q14,_,f_Q8,_,f_Q0,_,f_Q40,_,f_Q1,_,f_Q53,_,f_Q58,_,f_Q54,_,f_Q55,_,f_Q59,_,f_Q50,_,f_Q48,_,f_Q51,_,f_Q56,_,f_Q15,_,f_Q49,_,f_Q27,_,f_Q16,_,f_Q41,_,f_Q9,_,f_Q42,_,f_Q10,_,f_Q60,_,f_Q2,_,f_Q43,_,f_Q52,_,f_Q4,_,f_Q11,_,f_Q5,_,f_Q44,_,f_Q28,_,f_Q57,_,f_Q21,_,f_Q6,_,f_Q22,_,f_Q29,_,f_Q3,_,f_Q30,_,f_Q23,_,f_Q24,_,f_Q61,_,f_Q17,_,f_Q31,_,f_Q45,_,f_Q46,_,f_Q47,_,f_Q32,_,f_Q33,_,f_Q18,_,f_Q34,_,f_Q35,_,f_Q12,_,f_Q25,_,f_Q13,_,f_Q26,_,f_Q7,_,f_Q36,_,f_Q37,_,fa,_,f_Q19,_,f_Q20,_,f_Q38,_,c_Keeper,f_NOUGHT,tkTURNS,tkMOST_WORKS⟩:=⟨h0.F,h0.b1,μ _ _ h0.p,h1.F,h1.b2,μ _ _ h1.p,h2.F,h2.b2,μ _ _ h2.p,h3.F,h3.b2,μ _ _ h3.p,h4.F,h4.b1,μ _ _ h4.p,h5.F,h5.b1,μ _ _ h5.p,h6.F,h6.b2,μ _ _ h6.p,h7.F,h7.b2,μ _ _ h7.p,h8.F,h8.b2,μ _ _ h8.p,h9.F,h9.b2,μ _ _ h9.p,h10.F,h10.b2,μ _ _ h10.p,h11.F,h11.b2,μ _ _ h11.p,h12.F,h12.b2,μ _ _ h12.p,h13.F,h13.b2,μ _ _ h13.p,h14.F,h14.b1,μ _ _ h14.p,h15.F,h15.b1,μ _ _ h15.p,h16.F,h16.b1,μ _ _ h16.p,h17.F,h17.b2,μ _ _ h17.p,h18.F,h18.b1,μ _ _ h18.p,h19.F,h19.b2,μ _ _ h19.p,h20.F,h20.b2,μ _ _ h20.p,h21.F,h21.b1,μ _ _ h21.p,h22.F,h22.b2,μ _ _ h22.p,h23.F,h23.b3,μ _ _ h23.p,h24.F,h24.b3,μ _ _ h24.p,h25.F,h25.b2,μ _ _ h25.p,h26.F,h26.b1,μ _ _ h26.p,h27.F,h27.b2,μ _ _ h27.p,h28.F,h28.b1,μ _ _ h28.p,h29.F,h29.b3,μ _ _ h29.p,h30.F,h30.b2,μ _ _ h30.p,h31.F,h31.b5,μ _ _ h31.p,h32.F,h32.b3,μ _ _ h32.p,h33.F,h33.b1,μ _ _ h33.p,h34.F,h34.b3,μ _ _ h34.p,h35.F,h35.b2,μ _ _ h35.p,h36.F,h36.b1,μ _ _ h36.p,h37.F,h37.b1,μ _ _ h37.p,h38.F,h38.b4,μ _ _ h38.p,h39.F,h39.b3,μ _ _ h39.p,h40.F,h40.b5,μ _ _ h40.p,h41.F,h41.b3,μ _ _ h41.p,h42.F,h42.b2,μ _ _ h42.p,h43.F,h43.b2,μ _ _ h43.p,h44.F,h44.b2,μ _ _ h44.p,h45.F,h45.b2,μ _ _ h45.p,h46.F,h46.b2,μ _ _ h46.p,h47.F,h47.b2,μ _ _ h47.p,h48.F,h48.b2,μ _ _ h48.p,h49.F,h49.b2,μ _ _ h49.p,h50.F,h50.b1,μ _ _ h50.p,h51.F,h51.b3,μ _ _ h51.p,h52.F,h52.b2,μ _ _ h52.p,h53.F,h53.b2,μ _ _ h53.p,h54.F,h54.b1,μ _ _ h54.p,h55.F,h55.b4,μ _ _ h55.p,h56.F,h56.b1,μ _ _ h56.p,h57.F,h57.b2,μ _ _ h57.p,h58.F,h58.b4,μ _ _ h58.p,h59.F,h59.b1,μ _ _ h59.p,h60.F,h60.b1,⟨x5_Keeper,h60.p,h60.fn,x6_Keeper⟩,h61.F,h61.b3,h61.meth,h62.F,h62.b1,h62.meth,μ _ _ p_Keeper,⟨x1_Keeper,x2_Keeper,x3_Keeper,x4_Keeper⟩,na_Keeper_turn,na_Keeper_known,na_Keeper_rest,na_Keeper_done,μ _ _ p_NOUGHT,λH=>.inr ⟨_,_,_,l_NOUGHT,Z,Z,jz,(.cons ⟨_,Z⟩ (.cons ⟨_,Z⟩ .nil))⟩,μ _ _ p_TURNS,μ _ _ p_MOST_WORKS,mg_none_of X G z_abs,mg_none_of X G z_all,mg_none_of X G z_any,mg_none_of X G z_bool,mg_none_of X G z_enumerate,mg_none_of X G z_int,mg_none_of X G z_isinstance,mg_none_of X G z_len,mg_none_of X G z_list,mg_none_of X G z_max,mg_none_of X G z_min,mg_none_of X G z_range,mg_none_of X G z_repr,mg_none_of X G z_sum,mg_none_of X G z_tuple⟩
 exact⟨_,λs v=>.of_eq Z,λbase _ _=>J1 T⟩
theorem walk{l:aaO}{loose:List TB}{XP:(TB->Option Value)->SY->Prop}{YP:T9->SY->Prop}{d:DefRec}{K:Params->Sy}(hn:l.most=some 63)(hdf:d.params.defaults=[])
  (hY:∀(w:T9) (h:SY),YP w h->(K w.params).In h)
  (F:∀(w:T9) (mg:TB->Option Value) (fa:Addr) (h:SY),(K w.params).In h->h.Ns TC mg->mg d.name=some (.ref fa)→
   ∃fd:SI,(∀(s:SH) (u:Value),YK s fd ⟨[u],[]⟩ [("_law_script",u)])/\∀base:SY,(K w.params).In base->base.Ns TC mg->bQ l.prog w (K w.params) mg base dQ 11 fa fd ["_law_script"] (rL (K w.params))):
  abf q loose XP YP l.row.toRowW d [] (λf vs=>aa4 f vs):=
 L2.walk_of (n:=63) (k:=11) (x := "_law_script") (CX:=λ_=>dQ) (sp:=λw=>rL (K w.params)) hn (by decide) hdf ⟨Z,by decide,by decide,Z⟩ hY F (λ_ _ a ns hl _ hS=>⟨a,ns,Z,hS,hl,λ_=>Z⟩) λ_ _ _ _ _ z=>z
end My
open PySem PySem.W PyProof.Rows
set_option maxRecDepth 100000 in
set_option maxHeartbeats 0 in
theorem PySem.Challenge.cw_paceplan_k70_whole_bills_of_keepers_holds : PySem.Challenge.rw_paceplan_k70_whole_bills_of_keepers.Holds := by
 w_on;refine HWtop ?_
 k_fill
 refine My.walk (l:=PySem.Challenge.rw_paceplan_k70_whole_bills_of_keepers) rfl rfl (fun w h Y=>PySem.W.kIn_of Y) ?F
 case F=>
  intro w mg fa h KX G hmg
  refine' My.all_mk KX G hmg ?q0 ?q1 ?q2 ?q3 ?q4 ?q5 ?q6 ?q7 ?q8 ?q9 ?q10 ?q11 ?q12 ?q13 ?q14 ?q15 ?q16 ?q17 ?q18 ?q19 ?q20 ?q21 ?q22 ?q23 ?q24 ?q25 ?q26 ?q27 ?q28 ?q29 ?q30 ?q31 ?q32 ?q33 ?q34 ?q35 ?q36 ?q37 ?q38 ?q39 ?q40 ?q41 ?q42 ?q43 ?q44 ?q45 ?q46 ?q47 ?q48 ?q49 ?q50 ?q51 ?q52 ?q53 ?q54 ?q55 ?q56 ?q57 ?q58 ?q59 ?q60 ?q61 ?q62 ?q63 ?q64 ?q65 ?q66 ?q67 ?q68 ?q69 ?q70 ?q71 ?q72 ?q73 ?q74 ?q75 ?q76 ?q77 ?q78 ?q79 ?q80 ?q81 ?q82 ?q83 ?q84 ?q85 ?q86 ?q87 ?q88 ?q89 ?q90 ?q91 ?q92
  (case q0|q1|q2|q3|q4|q5|q6|q7|q8|q9|q10=>k_is)
  (case q11|q12|q13|q14|q15|q16|q17|q18|q19|q20|q21|q22|q23|q24|q25|q26|q27|q28|q29|q30|q31|q32|q33|q34|q35|q36|q37|q38|q39|q40|q41|q42|q43|q44|q45|q46|q47|q48|q49|q50|q51|q52|q53|q54|q55|q56|q57|q58|q59|q60|q61|q62|q63|q64|q65|q66|q67|q68|q69|q70=>refine' B.isF ?a ?b ?c ?d;(case a=>k_is);(case b=>k_is);(case c=>k_is);(case d=>k_is))
  (case q71|q72|q73=>refine' B.isM ?a ?e ?b ?c ?d;(case a=>k_is);(case e=>k_is);(case b=>k_is);(case c=>k_is);(case d=>k_is))
  (case q74|q75|q76|q77|q78|q79|q80|q81|q82|q83|q84|q85|q86|q87|q88|q89|q90|q91|q92=>k_is)
