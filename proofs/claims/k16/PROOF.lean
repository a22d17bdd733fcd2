import PyProof.Rows.All
import KE.RegKIsAll
import KE.RegKTryMore
import KE.KDictOf
import KE.KItem
import PySem.Challenge.RW_paceplan_k16_whole_no_mixture_has_less
set_option Elab.async false
set_option linter.all false
set_option maxRecDepth 100000
theorem opt_two {α β γ : Type} {o : Option α} {f : α -> β} {g : α -> γ} {a : β} {b : γ} (h1 : o.map f = some a) (h2 : o.map g = some b) : o.map (fun s => (f s, g s)) = some (a, b) := by
 cases o with
 | none => cases h1
 | some x => cases h1; cases h2; rfl
namespace HW
open PySem
def keep : List Nat := [1, 2, 3, 5, 6, 7, 8, 10, 11, 12, 13, 14, 15, 16, 17, 18, 19, 20, 21, 22, 24, 25, 26, 27, 28, 29, 30, 32, 33, 34, 35, 36, 37, 38, 39, 40, 42, 43, 44, 45, 46, 47, 48, 49, 50, 51, 52, 53, 54, 55, 56, 57, 58, 59]
def V : Program := PySem.W.view PySem.Challenge.pw_paceplan_k16_whole_no_mixture_has_less keep
end HW
section HWs
open PySem PySem.W PyProof.Rows
set_option maxHeartbeats 0 in
theorem HWa : ∀ w : World, (openEnds treeTable PySem.Challenge.rw_paceplan_k16_whole_no_mixture_has_less.row.prog w 4908).map (fun s => openSeen HW.V [] (importedModules PySem.Challenge.rw_paceplan_k16_whole_no_mixture_has_less.row.prog.main.body) (fun s => xlAt HW.V [] s && recOk PySem.Challenge.rw_paceplan_k16_whole_no_mixture_has_less.row.records s) true s) = some (openGood HW.V []) := by
 intro w
 delta openEnds fencedOpening topFrom
 rw [PySem.W.Fast.te14364793385576792824, PySem.W.Fast.te14082659384304107361, PySem.W.Fast.te10274390034422433532, PySem.W.Fast.te1435165496053646825, PySem.W.Fast.te14289696077712309145, PySem.W.Fast.te4187177175401517315]
 kernel_rfl
local macro_rules
 | `(tactic| o_head $H:term) => `(tactic| (
   refine holds_open (q := HW.V) (loose := []) (N := 4908)
    (Xt := fun s => xlAt HW.V [] s && recOk (RowW.records (OpenRow.toRowW (OpenLaw.row PySem.Challenge.rw_paceplan_k16_whole_no_mixture_has_less))) s)
    (XP := XL HW.V []) (Yf := Hook.obs $H) (Ya := Hook.val $H) (YP := Hook.says $H)
    ?hl (Hook.of $H) (Hook.keeps $H)
    (fun s e => xl_of s (Bool.and_eq_true_iff.mp e).1) XL.keeps
    (by rfl) (by rfl) (by rfl)
    (fun s e => recFacts_of (Bool.and_eq_true_iff.mp e).2) (by rfl) (by assumption) (by decide +kernel)
    ⟨rfl, rfl, rfl, rfl, rfl, by decide +kernel⟩ ?hw ?hc
   (case hl =>
    intro w
    refine opt_two (HWa w) ?_
    delta openEnds fencedOpening topFrom
    rw [PySem.W.Fast.te14364793385576792824, PySem.W.Fast.te14082659384304107361, PySem.W.Fast.te10274390034422433532, PySem.W.Fast.te1435165496053646825, PySem.W.Fast.te14289696077712309145]
    kernel_rfl)))
set_option maxHeartbeats 0 in
open_top HWtop for PySem.Challenge.rw_paceplan_k16_whole_no_mixture_has_less
end HWs
abbrev Fg := PySem.W.Frag
abbrev PLs := List (PySem.Addr × PySem.Obj)
abbrev VSP := PySem.Value -> PySem.Shared -> Prop
theorem zl0 : 0 ≤ PySem.sizeLine := by decide
theorem zl1 : 1 ≤ PySem.sizeLine := by decide
theorem zl2 : 2 ≤ PySem.sizeLine := by decide
theorem zl4 : 4 ≤ PySem.sizeLine := by decide
theorem zl5 : 5 ≤ PySem.sizeLine := by decide
theorem zl7 : 7 ≤ PySem.sizeLine := by decide
theorem zl8 : 8 ≤ PySem.sizeLine := by decide
namespace L2
open PySem PySem.Spec PyProof.Rows
abbrev Key := Sum Int Str
def keyIs : Key -> Value -> Bool
 | .inl k, v => Value.isInt k v
 | .inr x, v => Value.isStrOf x v
def keyH (w : World) : Key -> Int
 | .inl k => hashInt k
 | .inr x => hashStr w x
theorem keyIs_shape : ∀ {k : Key} {v : Value}, keyIs k v = true -> (∃ i t, k = Sum.inl i /\ v = Value.int i t) ∨ (∃ x t, k = Sum.inr x /\ v = Value.str x t)
 | .inl i, v, h => by
  obtain ⟨t, e⟩ := Value.isInt_shape (k := i) (v := v) h
  exact .inl ⟨i, t, rfl, e⟩
 | .inr x, v, h => by
  obtain ⟨t, e⟩ := Value.isStrOf_shape (x := x) (v := v) h
  exact .inr ⟨x, t, rfl, e⟩
theorem keyIs_int (i : Int) (t : Tok) : keyIs (.inl i) (.int i t) = true := by simp [keyIs, Value.isInt]
theorem keyIs_str (x : Str) (t : Tok) : keyIs (.inr x) (.str x t) = true := by simp [keyIs, Value.isStrOf]
theorem key_ll (a b : Int) : decide ((Sum.inl a : Key) = Sum.inl b) = (a == b) := by
 by_cases e : a = b
 ·subst e; simp
 ·have h : ¬ (Sum.inl a : Key) = Sum.inl b := fun q => e (Sum.inl.inj q)
  rw [decide_eq_false h]
  exact (beq_eq_false_iff_ne.mpr e).symm
theorem key_rr (a b : Str) : decide ((Sum.inr a : Key) = Sum.inr b) = decide (a = b) := by
 by_cases e : a = b
 ·subst e; simp
 ·have h : ¬ (Sum.inr a : Key) = Sum.inr b := fun q => e (Sum.inr.inj q)
  rw [decide_eq_false h, decide_eq_false e]
theorem key_lr (a : Int) (b : Str) : decide ((Sum.inl a : Key) = Sum.inr b) = false := decide_eq_false (fun q => nomatch q)
theorem key_rl (a : Str) (b : Int) : decide ((Sum.inr a : Key) = Sum.inl b) = false := decide_eq_false (fun q => nomatch q)
def mixKind (prog : Program) (w : World) : PySem.KeyKind prog w Key where
 is := keyIs
 hash := keyH w
 inj := fun v a b ha hb => by
  rcases keyIs_shape ha with ⟨i, t, rfl, rfl⟩ | ⟨x, t, rfl, rfl⟩
  ·rcases keyIs_shape hb with ⟨j, u, rfl, e⟩ | ⟨y, u, rfl, e⟩
   ·injection e with e1 _; rw [e1]
   ·exact nomatch e
  ·rcases keyIs_shape hb with ⟨j, u, rfl, e⟩ | ⟨y, u, rfl, e⟩
   ·exact nomatch e
   ·injection e with e1 _; rw [e1]
 byValue := fun k v h => by
  rcases keyIs_shape h with ⟨i, t, rfl, rfl⟩ | ⟨x, t, rfl, rfl⟩ <;> rfl
 pyHash := fun hv h => by
  rcases keyIs_shape hv with ⟨i, t, rfl, rfl⟩ | ⟨x, t, rfl, rfl⟩
  ·exact wpAny_pyHash_int h
  ·exact wpAny_pyHash_str h
 eqBool := fun hu hv h => by
  rcases keyIs_shape hu with ⟨i, t, rfl, rfl⟩ | ⟨x, t, rfl, rfl⟩
  ·rcases keyIs_shape hv with ⟨j, u, rfl, rfl⟩ | ⟨y, u, rfl, rfl⟩
   ·rw [key_ll] at h; exact wpAny_eqBool_int h
   ·rw [key_lr] at h; exact SeqAt.EqAt.int_str i t y u _ _ _ _ h
  ·rcases keyIs_shape hv with ⟨j, u, rfl, rfl⟩ | ⟨y, u, rfl, rfl⟩
   ·rw [key_rl] at h; exact SeqAt.EqAt.str_int x t j u _ _ _ _ h
   ·rw [key_rr] at h; exact wpAny_eqBool_str h
 «strs» := fun k x t v h => by
  rcases keyIs_shape h with ⟨i, u, rfl, e⟩ | ⟨y, u, rfl, e⟩
  ·exact nomatch e
  ·injection e with e1 _
   subst e1
   cases v <;> rfl
theorem mixKind_int (prog : Program) (w : World) (i : Int) (t : Tok) : (mixKind prog w).is (.inl i) (.int i t) = true := keyIs_int i t
theorem mixKind_str (prog : Program) (w : World) (x : Str) (t : Tok) : (mixKind prog w).is (.inr x) (.str x t) = true := keyIs_str x t
end L2
namespace L2
open PySem PySem.Spec PyProof.Rows
inductive V where
 | non | bl (b : Bool) | int (i : Int) | str (x : Str) | byt (b : Array UInt8) | flt (b : UInt64) | ref (a : Addr) | ty (n : String)
 deriving DecidableEq
def RelV : V -> Value -> Prop
 | .non, u => u = Value.none
 | .bl b, u => u = Value.bool b
 | .int i, u => ∃ t, u = Value.int i t
 | .str x, u => ∃ t, u = Value.str x t
 | .byt b, u => ∃ t, u = Value.bytes b t
 | .flt b, u => ∃ t, u = Value.float b t
 | .ref a, u => u = Value.ref a
 | .ty n, u => u = Value.type n
abbrev Vals : List V -> List Value -> Prop := Paired RelV
theorem Vals.length {xs : List V} {us : List Value} (r : Vals xs us) : xs.length = us.length := Paired.length r
theorem Vals.get : ∀ {xs : List V} {us : List Value} {i : Nat} {x : V}, Vals xs us -> xs[i]? = some x -> ∃ u, us[i]? = some u /\ RelV x u
 | _, _, _, _, .nil, e => by simp at e
 | _, _, 0, _, .cons r _, e => by simp at e; subst e; exact ⟨_, rfl, r⟩
 | _, _, i + 1, x, .cons _ t, e => by
  obtain ⟨u, h1, h2⟩ := Vals.get (i := i) (x := x) t (by simpa using e)
  exact ⟨u, by simpa using h1, h2⟩
theorem Vals.set {x : V} {u : Value} (r : RelV x u) : ∀ {xs : List V} {us : List Value} (i : Nat), Vals xs us -> Vals (xs.set i x) (us.set i u)
 | _, _, _, .nil => .nil
 | _, _, 0, .cons _ t => .cons r t
 | _, _, i + 1, .cons q t => .cons q (Vals.set r i t)
theorem Vals.append : ∀ {xs ys : List V} {us ws : List Value}, Vals xs us -> Vals ys ws -> Vals (xs ++ ys) (us ++ ws)
 | _, _, _, _, .nil, s => s
 | _, _, _, _, .cons r t, s => .cons r (Vals.append t s)
theorem Vals.take : ∀ {xs : List V} {us : List Value} (n : Nat), Vals xs us -> Vals (xs.take n) (us.take n)
 | _, _, 0, _ => .nil
 | _, _, _ + 1, .nil => .nil
 | _, _, n + 1, .cons r t => .cons r (Vals.take n t)
theorem Vals.drop : ∀ {xs : List V} {us : List Value} (n : Nat), Vals xs us -> Vals (xs.drop n) (us.drop n)
 | _, _, 0, r => r
 | _, _, _ + 1, .nil => .nil
 | _, _, n + 1, .cons _ t => Vals.drop n t
def RelO : Option V -> Option Value -> Prop
 | some v, some u => RelV v u
 | none, none => True
 | _, _ => False
def KV {κ : Type} : List (κ × V) -> List (κ × Value) -> Prop := Paired fun (p : κ × V) (q : κ × Value) => p.1 = q.1 /\ RelV p.2 q.2
def kV : Key -> V
 | .inl i => .int i
 | .inr x => .str x
inductive HO where
 | lst (xs : List V)
 | tup (xs : List V)
 | dK (kvs : List (Key × V)) | dT (kvs : List (List Key × V))
 | set (S : Int -> Bool) (n : Nat)
 | ins (C dx : Addr) (fs : List (Str × V))
 | own (x : Addr)
 | xd (fs : List (Str × V))
 | met (f x : Addr)
 | rng (lo hi : Int)
 | frz (o : Obj) (u : HO)
 | tbl (ps : Array Value)
 | ext (φ : Heap -> Prop)
abbrev Hp := Addr -> Option HO
def upd (H : Hp) (a : Addr) (o : HO) : Hp := fun b => if b = a then some o else H b
theorem upd_same {H : Hp} {a : Addr} {o : HO} : upd H a o a = some o := by unfold upd; rw [if_pos rfl]
theorem upd_ne {H : Hp} {a b : Addr} {o : HO} (h : b ≠ a) : upd H a o b = H b := by unfold upd; rw [if_neg h]
theorem upd_upd {H : Hp} {a : Addr} {o u : HO} : upd (upd H a o) a u = upd H a u := by
 funext b; unfold upd; split <;> rfl
theorem ne_of {H : Hp} {a b : Addr} {o u : HO} (h : H a = some o) (h' : H b = some u) (d : o ≠ u) : a ≠ b := by
 intro e; subst e; rw [h] at h'; exact d (Option.some.inj h')
theorem ne_of_none {H : Hp} {a b : Addr} {o : HO} (h : H a = some o) (h' : H b = none) : a ≠ b := by
 intro e; subst e; rw [h] at h'; cases h'
section
variable (P : Program) (w : World)
def ObjOk (H : Hp) (h : Heap) (a : Addr) : HO -> Prop
 | .lst xs => xs.length ≤ sizeLine /\ ∃ (its : List Value) (n : Nat), Vals xs its /\ h.get? a = some { cls := .type "list", data := .seq its.toArray n }
 | .tup xs => xs.length ≤ sizeLine /\ ∃ its : List Value, Vals xs its /\ IsTup h a its.toArray
 | .dK kvs => kvs.length ≤ sizeLine /\ (a == sysModules) = false /\ ∃ vs, KV kvs vs /\ h.DictOf (mixKind P w) a vs
 | .dT kvs => kvs.length ≤ sizeLine /\ (a == sysModules) = false /\ ∃ xs : List (List Key × Addr × Value),
   Paired (fun (p : List Key × V) (q : List Key × Addr × Value) => p.1 = q.1 /\ H q.2.1 = some (.tup (p.1.map kV)) /\ RelV p.2 q.2.2) kvs xs ∧
   ∃ o es ep, h.get? a = some o /\ o.ExactDict /\ o.data = .dict es ep /\ es.toList = xs.map (entryOfKey (tupleKind (mixKind P w))) /\ (xs.map (·.1)).Nodup
 | .set S n => h.SetOf (intKind P w) a S n
 | .ins C dx fs => H dx = some (.own a) /\ fs.length ≤ 1000 /\ dx ≠ a /\ h.get? a = some (PySem.W.instObj C dx) ∧
   ∃ mA, h.Ns1 dx mA /\ (∀ f, RelO (fs.lookup f) (mA f)) /\ PySem.Within mA (fs.map (·.1))
 | .own _ => ∃ o, h.get? a = some o
 | .xd fs => ∃ mA, h.Ns1 a mA /\ ∀ f, RelO (fs.lookup f) (mA f)
 | .rng lo hi => ∃ t u v, h.get? a = some { cls := .type "range", data := .fields #[.int lo t, .int hi u, .int 1 v] }
 | .frz o u => h.get? a = some o /\ ObjOk H h a u
 | .tbl ps => h.get? a = some { cls := .none, data := .fields ps }
 | .met f x => h.get? a = some (PySem.W.methodObj (.ref f) (.ref x))
 | .ext φ => φ h /\ (∃ o, h.get? a = some o) /\ ∀ h1 h2 : Heap, φ h1 -> (∀ o, h1.get? a = some o -> h2.get? a = some o) -> φ h2
def HOk (H : Hp) (h : Heap) : Prop := ∀ a o, H a = some o -> ObjOk P w H h a o
end
section
variable {P : Program} {w : World} {H H' : Hp} {h h' : Heap} {a : Addr} {o : HO}
theorem ObjOk.lt (x : ObjOk P w H h a o) : a < h.objs.size := by
 cases o with
 | lst xs => obtain ⟨_, _, _, _, e⟩ := x; exact Heap.lt_size e
 | tup xs => obtain ⟨_, _, _, p⟩ := x; exact p.lt
 | dK kvs => obtain ⟨_, _, _, _, o, _, _, e, _⟩ := x; exact Heap.lt_size e
 | dT kvs => obtain ⟨_, _, _, _, o, _, _, e, _⟩ := x; exact Heap.lt_size e
 | set S n => obtain ⟨o, _, _, _, e, _⟩ := x; exact Heap.lt_size e
 | ins C dx fs => obtain ⟨_, _, _, e, _⟩ := x; exact Heap.lt_size e
 | own y => obtain ⟨_, e⟩ := x; exact Heap.lt_size e
 | xd fs => obtain ⟨_, ⟨_, _, _, e, _⟩, _⟩ := x; exact Heap.lt_size e
 | rng lo hi => obtain ⟨_, _, _, e⟩ := x; exact Heap.lt_size e
 | frz ob u => obtain ⟨e, _⟩ := x; exact Heap.lt_size e
 | tbl ps => exact Heap.lt_size (show h.get? a = some _ from x)
 | met f y => exact Heap.lt_size (show h.get? a = some _ from x)
 | ext φ => obtain ⟨_, ⟨_, e⟩, _⟩ := x; exact Heap.lt_size e
theorem Paired.mapP {α β : Type} {F G : α -> β -> Prop} : ∀ {l₁ : List α} {l₂ : List β}, Paired F l₁ l₂ -> (∀ a b, F a b -> G a b) -> Paired G l₁ l₂
 | _, _, .nil, _ => .nil
 | _, _, .cons r t, f => .cons (f _ _ r) (Paired.mapP t f)
theorem ObjOk.stay (x : ObjOk P w H h a o) (k : ∀ b u, (b = a ∨ H b = some (.own a)) -> h.get? b = some u -> h'.get? b = some u)
  (ho : ∀ b, H b = some (.own a) -> H' b = some (.own a)) (ht : ∀ b xs, H b = some (.tup xs) -> H' b = some (.tup xs)) : ObjOk P w H' h' a o := by
 induction o with
 | lst xs => obtain ⟨z, its, n, r, e⟩ := x; exact ⟨z, its, n, r, k _ _ (.inl rfl) e⟩
 | tup xs => obtain ⟨z, its, r, ob, e, c⟩ := x; exact ⟨z, its, r, ob, k _ _ (.inl rfl) e, c⟩
 | dK kvs => obtain ⟨z, y, vs, r, ob, es, ep, e, c⟩ := x; exact ⟨z, y, vs, r, ob, es, ep, k _ _ (.inl rfl) e, c⟩
 | dT kvs =>
  obtain ⟨z, y, xs, r, ob, es, ep, e, c⟩ := x
  exact ⟨z, y, xs, Paired.mapP r fun p q z => ⟨z.1, ht _ _ z.2.1, z.2.2⟩, ob, es, ep, k _ _ (.inl rfl) e, c⟩
 | set S n => obtain ⟨ob, es, ep, t, e, c⟩ := x; exact ⟨ob, es, ep, t, k _ _ (.inl rfl) e, c⟩
 | ins C dx fs =>
  obtain ⟨d, z, ne, e, mA, ⟨od, es, ep, e2, c⟩, r⟩ := x
  exact ⟨ho _ d, z, ne, k _ _ (.inl rfl) e, mA, ⟨od, es, ep, k _ _ (.inr d) e2, c⟩, r⟩
 | own y => obtain ⟨ob, e⟩ := x; exact ⟨ob, k _ _ (.inl rfl) e⟩
 | xd fs => obtain ⟨mA, ⟨od, es, ep, e, c⟩, r⟩ := x; exact ⟨mA, ⟨od, es, ep, k _ _ (.inl rfl) e, c⟩, r⟩
 | rng lo hi => obtain ⟨t, u, v, e⟩ := x; exact ⟨t, u, v, k _ _ (.inl rfl) e⟩
 | frz ob u ih => obtain ⟨e, q⟩ := x; exact ⟨k _ _ (.inl rfl) e, ih q⟩
 | tbl ps =>
  have e : h.get? a = some { cls := .none, data := .fields ps } := x
  show h'.get? a = some { cls := .none, data := .fields ps }
  exact k a _ (.inl rfl) e
 | met f y =>
  have e : h.get? a = some (PySem.W.methodObj (.ref f) (.ref y)) := x
  show h'.get? a = some (PySem.W.methodObj (.ref f) (.ref y))
  exact k a _ (.inl rfl) e
 | ext φ => obtain ⟨p, ⟨o, e⟩, st⟩ := x; exact ⟨st _ _ p fun o q => k _ _ (.inl rfl) q, ⟨o, k _ _ (.inl rfl) e⟩, st⟩
theorem HOk.lt (x : HOk P w H h) (e : H a = some o) : a < h.objs.size := (x a o e).lt
theorem HOk.fresh (x : HOk P w H h) (e : h.objs.size ≤ a) : H a = none := by
 cases q : H a with
 | none => rfl
 | some u => exact absurd (Nat.lt_of_lt_of_le (x.lt q) e) (Nat.lt_irrefl _)
theorem HOk.kept (x : HOk P w H h) (k : ∀ b u, h.get? b = some u -> h'.get? b = some u) : HOk P w H h' := fun a o e =>
 (x a o e).stay (fun b u _ q => k b u q) (fun _ q => q) fun _ _ q => q
theorem HOk.laid (x : HOk P w H h) (k : ∀ b u, h.get? b = some u -> h'.get? b = some u) (hp : h.objs.size ≤ a) (new : ObjOk P w (upd H a o) h' a o) : HOk P w (upd H a o) h' := fun b u e => by
 have hn := x.fresh hp
 by_cases hb : b = a
 ·subst hb; rw [upd_same] at e; cases e; exact new
 ·rw [upd_ne hb] at e
  exact (x b u e).stay (fun c v _ q => k c v q) (fun c q => by rw [upd_ne (ne_of_none q hn)]; exact q) fun c xs q => by rw [upd_ne (ne_of_none q hn)]; exact q
end
def Rd (H : Hp) (a : Addr) (u : HO) : Prop := H a = some u ∨ ∃ o, H a = some (.frz o u)
theorem Rd.ok {P : Program} {w : World} {H : Hp} {h : Heap} {a : Addr} {u : HO} (r : Rd H a u) (x : HOk P w H h) : ObjOk P w H h a u := by
 rcases r with r | ⟨o, r⟩
 ·exact x a u r
 ·obtain ⟨_, q⟩ := x a _ r
  exact q
def Mut : Option HO -> Prop
 | some (.lst _) => True
 | some (.dK _) => True
 | some (.dT _) => True
 | some (.set _ _) => True
 | some (.ins _ _ _) => True
 | some (.ext _) => True
 | _ => False
section
variable {P : Program} {w : World} {H : Hp} {h h' : Heap} {x e : Addr} {o' : HO}
theorem HOk.write (ok : HOk P w H h) (mu : Mut (H x)) (he : e = x ∨ H e = some (.own x)) (k : ∀ b u, b ≠ e -> h.get? b = some u -> h'.get? b = some u) (heo : ∃ u, h'.get? e = some u)
  (new : ObjOk P w (upd H x o') h' x o') : HOk P w (upd H x o') h' := fun b u q => by
 have nown : ∀ c y, H c = some (.own y) -> c ≠ x := fun c y r z => by subst z; rw [r] at mu; exact mu
 have ntup : ∀ c xs, H c = some (.tup xs) -> c ≠ x := fun c xs r z => by subst z; rw [r] at mu; exact mu
 by_cases hb : b = x
 ·subst hb; rw [upd_same] at q; cases q; exact new
 ·rw [upd_ne hb] at q
  by_cases hbe : b = e
  ·have q' : H b = some (.own x) := by
    rcases he with z | z
    ·exact absurd (hbe.trans z) hb
    ·rw [hbe]; exact z
   rw [q] at q'; cases q'
   obtain ⟨v, hv⟩ := heo
   exact ⟨v, by rw [hbe]; exact hv⟩
  ·refine (ok b u q).stay (fun c v hc r => k c v ?_ r) (fun c r => by rw [upd_ne (nown c b r)]; exact r) fun c xs r => by rw [upd_ne (ntup c xs r)]; exact r
   rcases hc with rfl | hc
   ·exact hbe
   ·rintro rfl
    rcases he with z | z
    ·exact nown c b hc z
    ·rw [hc] at z; cases z; exact hb rfl
end
structure Un (fs ex : List Addr) (H H' : Hp) (h h' : Heap) : Prop where
 keep : ∀ b o, h.get? b = some o -> H b = none -> b ∉ fs -> b ∉ ex -> h'.get? b = some o
 slot : ∀ b o, h.get? b = some o -> H b = none -> b ∈ fs -> b ∉ ex -> ∃ sl, h'.get? b = some { o with slots := sl }
 free : ∀ b o, h.get? b = some o -> H b = none -> b ∉ ex -> H' b = none
 there : ∀ b o, h.get? b = some o -> b ∉ ex -> ∃ o', h'.get? b = some o'
 tups : ∀ b xs, H b = some (.tup xs) -> H' b = some (.tup xs)
 frzs : ∀ b o u, H b = some (.frz o u) -> H' b = some (.frz o u)
 tbls : ∀ b ps, H b = some (.tbl ps) -> ∃ more, H' b = some (.tbl (ps ++ more))
section
variable {fs fs' ex ex' : List Addr} {H H1 H2 : Hp} {h h1 h2 h' : Heap} {a x e : Addr} {o : HO}
theorem Un.any (u : Un fs ex H H1 h h1) {b : Addr} {ob : Obj} (q : h.get? b = some ob) (n : H b = none) (hx : b ∉ ex) : ∃ sl, h1.get? b = some { ob with slots := sl } := by
 by_cases hb : b ∈ fs
 ·exact u.slot b ob q n hb hx
 ·exact ⟨ob.slots, u.keep b ob q n hb hx⟩
theorem Un.kept (k : ∀ b u, h.get? b = some u -> h'.get? b = some u) : Un fs ex H H h h' :=
 ⟨fun b ob q _ _ _ => k b ob q, fun b ob q _ _ _ => ⟨ob.slots, k b ob q⟩, fun _ _ _ n _ => n, fun b ob q _ => ⟨ob, k b ob q⟩, fun _ _ q => q, fun _ _ _ q => q, fun _ ps q => ⟨#[], by rw [q]; simp⟩⟩
theorem Un.refl : Un fs ex H H h h := Un.kept fun _ _ q => q
theorem Un.laid (k : ∀ b u, h.get? b = some u -> h'.get? b = some u) (hp : h.objs.size ≤ a) (hn : H a = none) : Un fs ex H (upd H a o) h h' where
 keep := fun b u q _ _ _ => k b u q
 slot := fun b u q _ _ _ => ⟨u.slots, k b u q⟩
 free := fun b u q n _ => by rw [upd_ne (Nat.ne_of_lt (Nat.lt_of_lt_of_le (Heap.lt_size q) hp))]; exact n
 there := fun b u q _ => ⟨u, k b u q⟩
 tups := fun b xs q => by rw [upd_ne (ne_of_none q hn)]; exact q
 frzs := fun b u xs q => by rw [upd_ne (ne_of_none q hn)]; exact q
 tbls := fun b ps q => ⟨#[], by rw [upd_ne (ne_of_none q hn), q]; simp⟩
theorem Un.write (mu : Mut (H x)) (he : e = x ∨ H e = some (.own x)) (k : ∀ b u, b ≠ e -> h.get? b = some u -> h'.get? b = some u) (heo : ∃ u, h'.get? e = some u) : Un fs ex H (upd H x o) h h' := by
 have hx : ∀ b, H b = none -> b ≠ x := fun b n z => by subst z; rw [n] at mu; exact mu
 have hb : ∀ b, H b = none -> b ≠ e := fun b n z => by
  subst z
  rcases he with r | r
  ·exact hx b n r
  ·rw [n] at r; cases r
 have hm : ∀ b u, H b = some u -> ¬ Mut (some u) -> b ≠ x := fun b u q nm z => by subst z; rw [q] at mu; exact nm mu
 refine ⟨fun b u q n _ _ => k b u (hb b n) q, fun b u q n _ _ => ⟨u.slots, k b u (hb b n) q⟩, fun b u q n _ => by rw [upd_ne (hx b n)]; exact n, fun b u q _ => ?_,
  fun b xs q => by rw [upd_ne (hm b _ q fun z => z)]; exact q, fun b u xs q => by rw [upd_ne (hm b _ q fun z => z)]; exact q, fun b ps q => ⟨#[], by rw [upd_ne (hm b _ q fun z => z), q]; simp⟩⟩
 by_cases hbe : b = e
 ·subst hbe; exact heo
 ·exact ⟨u, k b u hbe q⟩
end
def trk (h : Heap) (H : Hp) : List Addr := (List.range h.objs.size).filter fun a => (H a).isSome
def hidT (h : Heap) (H : Hp) : Heap := PySem.W.hideAll h (trk h H)
theorem hidT_size (h : Heap) (H : Hp) : (hidT h H).objs.size = h.objs.size := PySem.W.hideAll_size _ _
theorem hidT_get {h : Heap} {H : Hp} {b : Addr} {o : Obj} (e : h.get? b = some o) (n : H b = none) : (hidT h H).get? b = some o :=
 PySem.W.hideAll_get _ e fun hm => by
  have q : (H b).isSome = true := (List.mem_filter.mp hm).2
  rw [n] at q; simp at q
theorem of_hidT {h : Heap} {H : Hp} {b : Addr} {o : Obj} (e : (hidT h H).get? b = some o) : h.get? b = some o /\ H b = none := by
 have e' : h.get? b = some o := PySem.W.of_hideAll (trk h H) e
 refine ⟨e', ?_⟩
 cases q : H b with
 | none => rfl
 | some x =>
  have hm : b ∈ trk h H := List.mem_filter.mpr ⟨List.mem_range.mpr (Heap.lt_size e'), by simp [q]⟩
  have z : (hidT h H).get? b = none := PySem.W.hideAll_none (trk h H) hm
  rw [z] at e; cases e
def allNews (g h : Heap) (L : Addr) : PLs := (List.range h.objs.size).filterMap fun a => if a = L ∨ (g.get? a).isSome = true then none else (h.get? a).map fun o => (a, o)
def rest (g h : Heap) (L d : Addr) : PLs := (allNews g h L).filter fun p => decide (p.1 ≠ d)
end L2
namespace L2
open PySem PySem.Spec PyProof.Rows
structure Mod (K : Fg) (mg : Str -> Option Value) (base : Heap) : Prop where
 kin : K.In base
 glob : base.Ns mainGlobals mg
 blt : ∃ mb, base.Ns builtinsNs mb /\ ∀ x : Str, x ≠ "__name__" -> mb x = bootBuiltins x
 nolimit : base.NoLimit
structure Cx where
 prog : Program
 w : World
 K : Fg
 mg : Str -> Option Value
 base : Heap
 A : Around
 N : List Str
 s₀ : Shared
 H₀ : Hp
 env : Env
 outer : List Env
 stack : List Env
 ex : List Addr
 fn : Str -> Bool
 calm : Bool
 pn : PLs
 xe : VSP
def frs (l : List Env) : List Addr := l.filterMap (·.frame)
abbrev Cx.fs (X : Cx) : List Addr := frs X.outer
def Vis (sc : Scope) (x : Str) : Prop := sc.names.lookup x = some .local ∨ sc.names.lookup x = some .cell ∨ sc.names.lookup x = some .free
def Loc (sc : Scope) (x : Str) : Prop := sc.names.lookup x = some .local ∨ sc.names.lookup x = some .cell
def Look (env : Env) (h : Heap) (m : Str -> Option Value) (x : Str) (u : Value) : Prop :=
 (env.kindOf x = some .local /\ m x = some u) ∨ ((env.kindOf x = some .cell ∨ env.kindOf x = some .free) /\ ∃ c, env.cells.lookup x = some c /\ h.IsCell c (some u))
structure Cx.Ok (X : Cx) : Prop where
 mod : Mod X.K X.mg X.base
 kind : X.env.scope.kind = .function
 glob : X.env.globals = mainGlobals
 blt : X.env.builtins = builtinsNs
 above : X.s₀.heap.objs.size ≤ X.env.locals
 inj : ∀ x y c, X.env.cells.lookup x = some c -> X.env.cells.lookup y = some c -> x = y
 has : ∀ x, (X.env.kindOf x = some .cell ∨ X.env.kindOf x = some .free) -> ∃ c, X.env.cells.lookup x = some c
 cab : ∀ x c, X.fn x = true -> X.env.cells.lookup x = some c -> X.s₀.heap.objs.size ≤ c
 hd : X.calm = true -> X.A.handled = none
 frames : X.A.frames = some X.stack
 stk : X.stack = X.outer ∨ (X.stack = X.env :: X.outer /\ X.env.frame = some X.env.locals)
 exf : ∀ b ∈ X.ex, b ≠ X.env.locals /\ ∀ x c, X.env.cells.lookup x = some c -> c ≠ b
 bs : ∀ b o, X.base.get? b = some o -> X.s₀.heap.get? b = some o /\ X.H₀ b = none
 bsz : X.base.objs.size ≤ X.s₀.heap.objs.size
 noex : ∀ b o, X.base.get? b = some o -> b ∉ X.ex
 exfs : ∀ b ∈ X.ex, b ∉ X.fs
 funs : X.s₀.heap.FunFrames X.base X.outer
 frf : ∀ b ∈ X.fs, X.H₀ b = none
structure Inv (X : Cx) (pins : PLs) (σ : List (Option V)) (H : Hp) (s : Shared) : Prop where
 ok : X.Ok
 os : s.os = X.s₀.os
 bare : AllBare s.gens
 base : Un X.fs X.ex X.H₀ H X.s₀.heap s.heap
 loc : ∃ m, s.heap.Ns X.env.locals m /\ ∀ (i : Nat) (x : Str) (v : V), X.N[i]? = some x -> σ[i]? = some (some v) -> Vis X.env.scope x -> ∃ u, RelV v u /\ Look X.env s.heap m x u
 cell : ∀ x c, X.env.cells.lookup x = some c -> ∃ v, s.heap.IsCell c v
 free : H X.env.locals = none
 freeC : ∀ x c, X.env.cells.lookup x = some c -> H c = none
 pin : ∀ p ∈ X.pn ++ pins, s.heap.get? p.1 = some p.2 /\ H p.1 = none /\ p.1 ≠ X.env.locals /\ p.1 ∉ X.fs /\ ∀ v, p.2.data ≠ .cell v
 hok : HOk X.prog X.w H s.heap
 len : σ.length = X.N.length
section
variable {X : Cx} {pins : PLs} {σ : List (Option V)} {H H' : Hp} {s : Shared} {h' : Heap}
theorem Cx.Ok.nofr (ok : X.Ok) {b : Addr} {o : Obj} (e : X.base.get? b = some o) : b ∉ X.fs := fun hb => by
 have := (ok.funs.mem hb).1
 rw [e] at this; cases this
theorem Inv.bs (I : Inv X pins σ H s) : ∀ b o, X.base.get? b = some o -> s.heap.get? b = some o /\ H b = none := fun b o e =>
 ⟨I.base.keep b o (I.ok.bs b o e).1 (I.ok.bs b o e).2 (I.ok.nofr e) (I.ok.noex b o e), I.base.free b o (I.ok.bs b o e).1 (I.ok.bs b o e).2 (I.ok.noex b o e)⟩
theorem Inv.bk (I : Inv X pins σ H s) : ∀ b o, X.base.get? b = some o -> s.heap.get? b = some o := fun b o e => (I.bs b o e).1
theorem Inv.mod (I : Inv X pins σ H s) : Mod X.K X.mg X.base := I.ok.mod
theorem Inv.kIn (I : Inv X pins σ H s) : X.K.In s.heap := I.ok.mod.kin.keeps I.bk
theorem Inv.lt (I : Inv X pins σ H s) : X.env.locals < s.heap.objs.size := let ⟨_, hn, _⟩ := I.loc; hn.lt
theorem Inv.sz (I : Inv X pins σ H s) : X.s₀.heap.objs.size ≤ s.heap.objs.size := Nat.le_trans I.ok.above (Nat.le_of_lt I.lt)
theorem Inv.nofs (I : Inv X pins σ H s) {a : Addr} (h : s.heap.objs.size ≤ a) : a ∉ X.fs := fun hb => by
 obtain ⟨_, o, ho, _⟩ := I.ok.funs.mem hb
 exact absurd (Nat.lt_of_lt_of_le (Heap.lt_size ho) (Nat.le_trans I.sz h)) (Nat.lt_irrefl _)
theorem Inv.cne (I : Inv X pins σ H s) : ∀ x c, X.env.cells.lookup x = some c -> c ≠ X.env.locals := fun x c e z => by
 obtain ⟨v, o, ho, hd⟩ := I.cell x c e
 obtain ⟨m, ⟨o', es, ep, ho', hd', _⟩, _⟩ := I.loc
 rw [z, ho'] at ho; cases ho; rw [hd'] at hd; cases hd
theorem Inv.funs (I : Inv X pins σ H s) : s.heap.FunFrames X.base X.outer := by
 have all : ∀ (l : List Env), (∀ b ∈ frs l, b ∈ X.fs) -> X.s₀.heap.FunFrames X.base l -> s.heap.FunFrames X.base l := by
  intro l
  induction l with
  | nil => intro _ _; trivial
  | cons env r ih =>
   intro hs hl
   obtain ⟨hk, ⟨L, o, hf, hn, ho, hd⟩, hr⟩ := hl
   have hL : L ∈ X.fs := hs L (by unfold frs; rw [List.filterMap_cons, hf]; exact List.mem_cons_self)
   obtain ⟨sl, e⟩ := I.base.slot L o ho (I.ok.frf L hL) hL fun z => I.ok.exfs L z hL
   exact ⟨hk, ⟨L, _, hf, hn, e, hd⟩, ih (fun b hb => hs b (by unfold frs; rw [List.filterMap_cons, hf]; exact List.mem_cons_of_mem _ hb)) hr⟩
 exact all X.outer (fun _ hb => hb) I.ok.funs
theorem Inv.stack (I : Inv X pins σ H s) : s.heap.FunFrames X.base X.stack := by
 rcases I.ok.stk with e | ⟨e, hf⟩
 ·rw [e]; exact I.funs
 ·rw [e]
  obtain ⟨m, hn, _⟩ := I.loc
  refine .cons (by rw [I.ok.kind]; decide) hf hn ?_ I.funs
  exact Heap.get?_none_of_le (Nat.le_trans I.ok.bsz I.ok.above)
theorem Inv.stkSub (I : Inv X pins σ H s) : ∀ b ∈ frs X.stack, b ∈ X.env.locals :: X.fs := fun b hb => by
 rcases I.ok.stk with e | ⟨e, hf⟩
 ·rw [e] at hb; exact List.mem_cons_of_mem _ hb
 ·rw [e] at hb
  unfold frs at hb
  rw [List.filterMap_cons, hf] at hb
  exact hb
theorem Inv.stkFree (I : Inv X pins σ H s) : ∀ b ∈ frs X.stack, H b = none := fun b hb => by
 rcases List.mem_cons.mp (I.stkSub b hb) with e | hb
 ·rw [e]; exact I.free
 ·obtain ⟨_, o, ho, _⟩ := I.ok.funs.mem hb
  exact I.base.free b o ho (I.ok.frf b hb) fun z => I.ok.exfs b z hb
theorem Inv.step {g' : Array GenState} {t' : Nat} {d' : Drawn} {ch : List Addr} (I : Inv X pins σ H s)
  (hch : ∀ b ∈ ch, (b ∈ X.ex ∨ X.s₀.heap.get? b = none) /\ b ≠ X.env.locals /\ (∀ x c, X.env.cells.lookup x = some c -> c ≠ b) /\ ∀ p ∈ X.pn ++ pins, p.1 ≠ b)
  (keep : ∀ b o, b ≠ X.env.locals -> b ∉ X.fs -> b ∉ ch -> s.heap.get? b = some o -> H b = none -> h'.get? b = some o)
  (slot : ∀ b o, b ≠ X.env.locals -> b ∈ X.fs -> b ∉ ch -> s.heap.get? b = some o -> H b = none -> ∃ sl, h'.get? b = some { o with slots := sl }) (free : ∀ b o, b ∉ ch -> s.heap.get? b = some o -> H b = none -> H' b = none)
  (there : ∀ b o, b ∉ ch -> s.heap.get? b = some o -> ∃ o', h'.get? b = some o')
  (tups : ∀ b xs, H b = some (.tup xs) -> H' b = some (.tup xs)) (frzs : ∀ b o u, H b = some (.frz o u) -> H' b = some (.frz o u)) (tbls : ∀ b ps, H b = some (.tbl ps) -> ∃ more, H' b = some (.tbl (ps ++ more)))
  (ns : ∀ m, s.heap.Ns X.env.locals m -> h'.Ns X.env.locals m) (hok : HOk X.prog X.w H' h') (hg : AllBare g') :
  Inv X pins σ H' { s with heap := h', gens := g', drawn := d', toks := t' } := by
 have neL : ∀ b o, X.s₀.heap.get? b = some o -> b ≠ X.env.locals := fun b o e => Nat.ne_of_lt (Nat.lt_of_lt_of_le (Heap.lt_size e) I.ok.above)
 have neC : ∀ b o, X.s₀.heap.get? b = some o -> b ∉ X.ex -> b ∉ ch := fun b o e hx hb => by
  rcases (hch b hb).1 with z | z
  ·exact hx z
  ·rw [e] at z; cases z
 have cellK : ∀ x c, X.env.cells.lookup x = some c -> ∀ v, s.heap.IsCell c v -> h'.IsCell c v := fun x c e v ⟨o, ho, hd⟩ => by
  have nch : c ∉ ch := fun z => (hch c z).2.2.1 x c e rfl
  by_cases hc : c ∈ X.fs
  ·obtain ⟨sl, q⟩ := slot c o (I.cne x c e) hc nch ho (I.freeC x c e)
   exact ⟨_, q, hd⟩
  ·exact ⟨o, keep c o (I.cne x c e) hc nch ho (I.freeC x c e), hd⟩
 refine ⟨I.ok, I.os, hg, ⟨fun b o e n hb hx => ?_, fun b o e n hb hx => ?_, fun b o e n hx => ?_, fun b o e hx => ?_, fun b xs e => tups b xs (I.base.tups b xs e), fun b o xs e => frzs b o xs (I.base.frzs b o xs e), fun b ps e => ?_⟩, ?_, fun x c e => ?_, ?_, fun x c e => ?_, fun p hp => ?_, hok, I.len⟩
 ·exact keep b o (neL b o e) hb (neC b o e hx) (I.base.keep b o e n hb hx) (I.base.free b o e n hx)
 ·obtain ⟨sl, e1⟩ := I.base.slot b o e n hb hx
  obtain ⟨sl', e2⟩ := slot b _ (neL b o e) hb (neC b o e hx) e1 (I.base.free b o e n hx)
  exact ⟨sl', e2⟩
 ·obtain ⟨o', e1⟩ := I.base.there b o e hx
  exact free b o' (neC b o e hx) e1 (I.base.free b o e n hx)
 ·obtain ⟨o', e1⟩ := I.base.there b o e hx
  exact there b o' (neC b o e hx) e1
 ·obtain ⟨m1, e1⟩ := I.base.tbls b ps e
  obtain ⟨m2, e2⟩ := tbls b _ e1
  exact ⟨m1 ++ m2, by rw [e2, Array.append_assoc]⟩
 ·obtain ⟨m, hn, hl⟩ := I.loc
  refine ⟨m, ns m hn, fun i x v e1 e2 e3 => ?_⟩
  obtain ⟨u, r, l⟩ := hl i x v e1 e2 e3
  refine ⟨u, r, ?_⟩
  rcases l with l | ⟨k, c, e, z⟩
  ·exact .inl l
  ·exact .inr ⟨k, c, e, cellK x c e _ z⟩
 ·obtain ⟨v, z⟩ := I.cell x c e
  exact ⟨v, cellK x c e v z⟩
 ·obtain ⟨m, ⟨o, _, _, ho, _⟩, _⟩ := I.loc
  exact free _ o (fun z => (hch _ z).2.1 rfl) ho I.free
 ·obtain ⟨v, o, ho, hd⟩ := I.cell x c e
  exact free c o (fun z => (hch c z).2.2.1 x c e rfl) ho (I.freeC x c e)
 ·obtain ⟨e, n, ne, nf, d⟩ := I.pin p hp
  have nch : p.1 ∉ ch := fun z => (hch p.1 z).2.2.2 p hp rfl
  exact ⟨keep p.1 p.2 ne nf nch e n, free p.1 p.2 nch e n, ne, nf, d⟩
theorem Inv.un {t' : Nat} (I : Inv X pins σ H s) (u : Un X.fs [] H H' s.heap h') (hok : HOk X.prog X.w H' h') : Inv X pins σ H' { s with heap := h', toks := t' } := by
 obtain ⟨m, ⟨o, es, ep, ho, r⟩, _⟩ := id I.loc
 obtain ⟨sl, hL⟩ := u.any ho I.free (by simp)
 exact I.step (g' := s.gens) (d' := s.drawn) (ch := []) (fun _ z => nomatch z) (fun b o _ hb _ e n => u.keep b o e n hb (by simp)) (fun b o _ hb _ e n => u.slot b o e n hb (by simp)) (fun b o _ e n => u.free b o e n (by simp)) (fun b o _ e => u.there b o e (by simp)) u.tups u.frzs u.tbls (fun m' hm => by
  obtain ⟨o', es', ep', ho', r'⟩ := hm
  rw [ho] at ho'; cases ho'
  exact ⟨_, es', ep', hL, r'⟩) hok I.bare
theorem Inv.call {g' : Array GenState} {t' : Nat} {d' : Drawn} {ch : List Addr} (I : Inv X pins σ H s) (u : Un (frs X.stack) ch H H' s.heap h') (hok : HOk X.prog X.w H' h') (hg : AllBare g')
  (hch : ∀ b ∈ ch, (b ∈ X.ex ∨ X.s₀.heap.get? b = none) /\ b ≠ X.env.locals /\ (∀ x c, X.env.cells.lookup x = some c -> c ≠ b) /\ ∀ p ∈ X.pn ++ pins, p.1 ≠ b) :
  Inv X pins σ H' { s with heap := h', gens := g', drawn := d', toks := t' } := by
 obtain ⟨m, ⟨o, es, ep, ho, r⟩, _⟩ := id I.loc
 obtain ⟨sl, hL⟩ := u.any ho I.free fun z => (hch _ z).2.1 rfl
 exact I.step (ch := ch) hch (fun b o hL hb hc e n => u.keep b o e n (fun z => (List.mem_cons.mp (I.stkSub b z)).elim hL hb) hc) (fun b o _ _ hc e n => u.any e n hc) (fun b o hc e n => u.free b o e n hc) (fun b o hc e => u.there b o e hc) u.tups u.frzs u.tbls (fun m' hm => by
  obtain ⟨o', es', ep', ho', r'⟩ := hm
  rw [ho] at ho'; cases ho'
  exact ⟨_, es', ep', hL, r'⟩) hok hg
theorem Inv.turned {t' : Nat} {it : Addr} (I : Inv X pins σ H s) (k : ∀ b o, b ≠ it -> s.heap.get? b = some o -> h'.get? b = some o) (hn : H it = none) (hL : it ≠ X.env.locals)
  (h1 : it ∈ X.ex ∨ X.s₀.heap.get? it = none) (h2 : ∀ x c, X.env.cells.lookup x = some c -> c ≠ it) (h3 : ∀ p ∈ X.pn ++ pins, p.1 ≠ it) : Inv X pins σ H { s with heap := h', toks := t' } := by
 have nit : ∀ b u, H b = some u -> b ≠ it := fun b u e z => by rw [z, hn] at e; cases e
 refine I.step (g' := s.gens) (d' := s.drawn) (ch := [it]) (fun b hb => ?_) (fun b o _ _ hc e _ => k b o (fun z => hc (by simp [z])) e) (fun b o _ _ hc e _ => ⟨o.slots, k b o (fun z => hc (by simp [z])) e⟩) (fun _ _ _ _ n => n)
  (fun b o hc e => ⟨o, k b o (fun z => hc (by simp [z])) e⟩) (fun _ _ e => e) (fun _ _ _ e => e) (fun b ps e => ⟨#[], by rw [e]; simp⟩) (fun m hm => ?_) (fun b u e => ?_) I.bare
 ·have e : b = it := by simpa using hb
  subst e
  exact ⟨h1, hL, h2, h3⟩
 ·obtain ⟨o, es, ep, ho, r⟩ := hm
  exact ⟨o, es, ep, k _ o (Ne.symm hL) ho, r⟩
 ·refine (I.hok b u e).stay (fun c v hc q => k c v ?_ q) (fun _ q => q) fun _ _ q => q
  rcases hc with z | z
  ·rw [z]; exact nit b u e
  ·exact nit c _ z
theorem Inv.tok (I : Inv X pins σ H s) (t : Nat) : Inv X pins σ H { s with toks := t } := I.un (h' := s.heap) (t' := t) Un.refl I.hok
theorem Inv.kept {t' : Nat} (I : Inv X pins σ H s) (k : ∀ b u, s.heap.get? b = some u -> h'.get? b = some u) : Inv X pins σ H { s with heap := h', toks := t' } := I.un (Un.kept k) (I.hok.kept k)
theorem Inv.laid {a : Addr} {o : HO} {t' : Nat} (I : Inv X pins σ H s) (k : ∀ b u, s.heap.get? b = some u -> h'.get? b = some u) (hp : s.heap.objs.size ≤ a) (new : ObjOk X.prog X.w (upd H a o) h' a o) :
  Inv X pins σ (upd H a o) { s with heap := h', toks := t' } := I.un (Un.laid k hp (I.hok.fresh hp)) (I.hok.laid k hp new)
theorem Inv.write {x e : Addr} {o : HO} {t' : Nat} (I : Inv X pins σ H s) (mu : Mut (H x)) (he : e = x ∨ H e = some (.own x)) (k : ∀ b u, b ≠ e -> s.heap.get? b = some u -> h'.get? b = some u) (heo : ∃ u, h'.get? e = some u)
  (new : ObjOk X.prog X.w (upd H x o) h' x o) : Inv X pins σ (upd H x o) { s with heap := h', toks := t' } := I.un (Un.write mu he k heo) (I.hok.write mu he k heo new)
theorem Inv.weak {σ' : List (Option V)} (I : Inv X pins σ H s) (hl : σ'.length = σ.length) (w : ∀ (i : Nat) v, σ'[i]? = some (some v) -> σ[i]? = some (some v)) : Inv X pins σ' H s :=
 ⟨I.ok, I.os, I.bare, I.base, let ⟨m, hn, hl'⟩ := I.loc; ⟨m, hn, fun i x v e1 e2 e3 => hl' i x v e1 (w i v e2) e3⟩, I.cell, I.free, I.freeC, I.pin, I.hok, hl.trans I.len⟩
theorem Inv.pins_of {pins' : PLs} (I : Inv X pins σ H s) (h : ∀ p ∈ pins', s.heap.get? p.1 = some p.2 /\ H p.1 = none /\ p.1 ≠ X.env.locals /\ p.1 ∉ X.fs /\ ∀ v, p.2.data ≠ .cell v) : Inv X pins' σ H s :=
 ⟨I.ok, I.os, I.bare, I.base, I.loc, I.cell, I.free, I.freeC, fun p hp => (List.mem_append.mp hp).elim (fun z => I.pin p (List.mem_append_left _ z)) (h p), I.hok, I.len⟩
theorem nodup_ix {N : List Str} (hN : N.Nodup) {i j : Nat} {x : Str} (a : N[i]? = some x) (b : N[j]? = some x) : i = j := by
 obtain ⟨h1, e1⟩ := List.getElem?_eq_some_iff.mp a
 obtain ⟨h2, e2⟩ := List.getElem?_eq_some_iff.mp b
 exact (List.getElem_inj hN).mp (e1.trans e2.symm)
theorem store_ok2 {M : Model} {A : Around} {E : VSP} {i : Nat} {x : Str} {v : V} {u : Value} {Q : Unit -> Shared -> Prop} (I : Inv X pins σ H s) (hN : X.N.Nodup) (hi : X.N[i]? = some x) (hx : Loc X.env.scope x) (r : RelV v u)
  (h : ∀ s', Inv X pins (σ.set i (some v)) H s' -> (∃ a, Heap.SameBut a s.heap s'.heap /\ (a = X.env.locals ∨ X.env.cells.lookup x = some a)) -> Q () s') (hf : X.fn x = true ∨ X.env.scope.names.lookup x = some .local := by first | exact .inl rfl | exact .inr rfl | assumption) : wpAny M A (storeName X.env x u) Q E s := by
 obtain ⟨m, hn, hl⟩ := id I.loc
 have hcls : (X.env.scope.kind == .class || (X.env.scope.kind == .module && X.env.locals != X.env.globals)) = false := by rw [I.ok.kind]; rfl
 have hiσ : i < σ.length := by rw [I.len]; exact (List.getElem?_eq_some_iff.mp hi).1
 have cne := I.cne
 have tracked : ∀ {a : Addr} {h' : Heap}, (∃ o, s.heap.get? a = some o /\ H a = none) -> Heap.SameBut a s.heap h' -> HOk X.prog X.w H h' := fun {a h'} ha hs b ob e => by
  obtain ⟨_, _, hfree⟩ := ha
  refine (I.hok b ob e).stay (fun c w' hc q => (hs.2 c ?_).trans q) (fun _ q => q) fun _ _ q => q
  rintro rfl
  rcases hc with rfl | hc
  ·rw [hfree] at e; cases e
  ·rw [hfree] at hc; cases hc
 rcases hx with hk | hk
 ·refine wpAny_storeName_local hk hn (fun h' hn' hs => ?_) hcls
  obtain ⟨oL, _, _, hoL, _⟩ := id hn
  refine h _ ⟨I.ok, I.os, I.bare, ⟨fun b o e n hb hx => ?_, fun b o e n hb hx => ?_, I.base.free, fun b o e hx => ?_, I.base.tups, I.base.frzs, I.base.tbls⟩, ⟨_, hn', fun j y v' e1 e2 e3 => ?_⟩, fun y c e => ?_, I.free, I.freeC, fun p hp => ?_, tracked ⟨oL, hoL, I.free⟩ hs, by simpa using I.len⟩ ⟨_, hs, .inl rfl⟩
  ·exact (hs.2 b (Nat.ne_of_lt (Nat.lt_of_lt_of_le (Heap.lt_size e) I.ok.above))).trans (I.base.keep b o e n hb hx)
  ·obtain ⟨sl, e1⟩ := I.base.slot b o e n hb hx
   exact ⟨sl, (hs.2 b (Nat.ne_of_lt (Nat.lt_of_lt_of_le (Heap.lt_size e) I.ok.above))).trans e1⟩
  ·obtain ⟨o', e1⟩ := I.base.there b o e hx
   exact ⟨o', (hs.2 b (Nat.ne_of_lt (Nat.lt_of_lt_of_le (Heap.lt_size e) I.ok.above))).trans e1⟩
  ·by_cases hj : j = i
   ·subst hj
    rw [hi] at e1; cases e1
    rw [List.getElem?_set_self hiσ] at e2
    cases e2
    exact ⟨u, r, .inl ⟨hk, by simp⟩⟩
   ·rw [List.getElem?_set_ne (Ne.symm hj)] at e2
    obtain ⟨u', r', q⟩ := hl j y v' e1 e2 e3
    refine ⟨u', r', ?_⟩
    rcases q with ⟨k, e⟩ | ⟨k, c, e, z⟩
    ·refine .inl ⟨k, ?_⟩
     have : y ≠ x := fun e => hj (nodup_ix hN e1 (e ▸ hi))
     simp [this, e]
    ·exact .inr ⟨k, c, e, z.sameBut hs (cne y c e)⟩
  ·obtain ⟨w', z⟩ := I.cell y c e
   exact ⟨w', z.sameBut hs (cne y c e)⟩
  ·obtain ⟨e, n, ne, nf, d⟩ := I.pin p hp
   exact ⟨(hs.2 p.1 ne).trans e, n, ne, nf, d⟩
 ·have hfn : X.fn x = true := by
   rcases hf with z | z
   ·exact z
   ·rw [z] at hk; cases hk
  obtain ⟨c, hc⟩ := I.ok.has x (.inl hk)
  obtain ⟨w', z⟩ := I.cell x c hc
  refine wpAny_storeName_cell I.ok.kind hk hc z (fun h' hc' hs => ?_)
  obtain ⟨oc, hoc, hocd⟩ := id z
  refine h { s with heap := h' } ⟨I.ok, I.os, I.bare, ⟨fun b o e n hb hx => ?_, fun b o e n hb hx => ?_, I.base.free, fun b o e hx => ?_, I.base.tups, I.base.frzs, I.base.tbls⟩, ⟨m, hn.sameBut hs (Ne.symm (cne x c hc)), fun j y v' e1 e2 e3 => ?_⟩, fun y c' e => ?_, I.free, I.freeC, fun p hp => ?_, tracked ⟨oc, hoc, I.freeC x c hc⟩ hs, by simpa using I.len⟩ ⟨c, hs, .inr hc⟩
  ·exact (hs.2 b (Nat.ne_of_lt (Nat.lt_of_lt_of_le (Heap.lt_size e) (I.ok.cab x c hfn hc)))).trans (I.base.keep b o e n hb hx)
  ·obtain ⟨sl, e1⟩ := I.base.slot b o e n hb hx
   exact ⟨sl, (hs.2 b (Nat.ne_of_lt (Nat.lt_of_lt_of_le (Heap.lt_size e) (I.ok.cab x c hfn hc)))).trans e1⟩
  ·obtain ⟨o', e1⟩ := I.base.there b o e hx
   exact ⟨o', (hs.2 b (Nat.ne_of_lt (Nat.lt_of_lt_of_le (Heap.lt_size e) (I.ok.cab x c hfn hc)))).trans e1⟩
  ·by_cases hj : j = i
   ·subst hj
    rw [hi] at e1; cases e1
    rw [List.getElem?_set_self hiσ] at e2
    cases e2
    exact ⟨u, r, .inr ⟨.inl hk, c, hc, hc'⟩⟩
   ·rw [List.getElem?_set_ne (Ne.symm hj)] at e2
    obtain ⟨u', r', q⟩ := hl j y v' e1 e2 e3
    refine ⟨u', r', ?_⟩
    rcases q with q | ⟨k, c', e, z'⟩
    ·exact .inl q
    ·refine .inr ⟨k, c', e, z'.sameBut hs ?_⟩
     rintro rfl
     exact hj (nodup_ix hN e1 (I.ok.inj _ _ _ e hc ▸ hi))
  ·by_cases hcc : c' = c
   ·subst hcc; exact ⟨_, hc'⟩
   ·obtain ⟨w2, z2⟩ := I.cell y c' e
    exact ⟨w2, z2.sameBut hs hcc⟩
  ·obtain ⟨e, n, ne, nf, d⟩ := I.pin p hp
   refine ⟨(hs.2 p.1 ?_).trans e, n, ne, nf, d⟩
   intro q
   rw [q, hoc] at e
   have q' : oc = p.2 := Option.some.inj e
   exact d w' (by rw [← q']; exact hocd)
theorem store_ok {M : Model} {A : Around} {E : VSP} {i : Nat} {x : Str} {v : V} {u : Value} {Q : Unit -> Shared -> Prop} (I : Inv X pins σ H s) (hN : X.N.Nodup) (hi : X.N[i]? = some x) (hx : Loc X.env.scope x) (r : RelV v u)
  (h : ∀ s', Inv X pins (σ.set i (some v)) H s' -> Q () s') (hf : X.fn x = true ∨ X.env.scope.names.lookup x = some .local := by first | exact .inl rfl | exact .inr rfl | assumption) : wpAny M A (storeName X.env x u) Q E s :=
 store_ok2 I hN hi hx r (fun s' I' _ => h s' I') hf
theorem Inv.call' {s' : Shared} {ch : List Addr} (I : Inv X pins σ H s) (ho : s'.os = s.os) (u : Un (frs X.stack) ch H H' s.heap s'.heap) (hok : HOk X.prog X.w H' s'.heap) (hg : AllBare s'.gens)
  (hch : ∀ b ∈ ch, (b ∈ X.ex ∨ X.s₀.heap.get? b = none) /\ b ≠ X.env.locals /\ (∀ x c, X.env.cells.lookup x = some c -> c ≠ b) /\ ∀ p ∈ X.pn ++ pins, p.1 ≠ b) : Inv X pins σ H' s' := by
 obtain ⟨h', g', d', t', o'⟩ := s'
 have e : o' = s.os := ho
 subst e
 exact I.call (g' := g') (t' := t') (d' := d') u hok hg hch
end
abbrev XK := Value -> Option Addr -> Hp -> Prop
abbrev St := List (Option V)
abbrev VK := V -> Hp -> Prop
abbrev TE := St -> Hp -> VK -> Prop
abbrev TT := St -> Hp -> (Bool -> Hp -> Prop) -> Prop
abbrev TA := St -> Hp -> (List V -> Hp -> Prop) -> Prop
structure Ends where
 nx : St -> Hp -> Prop
 rt : VK
 bk : St -> Hp -> Prop := fun _ _ => False
 ct : St -> Hp -> Prop := fun _ _ => False
abbrev TS := Ends -> St -> Hp -> Prop
def EP (X : Cx) (pins : PLs) (σ : St) (Q : VK) (u : Value) (s' : Shared) : Prop := ∃ v H', Inv X pins σ H' s' /\ RelV v u /\ Q v H'
def TP (X : Cx) (pins : PLs) (σ : St) (Q : Bool -> Hp -> Prop) (b : Bool) (s' : Shared) : Prop := ∃ H', Inv X pins σ H' s' /\ Q b H'
def AP (X : Cx) (pins : PLs) (σ : St) (Q : List V -> Hp -> Prop) (us : List Value) (s' : Shared) : Prop := ∃ vs H', Inv X pins σ H' s' /\ Vals vs us /\ Q vs H'
def SP (X : Cx) (pins : PLs) (D : Ends) (f : Flow) (s' : Shared) : Prop :=
 match f with
 | .next => ∃ σ' H', Inv X pins σ' H' s' /\ D.nx σ' H'
 | .brk => ∃ σ' H', Inv X pins σ' H' s' /\ D.bk σ' H'
 | .cont => ∃ σ' H', Inv X pins σ' H' s' /\ D.ct σ' H'
 | .ret u => ∃ v σ' H', Inv X pins σ' H' s' /\ RelV v u /\ D.rt v H'
def PE (X : Cx) (e : Expr) (t : TE) : Prop :=
 ∀ (pins : PLs) (s : Shared) (σ : St) (H : Hp) (Q : VK), Inv X pins σ H s -> t σ H Q -> wpAny (model X.prog X.w) X.A (eval e X.env) (EP X pins σ Q) X.xe s
def PT (X : Cx) (e : Expr) (t : TT) : Prop :=
 ∀ (pins : PLs) (s : Shared) (σ : St) (H : Hp) (Q : Bool -> Hp -> Prop), Inv X pins σ H s -> t σ H Q -> wpAny (model X.prog X.w) X.A (isTrue e X.env (eval e X.env)) (TP X pins σ Q) X.xe s
def PW (X : Cx) (e : Expr) (t : TT) : Prop :=
 ∀ (whole : Sem Value) (pins : PLs) (s : Shared) (σ : St) (H : Hp) (Q : Bool -> Hp -> Prop), Inv X pins σ H s -> t σ H Q -> wpAny (model X.prog X.w) X.A (isTrue e X.env whole) (TP X pins σ Q) X.xe s
theorem PW.pt {X : Cx} {e : Expr} {t : TT} (h : PW X e t) : PT X e t := h _
def PA (X : Cx) (es : List Expr) (t : TA) : Prop :=
 ∀ (pos : Pos) (pins : PLs) (s : Shared) (σ : St) (H : Hp) (Q : List V -> Hp -> Prop), Inv X pins σ H s -> t σ H Q -> wpAny (model X.prog X.w) X.A (spliced (backTo pos (starEach es X.env))) (AP X pins σ Q) X.xe s
def PS (X : Cx) (st : Stmt) (t : TS) : Prop :=
 ∀ (pins : PLs) (s : Shared) (σ : St) (H : Hp) (D : Ends), Inv X pins σ H s -> t D σ H -> wpAny (model X.prog X.w) X.A (exec st X.env) (SP X pins D) X.xe s
def PSs (X : Cx) (st : List Stmt) (t : TS) : Prop :=
 ∀ (pins : PLs) (s : Shared) (σ : St) (H : Hp) (D : Ends), Inv X pins σ H s -> t D σ H -> wpAny (model X.prog X.w) X.A (execs st X.env) (SP X pins D) X.xe s
theorem thn {α : Type} {t : Sem α} {Q Q' : α -> Shared -> Prop} {M : Model} {A : Around} {E : VSP} {s : Shared} (h : wpAny M A t Q E s) (hQ : ∀ a s, Q a s -> Q' a s) : wpAny M A t Q' E s := wpAny_mono h hQ fun _ _ x => x
end L2
namespace L2
open PySem PySem.Spec PyProof.Rows
section
variable {X : Cx}
def tVar (i : Nat) : TE := fun σ H Q => ∃ v, σ[i]? = some (some v) /\ Q v H
def tC (v : V) : TE := fun _ H Q => Q v H
theorem pe_var {i : Nat} {x : Str} {pos : Pos} (hN : X.N[i]? = some x) (hv : Vis X.env.scope x) (hd : (x == ("__debug__" : Str)) = false := by decide) (hcd : (x == ("__classdict__" : Str)) = false := by decide) : PE X (.Name x pos) (tVar i) := by
 intro pins s σ H Q I h
 obtain ⟨v, e, h⟩ := h
 obtain ⟨m, hn, hl⟩ := I.loc
 obtain ⟨u, r, l⟩ := hl i x v hN e hv
 have fin : EP X pins σ Q u s := ⟨v, H, I, r, h⟩
 rcases l with ⟨hk, hm⟩ | ⟨hk, c, hc, hcell⟩
 ·exact wpAny_Name (wpAny_loadName_local I.ok.kind hk hn hm fin) hd
 ·rcases hk with hk | hk
  ·exact wpAny_Name (wpAny_loadName_cell I.ok.kind hk hc hcell fin) hd
  ·exact wpAny_Name (wpAny_loadName_free I.ok.kind hk hc hcell fin hcd) hd
theorem pe_int {i j pos} : PE X (.Constant (.int i) j pos) (tC (.int i)) := fun _ _ _ H _ I h => wpAny_Constant_int ⟨.int i, H, I.tok _, ⟨_, rfl⟩, h⟩
theorem pe_bl {b j pos} : PE X (.Constant (.bool b) j pos) (tC (.bl b)) := fun _ _ _ H _ I h => Constant_bool ⟨.bl b, H, I, rfl, h⟩
theorem pe_non {j pos} : PE X (.Constant .none j pos) (tC .non) := fun _ _ _ H _ I h => Constant_none ⟨.non, H, I, rfl, h⟩
theorem pe_str {x j pos} : PE X (.Constant (.str x) j pos) (tC (.str x)) := fun _ _ _ H _ I h => Calls.Constant_str ⟨.str x, H, I.tok _, ⟨_, rfl⟩, h⟩
def Gl (X : Cx) (x : Str) : Prop := X.env.kindOf x = some .globalImplicit
theorem ld_glob {E : VSP} {pins : PLs} {s : Shared} {σ : St} {H : Hp} {x : Str} {u : Value} {pos : Pos} {Q : VSP} (I : Inv X pins σ H s) (hg : Gl X x) (hm : X.mg x = some u) (h : Q u s)
  (hd : (x == ("__debug__" : Str)) = false := by decide) : wpAny (model X.prog X.w) X.A (eval (.Name x pos) X.env) Q E s :=
 Calls.Name_function_global I.ok.kind hg (Calls.loadGlobal_global (by rw [I.ok.glob]; exact I.mod.glob.keeps I.bk) hm h) hd
theorem ld_blt {E : VSP} {pins : PLs} {s : Shared} {σ : St} {H : Hp} {x : Str} {u : Value} {pos : Pos} {Q : VSP} (I : Inv X pins σ H s) (hg : Gl X x) (hm : X.mg x = none) (hv : bootBuiltins x = some u) (h : Q u s)
  (hn : x ≠ "__name__" := by decide) (hd : (x == ("__debug__" : Str)) = false := by decide) : wpAny (model X.prog X.w) X.A (eval (.Name x pos) X.env) Q E s := by
 obtain ⟨mb, h1, h2⟩ := I.mod.blt
 exact Calls.Name_function_global I.ok.kind hg (Calls.loadGlobal_builtin (by rw [I.ok.glob]; exact I.mod.glob.keeps I.bk) hm (by rw [I.ok.blt]; exact h1.keeps I.bk) ((h2 x hn).trans hv) h) hd
theorem pe_glob {x : Str} {v : V} {u : Value} {pos : Pos} (hg : Gl X x) (hm : X.mg x = some u) (r : RelV v u) (hd : (x == ("__debug__" : Str)) = false := by decide) : PE X (.Name x pos) (tC v) :=
 fun _ _ _ H _ I h => ld_glob I hg hm ⟨v, H, I, r, h⟩ hd
theorem pe_bltn {x : Str} {v : V} {u : Value} {pos : Pos} (hg : Gl X x) (hm : X.mg x = none) (hv : bootBuiltins x = some u) (r : RelV v u) (hn : x ≠ "__name__" := by decide) (hd : (x == ("__debug__" : Str)) = false := by decide) : PE X (.Name x pos) (tC v) :=
 fun _ _ _ H _ I h => ld_blt I hg hm hv ⟨v, H, I, r, h⟩ hn hd
def t2I (ta tb : TE) (k : Int -> Int -> Hp -> Prop) : St -> Hp -> Prop := fun σ H => ta σ H fun x H1 => tb σ H1 fun y H2 => ∃ i j, x = .int i /\ y = .int j /\ k i j H2
def tAdd (ta tb : TE) : TE := fun σ H Q => t2I ta tb (fun i j H2 => Q (.int (i + j)) H2) σ H
def tSub (ta tb : TE) : TE := fun σ H Q => t2I ta tb (fun i j H2 => Q (.int (i - j)) H2) σ H
def tMul (ta tb : TE) : TE := fun σ H Q => t2I ta tb (fun i j H2 => (-(2 ^ 64) < i /\ i < 2 ^ 64) /\ Q (.int (i * j)) H2) σ H
variable {a b : Expr} {ta tb : TE} {pos : Pos}
def PC (X : Cx) (op : CmpOp) (a b : Expr) (t : TE) : Prop :=
 ∀ (pins : PLs) (s : Shared) (σ : St) (H : Hp) (Q : VK), Inv X pins σ H s -> t σ H Q →
  wpAny (model X.prog X.w) X.A (eval a X.env) (fun v s₁ => wpAny (model X.prog X.w) X.A (eval b X.env) (fun u s₂ => wpAny (model X.prog X.w) X.A (compareOp op v u) (EP X pins σ Q) X.xe s₂) X.xe s₁) X.xe s
def tCmp (p : Int -> Int -> Bool) (ta tb : TE) : TE := fun σ H Q => t2I ta tb (fun i j H2 => Q (.bl (p i j)) H2) σ H
abbrev tLt : TE -> TE -> TE := tCmp fun i j => decide (i < j)
abbrev tLe : TE -> TE -> TE := tCmp fun i j => decide (i ≤ j)
abbrev tGt : TE -> TE -> TE := tCmp fun i j => decide (j < i)
abbrev tGe : TE -> TE -> TE := tCmp fun i j => decide (j ≤ i)
abbrev tEqI : TE -> TE -> TE := tCmp fun i j => decide (i = j)
abbrev tNeI : TE -> TE -> TE := tCmp fun i j => !decide (i = j)
def tIsN (ta : TE) : TE := fun σ H Q => ta σ H fun x H1 => Q (.bl (decide (x = .non))) H1
def tNotN (ta : TE) : TE := fun σ H Q => ta σ H fun x H1 => Q (.bl (!decide (x = .non))) H1
def tB (t : TE) : TT := fun σ H Q => t σ H fun x H1 => ∃ c, x = .bl c /\ Q c H1
theorem pt_val {e : Expr} {t : TE} (h : PE X e t) (he : ∀ whole, isTrue e X.env whole = (do let v ← whole; standAt e.pos; holding [v] (truthy v)) := by intro _; rfl) : PT X e (tB t) := by
 intro pins s σ H Q I hw
 refine isTrue_plain (thn (h pins s σ H _ I hw) fun v s1 ⟨x, H1, I1, r1, q1⟩ => ?_) (he _)
 obtain ⟨d, rfl, q⟩ := q1
 cases r1
 exact wpAny_truthy_bool ⟨H1, I1, q⟩
variable {tA tB' : TT} {rest : List Expr}
def tAnd (t u : TT) : TT := fun σ H Q => t σ H fun c H1 => if c = true then u σ H1 Q else Q false H1
def tOr (t u : TT) : TT := fun σ H Q => t σ H fun c H1 => if c = true then Q true H1 else u σ H1 Q
def tNot (t : TT) : TT := fun σ H Q => t σ H fun c H1 => Q (!c) H1
theorem pw_and1 (ha : PT X a tA) : PW X (.BoolOp .And [a] pos) tA := by
 intro wh pins s σ H Q I h
 refine isTrue_and (thn (ha pins s σ H Q I h) fun c s1 e => ?_)
 cases c with
 | true => exact isTrue_and_nil e
 | false => exact e
theorem pw_or1 (ha : PT X a tA) : PW X (.BoolOp .Or [a] pos) tA := by
 intro wh pins s σ H Q I h
 refine isTrue_or (thn (ha pins s σ H Q I h) fun c s1 e => ?_)
 cases c with
 | false => exact isTrue_or_nil e
 | true => exact e
theorem pw_and (ha : PT X a tA) (hb : PW X (.BoolOp .And (b :: rest) pos) tB') : PW X (.BoolOp .And (a :: b :: rest) pos) (tAnd tA tB') := by
 intro wh pins s σ H Q I h
 refine isTrue_and (thn (ha pins s σ H _ I h) fun c s1 ⟨H1, I1, q1⟩ => ?_)
 cases c with
 | true => exact hb wh pins s1 σ H1 Q I1 q1
 | false => exact ⟨H1, I1, q1⟩
theorem pw_or (ha : PT X a tA) (hb : PW X (.BoolOp .Or (b :: rest) pos) tB') : PW X (.BoolOp .Or (a :: b :: rest) pos) (tOr tA tB') := by
 intro wh pins s σ H Q I h
 refine isTrue_or (thn (ha pins s σ H _ I h) fun c s1 ⟨H1, I1, q1⟩ => ?_)
 cases c with
 | true => exact ⟨H1, I1, q1⟩
 | false => exact hb wh pins s1 σ H1 Q I1 q1
theorem pt_not (ha : PT X a tA) : PT X (.UnaryOp .Not a pos) (tNot tA) := by
 intro pins s σ H Q I h
 exact isTrue_not (ha pins s σ H (fun c H1 => Q (!c) H1) I h)
def tAndV (ta tb : TE) : TE := fun σ H Q => ta σ H fun x H1 => ∃ c, x = .bl c /\ if c = true then tb σ H1 Q else Q (.bl false) H1
def tOrV (ta tb : TE) : TE := fun σ H Q => ta σ H fun x H1 => ∃ c, x = .bl c /\ if c = true then Q (.bl true) H1 else tb σ H1 Q
def tNotV (ta : TE) : TE := fun σ H Q => ta σ H fun x H1 => ∃ c, x = .bl c /\ Q (.bl (!c)) H1
theorem pe_one {op} {t : TE} (h : PE X a t) : PE X (.BoolOp op [a] pos) t := fun pins s σ H Q I hw => BoolOp_one (h pins s σ H Q I hw)
theorem pe_and (ha : PE X a ta) (hb : PE X (.BoolOp .And (b :: rest) pos) tb) : PE X (.BoolOp .And (a :: b :: rest) pos) (tAndV ta tb) := by
 intro pins s σ H Q I h
 refine BoolOp_and (thn (ha pins s σ H _ I h) fun v s1 ⟨x, H1, I1, r1, q1⟩ => ?_)
 obtain ⟨c, rfl, q1⟩ := q1
 cases r1
 refine wpAny_truthy_bool ?_
 cases c with
 | true => exact hb pins s1 σ H1 Q I1 q1
 | false => exact ⟨.bl false, H1, I1, rfl, q1⟩
theorem pe_or (ha : PE X a ta) (hb : PE X (.BoolOp .Or (b :: rest) pos) tb) : PE X (.BoolOp .Or (a :: b :: rest) pos) (tOrV ta tb) := by
 intro pins s σ H Q I h
 refine BoolOp_or (thn (ha pins s σ H _ I h) fun v s1 ⟨x, H1, I1, r1, q1⟩ => ?_)
 obtain ⟨c, rfl, q1⟩ := q1
 cases r1
 refine wpAny_truthy_bool ?_
 cases c with
 | false => exact hb pins s1 σ H1 Q I1 q1
 | true => exact ⟨.bl true, H1, I1, rfl, q1⟩
theorem pe_not (ha : PE X a ta) : PE X (.UnaryOp .Not a pos) (tNotV ta) := by
 intro pins s σ H Q I h
 refine UnaryOp_ (thn (ha pins s σ H _ I h) fun v s1 ⟨x, H1, I1, r1, q1⟩ => ?_)
 obtain ⟨c, rfl, q1⟩ := q1
 cases r1
 exact not_of (wpAny_truthy_bool ⟨.bl (!c), H1, I1, rfl, q1⟩)
def tIf (t : TT) (ta tb : TE) : TE := fun σ H Q => t σ H fun c H1 => if c = true then ta σ H1 Q else tb σ H1 Q
theorem pe_ifExp {c : Expr} (hc : PT X c tA) (ha : PE X a ta) (hb : PE X b tb) : PE X (.IfExp c a b pos) (tIf tA ta tb) := by
 intro pins s σ H Q I h
 refine wpAny_IfExp (thn (hc pins s σ H _ I h) fun d s1 ⟨H1, I1, q1⟩ => ?_)
 cases d with
 | true => exact ha pins s1 σ H1 Q I1 q1
 | false => exact hb pins s1 σ H1 Q I1 q1
end
end L2
namespace L2
open PySem PySem.Spec PyProof.Rows
def SqL (K : Fg) (H : Hp) (a : Addr) (xs : List V) : Prop :=
 Rd H a (.lst xs) ∨
  ∃ (o : Obj) (its : Array Value) (n : Nat), K.lookup a = some o /\ o.cls = .type "list" /\ o.dict = none /\ o.data = .seq its n /\ its.size ≤ sizeLine /\ Vals xs its.toList
def SqT (K : Fg) (H : Hp) (a : Addr) (xs : List V) : Prop :=
 Rd H a (.tup xs) ∨
  ∃ (o : Obj) (its : Array Value) (n : Nat), K.lookup a = some o /\ o.cls = .type "tuple" /\ o.data = .seq its n /\ its.size ≤ sizeLine /\ Vals xs its.toList
def absV : Value -> Option V
 | .none => some .non
 | .bool b => some (.bl b)
 | .int i _ => some (.int i)
 | .str x _ => some (.str x)
 | .bytes b _ => some (.byt b)
 | .float b _ => some (.flt b)
 | .ref a => some (.ref a)
 | .type n => some (.ty n)
 | _ => none
theorem RelV.abs {x : V} {u : Value} (r : RelV x u) : absV u = some x := by
 cases x with
 | non => cases r; rfl
 | bl _ => cases r; rfl
 | int _ => obtain ⟨t, rfl⟩ := r; rfl
 | str _ => obtain ⟨t, rfl⟩ := r; rfl
 | byt _ => obtain ⟨t, rfl⟩ := r; rfl
 | flt _ => obtain ⟨t, rfl⟩ := r; rfl
 | ref _ => cases r; rfl
 | ty _ => cases r; rfl
theorem RelV.inj {x y : V} {u : Value} (r : RelV x u) (q : RelV y u) : x = y := Option.some.inj (r.abs.symm.trans q.abs)
theorem Vals.inj : ∀ {xs ys : List V} {us : List Value}, Vals xs us -> Vals ys us -> xs = ys
 | _, _, _, .nil, .nil => rfl
 | _, _, _, .cons r t, .cons r' t' => by rw [r.inj r', Vals.inj t t']
section
variable {X : Cx} {pins : PLs} {σ : St} {H : Hp} {s : Shared} {a : Addr} {xs ys : List V}
theorem SqL.of {K : Fg} (h : H a = some (.lst xs)) : SqL K H a xs := .inl (.inl h)
theorem SqT.of {K : Fg} (h : H a = some (.tup xs)) : SqT K H a xs := .inl (.inl h)
theorem Inv.list (I : Inv X pins σ H s) (h : SqL X.K H a xs) : ∃ its : List Value, Vals xs its /\ PlainL s.heap a its.toArray /\ xs.length ≤ sizeLine := by
 rcases h with h | ⟨o, its, n, hk, hc, hd, hs, hz, r⟩
 ·obtain ⟨z, its, n, r, e⟩ := h.ok I.hok
  exact ⟨its, r, ⟨_, n, e, rfl, rfl, rfl⟩, z⟩
 ·refine ⟨its.toList, r, ⟨o, n, I.kIn a o hk, hc, hd, by simpa using hs⟩, ?_⟩
  have e := r.length
  simp only [Array.length_toList] at e
  omega
theorem Inv.tuple (I : Inv X pins σ H s) (h : SqT X.K H a xs) : ∃ its : List Value, Vals xs its /\ IsTup s.heap a its.toArray /\ xs.length ≤ sizeLine := by
 rcases h with h | ⟨o, its, n, hk, hc, hs, hz, r⟩
 ·obtain ⟨z, its, r, p⟩ := h.ok I.hok
  exact ⟨its, r, p, z⟩
 ·refine ⟨its.toList, r, ⟨o, I.kIn a o hk, hc, n, by simpa using hs⟩, ?_⟩
  have e := r.length
  simp only [Array.length_toList] at e
  omega
theorem Inv.list_inj (I : Inv X pins σ H s) (h : SqL X.K H a xs) (h' : SqL X.K H a ys) : xs = ys := by
 obtain ⟨its, r, ⟨o, n, e, _, _, d⟩, _⟩ := I.list h
 obtain ⟨its', r', ⟨o', n', e', _, _, d'⟩, _⟩ := I.list h'
 rw [e] at e'; cases e'
 rw [d] at d'
 injection d' with d1 _
 have : its = its' := by simpa using congrArg Array.toList d1
 subst this
 exact r.inj r'
theorem Inv.tuple_inj (I : Inv X pins σ H s) (h : SqT X.K H a xs) (h' : SqT X.K H a ys) : xs = ys := by
 obtain ⟨its, r, ⟨o, e, _, n, d⟩, _⟩ := I.tuple h
 obtain ⟨its', r', ⟨o', e', _, n', d'⟩, _⟩ := I.tuple h'
 rw [e] at e'; cases e'
 rw [d] at d'
 injection d' with d1 _
 have : its = its' := by simpa using congrArg Array.toList d1
 subst this
 exact r.inj r'
end
abbrev Cx.wish (X : Cx) (E : VSP) : Cx := { X with xe := E }
abbrev Cx.nox (X : Cx) : Cx := X.wish fun _ _ => False
theorem Cx.Ok.wish {X : Cx} (ok : X.Ok) (E : VSP) : (X.wish E).Ok :=
 ⟨ok.mod, ok.kind, ok.glob, ok.blt, ok.above, ok.inj, ok.has, ok.cab, ok.hd, ok.frames, ok.stk, ok.exf, ok.bs, ok.bsz, ok.noex, ok.exfs, ok.funs, ok.frf⟩
theorem Cx.Ok.unwish {X : Cx} {E : VSP} (ok : (X.wish E).Ok) : X.Ok :=
 ⟨ok.mod, ok.kind, ok.glob, ok.blt, ok.above, ok.inj, ok.has, ok.cab, ok.hd, ok.frames, ok.stk, ok.exf, ok.bs, ok.bsz, ok.noex, ok.exfs, ok.funs, ok.frf⟩
section
variable {X : Cx} {pins : PLs} {σ : St} {H : Hp} {s : Shared} {E : VSP}
theorem Inv.wish (I : Inv X pins σ H s) (E : VSP) : Inv (X.wish E) pins σ H s := ⟨I.ok.wish E, I.os, I.bare, I.base, I.loc, I.cell, I.free, I.freeC, I.pin, I.hok, I.len⟩
theorem Inv.unwish (I : Inv (X.wish E) pins σ H s) : Inv X pins σ H s := ⟨I.ok.unwish, I.os, I.bare, I.base, I.loc, I.cell, I.free, I.freeC, I.pin, I.hok, I.len⟩
theorem SP.unwish {D : Ends} {f : Flow} {s' : Shared} (h : SP (X.wish E) pins D f s') : SP X pins D f s' := by
 cases f with
 | next => obtain ⟨σ', H', I, q⟩ := h; exact ⟨σ', H', I.unwish, q⟩
 | brk => obtain ⟨σ', H', I, q⟩ := h; exact ⟨σ', H', I.unwish, q⟩
 | cont => obtain ⟨σ', H', I, q⟩ := h; exact ⟨σ', H', I.unwish, q⟩
 | ret u => obtain ⟨v, σ', H', I, r, q⟩ := h; exact ⟨v, σ', H', I.unwish, r, q⟩
theorem PSs.nox {st : List Stmt} {t : TS} (h : PSs X.nox st t) : PSs X st t := fun pins s σ H D I hw =>
 wpAny_mono (h pins s σ H D (I.wish _) hw) (fun _ _ q => q.unwish) fun _ _ z => False.elim z
end
section
variable {X : Cx} {st : Stmt} {rest : List Stmt} {t u : TS} {e : Expr} {te : TE} {pos : Pos}
def tNext : TS := fun D σ H => D.nx σ H
def tSeq (t u : TS) : TS := fun D σ H => t { D with nx := u D } σ H
theorem pss_nil : PSs X [] tNext := fun _ _ σ H _ I h => wpAny_execs_nil ⟨σ, H, I, h⟩
theorem pss_cons (h1 : PS X st t) (h2 : PSs X rest u) : PSs X (st :: rest) (tSeq t u) := by
 intro pins s σ H D I h
 refine wpAny_execs_cons (thn (h1 pins s σ H { D with nx := u D } I h) fun f s1 q => ?_)
 cases f with
 | next =>
  obtain ⟨σ', H', I', q⟩ := q
  exact h2 pins s1 σ' H' D I' q
 | ret v => exact q
 | brk => exact q
 | cont => exact q
theorem pss_one (h1 : PS X st t) : PSs X [st] t := by
 intro pins s σ H D I h
 refine wpAny_execs_cons (thn (h1 pins s σ H D I h) fun f s1 q => ?_)
 cases f with
 | next => exact wpAny_execs_nil q
 | ret v => exact q
 | brk => exact q
 | cont => exact q
def tBreak : TS := fun D σ H => D.bk σ H
def tCont : TS := fun D σ H => D.ct σ H
theorem Inv.quiet {pins : PLs} {σ : St} {H : Hp} {s : Shared} (I : Inv X pins σ H s) : interactive X.env = false := by simp [interactive, I.ok.kind]
def tDrop (te : TE) : TS := fun D σ H => te σ H fun _ H1 => D.nx σ H1
theorem ps_expr (he : PE X e te) (hs : swapsWith e none pos.line X.env = pure false := by rfl) : PS X (.Expr e pos) (tDrop te) := by
 intro pins s σ H D I h
 exact wpAny_Expr_any (thn (he pins s σ H _ I h) fun v s1 ⟨x, H1, I1, r1, q1⟩ => ⟨σ, H1, I1, q1⟩) I.quiet hs
def tRet (te : TE) : TS := fun D σ H => te σ H D.rt
theorem ps_ret (he : PE X e te) : PS X (.Return (some e) pos) (tRet te) := by
 intro pins s σ H D I h
 exact wpAny_Return_some (thn (he pins s σ H _ I h) fun v s1 ⟨x, H1, I1, r1, q1⟩ => ⟨x, σ, H1, I1, r1, q1⟩)
def tRetN : TS := fun D _ H => D.rt .non H
def tIfS (c : TT) (t u : TS) : TS := fun D σ H => c σ H fun b H1 => if b = true then t D σ H1 else u D σ H1
theorem ps_if {c : Expr} {a b : List Stmt} {tc : TT} (hc : PT X c tc) (ha : PSs X a t) (hb : PSs X b u) : PS X (.If c a b pos) (tIfS tc t u) := by
 intro pins s σ H D I h
 refine wpAny_If (thn (hc pins s σ H _ I h) fun d s1 ⟨H1, I1, q1⟩ => ?_)
 cases d with
 | true => exact ha pins s1 σ H1 D I1 q1
 | false => exact hb pins s1 σ H1 D I1 q1
def tNever : TS := fun _ _ _ => False
theorem ps_never : PS X st tNever := fun _ _ _ _ _ _ h => h.elim
end
abbrev TG := V -> St -> Hp -> (St -> Hp -> Prop) -> Prop
abbrev TGs := List V -> St -> Hp -> (St -> Hp -> Prop) -> Prop
def PG (X : Cx) (target : Expr) (t : TG) : Prop :=
 ∀ (pins : PLs) (s : Shared) (σ : St) (H : Hp) (v : V) (u : Value) (Q : St -> Hp -> Prop), Inv X pins σ H s -> RelV v u -> t v σ H Q →
  wpAny (model X.prog X.w) X.A (assign target X.env u) (fun _ s' => ∃ σ' H', Inv X pins σ' H' s' /\ Q σ' H') X.xe s
def PGs (X : Cx) (ts : List Expr) (t : TGs) : Prop :=
 ∀ (pins : PLs) (s : Shared) (σ : St) (H : Hp) (vs : List V) (us : List Value) (Q : St -> Hp -> Prop), Inv X pins σ H s -> Vals vs us -> t vs σ H Q →
  wpAny (model X.prog X.w) X.A (assignInOrder ((assignEach ts X.env).map (·.2)) us) (fun _ s' => ∃ σ' H', Inv X pins σ' H' s' /\ Q σ' H') X.xe s
abbrev TSet := V -> V -> V -> Hp -> (Hp -> Prop) -> Prop
def PSet (X : Cx) (t : TSet) : Prop :=
 ∀ (pins : PLs) (s : Shared) (σ : St) (H : Hp) (o i v : V) (ov iv u : Value) (Q : Hp -> Prop), Inv X pins σ H s -> RelV o ov -> RelV i iv -> RelV v u -> t o i v H Q →
  wpAny (model X.prog X.w) X.A (setItem ov iv u) (fun _ s' => ∃ H', Inv X pins σ H' s' /\ Q H') X.xe s
abbrev TIp := V -> V -> Hp -> VK -> Prop
def PIp (X : Cx) (op : Operator) (t : TIp) : Prop :=
 ∀ (pins : PLs) (s : Shared) (σ : St) (H : Hp) (x y : V) (v u : Value) (Q : VK), Inv X pins σ H s -> RelV x v -> RelV y u -> t x y H Q →
  wpAny (model X.prog X.w) X.A (inplaceOp op v u) (EP X pins σ Q) X.xe s
section
variable {X : Cx} {pos : Pos}
def gName (i : Nat) : TG := fun v σ H Q => Q (σ.set i (some v)) H
theorem pg_name {i : Nat} {x : Str} (hN : X.N.Nodup) (hi : X.N[i]? = some x) (hx : Loc X.env.scope x) (hf : X.fn x = true ∨ X.env.scope.names.lookup x = some .local := by first | exact .inl rfl | exact .inr rfl | assumption) : PG X (.Name x pos) (gName i) := by
 intro pins s σ H v u Q I r h
 exact wpAny_assign_Name (store_ok I hN hi hx r (fun s' I' => ⟨_, H, I', h⟩) hf)
def gNil : TGs := fun vs σ H Q => vs = [] /\ Q σ H
def gCons (t : TG) (u : TGs) : TGs := fun vs σ H Q => ∃ v r, vs = v :: r /\ t v σ H fun σ' H' => u r σ' H' Q
theorem pgs_nil : PGs X [] gNil := by
 intro pins s σ H vs us Q I r h
 obtain ⟨e, h⟩ := h
 subst e
 cases r
 exact assignInOrder_nil ⟨σ, H, I, h⟩
theorem pgs_cons {e : Expr} {es : List Expr} {t : TG} {u : TGs} (h1 : PG X e t) (h2 : PGs X es u)
  (hs : (assignEach (e :: es) X.env).map (·.2) = assign e X.env :: (assignEach es X.env).map (·.2) := by rfl) : PGs X (e :: es) (gCons t u) := by
 intro pins s σ H vs us Q I r h
 obtain ⟨v, vr, e1, h⟩ := h
 subst e1
 cases r with
 | cons r rr =>
  rw [hs]
  refine assignInOrder_cons (thn (h1 pins s σ H _ _ _ I r h) fun _ s1 ⟨σ1, H1, I1, q1⟩ => ?_)
  exact h2 pins s1 σ1 H1 _ _ Q I1 rr q1
def gTup (K : Fg) (n : Nat) (t : TGs) : TG := fun v σ H Q => ∃ a xs, v = .ref a /\ SqT K H a xs /\ xs.length = n /\ t xs σ H Q
theorem pg_tup {es : List Expr} {k : Nat} {t : TGs} {n : Nat} (hc : X.calm = true) (h : PGs X es t)
  (hn : (assignEach es X.env).length = n := by rfl) (hst : (assignEach es X.env).findIdx? (·.1) = none := by rfl) : PG X (.Tuple es k pos) (gTup X.K n t) := by
 intro pins s σ H v u Q I r hw
 obtain ⟨a, xs, e1, hq, hl, hw⟩ := hw
 subst e1
 cases r
 obtain ⟨its, rv, ht, hz⟩ := I.tuple hq
 refine assign_Tuple_tuple (I.ok.hd hc) ht (by simp [hn, ← hl, rv.length]) hst fun h' hx => ?_
 have I1 : Inv X pins σ H { s with heap := h' } := I.kept (t' := s.toks) fun b o e => hx b o (Nat.ne_of_lt (Heap.lt_size e)) e
 exact h pins _ σ H xs _ Q I1 (by simpa using rv) hw
def gSub (to ti : TE) (t : TSet) : TG := fun v σ H Q => to σ H fun o H1 => ti σ H1 fun i H2 => t o i v H2 fun H3 => Q σ H3
theorem pg_sub {o i : Expr} {to ti : TE} {t : TSet} (ho : PE X o to) (hi : PE X i ti) (hs : PSet X t)
  (ha : ∀ v, assign (.Subscript o i pos) X.env v = (do
   let ov ← holding [v] (eval o X.env)
   let iv ← holding [v, ov] (eval i X.env)
   standAt pos
   holding [v, ov, iv] (setItem ov iv v)
   release [v, ov, iv] []) := by intro _; rfl) : PG X (.Subscript o i pos) (gSub to ti t) := by
 intro pins s σ H v u Q I r h
 rw [ha]
 refine wpAny_bind (wpAny_holding (thn (ho pins s σ H _ I h) fun ov s1 ⟨x, H1, I1, r1, q1⟩ => ?_))
 refine wpAny_bind (wpAny_holding (thn (hi pins s1 σ H1 _ I1 q1) fun iv s2 ⟨y, H2, I2, r2, q2⟩ => ?_))
 refine wpAny_bind (wpAny_standAt (wpAny_bind (wpAny_holding (thn (hs pins s2 σ H2 x y v ov iv u _ I2 r1 r2 r q2) fun _ s3 ⟨H3, I3, q3⟩ => ?_))))
 exact wpAny_release ⟨σ, H3, I3, q3⟩
def tAsg (te : TE) (g : TG) : TS := fun D σ H => te σ H fun x H1 => g x σ H1 D.nx
theorem ps_asg {tg e : Expr} {te : TE} {g : TG} (he : PE X e te) (hg : PG X tg g) (hs : swapsWithSole [tg] e pos.line X.env = pure false := by rfl) (hw : swappedStores [tg] e X.env = pure none := by rfl)
  (h1 : (assignEach [tg] X.env).map (·.2) = [assign tg X.env] := by rfl) : PS X (.Assign [tg] e pos) (tAsg te g) := by
 intro pins s σ H D I h
 refine wpAny_Assign_stores (thn (he pins s σ H _ I h) fun v s1 ⟨x, H1, I1, r1, q1⟩ => ?_) hs hw
 rw [h1]
 exact thn (hg pins s1 σ H1 x v _ I1 r1 q1) fun _ s2 q => q
theorem ps_set {i : Nat} {x : Str} {e : Expr} {te : TE} {pos' : Pos} (hN : X.N.Nodup) (hi : X.N[i]? = some x) (hx : Loc X.env.scope x) (he : PE X e te) (hs : swapsWith e (some (.Name x pos')) pos.line X.env = pure false := by rfl) (hf : X.fn x = true ∨ X.env.scope.names.lookup x = some .local := by first | exact .inl rfl | exact .inr rfl | assumption) :
  PS X (.Assign [.Name x pos'] e pos) (tAsg te (gName i)) := by
 intro pins s σ H D I h
 refine wpAny_Assign_Name (thn (he pins s σ H _ I h) fun v s1 ⟨y, H1, I1, r1, q1⟩ => ?_) hs
 exact store_ok I1 hN hi hx r1 (fun s2 I2 => ⟨_, H1, I2, q1⟩) hf
def tPar (i j : Nat) (ta : TA) : TS := fun D σ H => ta σ H fun vs H1 => ∃ v w, vs = [v, w] /\ D.nx ((σ.set i (some v)).set j (some w)) H1
theorem ps_par {i j : Nat} {x y : Str} {a b : Expr} {ta : TA} {px py pt : Pos} {kt k2 pt2} (hc : X.calm = true) (hN : X.N.Nodup) (hi : X.N[i]? = some x) (hj : X.N[j]? = some y) (hij : i ≠ j)
  (hx : X.env.scope.names.lookup x = some .local) (hy : X.env.scope.names.lookup y = some .local) (ha : PA X [a, b] ta)
  (hw : swappedStores [.Tuple [.Name x px, .Name y py] kt pt] (.Tuple [a, b] k2 pt2) X.env = pure (some [x, y]))
  (hs : swapsWithSole [.Tuple [.Name x px, .Name y py] kt pt] (.Tuple [a, b] k2 pt2) pos.line X.env = pure false := by rfl) :
  PS X (.Assign [.Tuple [.Name x px, .Name y py] kt pt] (.Tuple [a, b] k2 pt2) pos) (tPar i j ta) := by
 intro pins s σ H D I h
 rw [exec_Assign_arm]
 refine wpAny_bind (wpAny_standAt ?_)
 rw [hs]
 refine wpAny_bind (wpAny_pure ?_)
 rw [if_neg (by decide)]
 refine wpAny_bind (Tuple_ (thn (ha _ pins s σ H _ I h) fun us s1 ⟨vs, H1, I1, r1, q1⟩ => ?_))
 obtain ⟨v, w, e1, q1⟩ := q1
 subst e1
 obtain ⟨u1, u2, rfl, rv, rw'⟩ : ∃ u1 u2, us = [u1, u2] /\ RelV v u1 /\ RelV w u2 := by
  cases r1 with
  | cons p q =>
   cases q with
   | cons p' q' =>
    cases q'
    exact ⟨_, _, rfl, p, p'⟩
 refine wpAny_newObj_type ?_ zl2
 have I2 : Inv X pins σ H1 { s1 with heap := s1.heap.push { cls := .type "tuple", data := .seq [u1, u2].toArray } } := I1.kept (t' := s1.toks) fun b o e => Heap.get?_push_of_some _ e
 rw [hw]
 refine wpAny_bind (wpAny_pure ?_)
 show wpAny (model X.prog X.w) X.A (do rule "assign.swapped-stores"; let items ← unpackItems (.ref s1.heap.objs.size) 2 none; assignInOrder [fun v => bindName X.env y v, fun v => bindName X.env x v] items.reverse; pure Flow.next) _ _ _
 refine wpAny_bind (wpAny_rule (wpAny_bind (unpackItems_tuple (items := #[u1, u2]) (I.ok.hd hc) (IsTup.new s1.heap _) fun h' hx' => ?_)))
 have I3 := I2.kept (h' := h') (t' := s1.toks) fun b o e => hx' b o (Nat.ne_of_lt (Heap.lt_size e)) e
 show wpAny _ _ (assignInOrder [fun v => bindName X.env y v, fun v => bindName X.env x v] [u2, u1] >>= fun _ => pure Flow.next) _ _ _
 refine wpAny_bind (assignInOrder_cons (wpAny_bindName (store_ok I3 hN hj (.inl hy) rw' (fun s2 I4 => ?_) (.inr hy))))
 refine assignInOrder_cons (wpAny_bindName (store_ok I4 hN hi (.inl hx) rv (fun s3 I5 => assignInOrder_nil (wpAny_pure ?_)) (.inr hx)))
 rw [List.set_comm _ _ (Ne.symm hij)] at I5
 exact ⟨_, H1, I5, q1⟩
def tAug (i : Nat) (te : TE) (ti : TIp) : TS := fun D σ H => ∃ x, σ[i]? = some (some x) /\ te σ H fun y H1 => ti x y H1 fun z H2 => D.nx (σ.set i (some z)) H2
theorem ps_aug {i : Nat} {x : Str} {e : Expr} {te : TE} {op : Operator} {ti : TIp} {pos' : Pos} (hN : X.N.Nodup) (hi : X.N[i]? = some x) (hx : Loc X.env.scope x) (he : PE X e te) (ho : PIp X op ti) (hf : X.fn x = true ∨ X.env.scope.names.lookup x = some .local := by first | exact .inl rfl | exact .inr rfl | assumption) :
  PS X (.AugAssign (.Name x pos') op e pos) (tAug i te ti) := by
 intro pins s σ H D I h
 obtain ⟨v, e1, h⟩ := h
 obtain ⟨m, hn, hl⟩ := I.loc
 have vis : Vis X.env.scope x := by rcases hx with k | k; exact .inl k; exact .inr (.inl k)
 obtain ⟨u, r, l⟩ := hl i x v hi e1 vis
 refine wpAny_AugAssign_Name ?_
 have go : wpAny (model X.prog X.w) X.A (eval e X.env) (fun w s₂ => wpAny (model X.prog X.w) X.A (inplaceOp op u w) (fun r s₃ => wpAny (model X.prog X.w) X.A (storeName X.env x r) (fun _ => SP X pins D .next) X.xe s₃) X.xe s₂) X.xe s := by
  refine thn (he pins s σ H _ I h) fun w s1 ⟨y, H1, I1, r1, q1⟩ => ?_
  refine thn (ho pins s1 σ H1 v y u w _ I1 r r1 q1) fun z s2 ⟨zv, H2, I2, r2, q2⟩ => ?_
  exact store_ok I2 hN hi hx r2 (fun s3 I3 => ⟨_, H2, I3, q2⟩) hf
 rcases l with ⟨hk, hm⟩ | ⟨hk, c, hc, hcell⟩
 ·exact wpAny_loadName_local I.ok.kind hk hn hm go
 ·rcases hk with hk | hk
  ·exact wpAny_loadName_cell I.ok.kind hk hc hcell go
  ·rcases hx with k | k
   ·have : X.env.scope.names.lookup x = some .free := hk
    rw [k] at this; cases this
   ·have : X.env.scope.names.lookup x = some .free := hk
    rw [k] at this; cases this
def tAugS (to ti te : TE) (tget : V -> V -> Hp -> VK -> Prop) (tip : TIp) (tset : TSet) : TS := fun D σ H => to σ H fun o H1 => ti σ H1 fun i H2 => tget o i H2 fun x H3 => te σ H3 fun y H4 => tip x y H4 fun z H5 => tset o i z H5 fun H6 => D.nx σ H6
def PGet (X : Cx) (t : V -> V -> Hp -> VK -> Prop) : Prop :=
 ∀ (pins : PLs) (s : Shared) (σ : St) (H : Hp) (o i : V) (ov iv : Value) (Q : VK), Inv X pins σ H s -> RelV o ov -> RelV i iv -> t o i H Q →
  wpAny (model X.prog X.w) X.A (getItem ov iv) (EP X pins σ Q) X.xe s
def ipI (f : Int -> Int -> Int) : TIp := fun x y H Q => ∃ i j, x = .int i /\ y = .int j /\ Q (.int (f i j)) H
theorem ip_add : PIp X .Add (ipI fun i j => i + j) := by
 intro pins s σ H x y v u Q I r1 r2 h
 obtain ⟨i, j, e1, e2, q⟩ := h
 subst e1; subst e2
 obtain ⟨t, rfl⟩ := r1
 obtain ⟨t', rfl⟩ := r2
 exact iadd_int ⟨.int _, H, I.tok _, ⟨_, rfl⟩, q⟩
end
section
variable {X : Cx} {pos : Pos}
def tWhile (c : TT) (tb : TS) : TS := fun D σ H => ∃ W : Nat -> St -> Hp -> Prop, (∃ m, W m σ H) /\ ∀ m σ H, W m σ H →
 c σ H fun b H1 => if b = true then ∃ N : St -> Hp -> Prop, (∀ σ' H', N σ' H' -> ∃ m', m' < m /\ W m' σ' H') /\ tb { D with nx := N, ct := N, bk := D.nx } σ H1 else D.nx σ H1
theorem ps_while {c : Expr} {body : List Stmt} {tc : TT} {tb : TS} (hp : PassesOwn (model X.prog X.w) X.A X.env X.xe) (hc : PT X c tc) (hb : PSs X body tb) : PS X (.While c body [] pos) (tWhile tc tb) := by
 intro pins s σ H D I h
 obtain ⟨W, ⟨m0, w0⟩, turn⟩ := h
 refine wpAny_While (codeAny_whileLoop (fun n s' => ∃ σ' H', Inv X pins σ' H' s' /\ W n σ' H') ?_ m0 ⟨σ, H, I, w0⟩)
 rintro n s1 ⟨σ1, H1, I1, w1⟩
 refine wpAny_passesOwn hp (thn (hc pins s1 σ1 H1 _ I1 (turn n σ1 H1 w1)) fun b s2 ⟨H2, I2, q2⟩ => ?_)
 cases b with
 | true =>
  obtain ⟨N, hN, q2⟩ := q2
  rw [if_pos rfl]
  refine wpAny_passesOwn hp (thn (hb pins s2 σ1 H2 _ I2 q2) fun f s3 q3 => ?_)
  cases f with
  | next =>
   obtain ⟨σ3, H3, I3, n3⟩ := q3
   obtain ⟨m', hm, w3⟩ := hN σ3 H3 n3
   exact ⟨m', hm, σ3, H3, I3, w3⟩
  | cont =>
   obtain ⟨σ3, H3, I3, n3⟩ := q3
   obtain ⟨m', hm, w3⟩ := hN σ3 H3 n3
   exact ⟨m', hm, σ3, H3, I3, w3⟩
  | brk => exact q3
  | ret v => exact q3
 | false =>
  rw [if_neg Bool.false_ne_true]
  exact wpAny_execs_nil ⟨σ1, H2, I2, q2⟩
end
structure It where
 go : Nat -> Hp -> Prop
 yld : Nat -> Hp -> V -> Hp -> Prop
 stop : Nat -> Hp -> Prop
def FpOk (X : Cx) (pins : PLs) (H : Hp) (b : Addr) : Prop :=
 H b = none /\ b ≠ X.env.locals /\ b ∉ X.fs /\ (b ∈ X.ex ∨ X.s₀.heap.get? b = none) /\ (∀ x c, X.env.cells.lookup x = some c -> c ≠ b) /\ ∀ p ∈ X.pn ++ pins, p.1 ≠ b
theorem Inv.fpOk {X : Cx} {pins : PLs} {σ : St} {H H' : Hp} {s : Shared} {b : Addr} (I : Inv X pins σ H s) (hb : s.heap.objs.size ≤ b) (hn : H' b = none) : FpOk X pins H' b := by
 refine ⟨hn, Nat.ne_of_gt (Nat.lt_of_lt_of_le I.lt hb), I.nofs hb, .inr (Heap.get?_none_of_le (Nat.le_trans I.sz hb)), fun x c e z => ?_, fun p hp z => ?_⟩
 ·obtain ⟨v, q⟩ := I.cell x c e
  exact absurd (Nat.lt_of_lt_of_le q.lt (by rw [z]; exact hb)) (Nat.lt_irrefl _)
 ·exact absurd (Nat.lt_of_lt_of_le (Heap.lt_size (I.pin p hp).1) (by rw [z]; exact hb)) (Nat.lt_irrefl _)
structure Turn (P : Program) (w : World) (K : Fg) (tg : Expr) (J : It) (fp : List Addr) (it : Addr) (tn : Nat -> Heap -> Prop) : Prop where
 mem : it ∈ fp
 obj : ∀ i h, tn i h -> ∀ b ∈ fp, ∃ o, h.get? b = some o /\ ∀ v, o.data ≠ .cell v
 keep : ∀ i h h', tn i h -> (∀ b ∈ fp, ∀ o, h.get? b = some o -> h'.get? b = some o) -> tn i h'
 item : ∀ (X : Cx), X.prog = P -> X.w = w -> X.K = K -> X.calm = true -> ∀ (i : Nat) (pins : PLs) (s : Shared) (σ : St) (H : Hp) (E : VSP), Inv X pins σ H s -> (∀ b ∈ fp, FpOk X pins H b) -> tn i s.heap -> J.go i H →
  wpAny (model P w) X.A (pyNext (.ref it)) (fun r s1 => ∃ u, r = some u ∧
   wpAny (model P w) X.A (letOwnedTupleGo tg (.ref it) u) (fun _ s2 => ∃ x H', Inv X pins σ H' s2 /\ RelV x u /\ J.yld i H x H' /\ tn (i + 1) s2.heap /\ ∀ b ∈ fp, H' b = none) E s1) E s
 done : ∀ (X : Cx), X.prog = P -> X.w = w -> X.K = K -> X.calm = true -> ∀ (i : Nat) (pins : PLs) (s : Shared) (σ : St) (H : Hp) (E : VSP), Inv X pins σ H s -> (∀ b ∈ fp, FpOk X pins H b) -> tn i s.heap -> J.stop i H →
  wpAny (model P w) X.A (pyNext (.ref it)) (fun r s1 => r = none /\ Inv X pins σ H s1) E s
 self : ∀ (A : Around) (i : Nat) (s : Shared) (Q : VSP) (E : VSP), tn i s.heap -> Q (.ref it) s -> wpAny (model P w) A (pyIter (.ref it)) Q E s
abbrev TI := St -> Hp -> (It -> Hp -> Prop) -> Prop
def PIE (X : Cx) (pins : PLs) (σ : St) (tg : Expr) (R : It -> Hp -> Prop) (itv : Value) (s2 : Shared) : Prop :=
 ∃ (it : Addr) (fp : List Addr) (tn : Nat -> Heap -> Prop) (J : It) (H' : Hp), itv = .ref it /\ Inv X pins σ H' s2 /\ Turn X.prog X.w X.K tg J fp it tn /\ tn 0 s2.heap /\ (∀ b ∈ fp, FpOk X pins H' b) /\ R J H'
def PI (X : Cx) (tg iter : Expr) (wi : TI) : Prop :=
 ∀ (pins : PLs) (s : Shared) (σ : St) (H : Hp) (R : It -> Hp -> Prop), Inv X pins σ H s -> wi σ H R →
  wpAny (model X.prog X.w) X.A (eval iter X.env) (fun v s1 => wpAny (model X.prog X.w) X.A (pyIter v) (PIE X pins σ tg R) X.xe s1) X.xe s
theorem go_of {M : Model} {A : Around} {E : VSP} {s : Shared} {tg : Expr} {it : Addr} {u : Value} {o : Obj} {n : String} {vs : Array Value} {Q : Unit -> Shared -> Prop} (ho : s.heap.get? it = some o) (hc : o.cls = .type n) (hd : o.data = .fields vs)
  (hn : ["enumerate", "zip", "dict_itemiterator", "dict_reverseitemiterator", "odict_iterator", "itertools.zip_longest", "itertools.pairwise"].contains n = false) (hQ : Q () s) : wpAny M A (letOwnedTupleGo tg (.ref it) u) Q E s := by
 unfold letOwnedTupleGo
 cases tg <;> first
  | exact wpAny_pure hQ
  | (cases u <;> first
    | exact wpAny_pure hQ
    | (refine wpAny_bind (wpAny_load ho ?_)
       rw [hc, hd]
       show wpAny M A (if (["enumerate", "zip", "dict_itemiterator", "dict_reverseitemiterator", "odict_iterator", "itertools.zip_longest", "itertools.pairwise"].contains n && vs[0]? == some (rawInt _)) = true then _ else _) Q E s
       rw [if_neg (by intro h; rw [hn, Bool.false_and] at h; cases h)]
       exact wpAny_pure hQ))
def Itl (K : Fg) (a : Addr) : It :=
 ⟨fun i H => ∃ xs x, SqL K H a xs /\ xs[i]? = some x, fun i H x H' => H' = H /\ ∀ xs, SqL K H a xs -> xs[i]? = some x, fun i H => ∃ xs, SqL K H a xs /\ xs.length ≤ i⟩
def Itt (K : Fg) (a : Addr) : It :=
 ⟨fun i H => ∃ xs x, SqT K H a xs /\ xs[i]? = some x, fun i H x H' => H' = H /\ ∀ xs, SqT K H a xs -> xs[i]? = some x, fun i H => ∃ xs, SqT K H a xs /\ xs.length ≤ i⟩
def Itr (lo : Int) (n : Nat) : It := ⟨fun i _ => i < n, fun i H x H' => H' = H /\ x = .int (lo + i), fun i _ => n ≤ i⟩
theorem turn_list {P : Program} {w : World} {K : Fg} {tg : Expr} (a it : Addr) : Turn P w K tg (Itl K a) [it] it (fun i h => h.IsListIter it a i) where
 mem := by simp
 obj := fun i h st b hb => by
  have e : b = it := by simpa using hb
  subst e
  obtain ⟨o, e, c, d⟩ := st
  exact ⟨o, e, fun v z => by rw [d] at z; cases z⟩
 keep := fun i h h' st k => st.at fun o e => k it (by simp) o e
 item := by
  intro X hP hw hK hc i pins s σ H E I hf st hg
  subst hP hw hK
  obtain ⟨xs, x, hq, hx⟩ := hg
  obtain ⟨its, rv, p, hz⟩ := I.list hq
  obtain ⟨u, hu, ru⟩ := rv.get hx
  obtain ⟨f0, f1, f2, f3, f4, f5⟩ := hf it (by simp)
  refine wpAny_pyNext_list_item st p.isList (x := u) (by simpa using hu) fun h' st' sb => ?_
  have I1 : Inv X pins σ H { s with heap := h' } := I.turned (t' := s.toks) (fun b o hb e => (sb.2 b hb).trans e) f0 f1 f3 f4 f5
  obtain ⟨o, e, c, d⟩ := id st'
  exact ⟨u, rfl, go_of (s := { s with heap := h' }) e c d (by decide) ⟨x, H, I1, ru, ⟨rfl, fun ys hy => by rw [I.list_inj hy hq]; exact hx⟩, st', fun b hb => (hf b hb).1⟩⟩
 done := by
  intro X hP hw hK hc i pins s σ H E I hf st hg
  subst hP hw hK
  obtain ⟨xs, hq, hx⟩ := hg
  obtain ⟨its, rv, p, hz⟩ := I.list hq
  obtain ⟨f0, f1, f2, f3, f4, f5⟩ := hf it (by simp)
  have hl := rv.length
  exact wpAny_pyNext_list_end (I.ok.hd hc) st p.isList (by simp; omega) fun h' eb => ⟨rfl, I.turned (t' := s.toks) (fun b o hb e => eb b o hb e) f0 f1 f3 f4 f5⟩
 self := fun _ _ _ _ _ st h => wpAny_pyIter_listiter st h
theorem turn_tuple {P : Program} {w : World} {K : Fg} {tg : Expr} (a it : Addr) : Turn P w K tg (Itt K a) [it] it (fun i h => h.IsTupleIter it a i) where
 mem := by simp
 obj := fun i h st b hb => by
  have e : b = it := by simpa using hb
  subst e
  obtain ⟨o, e, c, d⟩ := st
  exact ⟨o, e, fun v z => by rw [d] at z; cases z⟩
 keep := fun i h h' st k => st.at fun o e => k it (by simp) o e
 item := by
  intro X hP hw hK hc i pins s σ H E I hf st hg
  subst hP hw hK
  obtain ⟨xs, x, hq, hx⟩ := hg
  obtain ⟨its, rv, p, hz⟩ := I.tuple hq
  obtain ⟨u, hu, ru⟩ := rv.get hx
  obtain ⟨f0, f1, f2, f3, f4, f5⟩ := hf it (by simp)
  refine wpAny_pyNext_tuple_item st (show s.heap.IsTuple a its.toArray from p) (x := u) (by simpa using hu) fun h' st' sb => ?_
  have I1 : Inv X pins σ H { s with heap := h' } := I.turned (t' := s.toks) (fun b o hb e => (sb.2 b hb).trans e) f0 f1 f3 f4 f5
  obtain ⟨o, e, c, d⟩ := id st'
  exact ⟨u, rfl, go_of (s := { s with heap := h' }) e c d (by decide) ⟨x, H, I1, ru, ⟨rfl, fun ys hy => by rw [I.tuple_inj hy hq]; exact hx⟩, st', fun b hb => (hf b hb).1⟩⟩
 done := by
  intro X hP hw hK hc i pins s σ H E I hf st hg
  subst hP hw hK
  obtain ⟨xs, hq, hx⟩ := hg
  obtain ⟨its, rv, p, hz⟩ := I.tuple hq
  obtain ⟨f0, f1, f2, f3, f4, f5⟩ := hf it (by simp)
  have hl := rv.length
  exact wpAny_pyNext_tuple_end (I.ok.hd hc) st (show s.heap.IsTuple a its.toArray from p) (by simp; omega) fun h' eb => ⟨rfl, I.turned (t' := s.toks) (fun b o hb e => eb b o hb e) f0 f1 f3 f4 f5⟩
 self := fun _ _ _ _ _ st h => wpAny_pyIter_tupleiter st h
theorem turn_range {P : Program} {w : World} {K : Fg} {tg : Expr} (it : Addr) (lo : Int) (n : Nat) : Turn P w K tg (Itr lo n) [it] it (fun i h => IsRangeIter h it (lo + (i : Nat) * 1) ((n : Int) - (i : Nat)) 1) where
 mem := by simp
 obj := fun i h st b hb => by
  have e : b = it := by simpa using hb
  subst e
  exact ⟨_, st, fun v z => by
   have z' : Data.fields _ = Data.cell v := z
   cases z'⟩
 keep := fun i h h' st k => k it (by simp) _ st
 item := by
  intro X hP hw hK hc i pins s σ H E I hf st hg
  subst hP hw hK
  obtain ⟨f0, f1, f2, f3, f4, f5⟩ := hf it (by simp)
  have W := Walks.range (prog := X.prog) (w := X.w) (I.ok.hd hc) it lo 1 n
  refine W.item i s _ _ hg st fun v h' tk hv st' kk => ?_
  obtain ⟨t, rfl⟩ := hv
  have I1 : Inv X pins σ H { s with heap := h', toks := tk } := I.turned (fun b o hb e => kk b o (by simpa using hb) e) f0 f1 f3 f4 f5
  refine ⟨_, rfl, go_of (s := { s with heap := h', toks := tk }) (n := "range_iterator") st' rfl rfl (by decide) ⟨.int (lo + i), H, I1, ⟨t, ?_⟩, ⟨rfl, rfl⟩, st', fun b hb => (hf b hb).1⟩⟩
  rw [Int.mul_one]
 done := by
  intro X hP hw hK hc i pins s σ H E I hf st hg
  subst hP hw hK
  obtain ⟨f0, f1, f2, f3, f4, f5⟩ := hf it (by simp)
  exact wpAny_pyNext_range_end (I.ok.hd hc) st (by have : n ≤ i := hg; omega) fun h' eb => ⟨rfl, I.turned (t' := s.toks) (fun b o hb e => eb b o hb e) f0 f1 f3 f4 f5⟩
 self := fun _ _ _ _ _ st h => wpAny_pyIter_rangeiter st h
end L2
namespace L2
open PySem PySem.Spec PyProof.Rows
section
variable {X : Cx} {tg : Expr}
def iList (K : Fg) (tl : TE) : TI := fun σ H R => tl σ H fun x H1 => ∃ a, x = .ref a /\ (∃ xs, SqL K H1 a xs) /\ R (Itl K a) H1
def iTup (K : Fg) (tl : TE) : TI := fun σ H R => tl σ H fun x H1 => ∃ a, x = .ref a /\ (∃ xs, SqT K H1 a xs) /\ R (Itt K a) H1
theorem pi_list {l : Expr} {tl : TE} (hl : PE X l tl) : PI X tg l (iList X.K tl) := by
 intro pins s σ H R I h
 refine thn (hl pins s σ H _ I h) fun v s1 ⟨x, H1, I1, r1, q1⟩ => ?_
 obtain ⟨a, e, ⟨xs, hq⟩, q⟩ := q1
 subst e
 cases r1
 obtain ⟨its, rv, p, hz⟩ := I1.list hq
 refine wpAny_pyIter_list p.isList ?_
 refine ⟨s1.heap.objs.size, [s1.heap.objs.size], _, _, H1, rfl, I1.kept (t' := s1.toks) fun b o e => Heap.get?_push_of_some _ e, turn_list a _, ⟨_, Heap.get?_push_size _ rfl, rfl, rfl⟩, fun b hb => ?_, q⟩
 have e : b = s1.heap.objs.size := by simpa using hb
 subst e
 exact I1.fpOk (Nat.le_refl _) (I1.hok.fresh (Nat.le_refl _))
theorem pi_tup {l : Expr} {tl : TE} (hl : PE X l tl) : PI X tg l (iTup X.K tl) := by
 intro pins s σ H R I h
 refine thn (hl pins s σ H _ I h) fun v s1 ⟨x, H1, I1, r1, q1⟩ => ?_
 obtain ⟨a, e, ⟨xs, hq⟩, q⟩ := q1
 subst e
 cases r1
 obtain ⟨its, rv, p, hz⟩ := I1.tuple hq
 refine wpAny_pyIter_tuple (show s1.heap.IsTuple a its.toArray from p) ?_
 refine ⟨s1.heap.objs.size, [s1.heap.objs.size], _, _, H1, rfl, I1.kept (t' := s1.toks) fun b o e => Heap.get?_push_of_some _ e, turn_tuple a _, ⟨_, Heap.get?_push_size _ rfl, rfl, rfl⟩, fun b hb => ?_, q⟩
 have e : b = s1.heap.objs.size := by simpa using hb
 subst e
 exact I1.fpOk (Nat.le_refl _) (I1.hok.fresh (Nat.le_refl _))
theorem range_it {pins : PLs} {σ : St} {H : Hp} {s : Shared} {R : It -> Hp -> Prop} {E : VSP} {lo hi : Int} {t u v : Tok} {tk : Nat} (I : Inv X pins σ H s) (h1 : -(2 ^ 62) ≤ lo) (h2 : lo < 2 ^ 62) (h3 : -(2 ^ 62) ≤ hi) (h4 : hi < 2 ^ 62)
  (q : R (Itr lo (hi - lo).toNat) H) : wpAny (model X.prog X.w) X.A (pyIter (.ref s.heap.objs.size)) (PIE X pins σ tg R) E { s with heap := s.heap.push { cls := .type "range", data := .fields #[.int lo t, .int hi u, .int 1 v] }, toks := tk } := by
 refine wpAny_pyIter_range (IsRange.new ..) (small_one h1 h2 h3 h4) ?_
 have I1 : Inv X pins σ H { s with heap := s.heap.push { cls := .type "range", data := .fields #[.int lo t, .int hi u, .int 1 v] }, toks := tk } := I.kept fun b o e => Heap.get?_push_of_some _ e
 refine ⟨(s.heap.push { cls := .type "range", data := .fields #[.int lo t, .int hi u, .int 1 v] }).objs.size, [(s.heap.push { cls := .type "range", data := .fields #[.int lo t, .int hi u, .int 1 v] }).objs.size], _, _, H, rfl,
  I1.kept (t' := tk) fun b o e => Heap.get?_push_of_some _ e, turn_range _ lo (hi - lo).toNat, ?_, fun b hb => ?_, q⟩
 ·have e1 : lo + ((0 : Nat) : Int) * 1 = lo := by simp
  have e2 : (((hi - lo).toNat : Nat) : Int) - ((0 : Nat) : Int) = Builtin.Range.rangeSize lo hi 1 := by rw [rangeSize_one]; split <;> omega
  show IsRangeIter _ _ (lo + ((0 : Nat) : Int) * 1) ((((hi - lo).toNat : Nat) : Int) - ((0 : Nat) : Int)) 1
  rw [e1, e2]
  exact Heap.get?_push_size _ rfl
 ·have e : b = (s.heap.push { cls := .type "range", data := .fields #[.int lo t, .int hi u, .int 1 v] }).objs.size := by simpa using hb
  subst e
  exact I1.fpOk (Nat.le_refl _) (I1.hok.fresh (Nat.le_refl _))
def iRng1 (ta : TA) : TI := fun σ H R => ta σ H fun vs H1 => ∃ j : Int, vs = [.int j] /\ -(2 ^ 62) ≤ j /\ j < 2 ^ 62 /\ R (Itr 0 j.toNat) H1
def iRng2 (ta : TA) : TI := fun σ H R => ta σ H fun vs H1 => ∃ i j : Int, vs = [.int i, .int j] /\ (-(2 ^ 62) ≤ i /\ i < 2 ^ 62 /\ -(2 ^ 62) ≤ j /\ j < 2 ^ 62) /\ R (Itr i (j - i).toNat) H1
theorem pi_range1 {a : Expr} {ta : TA} {p pos : Pos} (hg : Gl X "range") (hm : X.mg "range" = none) (ha : PA X [a] ta) (hs : starEach [a] X.env = [(false, eval a X.env)] := by rfl) : PI X tg (.Call (.Name "range" p) [a] [] pos) (iRng1 ta) := by
 intro pins s σ H R I h
 refine Call_ (ld_blt I hg hm boot_range (PyProof.Rows.callWith_type1 (thn (ha pos pins s σ H _ I h) fun us s1 ⟨vs, H1, I1, r1, q1⟩ => ?_) hs rfl))
 obtain ⟨j, e, q1, q2, q⟩ := q1
 subst e
 cases r1 with
 | cons r rr =>
  cases rr
  obtain ⟨t, rfl⟩ := r
  exact call_range_1 (range_it I1 (by omega) (by omega) q1 q2 (by simpa using q))
def tFor (wi : TI) (g : TG) (tb : TS) : TS := fun D σ H => wi σ H fun J H1 => ∃ W : Nat -> Nat -> St -> Hp -> Prop, (∃ m, W 0 m σ H1) /\ ∀ i m σ H, W i m σ H →
 (J.stop i H /\ D.nx σ H) ∨ (J.go i H /\ ∃ N : St -> Hp -> Prop, (∀ σ' H', N σ' H' -> ∃ m', m' < m /\ W (i + 1) m' σ' H') /\ ∀ x H', J.yld i H x H' -> g x σ H' fun σ2 H2 => tb { D with nx := N, ct := N, bk := D.nx } σ2 H2)
def pinsAt (fp : List Addr) (h : Heap) : PLs := fp.filterMap fun b => (h.get? b).map fun o => (b, o)
theorem mem_pinsAt {fp : List Addr} {h : Heap} {b : Addr} {o : Obj} (hb : b ∈ fp) (e : h.get? b = some o) : (b, o) ∈ pinsAt fp h := List.mem_filterMap.mpr ⟨b, hb, by rw [e]; rfl⟩
theorem of_pinsAt {fp : List Addr} {h : Heap} {p : Addr × Obj} (hp : p ∈ pinsAt fp h) : p.1 ∈ fp /\ h.get? p.1 = some p.2 := by
 obtain ⟨b, hb, e⟩ := List.mem_filterMap.mp hp
 cases q : h.get? b with
 | none => rw [q] at e; cases e
 | some o =>
  rw [q] at e
  have e' : (b, o) = p := Option.some.inj e
  subst e'
  exact ⟨hb, q⟩
theorem Inv.pinned {pins : PLs} {σ : St} {H : Hp} {s : Shared} {fp : List Addr} (I : Inv X pins σ H s) (hf : ∀ b ∈ fp, FpOk X pins H b) (ho : ∀ b ∈ fp, ∃ o, s.heap.get? b = some o /\ ∀ v, o.data ≠ .cell v) : Inv X (pins ++ pinsAt fp s.heap) σ H s :=
 I.pins_of fun p hp => (List.mem_append.mp hp).elim (fun z => I.pin p (List.mem_append_right _ z)) fun z => by
  obtain ⟨hb, e⟩ := of_pinsAt z
  obtain ⟨f0, f1, f2, _⟩ := hf p.1 hb
  obtain ⟨o, e', d⟩ := ho p.1 hb
  rw [e] at e'; cases e'
  exact ⟨e, f0, f1, f2, d⟩
theorem Inv.unpinned {pins pl : PLs} {σ : St} {H : Hp} {s : Shared} (I : Inv X (pins ++ pl) σ H s) : Inv X pins σ H s := I.pins_of fun p hp => I.pin p (List.mem_append_right _ (List.mem_append_left _ hp))
theorem ps_for {iter : Expr} {body : List Stmt} {wi : TI} {g : TG} {tb : TS} {pos : Pos} (hp : PassesOwn (model X.prog X.w) X.A X.env X.xe) (hc : X.calm = true) (hi : PI X tg iter wi) (hg : PG X tg g) (hb : PSs X body tb)
  (hs : ∀ x, foldedSetIterable iter X.env x = pure x := by intro _; rfl) : PS X (.For tg iter body [] pos) (tFor wi g tb) := by
 intro pins s σ H D I h
 refine wpAny_For (thn (hi pins s σ H _ I h) fun v s1 h1 => thn h1 fun itv s2 h2 => ?_) hs
 obtain ⟨it, fp, tn, J, H2, e, I2, T, st2, f2, W, ⟨m0, w0⟩, turn⟩ := h2
 subst e
 have stat : ∀ {H' : Hp}, (∀ b ∈ fp, H' b = none) -> ∀ b ∈ fp, FpOk X pins H' b := fun hn b hb => ⟨hn b hb, (f2 b hb).2⟩
 refine codeAny_forLoop_any (fun n s' => ∃ i σ' H', Inv X pins σ' H' s' /\ tn i s'.heap /\ (∀ b ∈ fp, H' b = none) /\ W i n σ' H') ?_ m0 ⟨0, σ, H2, I2, st2, fun b hb => (f2 b hb).1, w0⟩
 rintro n s3 ⟨i, σ3, H3, I3, st3, fr3, w3⟩
 rcases turn i n σ3 H3 w3 with ⟨stop, qn⟩ | ⟨go, N, hN, step⟩
 ·refine wpAny_passesOwn hp (thn (T.done X rfl rfl rfl hc i pins s3 σ3 H3 X.xe I3 (stat fr3) st3 stop) fun r s4 ⟨hr, I4⟩ => ?_)
  subst hr
  exact wpAny_execs_nil ⟨σ3, H3, I4, qn⟩
 ·refine wpAny_passesOwn hp (thn (T.item X rfl rfl rfl hc i pins s3 σ3 H3 X.xe I3 (stat fr3) st3 go) fun r s4 ⟨u, hr, h4⟩ => ?_)
  subst hr
  refine wpAny_passesOwn hp (thn h4 fun _ s5 ⟨x, H5, I5, r5, y5, st5, fr5⟩ => ?_)
  have I5' := I5.pinned (stat fr5) (T.obj _ _ st5)
  refine wpAny_passesOwn hp (thn (hg _ s5 σ3 H5 x u _ I5' r5 (step x H5 y5)) fun _ s6 ⟨σ6, H6, I6, q6⟩ => ?_)
  refine wpAny_passesOwn hp (thn (hb _ s6 σ6 H6 _ I6 q6) fun f s7 q7 => ?_)
  have again : ∀ {σ7 : St} {H7 : Hp}, Inv X (pins ++ pinsAt fp s5.heap) σ7 H7 s7 -> N σ7 H7 -> ∃ m, m < n /\ ∃ i σ' H', Inv X pins σ' H' s7 /\ tn i s7.heap /\ (∀ b ∈ fp, H' b = none) /\ W i m σ' H' := fun {σ7 H7} I7 n7 => by
   obtain ⟨m', hm, w7⟩ := hN σ7 H7 n7
   refine ⟨m', hm, i + 1, σ7, H7, I7.unpinned, T.keep _ _ _ st5 fun b hb o e => (I7.pin (b, o) (List.mem_append_right _ (List.mem_append_right _ (mem_pinsAt hb e)))).1, fun b hb => ?_, w7⟩
   obtain ⟨o, e, d⟩ := T.obj _ _ st5 b hb
   exact (I7.pin (b, o) (List.mem_append_right _ (List.mem_append_right _ (mem_pinsAt hb e)))).2.1
  cases f with
  | next => obtain ⟨σ7, H7, I7, n7⟩ := q7; exact again I7 n7
  | cont => obtain ⟨σ7, H7, I7, n7⟩ := q7; exact again I7 n7
  | brk => obtain ⟨σ7, H7, I7, q7⟩ := q7; exact ⟨σ7, H7, I7.unpinned, q7⟩
  | ret v => obtain ⟨x7, σ7, H7, I7, r7, q7⟩ := q7; exact ⟨x7, σ7, H7, I7.unpinned, r7, q7⟩
end
theorem for_list {K : Fg} {a : Addr} {xs : List V} {g : TG} {tb : TS} {D : Ends} {σ : St} {H : Hp} (Pv : Nat -> St -> Hp -> Prop) (h0 : Pv 0 σ H) (hl : ∀ i σ H, i ≤ xs.length -> Pv i σ H -> SqL K H a xs)
  (hs : ∀ i x σ H, xs[i]? = some x -> Pv i σ H -> g x σ H fun σ2 H2 => tb { D with nx := Pv (i + 1), ct := Pv (i + 1), bk := D.nx } σ2 H2) (hd : ∀ σ H, Pv xs.length σ H -> D.nx σ H) :
  ∃ W : Nat -> Nat -> St -> Hp -> Prop, (∃ m, W 0 m σ H) /\ ∀ i m σ H, W i m σ H →
   ((Itl K a).stop i H /\ D.nx σ H) ∨ ((Itl K a).go i H /\ ∃ N : St -> Hp -> Prop, (∀ σ' H', N σ' H' -> ∃ m', m' < m /\ W (i + 1) m' σ' H') /\ ∀ x H', (Itl K a).yld i H x H' -> g x σ H' fun σ2 H2 => tb { D with nx := N, ct := N, bk := D.nx } σ2 H2) := by
 refine ⟨fun i m σ H => m = xs.length - i /\ i ≤ xs.length /\ Pv i σ H, ⟨xs.length, by simp, Nat.zero_le _, h0⟩, ?_⟩
 rintro i m σ H ⟨rfl, hi, p⟩
 have q := hl i σ H hi p
 by_cases hlt : i < xs.length
 ·refine .inr ⟨⟨xs, xs[i], q, by simp [hlt]⟩, Pv (i + 1), fun σ' H' p' => ⟨xs.length - (i + 1), by omega, rfl, hlt, p'⟩, fun x H' y => ?_⟩
  obtain ⟨e, y⟩ := y
  subst e
  exact hs i x σ _ (y xs q) p
 ·have e : i = xs.length := by omega
  subst e
  exact .inl ⟨⟨xs, q, Nat.le_refl _⟩, hd σ H p⟩
theorem for_tup {K : Fg} {a : Addr} {xs : List V} {g : TG} {tb : TS} {D : Ends} {σ : St} {H : Hp} (Pv : Nat -> St -> Hp -> Prop) (h0 : Pv 0 σ H) (hl : ∀ i σ H, i ≤ xs.length -> Pv i σ H -> SqT K H a xs)
  (hs : ∀ i x σ H, xs[i]? = some x -> Pv i σ H -> g x σ H fun σ2 H2 => tb { D with nx := Pv (i + 1), ct := Pv (i + 1), bk := D.nx } σ2 H2) (hd : ∀ σ H, Pv xs.length σ H -> D.nx σ H) :
  ∃ W : Nat -> Nat -> St -> Hp -> Prop, (∃ m, W 0 m σ H) /\ ∀ i m σ H, W i m σ H →
   ((Itt K a).stop i H /\ D.nx σ H) ∨ ((Itt K a).go i H /\ ∃ N : St -> Hp -> Prop, (∀ σ' H', N σ' H' -> ∃ m', m' < m /\ W (i + 1) m' σ' H') /\ ∀ x H', (Itt K a).yld i H x H' -> g x σ H' fun σ2 H2 => tb { D with nx := N, ct := N, bk := D.nx } σ2 H2) := by
 refine ⟨fun i m σ H => m = xs.length - i /\ i ≤ xs.length /\ Pv i σ H, ⟨xs.length, by simp, Nat.zero_le _, h0⟩, ?_⟩
 rintro i m σ H ⟨rfl, hi, p⟩
 have q := hl i σ H hi p
 by_cases hlt : i < xs.length
 ·refine .inr ⟨⟨xs, xs[i], q, by simp [hlt]⟩, Pv (i + 1), fun σ' H' p' => ⟨xs.length - (i + 1), by omega, rfl, hlt, p'⟩, fun x H' y => ?_⟩
  obtain ⟨e, y⟩ := y
  subst e
  exact hs i x σ _ (y xs q) p
 ·have e : i = xs.length := by omega
  subst e
  exact .inl ⟨⟨xs, q, Nat.le_refl _⟩, hd σ H p⟩
theorem for_range {lo : Int} {n : Nat} {g : TG} {tb : TS} {D : Ends} {σ : St} {H : Hp} (Pv : Nat -> St -> Hp -> Prop) (h0 : Pv 0 σ H)
  (hs : ∀ i σ H, i < n -> Pv i σ H -> g (.int (lo + i)) σ H fun σ2 H2 => tb { D with nx := Pv (i + 1), ct := Pv (i + 1), bk := D.nx } σ2 H2) (hd : ∀ σ H, Pv n σ H -> D.nx σ H) :
  ∃ W : Nat -> Nat -> St -> Hp -> Prop, (∃ m, W 0 m σ H) /\ ∀ i m σ H, W i m σ H →
   ((Itr lo n).stop i H /\ D.nx σ H) ∨ ((Itr lo n).go i H /\ ∃ N : St -> Hp -> Prop, (∀ σ' H', N σ' H' -> ∃ m', m' < m /\ W (i + 1) m' σ' H') /\ ∀ x H', (Itr lo n).yld i H x H' -> g x σ H' fun σ2 H2 => tb { D with nx := N, ct := N, bk := D.nx } σ2 H2) := by
 refine ⟨fun i m σ H => m = n - i /\ i ≤ n /\ Pv i σ H, ⟨n, by simp, Nat.zero_le _, h0⟩, ?_⟩
 rintro i m σ H ⟨rfl, hi, p⟩
 by_cases hlt : i < n
 ·refine .inr ⟨hlt, Pv (i + 1), fun σ' H' p' => ⟨n - (i + 1), by omega, rfl, hlt, p'⟩, fun x H' y => ?_⟩
  obtain ⟨e, y⟩ := y
  subst e y
  exact hs i σ _ hlt p
 ·have e : i = n := by omega
  subst e
  exact .inl ⟨Nat.le_refl _, hd σ H p⟩
end L2
namespace L2
open PySem PySem.Spec PyProof.Rows
abbrev R2 := V -> V -> Hp -> VK -> Prop
def OpR (X : Cx) (f : Value -> Value -> Sem Value) (r : R2) : Prop :=
 ∀ (pins : PLs) (s : Shared) (σ : St) (H : Hp) (x y : V) (v u : Value) (Q : VK), Inv X pins σ H s -> RelV x v -> RelV y u -> r x y H Q →
  wpAny (model X.prog X.w) X.A (f v u) (EP X pins σ Q) X.xe s
def UnR (X : Cx) (f : Value -> Sem Value) (r : V -> Hp -> VK -> Prop) : Prop :=
 ∀ (pins : PLs) (s : Shared) (σ : St) (H : Hp) (x : V) (v : Value) (Q : VK), Inv X pins σ H s -> RelV x v -> r x H Q →
  wpAny (model X.prog X.w) X.A (f v) (EP X pins σ Q) X.xe s
def CallR (X : Cx) (f : Value) (r : List V -> Hp -> VK -> Prop) : Prop :=
 ∀ (pins : PLs) (s : Shared) (σ : St) (H : Hp) (xs : List V) (us : List Value) (Q : VK), Inv X pins σ H s -> Vals xs us -> r xs H Q →
  wpAny (model X.prog X.w) X.A (call f us) (EP X pins σ Q) X.xe s
def TruR (X : Cx) (r : V -> Hp -> (Bool -> Hp -> Prop) -> Prop) : Prop :=
 ∀ (pins : PLs) (s : Shared) (σ : St) (H : Hp) (x : V) (v : Value) (Q : Bool -> Hp -> Prop), Inv X pins σ H s -> RelV x v -> r x H Q →
  wpAny (model X.prog X.w) X.A (truthy v) (TP X pins σ Q) X.xe s
def tOp (r : R2) (ta tb : TE) : TE := fun σ H Q => ta σ H fun x H1 => tb σ H1 fun y H2 => r x y H2 Q
def tUn (r : V -> Hp -> VK -> Prop) (ta : TE) : TE := fun σ H Q => ta σ H fun x H1 => r x H1 Q
def rI (C : Int -> Int -> Prop) (g : Int -> Int -> V) : R2 := fun x y H Q => ∃ i j, x = .int i /\ y = .int j /\ C i j /\ Q (g i j) H
def rI0 (g : Int -> Int -> V) : R2 := fun x y H Q => ∃ i j, x = .int i /\ y = .int j /\ Q (g i j) H
def rU (g : Int -> V) : V -> Hp -> VK -> Prop := fun x H Q => ∃ i, x = .int i /\ Q (g i) H
section
variable {X : Cx} {a b c : Expr} {ta tb tc : TE} {pos : Pos}
theorem binT (ha : PE X a ta) (hb : PE X b tb) {pins : PLs} {s : Shared} {σ : St} {H : Hp} {R : V -> V -> Hp -> Prop} (I : Inv X pins σ H s)
  (h : ta σ H fun x H1 => tb σ H1 fun y H2 => R x y H2) {Q : VSP} {f : Value -> Value -> Sem Value}
  (hf : ∀ v u s2 x y H2, Inv X pins σ H2 s2 -> RelV x v -> RelV y u -> R x y H2 -> wpAny (model X.prog X.w) X.A (f v u) Q X.xe s2) :
  wpAny (model X.prog X.w) X.A (eval a X.env) (fun v s₁ => wpAny (model X.prog X.w) X.A (eval b X.env) (fun u s₂ => wpAny (model X.prog X.w) X.A (f v u) Q X.xe s₂) X.xe s₁) X.xe s := by
 refine thn (ha pins s σ H _ I h) fun v s1 ⟨x, H1, I1, r1, q1⟩ => ?_
 refine thn (hb pins s1 σ H1 _ I1 q1) fun u s2 ⟨y, H2, I2, r2, q2⟩ => ?_
 exact hf v u s2 x y H2 I2 r1 r2 q2
theorem pe_op {op : Operator} {r : R2} (ho : OpR X (binaryOp op) r) (ha : PE X a ta) (hb : PE X b tb) : PE X (.BinOp a op b pos) (tOp r ta tb) := by
 intro pins s σ H Q I h
 exact wpAny_BinOp (binT ha hb I h fun v u s2 x y H2 I2 rx ry q => ho pins s2 σ H2 x y v u Q I2 rx ry q)
theorem pe_un {op : UnaryOp} {r : V -> Hp -> VK -> Prop} (ho : UnR X (unaryOp op) r) (ha : PE X a ta) : PE X (.UnaryOp op a pos) (tUn r ta) := by
 intro pins s σ H Q I h
 exact UnaryOp_ (thn (ha pins s σ H _ I h) fun v s1 ⟨x, H1, I1, r1, q1⟩ => ho pins s1 σ H1 x v Q I1 r1 q1)
theorem opI {f : Value -> Value -> Sem Value} {C : Int -> Int -> Prop} {g : Int -> Int -> Int}
  (rule : ∀ (i j : Int) (t u : Tok) (s : Shared) (Q : VSP) (E : VSP), C i j -> Q (.int (g i j) s.toks) { s with toks := s.toks + 1 } -> wpAny (model X.prog X.w) X.A (f (.int i t) (.int j u)) Q E s) :
  OpR X f (rI C fun i j => .int (g i j)) := by
 intro pins s σ H x y v u Q I rx ry h
 obtain ⟨i, j, rfl, rfl, hc, q⟩ := h
 obtain ⟨t, rfl⟩ := rx
 obtain ⟨t', rfl⟩ := ry
 exact rule i j t t' s _ _ hc ⟨.int (g i j), H, I.tok _, ⟨_, rfl⟩, q⟩
theorem opI0 {f : Value -> Value -> Sem Value} {g : Int -> Int -> Int}
  (rule : ∀ (i j : Int) (t u : Tok) (s : Shared) (Q : VSP) (E : VSP), Q (.int (g i j) s.toks) { s with toks := s.toks + 1 } -> wpAny (model X.prog X.w) X.A (f (.int i t) (.int j u)) Q E s) :
  OpR X f (rI0 fun i j => .int (g i j)) := by
 intro pins s σ H x y v u Q I rx ry h
 obtain ⟨i, j, rfl, rfl, q⟩ := h
 obtain ⟨t, rfl⟩ := rx
 obtain ⟨t', rfl⟩ := ry
 exact rule i j t t' s _ _ ⟨.int (g i j), H, I.tok _, ⟨_, rfl⟩, q⟩
theorem opB0 {f : Value -> Value -> Sem Value} {g : Int -> Int -> Bool}
  (rule : ∀ (i j : Int) (t u : Tok) (s : Shared) (Q : VSP) (E : VSP), Q (.bool (g i j)) s -> wpAny (model X.prog X.w) X.A (f (.int i t) (.int j u)) Q E s) :
  OpR X f (rI0 fun i j => .bl (g i j)) := by
 intro pins s σ H x y v u Q I rx ry h
 obtain ⟨i, j, rfl, rfl, q⟩ := h
 obtain ⟨t, rfl⟩ := rx
 obtain ⟨t', rfl⟩ := ry
 exact rule i j t t' s _ _ ⟨.bl (g i j), H, I, rfl, q⟩
def CDiv (i j : Int) : Prop := 0 < j /\ j < 1073741824
def CDivN (i j : Int) : Prop := j ≠ 0 /\ j.natAbs < 1073741824
def CPow (i j : Int) : Prop := 0 ≤ j /\ j ≤ 1000000 /\ i.natAbs < 2 ^ 64
def CMul (i j : Int) : Prop := (-(2 ^ 64) < i /\ i < 2 ^ 64) ∨ (-(2 ^ 64) < j /\ j < 2 ^ 64)
theorem CMul.ok {i j : Int} (h : CMul i j) : IntMulOk i j := by
 rcases h with ⟨h1, h2⟩ | ⟨h1, h2⟩
 ·exact .of_left (intBits_le_64 h1 h2)
 ·exact .of_right (intBits_le_64 h1 h2)
theorem op_add : OpR X (binaryOp .Add) (rI0 fun i j => .int (i + j)) := opI0 fun _ _ _ _ _ _ _ q => add_int q
theorem op_sub : OpR X (binaryOp .Sub) (rI0 fun i j => .int (i - j)) := opI0 fun _ _ _ _ _ _ _ q => sub_int q
theorem op_mul : OpR X (binaryOp .Mult) (rI CMul fun i j => .int (i * j)) := opI fun _ _ _ _ _ _ _ hc q => mul_int q hc.ok
theorem op_fdiv : OpR X (binaryOp .FloorDiv) (rI CDiv fun i j => .int (i / j)) := opI fun i j _ _ _ _ _ hc q => by
 have h1 : (0 : Int) < j := hc.1
 have h2 : j < 1073741824 := hc.2
 exact floordiv_int (by omega) (by rw [Int.fdiv_eq_ediv_of_nonneg i (by omega)]; exact q) (.inl (PyProof.noPylong_small (by omega)))
theorem op_mod : OpR X (binaryOp .Mod) (rI (fun _ j => 0 < j) fun i j => .int (i % j)) := opI fun i j _ _ _ _ _ hc q => by
 have h1 : (0 : Int) < j := hc
 exact mod_int' (by omega) (by rw [Int.fmod_eq_emod_of_nonneg i (by omega)]; exact q)
theorem op_pow : OpR X (binaryOp .Pow) (rI CPow fun i j => .int (i ^ j.toNat)) := opI fun _ _ _ _ _ _ _ hc q => pow_int_small hc.1 hc.2.1 hc.2.2 q
theorem unI {f : Value -> Sem Value} {g : Int -> Int}
  (rule : ∀ (i : Int) (t : Tok) (s : Shared) (Q : VSP) (E : VSP), Q (.int (g i) s.toks) { s with toks := s.toks + 1 } -> wpAny (model X.prog X.w) X.A (f (.int i t)) Q E s) :
  UnR X f (rU fun i => .int (g i)) := by
 intro pins s σ H x v Q I rx h
 obtain ⟨i, rfl, q⟩ := h
 obtain ⟨t, rfl⟩ := rx
 exact rule i t s _ _ ⟨.int (g i), H, I.tok _, ⟨_, rfl⟩, q⟩
theorem un_neg : UnR X (unaryOp .USub) (rU fun i => .int (-i)) := unI fun _ _ _ _ _ q => neg_int q
end
def scal : V -> V -> Bool
 | .non, .non => true | .non, .int _ => true | .int _, .non => true | .non, .bl _ => true | .bl _, .non => true | .non, .str _ => true | .str _, .non => true
 | .int _, .int _ => true | .bl _, .bl _ => true | .str _, .str _ => true | .byt _, .byt _ => true
 | .int _, .str _ => true | .str _, .int _ => true | .bl _, .str _ => true | .str _, .bl _ => true
 | _, _ => false
def rEq : R2 := fun x y H Q => scal x y = true /\ Q (.bl (decide (x = y))) H
def rNe : R2 := fun x y H Q => scal x y = true /\ Q (.bl (!decide (x = y))) H
theorem dec_int {i j : Int} : decide (V.int i = V.int j) = (i == j) := by
 rw [Bool.eq_iff_iff]
 simp
theorem dec_bl {i j : Bool} : decide (V.bl i = V.bl j) = (i == j) := by
 rw [Bool.eq_iff_iff]
 simp
theorem dec_str {i j : Str} : decide (V.str i = V.str j) = (i == j) := by
 rw [Bool.eq_iff_iff]
 simp
theorem dec_byt {i j : Array UInt8} : decide (V.byt i = V.byt j) = (i.toList == j.toList) := by
 rw [Bool.eq_iff_iff]
 cases i
 cases j
 simp
section
variable {X : Cx} {a b c : Expr} {ta tb tc : TE} {pos : Pos}
theorem fin_bl {pins : PLs} {σ : St} {H : Hp} {s : Shared} {Q : VK} {k k' : Bool} (I : Inv X pins σ H s) (q : Q (.bl k) H) (e : k = k') : EP X pins σ Q (.bool k') s := by
 subst e
 exact ⟨.bl k, H, I, rfl, q⟩
theorem op_eq : OpR X (compareOp .Eq) rEq := by
 intro pins s σ H x y v u Q I rx ry h
 obtain ⟨hs, q⟩ := h
 cases x with
 | non =>
  cases rx
  cases y with
  | non => cases ry; exact PySem.EqNone.eq_none_none (fin_bl I q (by simp))
  | bl j => cases ry; exact PySem.EqNone.eq_none_bool (fin_bl I q (by simp))
  | int j => obtain ⟨t', rfl⟩ := ry; exact PySem.EqNone.eq_none_int (fin_bl I q (by simp))
  | str j => obtain ⟨t', rfl⟩ := ry; exact PySem.EqNone.eq_none_str (fin_bl I q (by simp))
  | _ => exact absurd (show false = true from hs) Bool.false_ne_true
 | bl i =>
  cases rx
  cases y with
  | non => cases ry; exact PySem.EqNone.eq_bool_none (fin_bl I q (by simp))
  | bl j => cases ry; exact eq_bool (fin_bl I q dec_bl)
  | str j => obtain ⟨t', rfl⟩ := ry; exact PySem.EqMixed.eq_bool_str (fin_bl I q (by simp))
  | _ => exact absurd (show false = true from hs) Bool.false_ne_true
 | int i =>
  obtain ⟨t, rfl⟩ := rx
  cases y with
  | non => cases ry; exact PySem.EqNone.eq_int_none (fin_bl I q (by simp))
  | int j => obtain ⟨t', rfl⟩ := ry; exact eq_int (fin_bl I q dec_int)
  | str j => obtain ⟨t', rfl⟩ := ry; exact PySem.EqMixed.eq_int_str (fin_bl I q (by simp))
  | _ => exact absurd (show false = true from hs) Bool.false_ne_true
 | str i =>
  obtain ⟨t, rfl⟩ := rx
  cases y with
  | non => cases ry; exact PySem.EqNone.eq_str_none (fin_bl I q (by simp))
  | bl j => cases ry; exact PySem.EqMixed.eq_str_bool (fin_bl I q (by simp))
  | int j => obtain ⟨t', rfl⟩ := ry; exact PySem.EqMixed.eq_str_int (fin_bl I q (by simp))
  | str j => obtain ⟨t', rfl⟩ := ry; exact eq_str (fin_bl I q dec_str)
  | _ => exact absurd (show false = true from hs) Bool.false_ne_true
 | byt i =>
  obtain ⟨t, rfl⟩ := rx
  cases y with
  | byt j => obtain ⟨t', rfl⟩ := ry; exact PySem.W.eq_bytes (fin_bl I q dec_byt)
  | _ => exact absurd (show false = true from hs) Bool.false_ne_true
 | _ => cases y <;> exact absurd (show false = true from hs) Bool.false_ne_true
theorem op_ne : OpR X (compareOp .NotEq) rNe := by
 intro pins s σ H x y v u Q I rx ry h
 obtain ⟨hs, q⟩ := h
 cases x with
 | non =>
  cases rx
  cases y with
  | non => cases ry; exact PySem.EqNone.ne_none_none (fin_bl I q (by simp))
  | bl j => cases ry; exact PySem.EqNone.ne_none_bool (fin_bl I q (by simp))
  | int j => obtain ⟨t', rfl⟩ := ry; exact PySem.EqNone.ne_none_int (fin_bl I q (by simp))
  | str j => obtain ⟨t', rfl⟩ := ry; exact PySem.EqNone.ne_none_str (fin_bl I q (by simp))
  | _ => exact absurd (show false = true from hs) Bool.false_ne_true
 | bl i =>
  cases rx
  cases y with
  | non => cases ry; exact PySem.EqNone.ne_bool_none (fin_bl I q (by simp))
  | bl j => cases ry; exact ne_bool (fin_bl I q (congrArg not dec_bl))
  | str j => obtain ⟨t', rfl⟩ := ry; exact PySem.EqMixed.ne_bool_str (fin_bl I q (by simp))
  | _ => exact absurd (show false = true from hs) Bool.false_ne_true
 | int i =>
  obtain ⟨t, rfl⟩ := rx
  cases y with
  | non => cases ry; exact PySem.EqNone.ne_int_none (fin_bl I q (by simp))
  | int j => obtain ⟨t', rfl⟩ := ry; exact ne_int (fin_bl I q (congrArg not dec_int))
  | str j => obtain ⟨t', rfl⟩ := ry; exact PySem.EqMixed.ne_int_str (fin_bl I q (by simp))
  | _ => exact absurd (show false = true from hs) Bool.false_ne_true
 | str i =>
  obtain ⟨t, rfl⟩ := rx
  cases y with
  | non => cases ry; exact PySem.EqNone.ne_str_none (fin_bl I q (by simp))
  | bl j => cases ry; exact PySem.EqMixed.ne_str_bool (fin_bl I q (by simp))
  | int j => obtain ⟨t', rfl⟩ := ry; exact PySem.EqMixed.ne_str_int (fin_bl I q (by simp))
  | str j => obtain ⟨t', rfl⟩ := ry; exact ne_str (fin_bl I q (congrArg not dec_str))
  | _ => exact absurd (show false = true from hs) Bool.false_ne_true
 | byt i =>
  obtain ⟨t, rfl⟩ := rx
  cases y with
  | byt j => obtain ⟨t', rfl⟩ := ry; exact PySem.W.ne_bytes (fin_bl I q (congrArg not dec_byt))
  | _ => exact absurd (show false = true from hs) Bool.false_ne_true
 | _ => cases y <;> exact absurd (show false = true from hs) Bool.false_ne_true
theorem op_lt : OpR X (compareOp .Lt) (rI0 fun i j => .bl (decide (i < j))) := opB0 fun _ _ _ _ _ _ _ q => lt_int q
theorem op_le : OpR X (compareOp .LtE) (rI0 fun i j => .bl (decide (i ≤ j))) := opB0 fun _ _ _ _ _ _ _ q => le_int q
theorem op_gt : OpR X (compareOp .Gt) (rI0 fun i j => .bl (decide (j < i))) := opB0 fun _ _ _ _ _ _ _ q => gt_int q
theorem op_ge : OpR X (compareOp .GtE) (rI0 fun i j => .bl (decide (j ≤ i))) := opB0 fun _ _ _ _ _ _ _ q => ge_int q
theorem op_isN : OpR X (compareOp .Is) (fun x y H Q => y = .non /\ Q (.bl (decide (x = .non))) H) := by
 intro pins s σ H x y v u Q I rx ry h
 obtain ⟨rfl, q⟩ := h
 cases ry
 refine is_none_gen (fin_bl I q ?_)
 cases x <;> first
  | (cases rx; rfl)
  | (obtain ⟨t, rfl⟩ := rx; rfl)
theorem op_notN : OpR X (compareOp .IsNot) (fun x y H Q => y = .non /\ Q (.bl (!decide (x = .non))) H) := by
 intro pins s σ H x y v u Q I rx ry h
 obtain ⟨rfl, q⟩ := h
 cases ry
 refine isnot_none_gen (fin_bl I q ?_)
 cases x <;> first
  | (cases rx; rfl)
  | (obtain ⟨t, rfl⟩ := rx; rfl)
def isObj : HO -> Bool
 | .lst _ => true
 | .ins _ _ _ => true
 | _ => false
theorem nomark (b : Expr) {op : CmpOp} (h : op ≠ .In := by decide) (h2 : op ≠ .NotIn := by decide) : behindInMarks op b = false := by
 have e1 : (op == CmpOp.In) = false := by cases op <;> first | rfl | exact absurd rfl h
 have e2 : (op == CmpOp.NotIn) = false := by cases op <;> first | rfl | exact absurd rfl h2
 cases b <;> simp [behindInMarks, e1, e2]
theorem pe_cmpR {op : CmpOp} {r : R2} (ho : OpR X (compareOp op) r) (ha : PE X a ta) (hb : PE X b tb) (hm : behindInMarks op b = false) : PE X (.Compare a [op] [b] pos) (tOp r ta tb) := by
 intro pins s σ H Q I h
 exact wpAny_Compare1 (binT ha hb I h fun v u s2 x y H2 I2 rx ry q => ho pins s2 σ H2 x y v u Q I2 rx ry q) hm
def tTest (t : TE) : TT := fun σ H Q => t σ H fun x H' => ∃ k, x = .bl k /\ Q k H'
theorem pt_cmpR {op : CmpOp} {r : R2} (ho : OpR X (compareOp op) r) (ha : PE X a ta) (hb : PE X b tb) (hm : behindInMarks op b = false) : PT X (.Compare a [op] [b] pos) (tTest (tOp r ta tb)) := by
 intro pins s σ H Q I h
 refine wpAny_isTrue_Compare1 (thn (ha pins s σ H _ I h) fun v s1 ⟨x, H1, I1, r1, q1⟩ => thn (hb pins s1 σ H1 _ I1 q1) fun u s2 ⟨y, H2, I2, r2, q2⟩ =>
  thn (ho pins s2 σ H2 x y v u _ I2 r1 r2 q2) fun c s3 ⟨z, H3, I3, r3, k, e, q3⟩ => ?_) hm
 subst e
 cases r3
 exact wpAny_truthy_bool ⟨H3, I3, q3⟩
def tChain (r r' : R2) (ta tb tc : TE) : TE := fun σ H Q => ta σ H fun x H1 => tb σ H1 fun y H2 => r x y H2 fun z H3 => ∃ k, z = .bl k ∧
 (if k = true then tc σ H3 fun w' H4 => r' y w' H4 Q else Q (.bl false) H3)
def TruV (K : Fg) (x : V) (H : Hp) (k : Bool) : Prop :=
 match x with
 | .non => k = false
 | .bl b => k = b
 | .int i => k = (i != 0)
 | .str y => y.length ≤ sizeLine /\ k = ((y.length : Int) != 0)
 | .byt y => y.size ≤ sizeLine /\ k = ((y.size : Int) != 0)
 | .ref p => (∃ xs, SqL K H p xs /\ k = !xs.isEmpty) ∨ (∃ xs, SqT K H p xs /\ k = !xs.isEmpty) ∨ ∃ kvs, H p = some (.dK kvs) /\ k = !kvs.isEmpty
 | _ => False
theorem line63 : (sizeLine : Nat) < 2 ^ 63 := by rw [sizeLine_eq]; decide
def PlainIxT (b : Expr) : Prop := ∀ o i, subscripted b false o i = operate [o, i] (getItem o i)
theorem vals1 {x : V} {us : List Value} (r : Vals [x] us) : ∃ u, us = [u] /\ RelV x u := by
 cases r with
 | cons r1 r2 => cases r2; exact ⟨_, rfl, r1⟩
theorem vals2 {x y : V} {us : List Value} (r : Vals [x, y] us) : ∃ u w', us = [u, w'] /\ RelV x u /\ RelV y w' := by
 cases r with
 | cons r1 r2 =>
  cases r2 with
  | cons r3 r4 => cases r4; exact ⟨_, _, rfl, r1, r3⟩
theorem call_abs : CallR X (.builtin "abs") (fun xs H Q => ∃ i, xs = [.int i] /\ Q (.int (if i < 0 then -i else i)) H) := by
 intro pins s σ H xs us Q I r h
 obtain ⟨i, rfl, q⟩ := h
 obtain ⟨u, rfl, t, rfl⟩ := vals1 r
 exact call_abs_int fun u tk => ⟨.int (if i < 0 then -i else i), H, I.tok _, ⟨_, rfl⟩, q⟩
def LenV (K : Fg) (x : V) (H : Hp) (n : Nat) : Prop :=
 match x with
 | .str y => y.length ≤ sizeLine /\ n = y.length
 | .byt y => y.size ≤ sizeLine /\ n = y.size
 | .ref p => (∃ xs, SqL K H p xs /\ n = xs.length) ∨ ∃ xs, SqT K H p xs /\ n = xs.length
 | _ => False
end
end L2
namespace L2
open PySem PySem.Spec PyProof.Rows
structure ObjM (h : Heap) (x dx C : Addr) (mA : Str -> Option Value) : Prop where
 obj : h.get? x = some (PySem.W.instObj C dx)
 ns : h.Ns1 dx mA
 ne : dx ≠ x
theorem lookIn_ns {h : Heap} {dx : Addr} {mA : Str -> Option Value} (n : h.Ns1 dx mA) : ∃ od, h.get? dx = some od /\ ∀ name, PySem.W.lookIn name od = some (mA name) := by
 obtain ⟨o, es, ep, ho, hd, hk, _, hm⟩ := n
 refine ⟨o, ho, fun name => ?_⟩
 have e := hm name
 unfold nsFind findBy at e
 rw [← Array.find?_toList] at e
 unfold PySem.W.lookIn
 rw [hd]
 dsimp only
 split
 ·rename_i y q
  rw [q] at e
  exact congrArg some e
 ·rename_i q
  rw [q] at e
  have a : es.toList.any (·.refKey) = false := by
   rw [List.any_eq_false]
   intro y hy
   obtain ⟨z, t, hkey⟩ := hk y (Array.mem_toList_iff.mp hy)
   simp [DictEntry.refKey, hkey]
  have a' : ¬ es.toList.any (·.refKey) = true := by rw [a]; exact Bool.false_ne_true
  rw [if_neg a']
  exact congrArg some e
theorem ObjM.look {h : Heap} {x dx C : Addr} {mA : Str -> Option Value} (I : ObjM h x dx C mA) : ∃ od, PySem.W.InstAt h x (PySem.W.instObj C dx) C (some od) /\ ∀ name, PySem.W.lookIn name od = some (mA name) :=
 let ⟨od, ho, hl⟩ := lookIn_ns I.ns
 ⟨od, ⟨I.obj, rfl, rfl, ho⟩, hl⟩
section
variable {prog : Program} {w : World} {A : Around} {E : VSP} {s : Shared} {K : Fg} {x dx C f : Addr} {mA : Str -> Option Value} {name : Str} {v : Value}
end
def putF (f : Str) (v : V) : List (Str × V) -> List (Str × V)
 | [] => [(f, v)]
 | (g, x) :: r => if g = f then (g, v) :: r else (g, x) :: putF f v r
theorem RelO.some_of {v : V} {o : Option Value} (r : RelO (some v) o) : ∃ u, o = some u /\ RelV v u := by
 cases o with
 | none => exact (show False from r).elim
 | some u => exact ⟨u, rfl, r⟩
section
variable {P : Program} {w : World} {H H' : Hp} {h h' : Heap} {a C dx : Addr} {fs fs' : List (Str × V)}
theorem ins_get (hok : HOk P w H h) (e : H a = some (.ins C dx fs)) : ∃ mA, ObjM h a dx C mA /\ (∀ f, RelO (fs.lookup f) (mA f)) /\ PySem.Within mA (fs.map (·.1)) /\ fs.length ≤ 1000 /\ H dx = some (.own a) := by
 obtain ⟨d, z, ne, ob, mA, n, r, q⟩ := (show ObjOk P w H h a (.ins C dx fs) from hok a _ e)
 exact ⟨mA, ⟨ob, n, ne⟩, r, q, z, d⟩
end
structure Cls (K : Fg) (C : Addr) : Prop where
 pg : PySem.W.plainGet K C Str.empty = true
 hd : PySem.W.hasDictIn K C = true
 po : PySem.W.plainOver K C = true
 sa : PySem.W.findIn K (.ref C) "__setattr__" = some (some (.builtin "object.__setattr__"))
theorem Cls.get {K : Fg} {C : Addr} (c : Cls K C) (f : Str) : PySem.W.plainGet K C f = true := c.pg
def NoAttr (K : Fg) (C : Addr) (f : Str) : Prop := PySem.W.findIn K (.ref C) f = some none
structure Con (K : Fg) (C : Addr) (f : Str) (v : V) (u : Value) : Prop where
 at_ : PySem.W.findIn K (.ref C) f = some (some u)
 rel : RelV v u
 get : PySem.W.specialIn K u "__get__" = some none
 cp : PySem.W.copiedNames.contains f = false
structure Meth (K : Fg) (C : Addr) (m : Str) (f : Addr) : Prop where
 at_ : PySem.W.findIn K (.ref C) m = some (some (.ref f))
 fn : PySem.W.isFn K (.ref f) = true
 kp : PySem.W.keepIn K (.ref f) = true
section
variable {X : Cx} {pins : PLs} {σ : St} {H : Hp} {s : Shared} {a C dx : Addr} {fs : List (Str × V)} {f : Str} {v : V} {A : Around} {E : VSP}
end
def tFld (K : Fg) (ta : TE) (f : Str) : TE := fun σ H Q => ta σ H fun x H1 => ∃ a C dx fs v, x = .ref a /\ H1 a = some (.ins C dx fs) /\ Cls K C /\ NoAttr K C f /\ fs.lookup f = some v /\ Q v H1
def tCon (K : Fg) (ta : TE) (f : Str) : TE := fun σ H Q => ta σ H fun x H1 => ∃ a C dx fs v u, x = .ref a /\ H1 a = some (.ins C dx fs) /\ Cls K C /\ Con K C f v u /\ fs.lookup f = none /\ Q v H1
def sFld (K : Fg) (ta tv : TE) (f : Str) : TS := fun D σ H => tv σ H fun y H1 => ta σ H1 fun x H2 => ∃ a C dx fs, x = .ref a /\ H2 a = some (.ins C dx fs) /\ Cls K C /\ NoAttr K C f /\ fs.length < 1000 ∧
 D.nx σ (upd H2 a (.ins C dx (putF f y fs)))
def InOp (X : Cx) (op : Operator) (rd : V -> V -> Hp -> VK -> Prop) : Prop :=
 ∀ (pins : PLs) (s : Shared) (σ : St) (H : Hp) (x y : V) (u v : Value) (Q : VK), Inv X pins σ H s -> RelV x u -> RelV y v -> rd x y H Q -> wpAny (model X.prog X.w) X.A (inplaceOp op u v) (EP X pins σ Q) X.xe s
def sFldAug (K : Fg) (ta tv : TE) (rd : V -> V -> Hp -> VK -> Prop) (f : Str) : TS := fun D σ H => ta σ H fun x H1 => ∃ a C dx fs v, x = .ref a /\ H1 a = some (.ins C dx fs) /\ Cls K C /\ NoAttr K C f /\ fs.lookup f = some v ∧
 tv σ H1 fun y H2 => rd v y H2 fun z H3 => ∃ dx' fs', H3 a = some (.ins C dx' fs') /\ fs'.length < 1000 /\ D.nx σ (upd H3 a (.ins C dx' (putF f z fs')))
section
variable {X : Cx} {o e value : Expr} {f : Str} {pos pos' tpos : Pos} {ta tv : TE}
def rAdd : V -> V -> Hp -> VK -> Prop := fun x y H Q => ∃ i j, x = .int i /\ y = .int j /\ Q (.int (i + j)) H
def rSub : V -> V -> Hp -> VK -> Prop := fun x y H Q => ∃ i j, x = .int i /\ y = .int j /\ Q (.int (i - j)) H
end
section
variable {X : Cx} {pins : PLs} {σ : St} {H : Hp} {s : Shared} {A : Around} {E : VSP} {Q : VSP} {c : Value} {b : Bool}
inductive TyOf (K : Fg) (H : Hp) : V -> Value -> Prop where
 | non : TyOf K H .non (.type "NoneType")
 | bl (x : Bool) : TyOf K H (.bl x) (.type "bool")
 | int (i : Int) : TyOf K H (.int i) (.type "int")
 | str (x : Str) : TyOf K H (.str x) (.type "str")
 | flt (x : UInt64) : TyOf K H (.flt x) (.type "float")
 | lst {a : Addr} {xs : List V} (e : H a = some (.lst xs)) : TyOf K H (.ref a) (.type "list")
 | frz {a : Addr} {o : Obj} {xs : List V} (e : H a = some (.frz o (.lst xs))) : TyOf K H (.ref a) (.type "list")
 | tup {a : Addr} {xs : List V} (e : H a = some (.tup xs)) : TyOf K H (.ref a) (.type "tuple")
 | dK {a : Addr} {kvs : List (Key × V)} (e : H a = some (.dK kvs)) : TyOf K H (.ref a) (.type "dict")
 | dT {a : Addr} {kvs : List (List Key × V)} (e : H a = some (.dT kvs)) : TyOf K H (.ref a) (.type "dict")
 | ins {a C dx : Addr} {fs : List (Str × V)} (e : H a = some (.ins C dx fs)) (cl : Cls K C) (ha : PySem.W.findIn K (.ref C) "__class__" = some (some (.builtin "object.__class__")))
   (hn : PySem.W.specialIn K (.builtin "object.__class__") "__get__" = some (some (.builtin "getset_descriptor.__get__"))) (htk : PySem.W.takesIn K (.builtin "object.__class__") = some true)
   (hm : PySem.W.mroIn K C (.type "object") = some true) : TyOf K H (.ref a) (.ref C)
theorem isinst_ok {x : V} {u t : Value} (I : Inv X pins σ H s) (rx : RelV x u) (ty : TyOf X.K H x t) (e : PySem.W.kitOne X.K t c = some b) (h : ∀ tk, Q (.bool b) { s with toks := tk }) :
  wpAny (model X.prog X.w) A (call (.builtin "isinstance") [u, c]) Q E s := by
 cases ty with
 | non => cases (show u = Value.none from rx); exact PySem.W.kia_one PySem.W.kitx_none I.kIn True.intro e (fun z => nomatch z) h
 | bl y => cases (show u = Value.bool y from rx); exact PySem.W.kia_one PySem.W.kitx_bool I.kIn True.intro e (fun z => nomatch z) h
 | int i => obtain ⟨t, q⟩ := (show ∃ t, u = Value.int i t from rx); cases q; exact PySem.W.kia_one PySem.W.kitx_int I.kIn True.intro e (fun z => nomatch z) h
 | str y => obtain ⟨t, q⟩ := (show ∃ t, u = Value.str y t from rx); cases q; exact PySem.W.kia_one PySem.W.kitx_str I.kIn True.intro e (fun z => nomatch z) h
 | flt y => obtain ⟨t, q⟩ := (show ∃ t, u = Value.float y t from rx); cases q; exact PySem.W.kia_one PySem.W.kitx_float I.kIn True.intro e (fun z => nomatch z) h
 | @lst a xs ea =>
  cases (show u = Value.ref a from rx)
  obtain ⟨_, _, n, _, h1⟩ := (show ObjOk X.prog X.w H s.heap a (.lst xs) from I.hok a _ ea)
  exact PySem.W.kia_one PySem.W.kitx_list I.kIn ⟨_, h1, rfl⟩ e (fun z => nomatch z) h
 | @frz a ob xs ea =>
  cases (show u = Value.ref a from rx)
  obtain ⟨_, _, _, n, _, h1⟩ := (show ObjOk X.prog X.w H s.heap a (.frz ob (.lst xs)) from I.hok a _ ea)
  exact PySem.W.kia_one PySem.W.kitx_list I.kIn ⟨_, h1, rfl⟩ e (fun z => nomatch z) h
 | @tup a xs ea =>
  cases (show u = Value.ref a from rx)
  obtain ⟨_, _, _, p⟩ := (show ObjOk X.prog X.w H s.heap a (.tup xs) from I.hok a _ ea)
  obtain ⟨o, h1, h2, _⟩ := p
  exact PySem.W.kia_one PySem.W.kitx_tuple I.kIn ⟨o, h1, h2⟩ e (fun z => nomatch z) h
 | @dK a kvs ea =>
  cases (show u = Value.ref a from rx)
  obtain ⟨_, _, vs, _, p⟩ := (show ObjOk X.prog X.w H s.heap a (.dK kvs) from I.hok a _ ea)
  obtain ⟨o, es, ep, h1, h2, _⟩ := p
  exact PySem.W.kia_one PySem.W.kitx_dict I.kIn ⟨o, h1, h2.1⟩ e (fun z => nomatch z) h
 | @dT a kvs ea =>
  cases (show u = Value.ref a from rx)
  obtain ⟨_, _, xs, _, o, es, ep, h1, h2, _⟩ := (show ObjOk X.prog X.w H s.heap a (.dT kvs) from I.hok a _ ea)
  exact PySem.W.kia_one PySem.W.kitx_dict I.kIn ⟨o, h1, h2.1⟩ e (fun z => nomatch z) h
 | @ins a C dx fs ea cl ha hn htk hm =>
  cases (show u = Value.ref a from rx)
  obtain ⟨mA, O, _⟩ := ins_get I.hok ea
  obtain ⟨od, J, _⟩ := O.look
  exact PySem.W.kia_one (PySem.W.kitx_own (cl.get _) cl.hd ha hn htk hm) I.kIn J e (fun z => nomatch z) h
end
end L2
namespace L2
open PySem PySem.Spec PyProof.Rows
structure Room (k : Nat) (A : Around) : Prop where
 hd : A.handled = none
 dp : A.depth + 3 * k + 5 < recursionLimit
 un : A.units + 16 * k + 200 < cLine
 gd : A.guards = some []
theorem Room.mono {j k : Nat} {A : Around} (r : Room k A) (h : j ≤ k) : Room j A := ⟨r.hd, by have := r.dp; omega, by have := r.un; omega, r.gd⟩
theorem Room.deeper {k : Nat} {A : Around} (r : Room (k + 1) A) (env : Env) : Room k (A.deeper env) :=
 ⟨r.hd, by have := r.dp; show A.depth + 1 + 3 * k + 5 < _; omega, by have := r.un; show A.units + 3 + 16 * k + 200 < _; omega, r.gd⟩
theorem make_depth {A : Around} {C : Addr} {us : List Value} {kw : List (Str × Value)} : (A.under (.builtin "type.__call__" ⟨.ref C :: us, kw⟩)).depth = A.depth + 1 := by
 first | rfl | simp [Around.under, Code.weight, Code.isCreation, Code.isGuard, Code.isCaller, Code.frames, Code.isFrame, guardIds]
theorem make_units {A : Around} {C : Addr} {us : List Value} {kw : List (Str × Value)} : (A.under (.builtin "type.__call__" ⟨.ref C :: us, kw⟩)).units = A.units + 1 := by
 first | rfl | simp [Around.under, Code.cUnits, Code.frames, Code.isFrame]
theorem make_guards {A : Around} {C : Addr} {us : List Value} {kw : List (Str × Value)} : (A.under (.builtin "type.__call__" ⟨.ref C :: us, kw⟩)).guards = A.guards := by
 first | rfl | simp [Around.under, Code.guards, Code.isGuard, guardIds, pushGuards]
theorem Room.make {k : Nat} {A : Around} (r : Room (k + 1) A) (C : Addr) (us : List Value) (kw : List (Str × Value)) : Room k (A.under (.builtin "type.__call__" ⟨.ref C :: us, kw⟩)) :=
 ⟨r.hd, by have := r.dp; rw [make_depth]; omega, by have := r.un; rw [make_units]; omega, by rw [make_guards]; exact r.gd⟩
theorem Room.depth {k : Nat} {A : Around} (r : Room k A) : A.depth < recursionLimit := by have := r.dp; omega
theorem Room.units {k : Nat} {A : Around} (r : Room k A) : A.units + 64 < cLine := by have := r.un; omega
def tNil : TA := fun _ H Q => Q [] H
def tCons (ta : TE) (tr : TA) : TA := fun σ H Q => ta σ H fun x H1 => tr σ H1 fun xs H2 => Q (x :: xs) H2
section
variable {X : Cx} {e : Expr} {es : List Expr} {te : TE} {t : TA} {pos : Pos}
theorem pa_nil : PA X [] tNil := fun _ _ _ _ H Q I h => Calls.spliced_nil ⟨[], H, I, .nil, h⟩
theorem pa_cons (ha : PE X e te) (hr : PA X es t) (hs : starEach (e :: es) X.env = (false, eval e X.env) :: starEach es X.env := by rfl) : PA X (e :: es) (tCons te t) := by
 intro pos pins s σ H Q I h
 rw [hs]
 show wpAny _ _ (spliced ((false, eval e X.env) :: backTo pos (starEach es X.env))) _ _ s
 refine Calls.spliced_cons (thn (ha pins s σ H _ I h) fun u s1 ⟨x, H1, I1, r1, q1⟩ => ?_)
 exact thn (hr pos pins s1 σ H1 _ I1 q1) fun us s2 ⟨xs, H2, I2, r2, q2⟩ => ⟨x :: xs, H2, I2, .cons r1 r2, q2⟩
def tTup (t : TA) : TE := fun σ H Q => t σ H fun xs H1 => xs.length ≤ sizeLine /\ ∀ p, H1 p = none -> Q (.ref p) (upd H1 p (.tup xs))
def tLst (t : TA) : TE := fun σ H Q => t σ H fun xs H1 => xs.length ≤ sizeLine /\ ∀ p, H1 p = none -> Q (.ref p) (upd H1 p (.lst xs))
theorem pe_tup {x1} (h : PA X es t) : PE X (.Tuple es x1 pos) (tTup t) := by
 intro pins s σ H Q I hq
 refine wpAny_Tuple_spliced (thn (h pos pins s σ H _ I hq) fun us s1 ⟨xs, H1, I1, r, z, q⟩ => ⟨by rw [← r.length]; exact z, ?_⟩)
 have hf : H1 s1.heap.objs.size = none := I1.hok.fresh (Nat.le_refl _)
 refine ⟨.ref s1.heap.objs.size, upd H1 s1.heap.objs.size (.tup xs), I1.laid (t' := s1.toks) (fun b u e => Heap.get?_push_of_some _ e) (Nat.le_refl _) ?_, rfl, q _ hf⟩
 exact ⟨z, us, r, ⟨_, Heap.get?_push_size _ rfl, rfl, _, rfl⟩⟩
theorem pe_lst (h : PA X es t) : PE X (.List es pos) (tLst t) := by
 intro pins s σ H Q I hq
 refine wpAny_List_spliced (thn (h pos pins s σ H _ I hq) fun us s1 ⟨xs, H1, I1, r, z, q⟩ => ⟨by rw [← r.length]; exact z, ?_⟩)
 have hf : H1 s1.heap.objs.size = none := I1.hok.fresh (Nat.le_refl _)
 refine ⟨.ref s1.heap.objs.size, upd H1 s1.heap.objs.size (.lst xs), I1.laid (t' := s1.toks) (fun b u e => Heap.get?_push_of_some _ e) (Nat.le_refl _) ?_, rfl, q _ hf⟩
 exact ⟨z, us, 0, r, Heap.get?_push_size _ rfl⟩
end
abbrev Sp := List V -> Hp -> VK -> XK -> Prop
abbrev CXT := List Env -> Hp -> Shared -> XK -> Value -> Shared -> Prop
structure Env0 (P : Program) (w : World) (K : Fg) (mg : Str -> Option Value) (base : Heap) (A : Around) (outer : List Env) (s : Shared) (H : Hp) : Prop where
 frames : A.frames = some outer
 mod : Mod K mg base
 bs : ∀ b o, base.get? b = some o -> s.heap.get? b = some o /\ H b = none
 bsz : base.objs.size ≤ s.heap.objs.size
 funs : s.heap.FunFrames base outer
 frf : ∀ b ∈ frs outer, H b = none
 hok : HOk P w H s.heap
 bare : AllBare s.gens
def CE (outer : List Env) (P : Program) (w : World) (H : Hp) (s : Shared) (Q : VK) (u : Value) (s' : Shared) : Prop :=
 ∃ v H', s'.os = s.os /\ AllBare s'.gens /\ Un (frs outer) [] H H' s.heap s'.heap /\ HOk P w H' s'.heap /\ RelV v u /\ Q v H'
def CR (CX : CXT) (outer : List Env) (P : Program) (w : World) (H : Hp) (s : Shared) (Q : VK) (E : XK) (r : Result) (s' : Shared) : Prop :=
 match r with
 | .ok (.ret u) => CE outer P w H s Q u s'
 | .ok _ => False
 | .error e => CX outer H s E e s'
structure FnOk (P : Program) (w : World) (K : Fg) (mg : Str -> Option Value) (base : Heap) (CX : CXT) (k : Nat) (f : Addr) (fd : FuncData) (ps : List Str) (sp : Sp) : Prop where
 len : ∀ vs H Q E, sp vs H Q E -> vs.length = ps.length
 run : ∀ (A : Around) (outer : List Env) (s : Shared) (H : Hp) (args : Args) (us : List Value) (vs : List V) (Q : VK) (E : XK), Room k A -> Env0 P w K mg base A outer s H -> BindsTo s fd args (ps.zip us) -> Vals vs us -> sp vs H Q E →
  codeAny (model P w) A (.call (.ref f) args) (CR CX outer P w H s Q E) s
theorem Env0.make {P : Program} {w : World} {K : Fg} {mg : Str -> Option Value} {base : Heap} {A : Around} {outer : List Env} {s : Shared} {H : Hp} (e : Env0 P w K mg base A outer s H) (C : Addr) (us : List Value) (kw : List (Str × Value)) :
  Env0 P w K mg base (A.under (.builtin "type.__call__" ⟨.ref C :: us, kw⟩)) outer s H := ⟨by first | exact e.frames | (simpa [Around.under, Code.envs, Code.isFrame, pushEnvs] using e.frames), e.mod, e.bs, e.bsz, e.funs, e.frf, e.hok, e.bare⟩
section
variable {X : Cx} {pins : PLs} {σ : St} {H : Hp} {s s' : Shared}
theorem Inv.env0 (I : Inv X pins σ H s) : Env0 X.prog X.w X.K X.mg X.base X.A X.stack s H :=
 ⟨I.ok.frames, I.ok.mod, I.bs, Nat.le_trans I.ok.bsz I.sz, I.stack, I.stkFree, I.hok, I.bare⟩
theorem Inv.after {Q : VK} {u : Value} (I : Inv X pins σ H s) (h : CE X.stack X.prog X.w H s Q u s') : EP X pins σ Q u s' := by
 obtain ⟨v, H', os, bare, un, hok, r, q⟩ := h
 obtain ⟨hh, g, d, t, os'⟩ := s'
 obtain rfl : os' = s.os := os
 exact ⟨v, H', I.call (h' := hh) (g' := g) (d' := d) (t' := t) (ch := []) un hok bare (fun b z => absurd z (by simp)), r, q⟩
end
def tCall (sp : Sp) (dvs : List V) (E : XK) (t : TA) : TE := fun σ H Q => t σ H fun vs H1 => sp (vs ++ dvs) H1 Q E
def tMeth (C : Addr) (m : Str) (sp : Sp) (dvs : List V) (E : XK) (ta : TE) (t : TA) : TE := fun σ H Q => ta σ H fun x H1 => ∃ a dx fs, x = .ref a /\ H1 a = some (.ins C dx fs) /\ fs.lookup m = none ∧
 t σ H1 fun vs H2 => sp (x :: (vs ++ dvs)) H2 Q E
def tMake (C : Addr) (sp : Sp) (dvs : List V) (E : XK) (t : TA) : TE := fun σ H Q => t σ H fun vs H1 => ∀ x dx, H1 x = none -> H1 dx = none -> dx ≠ x →
 sp (.ref x :: (vs ++ dvs)) (upd (upd H1 dx (.own x)) x (.ins C dx [])) (fun v H2 => v = .non /\ Q (.ref x) H2) E
def Binds (K : Fg) (fd : FuncData) (ps : List Str) (ds : List Value) : Prop :=
 ∀ (s : Shared) (us : List Value), K.In s.heap -> (us ++ ds).length = ps.length -> BindsTo s fd ⟨us, []⟩ (ps.zip (us ++ ds))
theorem Binds.all {K : Fg} {fd : FuncData} {ps : List Str} (h : ∀ us : List Value, us.length = ps.length -> bindArgs fd ⟨us, []⟩ = pure (ps.zip us)) : Binds K fd ps [] := fun s us _ hl => by
 rw [List.append_nil] at hl ⊢
 exact .of_eq (h us hl)
def Passes (CX : CXT) (X : Cx) (E : XK) : Prop := ∀ (pins : PLs) (σ : St) (H : Hp) (s : Shared) (e : Value) (s' : Shared), Inv X pins σ H s -> CX X.stack H s E e s' -> X.xe e s'
section
variable {X : Cx} {CX : CXT} {k : Nat} {f C : Addr} {fd : FuncData} {ps : List Str} {sp : Sp} {dvs : List V} {ds : List Value} {E : XK} {x m : Str} {p pos apos : Pos} {e o : Expr} {es : List Expr} {ta : TE} {t : TA}
theorem run_fn {pins : PLs} {σ : St} {H : Hp} {s : Shared} {Q : VK} {us : List Value} {vs : List V} (F : FnOk X.prog X.w X.K X.mg X.base CX k f fd ps sp) (hr : Room k X.A) (hb : Binds X.K fd ps ds) (hd : Vals dvs ds) (hx : Passes CX X E)
  (I : Inv X pins σ H s) (r : Vals vs us) (h : sp (vs ++ dvs) H Q E) : wpAny (model X.prog X.w) X.A (call (.ref f) us) (EP X pins σ Q) X.xe s := by
 have r2 : Vals (vs ++ dvs) (us ++ ds) := r.append hd
 have hl : (us ++ ds).length = ps.length := by rw [← r2.length]; exact F.len _ _ _ _ h
 refine wpAny_call (codeAny_mono (F.run X.A X.stack s H ⟨us, []⟩ (us ++ ds) (vs ++ dvs) Q E hr I.env0 (hb s us I.kIn hl) r2 h) fun r s' hq => ?_)
 cases r with
 | error e => exact hx pins σ H s e s' I hq
 | ok fl =>
  cases fl with
  | ret u => exact I.after hq
  | next => exact False.elim hq
  | brk => exact False.elim hq
  | cont => exact False.elim hq
theorem pe_call (F : FnOk X.prog X.w X.K X.mg X.base CX k f fd ps sp) (hr : Room k X.A) (hg : Gl X x) (hm : X.mg x = some (.ref f)) (hk : PySem.W.keepIn X.K (.ref f) = true) (hb : Binds X.K fd ps ds) (hd : Vals dvs ds) (hx : Passes CX X E)
  (ha : PA X (e :: es) t) (hdb : (x == ("__debug__" : Str)) = false := by decide) (he : starEach (e :: es) X.env = (false, eval e X.env) :: starEach es X.env := by rfl) (hpl : (backTo pos (starEach es X.env)).any (·.1) = false := by rfl) :
  PE X (.Call (.Name x p) (e :: es) [] pos) (tCall sp dvs E t) := by
 intro pins s σ H Q I h
 refine wpAny_Call_Name_kw (ld_glob I hg hm ?_ hdb)
 refine PySem.W.callWith_K (h₀ := X.base) I.ok.mod.kin hk (thn (ha pos pins s σ H _ I h) fun us s1 ⟨vs, H1, I1, r, q⟩ => ⟨I1.kIn, ?_⟩) he hpl
 exact run_fn F hr hb hd hx I1 r q
structure Mk (K : Fg) (C f : Addr) : Prop where
 makes : PySem.W.makesIn K C = true
 init : PySem.W.findIn K (.ref C) "__init__" = some (some (.ref f))
 fn : PySem.W.isFn K (.ref f) = true
 kp : PySem.W.keepIn K (.ref C) = true
end
def PK (X : Cx) (kws : List Keyword) (t : TA) : Prop :=
 ∀ (pos : Pos) (pins : PLs) (s : Shared) (σ : St) (H : Hp) (Q : List V -> Hp -> Prop), Inv X pins σ H s -> t σ H Q -> wpAny (model X.prog X.w) X.A (evalAll ((backToKw pos (keywordEach kws X.env)).map (·.2))) (AP X pins σ Q) X.xe s
section
variable {X : Cx} {CX : CXT} {k : Nat} {f C : Addr} {fd : FuncData} {ps ks : List Str} {sp : Sp} {E : XK} {x m : Str} {p pos apos kpos : Pos} {e o : Expr} {es : List Expr} {kws : List Keyword} {te ta : TE} {t tk : TA} {nm : Option Str}
structure KBinds (K : Fg) (fd : FuncData) (ps ks : List Str) (g : List Value -> List Value -> List Value) (gV : List V -> List V -> List V) : Prop where
 to : ∀ (s : Shared) (us ws : List Value), K.In s.heap -> (g us ws).length = ps.length -> BindsTo s fd ⟨us, ks.zip ws⟩ (ps.zip (g us ws))
 rel : ∀ {vs : List V} {us : List Value} {zs : List V} {ws : List Value}, Vals vs us -> Vals zs ws -> Vals (gV vs zs) (g us ws)
def tCallK (sp : Sp) (gV : List V -> List V -> List V) (E : XK) (t tk : TA) : TE := fun σ H Q => t σ H fun vs H1 => tk σ H1 fun zs H2 => sp (gV vs zs) H2 Q E
variable {g : List Value -> List Value -> List Value} {gV : List V -> List V -> List V}
end
structure FnScope (N P : List Str) (sc : Scope) : Prop where
 kind : sc.kind = .function
 co : sc.isCoroutine = false
 gen : sc.isGenerator = false
 nd : N.Nodup
 pre : N.take P.length = P
 par : ∀ x ∈ P, sc.names.lookup x = some .local ∨ sc.names.lookup x = some .cell
 nofree : ∀ y ∈ sc.names, y.2 ≠ .free
theorem bindL_out {kindOf : Str -> Option NameKind} {x : Str} : ∀ {binds : List (Str × Value)} {m : Str -> Option Value}, (∀ v, (x, v) ∉ binds) -> bindL kindOf binds m x = m x
 | [], _, _ => rfl
 | (n, v) :: r, m, h => by
  unfold bindL
  rw [bindL_out fun w hw => h w (List.mem_cons_of_mem _ hw)]
  split
  ·have : x ≠ n := by rintro rfl; exact h v List.mem_cons_self
   simp [this]
  ·rfl
theorem bindC_out {kindOf : Str -> Option NameKind} {x : Str} : ∀ {binds : List (Str × Value)} {m : Str -> Option Value}, (∀ v, (x, v) ∉ binds) -> bindC kindOf binds m x = m x
 | [], _, _ => rfl
 | (n, v) :: r, m, h => by
  unfold bindC
  rw [bindC_out fun w hw => h w (List.mem_cons_of_mem _ hw)]
  split
  ·rfl
  ·have : x ≠ n := by rintro rfl; exact h v List.mem_cons_self
   simp [this]
theorem bindL_get {kindOf : Str -> Option NameKind} {x : Str} {v : Value} : ∀ {P : List Str} {vs : List Value} {i : Nat} {m : Str -> Option Value}, P.Nodup -> P[i]? = some x -> vs[i]? = some v -> kindOf x = some .local →
  bindL kindOf (P.zip vs) m x = some v
 | [], _, _, _, _, h, _, _ => by simp at h
 | _ :: _, [], _, _, _, _, h, _ => by simp at h
 | p :: P, w :: vs, 0, m, nd, h1, h2, hk => by
  simp at h1 h2; subst h1; subst h2
  show bindL kindOf ((p, w) :: P.zip vs) m p = _
  unfold bindL
  rw [bindL_out fun v hv => (List.nodup_cons.mp nd).1 (List.of_mem_zip hv).1, if_pos hk]
  simp
 | p :: P, w :: vs, i + 1, m, nd, h1, h2, hk => by
  show bindL kindOf ((p, w) :: P.zip vs) m x = _
  unfold bindL
  exact bindL_get (i := i) (List.nodup_cons.mp nd).2 (by simpa using h1) (by simpa using h2) hk
theorem bindC_get {kindOf : Str -> Option NameKind} {x : Str} {v : Value} : ∀ {P : List Str} {vs : List Value} {i : Nat} {m : Str -> Option Value}, P.Nodup -> P[i]? = some x -> vs[i]? = some v -> kindOf x ≠ some .local →
  bindC kindOf (P.zip vs) m x = some v
 | [], _, _, _, _, h, _, _ => by simp at h
 | _ :: _, [], _, _, _, _, h, _ => by simp at h
 | p :: P, w :: vs, 0, m, nd, h1, h2, hk => by
  simp at h1 h2; subst h1; subst h2
  show bindC kindOf ((p, w) :: P.zip vs) m p = _
  unfold bindC
  rw [bindC_out fun v hv => (List.nodup_cons.mp nd).1 (List.of_mem_zip hv).1, if_neg hk]
  simp
 | p :: P, w :: vs, i + 1, m, nd, h1, h2, hk => by
  show bindC kindOf ((p, w) :: P.zip vs) m x = _
  unfold bindC
  exact bindC_get (i := i) (List.nodup_cons.mp nd).2 (by simpa using h1) (by simpa using h2) hk
def start (N : List Str) (vs : List V) : St := vs.map some ++ List.replicate (N.length - vs.length) none
def cxOf (CX : CXT) (P : Program) (w : World) (K : Fg) (mg : Str -> Option Value) (base : Heap) (N : List Str) (qual : Str) (scope : Scope) (f : Addr) (cd : Value) (A : Around) (outer : List Env) (s : Shared) (H : Hp) (E : XK) : Cx where
 prog := P
 w := w
 K := K
 mg := mg
 base := base
 A := A.deeper (envOfC qual scope s.heap.objs.size f cd)
 N := N
 s₀ := s
 H₀ := H
 env := envOfC qual scope s.heap.objs.size f cd
 outer := outer
 stack := envOfC qual scope s.heap.objs.size f cd :: outer
 ex := []
 calm := true
 fn := fun _ => true
 pn := []
 xe := fun e s' => wpAny (model P w) (A.deeper (envOfC qual scope s.heap.objs.size f cd)) (leaving (envOfC qual scope s.heap.objs.size f cd) e) (fun _ s'' => CX outer H s E e s'') (fun e' s'' => CX outer H s E e' s'') s'
theorem cell_has {sc : Scope} {n : Nat} {x : Str} (h : sc.names.lookup x = some .cell) : ∃ c, (cellsFrom n sc.names []).lookup x = some c := by
 have q := PySem.W.cellsFrom_some sc.names n [] (.inl h)
 exact Option.isSome_iff_exists.mp q
theorem inv_start {CX : CXT} {P : Program} {w : World} {K : Fg} {mg : Str -> Option Value} {base : Heap} {N ps : List Str} {qual : Str} {scope : Scope} {f : Addr} {cd : Value} {A : Around} {outer : List Env} {s s1 : Shared} {H : Hp} {E : XK} {us : List Value} {vs : List V}
  (S : FnScope N ps scope) (hd : A.handled = none) (e0 : Env0 P w K mg base A outer s H) (hl : vs.length = ps.length) (r : Vals vs us)
  (x : InCallC s s.heap.objs.size (bindL (envOfC qual scope s.heap.objs.size f cd).kindOf (ps.zip us) fun _ => none) (cellsFrom (s.heap.objs.size + 1) scope.names []) (bindC (envOfC qual scope s.heap.objs.size f cd).kindOf (ps.zip us) fun _ => none) s1) :
  Inv (cxOf CX P w K mg base N qual scope f cd A outer s H E) [] (start N vs) H s1 := by
 have hpl : ps.length ≤ N.length := by have := congrArg List.length S.pre; rw [List.length_take] at this; omega
 obtain ⟨h1, tk, rfl, hk⟩ := x.done
 have noA : ∀ b : Addr, b ∉ (cxOf CX P w K mg base N qual scope f cd A outer s H E).ex := fun b z => absurd (show b ∈ ([] : List Addr) from z) (by simp)
 refine ⟨⟨e0.mod, S.kind, rfl, rfl, Nat.le_refl _, fun y z c h1 h2 => ?_, fun y hy => ?_, fun y c _ h => ?_, fun _ => hd, Around.frames_deeper e0.frames, .inr ⟨rfl, rfl⟩, fun b z => absurd z (noA b), e0.bs, e0.bsz, fun b _ _ => noA b, fun b z => absurd z (noA b), e0.funs, e0.frf⟩,
  rfl, e0.bare, Un.kept hk, ⟨_, x.toInCall.ns, fun i y v h1 h2 h3 => ?_⟩, fun y c h => ⟨_, x.cell y c h⟩, e0.hok.fresh (Nat.le_refl _), fun y c h => ?_, fun p hp => absurd (show p ∈ ([] : PLs) from hp) (by simp), e0.hok.kept hk, ?_⟩
 ·exact name_of_addr x.apart (PySem.mem_of_lookup h1) (PySem.mem_of_lookup h2)
 ·have hy : scope.names.lookup y = some .cell ∨ scope.names.lookup y = some .free := hy
  rcases hy with hy | hy
  ·exact cell_has hy
  ·exact absurd rfl (S.nofree _ (PySem.mem_of_lookup hy))
 ·exact Nat.le_of_lt (x.above y c (PySem.mem_of_lookup h))
 ·have hi : i < vs.length := by
   unfold start at h2
   by_cases hi : i < vs.length
   ·exact hi
   ·rw [List.getElem?_append_right (by simpa using hi)] at h2
    rw [List.getElem?_replicate] at h2
    split at h2 <;> cases h2
  have ha : vs[i]? = some v := by
   unfold start at h2
   rw [List.getElem?_append_left (by simpa using hi), List.getElem?_map] at h2
   cases e : vs[i]? with
   | none => rw [e] at h2; cases h2
   | some a => rw [e] at h2; cases h2; rfl
  obtain ⟨u, hu, rv⟩ := r.get ha
  have hp : ps[i]? = some y := by
   rw [← S.pre, List.getElem?_take_of_lt (by omega)]; exact h1
  have ndP : ps.Nodup := by rw [← S.pre]; exact S.nd.sublist (List.take_sublist _ _)
  refine ⟨u, rv, ?_⟩
  rcases S.par y (List.mem_of_getElem? hp) with k | k
  ·exact .inl ⟨k, bindL_get ndP hp hu k⟩
  ·obtain ⟨c, e⟩ := cell_has (n := s.heap.objs.size + 1) k
   refine .inr ⟨.inl k, c, e, ?_⟩
   have q := x.cell y c e
   rw [bindC_get ndP hp hu (by show scope.names.lookup y ≠ _; rw [k]; decide)] at q
   exact q
 ·exact e0.hok.fresh (Nat.le_of_lt (x.above y c (PySem.mem_of_lookup h)))
 ·unfold start
  show _ = N.length
  rw [List.length_append, List.length_map, List.length_replicate]
  omega
theorem fn_of {CX : CXT} {P : Program} {w : World} {K : Fg} {mg : Str -> Option Value} {base : Heap} {k : Nat} {f : Addr} {name qual : Str} {params : Arguments} {body : List Stmt} {scope : Scope} {dV kV doc pm cdv ct oc : Value} {an od : Option Addr}
  {osl : Array (Option Value)} {N ps : List Str} {sp : Sp} (lk : K.lookup f = some ⟨oc, od, .func (PySem.W.fnOf name qual params body scope dV kV doc pm an cdv ct), osl⟩) (hcd : PySem.W.codeIn K cdv qual = true) (S : FnScope N ps scope)
  (len : ∀ vs H Q E, sp vs H Q E -> vs.length = ps.length)
  (hbody : ∀ (A : Around) (outer : List Env) (s : Shared) (H : Hp) (vs : List V) (Q : VK) (E : XK), Room k (A.deeper (envOfC qual scope s.heap.objs.size f cdv)) -> sp vs H Q E →
   ∃ t, PSs (cxOf CX P w K mg base N qual scope f cdv A outer s H E) body t /\ t { nx := fun _ H' => Q .non H', rt := Q } (start N vs) H) :
  FnOk P w K mg base CX (k + 1) f (PySem.W.fnOf name qual params body scope dV kV doc pm an cdv ct) ps sp := by
 refine ⟨len, fun A outer s H args us vs Q E hr e0 hb r hsp => ?_⟩
 have hl := len _ _ _ _ hsp
 have KX : K.In s.heap := e0.mod.kin.keeps fun b o e => (e0.bs b o e).1
 have lim : s.heap.NoLimit := e0.mod.nolimit.keeps fun b o e => (e0.bs b o e).1
 have hkind : ∀ y ∈ ps.zip us, scope.names.lookup y.1 = some .local ∨ (scope.names.lookup y.1 = some .cell /\ ((cellsFrom (s.heap.objs.size + 1) scope.names []).lookup y.1).isSome = true) := fun ⟨n, v⟩ hy => by
  rcases S.par n (List.of_mem_zip hy).1 with q | q
  ·exact .inl q
  ·exact .inr ⟨q, PySem.W.cellsFrom_some _ _ _ (.inl q)⟩
 refine codeAny_call_function hr.depth (KX _ _ lk) rfl S.co S.gen rfl (PySem.W.codeRec_of KX hcd) (hb _ _ _ _ ?_)
 refine wpAny_newFunctionEnv_cells S.kind hkind fun env he s1 x => ?_
 subst he
 refine ⟨lim.keeps x.toInCall.keep, codeAny_func ?_⟩
 obtain ⟨t, ht, hq⟩ := hbody A outer s H vs Q E (hr.deeper _) hsp
 have I : Inv (cxOf CX P w K mg base N qual scope f cdv A outer s H E) [] (start N vs) H s1 := inv_start S hr.hd e0 hl r x
 refine wpAny_mono (ht [] s1 (start N vs) H _ I hq) (fun fl s' hs => ?_) fun e s' hs => hs
 have fin : ∀ {σ' : St} {H' : Hp} {v : V} {u : Value}, Inv (cxOf CX P w K mg base N qual scope f cdv A outer s H E) [] σ' H' s' -> RelV v u -> Q v H' -> CE outer P w H s Q u s' :=
  fun {σ' H' v u} J rv q => ⟨v, H', J.os, J.bare, J.base, J.hok, rv, q⟩
 cases fl with
 | ret u =>
  obtain ⟨v, σ', H', J, rv, q⟩ := hs
  exact fin J rv q
 | next =>
  obtain ⟨σ', H', J, q⟩ := hs
  exact fin (v := V.non) (u := Value.none) J rfl q
 | brk =>
  obtain ⟨_, _, _, q⟩ := hs
  exact False.elim q
 | cont =>
  obtain ⟨_, _, _, q⟩ := hs
  exact False.elim q
end L2
namespace L2
open PySem PySem.Spec PyProof.Rows
section
variable {X : Cx} {x : Str} {p pos : Pos} {e : Expr} {es : List Expr} {t : TA} {id T : String} {r : List V -> Hp -> VK -> Prop}
def tCB (r : List V -> Hp -> VK -> Prop) (t : TA) : TE := fun σ H Q => t σ H fun vs H1 => r vs H1 Q
theorem pe_callB (hc : CallR X (.builtin id) r) (hg : Gl X x) (hm : X.mg x = none) (hv : bootBuiltins x = some (.builtin id)) (ha : PA X (e :: es) t) (hn : x ≠ "__name__" := by decide) (hdb : (x == ("__debug__" : Str)) = false := by decide)
  (he : starEach (e :: es) X.env = (false, eval e X.env) :: starEach es X.env := by rfl) (hpl : (backTo pos (starEach es X.env)).any (·.1) = false := by rfl) : PE X (.Call (.Name x p) (e :: es) [] pos) (tCB r t) := by
 intro pins s σ H Q I h
 refine wpAny_Call_Name_kw (ld_blt I hg hm hv ?_ hn hdb)
 exact PyProof.Rows.callWith_builtin1 (thn (ha pos pins s σ H _ I h) fun us s1 ⟨vs, H1, I1, r1, q1⟩ => hc pins s1 σ H1 vs us Q I1 r1 q1) he hpl
theorem pe_callTy (hc : CallR X (.type T) r) (hg : Gl X x) (hm : X.mg x = none) (hv : bootBuiltins x = some (.type T)) (ha : PA X (e :: es) t) (hn : x ≠ "__name__" := by decide) (hdb : (x == ("__debug__" : Str)) = false := by decide)
  (he : starEach (e :: es) X.env = (false, eval e X.env) :: starEach es X.env := by rfl) (hpl : (backTo pos (starEach es X.env)).any (·.1) = false := by rfl) : PE X (.Call (.Name x p) (e :: es) [] pos) (tCB r t) := by
 intro pins s σ H Q I h
 refine wpAny_Call_Name_kw (ld_blt I hg hm hv ?_ hn hdb)
 exact PyProof.Rows.callWith_type1 (thn (ha pos pins s σ H _ I h) fun us s1 ⟨vs, H1, I1, r1, q1⟩ => hc pins s1 σ H1 vs us Q I1 r1 q1) he hpl
end
end L2
namespace HT
open PySem PyProof.Rows
def lexLt : List Int -> List Int -> Bool
 | [], [] => false
 | [], _ :: _ => true
 | _ :: _, [] => false
 | x :: xs, y :: ys => if x = y then lexLt xs ys else decide (x < y)
section
open PySem.SeqAt
open PySem.AutoSeq1 (wpAny_loadPart')
open PySem.MeetsSeq PySem.MeetsSeq2 PySem.MeetsSeq3
end
section
variable {prog : Program} {w : World} {A : Around} {E : VSP} {s : Shared}
def sIx (n d : Nat) : Option Int -> Nat
 | none => d
 | some v => if v < 0 then (v + (n : Int)).toNat else min v.toNat n
theorem sIx_none (n d : Nat) : sIx n d none = d := rfl
theorem sIx_nat (n d k : Nat) : sIx n d (some (k : Int)) = min k n := by
 show (if (k : Int) < 0 then ((k : Int) + (n : Int)).toNat else min (k : Int).toNat n) = min k n
 rw [if_neg (by omega), Int.toNat_natCast]
theorem sIx_le (n d : Nat) (hd : d ≤ n) (o : Option Int) : sIx n d o ≤ n := by
 cases o with
 | none => exact hd
 | some v =>
  show (if v < 0 then (v + (n : Int)).toNat else min v.toNat n) ≤ n
  by_cases hv : v < 0
  ·rw [if_pos hv]; omega
  ·rw [if_neg hv]; exact Nat.min_le_right _ _
theorem clip_eq (v : Int) (n d : Nat) : (if v < 0 then max (v + (n : Int)) 0 else min v (n : Int)) = ((sIx n d (some v) : Nat) : Int) := by
 show (if v < 0 then max (v + (n : Int)) 0 else min v (n : Int)) = (((if v < 0 then (v + (n : Int)).toNat else min v.toNat n) : Nat) : Int)
 by_cases hv : v < 0
 ·simp only [if_pos hv]; omega
 ·simp only [if_neg hv]; omega
theorem adjust_gen (lo hi : Option Int) (n : Nat) : Builtin.Slice.sliceAdjust lo hi 1 (n : Int) = (((sIx n 0 lo : Nat) : Int), ((sIx n n hi : Nat) : Int)) := by
 have h1 : ¬ ((1 : Int) < 0) := by omega
 unfold Builtin.Slice.sliceAdjust
 simp only [h1, if_false]
 refine Prod.ext ?_ ?_
 ·cases lo with
  | none => rfl
  | some v => exact clip_eq v n 0
 ·cases hi with
  | none => rfl
  | some v => exact clip_eq v n n
theorem places_gen (i j : Nat) : Builtin.Slice.slicePlaces (i : Int) (j : Int) 1 = j - i := by
 unfold Builtin.Slice.slicePlaces
 have h1 : (1 : Int) > 0 := by omega
 simp only [h1, if_true, Int.ediv_one]
 split <;> omega
theorem slicePart_ {v : Value} {o : Option Int} {Q : Option Int -> Shared -> Prop} (p : IsPart v o) (h : Q o s) : wpAny (model prog w) A (Builtin.Slice.slicePartIndex v) Q E s := by
 cases p with
 | none => exact slicePart_none h
 | int i t => exact slicePart_int h
theorem sliceApplied_gen {sl : Addr} {vl vu : Value} {lo hi : Option Int} {n : Nat} {Q : Int × Int × Nat -> Shared -> Prop} (hs : s.heap.IsSliceOf sl vl vu .none) (pl : IsPart vl lo) (pu : IsPart vu hi)
  (h : Q (((sIx n 0 lo : Nat) : Int), 1, sIx n n hi - sIx n 0 lo) s) : wpAny (model prog w) A (Builtin.Slice.sliceApplied (.ref sl) (pure (n : Int))) Q E s := by
 obtain ⟨os, hos, hcs, hds⟩ := id hs
 unfold Builtin.Slice.sliceApplied Builtin.Slice.sliceFields
 refine wpAny_bind (wpAny_bind (wpAny_field hos hds (x := vl) rfl (wpAny_bind (wpAny_field hos hds (x := vu) rfl (wpAny_bind (wpAny_field hos hds (x := .none) rfl (wpAny_pure ?_)))))))
 refine wpAny_bind (slicePart_none ?_)
 show wpAny _ _ (if ((1 : Int) == 0) = true then _ else _) _ _ s
 rw [if_neg (by decide)]
 refine wpAny_bind (slicePart_ pl (wpAny_bind (slicePart_ pu (wpAny_bind (wpAny_pure ?_)))))
 show wpAny _ _ (match Builtin.Slice.sliceAdjust lo hi 1 (n : Int) with | (lo, hi) => pure (lo, (1 : Int), Builtin.Slice.slicePlaces lo hi 1)) _ _ s
 rw [adjust_gen lo hi n]
 show wpAny _ _ (pure (((sIx n 0 lo : Nat) : Int), (1 : Int), Builtin.Slice.slicePlaces ((sIx n 0 lo : Nat) : Int) ((sIx n n hi : Nat) : Int) 1)) _ _ s
 rw [places_gen]
 exact wpAny_pure h
theorem pick_gen (xs : Array Value) (i k : Nat) : ((List.range k).filterMap fun (m : Nat) => xs[((i : Int) + (m : Int) * 1).toNat]?).toArray = ((xs.toList.drop i).take k).toArray := by
 have e : (fun (m : Nat) => xs[((i : Int) + (m : Int) * 1).toNat]?) = fun m => xs[i + m]? := by
  funext m
  have : ((i : Int) + (m : Int) * 1).toNat = i + m := by omega
  rw [this]
 rw [e]
 have := pick_run xs i k
 rw [List.filterMap_map] at this
 have e2 : ((fun x => xs[x]?) ∘ fun x => i + x) = fun m => xs[i + m]? := rfl
 rw [e2] at this
 rw [this]
theorem getItem_tuple_cut {t sl : Addr} {items : Array Value} {vl vu : Value} {lo hi : Option Int} {Q : VSP} (ht : IsTup s.heap t items) (hs : s.heap.IsSliceOf sl vl vu .none) (pl : IsPart vl lo) (pu : IsPart vu hi)
  (hw : ¬ (sIx items.size 0 lo = 0 /\ sIx items.size items.size hi = items.size))
  (h : Q (.ref s.heap.objs.size) { s with heap := s.heap.push { cls := .type "tuple", data := .seq ((items.toList.drop (sIx items.size 0 lo)).take (sIx items.size items.size hi - sIx items.size 0 lo)).toArray } })
  (hsz : items.size ≤ sizeLine) : wpAny (model prog w) A (getItem (.ref t) (.ref sl)) Q E s := by
 have htake : sizeOk (.seq ((items.toList.drop (sIx items.size 0 lo)).take (sIx items.size items.size hi - sIx items.size 0 lo)).toArray) := by
  show ((items.toList.drop (sIx items.size 0 lo)).take (sIx items.size items.size hi - sIx items.size 0 lo)).toArray.size ≤ sizeLine
  rw [List.size_toArray, List.length_take, List.length_drop, Array.length_toList]
  omega
 have hj : sIx items.size items.size hi ≤ items.size := sIx_le _ _ (Nat.le_refl _) hi
 obtain ⟨os, hos, hcs, hds⟩ := id hs
 have hTs : s.TypeIs (.ref sl) "slice" := ⟨os, hos, hcs⟩
 unfold getItem
 try with_reducible refine wpAny_holding ?_
 first | refine wpAny_bind (wpAny_pure ?_) | skip
 refine wpAny_bind (wpAny_sequenceKey ht.typeIs (by decide) ?_)
 refine wpAny_bind (wpAny_callSpecial?_slot (name := Str.ofString "__getitem__") ht.typeIs PyProof.Rows.slot_tuple_getitem
  (wpAny_call_entry PyProof.Rows.slot_tuple_getitem ht.typeIs entry_tuple_getitem ?_ (args_tuple_getitem _ _)))
 show wpAny _ _ (Builtin.Tuple.tupleItemsOf (.ref t) >>= _) _ _ s
 refine wpAny_bind (tupleItemsOf_ ht ?_)
 refine wpAny_bind (wpAny_typeOf hTs ?_)
 rw [if_pos (by decide)]
 refine wpAny_bind (sliceApplied_gen hs pl pu ?_)
 have hno : ¬ ((((sIx items.size 0 lo : Nat) : Int) == 0 && (1 : Int) == 1 && (sIx items.size items.size hi - sIx items.size 0 lo) == items.size) = true) := by
  intro q
  rw [Bool.and_eq_true, Bool.and_eq_true] at q
  have q1 : ((sIx items.size 0 lo : Nat) : Int) = 0 := eq_of_beq q.1.1
  have q2 : sIx items.size items.size hi - sIx items.size 0 lo = items.size := eq_of_beq q.2
  exact hw ⟨by omega, by omega⟩
 show wpAny _ _ (if (((sIx items.size 0 lo : Nat) : Int) == 0 && (1 : Int) == 1 && (sIx items.size items.size hi - sIx items.size 0 lo) == items.size) = true then _ else _) _ _ s
 rw [if_neg hno, pick_gen]
 first
  | exact wpAny_bind (m := Builtin.Tuple.tupleExact _) (wpAny_newObj_type (wpAny_pure ⟨_, rfl, wpAny_pure h⟩) htake)
  | exact wpAny_bind (m := Builtin.Tuple.tupleExact _) (wpAny_newObj_type (wpAny_bind (wpAny_pure (wpAny_pure ⟨_, rfl, wpAny_pure h⟩))) htake)
  | exact wpAny_bind (wpAny_bind (m := Builtin.Tuple.tupleExact _) (wpAny_newObj_type (wpAny_pure (wpAny_pure ⟨_, rfl, wpAny_pure h⟩)) htake))
  | exact wpAny_bind (wpAny_bind (m := Builtin.Tuple.tupleExact _) (wpAny_newObj_type (wpAny_pure ⟨_, rfl, wpAny_pure h⟩) htake))
end
end HT
namespace L2
open PySem PySem.Spec PyProof.Rows
abbrev TO := St -> Hp -> (Option Int -> Hp -> Prop) -> Prop
def PO (X : Cx) (e : Option Expr) (t : TO) : Prop :=
 ∀ (pins : PLs) (s : Shared) (σ : St) (H : Hp) (Q : Option Int -> Hp -> Prop), Inv X pins σ H s -> t σ H Q →
  wpAny (model X.prog X.w) X.A (evalPart e X.env) (fun u s' => ∃ o H', Inv X pins σ H' s' /\ IsPart u o /\ Q o H') X.xe s
def tNoPart : TO := fun _ H Q => Q none H
def tPart (t : TE) : TO := fun σ H Q => t σ H fun x H1 => ∃ i, x = .int i /\ Q (some i) H1
section
variable {X : Cx} {e : Expr} {te : TE} {lo hi : Option Expr} {tl th : TO} {pos p2 : Pos}
theorem po_none : PO X none tNoPart := by
 intro pins s σ H Q I h
 rw [evalPart_none]
 exact wpAny_pure ⟨none, H, I, .none, h⟩
theorem po_some (h : PE X e te) : PO X (some e) (tPart te) := by
 intro pins s σ H Q I hw
 rw [evalPart_some]
 refine thn (h pins s σ H _ I hw) fun u s1 ⟨x, H1, I1, r1, q1⟩ => ?_
 obtain ⟨i, rfl, q⟩ := q1
 obtain ⟨t, rfl⟩ := r1
 exact ⟨some i, H1, I1, .int i t, q⟩
def SlR (X : Cx) (r : V -> Option Int -> Option Int -> Hp -> VK -> Prop) : Prop :=
 ∀ (pins : PLs) (s : Shared) (σ : St) (H : Hp) (x : V) (v vl vu : Value) (lo hi : Option Int) (sl : Addr) (Q : VK), Inv X pins σ H s -> RelV x v -> s.heap.IsSliceOf sl vl vu .none -> IsPart vl lo -> IsPart vu hi -> r x lo hi H Q →
  ∃ T id, typeLookup (.type T) "__getitem__" = pure (some (.builtin id)) /\ s.TypeIs v T /\ wpAny (model X.prog X.w) X.A (getItem v (.ref sl)) (EP X pins σ Q) X.xe s
theorem SlR.or {r r' : V -> Option Int -> Option Int -> Hp -> VK -> Prop} (h : SlR X r) (h' : SlR X r') : SlR X (fun x lo hi H Q => r x lo hi H Q ∨ r' x lo hi H Q) := by
 intro pins s σ H x v vl vu lo hi sl Q I rx hs pl pu q
 rcases q with q | q
 ·exact h pins s σ H x v vl vu lo hi sl Q I rx hs pl pu q
 ·exact h' pins s σ H x v vl vu lo hi sl Q I rx hs pl pu q
def tSl (r : V -> Option Int -> Option Int -> Hp -> VK -> Prop) (te : TE) (tl th : TO) : TE := fun σ H Q => te σ H fun x H1 => tl σ H1 fun l H2 => th σ H2 fun u H3 => r x l u H3 Q
theorem pe_slice {r : V -> Option Int -> Option Int -> Hp -> VK -> Prop} (hr : SlR X r) (he : PE X e te) (hl : PO X lo tl) (hu : PO X hi th) : PE X (.Subscript e (.Slice lo hi none p2) pos) (tSl r te tl th) := by
 intro pins s σ H Q I h
 refine Subscript_ (thn (he pins s σ H _ I h) fun v s1 ⟨x, H1, I1, r1, q1⟩ => ?_)
 refine wpAny_Slice (thn (hl pins s1 σ H1 _ I1 q1) fun vl s2 ⟨l, H2, I2, pl, q2⟩ => thn (hu pins s2 σ H2 _ I2 q2) fun vu s3 ⟨u, H3, I3, pu, q3⟩ => ?_)
 rw [evalPart_none]
 refine wpAny_pure ?_
 have I4 : Inv X pins σ H3 { s3 with heap := s3.heap.push { cls := .type "slice", data := .fields #[vl, vu, .none] } } := I3.kept (t' := s3.toks) fun b ob q => Heap.get?_push_of_some _ q
 obtain ⟨T, id, hT, ht, hg⟩ := hr pins { s3 with heap := s3.heap.push { cls := .type "slice", data := .fields #[vl, vu, .none] } } σ H3 x v vl vu l u s3.heap.objs.size Q I4 r1 (Heap.IsSliceOf.new ..) pl pu q3
 show wpAny (model X.prog X.w) X.A (subscriptTail e (.Slice lo hi none p2) v (.ref s3.heap.objs.size)) (EP X pins σ Q) X.xe { s3 with heap := s3.heap.push { cls := .type "slice", data := .fields #[vl, vu, .none] } }
 exact tail_any (ops := [.ref s3.heap.objs.size, v]) ht hT hg (by with_unfolding_all rfl)
def cutV (xs : List V) (lo hi : Option Int) : List V := (xs.drop (HT.sIx xs.length 0 lo)).take (HT.sIx xs.length xs.length hi - HT.sIx xs.length 0 lo)
theorem cutV_length (xs : List V) (lo hi : Option Int) : (cutV xs lo hi).length ≤ xs.length := by
 unfold cutV
 rw [List.length_take, List.length_drop]
 omega
def rSlT (K : Fg) : V -> Option Int -> Option Int -> Hp -> VK -> Prop := fun x lo hi H Q => ∃ a xs, x = .ref a /\ SqT K H a xs ∧
 ¬ (HT.sIx xs.length 0 lo = 0 /\ HT.sIx xs.length xs.length hi = xs.length) /\ ∀ p, H p = none -> Q (.ref p) (upd H p (.tup (cutV xs lo hi)))
theorem sl_tup : SlR X (rSlT X.K) := by
 intro pins s σ H x v vl vu lo hi sl Q I rx hs pl pu h
 obtain ⟨a, xs, rfl, hx, hw, q⟩ := h
 cases rx
 obtain ⟨its, r, ht, hz⟩ := I.tuple hx
 have hlen : its.toArray.size = xs.length := by rw [List.size_toArray]; exact r.length.symm
 refine ⟨"tuple", _, PyProof.Rows.slot_tuple_getitem.lookup, ht.typeIs, ?_⟩
 refine HT.getItem_tuple_cut ht hs pl pu (by rw [hlen]; exact hw) ?_ (by rw [hlen]; exact hz)
 rw [hlen]
 refine ⟨.ref s.heap.objs.size, _, I.laid (t' := s.toks) (o := .tup (cutV xs lo hi)) (fun b ob q => Heap.get?_push_of_some _ q) (Nat.le_refl _) ?_, rfl, q _ (I.hok.fresh (Nat.le_refl _))⟩
 exact ⟨Nat.le_trans (cutV_length xs lo hi) hz, _, (r.drop (HT.sIx xs.length 0 lo)).take (HT.sIx xs.length xs.length hi - HT.sIx xs.length 0 lo), IsTup.new _ _⟩
def rLtT (K : Fg) : R2 := fun x y H Q => ∃ a b ns ms, x = .ref a /\ y = .ref b /\ SqT K H a (ns.map V.int) /\ SqT K H b (ms.map V.int) /\ Q (.bl (HT.lexLt ns ms)) H
def rCatT (K : Fg) : R2 := fun x y H Q => ∃ a b xs ys, x = .ref a /\ y = .ref b /\ SqT K H a xs /\ SqT K H b ys /\ xs ≠ [] /\ xs.length + ys.length ≤ sizeLine ∧
 (ys = [] -> Q (.ref a) H) /\ (ys ≠ [] -> ∀ p, H p = none -> Q (.ref p) (upd H p (.tup (xs ++ ys))))
end
end L2
namespace L2
open PySem PySem.Spec PyProof.Rows
def ixN (n : Nat) (i : Int) : Option Nat := if 0 ≤ i then (if i < n then some i.toNat else none) else if -(n : Int) ≤ i then some (i + n).toNat else none
def atI {α : Type} (xs : List α) (i : Int) : Option α := (ixN xs.length i).bind fun j => xs[j]?
theorem ixN_seq {n : Nat} {i : Int} {j : Nat} (h : ixN n i = some j) : seqIndex? i n = some j /\ j < n /\ -(n : Int) ≤ i /\ i < n := by
 unfold ixN at h
 by_cases h0 : 0 ≤ i
 ·rw [if_pos h0] at h
  by_cases h1 : i < n
  ·rw [if_pos h1] at h
   have e : i.toNat = j := Option.some.inj h
   exact ⟨by rw [seqIndex_of h0 h1, e], by omega, by omega, h1⟩
  ·rw [if_neg h1] at h; cases h
 ·rw [if_neg h0] at h
  by_cases h1 : -(n : Int) ≤ i
  ·rw [if_pos h1] at h
   have e : (i + n).toNat = j := Option.some.inj h
   exact ⟨by rw [seqIndex_neg (by omega) h1, e], by omega, h1, by omega⟩
  ·rw [if_neg h1] at h; cases h
theorem atI_get {α : Type} {xs : List α} {i : Int} {v : α} (h : atI xs i = some v) : ∃ j, seqIndex? i xs.length = some j /\ xs[j]? = some v /\ j < xs.length /\ -(xs.length : Int) ≤ i /\ i < xs.length := by
 unfold atI at h
 cases e : ixN xs.length i with
 | none => rw [e] at h; cases h
 | some j =>
  rw [e] at h
  obtain ⟨h1, h2, h3, h4⟩ := ixN_seq e
  exact ⟨j, h1, h, h2, h3, h4⟩
theorem atI_nat {α : Type} {xs : List α} {j : Nat} {v : α} (h : xs[j]? = some v) : atI xs (j : Int) = some v := by
 have hj : j < xs.length := (List.getElem?_eq_some_iff.mp h).1
 have e : ixN xs.length (j : Int) = some j := by
  unfold ixN
  rw [if_pos (by omega), if_pos (by omega)]; simp
 unfold atI; rw [e]; exact h
theorem atI_last {α : Type} (xs : List α) (v : α) : atI (xs ++ [v]) (-1) = some v := by
 have hl : (xs ++ [v]).length = xs.length + 1 := by simp
 have e : ixN (xs ++ [v]).length (-1) = some xs.length := by
  unfold ixN
  rw [hl, if_neg (by decide), if_pos (by omega)]
  congr 1
  omega
 unfold atI
 rw [e]
 show (xs ++ [v])[xs.length]? = some v
 simp
def PlainIx (b : Expr) : Prop := ∀ o i, subscripted b false o i = operate [o, i] (getItem o i)
def IxR (X : Cx) (r : R2) : Prop :=
 ∀ (value slice : Expr) (pins : PLs) (s : Shared) (σ : St) (H : Hp) (x y : V) (v u : Value) (Q : VK), Inv X pins σ H s -> RelV x v -> RelV y u -> r x y H Q →
  subscripted slice false v u = operate [v, u] (getItem v u) -> wpAny (model X.prog X.w) X.A (subscriptTail value slice v u) (EP X pins σ Q) X.xe s
def MtR (X : Cx) (id : String) (r : V -> List V -> Hp -> VK -> Prop) : Prop :=
 ∀ (pins : PLs) (s : Shared) (σ : St) (H : Hp) (x : V) (xs : List V) (v : Value) (us : List Value) (Q : VK), Inv X pins σ H s -> RelV x v -> Vals xs us -> r x xs H Q →
  wpAny (model X.prog X.w) X.A (call (.builtin id) (v :: us)) (EP X pins σ Q) X.xe s
section
variable {X : Cx} {a b : Expr} {ta tb : TE} {pos : Pos}
theorem pe_ix {r : R2} (hr : IxR X r) (ha : PE X a ta) (hb : PE X b tb) (hs : PlainIx b) : PE X (.Subscript a b pos) (tOp r ta tb) := by
 intro pins s σ H Q I h
 exact Subscript_ (binT ha hb I h fun v u s2 x y H2 I2 rx ry q => hr a b pins s2 σ H2 x y v u Q I2 rx ry q (hs _ _))
def rIxL (K : Fg) : R2 := fun x y H Q => ∃ p xs i v, x = .ref p /\ y = .int i /\ SqL K H p xs /\ atI xs i = some v /\ Q v H
def rIxT (K : Fg) : R2 := fun x y H Q => ∃ p xs i v, x = .ref p /\ y = .int i /\ SqT K H p xs /\ atI xs i = some v /\ Q v H
def rIxS : R2 := fun x y H Q => ∃ z i c, x = .str z /\ y = .int i /\ z.length ≤ sizeLine /\ atI z.cps.toList i = some c /\ Q (.str ⟨#[c]⟩) H
theorem ix_list : IxR X (rIxL X.K) := by
 intro value slice pins s σ H x y v u Q I rx ry h hs
 obtain ⟨p, xs, i, z, rfl, rfl, hq, he, q⟩ := h
 cases rx
 obtain ⟨t, rfl⟩ := ry
 obtain ⟨its, r, pl, hz⟩ := I.list hq
 obtain ⟨j, h1, h2, h3, h4, h5⟩ := atI_get he
 obtain ⟨w, ew, rw'⟩ := r.get h2
 have hl := r.length
 have hn := line63
 have fin : EP X pins σ Q w s := ⟨z, H, I, rw', q⟩
 by_cases h0 : 0 ≤ i
 ·have hj : i.toNat = j := by
   rw [seqIndex_of h0 h5] at h1
   exact Option.some.inj h1
  exact item_listR pl.isList h0 (by omega) (by rw [hj]; simpa using ew) fin hs
 ·have hj : (i + (its.toArray.size : Int)).toNat = j := by
   rw [seqIndex_neg (by omega) h4] at h1
   rw [List.size_toArray, ← hl]
   exact Option.some.inj h1
  exact subscriptTail_builtinR (x := w) pl.isList.typeIs slot_list_getitem.lookup
   (wpAny_getItem_list_neg (Q := fun r s' => r = w /\ EP X pins σ Q r s') pl.isList (by omega) (by rw [List.size_toArray] <;> omega) (by omega) (by rw [hj]; simpa using ew) ⟨rfl, fin⟩) hs
theorem ix_tup : IxR X (rIxT X.K) := by
 intro value slice pins s σ H x y v u Q I rx ry h hs
 obtain ⟨p, xs, i, z, rfl, rfl, hq, he, q⟩ := h
 cases rx
 obtain ⟨t, rfl⟩ := ry
 obtain ⟨its, r, pl, hz⟩ := I.tuple hq
 obtain ⟨j, h1, h2, h3, h4, h5⟩ := atI_get he
 obtain ⟨w, ew, rw'⟩ := r.get h2
 have hl := r.length
 have hn := line63
 have fin : EP X pins σ Q w s := ⟨z, H, I, rw', q⟩
 exact subscriptTail_builtinR (x := w) pl.typeIs slot_tuple_getitem.lookup
  (getItem_tuple (j := j) (Q := fun r s' => r = w /\ EP X pins σ Q r s') pl (by omega) (by omega) (by rw [List.size_toArray, ← hl]; exact h1) (by simpa using ew) ⟨rfl, fin⟩) hs
def rIx (K : Fg) : R2 := fun x y H Q => rIxL K x y H Q ∨ rIxT K x y H Q ∨ rIxS x y H Q
theorem mapSeq_set (its : List Value) (n j : Nat) (u : Value) : Obj.mapSeq (·.setIfInBounds j u) { cls := .type "list", data := .seq its.toArray n } = { cls := .type "list", data := .seq (its.set j u).toArray n } := by
 simp [Obj.mapSeq]
theorem Inv.lst {pins : PLs} {σ : St} {H : Hp} {s : Shared} {p : Addr} {xs : List V} (I : Inv X pins σ H s) (h : H p = some (.lst xs)) :
  ∃ (its : List Value) (n : Nat), Vals xs its /\ s.heap.get? p = some { cls := .type "list", data := .seq its.toArray n } /\ xs.length ≤ sizeLine := by
 obtain ⟨z, its, n, r, e⟩ := I.hok p _ h
 exact ⟨its, n, r, e, z⟩
theorem Inv.lstUpd {pins : PLs} {σ : St} {H : Hp} {s : Shared} {p : Addr} {xs ys : List V} {its its' : List Value} {n n' : Nat} {f : Obj -> Obj} (I : Inv X pins σ H s) (h : H p = some (.lst xs))
  (ho : s.heap.get? p = some { cls := .type "list", data := .seq its.toArray n }) (hf : f { cls := .type "list", data := .seq its.toArray n } = { cls := .type "list", data := .seq its'.toArray n' }) (r : Vals ys its') (hz : ys.length ≤ sizeLine) (t : Nat) :
  Inv X pins σ (upd H p (.lst ys)) { s with heap := s.heap.update p f, toks := t } := by
 have e : (s.heap.update p f).get? p = some { cls := .type "list", data := .seq its'.toArray n' } := by
  rw [Heap.get?_update_self f ho (by rw [hf] <;> rfl), hf]
 refine I.write (x := p) (e := p) (by rw [h]; trivial) (.inl rfl) (fun b u hb q => (Heap.get?_update_other _ _ (Ne.symm hb)).trans q) ⟨_, e⟩ ?_
 exact ⟨hz, its', n', r, e⟩
def rSetL : V -> V -> V -> Hp -> (Hp -> Prop) -> Prop := fun o i v H Q => ∃ p xs k j, o = .ref p /\ i = .int k /\ H p = some (.lst xs) /\ ixN xs.length k = some j /\ Q (upd H p (.lst (xs.set j v)))
theorem set_list : PSet X rSetL := by
 intro pins s σ H o i v ov iv u Q I ro ri rv h
 obtain ⟨p, xs, k, j, rfl, rfl, hp, hj, q⟩ := h
 cases ro
 obtain ⟨t, rfl⟩ := ri
 obtain ⟨its, n, r, ho, hz⟩ := I.lst hp
 obtain ⟨h1, h2, h3, h4⟩ := ixN_seq hj
 have hl := r.length
 have hn := line63
 have I' : Inv X pins σ (upd H p (.lst (xs.set j v))) { s with heap := s.heap.update p (Obj.mapSeq (·.setIfInBounds j u)) } :=
  I.lstUpd hp ho (mapSeq_set its n j u) (r.set rv j) (by rw [List.length_set]; exact hz) s.toks
 by_cases h0 : 0 ≤ k
 ·have hk : k.toNat = j := by
   rw [seqIndex_of h0 h4] at h1
   exact Option.some.inj h1
  exact PySem.W.ki_setAt ho h0 (by omega) (by rw [List.size_toArray, ← hl]; exact h4) (by rw [hk]; exact ⟨_, I', q⟩)
 ·have hk : (k + (its.toArray.size : Int)).toNat = j := by
   rw [seqIndex_neg (by omega) h3] at h1
   rw [List.size_toArray, ← hl]
   exact Option.some.inj h1
  exact PySem.W.ki_setBack ho (by omega) (by rw [List.size_toArray, ← hl]; exact h3) (by omega) (by rw [hk]; exact ⟨_, I', q⟩)
theorem slice_bounds (lo hi : Option Int) (n : Nat) : (sliceBounds lo hi none n).1 = ((HT.sIx n 0 lo : Nat) : Int) /\ (sliceBounds lo hi none n).2.1 = ((HT.sIx n n hi : Nat) : Int) /\ (sliceBounds lo hi none n).2.2 = 1 := by
 refine ⟨?_, ?_, rfl⟩
 ·cases lo with
  | none => simp [sliceBounds, HT.sIx]
  | some i =>
   simp only [sliceBounds, HT.sIx, Option.getD_none, show (1 : Int) > 0 by decide, if_true]
   by_cases h : i < 0
   ·simp only [h, if_true] <;> omega
   ·simp only [h, if_false] <;> omega
 ·cases hi with
  | none => simp [sliceBounds, HT.sIx]
  | some i =>
   simp only [sliceBounds, HT.sIx, Option.getD_none, show (1 : Int) > 0 by decide, if_true]
   by_cases h : i < 0
   ·simp only [h, if_true] <;> omega
   ·simp only [h, if_false] <;> omega
theorem slicePick_cut (its : List Value) (lo hi : Option Int) : slicePick its.toArray lo hi none = ((its.drop (HT.sIx its.length 0 lo)).take (HT.sIx its.length its.length hi - HT.sIx its.length 0 lo)).toArray := by
 obtain ⟨h1, h2, h3⟩ := slice_bounds lo hi its.toArray.size
 unfold slicePick
 rw [h1, h2, h3]
 simp only [sliceRange_one, pick_run, List.size_toArray] <;> rfl
def rSlL (K : Fg) : V -> Option Int -> Option Int -> Hp -> VK -> Prop := fun x lo hi H Q => ∃ a xs, x = .ref a /\ SqL K H a xs /\ ∀ p, H p = none -> Q (.ref p) (upd H p (.lst (cutV xs lo hi)))
theorem sl_list : SlR X (rSlL X.K) := by
 intro pins s σ H x v vl vu lo hi sl Q I rx hs pl pu h
 obtain ⟨a, xs, rfl, hx, q⟩ := h
 cases rx
 obtain ⟨its, r, ht, hz⟩ := I.list hx
 have hlen := r.length
 refine ⟨"list", _, slot_list_getitem.lookup, ht.isList.typeIs, ?_⟩
 refine wpAny_getItem_list_slice ht.isList hs pl pu .none (by simp) ?_ (by rw [List.size_toArray] <;> omega)
 rw [slicePick_cut, ← hlen]
 refine ⟨.ref s.heap.objs.size, _, I.laid (t' := s.toks) (o := .lst (cutV xs lo hi)) (fun b ob q => Heap.get?_push_of_some _ q) (Nat.le_refl _) ?_, rfl, q _ (I.hok.fresh (Nat.le_refl _))⟩
 exact ⟨Nat.le_trans (cutV_length xs lo hi) hz, _, 0, (r.drop (HT.sIx xs.length 0 lo)).take (HT.sIx xs.length xs.length hi - HT.sIx xs.length 0 lo), Heap.get?_push_size _ rfl⟩
def flatV : V -> Bool
 | .non => true
 | .bl _ => true
 | .int _ => true
 | .str _ => true
 | _ => false
def eqV : V -> V -> Bool
 | .non, .non => true
 | .bl a, .bl b => a == b
 | .bl a, .int b => (if a then 1 else 0) == b
 | .int a, .bl b => a == (if b then 1 else 0)
 | .int a, .int b => a == b
 | .str a, .str b => a == b
 | _, _ => false
def eqU (x : V) (u : Value) : Bool := match u with
 | .none => eqV .non x
 | .bool b => eqV (.bl b) x
 | .int i _ => eqV (.int i) x
 | .str z _ => eqV (.str z) x
 | _ => false
def inV (x : V) (xs : List V) : Bool := xs.any fun y => eqV y x
def rIn (K : Fg) (neg : Bool) : R2 := fun x y H Q => ∃ p xs, y = .ref p /\ (SqL K H p xs ∨ SqT K H p xs) /\ flatV x = true /\ xs.all flatV = true /\ Q (.bl (if neg then !inV x xs else inV x xs)) H
theorem call_len_seq : CallR X (.builtin "len") (fun xs H Q => ∃ p ys, xs = [.ref p] /\ (SqL X.K H p ys ∨ SqT X.K H p ys) /\ Q (.int ys.length) H) := by
 intro pins s σ H xs us Q I r h
 obtain ⟨p, ys, rfl, hq, q⟩ := h
 obtain ⟨u, rfl, rx⟩ := vals1 r
 cases rx
 have hn := line63
 rcases hq with hq | hq
 ·obtain ⟨its, r', pl, hz⟩ := I.list hq
  have hlen := r'.length
  exact Calls.call_len_list pl.isList (by simp only [List.size_toArray] <;> omega) ⟨.int ys.length, H, I.tok _, ⟨s.toks + 1, by rw [List.size_toArray, hlen]⟩, q⟩
 ·obtain ⟨its, r', pl, hz⟩ := I.tuple hq
  have hlen := r'.length
  exact len_tuple pl (by simp only [List.size_toArray] <;> omega) ⟨.int ys.length, H, I.tok _, ⟨s.toks + 1, by rw [List.size_toArray, hlen]⟩, q⟩
theorem call_tuple_of : CallR X (.type "tuple") (fun xs H Q => ∃ p ys, xs = [.ref p] /\ ((SqL X.K H p ys /\ ∀ l, H l = none -> Q (.ref l) (upd H l (.tup ys))) ∨ (SqT X.K H p ys /\ Q (.ref p) H))) := by
 intro pins s σ H xs us Q I r h
 obtain ⟨p, ys, rfl, h⟩ := h
 obtain ⟨u, rfl, rx⟩ := vals1 r
 cases rx
 rcases h with ⟨hq, q⟩ | ⟨hq, q⟩
 ·obtain ⟨its, r', pl, hz⟩ := I.list hq
  have hlen := r'.length
  refine call_tuple_list pl.isList (fun h' kp => ?_) (by simp only [List.size_toArray] <;> omega)
  have I1 : Inv X pins σ H { s with heap := h' } := I.kept (t' := s.toks) kp
  have I2 : Inv X pins σ (upd H h'.objs.size (.tup ys)) { s with heap := h'.push { cls := .type "tuple", data := .seq its.toArray } } :=
   I1.laid (t' := s.toks) (fun b o e => Heap.get?_push_of_some _ e) (Nat.le_refl _) (show ObjOk X.prog X.w _ _ _ (.tup ys) from ⟨hz, its, r', IsTup.new _ _⟩)
  exact ⟨.ref h'.objs.size, _, I2, rfl, q _ (I1.hok.fresh (Nat.le_refl _))⟩
 ·obtain ⟨its, r', pl, hz⟩ := I.tuple hq
  exact call_tuple_same pl ⟨.ref p, H, I, rfl, q⟩
def tyV (K : Fg) (T : String) (x : V) (H : Hp) : Prop := match x with
 | .str _ => T = "str"
 | .int _ => T = "int"
 | .ref p => (T = "list" /\ ∃ xs, SqL K H p xs) ∨ (T = "tuple" /\ ∃ o, K.lookup p = some o /\ o.cls = .type "tuple" /\ o.dict = none) ∨
   (T = "dict" /\ ((∃ kvs, H p = some (.dK kvs)) ∨ ∃ kvs, H p = some (.dT kvs))) ∨ (T = "set" /\ ∃ S n, H p = some (.set S n))
 | _ => False
theorem tyV_is {pins : PLs} {σ : St} {H : Hp} {s : Shared} {T : String} {x : V} {v : Value} (I : Inv X pins σ H s) (r : RelV x v) (ty : tyV X.K T x H) :
  s.TypeIs v T /\ ∀ a, v = .ref a -> ∃ ob, s.heap.get? a = some ob /\ ob.dict = none := by
 cases x with
 | str z =>
  obtain ⟨t, rfl⟩ := r
  cases (show T = "str" from ty)
  exact ⟨typeIs_str s z t, fun _ e => nomatch e⟩
 | int i =>
  obtain ⟨t, rfl⟩ := r
  cases (show T = "int" from ty)
  exact ⟨typeIs_int s i t, fun _ e => nomatch e⟩
 | ref p =>
  cases r
  rcases ty with ⟨rfl, xs, hq⟩ | ⟨rfl, o, hk, hc, hd⟩ | ⟨rfl, hk⟩ | ⟨rfl, S, n, hk⟩
  ·obtain ⟨its, _, pl, _⟩ := I.list hq
   refine ⟨pl.isList.typeIs, fun a e => ?_⟩
   cases e
   obtain ⟨o, n, e, c, hd, _⟩ := pl
   exact ⟨o, e, hd⟩
  ·refine ⟨⟨o, I.kIn p o hk, hc⟩, fun a e => ?_⟩
   cases e
   exact ⟨o, I.kIn _ o hk, hd⟩
  ·have z : ∃ o, s.heap.get? p = some o /\ o.ExactDict := by
    rcases hk with ⟨kvs, hk⟩ | ⟨kvs, hk⟩
    ·obtain ⟨_, _, _, _, o, _, _, e, ex, _⟩ := I.hok p _ hk
     exact ⟨o, e, ex⟩
    ·obtain ⟨_, _, _, _, o, _, _, e, ex, _⟩ := I.hok p _ hk
     exact ⟨o, e, ex⟩
   obtain ⟨o, e, ex⟩ := z
   refine ⟨⟨o, e, ex.1⟩, fun a e2 => ?_⟩
   cases e2
   exact ⟨o, e, ex.2.1⟩
  ·obtain ⟨o, _, _, _, e, ex, _⟩ := I.hok p _ hk
   refine ⟨⟨o, e, ex.1⟩, fun a e2 => ?_⟩
   cases e2
   exact ⟨o, e, ex.2.1⟩
 | _ => exact False.elim ty
def tBM0 (K : Fg) (T : String) (r : V -> List V -> Hp -> VK -> Prop) (to : TE) : TE := fun σ H Q => to σ H fun x H1 => tyV K T x H1 /\ r x [] H1 Q
def tBM (K : Fg) (T : String) (r : V -> List V -> Hp -> VK -> Prop) (to : TE) (t : TA) : TE := fun σ H Q => to σ H fun x H1 => tyV K T x H1 /\ t σ H1 fun xs H2 => r x xs H2 Q
variable {o e : Expr} {es : List Expr} {to : TE} {t : TA} {name : Str} {apos cpos : Pos} {T id : String} {r : V -> List V -> Hp -> VK -> Prop}
theorem pe_bm (pa : PlainAttrs T) (slot : Slot T name id) (hty : typeOf (.builtin id) = pure (.type "method_descriptor")) (hm : MtR X id r) (ho : PE X o to) (ha : PA X (e :: es) t)
  (hbase : attributeBase o name X.env (eval o X.env) = eval o X.env := by rfl)
  (hfew : ((backTo cpos (starEach (e :: es) X.env)).all (fun x => !x.1) && (backToKw cpos (keywordEach [] X.env)).all (fun x => x.1.isSome)
   && decide ((e :: es).length + ([] : List Keyword).length + (if ([] : List Keyword).isEmpty then 0 else 1) < 30)) = true := by rfl)
  (hline : (apos.endLine == cpos.line) = true := by rfl) (hs : starEach (e :: es) X.env = (false, eval e X.env) :: starEach es X.env := by rfl) (hplain : (backTo cpos (starEach es X.env)).any (·.1) = false := by rfl) :
  PE X (.Call (.Attribute o name apos) (e :: es) [] cpos) (tBM X.K T r to t) := by
 intro pins s σ H Q I h
 refine wpAny_Call_method_late hbase hfew hline rfl (thn (ho pins s σ H _ I h) fun v s1 ⟨x, H1, I1, r1, ty, q1⟩ => ?_)
 obtain ⟨h1, h2⟩ := tyV_is I1 r1 ty
 refine ⟨T, id, pa, slot, hty, h1, h2, ?_⟩
 have hA := ha cpos pins s1 σ H1 _ I1 q1
 rw [hs] at hA ⊢
 refine Calls.callWith_builtin (by show (false || (backTo cpos (starEach es X.env)).any (·.1)) = false; rw [hplain] <;> rfl) (Calls.evalArgs_plain ?_)
 exact thn hA fun us s2 ⟨vs, H2, I2, r2, q2⟩ => hm pins s2 σ H2 x vs v us Q I2 r1 r2 q2
end
end L2
namespace L2
open PySem PySem.Spec PyProof.Rows
def MtM (X : Cx) (id : String) (r : V -> List V -> Hp -> VK -> Prop) : Prop :=
 ∀ (pins : PLs) (s : Shared) (σ : St) (H : Hp) (x : V) (xs : List V) (v : Value) (us : List Value) (Q : VK), Inv X pins σ H s -> RelV x v -> Vals xs us -> r x xs H Q →
  wpAny (model X.prog X.w) X.A (call (.builtin id) (v :: us)) (EP X pins σ Q) X.xe s
theorem Vals.one : ∀ {x : V} {us : List Value}, Vals [x] us -> ∃ u, us = [u] /\ RelV x u
 | _, _, .cons r .nil => ⟨_, rfl, r⟩
section
variable {X : Cx} {pins : PLs} {σ : St} {H : Hp} {s : Shared} {l b : Addr} {xs ys zs : List V}
theorem Inv.lset {its its' : List Value} {n : Nat} {f : Array Value -> Array Value} {t' : Nat} (I : Inv X pins σ H s) (hH : H l = some (.lst xs))
  (e : s.heap.get? l = some { cls := .type "list", data := .seq its.toArray n }) (hf : f its.toArray = its'.toArray) (hv : Vals ys its') (hz : ys.length ≤ sizeLine) :
  Inv X pins σ (upd H l (.lst ys)) { s with heap := s.heap.update l (Obj.mapSeq f), toks := t' } := by
 have q := PySem.IsL.update e f
 rw [hf] at q
 refine I.write (x := l) (e := l) (by rw [hH]; exact trivial) (.inl rfl) (fun b' u hb hu => (Heap.get?_update_other s.heap (Obj.mapSeq f) (Ne.symm hb)).trans hu) ⟨_, q⟩ ?_
 exact ⟨hz, its', _, hv, q⟩
theorem Inv.lnew {its : List Value} {t' : Nat} (I : Inv X pins σ H s) (hv : Vals ys its) (hz : ys.length ≤ sizeLine) :
  Inv X pins σ (upd H s.heap.objs.size (.lst ys)) { s with heap := s.heap.push { cls := .type "list", data := .seq its.toArray }, toks := t' } :=
 I.laid (fun _ _ q => Heap.get?_push_of_some _ q) (Nat.le_refl _) ⟨hz, its, 0, hv, Heap.get?_push_size _ rfl⟩
theorem Inv.fresh (I : Inv X pins σ H s) : H s.heap.objs.size = none := I.hok.fresh (Nat.le_refl _)
theorem Inv.lstM (I : Inv X pins σ H s) (hH : H l = some (.lst xs)) : xs.length ≤ sizeLine /\ ∃ (its : List Value) (n : Nat), Vals xs its /\ xs.length = its.length /\ s.heap.get? l = some { cls := .type "list", data := .seq its.toArray n } := by
 obtain ⟨z, its, n, r, e⟩ := I.hok l _ hH
 exact ⟨z, its, n, r, r.length, e⟩
end
section
variable {X : Cx}
def rAppend : V -> List V -> Hp -> VK -> Prop := fun x vs H Q => ∃ l xs y, x = .ref l /\ vs = [y] /\ H l = some (.lst xs) /\ xs.length < sizeLine /\ Q .non (upd H l (.lst (xs ++ [y])))
theorem mt_append : MtM X "list.append" rAppend := by
 intro pins s σ H x vs v us Q I rx rv h
 obtain ⟨l, xs, y, rfl, rfl, hH, hz, q⟩ := h
 cases rx
 obtain ⟨u, rfl, ru⟩ := rv.one
 obtain ⟨z, its, n, r, hl, e⟩ := I.lstM hH
 refine call_meets F.slot_list_append ⟨_, e, rfl⟩ F.entry_list_append (F.args_list_append_2 _ _) (PySem.list_append l its.toArray n u (by rw [List.size_toArray]; omega)) ⟨e, ?_⟩
 refine ⟨.non, _, I.lset (its' := its ++ [u]) hH e (by simp) (r.append (.cons ru .nil)) ?_, rfl, q⟩
 rw [List.length_append, List.length_singleton]
 omega
def rExtend : V -> List V -> Hp -> VK -> Prop := fun x vs H Q => ∃ l b xs zs, x = .ref l /\ vs = [.ref b] /\ H l = some (.lst xs) /\ H b = some (.lst zs) /\ xs.length + zs.length ≤ sizeLine /\ Q .non (upd H l (.lst (xs ++ zs)))
def rPop : V -> List V -> Hp -> VK -> Prop := fun x vs H Q => ∃ l xs y, x = .ref l /\ vs = [] /\ H l = some (.lst xs) /\ xs[xs.length - 1]? = some y /\ Q y (upd H l (.lst xs.dropLast))
def rPopAt : V -> List V -> Hp -> VK -> Prop := fun x vs H Q => ∃ l xs i k y, x = .ref l /\ vs = [.int i] /\ H l = some (.lst xs) /\ -(2 ^ 63) ≤ i /\ i < 2 ^ 63 /\ seqIndex? i xs.length = some k /\ xs[k]? = some y /\ Q y (upd H l (.lst (xs.eraseIdx k)))
def rReverse : V -> List V -> Hp -> VK -> Prop := fun x vs H Q => ∃ l xs, x = .ref l /\ vs = [] /\ H l = some (.lst xs) /\ Q .non (upd H l (.lst xs.reverse))
def rClear : V -> List V -> Hp -> VK -> Prop := fun x vs H Q => ∃ l xs, x = .ref l /\ vs = [] /\ H l = some (.lst xs) /\ Q .non (upd H l (.lst []))
def rCat : R2 := fun x y H Q => ∃ l b xs zs, x = .ref l /\ y = .ref b /\ H l = some (.lst xs) /\ H b = some (.lst zs) /\ xs.length + zs.length ≤ sizeLine /\ ∀ p, H p = none -> Q (.ref p) (upd H p (.lst (xs ++ zs)))
def rRep : R2 := fun x y H Q => ∃ l k xs, x = .ref l /\ y = .int k /\ H l = some (.lst xs) /\ -(2 ^ 63) ≤ k /\ k < 2 ^ 63 /\ xs.length * k.toNat ≤ sizeLine ∧
 ∀ p, H p = none -> Q (.ref p) (upd H p (.lst (List.replicate k.toNat xs).flatten))
end
section
variable {prog : Program} {w : World} {A : Around} {E : VSP} {s : Shared}
end
section
variable {X : Cx}
end
end L2
namespace Att
open PySem PySem.W PySem.Calls PyProof.Rows
theorem ints_of_wellAll {P : Params} {h : Heap} : ∀ (ns : List Int) (vs : List Value), WellAll P h vs (ns.map WData.int) -> IntsAre vs ns := by
 intro ns
 induction ns with
 | nil =>
  intro vs w
  rw [List.map_nil] at w
  cases w
  exact .nil
 | cons n ns ih =>
  intro vs w
  rw [List.map_cons] at w
  cases w with
  | cons a b =>
   cases a
   exact .cons _ _ (ih _ b)
theorem script_of {l : OpenLaw} {n : Nat} (hn : l.most = some n) {P : Params} {h : Heap} {args : List WData} {vals : List Value}
  (hpre : l.row.toRowW.claim.pre args = true) (hwl : WellAll P h vals args) :
  ∃ a vs ns, vals = [Value.ref a] /\ args = [WData.list (ns.map WData.int)] /\ h.get? a = some { cls := .type "list", data := .seq vs.toArray } /\ IntsAre vs ns /\ ns.length ≤ n := by
 have hsh : WShape.hasAll [] args [.list .int] = true := (pre_splitW hpre).1
 have hc : l.pre.holds [] { args := args } = true := (pre_splitW hpre).2
 obtain ⟨d, r, rfl, h1, h2⟩ := hasAllW_cons hsh
 obtain rfl := hasAllW_nil h2
 obtain ⟨xs, rfl, h3⟩ := hasW_list h1
 obtain ⟨ns, rfl⟩ := items_int h3
 have hlen : ns.length ≤ n := by
  unfold OpenLaw.pre at hc
  have h4 : (WTm.not (.lt (.lit (.int (n : Int))) (.len (.arg 0)))).holds [] { args := [.list (ns.map .int)] } = true := by
   have h4 := (holds_andW hc).1
   rw [hn] at h4
   exact h4
  have h5 := condW_of h4 (w_not (w_lt w_lit (w_len_list (w_arg rfl))))
  rw [List.length_map] at h5
  refine Nat.le_of_not_lt fun q => ?_
  have q' : (n : Int) < ((ns.length : Nat) : Int) := by omega
  first
   | (rw [decide_eq_true q'] at h5; exact absurd h5 (by decide))
   | (simp at h5; omega)
 cases hwl with
 | cons w1 w2 =>
  cases w2
  cases w1 with
  | list ho hall => exact ⟨_, _, ns, rfl, rfl, ho, ints_of_wellAll ns _ hall, hlen⟩
theorem post_true (l : OpenLaw) (args : List WData) : l.row.toRowW.claim.post args (.bool true) args = true :=
 postW_of (r := l.row.toRowW) (X := (true == true))
  (show WShape.has [] (.bool true) .bool = true by first | rfl | decide | simp [WShape.has, WShape.arms, WShape.armsAll])
  (show (WTm.eq .res (.lit (.bool true))).value [] { args := args, res := some (.bool true), after := args } = some (.bool (true == true)) from w_eq_bool (w_res rfl) w_lit) rfl
theorem attach_call {l : OpenLaw} {n : Nat} {q : Program} {loose : List Str} {XP : (Str -> Option Value) -> Heap -> Prop} {YP : World -> Heap -> Prop} {d : DefRec}
  (hn : l.most = some n) (hdf : d.params.defaults = [])
  (call : ∀ (w : World) (s₀ s₁ : Shared) (mg mb : Str -> Option Value) (fa : Addr) (o : Obj) (pm cd doc : Value) (a : Addr) (vs : List Value) (ns : List Int),
   Ground q loose [] XP w s₀ mg mb s₁.heap -> YP w s₁.heap →
   s₁.heap.get? fa = some o -> o.data = .func (docDef d.name d.params d.body d.scope pm cd doc) -> s₁.heap.CodeRec cd d.name -> mg d.name = some (.ref fa) →
   s₁.heap.get? a = some { cls := .type "list", data := .seq vs.toArray } -> IntsAre vs ns -> ns.length ≤ n -> s₁.gens = #[] →
   codeAny (model l.prog w) callerA (.call (.ref fa) ⟨[.ref a], []⟩) (fun r s' => r = .ok (.ret (.bool true)) /\ OldK s₁.heap s'.heap /\ s'.os = s₁.os /\ AllBare s'.gens) s₁) :
  WalkO q loose XP YP l.row.toRowW d [] (fun f vs => PySem.call f vs) := by
 intro w s₀ s₁ mg mb G Y fa o pm cd doc dV kV ho hd hcd hD hmg hg args vals as hpre hlay hrd hwl hlo
 obtain rfl : dV = .none := Dflts.none hD hdf
 obtain rfl : kV = .none := Dflts.noKw hD
 obtain ⟨a, vs, ns, rfl, rfl, hobj, hints, hlen⟩ := script_of hn hpre hwl
 refine enter_call (codeAny_mono (call w s₀ s₁ mg mb fa o pm cd doc a vs ns G Y ho (fd_plain hd) hcd hmg hobj hints hlen hg) fun r s' hq => ?_)
 obtain ⟨rfl, h2, h3, h4⟩ := hq
 exact ⟨.inl ⟨.bool true, .bool true, [], rfl, fun _ => rfl, .bool true, post_true l _, fun _ => ⟨List.Pairwise.nil, fun _ hm => (nomatch hm)⟩⟩, h2, h3, h4⟩
section
variable {prog : Program} {w : World} {A : Around} {E : VSP} {s : Shared} {K : Frag}
def noObjs (h : Heap) : Heap := { h with objs := #[] }
def ledger (h : Heap) (L d : Addr) : PLs := (List.range h.objs.size).filterMap fun a => if a = L ∨ a = d then none else (h.get? a).map fun o => (a, o)
end
end Att
namespace L2
open PySem PySem.Spec PyProof.Rows
theorem vals_ints : ∀ {vs : List Value} {ns : List Int}, IntsAre vs ns -> Vals (ns.map V.int) vs
 | _, _, .nil => .nil
 | _, _, .cons n t h => .cons ⟨t, rfl⟩ (vals_ints h)
def Only (H : Hp) : Prop := ∀ b, H b = none ∨ ∃ o xs, H b = some (.frz o (.lst xs))
theorem law_call {P : Program} {w : World} {K : Fg} {mg mb : Str -> Option Value} {CX : CXT} {k : Nat} {fa a : Addr} {fd : FuncData} {x : Str} {sp : Sp} {s₁ : Shared} {vs : List Value} {ns : List Int}
  (KX : K.In s₁.heap) (hns : s₁.heap.Ns mainGlobals mg) (hb : s₁.heap.Ns builtinsNs mb) (hbb : ∀ x : Str, x ≠ "__name__" -> mb x = bootBuiltins x) (hlim : s₁.heap.NoLimit) (hg : s₁.gens = #[])
  (ha : s₁.heap.get? a = some { cls := .type "list", data := .seq vs.toArray }) (hi : IntsAre vs ns) (hl : ns.length ≤ sizeLine) (hr : Room k callerA)
  (F : ∀ base : Heap, K.In base -> base.Ns mainGlobals mg -> FnOk P w K mg base CX k fa fd [x] sp) (hbind : ∀ (s : Shared) (u : Value), BindsTo s fd ⟨[u], []⟩ [(x, u)])
  (hsp : ∀ H : Hp, Only H -> SqL K H a (ns.map V.int) -> sp [.ref a] H (fun v _ => v = .bl true) fun _ _ _ => False)
  (hCX : ∀ H e s', CX [] H s₁ (fun _ _ _ => False) e s' -> False) :
  codeAny (model P w) callerA (.call (.ref fa) ⟨[.ref a], []⟩) (fun r s' => r = .ok (.ret (.bool true)) /\ OldK s₁.heap s'.heap /\ s'.os = s₁.os /\ AllBare s'.gens) s₁ := by
 have rv := vals_ints hi
 have lenV := hi.length
 have core : ∀ H : Hp, Only H -> SqL K H a (ns.map V.int) -> HOk P w H s₁.heap -> (∀ b, H b ≠ none -> b = a) -> (H a ≠ none -> K.lookup a = none) →
   codeAny (model P w) callerA (.call (.ref fa) ⟨[.ref a], []⟩) (fun r s' => r = .ok (.ret (.bool true)) /\ OldK s₁.heap s'.heap /\ s'.os = s₁.os /\ AllBare s'.gens) s₁ := by
  intro H hO hS hok hA hK
  have base_of : ∀ {b : Addr} {o : Obj}, s₁.heap.get? b = some o -> H b = none -> (hidT s₁.heap H).get? b = some o := fun e n => hidT_get e n
  have noA : ∀ {b : Addr} {o : Obj} {es : Array DictEntry} {ep : Nat}, s₁.heap.get? b = some o -> o.data = .dict es ep -> H b = none := fun {b o es ep} e d => by
   cases q : H b with
   | none => rfl
   | some u =>
    have e' : b = a := hA b (by rw [q]; simp)
    subst e'
    rw [ha] at e; cases e
    have d' : Data.seq vs.toArray _ = Data.dict es ep := d
    cases d'
  have nsK : ∀ {b : Addr} {m : Str -> Option Value}, s₁.heap.Ns b m -> (hidT s₁.heap H).Ns b m := fun {b m} ⟨o, es, ep, e, d, r⟩ => ⟨o, es, ep, base_of e (noA e d), d, r⟩
  have hKb : K.In (hidT s₁.heap H) := fun b o e => base_of (KX b o e) (by
   cases q : H b with
   | none => rfl
   | some u =>
    have e' : b = a := hA b (by rw [q]; simp)
    subst e'
    rw [hK (by rw [q]; simp)] at e; cases e)
  have hM : Mod K mg (hidT s₁.heap H) := ⟨hKb, nsK hns, ⟨mb, nsK hb, hbb⟩, let ⟨mc, h1, h2⟩ := hlim; ⟨mc, nsK h1, h2⟩⟩
  have e0 : Env0 P w K mg (hidT s₁.heap H) callerA [] s₁ H := ⟨rfl, hM, fun b o e => of_hidT e, Nat.le_of_eq (hidT_size _ _), trivial, fun b hb => absurd (show b ∈ ([] : List Addr) from hb) (by simp), hok, .of_eq hg⟩
  refine codeAny_mono ((F _ hKb (nsK hns)).run callerA [] s₁ H ⟨[.ref a], []⟩ [.ref a] [.ref a] _ _ hr e0 (hbind s₁ (.ref a)) (.cons rfl .nil) (hsp H hO hS)) fun r s' h => ?_
  cases r with
  | error e => exact (hCX H e s' h).elim
  | ok fl =>
   cases fl with
   | next => exact False.elim h
   | brk => exact False.elim h
   | cont => exact False.elim h
   | ret u =>
    obtain ⟨v, H', os, bare, un, hok', r', q⟩ := h
    have q' : v = .bl true := q
    subst q'
    obtain rfl : u = Value.bool true := r'
    refine ⟨rfl, OldK.of_keep fun b o e => ?_, os, bare⟩
    cases q : H b with
    | none => exact un.keep b o e q (by intro z; exact absurd (show b ∈ ([] : List Addr) from z) (by simp)) (by simp)
    | some u =>
     rcases hO b with z | ⟨ob, xs, z⟩
     ·rw [q] at z; cases z
     ·have z2 := un.frzs b ob _ z
      obtain ⟨e1, _⟩ := hok b _ z
      obtain ⟨e2, _⟩ := hok' b _ z2
      rw [e] at e1; cases e1
      exact e2
 cases hk : K.lookup a with
 | some o =>
  have e := KX a o hk
  rw [ha] at e
  cases e
  refine core (fun _ => none) (fun _ => .inl rfl) (.inr ⟨_, vs.toArray, _, hk, rfl, rfl, rfl, by rw [List.size_toArray, lenV]; exact hl, by simpa using rv⟩) (fun b u z => by have z' : (none : Option HO) = some u := z; cases z') (fun b z => absurd rfl z) fun z => absurd rfl z
 | none =>
  refine core (fun b => if b = a then some (.frz { cls := .type "list", data := .seq vs.toArray } (.lst (ns.map V.int))) else none) (fun b => ?_) (.inl (.inr ⟨{ cls := .type "list", data := .seq vs.toArray }, if_pos rfl⟩)) (fun b u z => ?_) (fun b z => ?_) fun _ => hk
  ·by_cases hb : b = a
   ·exact .inr ⟨_, _, if_pos hb⟩
   ·exact .inl (if_neg hb)
  ·by_cases hb : b = a
   ·have z' := (if_pos hb).symm.trans z
    cases z'
    subst hb
    exact ⟨ha, by rw [List.length_map]; exact hl, vs, _, rv, ha⟩
   ·have z' := (if_neg hb).symm.trans z
    cases z'
  ·by_cases hb : b = a
   ·exact hb
   ·exact absurd (if_neg hb) z
end L2
namespace L2
open PySem PySem.Spec PyProof.Rows
abbrev KOf {K : Fg} {h : Heap} (_ : K.In h) : Fg := K
theorem walk_of {l : PySem.W.OpenLaw} {n k : Nat} {q : Program} {loose : List Str} {XP : (Str -> Option Value) -> Heap -> Prop} {YP : World -> Heap -> Prop} {d : DefRec} {K : Params -> Fg} {CX : World -> CXT} {sp : World -> Sp} {x : Str}
  (hn : l.most = some n) (hn2 : n ≤ sizeLine) (hdf : d.params.defaults = []) (hr : Room k callerA)
  (hY : ∀ (w : World) (h : Heap), YP w h -> (K w.params).In h)
  (F : ∀ (w : World) (mg : Str -> Option Value) (fa : Addr) (h : Heap), (K w.params).In h -> h.Ns mainGlobals mg -> mg d.name = some (.ref fa) →
   ∃ fd : FuncData, (∀ (s : Shared) (u : Value), BindsTo s fd ⟨[u], []⟩ [(x, u)]) ∧
    ∀ base : Heap, (K w.params).In base -> base.Ns mainGlobals mg -> FnOk l.prog w (K w.params) mg base (CX w) k fa fd [x] (sp w))
  (hsp : ∀ (w : World) (H : Hp) (a : Addr) (ns : List Int), ns.length ≤ n -> Only H -> SqL (K w.params) H a (ns.map V.int) -> sp w [.ref a] H (fun v _ => v = .bl true) fun _ _ _ => False)
  (hCX : ∀ (w : World) (H : Hp) (s : Shared) (e : Value) (s' : Shared), CX w [] H s (fun _ _ _ => False) e s' -> False) :
  PySem.W.WalkO q loose XP YP l.row.toRowW d [] (fun f vs => PySem.call f vs) := by
 refine Att.attach_call hn hdf fun w s₀ s₁ mg mb fa o pm cd doc a vs ns G Y ho hd hcd hmg hobj hints hlen hg => ?_
 have KX := hY w _ Y
 obtain ⟨fd, hb, hF⟩ := F w mg fa _ KX G.T.g hmg
 exact law_call KX G.T.g G.T.b G.T.builtins G.T.nolimit hg hobj hints (Nat.le_trans hlen hn2) hr hF hb (fun H hO hS => hsp w H a ns hlen hO hS) fun H e s' => hCX w H s₁ e s'
end L2
namespace L2
open PySem PySem.Spec PyProof.Rows
def inClass (s : Stmt) (j : Nat) : Stmt := match s with
 | .ClassDef _ _ _ body _ _ _ _ _ _ _ => body.getD j (.Pass ⟨0, 0, 0, 0⟩)
 | _ => .Pass ⟨0, 0, 0, 0⟩
def defArgs (s : Stmt) : Arguments := match s with
 | .FunctionDef _ a _ _ _ _ _ _ _ _ => a
 | _ => { posonlyargs := [], args := [], vararg := none, kwonlyargs := [], kw_defaults := [], kwarg := none, defaults := [] }
def defBody (s : Stmt) : List Stmt := match s with
 | .FunctionDef _ _ b _ _ _ _ _ _ _ => b
 | _ => []
def defScope (s : Stmt) : Scope := match s with
 | .FunctionDef _ _ _ _ _ _ sc _ _ _ => sc
 | _ => { kind := .function, names := [], isGenerator := false, isCoroutine := false }
abbrev CX0 : CXT := fun _ _ _ _ _ _ => False
abbrev E0 : XK := fun _ _ _ => False
theorem pass0 {X : Cx} : Passes CX0 X E0 := fun _ _ _ _ _ _ _ h => h.elim
structure Fun (K : Fg) (x qual : Str) (st : Stmt) (f : Addr) (fd : FuncData) : Prop where
 ex : ∃ (oc : Value) (od : Option Addr) (kV doc pm : Value) (an : Option Addr) (cdv ct : Value) (osl : Array (Option Value)),
  fd = PySem.W.fnOf x qual (defArgs st) (defBody st) (defScope st) .none kV doc pm an cdv ct /\ K.lookup f = some ⟨oc, od, .func fd, osl⟩ /\ PySem.W.codeIn K cdv qual = true
 kp : PySem.W.keepIn K (.ref f) = true
section
variable {P : Program} {w : World} {K : Fg} {mg : Str -> Option Value} {base : Heap}
theorem Fun.ok {x qual : Str} {st : Stmt} {f : Addr} {fd : FuncData} {N ps : List Str} {k : Nat} {sp : Sp} (F : Fun K x qual st f fd) (S : FnScope N ps (defScope st)) (len : ∀ vs H Q E, sp vs H Q E -> vs.length = ps.length)
  (hbody : ∀ (cdv : Value) (A : Around) (outer : List Env) (s : Shared) (H : Hp) (vs : List V) (Q : VK) (E : XK), Room k (A.deeper (envOfC qual (defScope st) s.heap.objs.size f cdv)) -> sp vs H Q E →
   ∃ t, PSs (cxOf CX0 P w K mg base N qual (defScope st) f cdv A outer s H E).nox (defBody st) t /\ t { nx := fun _ H' => Q .non H', rt := Q } (start N vs) H) : FnOk P w K mg base CX0 (k + 1) f fd ps sp := by
 obtain ⟨oc, od, kV, doc, pm, an, cdv, ct, osl, rfl, lk, hcd⟩ := F.ex
 refine fn_of lk hcd S len fun A outer s H vs Q E hr hsp => ?_
 obtain ⟨t, h, q⟩ := hbody cdv A outer s H vs Q E hr hsp
 exact ⟨t, h.nox, q⟩
theorem Fun.binds {x qual : Str} {st : Stmt} {f : Addr} {fd : FuncData} {ps : List Str} (F : Fun K x qual st f fd)
  (h : ∀ (kV doc pm : Value) (an : Option Addr) (cdv ct : Value) (us : List Value), us.length = ps.length -> bindArgs (PySem.W.fnOf x qual (defArgs st) (defBody st) (defScope st) .none kV doc pm an cdv ct) ⟨us, []⟩ = pure (ps.zip us)) : Binds K fd ps [] := by
 obtain ⟨oc, od, kV, doc, pm, an, cdv, ct, osl, rfl, lk, hcd⟩ := F.ex
 exact .all (h kV doc pm an cdv ct)
theorem fun_mk {x qual : Str} {st : Stmt} {f : Addr} {oc : Value} {od an : Option Addr} {osl : Array (Option Value)} {kV doc pm cdv ct : Value} (l : K.lookup f = some ⟨oc, od, .func (PySem.W.fnOf x qual (defArgs st) (defBody st) (defScope st) .none kV doc pm an cdv ct), osl⟩)
  (c : PySem.W.codeIn K cdv qual = true) (k : PySem.W.keepIn K (.ref f) = true) : Fun K x qual st f (PySem.W.fnOf x qual (defArgs st) (defBody st) (defScope st) .none kV doc pm an cdv ct) := ⟨⟨oc, od, kV, doc, pm, an, cdv, ct, osl, rfl, l, c⟩, k⟩
end
theorem hu_of {A : Around} {k : Nat} (hr : Room k A) : A.units + 1 < cLine := Nat.lt_of_le_of_lt (Nat.add_le_add_left (by decide : 1 ≤ 64) _) hr.units
theorem small1000 {n : Nat} (h : n ≤ 1000) : n < sizeLine := Nat.lt_of_le_of_lt h (by decide)
section
variable {X : Cx}
theorem pv (i : Nat) {x : Str} {pos : Pos} (hN : X.N[i]? = some x := by rfl) (hv : Vis X.env.scope x := by first | exact Or.inl rfl | exact Or.inr (Or.inl rfl) | exact Or.inr (Or.inr rfl)) (hd : (x == ("__debug__" : Str)) = false := by decide)
  (hcd : (x == ("__classdict__" : Str)) = false := by decide) : PE X (.Name x pos) (tVar i) := pe_var hN hv hd hcd
end
theorem iteF {A B : Prop} (h : B) : if false = true then A else B := by
 rw [if_neg Bool.false_ne_true]
 exact h
theorem iteT {A B : Prop} (h : A) : if true = true then A else B := by
 rw [if_pos rfl]
 exact h
theorem ite2 {c A B : Prop} [Decidable c] (h1 : c -> A) (h2 : ¬ c -> B) : if c then A else B := by
 by_cases h : c
 ·rw [if_pos h]
  exact h1 h
 ·rw [if_neg h]
  exact h2 h
theorem iteNS {c A B : Prop} [Decidable c] (hc : c) (h : B) : if (!decide c) = true then A else B := by
 rw [decide_eq_true hc]
 exact iteF h
def Same (H H' : Hp) : Prop := ∀ b o, H b = some o -> H' b = some o
theorem Same.refl (H : Hp) : Same H H := fun _ _ h => h
theorem Same.trans {H H1 H2 : Hp} (a : Same H H1) (b : Same H1 H2) : Same H H2 := fun c o h => b c o (a c o h)
theorem Same.seq {K : Fg} {H H' : Hp} {a : Addr} {xs : List V} (e : Same H H') (h : SqL K H a xs) : SqL K H' a xs := by
 rcases h with (h | ⟨o, h⟩) | h
 ·exact .inl (.inl (e _ _ h))
 ·exact .inl (.inr ⟨o, e _ _ h⟩)
 ·exact .inr h
end L2
set_option maxHeartbeats 4000000
namespace B
open PySem L2 PyProof.Rows
theorem iteN1 {c A B : Prop} [Decidable c] (hc : ¬ c) (h : A) : if (!decide c) = true then A else B := by
 have e : (!decide c) = true := by rw [decide_eq_false hc]; rfl
 rw [if_pos e]; exact h
theorem iteD1 {c A B : Prop} [Decidable c] (hc : c) (h : A) : if decide c = true then A else B := by
 rw [if_pos (decide_eq_true hc)]; exact h
theorem iteD0 {c A B : Prop} [Decidable c] (hc : ¬ c) (h : B) : if decide c = true then A else B := by
 have e : ¬ decide c = true := by rw [decide_eq_false hc]; intro z; cases z
 rw [if_neg e]; exact h
def kitTT (A B : String) : Option Bool := if (Value.type A == Value.type B) = true then some true else if PySem.W.kitMeta B = true then (fastBuiltinMro A).map (·.contains (.type B)) else none
theorem kit_of {K : Fg} {A B : String} {b : Bool} (h : kitTT A B = some b) : PySem.W.kitOne K (.type A) (.type B) = some b := h
inductive Ty (H : Hp) : V -> String -> Prop where
 | non : Ty H .non "NoneType"
 | bl (b : Bool) : Ty H (.bl b) "bool"
 | int (i : Int) : Ty H (.int i) "int"
 | str (x : Str) : Ty H (.str x) "str"
 | lst {a : Addr} {xs : List V} (e : H a = some (.lst xs)) : Ty H (.ref a) "list"
 | tup {a : Addr} {xs : List V} (e : H a = some (.tup xs)) : Ty H (.ref a) "tuple"
theorem Ty.of {H : Hp} {v : V} {n : String} (K : Fg) (h : Ty H v n) : TyOf K H v (.type n) := by
 cases h with
 | non => exact .non
 | bl b => exact .bl b
 | int i => exact .int i
 | str x => exact .str x
 | lst e => exact .lst e
 | tup e => exact .tup e
def rIsi : List V -> Hp -> VK -> Prop := fun xs H Q => ∃ x n m b, xs = [x, .ty n] /\ Ty H x m /\ kitTT m n = some b /\ Q (.bl b) H
theorem call_isi {X : Cx} : CallR X (.builtin "isinstance") rIsi := by
 intro pins s σ H xs us Q I r h
 obtain ⟨x, n, m, b, rfl, ty, e, q⟩ := h
 obtain ⟨u, u2, rfl, rx, ry⟩ := vals2 r
 obtain rfl : u2 = Value.type n := ry
 exact isinst_ok I rx (ty.of X.K) (kit_of e) fun tk => ⟨.bl b, H, I.tok tk, rfl, q⟩
def wholeV : V -> Bool
 | .int _ => true
 | _ => false
def tupV (n : String) : Bool := n == "tuple"
structure Step (t : Addr) (H H' : Hp) : Prop where
 keep : ∀ b o, b ≠ t -> H b = some o -> H' b = some o
 tp : ∃ xs, H t = some (.lst xs)
 tp' : ∃ xs, H' t = some (.lst xs)
theorem Step.trans {t : Addr} {H H1 H2 : Hp} (a : Step t H H1) (b : Step t H1 H2) : Step t H H2 := ⟨fun c o n e => b.keep c o n (a.keep c o n e), a.tp, b.tp'⟩
theorem Step.up {t : Addr} {H : Hp} {xs ys : List V} (h : H t = some (.lst xs)) : Step t H (upd H t (.lst ys)) := ⟨fun c o n e => by rw [upd_ne n]; exact e, ⟨_, h⟩, ⟨_, upd_same⟩⟩
theorem same_new {H : Hp} {p : Addr} (h : H p = none) (o : HO) : Same H (upd H p o) := fun b u q => by rw [upd_ne (ne_of_none q h)]; exact q
theorem Step.same {t : Addr} {H H' : Hp} (s : Same H H') (h : ∃ xs, H t = some (.lst xs)) : Step t H H' := ⟨fun c o _ e => s c o e, h, let ⟨xs, e⟩ := h; ⟨xs, s _ _ e⟩⟩
theorem Step.new {t p : Addr} {H : Hp} (h : ∃ xs, H t = some (.lst xs)) (n : H p = none) (o : HO) : Step t H (upd H p o) := Step.same (same_new n o) h
def Th (H : Hp) (v : V) : Prop := ∃ n, Ty H v n /\ ∀ a xs, v = .ref a -> H a = some (.tup xs) -> ∀ x ∈ xs, ∃ m, Ty H x m
theorem pick {xs : List V} {r : Int} (h0 : 0 ≤ r) (h1 : r < (xs.length : Int)) : ∃ v, atI xs r = some v /\ v ∈ xs := by
 have hk : r.toNat < xs.length := by omega
 have ek : r = ((r.toNat : Nat) : Int) := by omega
 have q : atI xs ((r.toNat : Nat) : Int) = some xs[r.toNat] := atI_nat (List.getElem?_eq_getElem hk)
 rw [← ek] at q
 exact ⟨_, q, List.getElem_mem hk⟩
theorem pickI {ns : List Int} {r : Int} (h0 : 0 ≤ r) (h1 : r < (ns.length : Int)) : ∃ z : Int, atI (ns.map V.int) r = some (.int z) := by
 obtain ⟨v, h, hv⟩ := pick (xs := ns.map V.int) h0 (by rw [List.length_map]; exact h1)
 obtain ⟨z, _, rfl⟩ := List.mem_map.mp hv
 exact ⟨z, h⟩
structure Tape (H : Hp) (t s : Addr) : Prop where
 ex : ∃ (ns : List Int) (p q r : Int), H t = some (.lst [.ref s, .int p, .int q, .int r]) /\ H s = some (.lst (ns.map V.int)) /\ s ≠ t /\ ns.length ≤ 63 /\ 0 ≤ p /\ 0 ≤ q /\ 0 ≤ r
theorem Tape.lst {H : Hp} {t s : Addr} (h : Tape H t s) : ∃ xs, H t = some (.lst xs) := let ⟨_, _, _, _, e, _⟩ := h.ex; ⟨_, e⟩
theorem Tape.scr {H : Hp} {t s : Addr} (h : Tape H t s) : ∃ xs, H s = some (.lst xs) := let ⟨_, _, _, _, _, e, _⟩ := h.ex; ⟨_, e⟩
theorem Tape.same {H H' : Hp} {t s : Addr} (h : Tape H t s) (z : Same H H') : Tape H' t s := by
 obtain ⟨ns, p, q, r, h1, h2, h3⟩ := h.ex
 exact ⟨ns, p, q, r, z _ _ h1, z _ _ h2, h3⟩
theorem Tape.new {H : Hp} {t s p : Addr} (h : Tape H t s) (n : H p = none) (o : HO) : Tape (upd H p o) t s := h.same (same_new n o)
theorem Tape.upl {H : Hp} {t s l : Addr} (h : Tape H t s) (a : l ≠ t) (b : l ≠ s) (o : HO) : Tape (upd H l o) t s := by
 obtain ⟨ns, p, q, r, h1, h2, h3⟩ := h.ex
 exact ⟨ns, p, q, r, by rw [upd_ne a.symm]; exact h1, by rw [upd_ne b.symm]; exact h2, h3⟩
theorem cut63 (ns : List Int) : cutV (ns.map V.int) none (some 63) = (ns.take (min 63 ns.length)).map V.int := by
 unfold cutV
 rw [show (some (63 : Int)) = some (((63 : Nat) : Int)) from rfl, HT.sIx_nat, HT.sIx_none, List.length_map, Nat.sub_zero, List.drop_zero, List.map_take]
def sp_tape (K : Fg) : Sp := fun vs H Q _ => ∃ (a : Addr) (ns : List Int), vs = [.ref a] /\ SqL K H a (ns.map V.int) /\ ∀ (t s : Addr) (H' : Hp), Same H H' -> H t = none -> H s = none -> Tape H' t s -> Q (.ref t) H'
def sp_draw : Sp := fun vs H Q _ => ∃ (t s : Addr) (m : Int), vs = [.ref t, .int m] /\ Tape H t s /\ 0 < m /\ m < 1073741824 /\ ∀ (r : Int) (xs : List V), 0 ≤ r -> r < m -> Tape (upd H t (.lst xs)) t s -> Q (.int r) (upd H t (.lst xs))
def sp_lawT (K : Fg) : Sp := fun vs H Q _ => ∃ (a : Addr) (ns : List Int), vs = [.ref a] /\ SqL K H a (ns.map V.int) /\ ns.length ≤ 63 /\ ∀ H', Q (.bl true) H'
theorem gcd_turn {a b : Int} (ha : 0 ≤ a) (hb : 0 < b) : Int.gcd b (a % b) = Int.gcd a b := by
 obtain ⟨n, rfl⟩ := Int.eq_ofNat_of_zero_le ha
 obtain ⟨m, rfl⟩ := Int.eq_ofNat_of_zero_le (Int.le_of_lt hb)
 rw [← Int.natCast_emod]
 show Nat.gcd m (n % m) = Nat.gcd n m
 rw [Nat.gcd_comm m, ← Nat.gcd_rec, Nat.gcd_comm]
theorem abs_if (i : Int) : (if i < 0 then -i else i) = (i.natAbs : Int) := by split <;> omega
end B
namespace B
open PySem PySem.Spec L2 PyProof.Rows
mutual
inductive Deep (K : Fg) (H : Hp) : V -> PyData -> Prop where
 | non : Deep K H .non .none
 | bl (b : Bool) : Deep K H (.bl b) (.bool b)
 | int (i : Int) : Deep K H (.int i) (.int i)
 | str (x : Str) : Deep K H (.str x) (.str x)
 | lst {a : Addr} {xs : List V} {ds : List PyData} (e : SqL K H a xs) (h : DeepAll K H xs ds) : Deep K H (.ref a) (.list ds)
 | tup {a : Addr} {xs : List V} {ds : List PyData} (e : SqT K H a xs) (h : DeepAll K H xs ds) : Deep K H (.ref a) (.tuple ds)
inductive DeepAll (K : Fg) (H : Hp) : List V -> List PyData -> Prop where
 | nil : DeepAll K H [] []
 | cons {x : V} {d : PyData} {xs : List V} {ds : List PyData} (h : Deep K H x d) (t : DeepAll K H xs ds) : DeepAll K H (x :: xs) (d :: ds)
end
mutual
theorem Deep.reads {X : Cx} {pins : PLs} {σ : L2.St} {H : Hp} {s : Shared} (I : Inv X pins σ H s) : ∀ {v : V} {d : PyData} {u : Value}, Deep X.K H v d -> RelV v u -> ∃ as, Reads s.heap u d as
 | _, _, u, .non, r => by cases (show u = Value.none from r); exact ⟨_, .none⟩
 | _, _, u, .bl b, r => by cases (show u = Value.bool b from r); exact ⟨_, .bool b⟩
 | _, _, u, .int i, r => by obtain ⟨t, q⟩ := (show ∃ t, u = Value.int i t from r); cases q; exact ⟨_, .int i t⟩
 | _, _, u, .str x, r => by obtain ⟨t, q⟩ := (show ∃ t, u = Value.str x t from r); cases q; exact ⟨_, .str x t⟩
 | _, _, u, .lst (a := a) e h, r => by
  cases (show u = Value.ref a from r)
  obtain ⟨its, rv, ⟨o, n, ho, hc, _, hd⟩, _⟩ := I.list e
  obtain ⟨as, q⟩ := DeepAll.reads I h rv
  exact ⟨_, .list ho hc hd (by simpa using q)⟩
 | _, _, u, .tup (a := a) e h, r => by
  cases (show u = Value.ref a from r)
  obtain ⟨its, rv, ⟨o, ho, hc, n, hd⟩, _⟩ := I.tuple e
  obtain ⟨as, q⟩ := DeepAll.reads I h rv
  exact ⟨_, .tuple ho hc hd (by simpa using q)⟩
theorem DeepAll.reads {X : Cx} {pins : PLs} {σ : L2.St} {H : Hp} {s : Shared} (I : Inv X pins σ H s) : ∀ {vs : List V} {ds : List PyData} {us : List Value}, DeepAll X.K H vs ds -> Vals vs us -> ∃ as, ReadsAll s.heap us ds as
 | _, _, _, .nil, .nil => ⟨_, .nil⟩
 | _, _, _, .cons h t, .cons r q =>
  let ⟨_, a⟩ := Deep.reads I h r
  let ⟨_, b⟩ := DeepAll.reads I t q
  ⟨_, .cons a b⟩
end
structure Shows (d : PyData) : Prop where
 sh : d.showable = true
 nd : d.hasDict = false
 sz : d.shown.length ≤ sizeLine
 dp : d.depth ≤ 16
def rRepr (K : Fg) : List V -> Hp -> VK -> Prop := fun xs H Q => ∃ v d, xs = [v] /\ Deep K H v d /\ Shows d /\ Q (.str d.shown) H
end B
namespace B
open PySem PySem.Spec L2 PyProof.Rows
def cxC (X : Cx) (N' : List Str) (scope : Scope) (cl : List (Str × Addr)) (C : Addr) (fp : List Addr) (pins : PLs) (s : Shared) (H : Hp) : Cx :=
 { X with N := N', s₀ := s, H₀ := H, env := compEnvC scope cl C X.env, outer := X.stack, stack := X.stack, ex := fp, fn := fun _ => false, pn := X.pn ++ pins, xe := fun _ _ => False }
def FreeOk (X : Cx) (scope : Scope) (cl : List (Str × Addr)) : List Str -> List (Option Nat) -> Prop
 | [], [] => True
 | _ :: N, none :: r => FreeOk X scope cl N r
 | x :: N, some j :: r => X.N[j]? = some x /\ X.env.kindOf x = some .cell /\ (compEnvC scope cl 0 X.env).kindOf x = some .cell /\ cl.lookup x = X.env.cells.lookup x /\ FreeOk X scope cl N r
 | _, _ => False
def frees (src : List (Option Nat)) (σ : L2.St) : L2.St := src.map fun o => o.bind fun j => (σ[j]?).getD none
theorem FreeOk.len {X : Cx} {scope : Scope} {cl : List (Str × Addr)} : ∀ {N : List Str} {src : List (Option Nat)}, FreeOk X scope cl N src -> N.length = src.length
 | [], [], _ => rfl
 | _ :: _, none :: _, h => congrArg (· + 1) (FreeOk.len (X := X) (scope := scope) (cl := cl) h)
 | _ :: _, some _ :: _, h => congrArg (· + 1) (FreeOk.len (X := X) (scope := scope) (cl := cl) h.2.2.2.2)
theorem FreeOk.at {X : Cx} {scope : Scope} {cl : List (Str × Addr)} {σ : L2.St} : ∀ {N : List Str} {src : List (Option Nat)} {i : Nat} {x : Str} {v : V}, FreeOk X scope cl N src -> N[i]? = some x -> (frees src σ)[i]? = some (some v) →
  ∃ j : Nat, X.N[j]? = some x /\ σ[j]? = some (some v) /\ X.env.kindOf x = some .cell /\ (compEnvC scope cl 0 X.env).kindOf x = some .cell /\ cl.lookup x = X.env.cells.lookup x
 | y :: N, none :: r, 0, x, v, h, e, q => by cases q
 | y :: N, none :: r, i + 1, x, v, h, e, q => FreeOk.at (N := N) (src := r) (i := i) h e q
 | y :: N, some j :: r, 0, x, v, h, e, q => by
  cases e
  refine ⟨j, h.1, ?_, h.2.1, h.2.2.1, h.2.2.2.1⟩
  have q' : some ((σ[j]?).getD none) = some (some v) := q
  injection q' with q'
  cases z : σ[j]? with
  | none => rw [z] at q'; cases q'
  | some o => rw [z] at q'; exact congrArg some q'
 | y :: N, some j :: r, i + 1, x, v, h, e, q => FreeOk.at (N := N) (src := r) (i := i) h.2.2.2.2 e q
def CellsOk (X : Cx) (scope : Scope) (cl : List (Str × Addr)) : Prop :=
 (∀ x, ((compEnvC scope cl 0 X.env).kindOf x = some .cell ∨ (compEnvC scope cl 0 X.env).kindOf x = some .free) -> ∃ c, cl.lookup x = some c) /\ ∀ x c, cl.lookup x = some c -> X.env.cells.lookup x = some c
def CellsIn (X : Cx) : List (Str × Addr) -> Prop
 | [] => True
 | y :: r => X.env.cells.lookup y.1 = some y.2 /\ CellsIn X r
theorem CellsIn.mem {X : Cx} : ∀ {cl : List (Str × Addr)}, CellsIn X cl -> ∀ y ∈ cl, X.env.cells.lookup y.1 = some y.2
 | [], _, y, h => by cases h
 | z :: r, k, y, h => by
  rcases List.mem_cons.mp h with e | h
  ·rw [e]; exact k.1
  ·exact CellsIn.mem k.2 y h
theorem mem_of_lookup {α : Type} {x : Str} {v : α} : ∀ {l : List (Str × α)}, l.lookup x = some v -> (x, v) ∈ l
 | [], h => by cases h
 | (y, w) :: r, h => by
  rw [List.lookup_cons] at h
  cases e : x == y with
  | true =>
   rw [e] at h
   have e' : x = y := eq_of_beq e
   cases h
   rw [e']; exact List.mem_cons_self
  | false =>
   rw [e] at h
   exact List.mem_cons_of_mem _ (mem_of_lookup h)
theorem cells_of {X : Cx} {scope : Scope} {cl : List (Str × Addr)} (h1 : ((relabel scope X.env).names.all fun y => !(y.2 == .cell || y.2 == .free) || (cl.lookup y.1).isSome) = true) (h2 : CellsIn X cl) : CellsOk X scope cl := by
 refine ⟨fun x h => ?_, fun x c e => h2.mem _ (mem_of_lookup e)⟩
 have h3 := List.all_eq_true.mp h1
 have key : ∀ k : NameKind, (k = .cell ∨ k = .free) -> (relabel scope X.env).names.lookup x = some k -> ∃ c, cl.lookup x = some c := fun k hk e => by
  have q := h3 _ (mem_of_lookup e)
  have z : (k == NameKind.cell || k == NameKind.free) = true := by rcases hk with rfl | rfl <;> rfl
  simp only [z, Bool.not_true, Bool.false_or] at q
  exact Option.isSome_iff_exists.mp q
 rcases h with h | h
 ·exact key _ (.inl rfl) h
 ·exact key _ (.inr rfl) h
def Ext (σ σ' : L2.St) : Prop := σ'.length = σ.length /\ ∀ (i : Nat) (v : V), σ[i]? = some (some v) -> σ'[i]? = some (some v)
theorem Ext.set {σ : L2.St} {i : Nat} {v : V} (h : σ[i]? = some none) : Ext σ (σ.set i (some v)) := by
 refine ⟨List.length_set, fun j u e => ?_⟩
 have ne : i ≠ j := fun z => by subst z; rw [h] at e; cases e
 rw [List.getElem?_set_ne ne]; exact e
theorem Ext.set' {σ τ : L2.St} {i : Nat} {v : V} (e : Ext σ τ) (h : σ[i]? = some none) : Ext σ (τ.set i (some v)) := by
 refine ⟨by rw [List.length_set]; exact e.1, fun j u q => ?_⟩
 have ne : i ≠ j := fun z => by subst z; rw [h] at q; cases q
 rw [List.getElem?_set_ne ne]; exact e.2 j u q
section
variable {X : Cx} {N' : List Str} {scope : Scope} {cl : List (Str × Addr)} {src : List (Option Nat)} {pins : PLs} {σ : L2.St} {H : Hp} {s : Shared} {fp : List Addr}
theorem Cx.comp_ok {C : Addr} (I : Inv X pins σ H s) (hC : s.heap.objs.size ≤ C) (hk : scope.kind = .function) (hf : ∀ b ∈ fp, FpOk X pins H b) (hfs : ∀ b ∈ fp, b < s.heap.objs.size) (hc : CellsOk X scope cl) :
  (cxC X N' scope cl C fp pins s H).Ok where
 mod := I.ok.mod
 kind := hk
 glob := I.ok.glob
 blt := I.ok.blt
 above := hC
 inj := fun x y c e1 e2 => I.ok.inj x y c (hc.2 x c e1) (hc.2 y c e2)
 has := fun x h => hc.1 x h
 cab := fun x c z => nomatch z
 hd := I.ok.hd
 frames := I.ok.frames
 stk := .inl rfl
 exf := fun b hb => ⟨fun z => by have := hfs b hb; rw [show b = C from z] at this; exact absurd (Nat.lt_of_lt_of_le this hC) (Nat.lt_irrefl _), fun x c e => (hf b hb).2.2.2.2.1 x c (hc.2 x c e)⟩
 bs := I.bs
 bsz := Nat.le_trans I.ok.bsz I.sz
 noex := fun b o e hb => by
  rcases (hf b hb).2.2.2.1 with z | z
  ·exact I.ok.noex b o e z
  ·rw [(I.ok.bs b o e).1] at z; cases z
 exfs := fun b hb z => by
  rcases List.mem_cons.mp (I.stkSub b z) with q | q
  ·exact (hf b hb).2.1 q
  ·exact (hf b hb).2.2.1 q
 funs := I.stack
 frf := I.stkFree
theorem Inv.comp {C : Addr} {h₁ : Heap} {m : Str -> Option Value} {tk : Nat} (I : Inv X pins σ H s) (hC : C = s.heap.objs.size) (hns : h₁.Ns C m) (keep : ∀ b o, s.heap.get? b = some o -> h₁.get? b = some o)
  (hk : scope.kind = .function) (hf : ∀ b ∈ fp, FpOk X pins H b) (hfs : ∀ b ∈ fp, b < s.heap.objs.size) (hc : CellsOk X scope cl) (hfree : FreeOk X scope cl N' src) :
  Inv (cxC X N' scope cl C fp pins s H) [] (frees src σ) H { s with heap := h₁, toks := tk } where
 ok := Cx.comp_ok I (Nat.le_of_eq hC.symm) hk hf hfs hc
 os := rfl
 bare := I.bare
 base := Un.kept keep
 loc := ⟨m, hns, fun i x v e1 e2 _ => by
  obtain ⟨j, hj, hσ, kc, kc', hl⟩ := hfree.at e1 e2
  obtain ⟨m0, hn0, hl0⟩ := I.loc
  obtain ⟨u, r, l⟩ := hl0 j x v hj hσ (Or.inr (Or.inl kc))
  rcases l with ⟨k, _⟩ | ⟨k, c, e, o, ho, hd⟩
  ·rw [kc] at k; cases k
  ·exact ⟨u, r, .inr ⟨.inl kc', c, hl.trans e, o, keep c o ho, hd⟩⟩⟩
 cell := fun x c e => let ⟨v, o, ho, hd⟩ := I.cell x c (hc.2 x c e); ⟨v, o, keep _ _ ho, hd⟩
 free := I.hok.fresh (Nat.le_of_eq hC.symm)
 freeC := fun x c e => I.freeC x c (hc.2 x c e)
 pin := fun p hp => by
  have hp' : p ∈ X.pn ++ pins := by
   have z : p ∈ (X.pn ++ pins) ++ [] := hp
   rw [List.append_nil] at z; exact z
  obtain ⟨e, n, ne, nf, d⟩ := I.pin p hp'
  refine ⟨keep _ _ e, n, fun z => ?_, fun z => ?_, d⟩
  ·have := Heap.lt_size e; rw [show p.1 = C from z, hC] at this; exact Nat.lt_irrefl _ this
  ·rcases List.mem_cons.mp (I.stkSub _ z) with q | q
   ·exact ne q
   ·exact nf q
 hok := I.hok.kept keep
 len := by show (frees src σ).length = N'.length; unfold frees; rw [List.length_map, hfree.len]
end
def PTs (X : Cx) (ifs : List Expr) (t : TT) : Prop :=
 ∀ (pins : PLs) (s : Shared) (σ : L2.St) (H : Hp) (Q : Bool -> Hp -> Prop), Inv X pins σ H s -> t σ H Q →
  wpAny (model X.prog X.w) X.A (forIn ifs true fun c r => if r = true then do let ok ← isTrue c X.env (eval c X.env); pure (ForInStep.yield ok) else pure (ForInStep.yield r)) (TP X pins σ Q) X.xe s
def tYes : TT := fun _ H Q => Q true H
theorem pts_nil {X : Cx} : PTs X [] tYes := fun _ _ _ H _ I h => wpAny_tests_nil ⟨H, I, h⟩
theorem pts_one {X : Cx} {c : Expr} {t : TT} (h : PT X c t) : PTs X [c] t := fun pins s σ H Q I q => wpAny_tests_one (h pins s σ H Q I q)
section
variable {prog : Program} {w : World} {A : Around} {R : Result -> Shared -> Prop} {s : Shared}
theorem comp_loop {elt target iter : Expr} {ifs : List Expr} {scope : Scope} {pos : Pos} {it acc : Value} {env : Env} (I : Nat -> Shared -> Prop)
  (turn : ∀ n s, I n s -> wpAny (model prog w) A (pyNext it) (fun r s₁ => match r with
   | none => R (.ok .next) s₁
   | some v => wpAny (model prog w) A (letOwnedTupleGo target it v) (fun _ s₁' => wpAny (model prog w) A (assign target env v) (fun _ s₂ =>
     wpAny (model prog w) A (forIn ifs true fun c r => if r = true then do let ok ← isTrue c env (eval c env); pure (ForInStep.yield ok) else pure (ForInStep.yield r)) (fun ok s₃ =>
      if ok = true then wpAny (model prog w) A (eval elt env) (fun x s₄ =>
       wpAny (model prog w) A (call (.builtin "list.append") [acc, x]) (fun _ s₅ => ∃ m, m < n /\ I m s₅) (fun _ _ => False) s₄) (fun _ _ => False) s₃
      else ∃ m, m < n /\ I m s₃) (fun _ _ => False) s₂) (fun _ _ => False) s₁') (fun _ _ => False) s₁) (fun _ _ => False) s)
  (n : Nat) (h : I n s) : codeAny (model prog w) A (.compLoop (.ListComp elt [⟨target, iter, ifs, 0⟩] scope pos) 0 it acc env) R s := by
 refine codeAny_loop rfl I (fun n s hI => ?_) n h
 show wpAny _ A ((compTurn (.ListComp elt [⟨target, iter, ifs, 0⟩] scope pos) 0 it acc env).onRaise (fun x => do noteFrame x env; theTreesLotGoes x)) _ _ s
 refine wpAny_noted ?_
 rw [compTurn_list]
 refine wpAny_bind (wpAny_standAt (wpAny_bind (wpAny_mono (turn n s hI) (fun r s₁ h₁ => ?_) fun _ _ h' => h'.elim)))
 cases r with
 | none => exact wpAny_pure h₁
 | some v =>
  refine wpAny_bind (wpAny_mono h₁ (fun _ s₁' h₁' => ?_) fun _ _ h' => h'.elim)
  refine wpAny_bind (wpAny_mono h₁' (fun _ s₂ h₂ => wpAny_bind (wpAny_mono h₂ (fun ok s₃ h₃ => ?_) fun _ _ h' => h'.elim)) fun _ _ h' => h'.elim)
  cases ok with
  | false => exact wpAny_pure ⟨rfl, h₃⟩
  | true =>
   exact wpAny_bind (wpAny_bind (wpAny_mono h₃ (fun x s₄ h₄ => wpAny_bind (wpAny_mono h₄ (fun _ s₅ h₅ => wpAny_pure (wpAny_pure ⟨rfl, h₅⟩)) fun _ _ h' => h'.elim)) fun _ _ h' => h'.elim))
end
structure OffC (X : Cx) (pins : PLs) (H : Hp) (C : Addr) : Prop where
 no : H C = none
 lo : C ≠ X.env.locals
 fs : C ∉ X.fs
 old : X.s₀.heap.get? C = none
 ce : ∀ x c, X.env.cells.lookup x = some c -> c ≠ C
 pn : ∀ p ∈ X.pn ++ pins, p.1 ≠ C
theorem OffC.turned {X : Cx} {pins : PLs} {σ : L2.St} {H : Hp} {C : Addr} {s : Shared} (o : OffC X pins H C) (I : Inv X pins σ H s) {h' : Heap} (sb : Heap.SameBut C s.heap h') : Inv X pins σ H { s with heap := h' } :=
 I.turned (it := C) (t' := s.toks) (fun b u hb e => sb.extBut b u hb e) o.no o.lo (.inr o.old) o.ce o.pn
def tComp (wi : TI) (src : List (Option Nat)) (g : TG) (tt : TT) (te : TE) : TE := fun σ H Q => wi σ H fun J H1 => ∀ D, H1 D = none -> ∃ W : Nat -> Nat -> List V -> Hp -> Prop,
 (∃ m, W 0 m [] (upd H1 D (.lst []))) /\ ∀ i m ys H, W i m ys H -> (J.stop i H /\ Q (.ref D) H) ∨ (J.go i H /\ ∀ x H', J.yld i H x H' -> g x (frees src σ) H' fun σ2 H2 => Ext (frees src σ) σ2 /\ tt σ2 H2 fun ok H3 =>
  if ok = true then te σ2 H3 fun y H4 => H4 D = some (.lst ys) /\ ys.length < sizeLine /\ ∃ m', m' < m /\ W (i + 1) m' (ys ++ [y]) (upd H4 D (.lst (ys ++ [y]))) else ∃ m', m' < m /\ W (i + 1) m' ys H3)
section
variable {X : Cx} {N' : List Str} {scope : Scope} {cl : List (Str × Addr)} {src : List (Option Nat)} {tg iter elt : Expr} {ifs : List Expr} {wi : TI} {g : TG} {tt : TT} {te : TE} {pos : Pos}
theorem comp_run (hc : X.calm = true) (hi : PI X tg iter wi) (hg : ∀ C fp pins s H, PG (cxC X N' scope cl C fp pins s H) tg g) (ht : ∀ C fp pins s H, PTs (cxC X N' scope cl C fp pins s H) ifs tt)
  (he : ∀ C fp pins s H, PE (cxC X N' scope cl C fp pins s H) elt te) (hfree : FreeOk X scope cl N' src) (hcell : ∀ x ∈ scope.names, x.2 ≠ .cell) (hkind : scope.kind = .function) (hcl : CellsOk X scope cl)
  {RR : Value -> Addr -> Result -> Shared -> Prop} {pins : PLs} {s : Shared} {σ : L2.St} {H : Hp} {Q : VK} (I : Inv X pins σ H s) (h : tComp wi src g tt te σ H Q)
  (hRR : ∀ D C H' s', Q (.ref D) H' -> (∃ m, s'.heap.Ns C m) -> Inv X pins σ H' s' -> OffC X pins H' C -> RR (.ref D) C (.ok .next) s') :
  wpAny (model X.prog X.w) X.A (eval iter X.env) (fun x s₁ => wpAny (model X.prog X.w) X.A (pyIter x) (fun itv s₂ => wpAny (model X.prog X.w) X.A (newList []) (fun acc s₃ =>
   wpAny (model X.prog X.w) X.A (newFunctionEnv scope X.env.globals cl [] X.env.qual none .none (some X.env)) (fun cenv s₄ =>
    codeAny (model X.prog X.w) X.A (.compStart (.ListComp elt [⟨tg, iter, ifs, 0⟩] scope pos) 0 itv acc { cenv with scope := relabel scope X.env }) (RR acc cenv.locals) s₄) X.xe s₃) X.xe s₂) X.xe s₁) X.xe s := by
 refine thn (hi pins s σ H _ I h) fun v s1 h1 => thn h1 fun itv s2 h2 => ?_
 obtain ⟨it, fp, tn, J, H2, e, I2, T, st2, f2, h2⟩ := h2
 subst e
 refine wpAny_newObj_type ?_ (by show 0 ≤ sizeLine; exact Nat.zero_le _)
 have hD : H2 s2.heap.objs.size = none := I2.fresh
 have I3 : Inv X pins σ (upd H2 s2.heap.objs.size (.lst [])) { s2 with heap := s2.heap.push { cls := .type "list", data := .seq ([] : List Value).toArray } } := I2.lnew (t' := s2.toks) (its := []) .nil (Nat.zero_le _)
 obtain ⟨W, ⟨m0, w0⟩, turn⟩ := h2 s2.heap.objs.size hD
 generalize hDe : s2.heap.objs.size = D at I3 turn w0 hD ⊢
 have st3 : tn 0 (s2.heap.push { cls := .type "list", data := .seq ([] : List Value).toArray }) := T.keep _ _ _ st2 fun b _ o e => Heap.get?_push_of_some _ e
 have f3 : ∀ b ∈ fp, FpOk X pins (upd H2 D (.lst [])) b /\ b < (s2.heap.push { cls := .type "list", data := .seq ([] : List Value).toArray }).objs.size := fun b hb => by
  obtain ⟨o, e, _⟩ := T.obj _ _ st2 b hb
  have l := Heap.lt_size e
  rw [hDe] at l
  refine ⟨⟨?_, (f2 b hb).2⟩, by rw [Heap.size_push, hDe]; exact Nat.lt_succ_of_lt l⟩
  rw [upd_ne (Nat.ne_of_lt l)]; exact (f2 b hb).1
 generalize (s2.heap.push { cls := .type "list", data := .seq ([] : List Value).toArray }) = h3 at I3 st3 f3 ⊢
 refine wpAny_newFunctionEnv hcell (by intro y hy; simp at hy) (fun h₄ hns₄ hsb₄ => ?_) hkind
 have keep : ∀ b o, h3.get? b = some o -> h₄.get? b = some o := fun b o e => hsb₄.extBut b o (Nat.ne_of_lt (Heap.lt_size e)) (Heap.get?_push_of_some _ e)
 have I4 := Inv.comp (C := h3.objs.size) (fp := fp) (tk := s2.toks + ([] : List (Str × Value)).length) I3 rfl hns₄ keep hkind (fun b hb => (f3 b hb).1) (fun b hb => (f3 b hb).2) hcl hfree
 have st4 : tn 0 h₄ := T.keep _ _ _ st3 fun b _ o e => keep b o e
 have fpn : ∀ b ∈ fp, (upd H2 D (.lst [])) b = none := fun b hb => (f3 b hb).1.1
 have hn3 : ∀ b ∈ fp, b ≠ h3.objs.size := fun b hb => Nat.ne_of_lt (f3 b hb).2
 have stat : ∀ {H' : Hp}, (∀ b ∈ fp, H' b = none) -> ∀ b ∈ fp, FpOk (cxC X N' scope cl h3.objs.size fp pins { s2 with heap := h3 } (upd H2 D (.lst []))) [] H' b := fun hn b hb =>
  ⟨hn b hb, hn3 b hb, I4.ok.exfs b hb, .inl hb, fun x c e => (f3 b hb).1.2.2.2.2.1 x c (hcl.2 x c e), fun p hp => (f3 b hb).1.2.2.2.2.2 p (by
   have z : p ∈ (X.pn ++ pins) ++ [] := hp
   rw [List.append_nil] at z; exact z)⟩
 have back : ∀ {H' : Hp} {s' : Shared}, Inv (cxC X N' scope cl h3.objs.size fp pins { s2 with heap := h3 } (upd H2 D (.lst []))) [] (frees src σ) H' s' -> (∃ m, s'.heap.Ns h3.objs.size m) /\ Inv X pins σ H' s' /\ OffC X pins H' h3.objs.size := fun {H' s'} I' => by
  have Ib : Inv X pins σ H' s' := I3.call' I'.os I'.base I'.hok I'.bare fun b hb => ⟨(f3 b hb).1.2.2.2.1, (f3 b hb).1.2.1, (f3 b hb).1.2.2.2.2.1, (f3 b hb).1.2.2.2.2.2⟩
  refine ⟨let ⟨m, hm, _⟩ := I'.loc; ⟨m, hm⟩, Ib, ⟨I'.free, fun z => ?_, I3.nofs (Nat.le_refl _), Heap.get?_none_of_le I3.sz, fun x c e z => ?_, fun p hp z => ?_⟩⟩
  ·have := I3.lt; rw [← z] at this; exact Nat.lt_irrefl _ this
  ·obtain ⟨v, o, ho, _⟩ := I3.cell x c e
   have := Heap.lt_size ho; rw [z] at this; exact Nat.lt_irrefl _ this
  ·obtain ⟨e, _⟩ := I3.pin p hp
   have := Heap.lt_size e; rw [z] at this; exact Nat.lt_irrefl _ this
 have loop : codeAny (model X.prog X.w) X.A (.compLoop (.ListComp elt [⟨tg, iter, ifs, 0⟩] scope pos) 0 (.ref it) (.ref D) (compEnvC scope cl h3.objs.size X.env)) (RR (.ref D) h3.objs.size) { s2 with heap := h₄, toks := s2.toks + ([] : List (Str × Value)).length } := by
  refine comp_loop (fun n s' => ∃ i ys H', Inv (cxC X N' scope cl h3.objs.size fp pins { s2 with heap := h3 } (upd H2 D (.lst []))) [] (frees src σ) H' s' /\ tn i s'.heap /\ (∀ b ∈ fp, H' b = none) /\ W i n ys H') ?_ m0 ⟨0, [], _, I4, st4, fpn, w0⟩
  rintro n s5 ⟨i, ys, H5, I5, st5, fr5, w5⟩
  rcases turn i n ys H5 w5 with ⟨stop, qn⟩ | ⟨go, step⟩
  ·refine thn (T.done (cxC X N' scope cl h3.objs.size fp pins { s2 with heap := h3 } (upd H2 D (.lst []))) rfl rfl rfl hc i [] s5 _ H5 _ I5 (stat fr5) st5 stop) fun r s6 ⟨hr, I6⟩ => ?_
   subst hr
   obtain ⟨b1, b2, b3⟩ := back I6
   exact hRR D _ H5 s6 qn b1 b2 b3
  ·refine thn (T.item (cxC X N' scope cl h3.objs.size fp pins { s2 with heap := h3 } (upd H2 D (.lst []))) rfl rfl rfl hc i [] s5 _ H5 _ I5 (stat fr5) st5 go) fun r s6 ⟨u, hr, h6⟩ => ?_
   subst hr
   refine thn h6 fun _ s7 ⟨x, H7, I7, r7, y7, st7, fr7⟩ => ?_
   have I7' := I7.pinned (stat fr7) (T.obj _ _ st7)
   refine thn (hg _ _ _ _ _ _ s7 _ H7 x u _ I7' r7 (step x H7 y7)) fun _ s8 ⟨σ8, H8, I8, ex8, q8⟩ => ?_
   refine thn (ht _ _ _ _ _ _ s8 σ8 H8 _ I8 q8) fun ok s9 ⟨H9, I9, q9⟩ => ?_
   have again : ∀ {ys' : List V} {Ha : Hp} {sa : Shared}, Inv (cxC X N' scope cl h3.objs.size fp pins { s2 with heap := h3 } (upd H2 D (.lst []))) ([] ++ pinsAt fp s7.heap) σ8 Ha sa -> (∃ m', m' < n /\ W (i + 1) m' ys' Ha) →
     ∃ m, m < n /\ ∃ i ys H', Inv (cxC X N' scope cl h3.objs.size fp pins { s2 with heap := h3 } (upd H2 D (.lst []))) [] (frees src σ) H' sa /\ tn i sa.heap /\ (∀ b ∈ fp, H' b = none) /\ W i m ys H' := fun {ys' Ha sa} Ia ⟨m', hm, wa⟩ => by
    refine ⟨m', hm, i + 1, ys', Ha, (Ia.unpinned).weak ex8.1.symm ex8.2, T.keep _ _ _ st7 fun b hb o e => (Ia.pin (b, o) (List.mem_append_right _ (List.mem_append_right _ (mem_pinsAt hb e)))).1, fun b hb => ?_, wa⟩
    obtain ⟨o, e, _⟩ := T.obj _ _ st7 b hb
    exact (Ia.pin (b, o) (List.mem_append_right _ (List.mem_append_right _ (mem_pinsAt hb e)))).2.1
   cases ok with
   | false => exact again I9 q9
   | true =>
    refine thn (he _ _ _ _ _ _ s9 σ8 H9 _ I9 q9) fun y s10 ⟨yv, H10, I10, r10, q10, hz, wn⟩ => ?_
    refine thn (mt_append _ s10 σ8 H10 (.ref D) [yv] (.ref D) [y] (fun _ Hz => ∃ m', m' < n /\ W (i + 1) m' (ys ++ [yv]) Hz) I10 rfl (.cons r10 .nil) ⟨D, ys, yv, rfl, rfl, q10, hz, wn⟩) fun _ s11 ⟨_, H11, I11, _, q11⟩ => ?_
    exact again I11 q11
 exact codeAny_compStart_list loop (T.self _ 0 _ _ _ st4 loop)
theorem pe_lcomp (hc : X.calm = true) (hi : PI X tg iter wi) (hg : ∀ C fp pins s H, PG (cxC X N' scope cl C fp pins s H) tg g) (ht : ∀ C fp pins s H, PTs (cxC X N' scope cl C fp pins s H) ifs tt)
  (he : ∀ C fp pins s H, PE (cxC X N' scope cl C fp pins s H) elt te) (hfree : FreeOk X scope cl N' src) (hclos : closureFor scope X.env = pure cl) (hcell : ∀ x ∈ scope.names, x.2 ≠ .cell) (hkind : scope.kind = .function)
  (hnames : ∀ x ∈ scope.names, x.2 = .local -> scope.names.lookup x.1 = some .local) (hcl : CellsOk X scope cl) (hs : ∀ x, foldedSetIterable iter X.env x = pure x := by intro _; rfl) :
  PE X (.ListComp elt [⟨tg, iter, ifs, 0⟩] scope pos) (tComp wi src g tt te) := by
 intro pins s σ H Q I h
 rw [eval_ListComp]
 refine wpAny_comprehension_free (use := none) rfl hs hclos hkind hnames (comp_run hc hi hg ht he hfree hcell hkind hcl (RR := fun acc C => compPost (model X.prog X.w) X.A X.xe none (EP X pins σ Q) acc C) I h fun D C H' s' q hm hI hb => ?_)
 obtain ⟨m, hm⟩ := hm
 exact ⟨m, hm, fun h' sb => ⟨.ref D, H', hb.turned hI sb, rfl, q⟩⟩
theorem ps_setC {i : Nat} {x : Str} {pos' pos2 : Pos} (hN : X.N.Nodup) (hi' : X.N[i]? = some x) (hx : Loc X.env.scope x) (hc : X.calm = true) (hi : PI X tg iter wi) (hg : ∀ C fp pins s H, PG (cxC X N' scope cl C fp pins s H) tg g) (ht : ∀ C fp pins s H, PTs (cxC X N' scope cl C fp pins s H) ifs tt)
  (he : ∀ C fp pins s H, PE (cxC X N' scope cl C fp pins s H) elt te) (hfree : FreeOk X scope cl N' src) (hclos : closureFor scope X.env = pure cl) (hcell : ∀ x ∈ scope.names, x.2 ≠ .cell) (hkind : scope.kind = .function)
  (hnames : ∀ x ∈ scope.names, x.2 = .local -> scope.names.lookup x.1 = some .local) (hcl : CellsOk X scope cl) (hs : ∀ x, foldedSetIterable iter X.env x = pure x := by intro _; rfl)
  (hsw : swapsWith (.ListComp elt [⟨tg, iter, ifs, 0⟩] scope pos) (some (.Name x pos')) pos2.line X.env = pure true := by rfl) (hf : X.fn x = true ∨ X.env.scope.names.lookup x = some .local := by first | exact .inl rfl | exact .inr rfl | assumption) :
  PS X (.Assign [.Name x pos'] (.ListComp elt [⟨tg, iter, ifs, 0⟩] scope pos) pos2) (tAsg (tComp wi src g tt te) (gName i)) := by
 intro pins s σ H D I h
 rw [exec_Assign_Name_used _ _ _ _ hsw]
 refine wpAny_bind (wpAny_standAt ?_)
 show wpAny _ _ ((comprehension (.ListComp elt [⟨tg, iter, ifs, 0⟩] scope pos) scope X.env _ (newList []) false (eval iter X.env) (some (assign (.Name x pos') X.env)) >>= fun _ => pure ()) >>= fun _ => pure Flow.next) _ _ s
 refine wpAny_bind (wpAny_bind (wpAny_mono (wpAny_comprehension_free (use := some (assign (.Name x pos') X.env)) (Q := fun _ s'' => SP X pins D .next s'') rfl hs hclos hkind hnames (comp_run hc hi hg ht he hfree hcell hkind hcl (RR := fun acc C => compPost (model X.prog X.w) X.A X.xe (some (assign (.Name x pos') X.env)) (fun _ s'' => SP X pins D .next s'') acc C) I h fun E C H' s' q hm hI hb => ?_)) (fun _ s'' h'' => wpAny_pure (wpAny_pure h'')) fun _ _ e => e))
 obtain ⟨m, o, es, ep, ho, hd, r1, r2⟩ := hm
 have I' : Inv X (pins ++ [(C, o)]) σ H' s' := hI.pins_of fun p hp => by
  rcases List.mem_append.mp hp with h | h
  ·exact hI.pin p (List.mem_append_right _ h)
  ·rw [List.mem_singleton] at h
   rw [h]
   exact ⟨ho, hb.no, hb.lo, hb.fs, fun v z => by rw [hd] at z; cases z⟩
 refine wpAny_assign_Name (store_ok I' hN hi' hx (show RelV (.ref E) (.ref E) from rfl) (fun s'' I'' => ?_) hf)
 have hC := (I''.pin (C, o) (List.mem_append_right _ (List.mem_append_right _ List.mem_cons_self))).1
 have I3 : Inv X pins (σ.set i (some (.ref E))) H' s'' := I''.pins_of fun p hp => I''.pin p (List.mem_append_right _ (List.mem_append_left _ hp))
 exact ⟨m, ⟨o, es, ep, hC, hd, r1, r2⟩, fun h' sb => ⟨_, H', hb.turned I3 sb, q⟩⟩
end
def rNeD (K : Fg) : R2 := fun x y H Q => ∃ d d', Deep K H x d /\ Deep K H y d' /\ d.canLay0 = true /\ d'.canLay0 = true /\ d.depth ≤ 32 /\ Q (.bl (!PyData.eqv d d')) H
theorem op_neD {X : Cx} {k : Nat} (hr : Room k X.A) : OpR X (compareOp .NotEq) (rNeD X.K) := by
 intro pins s σ H x y v u Q I rx ry h
 obtain ⟨d, d', hd, hd', c, c', dp, q⟩ := h
 obtain ⟨as, ra⟩ := Deep.reads I hd rx
 obtain ⟨bs, rb⟩ := Deep.reads I hd' ry
 exact SeqAt.compareNe_reads ra rb c c' (by have := hr.units; omega) ⟨.bl _, H, I, rfl, q⟩
noncomputable def hitAt (h : Heap) (x : Value) (d : PyData) (y : Value) : Bool :=
 open Classical in if y = x then true else if z : ∃ d', d'.canLay0 = true /\ d'.depth ≤ 32 /\ ∃ as, Reads h y d' as then PyData.eqv z.choose d else false
theorem hitAt_eq {A : Around} {s : Shared} {x y : Value} {d : PyData} {as : List Addr} (rx : Reads s.heap x d as) (cx : d.canLay0 = true) (hu : A.units + 32 < cLine)
  (hy : ∃ d', d'.canLay0 = true /\ d'.depth ≤ 32 /\ ∃ as, Reads s.heap y d' as) : SeqAt.EqAt A s y x (hitAt s.heap x d y) := by
 unfold hitAt
 by_cases e : y = x
 ·rw [if_pos e, e]; exact SeqAt.EqAt.same x
 ·rw [if_neg e, dif_pos hy]
  obtain ⟨c, dp, bs, r⟩ := hy.choose_spec
  exact SeqAt.eqAt_reads _ _ A s _ _ _ _ r rx c cx (by omega)
def Known (K : Fg) (H : Hp) (xs : List V) : Prop := ∀ x ∈ xs, ∃ d, Deep K H x d /\ d.canLay0 = true /\ d.depth ≤ 32
theorem known_reads {X : Cx} {pins : PLs} {σ : L2.St} {H : Hp} {s : Shared} (I : Inv X pins σ H s) : ∀ {xs : List V} {us : List Value}, Vals xs us -> Known X.K H xs -> ∀ u ∈ us, ∃ d', d'.canLay0 = true /\ d'.depth ≤ 32 /\ ∃ as, Reads s.heap u d' as
 | _, _, .nil, _, u, hu => by cases hu
 | x :: xs, w :: us, .cons r t, k, u, hu => by
  rcases List.mem_cons.mp hu with rfl | hu
  ·obtain ⟨d, hd, c, dp⟩ := k x List.mem_cons_self
   obtain ⟨as, ra⟩ := Deep.reads I hd r
   exact ⟨d, c, dp, as, ra⟩
  ·exact known_reads I t (fun y hy => k y (List.mem_cons_of_mem _ hy)) u hu
def rNotInS (K : Fg) : R2 := fun x y H Q => ∃ a p xs, x = .ref a /\ y = .ref p /\ SqL K H p xs /\ V.ref a ∈ xs /\ Known K H xs /\ Q (.bl false) H
def rIndexS (K : Fg) : V -> List V -> Hp -> VK -> Prop := fun x vs H Q => ∃ p xs a d, x = .ref p /\ vs = [.ref a] /\ SqL K H p xs /\ V.ref a ∈ xs /\ Known K H xs /\ Deep K H (.ref a) d /\ d.canLay0 = true /\ d.depth ≤ 32 ∧
 ∀ (j : Nat) (v' : V), xs[j]? = some v' -> (v' = .ref a ∨ ∀ d', Deep K H v' d' -> d'.canLay0 = true -> PyData.eqv d' d = true) -> Q (.int j) H
theorem first_hit {α : Type} (e : α -> Bool) : ∀ (l : List α), (∃ x ∈ l, e x = true) -> ∃ j, ∃ h : j < l.length, e l[j] = true /\ ∀ m (hm : m < l.length), m < j -> e l[m] = false
 | [], ⟨_, h, _⟩ => by cases h
 | y :: l, h => by
  cases c : e y with
  | true => exact ⟨0, by simp, c, fun m _ hm => absurd hm (Nat.not_lt_zero _)⟩
  | false =>
   obtain ⟨x, hx, ex⟩ := h
   rcases List.mem_cons.mp hx with z | hx
   ·rw [← z, ex] at c; cases c
   ·obtain ⟨j, hj, e1, e2⟩ := first_hit e l ⟨x, hx, ex⟩
    refine ⟨j + 1, by simpa using hj, by simpa using e1, fun m hm hl => ?_⟩
    cases m with
    | zero => simpa using c
    | succ m => simpa using e2 m (by simpa using hm) (by omega)
end B
namespace B
abbrev R := Int × Int
def mkR (a b : Int) : R := (a / (Int.gcd a b : Int), b / (Int.gcd a b : Int))
structure Wf (n : Nat) (r : R) : Prop where
 pos : 0 < r.2
 top : r.1.natAbs < 2 ^ n
 bot : r.2.natAbs < 2 ^ n
 cop : Int.gcd r.1 r.2 = 1
theorem Wf.mono {n m : Nat} {r : R} (h : Wf n r) (l : n ≤ m) : Wf m r := ⟨h.pos, Nat.lt_of_lt_of_le h.top (Nat.pow_le_pow_right (by decide) l), Nat.lt_of_lt_of_le h.bot (Nat.pow_le_pow_right (by decide) l), h.cop⟩
theorem gcd_posR {a b : Int} (hb : 0 < b) : 0 < (Int.gcd a b : Int) := by
 have h : Int.gcd a b ≠ 0 := fun z => by
  have := (Int.gcd_eq_zero_iff.mp z).2
  omega
 omega
theorem natAbs_div_le (a : Int) {g : Int} (hg : 0 < g) : (a / g).natAbs ≤ a.natAbs := by
 have h1 := Int.ediv_mul_le a (show g ≠ 0 by omega)
 have h2 := Int.lt_ediv_add_one_mul_self a hg
 rcases Int.le_total 0 a with h | h
 ·have h3 := Int.ediv_nonneg h (show 0 ≤ g by omega)
  have h4 : a / g ≤ a / g * g := by
   have : a / g * 1 ≤ a / g * g := Int.mul_le_mul_of_nonneg_left (by omega) h3
   omega
  omega
 ·have h3 : a / g ≤ 0 := by
   have := Int.ediv_le_ediv hg h
   rw [Int.zero_ediv] at this; exact this
  have h5 : a ≤ a / g := by
   have : a / 1 ≤ a / g := by
    have q : (a / g + 1) * g ≤ (a / g + 1) * 1 ∨ 0 < a / g + 1 := by
     rcases Int.le_total (a / g + 1) 0 with z | z
     ·left
      have := Int.mul_le_mul_of_nonneg_left (a := 1) (b := g) (c := -(a / g + 1)) (by omega) (by omega)
      have e1 : -(a / g + 1) * 1 = -((a / g + 1) * 1) := Int.neg_mul _ _
      have e2 : -(a / g + 1) * g = -((a / g + 1) * g) := Int.neg_mul _ _
      omega
     ·rcases Int.lt_or_eq_of_le z with z | z
      ·right; exact z
      ·left; rw [← z]; simp
    rw [Int.ediv_one]
    rcases q with q | q
    ·omega
    ·omega
   rw [Int.ediv_one] at this; exact this
  omega
theorem mkR_wf {n : Nat} {a b : Int} (hb : 0 < b) (h1 : a.natAbs < 2 ^ n) (h2 : b.natAbs < 2 ^ n) : Wf n (mkR a b) :=
 ⟨Int.ediv_pos_of_pos_of_dvd hb (Int.le_of_lt (gcd_posR hb)) (Int.gcd_dvd_right a b), Nat.lt_of_le_of_lt (natAbs_div_le _ (gcd_posR hb)) h1, Nat.lt_of_le_of_lt (natAbs_div_le _ (gcd_posR hb)) h2, Int.gcd_ediv_gcd_ediv_gcd (by have := gcd_posR (a := a) hb; omega)⟩
def plusR (r q : R) : R := mkR (r.1 * q.2 + q.1 * r.2) (r.2 * q.2)
def timesR (r q : R) : R := mkR (r.1 * q.1) (r.2 * q.2)
def lessR (r q : R) : Bool := decide (r.1 * q.2 < q.1 * r.2)
theorem mul_lt {x y : Int} {n m : Nat} (h1 : x.natAbs < 2 ^ n) (h2 : y.natAbs < 2 ^ m) : (x * y).natAbs < 2 ^ (n + m) := by
 rw [Int.natAbs_mul, Nat.pow_add]
 exact Nat.mul_lt_mul'' h1 h2
theorem plus_top {n m : Nat} {r q : R} (h : Wf n r) (k : Wf m q) : (r.1 * q.2 + q.1 * r.2).natAbs < 2 ^ (n + m + 1) := by
 have a := mul_lt h.top k.bot
 have b := mul_lt k.top h.bot
 rw [Nat.add_comm m n] at b
 have e : 2 ^ (n + m + 1) = 2 * 2 ^ (n + m) := by rw [Nat.pow_succ, Nat.mul_comm]
 have := Int.natAbs_add_le (r.1 * q.2) (q.1 * r.2)
 omega
theorem plus_wf {n m : Nat} {r q : R} (h : Wf n r) (k : Wf m q) : Wf (n + m + 1) (plusR r q) :=
 mkR_wf (Int.mul_pos h.pos k.pos) (plus_top h k) (Nat.lt_of_lt_of_le (mul_lt h.bot k.bot) (Nat.pow_le_pow_right (by decide) (Nat.le_succ _)))
theorem times_wf {n m : Nat} {r q : R} (h : Wf n r) (k : Wf m q) : Wf (n + m) (timesR r q) :=
 mkR_wf (Int.mul_pos h.pos k.pos) (mul_lt h.top k.top) (mul_lt h.bot k.bot)
end B
namespace B
open PySem L2 PyProof.Rows
def CBig (i j : Int) : Prop := i.natAbs < 2 ^ 4000 /\ j.natAbs < 2 ^ 4000
def CQuo (_ j : Int) : Prop := 0 < j /\ j.natAbs < 2 ^ 4000
theorem bits_of {i : Int} (h : i.natAbs < 2 ^ 4000) : Builtin.Int.intBits i ≤ 2 ^ 20 := by
 unfold Builtin.Int.intBits
 split
 ·exact Nat.zero_le _
 ·rename_i z
  have hz : i.natAbs ≠ 0 := fun q => z (by have : i = 0 := by omega
                                           rw [this]; rfl)
  have := (Nat.log2_lt hz).mpr h
  have e : (2 : Nat) ^ 20 = 1048576 := by decide
  omega
section
variable {X : Cx}
theorem op_mulB : OpR X (binaryOp .Mult) (rI CBig fun i j => .int (i * j)) := opI fun _ _ _ _ _ _ _ hc q => mul_int q (IntMulOk.of_bits (bits_of hc.1) (bits_of hc.2))
theorem op_quo : OpR X (binaryOp .FloorDiv) (rI CQuo fun i j => .int (i / j)) := opI fun i j _ _ _ _ _ hc q => by
 have h1 : (0 : Int) < j := hc.1
 have h2 : j.natAbs < 2 ^ 4000 := hc.2
 refine floordiv_int (by omega) (by rw [Int.fdiv_eq_ediv_of_nonneg i (by omega)]; exact q) (.inl (PyProof.noPylong_of_log2 ?_))
 exact Nat.lt_trans ((Nat.log2_lt (show j.natAbs ≠ 0 by omega)).mpr h2) (by decide)
end
def Tst (K : Fg) (H H' : Hp) : Prop := ∀ p xs, SqT K H p xs -> SqT K H' p xs
theorem Tst.trans {K : Fg} {H H1 H2 : Hp} (a : Tst K H H1) (b : Tst K H1 H2) : Tst K H H2 := fun p xs h => b p xs (a p xs h)
theorem Tst.same {K : Fg} {H H' : Hp} (s : Same H H') : Tst K H H' := fun p xs h => by
 rcases h with (h | ⟨o, h⟩) | h
 ·exact .inl (.inl (s _ _ h))
 ·exact .inl (.inr ⟨o, s _ _ h⟩)
 ·exact .inr h
theorem Tst.step {K : Fg} {t : Addr} {H H' : Hp} (S : Step t H H') : Tst K H H' := fun p xs h => by
 obtain ⟨ys, ht⟩ := S.tp
 rcases h with (h | ⟨o, h⟩) | h
 ·exact .inl (.inl (S.keep _ _ (fun z => by subst z; rw [h] at ht; cases ht) h))
 ·exact .inl (.inr ⟨o, S.keep _ _ (fun z => by subst z; rw [h] at ht; cases ht) h⟩)
 ·exact .inr h
theorem Tst.up {K : Fg} {H : Hp} {l : Addr} {xs : List V} (h : H l = some (.lst xs)) (ys : List V) : Tst K H (upd H l (.lst ys)) := Tst.step (Step.up h)
def RV (K : Fg) (H : Hp) (v : V) (r : R) : Prop := ∃ p, v = .ref p /\ SqT K H p [.int r.1, .int r.2]
theorem RV.mono {K : Fg} {H H' : Hp} {v : V} {r : R} (h : RV K H v r) (t : Tst K H H') : RV K H' v r := let ⟨p, e, q⟩ := h; ⟨p, e, t _ _ q⟩
theorem RV.of {K : Fg} {H : Hp} {p : Addr} {a b : Int} (h : H p = some (.tup [.int a, .int b])) : RV K H (.ref p) (a, b) := ⟨p, rfl, SqT.of h⟩
def RVs (K : Fg) (H : Hp) (xs : List V) (rs : List R) : Prop := xs.length = rs.length /\ ∀ (i : Nat) (x : V) (r : R), xs[i]? = some x -> rs[i]? = some r -> RV K H x r
theorem RVs.at {K : Fg} {H : Hp} {xs : List V} {rs : List R} {i : Nat} {x : V} (h : RVs K H xs rs) (e : xs[i]? = some x) : ∃ r, rs[i]? = some r /\ RV K H x r := by
 have hi := (List.getElem?_eq_some_iff.mp e).1
 have hj : i < rs.length := by rw [← h.1]; exact hi
 exact ⟨rs[i], List.getElem?_eq_getElem hj, h.2 i x _ e (List.getElem?_eq_getElem hj)⟩
def powR (r : R) : Nat -> R
 | 0 => (1, 1)
 | k + 1 => timesR (powR r k) r
theorem one_wf : Wf 1 (1, 1) := ⟨by decide, by decide, by decide, by decide⟩
theorem pow_wf {n : Nat} {r : R} (h : Wf n r) : ∀ k, Wf (1 + k * n) (powR r k)
 | 0 => by rw [Nat.zero_mul]; exact one_wf
 | k + 1 => by
  have := times_wf (pow_wf h k) h
  rw [show 1 + (k + 1) * n = 1 + k * n + n by rw [Nat.add_mul]; omega]
  exact this
def sumR (rs : List R) : R := rs.foldl plusR (0, 1)
def dR (r : R) : PyData := .tuple [.int r.1, .int r.2]
theorem RV.deep {K : Fg} {H : Hp} {v : V} {r : R} (h : RV K H v r) : Deep K H v (dR r) := by
 obtain ⟨p, rfl, q⟩ := h
 exact .tup q (.cons (.int _) (.cons (.int _) .nil))
theorem dR_lay (r : R) : (dR r).canLay0 = true := rfl
theorem dR_depth (r : R) : (dR r).depth ≤ 32 := by show max 0 (max 0 0) + 1 ≤ 32; decide
theorem eqv_dR {r q : R} (h : PyData.eqv (dR r) (dR q) = true) : r = q := by
 have z : (r.1 == q.1 && (r.2 == q.2 && true)) = true := h
 simp only [Bool.and_true, Bool.and_eq_true, beq_iff_eq] at z
 exact Prod.ext z.1 z.2
theorem eqv_same (r : R) : PyData.eqv (dR r) (dR r) = true := by
 show (r.1 == r.1 && (r.2 == r.2 && true)) = true
 simp
end B
namespace B
open PySem L2 PyProof.Rows
def dL (rs : List R) : PyData := .list (rs.map dR)
theorem eqvL_nil (rs : List R) : PyData.eqv (dL rs) (dL []) = rs.isEmpty := by cases rs <;> rfl
theorem layL (rs : List R) : (dL rs).canLay0 = true := by
 show PyData.canLayAll0 (rs.map dR) = true
 induction rs with
 | nil => rfl
 | cons r rs ih =>
  show (PyData.canLay0 (dR r) && PyData.canLayAll0 (rs.map dR)) = true
  rw [dR_lay, ih]; rfl
theorem depthL_all (rs : List R) : PyData.depthAll (rs.map dR) ≤ 8 := by
 induction rs with
 | nil => exact Nat.zero_le _
 | cons r rs ih =>
  have e : PyData.depth (dR r) ≤ 8 := by show max 0 (max 0 0) + 1 ≤ 8; decide
  show max (PyData.depth (dR r)) (PyData.depthAll (rs.map dR)) ≤ 8
  omega
theorem depthL (rs : List R) : (dL rs).depth ≤ 32 := by
 have := depthL_all rs
 have e : (dL rs).depth = 1 + PyData.depthAll (rs.map dR) ∨ (dL rs).depth = PyData.depthAll (rs.map dR) + 1 := by first | exact .inl rfl | exact .inr rfl
 omega
def iSeq (K : Fg) (tl : TE) : TI := fun σ H R => tl σ H fun x H1 => (∃ a, x = .ref a /\ (∃ xs, SqL K H1 a xs) /\ R (Itl K a) H1) ∨ (∃ a, x = .ref a /\ (∃ xs, SqT K H1 a xs) /\ R (Itt K a) H1)
theorem pi_seq {X : Cx} {tg l : Expr} {tl : TE} (hl : PE X l tl) : PI X tg l (iSeq X.K tl) := by
 intro pins s σ H R I h
 refine thn (hl pins s σ H _ I h) fun v s1 ⟨x, H1, I1, r1, q1⟩ => ?_
 rcases q1 with ⟨a, e, ⟨xs, hq⟩, q⟩ | ⟨a, e, ⟨xs, hq⟩, q⟩
 ·subst e; cases r1
  obtain ⟨its, rv, p, hz⟩ := I1.list hq
  refine wpAny_pyIter_list p.isList ?_
  refine ⟨s1.heap.objs.size, [s1.heap.objs.size], _, _, H1, rfl, I1.kept (t' := s1.toks) fun b o e => Heap.get?_push_of_some _ e, turn_list a _, ⟨_, Heap.get?_push_size _ rfl, rfl, rfl⟩, fun b hb => ?_, q⟩
  have e : b = s1.heap.objs.size := by simpa using hb
  subst e
  exact I1.fpOk (Nat.le_refl _) (I1.hok.fresh (Nat.le_refl _))
 ·subst e; cases r1
  obtain ⟨its, rv, p, hz⟩ := I1.tuple hq
  refine wpAny_pyIter_tuple (show s1.heap.IsTuple a its.toArray from p) ?_
  refine ⟨s1.heap.objs.size, [s1.heap.objs.size], _, _, H1, rfl, I1.kept (t' := s1.toks) fun b o e => Heap.get?_push_of_some _ e, turn_tuple a _, ⟨_, Heap.get?_push_size _ rfl, rfl, rfl⟩, fun b hb => ?_, q⟩
  have e : b = s1.heap.objs.size := by simpa using hb
  subst e
  exact I1.fpOk (Nat.le_refl _) (I1.hok.fresh (Nat.le_refl _))
end B
namespace B
structure Red (r : R) : Prop where
 pos : 0 < r.2
 cop : Int.gcd r.1 r.2 = 1
theorem mkR_red {a b : Int} (hb : 0 < b) : Red (mkR a b) :=
 ⟨Int.ediv_pos_of_pos_of_dvd hb (Int.le_of_lt (gcd_posR hb)) (Int.gcd_dvd_right a b), Int.gcd_ediv_gcd_ediv_gcd (by have := gcd_posR (a := a) hb; omega)⟩
theorem mkR_uniq {a b x y : Int} (hb : 0 < b) (hy : 0 < y) (g : Int.gcd x y = 1) (e : x * b = a * y) : mkR a b = (x, y) := by
 have h1 : Int.gcd (a * y) (b * y) = Int.gcd a b * y.natAbs := Int.gcd_mul_right a y b
 have h2 : Int.gcd (x * b) (y * b) = Int.gcd x y * b.natAbs := Int.gcd_mul_right x b y
 rw [e, Int.mul_comm y b, h1, g, Nat.one_mul] at h2
 have h3 : (Int.gcd a b : Int) * y = b := by
  have z : ((Int.gcd a b * y.natAbs : Nat) : Int) = (b.natAbs : Int) := congrArg _ h2
  rw [Int.natCast_mul, Int.natAbs_of_nonneg (by omega), Int.natAbs_of_nonneg (by omega)] at z
  exact z
 have gp := gcd_posR (a := a) hb
 have h4 : a = x * (Int.gcd a b : Int) := by
  have z : x * (Int.gcd a b : Int) * y = a * y := by rw [Int.mul_assoc, h3]; exact e
  exact (Int.eq_of_mul_eq_mul_right (by omega) z).symm
 unfold mkR
 generalize (Int.gcd a b : Int) = G at h3 h4 gp
 subst h4
 subst h3
 rw [Int.mul_ediv_cancel _ (by omega), Int.mul_ediv_cancel_left _ (by omega)]
theorem cop_left {a b c : Int} (h : Int.gcd a b = 1) (d : c ∣ a) : Int.gcd c b = 1 :=
 Int.gcd_eq_one_iff.mpr fun z h1 h2 => Int.gcd_eq_one_iff.mp h z (Int.dvd_trans h1 d) h2
theorem cop_right {a b c : Int} (h : Int.gcd a b = 1) (d : c ∣ b) : Int.gcd a c = 1 := by
 rw [Int.gcd_comm]
 exact cop_left (by rw [Int.gcd_comm]; exact h) d
theorem cop_mul {a b c : Int} (h : Int.gcd a b = 1) (k : Int.gcd a c = 1) : Int.gcd a (b * c) = 1 := by
 rw [Int.gcd_mul_right_right_of_gcd_eq_one h]; exact k
theorem cop_mulL {a b c : Int} (h : Int.gcd a c = 1) (k : Int.gcd b c = 1) : Int.gcd (a * b) c = 1 := by
 rw [Int.gcd_comm]
 exact cop_mul (by rw [Int.gcd_comm]; exact h) (by rw [Int.gcd_comm]; exact k)
theorem gcd_parts {a b : Int} (hb : 0 < b) : ∃ g x y : Int, (Int.gcd a b : Int) = g /\ 0 < g /\ a = g * x /\ b = g * y /\ Int.gcd x y = 1 := by
 have gp := gcd_posR (a := a) hb
 obtain ⟨x, hx⟩ := Int.gcd_dvd_left a b
 obtain ⟨y, hy⟩ := Int.gcd_dvd_right a b
 refine ⟨_, x, y, rfl, gp, hx, hy, ?_⟩
 have z := Int.gcd_ediv_gcd_ediv_gcd (i := a) (j := b) (by omega)
 have e1 : a / (Int.gcd a b : Int) = x := by
  conv => lhs; lhs; rw [hx]
  exact Int.mul_ediv_cancel_left _ (by omega)
 have e2 : b / (Int.gcd a b : Int) = y := by
  conv => lhs; lhs; rw [hy]
  exact Int.mul_ediv_cancel_left _ (by omega)
 rw [e1, e2] at z
 exact z
theorem pos_of {g y b : Int} (hb : 0 < b) (hg : 0 < g) (e : b = g * y) : 0 < y := by
 rcases Int.lt_or_le 0 y with h | h
 ·exact h
 ·have := Int.mul_le_mul_of_nonneg_left h (Int.le_of_lt hg)
  rw [Int.mul_zero] at this
  omega
def plusG (r q : R) : R :=
 let d : Int := (Int.gcd r.2 q.2 : Nat)
 let t := r.1 * (q.2 / d) + q.1 * (r.2 / d)
 let e : Int := (Int.gcd t d : Nat)
 (t / e, r.2 / d * (q.2 / e))
theorem plusG_eq {r q : R} (hr : Red r) (hq : Red q) : plusG r q = plusR r q := by
 obtain ⟨d, u, v, e0, dp, e1, e2, cuv⟩ := gcd_parts (a := r.2) hq.pos
 have up := pos_of hr.pos dp e1
 have vp := pos_of hq.pos dp e2
 obtain ⟨e, x, w, f0, ep, f1, f2, cxw⟩ := gcd_parts (a := r.1 * v + q.1 * u) dp
 have wp := pos_of dp ep f2
 have du : r.2 / d = u := by rw [e1]; exact Int.mul_ediv_cancel_left _ (by omega)
 have dv : q.2 / d = v := by rw [e2]; exact Int.mul_ediv_cancel_left _ (by omega)
 have te : (r.1 * v + q.1 * u) / e = x := by rw [f1]; exact Int.mul_ediv_cancel_left _ (by omega)
 have qe : q.2 / e = w * v := by rw [e2, f2, Int.mul_assoc]; exact Int.mul_ediv_cancel_left _ (by omega)
 have c1 : Int.gcd r.1 u = 1 := cop_right hr.cop ⟨d, by rw [e1, Int.mul_comm]⟩
 have c2 : Int.gcd q.1 v = 1 := cop_right hq.cop ⟨d, by rw [e2, Int.mul_comm]⟩
 have xd : x ∣ (r.1 * v + q.1 * u) := ⟨e, by rw [f1, Int.mul_comm]⟩
 have t1 : Int.gcd (r.1 * v + q.1 * u) u = 1 := by
  rw [Int.gcd_comm, Int.gcd_add_mul_right_right, Int.gcd_comm]
  exact cop_mulL c1 (by rw [Int.gcd_comm]; exact cuv)
 have t2 : Int.gcd (r.1 * v + q.1 * u) v = 1 := by
  rw [Int.add_comm, Int.gcd_comm, Int.gcd_add_mul_right_right, Int.gcd_comm]
  exact cop_mulL c2 cuv
 have cx : Int.gcd x (u * (w * v)) = 1 := cop_mul (cop_left t1 xd) (cop_mul cxw (cop_left t2 xd))
 have z : plusG r q = (x, u * (w * v)) := by
  unfold plusG
  simp only [e0, du, dv, f0, te, qe]
 rw [z]
 unfold plusR
 refine (mkR_uniq (Int.mul_pos hr.pos hq.pos) (Int.mul_pos up (Int.mul_pos wp vp)) cx ?_).symm
 have k : r.1 * q.2 + q.1 * r.2 = d * (e * x) := by
  rw [e1, e2, ← f1, Int.mul_add]
  rw [Int.mul_left_comm r.1 d v, Int.mul_left_comm q.1 d u]
 rw [k, e1, e2]
 have k2 : d * u * (d * v) = d * u * (e * w * v) := by rw [← f2]
 rw [k2]
 ac_rfl
def timesG (r q : R) : R :=
 let l : Int := (Int.gcd r.1 q.2 : Nat)
 let m : Int := (Int.gcd q.1 r.2 : Nat)
 (r.1 / l * (q.1 / m), r.2 / m * (q.2 / l))
theorem timesG_eq {r q : R} (hr : Red r) (hq : Red q) : timesG r q = timesR r q := by
 obtain ⟨l, a, b, e0, lp, e1, e2, cab⟩ := gcd_parts (a := r.1) hq.pos
 obtain ⟨m, c, d, f0, mp, f1, f2, ccd⟩ := gcd_parts (a := q.1) hr.pos
 have bp := pos_of hq.pos lp e2
 have dp := pos_of hr.pos mp f2
 have z : timesG r q = (a * c, d * b) := by
  unfold timesG
  simp only [e0, f0]
  rw [show r.1 / l = a by rw [e1]; exact Int.mul_ediv_cancel_left _ (by omega), show q.2 / l = b by rw [e2]; exact Int.mul_ediv_cancel_left _ (by omega),
   show q.1 / m = c by rw [f1]; exact Int.mul_ediv_cancel_left _ (by omega), show r.2 / m = d by rw [f2]; exact Int.mul_ediv_cancel_left _ (by omega)]
 have cad : Int.gcd a d = 1 := cop_left (cop_right hr.cop ⟨m, by rw [f2, Int.mul_comm]⟩) ⟨l, by rw [e1, Int.mul_comm]⟩
 have ccb : Int.gcd c b = 1 := cop_left (cop_right hq.cop ⟨l, by rw [e2, Int.mul_comm]⟩) ⟨m, by rw [f1, Int.mul_comm]⟩
 rw [z]
 unfold timesR
 refine (mkR_uniq (Int.mul_pos hr.pos hq.pos) (Int.mul_pos dp bp) (cop_mul (cop_mulL cad ccd) (cop_mulL cab ccb)) ?_).symm
 rw [e1, e2, f1, f2]
 ac_rfl
theorem plus_red {r q : R} (hr : Red r) (hq : Red q) : Red (plusR r q) := mkR_red (Int.mul_pos hr.pos hq.pos)
theorem times_red {r q : R} (hr : Red r) (hq : Red q) : Red (timesR r q) := mkR_red (Int.mul_pos hr.pos hq.pos)
theorem pow_eq_red {r : R} (hr : Red r) : ∀ k : Nat, powR r k = (r.1 ^ k, r.2 ^ k)
 | 0 => by rw [Int.pow_zero, Int.pow_zero]; rfl
 | k + 1 => by
  show timesR (powR r k) r = _
  rw [pow_eq_red hr k]
  unfold timesR
  refine mkR_uniq (Int.mul_pos (Int.pow_pos hr.pos) hr.pos) (Int.pow_pos hr.pos) (Int.pow_gcd_pow_of_gcd_eq_one hr.cop) ?_
  rw [Int.pow_succ, Int.pow_succ]
end B
namespace B
open PySem L2 PyProof.Rows
def CQuoN (_ j : Int) : Prop := j ≠ 0 /\ j.natAbs < 2 ^ 4000
theorem op_quoN {X : Cx} : OpR X (binaryOp .FloorDiv) (rI CQuoN fun i j => .int (i.fdiv j)) := opI fun i j _ _ _ _ _ hc q => by
 have h1 : j ≠ 0 := hc.1
 have h2 : j.natAbs < 2 ^ 4000 := hc.2
 refine floordiv_int h1 q (.inl (PyProof.noPylong_of_log2 ?_))
 exact Nat.lt_trans ((Nat.log2_lt (show j.natAbs ≠ 0 by omega)).mpr h2) (by decide)
def mkS (a b : Int) : R := if b < 0 then mkR (-a) (-b) else mkR a b
theorem mkS_pos {a b : Int} (h : 0 < b) : mkS a b = mkR a b := by unfold mkS; rw [if_neg (by omega)]
theorem fdiv_pos {a g : Int} (h : 0 < g) : a.fdiv g = a / g := Int.fdiv_eq_ediv_of_nonneg a (by omega)
theorem fdiv_negg {a g : Int} (h : 0 < g) : a.fdiv (-g) = -a / g := by
 have e : a.fdiv (-g) = (-a).fdiv g := by
  have := Int.neg_fdiv_neg (-a) g
  rw [Int.neg_neg] at this
  exact this
 rw [e, fdiv_pos h]
theorem gcd_neg2 (a b : Int) : Int.gcd (-a) (-b) = Int.gcd a b := by simp [Int.gcd]
theorem gcd_posN {a b : Int} (hb : b ≠ 0) : 0 < (Int.gcd a b : Int) := by
 have h : Int.gcd a b ≠ 0 := fun z => hb (Int.gcd_eq_zero_iff.mp z).2
 omega
theorem gcd_big {a b : Int} (hb : b ≠ 0) (hz : b.natAbs < 2 ^ 4000) : ((Int.gcd a b : Nat) : Int).natAbs < 2 ^ 4000 := by
 have z : Int.gcd a b ≤ b.natAbs := Nat.le_of_dvd (by omega) (by have := Int.gcd_dvd_right a b; exact Int.natAbs_dvd_natAbs.mpr this)
 have e : ((Int.gcd a b : Nat) : Int).natAbs = Int.gcd a b := Int.natAbs_natCast _
 omega
theorem mkS_pos1 {a b : Int} (hb : 0 < b) : (a.fdiv (Int.gcd a b : Int), b.fdiv (Int.gcd a b : Int)) = mkS a b := by
 rw [mkS_pos hb, fdiv_pos (gcd_posR hb), fdiv_pos (gcd_posR hb)]; rfl
theorem mkS_neg1 {a b : Int} (hb : b < 0) : (a.fdiv (-(Int.gcd a b : Int)), b.fdiv (-(Int.gcd a b : Int))) = mkS a b := by
 have g := gcd_posN (a := a) (b := b) (by omega)
 unfold mkS
 rw [if_pos hb, fdiv_negg g, fdiv_negg g]
 unfold mkR
 rw [gcd_neg2]
theorem mkS_wf {n : Nat} {a b : Int} (hb : b ≠ 0) (h1 : a.natAbs < 2 ^ n) (h2 : b.natAbs < 2 ^ n) : Wf n (mkS a b) := by
 unfold mkS
 split
 ·exact mkR_wf (by omega) (by rw [Int.natAbs_neg]; exact h1) (by rw [Int.natAbs_neg]; exact h2)
 ·exact mkR_wf (by omega) h1 h2
def minusR (r q : R) : R := mkR (r.1 * q.2 - q.1 * r.2) (r.2 * q.2)
def overR (r q : R) : R := mkS (r.1 * q.2) (r.2 * q.1)
theorem minus_wf {n m : Nat} {r q : R} (h : Wf n r) (k : Wf m q) : Wf (n + m + 1) (minusR r q) := by
 refine mkR_wf (Int.mul_pos h.pos k.pos) ?_ (Nat.lt_of_lt_of_le (mul_lt h.bot k.bot) (Nat.pow_le_pow_right (by decide) (Nat.le_succ _)))
 have a := mul_lt h.top k.bot
 have b := mul_lt k.top h.bot
 rw [Nat.add_comm m n] at b
 have e : 2 ^ (n + m + 1) = 2 * 2 ^ (n + m) := by rw [Nat.pow_succ, Nat.mul_comm]
 have := Int.natAbs_sub_le (r.1 * q.2) (q.1 * r.2)
 omega
theorem over_wf {n m : Nat} {r q : R} (h : Wf n r) (k : Wf m q) (z : q.1 ≠ 0) : Wf (n + m) (overR r q) :=
 mkS_wf (Int.mul_ne_zero (by have := h.pos; omega) z) (mul_lt h.top k.bot) (mul_lt h.bot k.top)
structure Small (d : PyData) : Prop where
 sh : d.showable = true
 nd : d.hasDict = false
 sz : d.shown.length ≤ 5000
 dp : d.depth ≤ 8
end B
namespace B
theorem mkR_cross {a b : Int} (hb : 0 < b) : (mkR a b).1 * b = a * (mkR a b).2 := by
 obtain ⟨g, x, y, _, gp, e1, e2, c⟩ := gcd_parts (a := a) hb
 have yp := pos_of hb gp e2
 have e : x * b = a * y := by rw [e1, e2]; ac_rfl
 rw [mkR_uniq hb yp c e]
 exact e
theorem mkS_spec {a b : Int} (hb : b ≠ 0) : Red (mkS a b) /\ (mkS a b).1 * b = a * (mkS a b).2 := by
 unfold mkS
 split
 ·rename_i h
  refine ⟨mkR_red (by omega), ?_⟩
  have z := mkR_cross (a := -a) (b := -b) (by omega)
  rw [Int.mul_neg, Int.neg_mul] at z
  exact Int.neg_inj.mp z
 ·exact ⟨mkR_red (by omega), mkR_cross (by omega)⟩
theorem mkS_uniq {a b x y : Int} (hb : b ≠ 0) (hy : 0 < y) (g : Int.gcd x y = 1) (e : x * b = a * y) : mkS a b = (x, y) := by
 unfold mkS
 split
 ·refine mkR_uniq (by omega) hy g ?_
  rw [Int.mul_neg, Int.neg_mul, e]
 ·exact mkR_uniq (by omega) hy g e
theorem over_eq {r q : R} (hr : Red r) (hq : q.1 ≠ 0) : timesR r (mkS q.2 q.1) = overR r q := by
 obtain ⟨hs, es⟩ := mkS_spec (a := q.2) hq
 have hp : 0 < r.2 * (mkS q.2 q.1).2 := Int.mul_pos hr.pos hs.pos
 have ht := mkR_red (a := r.1 * (mkS q.2 q.1).1) hp
 have et := mkR_cross (a := r.1 * (mkS q.2 q.1).1) hp
 unfold overR timesR
 generalize hS : mkS q.2 q.1 = s at hs es hp ht et ⊢
 generalize mkR (r.1 * s.1) (r.2 * s.2) = t at ht et ⊢
 refine (mkS_uniq (Int.mul_ne_zero (by have := hr.pos; omega) hq) ht.pos ht.cop ?_).symm
 have k : t.1 * (r.2 * q.1) * s.2 = r.1 * q.2 * t.2 * s.2 := by
  have a1 : t.1 * (r.2 * q.1) * s.2 = q.1 * (t.1 * (r.2 * s.2)) := by ac_rfl
  have a2 : r.1 * q.2 * t.2 * s.2 = r.1 * t.2 * (q.2 * s.2) := by ac_rfl
  rw [a1, et, a2, ← es]
  ac_rfl
 exact Int.eq_of_mul_eq_mul_right (by have := hs.pos; omega) k
theorem minus_eq (r q : R) : plusR r (-q.1, q.2) = minusR r q := by
 unfold plusR minusR
 rw [Int.neg_mul, ← Int.sub_eq_add_neg]
end B
namespace B
open PySem PySem.Spec L2 PyProof.Rows
section
variable {prog : Program} {w : World} {A : Around} {E : VSP} {h : Heap} {g : Array GenState} {d : Drawn} {t : Nat} {os : OsState} {K : Fg}
variable {nm q : Str} {C N : Addr} {bs bm bmB : List Value} {hdct : Bool} {sn : List Str} {sub : List Value} {ab : Bool} {col : Option Bool} {dd : Option Addr} {k0 k1 k2 k3 k5 : Option Value} {bN newId initId : String}
theorem exc_typecall (F : ExcBaseFacts bN newId initId bmB) (T : OwnTail h bmB bm) {rest : List Value} {fI : Addr} {Q : Fin -> Shared -> Prop} (X : K.In h)
  (hC : h.get? C = some (excClassObj nm q C N bs bm hdct sn sub ab col dd k0 k1 k2 k3 k5 newId)) (hi : PySem.W.findIn K (.ref C) "__init__" = some (some (.ref fI))) (hf : PySem.W.typeIn K (.ref fI) = some (.type "function"))
  (hq : ∀ h' e, Heap.MadeExcOf h h' e (.ref C) rest -> wpAny (model prog w) A (call (.ref fI) (.ref e :: rest)) (fun r s' => r = .none /\ Q (.done (.ret (.ref e))) s') E ⟨h', g, d, t, os⟩) (hz : rest.length ≤ sizeLine) :
  wpAny (model prog w) A (Builtin.«type.__call__» ⟨.ref C :: rest, []⟩) Q E ⟨h, g, d, t, os⟩ := by
 repeat (first
  | with_reducible refine wpAny_loadPart_at hC ?_
  | with_reducible refine wpAny_madeBy_exc hC ?_
  | wp_step)
 refine codeAny_call_builtin_code (Code.quiet_builtin _ F.quiet)
  (wpAny_check_new_subT F T hC ?_)
 refine codeAny_exc_new_subT F T hC ?_ hz
 show wpAny _ _ _ _ _ _
 have up : ∀ b o, h.get? b = some o -> ((h.push { cls := .type "tuple", data := .seq rest.toArray }).push
   { cls := .ref C, data := .fields #[.ref h.objs.size, .none, .none, .none, .bool false, .none] }).get? b = some o := fun b o e =>
  Heap.get?_push_of_some _ (Heap.get?_push_of_some _ e)
 have hC₁ := up _ _ hC
 have X₁ := X.keeps up
 have hx : ((h.push { cls := .type "tuple", data := .seq rest.toArray }).push
   { cls := .ref C, data := .fields #[.ref h.objs.size, .none, .none, .none, .bool false, .none] }).get? (h.objs.size + 1) =
   some { cls := .ref C, data := .fields #[.ref h.objs.size, .none, .none, .none, .bool false, .none] } := by heap_get
 have hcC : (Value.ref C :: bm).contains (.ref C) = true := by simp
 unfold isInstance
 repeat (first
  | with_reducible refine wpAny_loadPart_at hx ?_
  | (with_reducible refine wpAny_isSubtype_exc hC₁ ?_
     rw [hcC])
  | wp_step)
 show wpAny _ _ (typeLookup (.ref C) _) _ _ _
 refine (PySem.W.looks_findIn X₁ hi) _ _ _ _ (fun _ _ e => e) ?_
 refine wpAny_holding (wpAny_bind ?_)
 refine (PySem.W.bind_fn X₁ _ hf) _ _ _ _ (fun _ _ e => e) ?_
 refine wpAny_bind (wpAny_mono (hq _ (h.objs.size + 1)
  ⟨up, Heap.get?_none_of_le (Nat.le_succ _), h.objs.size, hx, Heap.get?_none_of_le (Nat.le_refl _), ?_⟩) (fun r s' hr => ?_) fun _ _ y => y)
 ·exact Heap.get?_push_of_some _ (Heap.get?_push_at rfl rfl)
 ·obtain ⟨rfl, hQ⟩ := hr
  wp_walk
  exact hQ
theorem exc_call (F : ExcBaseFacts bN newId initId bmB) (T : OwnTail h bmB bm) {rest : List Value} {fI : Addr} {Q : VSP} (X : K.In h)
  (hC : h.get? C = some (excClassObj nm q C N bs bm hdct sn sub ab col dd k0 k1 k2 k3 k5 newId)) (hi : PySem.W.findIn K (.ref C) "__init__" = some (some (.ref fI))) (hf : PySem.W.typeIn K (.ref fI) = some (.type "function"))
  (hq : ∀ h' e, Heap.MadeExcOf h h' e (.ref C) rest -> wpAny (model prog w) (A.under (.builtin "type.__call__" ⟨.ref C :: rest, []⟩)) (call (.ref fI) (.ref e :: rest)) (fun r s' => r = .none /\ Q (.ref e) s') E ⟨h', g, d, t, os⟩) (hz : rest.length ≤ sizeLine) :
  wpAny (model prog w) A (call (.ref C) rest) Q E ⟨h, g, d, t, os⟩ := by
 have f1 := tc_lookup
 have f2 := tc_bind (.ref C)
 have hT : (⟨h, g, d, t, os⟩ : Shared).TypeIs (.ref C) "type" := ⟨_, hC, rfl⟩
 refine wpAny_call (codeAny_of_tree ?_)
 show wpAny _ _ (callAny (.ref C) _) _ _ _
 repeat (any_goals (first
  | assumption
  | with_reducible refine wpAny_loadPart_at hC ?_
  | wp_step))
 refine ⟨rfl, ?_⟩
 refine codeAny_call_builtin_at (Code.quiet_builtin _ (by decide +kernel)) entry_typeCall
  (wpAny_check_type_call_sub hC (exc_typecall F T X hC hi hf (fun h' e hm => ?_) hz))
 exact hq h' e hm
end
def vMro : List Value := [.type "ValueError", .type "Exception", .type "BaseException", .type "object"]
structure ClsX (K : Fg) (C : Addr) (bm : List Value) : Prop where
 ob : ∃ nm q N bs hdct sn sub ab col dd k0 k1 k2 k3 k5, K.lookup C = some (excClassObj nm q C N bs bm hdct sn sub ab col dd k0 k1 k2 k3 k5 "ValueError.__new__")
 tl : ∀ h : Heap, K.In h -> OwnTail h vMro bm
 hd : PySem.W.hasDictIn K C = true
 sa : PySem.W.findIn K (.ref C) "__setattr__" = some (some (.builtin "object.__setattr__"))
theorem lets_by {h : Heap} {tl : List Value} (T : OwnTail h vMro tl) (self : Value) : refuseLoop self "__setattr__" tl = pure () := by
 induction T with
 | base => exact PySem.F.store_ValueError.passes self
 | own _ _ _ _ ih => rw [refuseLoop_ref]; exact ih
theorem clsX_cls {K : Fg} {C : Addr} {bm : List Value} (c : ClsX K C bm) : ∃ cd, PySem.W.clsIn K C = some cd /\ cd.mro = .ref C :: bm := by
 obtain ⟨nm, q, N, bs, hdct, sn, sub, ab, col, dd, k0, k1, k2, k3, k5, lk⟩ := c.ob
 unfold PySem.W.clsIn
 rw [lk]
 exact ⟨_, rfl, rfl⟩
section
variable {prog : Program} {w : World} {A : Around} {s : Shared} {K : Fg} {x C : Addr} {R : Result -> Shared -> Prop}
theorem store_err {ox : Obj} {od : Option Obj} {name : Str} {tk : Tok} {v : Value} {bm : List Value} (X : K.In s.heap) (I : PySem.W.InstAt s.heap x ox C od) (c : ClsX K C bm) (n : NoAttr K C name)
  (h : ∀ b, wpAny (model prog w) A.in1 (Builtin.ObjectAttr.storeInOwnDict (.ref x) (.ref C) (.str name tk) name v b) (fun fin s' => match fin with
   | .done f => R (.ok f) s'
   | .again c' => c'.quiet = true /\ codeAny (model prog w) A c' R s') (fun e s' => R (.error e) s') s) :
  codeAny (model prog w) A (.call (.builtin "object.__setattr__") ⟨[.ref x, .str name tk, v], []⟩) R s := by
 have sf := PySem.F.store_object
 obtain ⟨cd, hc, hm⟩ := clsX_cls c
 have T := c.tl _ X
 have hob : (Value.ref C :: bm).contains (.type "object") = true := by
  rw [List.contains_cons, T.hasType (X := "object") (b := true) (by decide +kernel), Bool.or_true]
 have isO : PySem.W.Looks (model prog w) s.heap (isInstance (.ref x) (.type "object")) true := by
  refine I.type.andThen (PySem.W.looks_mroIn X ?_)
  unfold PySem.W.mroIn
  rw [hc]
  show (if cd.mro.isEmpty = true then none else some (cd.mro.contains (.type "object"))) = some true
  rw [hm, hob]; rfl
 have ms : PySem.W.Looks (model prog w) s.heap (mroOf (.ref C)) (.ref C :: bm) := by
  rw [← hm]; exact (PySem.W.looks_clsIn X hc).andThen .now
 refine codeAny_call_builtin sf.slot.plain sf.entry (PySem.W.check_slot (i := "object.__setattr__") (owner := "object") (n := "__setattr__") sf.kind sf.split isO (sf.args _ _ _) ?_)
 rw [PySem.W.osa_eq, refuse_eq]
 refine wpAny_bind (wpAny_bind (I.type.here (wpAny_bind (ms.here ?_))))
 rw [refuseLoop_ref, lets_by T]
 refine wpAny_pure (wpAny_bind (I.type.here (wpAny_bind ((PySem.W.looks_findIn X n).here (wpAny_bind ?_)))))
 exact PySem.W.Looks.here (r := none) .now (h _)
end
def ExcO (a C : Addr) (dx : Option Addr) : Heap -> Prop := fun h => ∃ t : Addr, h.get? a = some { cls := .ref C, dict := dx, data := .fields #[.ref t, .none, .none, .none, .bool false, .none] }
def exO (a C : Addr) (dx : Option Addr) : HO := .ext (ExcO a C dx)
theorem exO_ok {P : Program} {w : World} {H : Hp} {h : Heap} {a C : Addr} {dx : Option Addr} (e : ExcO a C dx h) : ObjOk P w H h a (exO a C dx) :=
 ⟨e, let ⟨_, q⟩ := e; ⟨_, q⟩, fun _ _ ⟨t, q⟩ k => ⟨t, k _ q⟩⟩
def del (H : Hp) (a : Addr) : Hp := fun b => if b = a then none else H b
theorem del_same {H : Hp} {a : Addr} : del H a a = none := by unfold del; rw [if_pos rfl]
theorem del_ne {H : Hp} {a b : Addr} (h : b ≠ a) : del H a b = H b := by unfold del; rw [if_neg h]
section
variable {X : Cx} {pins : PLs} {σ : L2.St} {H : Hp} {s : Shared} {a C : Addr} {dx : Option Addr}
theorem Inv.forget {φ : Heap -> Prop} (I : L2.Inv X pins σ H s) (e : H a = some (.ext φ)) (new : X.s₀.heap.get? a = none) : L2.Inv X pins σ (del H a) s := by
 have none_of : ∀ b, H b = none -> del H a b = none := fun b h => by
  by_cases z : b = a
  ·rw [z]; exact del_same
  ·rw [del_ne z]; exact h
 refine ⟨I.ok, I.os, I.bare, ⟨I.base.keep, I.base.slot, fun b o q n hx => none_of b (I.base.free b o q n hx), I.base.there, fun b xs q => ?_, fun b o u q => ?_, fun b ps q => ?_⟩, I.loc, I.cell, none_of _ I.free, fun x c q => none_of _ (I.freeC x c q), fun p hp => ?_, fun b o q => ?_, I.len⟩
 ·have z := I.base.tups b xs q
  rw [del_ne (fun k => by rw [k, e] at z; cases z)]; exact z
 ·have z := I.base.frzs b o u q
  rw [del_ne (fun k => by rw [k, e] at z; cases z)]; exact z
 ·obtain ⟨m, z⟩ := I.base.tbls b ps q
  exact ⟨m, by rw [del_ne (fun k => by rw [k, e] at z; cases z)]; exact z⟩
 ·obtain ⟨p1, p2, p3⟩ := I.pin p hp
  exact ⟨p1, none_of _ p2, p3⟩
 ·have nb : b ≠ a := fun z => by rw [z, del_same] at q; cases q
  rw [del_ne nb] at q
  refine (I.hok b o q).stay (fun c u _ z => z) (fun c z => ?_) (fun c xs z => ?_)
  ·rw [del_ne (fun k => by rw [k, e] at z; cases z)]; exact z
  ·rw [del_ne (fun k => by rw [k, e] at z; cases z)]; exact z
end
theorem ObjOk.get {P : Program} {w : World} {H : Hp} {h : Heap} {a : Addr} {o : HO} (x : L2.ObjOk P w H h a o) : ∃ u, h.get? a = some u := by
 cases o with
 | lst xs => obtain ⟨_, _, _, _, e⟩ := x; exact ⟨_, e⟩
 | tup xs => obtain ⟨_, _, _, o, e, _⟩ := x; exact ⟨_, e⟩
 | dK kvs => obtain ⟨_, _, _, _, o, _, _, e, _⟩ := x; exact ⟨_, e⟩
 | dT kvs => obtain ⟨_, _, _, _, o, _, _, e, _⟩ := x; exact ⟨_, e⟩
 | set S n => obtain ⟨o, _, _, _, e, _⟩ := x; exact ⟨_, e⟩
 | ins C dx fs => obtain ⟨_, _, _, e, _⟩ := x; exact ⟨_, e⟩
 | own y => exact x
 | xd fs => obtain ⟨_, ⟨_, _, _, e, _⟩, _⟩ := x; exact ⟨_, e⟩
 | rng lo hi => obtain ⟨_, _, _, e⟩ := x; exact ⟨_, e⟩
 | frz ob u => obtain ⟨e, _⟩ := x; exact ⟨_, e⟩
 | tbl ps => exact ⟨_, show h.get? a = some _ from x⟩
 | met f y => exact ⟨_, show h.get? a = some _ from x⟩
 | ext φ => exact x.2.1
def Trc (h : Heap) (H : Hp) (x C T : Addr) (a0 : Value) : Prop :=
 ∃ oe vs oT ts, h.get? x = some oe /\ oe.cls = .ref C /\ vs[0]? = some a0 /\ oe.data = .fields vs /\ vs[1]? = some (.ref T) /\ H T = none /\ T ≠ x /\ h.get? T = some oT /\ oT.data = .fields ts /\ ts[3]? = some .none
def CXR (P : Program) (w : World) : CXT := fun outer H s E e s' => ∃ (x C T : Addr) (a0 : Value) (H' : Hp), e = .ref x /\ s'.os = s.os /\ AllBare s'.gens /\ Un (frs outer) [] H H' s.heap s'.heap /\ HOk P w H' s'.heap /\ s.heap.get? x = none /\ s.heap.get? T = none /\ H' x = none ∧
 Trc s'.heap H' x C T a0 /\ E (.ref C) none H'
structure NewAt (X : Cx) (pins : PLs) (a : Addr) : Prop where
 st : X.s₀.heap.get? a = none
 lo : a ≠ X.env.locals
 ce : ∀ x c, X.env.cells.lookup x = some c -> c ≠ a
 pi : ∀ p ∈ X.pn ++ pins, p.1 ≠ a
 fr : a ∉ frs X.stack
section
variable {X : Cx} {pins : PLs} {σ : L2.St} {H H' : Hp} {s : Shared} {a : Addr}
theorem Inv.newAt (I : L2.Inv X pins σ H s) (hex : X.ex = []) (h : s.heap.get? a = none) : NewAt X pins a where
 st := by
  cases e : X.s₀.heap.get? a with
  | none => rfl
  | some o =>
   obtain ⟨o', q⟩ := I.base.there a o e (by rw [hex]; simp)
   rw [h] at q; cases q
 lo := fun z => by
  obtain ⟨m, ⟨o, _, _, q, _⟩, _⟩ := I.loc
  rw [← z, h] at q; cases q
 ce := fun x c e z => by
  obtain ⟨v, o, q, _⟩ := I.cell x c e
  rw [z, h] at q; cases q
 pi := fun p hp z => by
  obtain ⟨q, _⟩ := I.pin p hp
  rw [z, h] at q; cases q
 fr := fun z => by
  obtain ⟨_, o, q, _⟩ := I.stack.mem z
  rw [h] at q; cases q
end
section
variable {X : Cx} {pins : PLs} {σ : L2.St} {H : Hp} {s : Shared} {a : Addr} {o : HO}
theorem Inv.adopt (I : L2.Inv X pins σ H s) (na : NewAt X pins a) (ha : H a = none) (hex : X.ex = []) (new : L2.ObjOk X.prog X.w (upd H a o) s.heap a o) : L2.Inv X pins σ (upd H a o) s := by
 have keep : ∀ b u, H b = some u -> upd H a o b = some u := fun b u q => by rw [upd_ne (ne_of_none q ha)]; exact q
 have nn : ∀ b, b ≠ a -> H b = none -> upd H a o b = none := fun b nb q => by rw [upd_ne nb]; exact q
 refine ⟨I.ok, I.os, I.bare, ⟨I.base.keep, I.base.slot, fun b u q n hx => nn b (fun z => by rw [z, na.st] at q; cases q) (I.base.free b u q n hx), I.base.there, fun b xs q => keep _ _ (I.base.tups b xs q), fun b u v q => keep _ _ (I.base.frzs b u v q), fun b ps q => ?_⟩, I.loc, I.cell, nn _ na.lo.symm I.free, fun x c q => nn _ (na.ce x c q) (I.freeC x c q), fun p hp => ?_, fun b u q => ?_, I.len⟩
 ·obtain ⟨m, z⟩ := I.base.tbls b ps q
  exact ⟨m, keep _ _ z⟩
 ·obtain ⟨p1, p2, p3⟩ := I.pin p hp
  exact ⟨p1, nn _ (na.pi p hp) p2, p3⟩
 ·by_cases z : b = a
  ·subst z
   rw [upd_same] at q; cases q
   exact new
  ·rw [upd_ne z] at q
   exact (I.hok b u q).stay (fun c v _ w => w) (fun c w => keep _ _ w) (fun c xs w => keep _ _ w)
theorem Inv.none_of (I : L2.Inv X pins σ H s) (h : s.heap.get? a = none) : H a = none := by
 cases q : H a with
 | none => rfl
 | some o => obtain ⟨u, z⟩ := ObjOk.get (I.hok a o q); rw [h] at z; cases z
end
structure XC (K : Fg) (C f : Addr) (bm : List Value) : Prop where
 ob : ∃ nm q N bs hdct sn sub ab col dd k0 k1 k2 k3 k5, K.lookup C = some (excClassObj nm q C N bs bm hdct sn sub ab col dd k0 k1 k2 k3 k5 "ValueError.__new__")
 tl : ∀ h : Heap, K.In h -> OwnTail h vMro bm
 init : PySem.W.findIn K (.ref C) "__init__" = some (some (.ref f))
 fn : PySem.W.typeIn K (.ref f) = some (.type "function")
 kp : PySem.W.keepIn K (.ref C) = true
 cl : ClsX K C bm
section
variable {X : Cx} {k : Nat} {f C : Addr} {fd : FuncData} {ps : List Str} {sp : Sp} {bm : List Value}
theorem run_exc {pins : PLs} {σ : L2.St} {H : Hp} {s : Shared} {Q : Addr -> Hp -> Prop} {us : List Value} {vs : List V} {E' : VSP} (M : XC X.K C f bm) (hex : X.ex = []) (F : FnOk X.prog X.w X.K X.mg X.base CX0 k f fd ps sp) (hr : Room (k + 1) X.A) (hb : Binds X.K fd ps [])
  (I : L2.Inv X pins σ H s) (r : Vals vs us) (hz : us.length ≤ sizeLine) (h : ∀ a, H a = none -> sp (.ref a :: vs) (upd H a (exO a C none)) (fun v H2 => v = .non /\ Q a H2) E0) :
  wpAny (model X.prog X.w) X.A (call (.ref C) us) (fun v s' => ∃ a H', v = .ref a /\ NewAt X pins a /\ L2.Inv X pins σ H' s' /\ Q a H') E' s := by
 obtain ⟨nm, q, N, bs, hdct, sn, sub, ab, col, dd, k0, k1, k2, k3, k5, lk⟩ := M.ob
 obtain ⟨hp, g, d, t, os⟩ := s
 refine exc_call PySem.F.excBase_ValueError (M.tl hp I.kIn) I.kIn (I.kIn _ _ lk) M.init M.fn (fun h' e hm => ?_) hz
 have na := B.Inv.newAt I hex hm.new
 have he := B.Inv.none_of I hm.new
 obtain ⟨tt, ho, _⟩ := hm.there
 have I1 : L2.Inv X pins σ H ⟨h', g, d, t, os⟩ := I.kept (t' := t) hm.keeps
 have I2 : L2.Inv X pins σ (upd H e (exO e C none)) ⟨h', g, d, t, os⟩ := B.Inv.adopt I1 na he hex (exO_ok ⟨tt, ho⟩)
 have hq := h e he
 have r2 : Vals (V.ref e :: vs) (Value.ref e :: us) := .cons rfl r
 have hl : (Value.ref e :: us).length = ps.length := by
  have z := r2.length
  rw [F.len _ _ _ _ hq] at z
  exact z.symm
 have hbd := hb ⟨h', g, d, t, os⟩ (Value.ref e :: us) I2.kIn (by rw [List.append_nil]; exact hl)
 rw [List.append_nil] at hbd
 refine wpAny_call (codeAny_mono (F.run _ X.stack _ _ ⟨Value.ref e :: us, []⟩ (Value.ref e :: us) _ _ E0 (hr.make C us []) (I2.env0.make C us []) hbd r2 hq) fun r s' hq' => ?_)
 cases r with
 | error e => exact False.elim hq'
 | ok fl =>
  cases fl with
  | ret u =>
   obtain ⟨v, H', I3, rv, ev, q3⟩ := I2.after hq'
   subst ev
   exact ⟨rv, e, H', rfl, na, I3, q3⟩
  | next => exact False.elim hq'
  | brk => exact False.elim hq'
  | cont => exact False.elim hq'
def Takes (X : Cx) (E : XK) : Prop := ∀ (pins : PLs) (σ : L2.St) (H : Hp) (s : Shared) (a C : Addr) (oe : Obj) (vs : Array Value) (a0 : Value), L2.Inv X pins σ H s -> H a = none -> NewAt X pins a -> s.heap.get? a = some oe -> oe.data = .fields vs →
 vs[0]? = some a0 -> vs[1]? = some .none -> oe.cls = .ref C -> E (.ref C) none H -> X.xe (.ref a) s
theorem raise_own {M : Model} {A : Around} {E : VSP} {env : Env} {nm q : Str} {N : Addr} {bs : List Value} {hdct : Bool} {sn : List Str} {sub : List Value} {ab : Bool} {col : Option Bool} {dd : Option Addr} {k0 k1 k2 k3 k5 : Option Value} {newId : String}
  {s : Shared} {x : Sem Value} {Q : Flow -> Shared -> Prop} (hbase : bm.contains (.type "BaseException") = true) (hh : A.handled = none)
  (h : wpAny M A x (fun v s₁ => ∃ e t dx, v = .ref e /\ s₁.heap.get? C = some (excClassObj nm q C N bs bm hdct sn sub ab col dd k0 k1 k2 k3 k5 newId) ∧
   s₁.heap.get? e = some { cls := .ref C, dict := dx, data := .fields #[.ref t, .none, .none, .none, .bool false, .none] } /\ E (.ref e) s₁) E s) :
  wpAny M A (raiseStmt env (some x) none) Q E s := by
 have hcB : (Value.ref C :: bm).contains (.type "BaseException") = true := by rw [List.contains_cons, hbase, Bool.or_true]
 unfold raiseStmt
 refine wpAny_bind (wpAny_mono h (fun v s₁ h₁ => ?_) fun _ _ y => y)
 obtain ⟨e, t, dx, rfl, hC, he, hE⟩ := h₁
 obtain ⟨hp, g, d, tk, os⟩ := s₁
 repeat (first
  | with_reducible refine wpAny_loadPart_at he ?_
  | with_reducible refine wpAny_loadPart_at hC ?_
  | (with_reducible refine wpAny_isSubtype_exc hC ?_
     rw [hcB])
  | wp_step)
 exact wpAny_raiseNew_none hh hE
def tRaise (C : Addr) (sp : Sp) (E : XK) (t : TA) : TS := fun _ σ H => t σ H fun vs H1 => vs.length ≤ sizeLine /\ ∀ a, H1 a = none -> sp (.ref a :: vs) (upd H1 a (exO a C none)) (fun v H2 => v = .non /\ (∃ dx, H2 a = some (exO a C dx)) /\ E (.ref C) none (del H2 a)) E0
end
section
variable {X : Cx} {pins : PLs} {σ : L2.St} {H : Hp} {s : Shared} {a C T : Addr} {a0 : Value}
end
def hid (N : List Str) : L2.St := List.replicate N.length none
theorem hid_weak {X : Cx} {pins : PLs} {σ : L2.St} {H : Hp} {s : Shared} (I : L2.Inv X pins σ H s) : L2.Inv X pins (hid X.N) H s :=
 I.weak (by rw [I.len]; exact List.length_replicate) fun i v q => by
  unfold hid at q
  rw [List.getElem?_replicate] at q
  split at q <;> cases q
def Fly (X : Cx) (pins : PLs) (R : Addr -> Hp -> Prop) : VSP := fun e s => ∃ (x C T : Addr) (a0 : Value) (H : Hp), e = .ref x /\ L2.Inv X pins (hid X.N) H s /\ H x = none /\ NewAt X pins x /\ NewAt X pins T /\ Trc s.heap H x C T a0 /\ R C H
def inTry (X : Cx) (pins : PLs) (R : Addr -> Hp -> Prop) : Cx := { X with pn := X.pn ++ pins, xe := Fly X pins R }
def inExc (X : Cx) (e : Addr) : Cx := { X with A := X.A.mark (some (.ref e)), calm := false, xe := fun _ _ => False }
section
variable {X : Cx} {pins pins' : PLs} {σ : L2.St} {H : Hp} {s : Shared} {R : Addr -> Hp -> Prop} {e : Addr}
theorem toExc (I : L2.Inv X pins σ H s) : L2.Inv (inExc X e) pins σ H s :=
 ⟨⟨I.ok.mod, I.ok.kind, I.ok.glob, I.ok.blt, I.ok.above, I.ok.inj, I.ok.has, I.ok.cab, (fun z => nomatch z), I.ok.frames, I.ok.stk, I.ok.exf, I.ok.bs, I.ok.bsz, I.ok.noex, I.ok.exfs, I.ok.funs, I.ok.frf⟩, I.os, I.bare, I.base, I.loc, I.cell, I.free, I.freeC, I.pin, I.hok, I.len⟩
theorem ofExc (ok : X.Ok) (I : L2.Inv (inExc X e) pins σ H s) : L2.Inv X pins σ H s :=
 ⟨ok, I.os, I.bare, I.base, I.loc, I.cell, I.free, I.freeC, I.pin, I.hok, I.len⟩
theorem SP.ofExc {D : Ends} {f : Flow} (ok : X.Ok) (h : SP (inExc X e) pins D f s) : SP X pins D f s := by
 cases f with
 | next => obtain ⟨σ', H', I, q⟩ := h; exact ⟨σ', H', B.ofExc ok I, q⟩
 | brk => obtain ⟨σ', H', I, q⟩ := h; exact ⟨σ', H', B.ofExc ok I, q⟩
 | cont => obtain ⟨σ', H', I, q⟩ := h; exact ⟨σ', H', B.ofExc ok I, q⟩
 | ret u => obtain ⟨v, σ', H', I, r, q⟩ := h; exact ⟨v, σ', H', B.ofExc ok I, r, q⟩
end
def tTry (N : List Str) (R : Addr -> Hp -> Prop) (Ok : Addr -> Prop) (tb : TS) (th : TS) : TS := fun D σ H => tb D σ H /\ ∀ C H', R C H' -> Ok C /\ th D (hid N) H'
section
variable {X : Cx} {R : Addr -> Hp -> Prop} {body : List Stmt} {b₀ : Stmt} {suite : List Stmt} {x : Str} {p hpos pos : Pos} {u : Value} {tb th : TS}
end
section
variable {X : Cx} {o value : Expr} {f : Str} {ta tv : TE} {pos' pos : Pos}
def sFldX (K : Fg) (ta tv : TE) (f : Str) : TS := fun D σ H => tv σ H fun _ H1 => ta σ H1 fun x H2 => ∃ a C bm, x = .ref a /\ H2 a = some (exO a C none) /\ ClsX K C bm /\ NoAttr K C f /\ ∀ d, D.nx σ (upd H2 a (exO a C (some d)))
end
def EofR (R : Addr -> Hp -> Prop) : XK := fun v _ H => ∃ C, v = .ref C /\ R C H
theorem vm_has (a : Addr) : (Value.ref a :: vMro).contains (.type "BaseException") = true := by rw [List.contains_cons, (by decide +kernel : vMro.contains (.type "BaseException") = true), Bool.or_true]
def strKeysB (es : Array DictEntry) : Bool := es.toList.all fun e => match e.key with
 | .str _ _ => true
 | _ => false
theorem strKeys_of {es : Array DictEntry} (h : strKeysB es = true) : StrKeys es := fun e he => by
 have z := List.all_eq_true.mp h e (Array.mem_toList_iff.mpr he)
 revert z
 cases e.key <;> intro z <;> first | exact ⟨_, _, rfl⟩ | (cases z)
theorem xc_mk {K : Fg} {C f B0 NB : Addr} {nm q nmB qB : Str} {N : Addr} {bs bsB : List Value} {hdct hdctB : Bool} {sn snB : List Str} {sub subB : List Value} {ab abB : Bool} {col colB : Option Bool} {dd ddB : Option Addr} {k0 k1 k2 k3 k5 j0 j1 j2 j3 j5 : Option Value}
  {oc : Value} {od : Option Addr} {es : Array DictEntry} {n : Nat} {sl : Array (Option Value)}
  (lc : K.lookup C = some (excClassObj nm q C N bs (.ref B0 :: [.type "ValueError", .type "Exception", .type "BaseException", .type "object"]) hdct sn sub ab col dd k0 k1 k2 k3 k5 "ValueError.__new__"))
  (lb : K.lookup B0 = some (excClassObj nmB qB B0 NB bsB [.type "ValueError", .type "Exception", .type "BaseException", .type "object"] hdctB snB subB abB colB ddB j0 j1 j2 j3 j5 "ValueError.__new__"))
  (ln : K.lookup NB = some ⟨oc, od, .dict es n, sl⟩) (hs : strKeysB es = true) (hn : (nsFind es "__init__").isNone = true)
  (fi : PySem.W.findIn K (.ref C) "__init__" = some (some (.ref f))) (ti : PySem.W.typeIn K (.ref f) = some (.type "function")) (kc : PySem.W.keepIn K (.ref C) = true) (hh : PySem.W.hasDictIn K C = true) (sa : PySem.W.findIn K (.ref C) "__setattr__" = some (some (.builtin "object.__setattr__"))) : XC K C f (.ref B0 :: vMro) :=
 have ob : ∃ nm q N bs hdct sn sub ab col dd k0 k1 k2 k3 k5, K.lookup C = some (excClassObj nm q C N bs (.ref B0 :: vMro) hdct sn sub ab col dd k0 k1 k2 k3 k5 "ValueError.__new__") := ⟨_, _, _, _, _, _, _, _, _, _, _, _, _, _, _, lc⟩
 have tl : ∀ h : Heap, K.In h -> OwnTail h vMro (.ref B0 :: vMro) := fun h X => .own (X _ _ lb) ⟨_, es, n, X _ _ ln, rfl, strKeys_of hs, fun _ => rfl⟩ (Option.isNone_iff_eq_none.mp hn) .base
 ⟨ob, tl, fi, ti, kc, ob, tl, hh, sa⟩
structure GetX (K : Fg) (C : Addr) : Prop where
 ga : PySem.W.findIn K (.ref C) "__getattribute__" = some (some (.builtin "BaseException.__getattribute__"))
 gn : PySem.W.findIn K (.ref C) "__getattr__" = some none
 cl : PySem.W.findIn K (.ref C) "__class__" = some (some (.builtin "object.__class__"))
 cg : PySem.W.specialIn K (.builtin "object.__class__") "__get__" = some (some (.builtin "getset_descriptor.__get__"))
 ct : PySem.W.takesIn K (.builtin "object.__class__") = some true
section
variable {prog : Program} {w : World} {A : Around} {E : VSP} {s : Shared} {K : Fg} {x C : Addr} {ox : Obj} {odo : Option Obj} {bm : List Value} {name : Str} {tk : Tok} {R : Result -> Shared -> Prop}
end
section
variable {K : Fg} {x C : Addr} {ox od : Obj} {bm : List Value}
end
structure Kept (S ch : List Addr) (h h' : Heap) : Prop where
 same : ∀ b o, b ∉ S -> b ∉ ch -> h.get? b = some o -> h'.get? b = some o
 slot : ∀ b o, b ∉ ch -> h.get? b = some o -> ∃ sl, h'.get? b = some { o with slots := sl }
theorem Kept.trans {S c1 c2 : List Addr} {h h1 h2 : Heap} (a : Kept S c1 h h1) (b : Kept S c2 h1 h2) : Kept S (c1 ++ c2) h h2 where
 same := fun x o n1 n2 q => b.same x o n1 (fun z => n2 (List.mem_append_right _ z)) (a.same x o n1 (fun z => n2 (List.mem_append_left _ z)) q)
 slot := fun x o n2 q => by
  obtain ⟨sl, z⟩ := a.slot x o (fun z => n2 (List.mem_append_left _ z)) q
  obtain ⟨sl', z'⟩ := b.slot x _ (fun z => n2 (List.mem_append_right _ z)) z
  exact ⟨sl', z'⟩
theorem Kept.upd {S : List Addr} {h : Heap} {T : Addr} {f : Obj -> Obj} : Kept S [T] h (h.update T f) where
 same := fun b o _ n q => by rw [Heap.get?_update_other _ _ (fun z => n (by rw [z]; exact List.mem_singleton.mpr rfl))]; exact q
 slot := fun b o n q => ⟨o.slots, by rw [Heap.get?_update_other _ _ (fun z => n (by rw [z]; exact List.mem_singleton.mpr rfl))]; exact q⟩
def TrcD (h : Heap) (x C T : Addr) (dx : Option Addr) (fl : Value) : Prop :=
 ∃ oe vs oT ts, h.get? x = some oe /\ oe.cls = .ref C /\ oe.dict = dx /\ oe.data = .fields vs /\ vs[1]? = some (.ref T) /\ T ≠ x /\ h.get? T = some oT /\ oT.data = .fields ts /\ ts[3]? = some fl
section
variable {M : Model} {A : Around} {E : VSP} {s : Shared} {base : Heap} {env : Env} {outer : List Env} {L e C T : Addr} {oe : Obj} {vs : Array Value} {dx : Option Addr} {fl : Value}
theorem dict_mapF (f : Array Value -> Array Value) (o : Obj) : (Obj.mapFields f o).dict = o.dict := by
 unfold Obj.mapFields; split <;> rfl
theorem entryD {hadNext : Bool} {head : Value} {Q : Unit -> Shared -> Prop} (hfr : A.frames = some (env :: outer)) (hl : s.heap.FunFrames base (env :: outer)) (hf : env.frame = some L)
  (he : s.heap.get? e = some oe) (hd : oe.data = .fields vs) (hsz : 1 < vs.size) (hc : oe.cls = .ref C) (hx : oe.dict = dx)
  (h : ∀ h' T, Kept (frs (env :: outer)) [e] s.heap h' -> s.heap.get? T = none -> TrcD h' e C T dx (rawInt L) -> Q () { s with heap := h' }) :
  wpAny M A (do let a ← frameOf env; let pl ← entryPlaceOf L hadNext; let b ← EntryCells.newEntry head a .none (rawInt L) .none pl; setField (.ref e) 1 b) Q E s := by
 have hene : e ∉ frs (env :: outer) := fun hm => by
  obtain ⟨_, o, ho, hnf⟩ := hl.mem hm
  rw [he] at ho; cases ho; exact hnf vs hd
 refine wpAny_bind (wpAny_frameOf_fun hfr hl hf fun h1 s1 => wpAny_bind (wpAny_entryPlaceOf fun pl hpl => ?_))
 unfold EntryCells.newEntry newFields
 refine wpAny_bind (wpAny_newObj_type ?_ (hpl.sizeOk5 _ _ _ _ _))
 have he1 : h1.get? e = some oe := (s1.2.1 e hene).trans he
 generalize hob : ({ cls := .type "traceback", dict := none, data := .fields ([head, .ref L, .none, rawInt L, .none] ++ (if pl.isEmpty then List.replicate 6 Value.none else pl)).toArray } : Obj) = ob
 have he2 := Heap.get?_push_of_some (h := h1) ob he1
 refine wpAny_setField he2 hd hsz (h _ h1.objs.size ⟨fun b o n1 n2 q => ?_, fun b o n2 q => ?_⟩ ?_ ?_)
 ·rw [Heap.get?_update_other _ _ (fun z => n2 (by rw [z]; exact List.mem_singleton.mpr rfl))]
  exact Heap.get?_push_of_some _ ((s1.2.1 b n1).trans q)
 ·obtain ⟨sl, z⟩ := s1.2.2 b o q
  refine ⟨sl, ?_⟩
  rw [Heap.get?_update_other _ _ (fun z => n2 (by rw [z]; exact List.mem_singleton.mpr rfl))]
  exact Heap.get?_push_of_some _ z
 ·exact Heap.get?_none_of_le (Nat.le_of_eq s1.1.symm)
 ·have nT : h1.objs.size ≠ e := Nat.ne_of_gt (Heap.lt_size he1)
  have d3 := Obj.data_mapFields hd (·.setIfInBounds 1 (Value.ref h1.objs.size))
  refine ⟨_, _, ob, _, Heap.get?_update_self _ he2 (Obj.isFreed_of_fields d3), (Obj.cls_mapFields _ _).trans hc, (dict_mapF _ _).trans hx, d3, by simp [hsz], nT, ?_, by rw [← hob], ?_⟩
  ·rw [Heap.get?_update_other _ _ (Ne.symm nT)]
   exact Heap.get?_push_size h1 (by rw [← hob]; rfl)
  ·first | (simp; done) | (rcases hpl with rfl | ⟨_, _, _, _, _, _, _, rfl⟩ <;> simp)
theorem flightD {Q : Unit -> Shared -> Prop} (t : TrcD s.heap e C T dx fl) (h : ∀ h', Kept [] [T] s.heap h' -> TrcD h' e C T dx .none -> Q () { s with heap := h' }) : wpAny M A (setFlight (.ref e) none) Q E s := by
 obtain ⟨oe, vs, oT, ts, q1, q2, q3, q4, q5, q6, q7, q8, q9⟩ := t
 have z3 : 3 < ts.size := (Array.getElem?_eq_some_iff.mp q9).1
 unfold setFlight
 refine wpAny_bind (wpAny_field q1 q4 q5 ?_)
 rw [if_pos (by simp)]
 refine wpAny_setField q7 q8 z3 (h _ Kept.upd ?_)
 have d3 := Obj.data_mapFields q8 (·.setIfInBounds 3 ((none : Option Addr).elim Value.none fun f => rawInt f))
 exact ⟨oe, vs, _, _, (Heap.get?_update_other _ _ q6).trans q1, q2, q3, q4, q5, q6, Heap.get?_update_self _ q7 (Obj.isFreed_of_fields d3), d3, by simp [z3]⟩
theorem note1 {Q : Unit -> Shared -> Prop} (hfr : A.frames = some (env :: outer)) (hl : s.heap.FunFrames base (env :: outer)) (hf : env.frame = some L) (he : s.heap.get? e = some oe) (hd : oe.data = .fields vs) (h1 : vs[1]? = some .none) (hc : oe.cls = .ref C) (hx : oe.dict = dx)
  (h : ∀ h' T, Kept (frs (env :: outer)) [e] s.heap h' -> s.heap.get? T = none -> TrcD h' e C T dx (rawInt L) -> Q () { s with heap := h' }) : wpAny M A (noteFrame (.ref e) env) Q E s := by
 unfold noteFrame
 simp only [hf]
 refine wpAny_bind (wpAny_field he hd h1 ?_)
 rw [if_neg (by decide)]
 exact entryD hfr hl hf he hd (Array.getElem?_eq_some_iff.mp h1).1 hc hx h
theorem noteN {Q : Unit -> Shared -> Prop} (hfr : A.frames = some (env :: outer)) (hl : s.heap.FunFrames base (env :: outer)) (hf : env.frame = some L) (t : TrcD s.heap e C T dx .none)
  (h : ∀ h' T', Kept (frs (env :: outer)) [T, e] s.heap h' -> s.heap.get? T' = none -> TrcD h' e C T' dx (rawInt L) -> Q () { s with heap := h' }) : wpAny M A (noteFrame (.ref e) env) Q E s := by
 obtain ⟨oe, vs, oT, ts, q1, q2, q3, q4, q5, q6, q7, q8, q9⟩ := t
 unfold noteFrame
 simp only [hf]
 refine wpAny_bind (wpAny_field q1 q4 q5 ?_)
 rw [if_pos (by simp)]
 refine wpAny_bind (wpAny_field q7 q8 q9 ?_)
 rw [if_neg (by simp [rawInt])]
 refine wpAny_bind (wpAny_setField q7 q8 (Array.getElem?_eq_some_iff.mp q9).1 ?_)
 have k1 : Kept (frs (env :: outer)) [T] s.heap (s.heap.update T (Obj.mapFields (·.setIfInBounds 3 Value.none))) := Kept.upd
 have nf : ∀ b o, s.heap.get? b = some o -> (∀ us, o.data ≠ .fields us) -> b ∉ [T] := fun b o hb hn z => by
  rw [List.mem_singleton.mp z, q7] at hb; cases hb; exact hn ts q8
 refine entryD (base := base) hfr (hl.of_keeps fun b o hb hn => ?_) hf ((Heap.get?_update_other _ _ q6).trans q1) q4 (Array.getElem?_eq_some_iff.mp q5).1 q2 q3 fun h' T' k nT t' => h h' T' (k1.trans k) ?_ t'
 ·obtain ⟨sl, z⟩ := k1.slot b o (nf b o hb hn) hb
  exact ⟨_, z, rfl⟩
 ·cases q : s.heap.get? T' with
  | none => rfl
  | some o =>
   exfalso
   by_cases z : T' = T
   ·have d3 := Obj.data_mapFields q8 (·.setIfInBounds 3 Value.none)
    rw [z, Heap.get?_update_self _ q7 (Obj.isFreed_of_fields d3)] at nT; cases nT
   ·rw [Heap.get?_update_other _ _ (Ne.symm z)] at nT; rw [q] at nT; cases nT
end
def DicO (d : Addr) (fs : List (Str × V)) : Heap -> Prop := fun h => ∃ mA, h.Ns1 d mA /\ ∀ f, RelO (fs.lookup f) (mA f)
def dO (d : Addr) (fs : List (Str × V)) : HO := .ext (DicO d fs)
theorem dO_ok {P : Program} {w : World} {H : Hp} {h : Heap} {d : Addr} {fs : List (Str × V)} (e : DicO d fs h) : ObjOk P w H h d (dO d fs) :=
 ⟨e, let ⟨_, ⟨_, _, _, q, _⟩, _⟩ := e; ⟨_, q⟩, fun _ _ ⟨mA, n, r⟩ k => ⟨mA, n.at k, r⟩⟩
theorem relO_none {a : Option V} {b : Option Value} (r : RelO a b) (h : b ≠ none) : a ≠ none := fun z => by
 subst z
 cases b with
 | none => exact h rfl
 | some _ => exact r.elim
theorem relO_cons {fs : List (Str × V)} {mA : Str -> Option Value} {f : Str} {y : V} {u : Value} (r : ∀ g, RelO (fs.lookup g) (mA g)) (q : RelV y u) : ∀ g, RelO (((f, y) :: fs).lookup g) (if g = f then some u else mA g) := fun g => by
 by_cases z : g = f
 ·subst z
  rw [if_pos rfl, List.lookup_cons_self]; exact q
 ·rw [if_neg z, List.lookup_cons, beq_eq_false_iff_ne.mpr z]; exact r g
theorem within_of {fs : List (Str × V)} {mA : Str -> Option Value} (r : ∀ g, RelO (fs.lookup g) (mA g)) : PySem.Within mA (fs.map (·.1)) := fun g hg => by
 have z := relO_none (r g) hg
 cases q : fs.lookup g with
 | none => exact absurd q z
 | some v =>
  obtain ⟨l1, l2, e, _⟩ := List.lookup_eq_some_iff.mp q
  rw [e]; simp
section
variable {X : Cx} {pins : PLs} {σ : L2.St} {H : Hp} {s : Shared} {a C : Addr}
theorem setX1 {A : Around} {E : VSP} {f : Str} {y : V} {u : Value} {bm : List Value} {Q : Unit -> Shared -> Prop} (hex : X.ex = []) (I : L2.Inv X pins σ H s) (e : H a = some (exO a C none)) (c : ClsX X.K C bm) (n : NoAttr X.K C f) (ry : RelV y u)
  (h : ∀ d s', H d = none -> d ≠ a -> L2.Inv X pins σ (upd (upd H a (exO a C (some d))) d (dO d [(f, y)])) s' -> Q () s') : wpAny (model X.prog X.w) A (setAttr (.ref a) f u) Q E s := by
 obtain ⟨t, hx⟩ := (show ObjOk X.prog X.w H s.heap a (exO a C none) from I.hok a _ e).1
 have J : PySem.W.InstAt s.heap a _ C none := ⟨hx, rfl, rfl, trivial⟩
 refine PySem.W.set_plain I.kIn J c.sa (store_err (s := { s with toks := s.toks + 1 }) I.kIn J c n fun b => ?_)
 obtain ⟨cd, hc, hd'⟩ := PySem.W.any_some c.hd
 refine wpAny_bind (wpAny_pure (wpAny_bind (wpAny_bind (wpAny_loadPart hx (wpAny_bind (PySem.W.Looks.here (s := { s with toks := s.toks + 1 }) (PySem.W.looks_clsIn I.kIn hc) ?_))))))
 rw [hd']
 show wpAny _ _ (alloc { cls := .type "dict", data := .dict #[] } >>= fun d => update a (fun o => { o with dict := some d }) >>= fun _ => dictMade (.ref C) a d) _ _ _
 have la : a < s.heap.objs.size := Heap.lt_size hx
 have nad : s.heap.objs.size ≠ a := Nat.ne_of_gt la
 have g1 := Heap.get?_push_of_some (h := s.heap) { cls := .type "dict", data := .dict #[] } hx
 refine wpAny_bind (wpAny_alloc (wpAny_bind (wpAny_update g1 ?_)))
 have g2 := Heap.get?_update_self (fun o => { o with dict := some s.heap.objs.size }) g1 rfl
 have e1 : ((s.heap.push { cls := .type "dict", data := .dict #[] }).update a fun o => { o with dict := some s.heap.objs.size }).get? s.heap.objs.size = some { cls := .type "dict", data := .dict #[] } := by
  rw [Heap.get?_update_other _ _ nad.symm]; exact Heap.get?_push_size s.heap rfl
 have e3 : ((s.heap.push { cls := .type "dict", data := .dict #[] }).update a fun o => { o with dict := some s.heap.objs.size }).Ns s.heap.objs.size (fun _ => none) :=
  ⟨_, #[], _, e1, rfl, (fun e he => absurd he (by simp)), fun _ => rfl⟩
 have keep : ∀ b o, b ≠ a -> s.heap.get? b = some o -> ((s.heap.push { cls := .type "dict", data := .dict #[] }).update a fun o => { o with dict := some s.heap.objs.size }).get? b = some o := fun b o nb q => by
  rw [Heap.get?_update_other _ _ (Ne.symm nb)]; exact Heap.get?_push_of_some _ q
 refine wpAny_pure (a := some s.heap.objs.size) (wpAny_bind (wpAny_pure (wpAny_bind ?_)))
 refine wpAny_nsSet1 (Heap.Ns1.of_empty e3) fun h' hn2 hs2 => ?_
 have rel : ∀ g, RelO ([(f, y)].lookup g) (if g = f then some u else none) := relO_cons (fs := []) (mA := fun _ => none) (fun _ => trivial) ry
 obtain ⟨oD, esD, epD, hoD, hdD, hcD⟩ := hn2.count (within_of rel)
 refine wpAny_bind (wpAny_lookBehind hoD (by rw [hdD]; exact pastItsLine_dict (Nat.le_trans hcD (Nat.le_add_left _ _))) ?_)
 have hno : s.heap.get? s.heap.objs.size = none := Heap.get?_none_of_le (Nat.le_refl _)
 have hH : H s.heap.objs.size = none := B.Inv.none_of I hno
 refine wpAny_pure (h s.heap.objs.size _ hH nad ?_)
 have ga : h'.get? a = some { cls := .ref C, dict := some s.heap.objs.size, data := .fields #[.ref t, .none, .none, .none, .bool false, .none] } := (hs2.2 a nad.symm).trans g2
 have I2 : L2.Inv X pins σ (upd H a (exO a C (some s.heap.objs.size))) { s with heap := h', toks := s.toks + 1 + 1 } := I.write (x := a) (e := a) (o := exO a C (some s.heap.objs.size)) (h' := h') (by rw [e]; trivial) (.inl rfl) (fun b o nb q => by
  have nb2 : b ≠ s.heap.objs.size := Nat.ne_of_lt (Heap.lt_size q)
  exact (hs2.2 b nb2).trans (keep b o nb q)) ⟨_, ga⟩ (exO_ok ⟨t, ga⟩)
 exact B.Inv.adopt I2 (B.Inv.newAt I hex hno) (by rw [upd_ne nad]; exact hH) hex (dO_ok ⟨_, hn2, rel⟩)
theorem setX2 {A : Around} {E : VSP} {f : Str} {y : V} {u : Value} {bm : List Value} {d : Addr} {fs : List (Str × V)} {Q : Unit -> Shared -> Prop} (I : L2.Inv X pins σ H s) (e : H a = some (exO a C (some d))) (ed : H d = some (dO d fs)) (hl : fs.length ≤ 100) (c : ClsX X.K C bm) (n : NoAttr X.K C f) (ry : RelV y u)
  (h : ∀ s', L2.Inv X pins σ (upd H d (dO d ((f, y) :: fs))) s' -> Q () s') : wpAny (model X.prog X.w) A (setAttr (.ref a) f u) Q E s := by
 obtain ⟨t, hx⟩ := (show ObjOk X.prog X.w H s.heap a (exO a C (some d)) from I.hok a _ e).1
 obtain ⟨mA, hn, rel0⟩ := (show ObjOk X.prog X.w H s.heap d (dO d fs) from I.hok d _ ed).1
 obtain ⟨od, _, _, hod, _⟩ := id hn
 have J : PySem.W.InstAt s.heap a _ C (some od) := ⟨hx, rfl, rfl, hod⟩
 refine PySem.W.set_plain I.kIn J c.sa (store_err (s := { s with toks := s.toks + 1 }) I.kIn J c n fun b => ?_)
 obtain ⟨cd, hc, hd'⟩ := PySem.W.any_some c.hd
 refine wpAny_bind (wpAny_pure (wpAny_bind (wpAny_bind (wpAny_loadPart hx (wpAny_bind (PySem.W.Looks.here (s := { s with toks := s.toks + 1 }) (PySem.W.looks_clsIn I.kIn hc) ?_))))))
 rw [hd']
 refine wpAny_pure (a := some d) (wpAny_bind (wpAny_pure (wpAny_bind ?_)))
 refine wpAny_nsSet1 (s := { s with toks := s.toks + 1 }) hn fun h' hn2 hs2 => ?_
 have rel := relO_cons (f := f) rel0 ry
 obtain ⟨oD, esD, epD, hoD, hdD, hcD⟩ := hn2.count (within_of rel)
 have hz : esD.size ≤ 101 := by rw [List.length_map, List.length_cons] at hcD; omega
 refine wpAny_bind (wpAny_lookBehind hoD (by rw [hdD]; exact pastItsLine_dict (Nat.le_trans hz (by decide))) ?_)
 refine wpAny_pure (h _ ?_)
 exact I.write (x := d) (e := d) (o := dO d ((f, y) :: fs)) (h' := h') (by rw [ed]; trivial) (.inl rfl) (fun b o nb q => (hs2.2 b nb).trans q) ⟨_, hoD⟩ (dO_ok ⟨_, hn2, rel⟩)
end
section
variable {X : Cx} {o value : Expr} {f : Str} {ta tv : TE} {pos' pos : Pos}
def sFldE (K : Fg) (ta tv : TE) (f : Str) : TS := fun D σ H => tv σ H fun y H1 => ta σ H1 fun x H2 => ∃ a C bm, x = .ref a /\ ClsX K C bm /\ NoAttr K C f ∧
 ((H2 a = some (exO a C none) /\ ∀ d, H2 d = none -> d ≠ a -> D.nx σ (upd (upd H2 a (exO a C (some d))) d (dO d [(f, y)]))) ∨
  ∃ d fs, H2 a = some (exO a C (some d)) /\ H2 d = some (dO d fs) /\ fs.length ≤ 100 /\ D.nx σ (upd H2 d (dO d ((f, y) :: fs))))
theorem ps_fldE (hex : X.ex = []) (ha : PE X o ta) (hv : PE X value tv) (hs : swapsWith value (some (.Attribute o f pos')) pos.line X.env = pure false) : PS X (.Assign [.Attribute o f pos'] value pos) (sFldE X.K ta tv f) := by
 intro pins s σ H D I h
 refine plainObj_wpAny_Assign_Attribute (thn (hv pins s σ H _ I h) fun u s1 ⟨y, H1, I1, ry, q⟩ => thn (ha pins s1 σ H1 _ I1 q) fun ov s2 ⟨x, H2, I2, rx, a, C, bm, ex, c, n, q2⟩ => ?_) hs
 subst ex
 obtain rfl : ov = Value.ref a := rx
 rcases q2 with ⟨ea, k⟩ | ⟨d, fs, ea, ed, hl, k⟩
 ·exact B.setX1 hex I2 ea c n ry fun d s' hd nd I' => ⟨σ, _, I', k d hd nd⟩
 ·exact B.setX2 I2 ea ed hl c n ry fun s' I' => ⟨σ, _, I', k⟩
end
theorem Kept.any {S ch : List Addr} {h h' : Heap} (k : Kept [] ch h h') : Kept S ch h h' := ⟨fun b o _ n q => k.same b o (fun z => by cases z) n q, k.slot⟩
section
variable {X : Cx} {pins : PLs} {σ : L2.St} {H : Hp} {s : Shared} {a C T : Addr} {dx : Option Addr} {fl : Value}
theorem Inv.leftK {ch : List Addr} {h' : Heap} {tk : Nat} (I : L2.Inv X pins σ H s) (hch : ∀ b ∈ ch, H b = none /\ NewAt X pins b) (k : Kept (frs X.stack) ch s.heap h') : L2.Inv X pins σ H { s with heap := h', toks := tk } := by
 have trk : ∀ b o, H b = some o -> b ∉ frs X.stack /\ b ∉ ch := fun b o q =>
  ⟨(fun z => by rw [I.stkFree b z] at q; cases q), (fun z => by rw [(hch b z).1] at q; cases q)⟩
 refine I.call' (s' := { s with heap := h', toks := tk }) (ch := ch) rfl ⟨fun b o q _ n1 n2 => k.same b o n1 n2 q, fun b o q _ n1 n2 => k.slot b o n2 q, fun b o _ n _ => n, fun b o q n2 => ?_, fun b xs q => q, fun b o u q => q, fun b ps q => ⟨#[], by rw [Array.append_empty]; exact q⟩⟩ (fun b o q => ?_) I.bare
  (fun b hb => ⟨.inr (hch b hb).2.st, (hch b hb).2.lo, (hch b hb).2.ce, (hch b hb).2.pi⟩)
 ·obtain ⟨sl, z⟩ := k.slot b o n2 q
  exact ⟨_, z⟩
 ·refine (I.hok b o q).stay (fun c u hc z => ?_) (fun c z => z) (fun c xs z => z)
  rcases hc with rfl | hc
  ·obtain ⟨n1, n2⟩ := trk _ _ q; exact k.same _ _ n1 n2 z
  ·obtain ⟨n1, n2⟩ := trk _ _ hc; exact k.same _ _ n1 n2 z
theorem noted1 {A : Around} {E' : VSP} {Q : Shared -> Prop} {oe : Obj} {vs : Array Value} (hA : A.frames = X.A.frames) (I : L2.Inv X pins σ H s) (hex : X.ex = []) (hst : X.stack = X.env :: X.outer) (hfr : X.env.frame = some X.env.locals)
  (ha : H a = none) (na : NewAt X pins a) (hx : s.heap.get? a = some oe) (hd : oe.data = .fields vs) (h1 : vs[1]? = some .none) (hc : oe.cls = .ref C) (hdx : oe.dict = dx)
  (h : ∀ (s' : Shared) (T : Addr), L2.Inv X pins σ H s' -> NewAt X pins T -> H T = none -> TrcD s'.heap a C T dx .none -> Q s') :
  wpAny (model X.prog X.w) A (noteFrame (.ref a) X.env) (fun _ s2 => wpAny (model X.prog X.w) A (setFlight (.ref a) none) (fun _ s3 => Q s3) E' s2) E' s := by
 have hfrm : A.frames = some (X.env :: X.outer) := by rw [hA, I.ok.frames, hst]
 refine note1 (base := X.base) hfrm (by rw [← hst]; exact I.stack) hfr hx hd h1 hc hdx fun h1 T k1 nT t1 => ?_
 refine flightD (s := { s with heap := h1 }) t1 fun h2 k2 t2 => ?_
 have nt := B.Inv.newAt I hex nT
 have hT := B.Inv.none_of I nT
 rw [← hst] at k1
 refine h { s with heap := h2 } T (B.Inv.leftK (tk := s.toks) I (fun b hb => ?_) (k1.trans k2.any)) nt hT t2
 simp only [List.cons_append, List.nil_append, List.mem_cons, List.not_mem_nil, or_false] at hb
 rcases hb with rfl | rfl
 ·exact ⟨ha, na⟩
 ·exact ⟨hT, nt⟩
theorem notedN {A : Around} {E' : VSP} {Q : Shared -> Prop} (hA : A.frames = X.A.frames) (I : L2.Inv X pins σ H s) (hex : X.ex = []) (hst : X.stack = X.env :: X.outer) (hfr : X.env.frame = some X.env.locals)
  (ha : H a = none) (na : NewAt X pins a) (hT : H T = none) (nT : NewAt X pins T) (t : TrcD s.heap a C T dx .none)
  (h : ∀ (s' : Shared) (T' : Addr), L2.Inv X pins σ H s' -> NewAt X pins T' -> H T' = none -> TrcD s'.heap a C T' dx .none -> Q s') :
  wpAny (model X.prog X.w) A (noteFrame (.ref a) X.env) (fun _ s2 => wpAny (model X.prog X.w) A (setFlight (.ref a) none) (fun _ s3 => Q s3) E' s2) E' s := by
 have hfrm : A.frames = some (X.env :: X.outer) := by rw [hA, I.ok.frames, hst]
 refine noteN (base := X.base) hfrm (by rw [← hst]; exact I.stack) hfr t fun h1 T' k1 nT' t1 => ?_
 refine flightD (s := { s with heap := h1 }) t1 fun h2 k2 t2 => ?_
 have nt := B.Inv.newAt I hex nT'
 have hT' := B.Inv.none_of I nT'
 rw [← hst] at k1
 refine h { s with heap := h2 } T' (B.Inv.leftK (tk := s.toks) I (fun b hb => ?_) (k1.trans k2.any)) nt hT' t2
 simp only [List.cons_append, List.nil_append, List.mem_cons, List.not_mem_nil, or_false] at hb
 rcases hb with rfl | rfl | rfl
 ·exact ⟨hT, nT⟩
 ·exact ⟨ha, na⟩
 ·exact ⟨hT', nt⟩
theorem flownN {A : Around} {E' : VSP} {Q : Shared -> Prop} (I : L2.Inv X pins σ H s) (hT : H T = none) (nT : NewAt X pins T) (t : TrcD s.heap a C T dx .none)
  (h : ∀ (s' : Shared), L2.Inv X pins σ H s' -> TrcD s'.heap a C T dx .none -> Q s') : wpAny (model X.prog X.w) A (setFlight (.ref a) none) (fun _ s3 => Q s3) E' s := by
 refine flightD t fun h2 k2 t2 => h _ (B.Inv.leftK (tk := s.toks) I (fun b hb => ?_) k2.any) t2
 rw [List.mem_singleton.mp hb]; exact ⟨hT, nT⟩
end
def CXD (P : Program) (w : World) : CXT := fun outer H s E e s' => ∃ (x C T : Addr) (dx : Option Addr) (H' : Hp), e = .ref x /\ s'.os = s.os /\ AllBare s'.gens /\ Un (frs outer) [] H H' s.heap s'.heap /\ HOk P w H' s'.heap /\ s.heap.get? x = none /\ s.heap.get? T = none /\ H' x = none /\ H' T = none ∧
 TrcD s'.heap x C T dx .none /\ E (.ref C) dx H'
section
variable {P : Program} {w : World} {K : Fg} {mg : Str -> Option Value} {base : Heap} {N : List Str} {qual : Str} {scope : Scope} {f : Addr} {cd : Value} {A : Around} {outer : List Env} {s : Shared} {H : Hp} {E : XK}
theorem passD : Passes (CXD P w) (cxOf (CXD P w) P w K mg base N qual scope f cd A outer s H E) E := by
 intro pins σ H1 s1 e s2 I hx
 obtain ⟨x, C, T, dx, H2, rfl, ho, hb, un, hok, nx, nT, hx2, hT2, tr, hE⟩ := hx
 have na := B.Inv.newAt I rfl nx
 have nt := B.Inv.newAt I rfl nT
 have I2 : L2.Inv (cxOf (CXD P w) P w K mg base N qual scope f cd A outer s H E) pins σ H2 s2 := I.call' ho un hok hb (fun b hb => by cases hb)
 show wpAny (model P w) _ (leaving _ _) _ _ s2
 unfold leaving
 refine wpAny_bind (notedN rfl I2 rfl rfl rfl hx2 na hT2 nt tr fun s3 T' I3 nT' hT' tr' => ?_)
 exact ⟨x, C, T', dx, H2, rfl, I3.os, I3.bare, I3.base, I3.hok, na.st, nT'.st, hx2, hT', tr', hE⟩
def TakesD (X : Cx) (E : XK) : Prop := ∀ (pins : PLs) (σ : L2.St) (H : Hp) (s : Shared) (a C : Addr) (dx : Option Addr) (oe : Obj) (vs : Array Value), L2.Inv X pins σ H s -> H a = none -> NewAt X pins a -> s.heap.get? a = some oe -> oe.data = .fields vs →
 vs[1]? = some .none -> oe.cls = .ref C -> oe.dict = dx -> E (.ref C) dx H -> X.xe (.ref a) s
theorem takesD : TakesD (cxOf (CXD P w) P w K mg base N qual scope f cd A outer s H E) E := by
 intro pins σ H1 s1 a C dx oe vs I ha na hx hd h1 hc hdx hE
 show wpAny (model P w) _ (leaving _ _) _ _ s1
 unfold leaving
 refine wpAny_bind (noted1 rfl I rfl rfl rfl ha na hx hd h1 hc hdx fun s3 T' I3 nT' hT' tr' => ?_)
 exact ⟨a, C, T', dx, H1, rfl, I3.os, I3.bare, I3.base, I3.hok, na.st, nT'.st, ha, hT', tr', hE⟩
theorem Fun.okD {x : Str} {st : Stmt} {fd : FuncData} {ps : List Str} {k : Nat} {sp : Sp} (F : Fun K x qual st f fd) (S : FnScope N ps (defScope st)) (len : ∀ vs H Q E, sp vs H Q E -> vs.length = ps.length)
  (hbody : ∀ (cdv : Value) (A : Around) (outer : List Env) (s : Shared) (H : Hp) (vs : List V) (Q : VK) (E : XK), Room k (A.deeper (envOfC qual (defScope st) s.heap.objs.size f cdv)) -> sp vs H Q E →
   ∃ t, PSs (cxOf (CXD P w) P w K mg base N qual (defScope st) f cdv A outer s H E) (defBody st) t /\ t { nx := fun _ H' => Q .non H', rt := Q } (start N vs) H) : FnOk P w K mg base (CXD P w) (k + 1) f fd ps sp := by
 obtain ⟨oc, od, kV, doc, pm, an, cdv, ct, osl, rfl, lk, hcd⟩ := F.ex
 exact fn_of lk hcd S len fun A outer s H vs Q E hr hsp => hbody cdv A outer s H vs Q E hr hsp
end
section
variable {X : Cx} {k : Nat} {f C : Addr} {fd : FuncData} {ps : List Str} {sp : Sp} {bm : List Value}
def tRaiseD (C : Addr) (sp : Sp) (E : XK) (t : TA) : TS := fun _ σ H => t σ H fun vs H1 => vs.length ≤ sizeLine /\ ∀ a, H1 a = none -> sp (.ref a :: vs) (upd H1 a (exO a C none)) (fun v H2 => v = .non /\ ∃ dx, H2 a = some (exO a C dx) /\ E (.ref C) dx (del H2 a)) E0
theorem ps_raiseD {x : Str} {p cpos pos : Pos} {e : Expr} {es : List Expr} {t : TA} {E : XK} (M : XC X.K C f bm) (hbase : bm.contains (.type "BaseException") = true) (hex : X.ex = []) (tk : TakesD X E) (F : FnOk X.prog X.w X.K X.mg X.base CX0 k f fd ps sp) (hr : Room (k + 1) X.A) (hb : Binds X.K fd ps [])
  (hg : Gl X x) (hm : X.mg x = some (.ref C)) (ha : PA X (e :: es) t) (hdb : (x == ("__debug__" : Str)) = false := by decide) (he : starEach (e :: es) X.env = (false, eval e X.env) :: starEach es X.env := by rfl) (hpl : (backTo cpos (starEach es X.env)).any (·.1) = false := by rfl) :
  PS X (.Raise (some (.Call (.Name x p) (e :: es) [] cpos)) none pos) (tRaiseD C sp E t) := by
 intro pins s σ H D I h
 obtain ⟨nm, q, N, bs, hdct, sn, sub, ab, col, dd, k0, k1, k2, k3, k5, lk⟩ := M.ob
 rw [arm_exec_Raise]
 refine wpAny_bind (wpAny_standAt (raise_own (C := C) (bm := bm) (nm := nm) (q := q) (N := N) (bs := bs) (hdct := hdct) (sn := sn) (sub := sub) (ab := ab) (col := col) (dd := dd) (k0 := k0) (k1 := k1) (k2 := k2) (k3 := k3) (k5 := k5) (newId := "ValueError.__new__") hbase hr.hd ?_))
 refine wpAny_bind (wpAny_mono (Q := fun v s' => ∃ a H', v = .ref a /\ NewAt X pins a /\ L2.Inv X pins σ H' s' /\ ∃ dx, H' a = some (exO a C dx) /\ E (.ref C) dx (del H' a)) ?_ (fun v s1 h1 => wpAny_bind (wpAny_standAt (wpAny_pure ?_))) fun _ _ y => y)
 ·refine wpAny_Call_Name_kw (ld_glob I hg hm ?_ hdb)
  refine PySem.W.callWith_K (h₀ := X.base) I.ok.mod.kin M.kp (thn (ha cpos pins s σ H _ I h) fun us s1 ⟨vs, H1, I1, r, hz, q⟩ => ⟨I1.kIn, ?_⟩) he hpl
  exact run_exc M hex F hr hb I1 (us := [] ++ us) r (by rw [List.nil_append, ← r.length]; exact hz) q
 ·obtain ⟨a, H', rfl, na, I1, dx, hx, hE⟩ := h1
  obtain ⟨tt, ho⟩ := (show L2.ObjOk X.prog X.w H' s1.heap a (exO a C dx) from I1.hok a _ hx).1
  exact ⟨a, tt, dx, rfl, I1.kIn _ _ lk, ho, tk pins σ (del H' a) s1 a C dx _ _ (B.Inv.forget I1 hx na.st) del_same na ho rfl rfl rfl rfl hE⟩
end
abbrev RX := Addr -> Option Addr -> Hp -> Prop
def FlyD (X : Cx) (pins : PLs) (R : RX) : VSP := fun e s => ∃ (x C T : Addr) (dx : Option Addr) (H : Hp), e = .ref x /\ L2.Inv X pins (hid X.N) H s /\ H x = none /\ NewAt X pins x /\ H T = none /\ NewAt X pins T /\ TrcD s.heap x C T dx .none /\ R C dx H
def inTryD (X : Cx) (pins : PLs) (R : RX) : Cx := { X with pn := X.pn ++ pins, xe := FlyD X pins R }
section
variable {X : Cx} {pins pins' : PLs} {σ : L2.St} {H : Hp} {s : Shared} {R : RX} {e : Addr}
theorem toTryD (I : L2.Inv X pins σ H s) : L2.Inv (inTryD X pins R) [] σ H s :=
 ⟨⟨I.ok.mod, I.ok.kind, I.ok.glob, I.ok.blt, I.ok.above, I.ok.inj, I.ok.has, I.ok.cab, I.ok.hd, I.ok.frames, I.ok.stk, I.ok.exf, I.ok.bs, I.ok.bsz, I.ok.noex, I.ok.exfs, I.ok.funs, I.ok.frf⟩, I.os, I.bare, I.base, I.loc, I.cell, I.free, I.freeC,
  fun p hp => I.pin p (by rw [List.append_nil] at hp; exact hp), I.hok, I.len⟩
theorem ofTryD (I : L2.Inv (inTryD X pins R) pins' σ H s) : L2.Inv X pins σ H s :=
 ⟨⟨I.ok.mod, I.ok.kind, I.ok.glob, I.ok.blt, I.ok.above, I.ok.inj, I.ok.has, I.ok.cab, I.ok.hd, I.ok.frames, I.ok.stk, I.ok.exf, I.ok.bs, I.ok.bsz, I.ok.noex, I.ok.exfs, I.ok.funs, I.ok.frf⟩, I.os, I.bare, I.base, I.loc, I.cell, I.free, I.freeC,
  fun p hp => I.pin p (List.mem_append_left _ hp), I.hok, I.len⟩
def EofD (R : RX) : XK := fun v dx H => ∃ C, v = .ref C /\ R C dx H
theorem passTD (hex : X.ex = []) : Passes (CXD X.prog X.w) (inTryD X pins R) (EofD R) := by
 intro pins' σ H1 s1 e s2 I hx
 obtain ⟨x, C, T, dx, H2, rfl, ho, hb, un, hok, nx, nT, hx2, hT2, tr, C', e', hr⟩ := hx
 cases e'
 have na := B.Inv.newAt I hex nx
 have nt := B.Inv.newAt I hex nT
 have I2 : L2.Inv (inTryD X pins R) pins' σ H2 s2 := I.call' ho un hok hb (fun b hb => by cases hb)
 exact ⟨x, C, T, dx, H2, rfl, hid_weak (ofTryD I2), hx2, ⟨na.st, na.lo, na.ce, fun p hp => na.pi p (List.mem_append_left _ hp), na.fr⟩, hT2, ⟨nt.st, nt.lo, nt.ce, fun p hp => nt.pi p (List.mem_append_left _ hp), nt.fr⟩, tr, hr⟩
theorem SP.ofTryD {D : Ends} {f : Flow} (h : SP (inTryD X pins R) [] D f s) : SP X pins D f s := by
 cases f with
 | next => obtain ⟨σ', H', I, q⟩ := h; exact ⟨σ', H', B.ofTryD I, q⟩
 | brk => obtain ⟨σ', H', I, q⟩ := h; exact ⟨σ', H', B.ofTryD I, q⟩
 | cont => obtain ⟨σ', H', I, q⟩ := h; exact ⟨σ', H', B.ofTryD I, q⟩
 | ret u => obtain ⟨v, σ', H', I, r, q⟩ := h; exact ⟨v, σ', H', B.ofTryD I, r, q⟩
end
def ErO (a C d : Addr) : Heap -> Prop := fun h => ∃ oe, h.get? a = some oe /\ oe.cls = .ref C /\ oe.dict = some d /\ PySem.W.notCls oe = true
def erO (a C d : Addr) : HO := .ext (ErO a C d)
def gone (i : Nat) (D : Ends) : Ends := { nx := fun σ H => D.nx (σ.set i none) H, rt := D.rt, bk := fun σ H => D.bk (σ.set i none) H, ct := fun σ H => D.ct (σ.set i none) H }
def tTryD (N : List Str) (R : RX) (Ok : Addr -> Prop) (tb th : TS) : TS := fun D σ H => tb D σ H /\ ∀ C dx H', R C dx H' -> Ok C /\ th D (hid N) H'
def tTryAs (N : List Str) (i : Nat) (R : RX) (Ok : Addr -> Prop) (tb th : TS) : TS := fun D σ H => tb D σ H /\ ∀ C dx H', R C dx H' -> Ok C /\ ∃ d, dx = some d /\ ∀ a, H' a = none -> th (gone i D) ((hid N).set i (some (.ref a))) (upd H' a (erO a C d))
section
variable {X : Cx} {R : RX} {body : List Stmt} {b₀ : Stmt} {suite : List Stmt} {x : Str} {p hpos pos : Pos} {u : Value} {tb th : TS}
theorem typ_of {M : Model} {h : Heap} {a C T : Addr} {dx : Option Addr} {fl : Value} (t : TrcD h a C T dx fl) : PySem.W.Looks M h (typeOf (.ref a)) (.ref C) := by
 obtain ⟨oe, _, _, _, q1, q2, _⟩ := t
 rw [← q2]
 exact (PySem.W.Looks.ld q1).andThen .now
theorem ps_tryD (hex : X.ex = []) (hst : X.stack = X.env :: X.outer) (hfr : X.env.frame = some X.env.locals) (hg : Gl X x) (hm : X.mg x = some u) (hb : ∀ pins, PSs (inTryD X pins R) body tb) (hs : ∀ e, PSs (inExc X e) (b₀ :: suite) th) (hd : (x == ("__debug__" : Str)) = false := by decide) :
  PS X (.Try body [.ExceptHandler (some (.Name x p)) none (b₀ :: suite) hpos] [] [] pos) (tTryD X.N R (fun C => PySem.W.exmOne X.K (.ref C) u = some true) tb th) := by
 intro pins s σ H D I ⟨h1, h2⟩
 refine wpAny_Try_except (wpAny_mono (hb pins [] s σ H D (toTryD I) h1) (fun f s1 q => ?_) fun e s1 q => ?_)
 ·have q' := SP.ofTryD q
  cases f with
  | next => exact wpAny_execs_nil q'
  | brk => exact q'
  | cont => exact q'
  | ret u => exact q'
 ·obtain ⟨a, C, T, dx, H1, rfl, I1, ha, na, hT, nT, tr, hR⟩ := q
  obtain ⟨hk, hth⟩ := h2 C dx H1 hR
  refine notedN rfl I1 hex hst hfr ha na hT nT tr fun s2 T2 I2 nT2 hT2 tr2 => ?_
  refine wpAny_handleBy_cons (codeAny_handlers_test ?_) (by intro z; cases z)
  refine ld_glob (X := inExc X a) (toExc I2) hg hm ?_ hd
  refine PySem.W.Looks.here (s := s2) (PySem.W.exm_one (M := model X.prog X.w) I2.kIn (typ_of tr2) hk) ?_
  refine codeAny_handlers_suite ?_
  refine flownN I2 hT2 nT2 tr2 fun s3 I3 tr3 => ?_
  refine wpAny_mono (hs a pins s3 (hid X.N) H1 D (toExc I3) hth) (fun f s4 q4 => SP.ofExc I.ok q4) fun _ _ z => z.elim
end
def rIsE (K : Fg) : List V -> Hp -> VK -> Prop := fun xs H Q => ∃ (a C d : Addr) (fs : List (Str × V)) (bm : List Value) (c : V) (b : Bool), xs = [.ref a, c] /\ H a = some (erO a C d) /\ H d = some (dO d fs) /\ ClsX K C bm /\ GetX K C ∧
 ((∃ n, c = .ty n /\ PySem.W.kitOne K (.ref C) (.type n) = some b) ∨ (∃ D, c = .ref D /\ PySem.W.kitOne K (.ref C) (.ref D) = some b) ∨
  ∃ (p : Addr) (cs : List Addr), c = .ref p /\ H p = some (.tup (cs.map V.ref)) /\ PySem.W.kitAny K (.ref C) (cs.map Value.ref) = some b) /\ Q (.bl b) H
def IsErr (H : Hp) (a C d : Addr) : Prop := H a = some (erO a C d) ∨ H a = some (exO a C (some d))
section
variable {X : Cx} {pins : PLs} {σ : L2.St} {H : Hp} {s : Shared} {a C d : Addr} {fs : List (Str × V)}
end
def tFldE (K : Fg) (ta : TE) (f : Str) : TE := fun σ H Q => ta σ H fun x H1 => ∃ a C d fs bm v, x = .ref a /\ IsErr H1 a C d /\ H1 d = some (dO d fs) /\ ClsX K C bm /\ GetX K C /\ NoAttr K C f /\ fs.lookup f = some v /\ Q v H1
def rIsX (K : Fg) : List V -> Hp -> VK -> Prop := fun xs H Q => ∃ (a C d : Addr) (fs : List (Str × V)) (bm : List Value) (c : V) (b : Bool), xs = [.ref a, c] /\ IsErr H a C d /\ H d = some (dO d fs) /\ ClsX K C bm /\ GetX K C ∧
 ((∃ n, c = .ty n /\ PySem.W.kitOne K (.ref C) (.type n) = some b) ∨ (∃ D, c = .ref D /\ PySem.W.kitOne K (.ref C) (.ref D) = some b) ∨
  ∃ (p : Addr) (cs : List Addr), c = .ref p /\ H p = some (.tup (cs.map V.ref)) /\ PySem.W.kitAny K (.ref C) (cs.map Value.ref) = some b) /\ Q (.bl b) H
def tMakeE (C : Addr) (sp : Sp) (t : TA) : TE := fun σ H Q => t σ H fun vs H1 => vs.length ≤ sizeLine /\ ∀ a, H1 a = none -> sp (.ref a :: vs) (upd H1 a (exO a C none)) (fun v H2 => v = .non /\ Q (.ref a) H2) E0
theorem turnedL {X : Cx} {pins : PLs} {σ : L2.St} {H : Hp} {s : Shared} {h' : Heap} {t' : Nat} {fp : List Addr} (I : Inv X pins σ H s)
  (k : ∀ b o, b ∉ fp -> s.heap.get? b = some o -> h'.get? b = some o) (hf : ∀ b ∈ fp, FpOk X pins H b) : Inv X pins σ H { s with heap := h', toks := t' } := by
 have off : ∀ b u, H b = some u -> b ∉ fp := fun b u e z => by rw [(hf b z).1] at e; cases e
 refine I.step (g' := s.gens) (d' := s.drawn) (ch := fp) (fun b hb => ?_) (fun b o _ _ hc e _ => k b o hc e) (fun b o _ _ hc e _ => ⟨o.slots, k b o hc e⟩) (fun _ _ _ _ n => n)
  (fun b o hc e => ⟨o, k b o hc e⟩) (fun _ _ e => e) (fun _ _ _ e => e) (fun b ps e => ⟨#[], by rw [e]; simp⟩) (fun m hm => ?_) (fun b u e => ?_) I.bare
 ·obtain ⟨_, f1, _, f3, f4, f5⟩ := hf b hb
  exact ⟨f3, f1, f4, f5⟩
 ·obtain ⟨o, es, ep, ho, r⟩ := hm
  exact ⟨o, es, ep, k _ o (fun z => (hf _ z).2.1 rfl) ho, r⟩
 ·refine (I.hok b u e).stay (fun c v hc q => k c v ?_ q) (fun _ q => q) fun _ _ q => q
  rcases hc with z | z
  ·rw [z]; exact off b u e
  ·exact off c _ z
section
variable {prog : Program} {w : World} {A : Around} {E : VSP} {s : Shared}
theorem nx_item {j t : Addr} {k : Nat} {ys : Array Value} {v : Value} {G : VSP} (a : s.heap.IsTupleIter j t k) (b : s.heap.IsTuple t ys) (c : ys[k]? = some v)
  (g : ∀ h', h'.IsTupleIter j t (k + 1) -> Heap.SameBut j s.heap h' -> G v { s with heap := h' }) : wpAny (model prog w) A (Builtin.SmallTypes.nextOf (.ref j)) G E s := by
 obtain ⟨o, e1, e2, e3⟩ := id a
 obtain ⟨q, f1, _, n, f2⟩ := b
 unfold Builtin.SmallTypes.nextOf
 refine wpAny_bind (wpAny_callSpecial?_slot (name := Str.ofString "__next__") a.typeIs F.slot_tuple_iterator_next
  (wpAny_call_entry F.slot_tuple_iterator_next a.typeIs F.entry_tuple_iterator_next ?_ (F.args_tuple_iterator_next_1 _)))
 show wpAny (model prog w) _ (field (.ref j) 0 >>= _) _ _ s
 refine wpAny_bind (wpAny_field e1 e3 (x := .ref t) rfl ?_)
 show wpAny (model prog w) _ (if (Value.ref t == Value.none) = true then _ else _) _ _ s
 rw [if_neg (fun z => Bool.noConfusion z : ¬ ((Value.ref t == Value.none) = true))]
 show wpAny (model prog w) _ (field (.ref j) 1 >>= _) _ _ s
 refine wpAny_bind (wpAny_field e1 e3 (x := .int k 0) rfl ?_)
 show wpAny (model prog w) _ (seqItems? (.ref t) >>= _) _ _ s
 refine wpAny_bind (wpAny_seqItems f1 f2 ?_)
 simp only [c, Int.toNat_natCast]
 refine wpAny_bind (wpAny_setField e1 e3 (by simp) (wpAny_pure ⟨v, rfl, wpAny_pure (g _ ?_ (Heap.SameBut.update ..))⟩))
 refine ⟨_, Heap.get?_update_self _ e1 (Obj.isFreed_of_fields (Obj.data_mapFields e3 _)), (Obj.cls_mapFields ..).trans e2, ?_⟩
 rw [Obj.data_mapFields e3]; simp [rawInt]
theorem nx_end {j t : Addr} {k : Nat} {ys : Array Value} {G : VSP} (hh : A.handled = none) (a : s.heap.IsTupleIter j t k) (b : s.heap.IsTuple t ys) (c : ys[k]? = none)
  (g : ∀ h' e, Heap.ExtBut j s.heap h' -> (∃ o, h'.get? e = some o /\ o.cls = .type "StopIteration") -> E (.ref e) { s with heap := h' }) : wpAny (model prog w) A (Builtin.SmallTypes.nextOf (.ref j)) G E s := by
 obtain ⟨o, e1, e2, e3⟩ := id a
 obtain ⟨q, f1, _, n, f2⟩ := b
 unfold Builtin.SmallTypes.nextOf
 refine wpAny_bind (wpAny_callSpecial?_slot (name := Str.ofString "__next__") a.typeIs F.slot_tuple_iterator_next
  (wpAny_call_entry F.slot_tuple_iterator_next a.typeIs F.entry_tuple_iterator_next ?_ (F.args_tuple_iterator_next_1 _)))
 show wpAny (model prog w) _ (field (.ref j) 0 >>= _) _ _ s
 refine wpAny_bind (wpAny_field e1 e3 (x := .ref t) rfl ?_)
 show wpAny (model prog w) _ (if (Value.ref t == Value.none) = true then _ else _) _ _ s
 rw [if_neg (fun z => Bool.noConfusion z : ¬ ((Value.ref t == Value.none) = true))]
 show wpAny (model prog w) _ (field (.ref j) 1 >>= _) _ _ s
 refine wpAny_bind (wpAny_field e1 e3 (x := .int k 0) rfl ?_)
 show wpAny (model prog w) _ (seqItems? (.ref t) >>= _) _ _ s
 refine wpAny_bind (wpAny_seqItems f1 f2 ?_)
 simp only [c, Int.toNat_natCast]
 refine wpAny_bind (wpAny_rule (wpAny_bind (wpAny_setField e1 e3 (by simp) ?_)))
 show wpAny (model prog w) _ (newExc (.type "StopIteration") [] >>= _) _ _ _
 refine wpAny_bind ?_
 simp only [newTuple, newExc]
 refine wpAny_bind (wpAny_newObj_type ?_ (by size_fits))
 refine wpAny_bind (m := firstArgMember _ _) (wpAny_of_eq (a := Value.none) (by first | rfl | (simp only [firstArgMember] <;> rfl)) ?_)
 refine wpAny_newObj_type ?_ (by size_fits)
 simp only [raiseNew]
 refine wpAny_bind (wpAny_handled ?_)
 first | rw [hh] | rw [show A.in1.handled = none from hh]
 refine wpAny_bind (wpAny_pure (wpAny_throw (g _ _ (((Heap.SameBut.update ..).extBut.push _).push _) ⟨_, Heap.get?_push_size _ rfl, rfl⟩)))
structure Five (z TI TO i1 i2 : Addr) : Prop where
 a1 : TI ≠ z
 a2 : TO ≠ z
 a3 : i1 ≠ z
 a4 : i2 ≠ z
 a5 : TI ≠ TO
 a6 : TI ≠ i1
 a7 : TI ≠ i2
 a8 : TO ≠ i1
 a9 : TO ≠ i2
 b1 : i1 ≠ i2
theorem zip_step {z TI TO i1 i2 : Addr} {x y a b : Value} {A1 A2 : Heap -> Prop} {G : VSP} (D : Five z TI TO i1 i2)
  (hz : IsZip s.heap z TI TO .none) (hI : IsPair s.heap TI (.ref i1) (.ref i2)) (hO : IsPair s.heap TO a b)
  (N1 : ∀ (s' : Shared) (G : VSP) (E : VSP), (∀ c o, c ≠ z -> s.heap.get? c = some o -> s'.heap.get? c = some o) -> (∀ h', A1 h' -> Heap.SameBut i1 s'.heap h' -> G x { s' with heap := h' }) -> wpAny (model prog w) A (Builtin.SmallTypes.nextOf (.ref i1)) G E s')
  (N2 : ∀ (s' : Shared) (G : VSP) (E : VSP), (∀ c o, c ≠ z -> c ≠ TO -> c ≠ i1 -> s.heap.get? c = some o -> s'.heap.get? c = some o) -> (∀ h', A2 h' -> Heap.SameBut i2 s'.heap h' -> G y { s' with heap := h' }) -> wpAny (model prog w) A (Builtin.SmallTypes.nextOf (.ref i2)) G E s')
  (l1 : i1 < s.heap.objs.size) (l2 : i2 < s.heap.objs.size)
  (g : ∀ h₁ h₂ h', A1 h₁ -> A2 h₂ -> (∀ c o, c ≠ z -> c ≠ TO -> c ≠ i2 -> h₁.get? c = some o -> h'.get? c = some o) -> (∀ c o, c ≠ z -> c ≠ TO -> h₂.get? c = some o -> h'.get? c = some o) →
   IsZip h' z TI TO (rawInt s.heap.objs.size) -> IsPair h' TO x y -> IsPair h' s.heap.objs.size x y -> h'.objs.size = s.heap.objs.size + 1 →
   (∀ c o, c ∉ [z, TO, i1, i2] -> s.heap.get? c = some o -> h'.get? c = some o) -> G (.ref s.heap.objs.size) { s with heap := h' }) :
  wpAny (model prog w) A (Builtin.«zip.__next__» ⟨[.ref z], []⟩) (fun fin s' => ∃ v, fin = .done (.ret v) /\ G v s') E s := by
 show wpAny (model prog w) _ (field (.ref z) 2 >>= _) _ _ _
 refine wpAny_bind (wpAny_field hz rfl (x := .bool false) rfl ?_)
 show wpAny (model prog w) _ (field (.ref z) 3 >>= _) _ _ _
 refine wpAny_bind (wpAny_field hz rfl (x := .ref TI) rfl ?_)
 refine wpAny_bind (wpAny_seqItems hI rfl ?_)
 show wpAny (model prog w) _ (Builtin.SmallTypes.ownedTupleIsFree (.ref z) >>= _) _ _ _
 refine wpAny_bind ?_
 unfold Builtin.SmallTypes.ownedTupleIsFree
 refine wpAny_bind (wpAny_field hz rfl (x := .none) rfl (wpAny_pure ?_))
 simp only [if_true]
 refine wpAny_bind (wpAny_rule ?_)
 refine wpAny_bind (wpAny_field hz rfl (x := .ref TO) rfl ?_)
 refine wpAny_bind (wpAny_setField_rec hz (by simp) fun g1 z1 s1 => ?_)
 replace z1 : IsZip g1 z TI TO .ellipsis := z1
 refine wpAny_bind ?_
 simp only [List.zipIdx_nil, List.zipIdx_cons, List.forIn_nil, List.forIn_cons]
 refine wpAny_bind (wpAny_bind (wpAny_onRaise ?_))
 show wpAny (model prog w) _ (Builtin.SmallTypes.nextOf (.ref i1) >>= _) _ _ _
 refine wpAny_bind (N1 _ _ _ (fun c o n e => s1.extBut c o n e) fun g2 q1 s2 => wpAny_pure ?_)
 have O2 : IsPair g2 TO a b := s2.extBut _ _ D.a8 (s1.extBut _ _ D.a2 hO)
 refine wpAny_bind (wpAny_seqItems O2 rfl ?_)
 refine wpAny_bind (wpAny_updateSeq_pair O2 fun g3 O3 s3 => ?_)
 replace O3 : IsPair g3 TO x b := O3
 refine wpAny_bind (wpAny_letGo (wpAny_pure ?_))
 refine wpAny_bind (wpAny_bind (wpAny_onRaise ?_))
 show wpAny (model prog w) _ (Builtin.SmallTypes.nextOf (.ref i2) >>= _) _ _ _
 refine wpAny_bind (N2 _ _ _ (fun c o n m k e => s3.extBut _ _ m (s2.extBut _ _ k (s1.extBut c o n e))) fun g4 q2 s4 => wpAny_pure ?_)
 have O4 : IsPair g4 TO x b := s4.extBut _ _ D.a9 O3
 refine wpAny_bind (wpAny_seqItems O4 rfl ?_)
 refine wpAny_bind (wpAny_updateSeq_pair O4 fun g5 O5 s5 => ?_)
 replace O5 : IsPair g5 TO x y := O5
 refine wpAny_bind (wpAny_letGo (wpAny_pure (wpAny_pure ?_)))
 refine wpAny_bind (wpAny_seqItems O5 rfl ?_)
 refine wpAny_bind (wpAny_newTuple ?_)
 have sz : g5.objs.size = s.heap.objs.size := by rw [s5.1, s4.1, s3.1, s2.1, s1.1]
 have z5 : IsZip g5 z TI TO .ellipsis := s5.extBut _ _ D.a2.symm (s4.extBut _ _ D.a4.symm (s3.extBut _ _ D.a2.symm (s2.extBut _ _ D.a3.symm z1)))
 have zl : z < g5.objs.size := Heap.lt_size z5
 show wpAny (model prog w) _ (Builtin.SmallTypes.ownedTupleHandOut (.ref z) (.ref g5.objs.size) >>= _) _ _ _
 refine wpAny_bind ?_
 unfold Builtin.SmallTypes.ownedTupleHandOut
 have z6 : IsZip (g5.push { cls := .type "tuple", data := .seq #[x, y] }) z TI TO .ellipsis := Heap.get?_push_of_some _ z5
 refine wpAny_bind (wpAny_setField_rec z6 (by simp) fun g7 z7 s7 => ?_)
 replace z7 : IsZip g7 z TI TO (rawInt g5.objs.size) := z7
 refine wpAny_setField_rec z7 (by simp) fun g8 z8 s8 => ?_
 replace z8 : IsZip g8 z TI TO (rawInt g5.objs.size) := z8
 have up : ∀ c o, c ≠ z -> g5.get? c = some o -> g8.get? c = some o := fun c o n e => s8.extBut _ _ n (s7.extBut _ _ n (Heap.get?_push_of_some _ e))
 have t8 : IsPair g8 g5.objs.size x y := s8.extBut _ _ (Nat.ne_of_gt zl) (s7.extBut _ _ (Nat.ne_of_gt zl) (Heap.get?_push_size _ rfl))
 have sz8 : g8.objs.size = g5.objs.size + 1 := by rw [s8.1, s7.1, Heap.size_push]
 rw [sz] at z8 t8 sz8
 refine wpAny_pure ⟨_, rfl, ?_⟩
 show G (.ref g5.objs.size) _
 rw [sz]
 refine g g2 g4 g8 q1 q2 (fun c o n m k e => up c o n (s5.extBut _ _ m (s4.extBut _ _ k (s3.extBut _ _ m e)))) (fun c o n m e => up c o n (s5.extBut _ _ m e)) z8 (up _ _ D.a2 O5) t8 sz8 fun c o n e => ?_
 simp only [List.mem_cons, List.not_mem_nil, or_false, not_or] at n
 exact up c o n.1 (s5.extBut _ _ n.2.1 (s4.extBut _ _ n.2.2.2 (s3.extBut _ _ n.2.1 (s2.extBut _ _ n.2.2.1 (s1.extBut _ _ n.1 e)))))
theorem zip_stop {z TI TO i1 i2 : Addr} {a b : Value} {G : Fin -> Shared -> Prop} (D : Five z TI TO i1 i2)
  (hz : IsZip s.heap z TI TO .none) (hI : IsPair s.heap TI (.ref i1) (.ref i2)) (hO : IsPair s.heap TO a b)
  (N : (∀ (s' : Shared) (G : VSP) (E : VSP), (∀ c o, c ≠ z -> s.heap.get? c = some o -> s'.heap.get? c = some o) →
    (∀ h' e, Heap.ExtBut i1 s'.heap h' -> (∃ o, h'.get? e = some o /\ o.cls = .type "StopIteration") -> E (.ref e) { s' with heap := h' }) -> wpAny (model prog w) A (Builtin.SmallTypes.nextOf (.ref i1)) G E s') ∨
   ((∃ x, ∀ (s' : Shared) (G : VSP) (E : VSP), (∀ c o, c ≠ z -> s.heap.get? c = some o -> s'.heap.get? c = some o) -> (∀ h', Heap.SameBut i1 s'.heap h' -> G x { s' with heap := h' }) -> wpAny (model prog w) A (Builtin.SmallTypes.nextOf (.ref i1)) G E s') ∧
    ∀ (s' : Shared) (G : VSP) (E : VSP), (∀ c o, c ≠ z -> c ≠ TO -> c ≠ i1 -> s.heap.get? c = some o -> s'.heap.get? c = some o) →
    (∀ h' e, Heap.ExtBut i2 s'.heap h' -> (∃ o, h'.get? e = some o /\ o.cls = .type "StopIteration") -> E (.ref e) { s' with heap := h' }) -> wpAny (model prog w) A (Builtin.SmallTypes.nextOf (.ref i2)) G E s'))
  (g : ∀ h' e, (∀ c o, c ∉ [z, TO, i1, i2] -> s.heap.get? c = some o -> h'.get? c = some o) -> (∃ o, h'.get? e = some o /\ o.cls = .type "StopIteration") -> E (.ref e) { s with heap := h' }) :
  wpAny (model prog w) A (Builtin.«zip.__next__» ⟨[.ref z], []⟩) G E s := by
 show wpAny (model prog w) _ (field (.ref z) 2 >>= _) _ _ _
 refine wpAny_bind (wpAny_field hz rfl (x := .bool false) rfl ?_)
 show wpAny (model prog w) _ (field (.ref z) 3 >>= _) _ _ _
 refine wpAny_bind (wpAny_field hz rfl (x := .ref TI) rfl ?_)
 refine wpAny_bind (wpAny_seqItems hI rfl ?_)
 show wpAny (model prog w) _ (Builtin.SmallTypes.ownedTupleIsFree (.ref z) >>= _) _ _ _
 refine wpAny_bind ?_
 unfold Builtin.SmallTypes.ownedTupleIsFree
 refine wpAny_bind (wpAny_field hz rfl (x := .none) rfl (wpAny_pure ?_))
 simp only [if_true]
 refine wpAny_bind (wpAny_rule ?_)
 refine wpAny_bind (wpAny_field hz rfl (x := .ref TO) rfl ?_)
 refine wpAny_bind (wpAny_setField_rec hz (by simp) fun g1 z1 s1 => ?_)
 replace z1 : IsZip g1 z TI TO .ellipsis := z1
 refine wpAny_bind ?_
 simp only [List.zipIdx_nil, List.zipIdx_cons, List.forIn_nil, List.forIn_cons]
 refine wpAny_bind (wpAny_bind (wpAny_onRaise ?_))
 show wpAny (model prog w) _ (Builtin.SmallTypes.nextOf (.ref i1) >>= _) _ _ _
 rcases N with N | ⟨⟨x, N⟩, N'⟩
 ·refine wpAny_bind (N _ _ _ (fun c o n e => s1.extBut c o n e) fun g2 e s2 he => ?_)
  obtain ⟨oe, he, hc⟩ := he
  have z2 : IsZip g2 z TI TO .ellipsis := s2 _ _ D.a3.symm z1
  have ne : e ≠ z := fun q => by subst q; rw [z2] at he; cases he; simp at hc
  refine wpAny_setField_rec z2 (by simp) fun g3 _ s3 => g g3 e (fun c o n q => ?_) ⟨oe, s3.extBut _ _ ne he, hc⟩
  simp only [List.mem_cons, List.not_mem_nil, or_false, not_or] at n
  exact s3.extBut _ _ n.1 (s2 _ _ n.2.2.1 (s1.extBut _ _ n.1 q))
 ·refine wpAny_bind (N _ _ _ (fun c o n e => s1.extBut c o n e) fun g2 s2 => wpAny_pure ?_)
  have O2 : IsPair g2 TO a b := s2.extBut _ _ D.a8 (s1.extBut _ _ D.a2 hO)
  refine wpAny_bind (wpAny_seqItems O2 rfl ?_)
  refine wpAny_bind (wpAny_updateSeq_pair O2 fun g3 O3 s3 => ?_)
  refine wpAny_bind (wpAny_letGo (wpAny_pure ?_))
  refine wpAny_bind (wpAny_bind (wpAny_onRaise ?_))
  show wpAny (model prog w) _ (Builtin.SmallTypes.nextOf (.ref i2) >>= _) _ _ _
  refine wpAny_bind (N' _ _ _ (fun c o n m k e => s3.extBut _ _ m (s2.extBut _ _ k (s1.extBut c o n e))) fun g4 e s4 he => ?_)
  obtain ⟨oe, he, hc⟩ := he
  have z4 : IsZip g4 z TI TO .ellipsis := s4 _ _ D.a4.symm (s3.extBut _ _ D.a2.symm (s2.extBut _ _ D.a3.symm z1))
  have ne : e ≠ z := fun q => by subst q; rw [z4] at he; cases he; simp at hc
  refine wpAny_setField_rec z4 (by simp) fun g5 _ s5 => g g5 e (fun c o n q => ?_) ⟨oe, s5.extBut _ _ ne he, hc⟩
  simp only [List.mem_cons, List.not_mem_nil, or_false, not_or] at n
  exact s5.extBut _ _ n.1 (s4 _ _ n.2.2.2 (s3.extBut _ _ n.2.1 (s2.extBut _ _ n.2.2.1 (s1.extBut _ _ n.1 q))))
end
theorem turnedN {X : Cx} {pins : PLs} {σ : L2.St} {H : Hp} {s : Shared} {h' : Heap} {t' : Nat} {fp : List Addr} {p : Addr} {v : HO} (I : Inv X pins σ H s)
  (k : ∀ b o, b ∉ fp -> s.heap.get? b = some o -> h'.get? b = some o) (hf : ∀ b ∈ fp, FpOk X pins H b) (hp : s.heap.objs.size ≤ p) (new : ObjOk X.prog X.w (upd H p v) h' p v) :
  Inv X pins σ (upd H p v) { s with heap := h', toks := t' } := by
 have off : ∀ b u, H b = some u -> b ∉ fp := fun b u e z => by rw [(hf b z).1] at e; cases e
 have hn : H p = none := I.hok.fresh hp
 have old : ∀ b u, H b = some u -> upd H p v b = some u := fun b u e => by rw [upd_ne (ne_of_none e hn)]; exact e
 refine I.step (g' := s.gens) (d' := s.drawn) (ch := fp) (fun b hb => ?_) (fun b o _ _ hc e _ => k b o hc e) (fun b o _ _ hc e _ => ⟨o.slots, k b o hc e⟩) (fun b o _ e n => ?_)
  (fun b o hc e => ⟨o, k b o hc e⟩) (fun b xs e => old b _ e) (fun b o u e => old b _ e) (fun b ps e => ⟨#[], by rw [old b _ e]; simp⟩) (fun m hm => ?_) (fun b u e => ?_) I.bare
 ·obtain ⟨_, f1, _, f3, f4, f5⟩ := hf b hb
  exact ⟨f3, f1, f4, f5⟩
 ·rw [upd_ne (Nat.ne_of_lt (Nat.lt_of_lt_of_le (Heap.lt_size e) hp))]; exact n
 ·obtain ⟨o, es, ep, ho, r⟩ := hm
  exact ⟨o, es, ep, k _ o (fun z => (hf _ z).2.1 rfl) ho, r⟩
 ·by_cases hb : b = p
  ·subst hb; rw [upd_same] at e; cases e; exact new
  ·rw [upd_ne hb] at e
   refine (I.hok b u e).stay (fun c v hc q => k c v ?_ q) (fun c q => old c _ q) fun c xs q => old c _ q
   rcases hc with z | z
   ·rw [z]; exact off b u e
   ·exact off c _ z
theorem sqT_off {X : Cx} {pins : PLs} {σ : L2.St} {H : Hp} {s : Shared} {a b : Addr} {xs : List V} (I : Inv X pins σ H s) (h : SqT X.K H a xs) (f : FpOk X pins H b) : a ≠ b := fun z => by
 subst z
 rcases h with (h | ⟨o, h⟩) | ⟨o, its, n, hk, _⟩
 ·rw [f.1] at h; cases h
 ·rw [f.1] at h; cases h
 ·have e := I.ok.mod.kin a o hk
  rcases f.2.2.2.1 with z | z
  ·exact I.ok.noex a o e z
  ·rw [(I.ok.bs a o e).1] at z; cases z
def Itz (K : Fg) (a b : Addr) : It :=
 ⟨fun i H => ∃ xs ys x y, SqT K H a xs /\ SqT K H b ys /\ xs[i]? = some x /\ ys[i]? = some y,
  fun i H v H' => ∃ p x y, H p = none /\ v = .ref p /\ H' = upd H p (.tup [x, y]) /\ (∀ xs, SqT K H a xs -> xs[i]? = some x) /\ ∀ ys, SqT K H b ys -> ys[i]? = some y,
  fun i H => ∃ xs ys, SqT K H a xs /\ SqT K H b ys /\ (xs.length ≤ i ∨ ys.length ≤ i)⟩
def ZSt (z TI TO i1 i2 a b : Addr) (i : Nat) (h : Heap) : Prop := IsZip h z TI TO .none /\ IsPair h TI (.ref i1) (.ref i2) /\ (∃ u v, IsPair h TO u v) /\ h.IsTupleIter i1 a i /\ h.IsTupleIter i2 b i
theorem tupIter_at {h h' : Heap} {i a : Addr} {n : Nat} (x : h.IsTupleIter i a n) (k : ∀ o, h.get? i = some o -> h'.get? i = some o) : h'.IsTupleIter i a n := let ⟨o, e, r⟩ := x; ⟨o, k o e, r⟩
theorem tup_at {h h' : Heap} {a : Addr} {ys : Array Value} (x : h.IsTuple a ys) (k : ∀ o, h.get? a = some o -> h'.get? a = some o) : h'.IsTuple a ys := let ⟨o, e, r⟩ := x; ⟨o, k o e, r⟩
theorem tupIter_lt {h : Heap} {i a : Addr} {n : Nat} (x : h.IsTupleIter i a n) : i < h.objs.size := let ⟨_, e, _⟩ := x; Heap.lt_size e
abbrev zA (h : Heap) (a : Addr) : Heap := h.push { cls := .type "tuple_iterator", data := .fields #[.ref a, .int 0 0] }
abbrev zB (h : Heap) (a b : Addr) : Heap := zA (zA h a) b
abbrev zC (h : Heap) (a b : Addr) : Heap := (zB h a b).push { cls := .type "tuple", data := .seq #[.ref h.objs.size, .ref (zA h a).objs.size] }
abbrev zD (h : Heap) (a b : Addr) : Heap := (zC h a b).push { cls := .type "tuple", data := .seq #[.none, .none] }
abbrev zE (h : Heap) (a b : Addr) : Heap := (zD h a b).push { cls := .type "zip", data := .fields #[.none, .bool false, .bool false, .ref (zB h a b).objs.size, .ref (zC h a b).objs.size] }
theorem five_new (n : Nat) : Five (n + 4) (n + 2) (n + 3) n (n + 1) := by constructor <;> (intro q; have : (_ : Nat) = _ := q; omega)
def iZip (K : Fg) (ta : TA) : TI := fun σ H R => ta σ H fun vs H1 => ∃ a b, vs = [.ref a, .ref b] /\ (∃ xs, SqT K H1 a xs) /\ (∃ ys, SqT K H1 b ys) /\ R (Itz K a b) H1
theorem draws_tup {prog : Program} {w : World} {A : Around} (hh : A.handled = none) (it a : Addr) (ne : a ≠ it) (items : Array Value) :
  Draws prog w A it [it, a] items.size (fun i v => items[i]? = some v) (fun i h => h.IsTupleIter it a i /\ h.IsTuple a items) where
 live := fun _ _ st => let ⟨o, ho, _⟩ := st.1; ⟨o, ho⟩
 frame := fun _ _ _ st hk => ⟨tupIter_at st.1 fun o e => hk it (by simp) o e, tup_at st.2 fun o e => hk a (by simp) o e⟩
 item := fun i s Q E hi st hQ => by
  have hx : items[i]? = some (items[i]'hi) := Array.getElem?_eq_getElem hi
  exact nx_item st.1 st.2 hx fun h' i' sb => hQ _ h' s.toks hx ⟨i', tup_at st.2 fun o e => sb.extBut _ _ ne e⟩ sb
 done := fun s Q E st hE => nx_end hh st.1 st.2 (by simp) hE
theorem enum_newT (a : Addr) (xs : Array Value) : Meets (Builtin.«enumerate.__new__» ⟨[.type "enumerate", .ref a], []⟩) (fun _ R s => s.heap.IsTuple a xs ∧
   R (.ok (.ret (.ref (zA s.heap a).objs.size))) { s with heap := (zA s.heap a).push { cls := .type "enumerate", data := .fields #[.none, .bool false, .ref s.heap.objs.size, rawInt 0, .none, .none] } }) :=
 .of_wp fun prog w A R s h => by
  obtain ⟨hp, g, d, tk, os⟩ := s; obtain ⟨hl, h⟩ := h
  obtain ⟨⟨c, dct, dt, sl⟩, ho, hc, n, hd⟩ := id hl
  replace hc : c = .type "tuple" := hc
  replace hd : dt = .seq xs n := hd
  subst hc hd
  have hsub := sub_enumerate
  have L : Heap.IsTuple (Shared.heap ⟨hp, g, d, tk, os⟩) a xs := hl
  wp_walk using AutoSeq1.wpAny_loadPart' ho
  refine wpAny_stack_any fun st => wpAny_pure ?_
  split
  ·rename_i c _ _ _ _ _
   cases (c == Value.type "enumerate")
   ·wp_walk using AutoSeq1.wpAny_loadPart' ho, wpAny_pyIter_tuple L
    exact ⟨_, rfl, h⟩
   ·wp_walk using AutoSeq1.wpAny_loadPart' ho, wpAny_pyIter_tuple L
    exact ⟨_, rfl, h⟩
  ·wp_walk using AutoSeq1.wpAny_loadPart' ho, wpAny_pyIter_tuple L
   exact ⟨_, rfl, h⟩
theorem call_enumT {prog : Program} {w : World} {A : Around} {E : VSP} {s : Shared} {a : Addr} {items : Array Value} {Q : VSP} (hL : s.heap.IsTuple a items)
  (h : ∀ h', IsEnum h' (s.heap.objs.size + 1) s.heap.objs.size 0 .none -> h'.IsTupleIter s.heap.objs.size a 0 -> h'.objs.size = s.heap.objs.size + 2 →
   (∀ b o, s.heap.get? b = some o -> h'.get? b = some o) -> Q (.ref (s.heap.objs.size + 1)) { s with heap := h' }) :
  wpAny (model prog w) A (call (.type "enumerate") [.ref a]) Q E s := by
 refine callType_new F.called_enumerate (by decide) (F.typeCall_enumerate_1 _) (F.newCall_enumerate_1 _) (fun obj => F.args_object_init_2 obj _) F.entry_enumerate_new
  (enum_newT a items) ⟨hL, ?_⟩
 have hz : (zA s.heap a).objs.size = s.heap.objs.size + 1 := Heap.size_push ..
 show _ /\ _
 rw [hz]
 have he : IsEnum ((zA s.heap a).push { cls := .type "enumerate", data := .fields #[.none, .bool false, .ref s.heap.objs.size, rawInt 0, .none, .none] }) (s.heap.objs.size + 1) s.heap.objs.size 0 .none := by
  have := Heap.get?_push_size (zA s.heap a) (o := { cls := .type "enumerate", data := .fields #[.none, .bool false, .ref s.heap.objs.size, rawInt 0, .none, .none] }) rfl
  rw [hz] at this; exact this
 refine ⟨⟨_, he, rfl⟩, h _ he ⟨_, Heap.get?_push_of_some _ (Heap.get?_push_size _ rfl), rfl, rfl⟩ (by rw [Heap.size_push, hz]) fun b o x => Heap.get?_push_of_some _ (Heap.get?_push_of_some _ x)⟩
theorem sqL_off {X : Cx} {pins : PLs} {σ : L2.St} {H : Hp} {s : Shared} {a b : Addr} {xs : List V} (I : Inv X pins σ H s) (h : SqL X.K H a xs) (f : FpOk X pins H b) : a ≠ b := fun z => by
 subst z
 rcases h with (h | ⟨o, h⟩) | ⟨o, its, n, hk, _⟩
 ·rw [f.1] at h; cases h
 ·rw [f.1] at h; cases h
 ·have e := I.ok.mod.kin a o hk
  rcases f.2.2.2.1 with z | z
  ·exact I.ok.noex a o e z
  ·rw [(I.ok.bs a o e).1] at z; cases z
theorem lstIter_at {h h' : Heap} {i a : Addr} {n : Nat} (x : h.IsListIter i a n) (k : ∀ o, h.get? i = some o -> h'.get? i = some o) : h'.IsListIter i a n := x.at k
def IteT (K : Fg) (a : Addr) : It :=
 ⟨fun i H => ∃ xs x, SqT K H a xs /\ xs[i]? = some x,
  fun i H v H' => ∃ p x, H p = none /\ v = .ref p /\ H' = upd H p (.tup [.int i, x]) /\ ∀ xs, SqT K H a xs -> xs[i]? = some x,
  fun i H => ∃ xs, SqT K H a xs /\ xs.length ≤ i⟩
theorem turn_enT {P : Program} {w : World} {K : Fg} {elts : List Expr} {x1} {pos : Pos} {e it a : Addr} (hei : e ≠ it) :
  Turn P w K (.Tuple elts x1 pos) (IteT K a) [e, it] e (fun i h => (∃ old, IsEnum h e it (i : Nat) old) /\ h.IsTupleIter it a i) where
 mem := by simp
 obj := fun i h st c hc => by
  obtain ⟨⟨old, h1⟩, ⟨o2, h2, c2, d2⟩⟩ := st
  simp only [List.mem_cons, List.not_mem_nil, or_false] at hc
  rcases hc with rfl | rfl
  ·exact ⟨_, h1, fun v q => by cases (show Data.fields _ = Data.cell v from q)⟩
  ·exact ⟨o2, h2, fun v q => by rw [d2] at q; cases q⟩
 keep := fun i h h' st k => by
  obtain ⟨⟨old, h1⟩, h2⟩ := st
  exact ⟨⟨old, k e (by simp) _ h1⟩, tupIter_at h2 fun o q => k it (by simp) o q⟩
 item := by
  intro X hP hw hK hc i pins s σ H E I hf st hg
  subst hP hw hK
  obtain ⟨xs, x, q1, hx⟩ := hg
  obtain ⟨its, rv, p1, z1⟩ := I.tuple q1
  obtain ⟨u, hu, ru⟩ := rv.get hx
  have off : ∀ c ∈ [e, it], a ≠ c := fun c hc => sqT_off I q1 (hf c hc)
  obtain ⟨⟨old, h1⟩, h2⟩ := st
  have hh : X.A.in1.handled = none := I.ok.hd hc
  have na : a ≠ it := off it (by simp)
  have ne : e ∉ [it, a] := fun q => by
   simp only [List.mem_cons, List.not_mem_nil, or_false] at q
   rcases q with q | q
   ·exact hei q
   ·exact off e (by simp) q.symm
  have hi : i < its.toArray.size := by have := (List.getElem?_eq_some_iff.mp hu).1; simpa using this
  have el : e < s.heap.objs.size := Heap.lt_size h1
  have il : it < s.heap.objs.size := by obtain ⟨o2, q2, _⟩ := h2; exact Heap.lt_size q2
  refine wpAny_pyNext_enum_itemD (draws_tup hh it a na its.toArray) h1 ⟨h2, p1⟩ hi hei ne fun v h' tk hv eo st' tup hz hk => ⟨_, rfl, wpAny_letOwnedTupleGo_enum eo fun h'' e2 sb => ?_⟩
  have ev : v = u := by
   have : its.toArray[i]? = some u := by simpa using hu
   rw [this] at hv
   exact (Option.some.inj hv).symm
  subst ev
  have nt : s.heap.objs.size ≠ e := Nat.ne_of_gt el
  have ni : s.heap.objs.size ≠ it := Nat.ne_of_gt il
  have P : ObjOk X.prog X.w (upd H s.heap.objs.size (.tup [.int i, x])) h'' s.heap.objs.size (.tup [.int i, x]) :=
   ⟨by show 2 ≤ sizeLine; decide, [.int i tk, v], .cons ⟨_, rfl⟩ (.cons ru .nil), ⟨_, sb.extBut _ _ nt tup, rfl, _, rfl⟩⟩
  have I2 : Inv X pins σ (upd H s.heap.objs.size (.tup [.int i, x])) { s with heap := h'', toks := tk + 1 } := turnedN I (fun c o' n q => by
   have n1 : c ≠ e := fun r => n (by simp [r])
   have n2 : c ≠ it := fun r => n (by simp [r])
   exact sb.extBut _ _ n1 (hk c o' n1 n2 q)) hf (Nat.le_refl _) P
  refine ⟨.ref s.heap.objs.size, _, I2, rfl, ⟨_, x, I.fresh, rfl, rfl, fun ys hy => by rw [I.tuple_inj hy q1]; exact hx⟩, ⟨⟨_, by simpa using e2⟩, tupIter_at st'.1 fun o q => sb.extBut _ _ hei.symm q⟩, fun c hc => ?_⟩
  have lt : c < s.heap.objs.size := by
   simp only [List.mem_cons, List.not_mem_nil, or_false] at hc
   rcases hc with rfl | rfl
   ·exact el
   ·exact il
  rw [upd_ne (Nat.ne_of_lt lt)]
  exact (hf c hc).1
 done := by
  intro X hP hw hK hc i pins s σ H E I hf st hg
  subst hP hw hK
  obtain ⟨xs, q1, hx⟩ := hg
  obtain ⟨its, rv, p1, z1⟩ := I.tuple q1
  have off : ∀ c ∈ [e, it], a ≠ c := fun c hc => sqT_off I q1 (hf c hc)
  obtain ⟨⟨old, h1⟩, h2⟩ := st
  have hh : X.A.in1.handled = none := I.ok.hd hc
  have hl := rv.length
  have nn : its.toArray[i]? = none := by rw [Array.getElem?_eq_none_iff]; simp; omega
  have hT : s.TypeIs (.ref e) "enumerate" := ⟨_, h1, rfl⟩
  unfold pyNext
  refine wpAny_bind (wpAny_attempt (wpAny_callSpecial?_slot (name := Str.ofString "__next__") hT F.slot_enumerate_next
   (wpAny_call_entry F.slot_enumerate_next hT F.entry_enumerate_next ?_ (F.args_enumerate_next_1 _))))
  show wpAny _ _ (field (.ref e) 2 >>= _) _ _ _
  refine wpAny_bind (wpAny_field h1 rfl (x := .ref it) rfl ?_)
  refine wpAny_bind (nx_end hh h2 p1 nn fun h' x he' hx' => ?_)
  obtain ⟨o, ho, hcl⟩ := hx'
  refine wpAny_bind (wpAny_isInstance (T := "StopIteration") (b := true) ⟨o, ho, hcl⟩ isSubtype_stop ?_)
  refine wpAny_pure ⟨rfl, ?_⟩
  exact turnedL (t' := s.toks) I (fun c o' n q => he' c o' (fun r => n (by simp [r])) q) hf
 self := fun A i s Q E st h => by
  obtain ⟨⟨old, h1⟩, _⟩ := st
  exact wpAny_pyIter_enum h1 h
def iEnT (K : Fg) (ta : TA) : TI := fun σ H R => ta σ H fun vs H1 => ∃ a, vs = [.ref a] /\ (∃ xs, SqT K H1 a xs) /\ R (IteT K a) H1
theorem pi_enum {X : Cx} {elts : List Expr} {x1} {tp p pos : Pos} {a : Expr} {ta : TA} (hg : Gl X "enumerate") (hm : X.mg "enumerate" = none) (ha : PA X [a] ta) (hs : starEach [a] X.env = [(false, eval a X.env)] := by rfl) :
  PI X (.Tuple elts x1 tp) (.Call (.Name "enumerate" p) [a] [] pos) (iEnT X.K ta) := by
 intro pins s σ H R I h
 refine Call_ (ld_blt I hg hm (show bootBuiltins "enumerate" = some (.type "enumerate") by kernel_rfl) (PyProof.Rows.callWith_type1 (thn (ha pos pins s σ H _ I h) fun us s1 ⟨vs, H1, I1, r1, q1⟩ => ?_) hs rfl))
 obtain ⟨a, e, ⟨xs, hx⟩, q⟩ := q1
 subst e
 obtain ⟨u, rfl, ru⟩ := r1.one
 cases ru
 obtain ⟨its, _, p1, _⟩ := I1.tuple hx
 refine call_enumT p1 fun h' he hi sz kk => wpAny_pyIter_enum he ?_
 have I2 : Inv X pins σ H1 { s1 with heap := h' } := I1.kept (t' := s1.toks) kk
 refine ⟨_, [s1.heap.objs.size + 1, s1.heap.objs.size], _, _, H1, rfl, I2, turn_enT (a := a) (Nat.succ_ne_self _), ⟨⟨_, he⟩, hi⟩, fun c hc => ?_, q⟩
 have le : s1.heap.objs.size ≤ c := by
  simp only [List.mem_cons, List.not_mem_nil, or_false] at hc
  rcases hc with h | h
  ·rw [h]; exact Nat.le_succ _
  ·rw [h]; exact Nat.le_refl _
 exact I1.fpOk le (I1.hok.fresh le)
theorem for_enum {K : Fg} {a : Addr} {xs : List V} {g : TG} {tb : TS} {D : Ends} {σ : L2.St} {H : Hp} (Pv : Nat -> L2.St -> Hp -> Prop) (h0 : Pv 0 σ H)
  (hl : ∀ i σ H, i ≤ xs.length -> Pv i σ H -> SqT K H a xs)
  (hs : ∀ i x p σ H, xs[i]? = some x -> Pv i σ H -> H p = none -> g (.ref p) σ (upd H p (.tup [.int i, x])) fun σ2 H2 => tb { D with nx := Pv (i + 1), ct := Pv (i + 1), bk := D.nx } σ2 H2) (hd : ∀ σ H, Pv xs.length σ H -> D.nx σ H) :
  ∃ W : Nat -> Nat -> L2.St -> Hp -> Prop, (∃ m, W 0 m σ H) /\ ∀ i m σ H, W i m σ H →
   ((IteT K a).stop i H /\ D.nx σ H) ∨ ((IteT K a).go i H /\ ∃ N : L2.St -> Hp -> Prop, (∀ σ' H', N σ' H' -> ∃ m', m' < m /\ W (i + 1) m' σ' H') /\ ∀ x H', (IteT K a).yld i H x H' -> g x σ H' fun σ2 H2 => tb { D with nx := N, ct := N, bk := D.nx } σ2 H2) := by
 refine ⟨fun i m σ H => m = xs.length - i /\ i ≤ xs.length /\ Pv i σ H, ⟨_, rfl, Nat.zero_le _, h0⟩, ?_⟩
 rintro i m σ H ⟨rfl, hi, p⟩
 have q := hl i σ H hi p
 by_cases hlt : i < xs.length
 ·refine .inr ⟨⟨xs, _, q, List.getElem?_eq_getElem hlt⟩, Pv (i + 1), fun σ' H' p' => ⟨xs.length - (i + 1), by omega, rfl, hlt, p'⟩, fun x H' y => ?_⟩
  obtain ⟨pp, v, hp, rfl, rfl, hv⟩ := y
  exact hs i v pp σ _ (hv xs q) p hp
 ·have e : i = xs.length := by omega
  subst e
  exact .inl ⟨⟨xs, q, Nat.le_refl _⟩, hd σ H p⟩
def IteL (K : Fg) (a : Addr) : It :=
 ⟨fun i H => ∃ xs x, SqL K H a xs /\ xs[i]? = some x,
  fun i H v H' => ∃ p x, H p = none /\ v = .ref p /\ H' = upd H p (.tup [.int i, x]) /\ ∀ xs, SqL K H a xs -> xs[i]? = some x,
  fun i H => ∃ xs, SqL K H a xs /\ xs.length ≤ i⟩
theorem turn_enL {P : Program} {w : World} {K : Fg} {elts : List Expr} {x1} {pos : Pos} {e it a : Addr} (hei : e ≠ it) :
  Turn P w K (.Tuple elts x1 pos) (IteL K a) [e, it] e (fun i h => (∃ old, IsEnum h e it (i : Nat) old) /\ h.IsListIter it a i) where
 mem := by simp
 obj := fun i h st c hc => by
  obtain ⟨⟨old, h1⟩, ⟨o2, h2, c2, d2⟩⟩ := st
  simp only [List.mem_cons, List.not_mem_nil, or_false] at hc
  rcases hc with rfl | rfl
  ·exact ⟨_, h1, fun v q => by cases (show Data.fields _ = Data.cell v from q)⟩
  ·exact ⟨o2, h2, fun v q => by rw [d2] at q; cases q⟩
 keep := fun i h h' st k => by
  obtain ⟨⟨old, h1⟩, h2⟩ := st
  exact ⟨⟨old, k e (by simp) _ h1⟩, lstIter_at h2 fun o q => k it (by simp) o q⟩
 item := by
  intro X hP hw hK hc i pins s σ H E I hf st hg
  subst hP hw hK
  obtain ⟨xs, x, q1, hx⟩ := hg
  obtain ⟨its, rv, p1, z1⟩ := I.list q1
  obtain ⟨u, hu, ru⟩ := rv.get hx
  have off : ∀ c ∈ [e, it], a ≠ c := fun c hc => sqL_off I q1 (hf c hc)
  obtain ⟨⟨old, h1⟩, h2⟩ := st
  have hh : X.A.in1.handled = none := I.ok.hd hc
  have na : a ≠ it := off it (by simp)
  have ne : e ∉ [it, a] := fun q => by
   simp only [List.mem_cons, List.not_mem_nil, or_false] at q
   rcases q with q | q
   ·exact hei q
   ·exact off e (by simp) q.symm
  have hi : i < its.toArray.size := by have := (List.getElem?_eq_some_iff.mp hu).1; simpa using this
  have el : e < s.heap.objs.size := Heap.lt_size h1
  have il : it < s.heap.objs.size := by obtain ⟨o2, q2, _⟩ := h2; exact Heap.lt_size q2
  refine wpAny_pyNext_enum_itemD (Draws.list hh it a na its.toArray) h1 ⟨h2, p1.isList⟩ hi hei ne fun v h' tk hv eo st' tup hz hk => ⟨_, rfl, wpAny_letOwnedTupleGo_enum eo fun h'' e2 sb => ?_⟩
  have ev : v = u := by
   have : its.toArray[i]? = some u := by simpa using hu
   rw [this] at hv
   exact (Option.some.inj hv).symm
  subst ev
  have nt : s.heap.objs.size ≠ e := Nat.ne_of_gt el
  have ni : s.heap.objs.size ≠ it := Nat.ne_of_gt il
  have P : ObjOk X.prog X.w (upd H s.heap.objs.size (.tup [.int i, x])) h'' s.heap.objs.size (.tup [.int i, x]) :=
   ⟨by show 2 ≤ sizeLine; decide, [.int i tk, v], .cons ⟨_, rfl⟩ (.cons ru .nil), ⟨_, sb.extBut _ _ nt tup, rfl, _, rfl⟩⟩
  have I2 : Inv X pins σ (upd H s.heap.objs.size (.tup [.int i, x])) { s with heap := h'', toks := tk + 1 } := turnedN I (fun c o' n q => by
   have n1 : c ≠ e := fun r => n (by simp [r])
   have n2 : c ≠ it := fun r => n (by simp [r])
   exact sb.extBut _ _ n1 (hk c o' n1 n2 q)) hf (Nat.le_refl _) P
  refine ⟨.ref s.heap.objs.size, _, I2, rfl, ⟨_, x, I.fresh, rfl, rfl, fun ys hy => by rw [I.list_inj hy q1]; exact hx⟩, ⟨⟨_, by simpa using e2⟩, lstIter_at st'.1 fun o q => sb.extBut _ _ hei.symm q⟩, fun c hc => ?_⟩
  have lt : c < s.heap.objs.size := by
   simp only [List.mem_cons, List.not_mem_nil, or_false] at hc
   rcases hc with rfl | rfl
   ·exact el
   ·exact il
  rw [upd_ne (Nat.ne_of_lt lt)]
  exact (hf c hc).1
 done := by
  intro X hP hw hK hc i pins s σ H E I hf st hg
  subst hP hw hK
  obtain ⟨xs, q1, hx⟩ := hg
  obtain ⟨its, rv, p1, z1⟩ := I.list q1
  have off : ∀ c ∈ [e, it], a ≠ c := fun c hc => sqL_off I q1 (hf c hc)
  obtain ⟨⟨old, h1⟩, h2⟩ := st
  have hh : X.A.in1.handled = none := I.ok.hd hc
  have hl := rv.length
  have nn : its.toArray[i]? = none := by rw [Array.getElem?_eq_none_iff]; simp; omega
  have hT : s.TypeIs (.ref e) "enumerate" := ⟨_, h1, rfl⟩
  unfold pyNext
  refine wpAny_bind (wpAny_attempt (wpAny_callSpecial?_slot (name := Str.ofString "__next__") hT F.slot_enumerate_next
   (wpAny_call_entry F.slot_enumerate_next hT F.entry_enumerate_next ?_ (F.args_enumerate_next_1 _))))
  show wpAny _ _ (field (.ref e) 2 >>= _) _ _ _
  refine wpAny_bind (wpAny_field h1 rfl (x := .ref it) rfl ?_)
  refine wpAny_bind (wpAny_nextOf_list_end hh h2 p1.isList nn fun h' x he' hx' => ?_)
  obtain ⟨o, ho, hcl⟩ := hx'
  refine wpAny_bind (wpAny_isInstance (T := "StopIteration") (b := true) ⟨o, ho, hcl⟩ isSubtype_stop ?_)
  refine wpAny_pure ⟨rfl, ?_⟩
  exact turnedL (t' := s.toks) I (fun c o' n q => he' c o' (fun r => n (by simp [r])) q) hf
 self := fun A i s Q E st h => by
  obtain ⟨⟨old, h1⟩, _⟩ := st
  exact wpAny_pyIter_enum h1 h
def iEnL (K : Fg) (ta : TA) : TI := fun σ H R => ta σ H fun vs H1 => ∃ a, vs = [.ref a] /\ (∃ xs, SqL K H1 a xs) /\ R (IteL K a) H1
theorem pi_enumL {X : Cx} {elts : List Expr} {x1} {tp p pos : Pos} {a : Expr} {ta : TA} (hg : Gl X "enumerate") (hm : X.mg "enumerate" = none) (ha : PA X [a] ta) (hs : starEach [a] X.env = [(false, eval a X.env)] := by rfl) :
  PI X (.Tuple elts x1 tp) (.Call (.Name "enumerate" p) [a] [] pos) (iEnL X.K ta) := by
 intro pins s σ H R I h
 refine Call_ (ld_blt I hg hm (show bootBuiltins "enumerate" = some (.type "enumerate") by kernel_rfl) (PyProof.Rows.callWith_type1 (thn (ha pos pins s σ H _ I h) fun us s1 ⟨vs, H1, I1, r1, q1⟩ => ?_) hs rfl))
 obtain ⟨a, e, ⟨xs, hx⟩, q⟩ := q1
 subst e
 obtain ⟨u, rfl, ru⟩ := r1.one
 cases ru
 obtain ⟨its, _, p1, _⟩ := I1.list hx
 refine call_enumerate_list p1.isList fun h' he hi sz kk => wpAny_pyIter_enum he ?_
 have I2 : Inv X pins σ H1 { s1 with heap := h' } := I1.kept (t' := s1.toks) kk
 refine ⟨_, [s1.heap.objs.size + 1, s1.heap.objs.size], _, _, H1, rfl, I2, turn_enL (a := a) (Nat.succ_ne_self _), ⟨⟨_, he⟩, hi⟩, fun c hc => ?_, q⟩
 have le : s1.heap.objs.size ≤ c := by
  simp only [List.mem_cons, List.not_mem_nil, or_false] at hc
  rcases hc with h | h
  ·rw [h]; exact Nat.le_succ _
  ·rw [h]; exact Nat.le_refl _
 exact I1.fpOk le (I1.hok.fresh le)
theorem for_enumL {K : Fg} {a : Addr} {xs : List V} {g : TG} {tb : TS} {D : Ends} {σ : L2.St} {H : Hp} (Pv : Nat -> L2.St -> Hp -> Prop) (h0 : Pv 0 σ H)
  (hl : ∀ i σ H, i ≤ xs.length -> Pv i σ H -> SqL K H a xs)
  (hs : ∀ i x p σ H, xs[i]? = some x -> Pv i σ H -> H p = none -> g (.ref p) σ (upd H p (.tup [.int i, x])) fun σ2 H2 => tb { D with nx := Pv (i + 1), ct := Pv (i + 1), bk := D.nx } σ2 H2) (hd : ∀ σ H, Pv xs.length σ H -> D.nx σ H) :
  ∃ W : Nat -> Nat -> L2.St -> Hp -> Prop, (∃ m, W 0 m σ H) /\ ∀ i m σ H, W i m σ H →
   ((IteL K a).stop i H /\ D.nx σ H) ∨ ((IteL K a).go i H /\ ∃ N : L2.St -> Hp -> Prop, (∀ σ' H', N σ' H' -> ∃ m', m' < m /\ W (i + 1) m' σ' H') /\ ∀ x H', (IteL K a).yld i H x H' -> g x σ H' fun σ2 H2 => tb { D with nx := N, ct := N, bk := D.nx } σ2 H2) := by
 refine ⟨fun i m σ H => m = xs.length - i /\ i ≤ xs.length /\ Pv i σ H, ⟨_, rfl, Nat.zero_le _, h0⟩, ?_⟩
 rintro i m σ H ⟨rfl, hi, p⟩
 have q := hl i σ H hi p
 by_cases hlt : i < xs.length
 ·refine .inr ⟨⟨xs, _, q, List.getElem?_eq_getElem hlt⟩, Pv (i + 1), fun σ' H' p' => ⟨xs.length - (i + 1), by omega, rfl, hlt, p'⟩, fun x H' y => ?_⟩
  obtain ⟨pp, v, hp, rfl, rfl, hv⟩ := y
  exact hs i v pp σ _ (hv xs q) p hp
 ·have e : i = xs.length := by omega
  subst e
  exact .inl ⟨⟨xs, q, Nat.le_refl _⟩, hd σ H p⟩
section
variable {prog : Program} {w : World} {A : Around} {E : VSP}
end
def gLst (K : Fg) (n : Nat) (t : TGs) : TG := fun v σ H Q => ∃ a xs, v = .ref a /\ SqL K H a xs /\ xs.length = n /\ t xs σ H Q
section
variable {prog : Program} {w : World} {A : Around} {E : VSP} {s : Shared}
open HT in
theorem tuple_whole {t sl : Addr} {items : Array Value} {vl vu : Value} {lo hi : Option Int} {Q : VSP} (ht : IsTup s.heap t items) (hs : s.heap.IsSliceOf sl vl vu .none) (pl : IsPart vl lo) (pu : IsPart vu hi)
  (h1 : sIx items.size 0 lo = 0) (h2 : sIx items.size items.size hi = items.size) (h : Q (.ref t) s) : wpAny (model prog w) A (getItem (.ref t) (.ref sl)) Q E s := by
 obtain ⟨os, hos, hcs, hds⟩ := id hs
 have hTs : s.TypeIs (.ref sl) "slice" := ⟨os, hos, hcs⟩
 unfold getItem
 try with_reducible refine wpAny_holding ?_
 first | refine wpAny_bind (wpAny_pure ?_) | skip
 refine wpAny_bind (wpAny_sequenceKey ht.typeIs (by decide) ?_)
 refine wpAny_bind (wpAny_callSpecial?_slot (name := Str.ofString "__getitem__") ht.typeIs PyProof.Rows.slot_tuple_getitem
  (wpAny_call_entry PyProof.Rows.slot_tuple_getitem ht.typeIs entry_tuple_getitem ?_ (args_tuple_getitem _ _)))
 show wpAny _ _ (Builtin.Tuple.tupleItemsOf (.ref t) >>= _) _ _ s
 refine wpAny_bind (tupleItemsOf_ ht ?_)
 refine wpAny_bind (wpAny_typeOf hTs ?_)
 rw [if_pos (by decide)]
 refine wpAny_bind (sliceApplied_gen hs pl pu ?_)
 have hyes : ((((sIx items.size 0 lo : Nat) : Int) == 0 && (1 : Int) == 1 && (sIx items.size items.size hi - sIx items.size 0 lo) == items.size) = true) := by
  rw [h1, h2]; simp
 show wpAny _ _ (if (((sIx items.size 0 lo : Nat) : Int) == 0 && (1 : Int) == 1 && (sIx items.size items.size hi - sIx items.size 0 lo) == items.size) = true then _ else _) _ _ s
 rw [if_pos hyes]
 refine wpAny_bind ?_
 unfold Builtin.Tuple.tupleIsExact
 refine wpAny_bind (wpAny_typeOf ht.typeIs ?_)
 refine wpAny_pure ?_
 rw [if_pos (by decide)]
 exact wpAny_bind (wpAny_rule (wpAny_pure ⟨_, rfl, wpAny_pure h⟩))
end
def rSlW (K : Fg) : V -> Option Int -> Option Int -> Hp -> VK -> Prop := fun x lo hi H Q => ∃ a xs, x = .ref a /\ SqT K H a xs /\ HT.sIx xs.length 0 lo = 0 /\ HT.sIx xs.length xs.length hi = xs.length /\ Q (.ref a) H
theorem sl_tupW {X : Cx} : SlR X (rSlW X.K) := by
 intro pins s σ H x v vl vu lo hi sl Q I rx hs pl pu h
 obtain ⟨a, xs, rfl, hx, h1, h2, q⟩ := h
 cases rx
 obtain ⟨its, r, ht, hz⟩ := I.tuple hx
 have hlen : its.toArray.size = xs.length := by rw [List.size_toArray]; exact r.length.symm
 refine ⟨"tuple", _, PyProof.Rows.slot_tuple_getitem.lookup, ht.typeIs, ?_⟩
 exact tuple_whole ht hs pl pu (by rw [hlen]; exact h1) (by rw [hlen]; exact h2) ⟨.ref a, H, I, rfl, q⟩
theorem sl_tupA {X : Cx} : SlR X (fun x lo hi H Q => rSlW X.K x lo hi H Q ∨ rSlT X.K x lo hi H Q) := SlR.or sl_tupW sl_tup
end B
namespace B
theorem mkR_eq {a b c d : Int} (hb : 0 < b) (hd : 0 < d) (e : a * d = c * b) : mkR a b = mkR c d := by
 have hr := mkR_red (a := c) hd
 have hc := mkR_cross (a := c) hd
 generalize mkR c d = m at hr hc ⊢
 refine mkR_uniq hb hr.pos hr.cop ?_
 refine Int.eq_of_mul_eq_mul_right (show d ≠ 0 by omega) ?_
 have e1 : m.1 * b * d = m.1 * d * b := by ac_rfl
 have e2 : a * m.2 * d = a * d * m.2 := by ac_rfl
 rw [e1, hc, e2, e]
 ac_rfl
structure Bq (D N : Nat) (r : R) : Prop where
 pos : 0 < r.2
 cop : Int.gcd r.1 r.2 = 1
 dvd : r.2 ∣ (D : Int)
 le : r.1.natAbs ≤ N * r.2.natAbs
theorem Bq.red {D N : Nat} {r : R} (h : Bq D N r) : Red r := ⟨h.pos, h.cop⟩
theorem bq_mk {D N : Nat} {a b : Int} (hb : 0 < b) (hd : b ∣ (D : Int)) (hl : a.natAbs ≤ N * b.natAbs) : Bq D N (mkR a b) := by
 obtain ⟨g, x, y, e0, gp, e1, e2, c⟩ := gcd_parts (a := a) hb
 have yp := pos_of hb gp e2
 have e : mkR a b = (x, y) := by
  unfold mkR
  rw [e0, show a / g = x by rw [e1]; exact Int.mul_ediv_cancel_left _ (by omega), show b / g = y by rw [e2]; exact Int.mul_ediv_cancel_left _ (by omega)]
 rw [e]
 refine ⟨yp, c, Int.dvd_trans ⟨g, by rw [e2, Int.mul_comm]⟩ hd, ?_⟩
 rw [e1, e2, Int.natAbs_mul, Int.natAbs_mul] at hl
 have gn : 0 < g.natAbs := by omega
 refine Nat.le_of_mul_le_mul_left (c := g.natAbs) ?_ gn
 show g.natAbs * x.natAbs ≤ g.natAbs * (N * y.natAbs)
 rw [Nat.mul_left_comm]
 exact hl
theorem Bq.mono {D N D' N' : Nat} {r : R} (h : Bq D N r) (hd : D ∣ D') (hn : N ≤ N') : Bq D' N' r :=
 ⟨h.pos, h.cop, Int.dvd_trans h.dvd (Int.ofNat_dvd.mpr hd), Nat.le_trans h.le (Nat.mul_le_mul_right _ hn)⟩
theorem Bq.plus {D N M : Nat} {r q : R} (hD : 0 < D) (h : Bq D N r) (k : Bq D M q) : Bq D (N + M) (plusR r q) := by
 obtain ⟨y, ey⟩ := h.dvd
 obtain ⟨v, ev⟩ := k.dvd
 have dp : (0 : Int) < (D : Int) := by omega
 have e : plusR r q = mkR (r.1 * y + q.1 * v) (D : Int) := by
  unfold plusR
  refine mkR_eq (Int.mul_pos h.pos k.pos) dp ?_
  rw [Int.add_mul, Int.add_mul]
  have a1 : r.1 * q.2 * (D : Int) = r.1 * y * (r.2 * q.2) := by rw [ey]; ac_rfl
  have a2 : q.1 * r.2 * (D : Int) = q.1 * v * (r.2 * q.2) := by rw [ev]; ac_rfl
  rw [a1, a2]
 rw [e]
 refine bq_mk dp (Int.dvd_refl _) ?_
 have b1 : (r.1 * y).natAbs ≤ N * D := by
  have : (D : Int).natAbs = r.2.natAbs * y.natAbs := by rw [ey, Int.natAbs_mul]
  rw [Int.natAbs_mul]
  have z := Nat.mul_le_mul_right y.natAbs h.le
  rw [Nat.mul_assoc, ← this] at z
  simpa using z
 have b2 : (q.1 * v).natAbs ≤ M * D := by
  have : (D : Int).natAbs = q.2.natAbs * v.natAbs := by rw [ev, Int.natAbs_mul]
  rw [Int.natAbs_mul]
  have z := Nat.mul_le_mul_right v.natAbs k.le
  rw [Nat.mul_assoc, ← this] at z
  simpa using z
 have b3 := Int.natAbs_add_le (r.1 * y) (q.1 * v)
 have b4 : (D : Int).natAbs = D := Int.natAbs_natCast D
 rw [b4, Nat.add_mul]
 omega
theorem Bq.neg {D N : Nat} {r : R} (h : Bq D N r) : Bq D N (-r.1, r.2) := ⟨h.pos, by show Int.gcd (-r.1) r.2 = 1; rw [Int.neg_gcd]; exact h.cop, h.dvd, by show (-r.1).natAbs ≤ _; rw [Int.natAbs_neg]; exact h.le⟩
theorem Bq.minus {D N M : Nat} {r q : R} (hD : 0 < D) (h : Bq D N r) (k : Bq D M q) : Bq D (N + M) (minusR r q) := by
 rw [← minus_eq]
 exact h.plus hD k.neg
theorem Bq.times {D N E M : Nat} {r q : R} (h : Bq D N r) (k : Bq E M q) : Bq (D * E) (N * M) (timesR r q) := by
 refine bq_mk (Int.mul_pos h.pos k.pos) ?_ ?_
 ·rw [Int.natCast_mul]; exact Int.mul_dvd_mul h.dvd k.dvd
 ·rw [Int.natAbs_mul, Int.natAbs_mul]
  have z := Nat.mul_le_mul h.le k.le
  calc r.1.natAbs * q.1.natAbs ≤ N * r.2.natAbs * (M * q.2.natAbs) := z
   _ = N * M * (r.2.natAbs * q.2.natAbs) := by ac_rfl
theorem mkR_pos {a b : Int} (ha : 0 < a) (hb : 0 < b) : 0 < (mkR a b).1 := Int.ediv_pos_of_pos_of_dvd ha (Int.le_of_lt (gcd_posR hb)) (Int.gcd_dvd_left a b)
theorem Bq.bot {D N : Nat} {r : R} (hD : 0 < D) (h : Bq D N r) : r.2.natAbs ≤ D := by
 have := Int.natAbs_dvd_natAbs.mpr h.dvd
 rw [Int.natAbs_natCast] at this
 exact Nat.le_of_dvd hD this
theorem Bq.wf {D N n : Nat} {r : R} (h : Bq D N r) (hD : 0 < D) (h1 : D < 2 ^ n) (h2 : N * D < 2 ^ n) : Wf n r :=
 ⟨h.pos, Nat.lt_of_le_of_lt (Nat.le_trans h.le (Nat.mul_le_mul_left _ (h.bot hD))) h2, Nat.lt_of_le_of_lt (h.bot hD) h1, h.cop⟩
theorem less_iff {r q : R} : lessR r q = true ↔ r.1 * q.2 < q.1 * r.2 := by unfold lessR; exact decide_eq_true_iff
theorem less_not {r q : R} : lessR r q = false ↔ q.1 * r.2 ≤ r.1 * q.2 := by unfold lessR; rw [decide_eq_false_iff_not, Int.not_lt]
theorem lt_le {a b c : R} (pa : 0 < a.2) (pb : 0 < b.2) (pc : 0 < c.2) (h : lessR a b = true) (k : lessR c b = false) : lessR a c = true := by
 rw [less_iff] at h ⊢
 rw [less_not] at k
 have h1 := Int.mul_lt_mul_of_pos_right h pc
 have k1 := Int.mul_le_mul_of_nonneg_right k (Int.le_of_lt pa)
 have e1 : b.1 * a.2 * c.2 = b.1 * c.2 * a.2 := by ac_rfl
 have z : a.1 * b.2 * c.2 < c.1 * b.2 * a.2 := by omega
 refine Int.lt_of_mul_lt_mul_right (a := b.2) ?_ (Int.le_of_lt pb)
 have e2 : a.1 * c.2 * b.2 = a.1 * b.2 * c.2 := by ac_rfl
 have e3 : c.1 * a.2 * b.2 = c.1 * b.2 * a.2 := by ac_rfl
 omega
theorem le_lt {a b c : R} (pa : 0 < a.2) (pb : 0 < b.2) (pc : 0 < c.2) (h : lessR b a = false) (k : lessR b c = true) : lessR a c = true := by
 rw [less_iff] at k ⊢
 rw [less_not] at h
 have h1 := Int.mul_le_mul_of_nonneg_right h (Int.le_of_lt pc)
 have k1 := Int.mul_lt_mul_of_pos_right k pa
 have e1 : b.1 * a.2 * c.2 = b.1 * c.2 * a.2 := by ac_rfl
 refine Int.lt_of_mul_lt_mul_right (a := b.2) ?_ (Int.le_of_lt pb)
 have e2 : a.1 * c.2 * b.2 = a.1 * b.2 * c.2 := by ac_rfl
 have e3 : c.1 * a.2 * b.2 = c.1 * b.2 * a.2 := by ac_rfl
 omega
theorem less_asym {a b : R} (h : lessR a b = true) : lessR b a = false := by
 rw [less_iff] at h
 rw [less_not]
 omega
theorem less_plus {r q : R} (hr : Red r) (hq : Red q) (h : 0 < q.1) : lessR r (plusR r q) = true := by
 rw [less_iff]
 have bp := Int.mul_pos hr.pos hq.pos
 have c := mkR_cross (a := r.1 * q.2 + q.1 * r.2) bp
 have p := (mkR_red (a := r.1 * q.2 + q.1 * r.2) bp).pos
 show r.1 * (mkR (r.1 * q.2 + q.1 * r.2) (r.2 * q.2)).2 < (mkR (r.1 * q.2 + q.1 * r.2) (r.2 * q.2)).1 * r.2
 generalize mkR (r.1 * q.2 + q.1 * r.2) (r.2 * q.2) = z at c p ⊢
 refine Int.lt_of_mul_lt_mul_right (a := r.2 * q.2) ?_ (Int.le_of_lt bp)
 have e1 : z.1 * r.2 * (r.2 * q.2) = z.1 * (r.2 * q.2) * r.2 := by ac_rfl
 rw [e1, c, Int.add_mul, Int.add_mul]
 have e2 : r.1 * q.2 * z.2 * r.2 = r.1 * z.2 * (r.2 * q.2) := by ac_rfl
 have e3 := Int.mul_pos (Int.mul_pos (Int.mul_pos h hr.pos) p) hr.pos
 omega
theorem mkR_nn {a b : Int} (ha : 0 ≤ a) : 0 ≤ (mkR a b).1 := Int.ediv_nonneg ha (by omega)
theorem minus_ne {r q : R} (hr : Red r) (hq : Red q) (h : lessR q r = true) : (minusR r q).1 ≠ 0 := fun z => by
 have bp := Int.mul_pos hr.pos hq.pos
 have c := mkR_cross (a := r.1 * q.2 - q.1 * r.2) bp
 have p := (mkR_red (a := r.1 * q.2 - q.1 * r.2) bp).pos
 rw [show (mkR (r.1 * q.2 - q.1 * r.2) (r.2 * q.2)).1 = 0 from z, Int.zero_mul] at c
 rw [less_iff] at h
 have := Int.mul_pos (show 0 < r.1 * q.2 - q.1 * r.2 by omega) p
 omega
theorem nn_less {r : R} : lessR r (0, 1) = false ↔ 0 ≤ r.1 := by
 rw [less_not]
 show 0 * r.2 ≤ r.1 * 1 ↔ _
 omega
end B
namespace B
open PySem PySem.Spec L2 PyProof.Rows
inductive Rl where
 | pow (k : Int)
 | tab (rows : List (R × R))
def rowD : R × R := ((0, 1), (0, 1))
def slopeR (lo hi : R × R) : R := overR (minusR hi.2 lo.2) (minusR hi.1 lo.1)
def slp (rows : List (R × R)) (k : Nat) : R := slopeR (rows.getD k rowD) (rows.getD (k + 1) rowD)
def pOf (rows : List (R × R)) (s : R) : Nat := rows.countP fun r => lessR r.1 s
def qOf (rows : List (R × R)) (s : R) : Nat := rows.countP fun r => !lessR s r.1
def leftT (rows : List (R × R)) (s : R) : R := if pOf rows s = 0 then (0, 1) else slp rows (pOf rows s - 1)
def rightT (rows : List (R × R)) (s : R) : Option R := if qOf rows s < rows.length then some (slp rows (qOf rows s - 1)) else none
def powS (k : Int) (s : R) : R := timesR (k, 1) (powR s (k - 1).toNat)
def sidesOf : Rl -> R -> R × Option R
 | .pow k, s => (powS k s, some (powS k s))
 | .tab rows, s => (leftT rows s, rightT rows s)
def Inc (rows : List (R × R)) : Prop := rows.Pairwise fun a b => lessR a.1 b.1 = true
def AllP (rows : List (R × R)) : Prop := ∀ r ∈ rows, 0 < r.1.2
theorem cnt_p {s : R} (hs : 0 < s.2) : ∀ {rows : List (R × R)}, Inc rows -> AllP rows -> ∀ {k : Nat} {r : R × R}, rows[k]? = some r -> lessR r.1 s = decide (k < pOf rows s)
 | [], _, _, k, r, e => by simp at e
 | x :: t, hi, hp, k, r, e => by
  have hi' := List.pairwise_cons.mp hi
  have hpt : AllP t := fun y hy => hp y (List.mem_cons_of_mem _ hy)
  unfold pOf
  cases c : lessR x.1 s with
  | true =>
   rw [List.countP_cons_of_pos (p := fun r : R × R => lessR r.1 s) c]
   cases k with
   | zero =>
    simp at e
    rw [← e, c]
    simp
   | succ k =>
    rw [cnt_p hs hi'.2 hpt (k := k) (by simpa using e)]
    unfold pOf
    simp
  | false =>
   have z : t.countP (fun r => lessR r.1 s) = 0 := by
    rw [List.countP_eq_zero]
    intro y hy
    have h1 := hi'.1 y hy
    have h2 : lessR s y.1 = true := le_lt hs (hp x List.mem_cons_self) (hpt y hy) c h1
    rw [less_asym h2]
    simp
   rw [List.countP_cons_of_neg (by rw [c]; simp), z]
   cases k with
   | zero => simp at e; rw [← e, c]; simp
   | succ k =>
    have my : r ∈ t := List.mem_of_getElem? (i := k) (by simpa using e)
    have := (List.countP_eq_zero.mp z) r my
    simp at this
    rw [this]; simp
abbrev D0 : Nat := 5822723907000000000
abbrev N0 : Nat := 1000000007
abbrev N1 : Nat := 17179869184
abbrev NR : Nat := 11000000077
abbrev N2 : Nat := 1180591620717411303424
structure RowsOk (rows : List (R × R)) : Prop where
 n2 : 2 ≤ rows.length
 n12 : rows.length ≤ 12
 inc : Inc rows
 zero : ∃ y, rows[0]? = some ((0, 1), y)
 sp : ∀ r ∈ rows, Bq D0 NR r.1
 pw : ∀ r ∈ rows, Bq (D0 * D0) N2 r.2
def RlOk : Rl -> Prop
 | .pow k => 2 ≤ k /\ k ≤ 4
 | .tab rows => RowsOk rows
structure SpOk (s : R) : Prop where
 bq : Bq (D0 * 2) N1 s
 nn : 0 ≤ s.1
def Below : Rl -> R -> Prop
 | .pow _, _ => True
 | .tab rows, s => ∃ r, rows[rows.length - 1]? = some r /\ lessR r.1 s = false
theorem dpos : 0 < D0 := by decide
theorem wfS {r : R} (h : Bq D0 NR r) : Wf 98 r := h.wf (by decide) (by decide) (by decide)
theorem wfP {r : R} (h : Bq (D0 * D0) N2 r) : Wf 197 r := h.wf (by decide) (by decide) (by decide)
theorem getD_at {rows : List (R × R)} {k : Nat} {a : R × R} (h : rows[k]? = some a) : rows.getD k rowD = a := by rw [List.getD_eq_getElem?_getD, h]; rfl
theorem slp_at {rows : List (R × R)} {k : Nat} {a b : R × R} (ha : rows[k]? = some a) (hb : rows[k + 1]? = some b) : slp rows k = slopeR a b := by unfold slp; rw [getD_at ha, getD_at hb]
def lAt (rows : List (R × R)) (s : R) (i : Nat) : R := if 0 < pOf rows s /\ pOf rows s - 1 < i then slp rows (pOf rows s - 1) else (0, 1)
def rAt (rows : List (R × R)) (s : R) (i : Nat) : Option R := if 0 < qOf rows s /\ qOf rows s - 1 < i then some (slp rows (qOf rows s - 1)) else none
def powAt (k : Int) (s : R) (j : Nat) : R := mkR (k * s.1 ^ j) (s.2 ^ j)
def bearM (l : R) (r : Option R) (g : R) : Bool := !lessR g l && (match r with | none => true | some x => !lessR x g)
end B
namespace B
def val (r : R) : Rat := (r.1 : Rat) / (r.2 : Rat)
theorem ne_cast {b : Int} (h : 0 < b) : (b : Rat) ≠ 0 := fun z => by
 have : b = 0 := Rat.intCast_inj.mp (by rw [z]; rfl)
 omega
theorem val_of {r : R} {a b : Int} (hr : 0 < r.2) (hb : (b : Rat) ≠ 0) (h : r.1 * b = a * r.2) : val r = (a : Rat) / (b : Rat) := by
 have h2 : (r.1 : Rat) * (b : Rat) = (a : Rat) * (r.2 : Rat) := by rw [← Rat.intCast_mul, ← Rat.intCast_mul, h]
 have h1 := ne_cast hr
 unfold val
 generalize (r.1 : Rat) = x at *
 generalize (r.2 : Rat) = y at *
 generalize (a : Rat) = u at *
 generalize (b : Rat) = v at *
 grind
theorem val_mk {a b : Int} (hb : 0 < b) : val (mkR a b) = (a : Rat) / (b : Rat) := val_of (mkR_red hb).pos (ne_cast hb) (mkR_cross hb)
theorem val_plus {r q : R} (hr : 0 < r.2) (hq : 0 < q.2) : val (plusR r q) = val r + val q := by
 unfold plusR
 rw [val_mk (Int.mul_pos hr hq)]
 have h1 := ne_cast hr
 have h2 := ne_cast hq
 unfold val
 rw [Rat.intCast_add, Rat.intCast_mul, Rat.intCast_mul, Rat.intCast_mul]
 generalize (r.1 : Rat) = x at *
 generalize (r.2 : Rat) = y at *
 generalize (q.1 : Rat) = u at *
 generalize (q.2 : Rat) = v at *
 grind
theorem val_minus {r q : R} (hr : 0 < r.2) (hq : 0 < q.2) : val (minusR r q) = val r - val q := by
 unfold minusR
 rw [val_mk (Int.mul_pos hr hq)]
 have h1 := ne_cast hr
 have h2 := ne_cast hq
 unfold val
 rw [Rat.intCast_sub, Rat.intCast_mul, Rat.intCast_mul, Rat.intCast_mul]
 generalize (r.1 : Rat) = x at *
 generalize (r.2 : Rat) = y at *
 generalize (q.1 : Rat) = u at *
 generalize (q.2 : Rat) = v at *
 grind
theorem val_times {r q : R} (hr : 0 < r.2) (hq : 0 < q.2) : val (timesR r q) = val r * val q := by
 unfold timesR
 rw [val_mk (Int.mul_pos hr hq)]
 have h1 := ne_cast hr
 have h2 := ne_cast hq
 unfold val
 rw [Rat.intCast_mul, Rat.intCast_mul]
 generalize (r.1 : Rat) = x at *
 generalize (r.2 : Rat) = y at *
 generalize (q.1 : Rat) = u at *
 generalize (q.2 : Rat) = v at *
 grind
theorem ne_cast0 {b : Int} (h : b ≠ 0) : (b : Rat) ≠ 0 := fun z => h (Rat.intCast_inj.mp (by rw [z]; rfl))
theorem val_over {r q : R} (hr : 0 < r.2) (hq : 0 < q.2) (h : q.1 ≠ 0) : val (overR r q) = val r / val q := by
 have hn : r.2 * q.1 ≠ 0 := Int.mul_ne_zero (by omega) h
 obtain ⟨hs, es⟩ := mkS_spec (a := r.1 * q.2) hn
 unfold overR
 rw [val_of hs.pos (ne_cast0 hn) es]
 have h1 := ne_cast hr
 have h2 := ne_cast hq
 have h3 := ne_cast0 h
 unfold val
 rw [Rat.intCast_mul, Rat.intCast_mul]
 generalize (r.1 : Rat) = x at *
 generalize (r.2 : Rat) = y at *
 generalize (q.1 : Rat) = u at *
 generalize (q.2 : Rat) = v at *
 grind
theorem val_inj {r q : R} (hr : Red r) (hq : Red q) (h : val r = val q) : r = q := by
 have h1 := ne_cast hr.pos
 have h2 := ne_cast hq.pos
 have e : r.1 * q.2 = q.1 * r.2 := by
  refine Rat.intCast_inj.mp ?_
  rw [Rat.intCast_mul, Rat.intCast_mul]
  unfold val at h
  generalize (r.1 : Rat) = x at *
  generalize (r.2 : Rat) = y at *
  generalize (q.1 : Rat) = u at *
  generalize (q.2 : Rat) = v at *
  grind
 have e1 : mkR r.1 r.2 = (r.1, r.2) := mkR_uniq hr.pos hr.pos hr.cop rfl
 have e2 : mkR r.1 r.2 = (q.1, q.2) := mkR_uniq hr.pos hq.pos hq.cop e.symm
 exact e1.symm.trans e2
theorem val_zero {r : R} (hr : 0 < r.2) : val r = 0 ↔ r.1 = 0 := by
 have h1 := ne_cast hr
 unfold val
 constructor
 ·intro h
  refine Rat.intCast_inj.mp ?_
  show (r.1 : Rat) = ((0 : Int) : Rat)
  rw [show ((0 : Int) : Rat) = 0 from rfl]
  generalize (r.1 : Rat) = x at *
  generalize (r.2 : Rat) = y at *
  grind
 ·intro h
  rw [h]
  show ((0 : Int) : Rat) / _ = 0
  rw [show ((0 : Int) : Rat) = 0 from rfl]
  generalize (r.2 : Rat) = y at *
  grind
theorem over_red {r q : R} (hr : 0 < r.2) (h : q.1 ≠ 0) : Red (overR r q) := (mkS_spec (a := r.1 * q.2) (Int.mul_ne_zero (by omega) h)).1
theorem minus_red {r q : R} (hr : 0 < r.2) (hq : 0 < q.2) : Red (minusR r q) := mkR_red (Int.mul_pos hr hq)
theorem line_end {a b : R × R} (a0 : Red a.1) (a1 : Red a.2) (b0 : Red b.1) (b1 : Red b.2) (h : (minusR b.1 a.1).1 ≠ 0) : plusR a.2 (timesR (slopeR a b) (minusR b.1 a.1)) = b.2 := by
 have m0 := minus_red b0.pos a0.pos
 have m1 := minus_red b1.pos a1.pos
 have so := over_red (r := minusR b.2 a.2) m1.pos h
 have st := times_red so m0
 refine val_inj (plus_red a1 st) b1 ?_
 unfold slopeR
 rw [val_plus a1.pos st.pos, val_times so.pos m0.pos, val_over m1.pos m0.pos h, val_minus b1.pos a1.pos]
 have hz : val (minusR b.1 a.1) ≠ 0 := fun z => h ((val_zero m0.pos).mp z)
 generalize val (minusR b.1 a.1) = d at *
 generalize val b.2 = x at *
 generalize val a.2 = y at *
 grind
end B
namespace B
def slV (rows : List (R × R)) (i : Nat) : Rat := (val (rows.getD (i + 1) rowD).2 - val (rows.getD i rowD).2) / (val (rows.getD (i + 1) rowD).1 - val (rows.getD i rowD).1)
section
variable {s p : Nat -> Rat} {n : Nat}
def sl (s p : Nat -> Rat) (i : Nat) : Rat := (p (i + 1) - p i) / (s (i + 1) - s i)
theorem sl_eq {i : Nat} (h : s i < s (i + 1)) : p (i + 1) = p i + sl s p i * (s (i + 1) - s i) := by
 unfold sl
 have : s (i + 1) - s i ≠ 0 := by grind
 grind
theorem rise {i : Nat} (hs : ∀ j, j < n -> s j < s (j + 1)) : ∀ d, i + d ≤ n -> s i ≤ s (i + d)
 | 0, _ => by simp only [Nat.add_zero]; exact Rat.le_refl
 | d + 1, h => by
  have a := rise (i := i) hs d (by omega)
  have b := hs (i + d) (by omega)
  have e : i + (d + 1) = i + d + 1 := by omega
  rw [e]
  grind
theorem slopes {i : Nat} (hc : ∀ j, j + 1 < n -> sl s p j ≤ sl s p (j + 1)) : ∀ d, i + d < n -> sl s p i ≤ sl s p (i + d)
 | 0, _ => by simp only [Nat.add_zero]; exact Rat.le_refl
 | d + 1, h => by
  have a := slopes (i := i) hc d (by omega)
  have b := hc (i + d) (by omega)
  have e : i + (d + 1) = i + d + 1 := by omega
  rw [e]
  grind
theorem up_line {i : Nat} (hs : ∀ j, j < n -> s j < s (j + 1)) (hc : ∀ j, j + 1 < n -> sl s p j ≤ sl s p (j + 1)) : ∀ d, i + d ≤ n -> i < n -> p i + sl s p i * (s (i + d) - s i) ≤ p (i + d)
 | 0, _, _ => by simp only [Nat.add_zero]; grind
 | d + 1, h, hi => by
  have a := up_line (i := i) hs hc d (by omega) hi
  have b := sl_eq (p := p) (hs (i + d) (by omega))
  have c := slopes (i := i) hc d (by omega)
  have g := hs (i + d) (by omega)
  have e : i + (d + 1) = i + d + 1 := by omega
  rw [e]
  have m : sl s p i * (s (i + d + 1) - s (i + d)) ≤ sl s p (i + d) * (s (i + d + 1) - s (i + d)) := Rat.mul_le_mul_of_nonneg_right c (by grind)
  generalize sl s p i = u at *
  generalize sl s p (i + d) = w at *
  grind
theorem down_line {i : Nat} (hs : ∀ j, j < n -> s j < s (j + 1)) (hc : ∀ j, j + 1 < n -> sl s p j ≤ sl s p (j + 1)) : ∀ d, d ≤ i -> i < n -> p i + sl s p i * (s (i - d) - s i) ≤ p (i - d)
 | 0, _, _ => by simp only [Nat.sub_zero]; grind
 | d + 1, h, hi => by
  have a := down_line (i := i) hs hc d (by omega) hi
  have e : i - d = (i - (d + 1)) + 1 := by omega
  have g := hs (i - (d + 1)) (by omega)
  have b := sl_eq (p := p) g
  have c := slopes hc (i := i - (d + 1)) (d + 1) (by omega)
  rw [show i - (d + 1) + (d + 1) = i by omega] at c
  rw [e] at a
  generalize hj : i - (d + 1) = j at *
  have m : sl s p j * (s (j + 1) - s j) ≤ sl s p i * (s (j + 1) - s j) := Rat.mul_le_mul_of_nonneg_right c (by grind)
  generalize sl s p i = u at *
  generalize sl s p j = w at *
  grind
theorem on_piece {i m : Nat} {x : Rat} (hs : ∀ j, j < n -> s j < s (j + 1)) (hc : ∀ j, j + 1 < n -> sl s p j ≤ sl s p (j + 1)) (hi : i < n) (hm : m < n) (h1 : s m ≤ x) (h2 : x ≤ s (m + 1)) :
  p i + sl s p i * (x - s i) ≤ p m + sl s p m * (x - s m) := by
 by_cases c : i ≤ m
 ·have a := up_line hs hc (i := i) (m - i) (by omega) hi
  have b := slopes hc (i := i) (m - i) (by omega)
  rw [show i + (m - i) = m by omega] at a b
  have q : sl s p i * (x - s m) ≤ sl s p m * (x - s m) := Rat.mul_le_mul_of_nonneg_right b (by grind)
  generalize sl s p i = u at *
  generalize sl s p m = w at *
  grind
 ·have a := down_line hs hc (i := i) (i - (m + 1)) (by omega) hi
  have b := slopes hc (i := m) (i - m) (by omega)
  rw [show i - (i - (m + 1)) = m + 1 by omega] at a
  rw [show m + (i - m) = i by omega] at b
  have e := sl_eq (p := p) (hs m hm)
  have q : sl s p m * (s (m + 1) - x) ≤ sl s p i * (s (m + 1) - x) := Rat.mul_le_mul_of_nonneg_right b (by grind)
  generalize sl s p i = u at *
  generalize sl s p m = w at *
  grind
end
theorem pow2_line (x s : Rat) : s * s + 2 * s * (x - s) ≤ x * x := by
 have h : 0 ≤ (x - s) * (x - s) := by
  rcases Rat.le_total (a := 0) (b := x - s) with h | h
  ·exact Rat.mul_nonneg h h
  ·have := Rat.mul_nonneg (a := -(x - s)) (b := -(x - s)) (by grind) (by grind)
   grind
 grind
theorem sq_nn (x : Rat) : 0 ≤ x * x := by
 rcases Rat.le_total (a := 0) (b := x) with h | h
 ·exact Rat.mul_nonneg h h
 ·have := Rat.mul_nonneg (a := -x) (b := -x) (by grind) (by grind)
  grind
theorem pow3_line {x s : Rat} (hx : 0 ≤ x) (hs : 0 ≤ s) : s * s * s + 3 * (s * s) * (x - s) ≤ x * x * x := by
 have h := Rat.mul_nonneg (sq_nn (x - s)) (show 0 ≤ x + 2 * s by grind)
 grind
theorem pow4_line {x s : Rat} (hx : 0 ≤ x) (hs : 0 ≤ s) : s * s * s * s + 4 * (s * s * s) * (x - s) ≤ x * x * x * x := by
 have h1 := Rat.mul_nonneg hx hs
 have h := Rat.mul_nonneg (sq_nn (x - s)) (show 0 ≤ x * x + 2 * (x * s) + 3 * (s * s) by
  have := sq_nn x
  have := sq_nn s
  grind)
 grind
end B
namespace B
open PySem PySem.Spec L2 PyProof.Rows
structure QE (X : Cx) (e : Expr) (t : TE) : Prop where
 p : PE X e t
structure QT (X : Cx) (e : Expr) (t : TT) : Prop where
 p : PT X e t
structure QW (X : Cx) (e : Expr) (t : TT) : Prop where
 p : PW X e t
structure QA (X : Cx) (es : List Expr) (t : TA) : Prop where
 p : PA X es t
structure QS (X : Cx) (st : Stmt) (t : TS) : Prop where
 p : PS X st t
structure QSs (X : Cx) (st : List Stmt) (t : TS) : Prop where
 p : PSs X st t
structure QI (X : Cx) (tg iter : Expr) (wi : TI) : Prop where
 p : PI X tg iter wi
structure QG (X : Cx) (target : Expr) (t : TG) : Prop where
 p : PG X target t
structure QGs (X : Cx) (ts : List Expr) (t : TGs) : Prop where
 p : PGs X ts t
theorem QSs.ok {X : Cx} {b : List Stmt} {t : TS} {D : Ends} {σ : L2.St} {H : Hp} (h : QSs X b t) (r : t D σ H) : ∃ t : TS, PSs X b t /\ t D σ H := ⟨t, h.p, r⟩
structure QO (X : Cx) (o : Option Expr) (t : L2.TO) : Prop where
 p : PO X o t
section
set_option autoImplicit true
set_option relaxedAutoImplicit true
theorem qv  (i : Nat) {x : Str} {pos : Pos} (hN : X.N[i]? = some x := by rfl) (hv : Vis X.env.scope x := by first | exact Or.inl rfl | exact Or.inr (Or.inl rfl) | exact Or.inr (Or.inr rfl)) (hd : (x == ("__debug__" : Str)) = false := by decide) (hcd : (x == ("__classdict__" : Str)) = false := by decide) : QE X (.Name x pos) (tVar i) := ⟨pv i hN hv hd hcd⟩
theorem qe_int  {i j pos} : QE X (.Constant (.int i) j pos) (tC (.int i)) := ⟨pe_int ⟩
theorem qe_bl  {b j pos} : QE X (.Constant (.bool b) j pos) (tC (.bl b)) := ⟨pe_bl ⟩
theorem qe_non  {j pos} : QE X (.Constant .none j pos) (tC .non) := ⟨pe_non ⟩
theorem qe_str  {x j pos} : QE X (.Constant (.str x) j pos) (tC (.str x)) := ⟨pe_str ⟩
theorem qe_glob  {x : Str} {v : V} {u : Value} {pos : Pos} (hg : Gl X x) (hm : X.mg x = some u) (r : RelV v u) (hd : (x == ("__debug__" : Str)) = false := by decide) : QE X (.Name x pos) (tC v) := ⟨pe_glob hg hm r hd⟩
theorem qe_bltn  {x : Str} {v : V} {u : Value} {pos : Pos} (hg : Gl X x) (hm : X.mg x = none) (hv : bootBuiltins x = some u) (r : RelV v u) (hn : x ≠ "__name__" := by decide) (hd : (x == ("__debug__" : Str)) = false := by decide) : QE X (.Name x pos) (tC v) := ⟨pe_bltn hg hm hv r hn hd⟩
theorem qe_un  {op : UnaryOp} {r : V -> Hp -> VK -> Prop} (ho : UnR X (unaryOp op) r) (ha : QE X a ta) : QE X (.UnaryOp op a pos) (tUn r ta) := ⟨pe_un ho ha.p⟩
theorem qe_not  (ha : QE X a ta) : QE X (.UnaryOp .Not a pos) (tNotV ta) := ⟨pe_not ha.p⟩
theorem qe_op  {op : Operator} {r : R2} (ho : OpR X (binaryOp op) r) (ha : QE X a ta) (hb : QE X b tb) : QE X (.BinOp a op b pos) (tOp r ta tb) := ⟨pe_op ho ha.p hb.p⟩
theorem qe_one  {op} {t : TE} (h : QE X a t) : QE X (.BoolOp op [a] pos) t := ⟨pe_one h.p⟩
theorem qe_and {rest : List Expr} (ha : QE X a ta) (hb : QE X (.BoolOp .And (b :: rest) pos) tb) : QE X (.BoolOp .And (a :: b :: rest) pos) (tAndV ta tb) := ⟨pe_and ha.p hb.p⟩
theorem qe_or {rest : List Expr} (ha : QE X a ta) (hb : QE X (.BoolOp .Or (b :: rest) pos) tb) : QE X (.BoolOp .Or (a :: b :: rest) pos) (tOrV ta tb) := ⟨pe_or ha.p hb.p⟩
theorem qe_cmpR  {op : CmpOp} {r : R2} (ho : OpR X (compareOp op) r) (ha : QE X a ta) (hb : QE X b tb) (hm : behindInMarks op b = false) : QE X (.Compare a [op] [b] pos) (tOp r ta tb) := ⟨pe_cmpR ho ha.p hb.p hm⟩
theorem qe_ifExp  {c : Expr} (hc : QT X c tA) (ha : QE X a ta) (hb : QE X b tb) : QE X (.IfExp c a b pos) (tIf tA ta tb) := ⟨pe_ifExp hc.p ha.p hb.p⟩
theorem qe_lst  (h : QA X es t) : QE X (.List es pos) (tLst t) := ⟨pe_lst h.p⟩
theorem qe_tup  {x1} (h : QA X es t) : QE X (.Tuple es x1 pos) (tTup t) := ⟨pe_tup h.p⟩
theorem qe_slice {lo hi : Option Expr} {r : V -> Option Int -> Option Int -> Hp -> VK -> Prop} (hr : SlR X r) (he : QE X e te) (hl : QO X lo tl) (hu : QO X hi th) : QE X (.Subscript e (.Slice lo hi none p2) pos) (tSl r te tl th) := ⟨pe_slice hr he.p hl.p hu.p⟩
theorem qo_none   : QO X none tNoPart := ⟨po_none ⟩
theorem qo_some  (h : QE X e te) : QO X (some e) (tPart te) := ⟨po_some h.p⟩
theorem qe_ix  {r : R2} (hr : IxR X r) (ha : QE X a ta) (hb : QE X b tb) (hs : PlainIx b) : QE X (.Subscript a b pos) (tOp r ta tb) := ⟨pe_ix hr ha.p hb.p hs⟩
theorem qe_call  (F : FnOk X.prog X.w X.K X.mg X.base CX k f fd ps sp) (hr : Room k X.A) (hg : Gl X x) (hm : X.mg x = some (.ref f)) (hk : PySem.W.keepIn X.K (.ref f) = true) (hb : Binds X.K fd ps ds) (hd : Vals dvs ds) (hx : Passes CX X E) (ha : QA X (e :: es) t) (hdb : (x == ("__debug__" : Str)) = false := by decide) (he : starEach (e :: es) X.env = (false, eval e X.env) :: starEach es X.env := by rfl) (hpl : (backTo pos (starEach es X.env)).any (·.1) = false := by rfl) : QE X (.Call (.Name x p) (e :: es) [] pos) (tCall sp dvs E t) := ⟨pe_call F hr hg hm hk hb hd hx ha.p hdb he hpl⟩
theorem qe_callB {id : String} (hc : CallR X (.builtin id) r) (hg : Gl X x) (hm : X.mg x = none) (hv : bootBuiltins x = some (.builtin id)) (ha : QA X (e :: es) t) (hn : x ≠ "__name__" := by decide) (hdb : (x == ("__debug__" : Str)) = false := by decide) (he : starEach (e :: es) X.env = (false, eval e X.env) :: starEach es X.env := by rfl) (hpl : (backTo pos (starEach es X.env)).any (·.1) = false := by rfl) : QE X (.Call (.Name x p) (e :: es) [] pos) (tCB r t) := ⟨pe_callB hc hg hm hv ha.p hn hdb he hpl⟩
theorem qe_callTy  (hc : CallR X (.type T) r) (hg : Gl X x) (hm : X.mg x = none) (hv : bootBuiltins x = some (.type T)) (ha : QA X (e :: es) t) (hn : x ≠ "__name__" := by decide) (hdb : (x == ("__debug__" : Str)) = false := by decide) (he : starEach (e :: es) X.env = (false, eval e X.env) :: starEach es X.env := by rfl) (hpl : (backTo pos (starEach es X.env)).any (·.1) = false := by rfl) : QE X (.Call (.Name x p) (e :: es) [] pos) (tCB r t) := ⟨pe_callTy hc hg hm hv ha.p hn hdb he hpl⟩
theorem qe_bm {id : String} (pa : PlainAttrs T) (slot : Slot T name id) (hty : typeOf (.builtin id) = pure (.type "method_descriptor")) (hm : MtR X id r) (ho : QE X o to) (ha : QA X (e :: es) t) (hbase : attributeBase o name X.env (eval o X.env) = eval o X.env := by rfl) (hfew : ((backTo cpos (starEach (e :: es) X.env)).all (fun x => !x.1) && (backToKw cpos (keywordEach [] X.env)).all (fun x => x.1.isSome)
   && decide ((e :: es).length + ([] : List Keyword).length + (if ([] : List Keyword).isEmpty then 0 else 1) < 30)) = true := by rfl) (hline : (apos.endLine == cpos.line) = true := by rfl) (hs : starEach (e :: es) X.env = (false, eval e X.env) :: starEach es X.env := by rfl) (hplain : (backTo cpos (starEach es X.env)).any (·.1) = false := by rfl) : QE X (.Call (.Attribute o name apos) (e :: es) [] cpos) (tBM X.K T r to t) := ⟨pe_bm pa slot hty hm ho.p ha.p hbase hfew hline hs hplain⟩
theorem qa_nil   : QA X [] tNil := ⟨pa_nil ⟩
theorem qa_cons  (ha : QE X e te) (hr : QA X es t) (hs : starEach (e :: es) X.env = (false, eval e X.env) :: starEach es X.env := by rfl) : QA X (e :: es) (tCons te t) := ⟨pa_cons ha.p hr.p hs⟩
theorem qt_cmpR  {op : CmpOp} {r : R2} (ho : OpR X (compareOp op) r) (ha : QE X a ta) (hb : QE X b tb) (hm : behindInMarks op b = false) : QT X (.Compare a [op] [b] pos) (tTest (tOp r ta tb)) := ⟨pt_cmpR ho ha.p hb.p hm⟩
theorem qt_val  {e : Expr} {t : TE} (h : QE X e t) (he : ∀ whole, isTrue e X.env whole = (do let v ← whole; standAt e.pos; holding [v] (truthy v)) := by intro _; rfl) : QT X e (tB t) := ⟨pt_val h.p he⟩
theorem qt_not  (ha : QT X a tA) : QT X (.UnaryOp .Not a pos) (tNot tA) := ⟨pt_not ha.p⟩
theorem qw_and {rest : List Expr} (ha : QT X a tA) (hb : QW X (.BoolOp .And (b :: rest) pos) tB') : QW X (.BoolOp .And (a :: b :: rest) pos) (tAnd tA tB') := ⟨pw_and ha.p hb.p⟩
theorem qw_and1  (ha : QT X a tA) : QW X (.BoolOp .And [a] pos) tA := ⟨pw_and1 ha.p⟩
theorem qw_or {rest : List Expr} (ha : QT X a tA) (hb : QW X (.BoolOp .Or (b :: rest) pos) tB') : QW X (.BoolOp .Or (a :: b :: rest) pos) (tOr tA tB') := ⟨pw_or ha.p hb.p⟩
theorem qw_or1  (ha : QT X a tA) : QW X (.BoolOp .Or [a] pos) tA := ⟨pw_or1 ha.p⟩
theorem qw_pt  {X : Cx} {e : Expr} {t : TT} (h : QW X e t) : QT X e t := ⟨PW.pt h.p⟩
theorem qs_set  {i : Nat} {x : Str} {e : Expr} {te : TE} {pos' : Pos} (hN : X.N.Nodup) (hi : X.N[i]? = some x) (hx : Loc X.env.scope x) (he : QE X e te) (hs : swapsWith e (some (.Name x pos')) pos.line X.env = pure false := by rfl) (hf : X.fn x = true ∨ X.env.scope.names.lookup x = some .local := by first | exact .inl rfl | exact .inr rfl | assumption) : QS X (.Assign [.Name x pos'] e pos) (tAsg te (gName i)) := ⟨ps_set hN hi hx he.p hs hf⟩
theorem qs_par  {i j : Nat} {x y : Str} {a b : Expr} {ta : TA} {px py pt : Pos} {kt k2 pt2} (hc : X.calm = true) (hN : X.N.Nodup) (hi : X.N[i]? = some x) (hj : X.N[j]? = some y) (hij : i ≠ j) (hx : X.env.scope.names.lookup x = some .local) (hy : X.env.scope.names.lookup y = some .local) (ha : QA X [a, b] ta) (hw : swappedStores [.Tuple [.Name x px, .Name y py] kt pt] (.Tuple [a, b] k2 pt2) X.env = pure (some [x, y])) (hs : swapsWithSole [.Tuple [.Name x px, .Name y py] kt pt] (.Tuple [a, b] k2 pt2) pos.line X.env = pure false := by rfl) : QS X (.Assign [.Tuple [.Name x px, .Name y py] kt pt] (.Tuple [a, b] k2 pt2) pos) (tPar i j ta) := ⟨ps_par hc hN hi hj hij hx hy ha.p hw hs⟩
theorem qs_asg  {tg e : Expr} {te : TE} {g : TG} (he : QE X e te) (hg : QG X tg g) (hs : swapsWithSole [tg] e pos.line X.env = pure false := by rfl) (hw : swappedStores [tg] e X.env = pure none := by rfl) (h1 : (assignEach [tg] X.env).map (·.2) = [assign tg X.env] := by rfl) : QS X (.Assign [tg] e pos) (tAsg te g) := ⟨ps_asg he.p hg.p hs hw h1⟩
theorem qs_aug  {i : Nat} {x : Str} {e : Expr} {te : TE} {op : Operator} {ti : TIp} {pos' : Pos} (hN : X.N.Nodup) (hi : X.N[i]? = some x) (hx : Loc X.env.scope x) (he : QE X e te) (ho : PIp X op ti) (hf : X.fn x = true ∨ X.env.scope.names.lookup x = some .local := by first | exact .inl rfl | exact .inr rfl | assumption) : QS X (.AugAssign (.Name x pos') op e pos) (tAug i te ti) := ⟨ps_aug hN hi hx he.p ho hf⟩
theorem qs_if  {c : Expr} {a b : List Stmt} {tc : TT} (hc : QT X c tc) (ha : QSs X a t) (hb : QSs X b u) : QS X (.If c a b pos) (tIfS tc t u) := ⟨ps_if hc.p ha.p hb.p⟩
theorem qs_while  {c : Expr} {body : List Stmt} {tc : TT} {tb : TS} (hp : PassesOwn (model X.prog X.w) X.A X.env X.xe) (hc : QT X c tc) (hb : QSs X body tb) : QS X (.While c body [] pos) (tWhile tc tb) := ⟨ps_while hp hc.p hb.p⟩
theorem qs_for  {iter : Expr} {body : List Stmt} {wi : TI} {g : TG} {tb : TS} {pos : Pos} (hp : PassesOwn (model X.prog X.w) X.A X.env X.xe) (hc : X.calm = true) (hi : QI X tg iter wi) (hg : QG X tg g) (hb : QSs X body tb) (hs : ∀ x, foldedSetIterable iter X.env x = pure x := by intro _; rfl) : QS X (.For tg iter body [] pos) (tFor wi g tb) := ⟨ps_for hp hc hi.p hg.p hb.p hs⟩
theorem qs_ret  (he : QE X e te) : QS X (.Return (some e) pos) (tRet te) := ⟨ps_ret he.p⟩
theorem qs_expr  (he : QE X e te) (hs : swapsWith e none pos.line X.env = pure false := by rfl) : QS X (.Expr e pos) (tDrop te) := ⟨ps_expr he.p hs⟩
theorem qs_never {st : Stmt}  : QS X st tNever := ⟨ps_never ⟩
theorem qss_nil   : QSs X [] tNext := ⟨pss_nil ⟩
theorem qss_one {st : Stmt} (h1 : QS X st t) : QSs X [st] t := ⟨pss_one h1.p⟩
theorem qss_cons {st : Stmt} {rest : List Stmt} (h1 : QS X st t) (h2 : QSs X rest u) : QSs X (st :: rest) (tSeq t u) := ⟨pss_cons h1.p h2.p⟩
theorem qi_range1  {a : Expr} {ta : TA} {p pos : Pos} (hg : Gl X "range") (hm : X.mg "range" = none) (ha : QA X [a] ta) (hs : starEach [a] X.env = [(false, eval a X.env)] := by rfl) : QI X tg (.Call (.Name "range" p) [a] [] pos) (iRng1 ta) := ⟨pi_range1 hg hm ha.p hs⟩
theorem qi_list {tg : Expr} {l : Expr} {tl : TE} (hl : QE X l tl) : QI X tg l (iList X.K tl) := ⟨pi_list hl.p⟩
theorem qi_tup  {l : Expr} {tl : TE} (hl : QE X l tl) : QI X tg l (iTup X.K tl) := ⟨pi_tup hl.p⟩
theorem qg_name  {i : Nat} {x : Str} (hN : X.N.Nodup) (hi : X.N[i]? = some x) (hx : Loc X.env.scope x) (hf : X.fn x = true ∨ X.env.scope.names.lookup x = some .local := by first | exact .inl rfl | exact .inr rfl | assumption) : QG X (.Name x pos) (gName i) := ⟨pg_name hN hi hx hf⟩
theorem qg_tup  {es : List Expr} {k : Nat} {t : TGs} {n : Nat} (hc : X.calm = true) (h : QGs X es t) (hn : (assignEach es X.env).length = n := by rfl) (hst : (assignEach es X.env).findIdx? (·.1) = none := by rfl) : QG X (.Tuple es k pos) (gTup X.K n t) := ⟨pg_tup hc h.p hn hst⟩
theorem qg_sub  {o i : Expr} {to ti : TE} {t : TSet} (ho : QE X o to) (hi : QE X i ti) (hs : PSet X t) (ha : ∀ v, assign (.Subscript o i pos) X.env v = (do
   let ov ← holding [v] (eval o X.env)
   let iv ← holding [v, ov] (eval i X.env)
   standAt pos
   holding [v, ov, iv] (setItem ov iv v)
   release [v, ov, iv] []) := by intro _; rfl) : QG X (.Subscript o i pos) (gSub to ti t) := ⟨pg_sub ho.p hi.p hs ha⟩
theorem qgs_nil   : QGs X [] gNil := ⟨pgs_nil ⟩
theorem qgs_cons  {e : Expr} {es : List Expr} {t : TG} {u : TGs} (h1 : QG X e t) (h2 : QGs X es u) (hs : (assignEach (e :: es) X.env).map (·.2) = assign e X.env :: (assignEach es X.env).map (·.2) := by rfl) : QGs X (e :: es) (gCons t u) := ⟨pgs_cons h1.p h2.p hs⟩
end
structure QTs (X : Cx) (ifs : List Expr) (t : TT) : Prop where
 p : PTs X ifs t
section
set_option autoImplicit true
set_option relaxedAutoImplicit true
theorem qts_nil  {X : Cx} : QTs X [] tYes := ⟨pts_nil ⟩
theorem qts_one  {X : Cx} {c : Expr} {t : TT} (h : QT X c t) : QTs X [c] t := ⟨pts_one h.p⟩
theorem qe_lcomp  (hc : X.calm = true) (hi : QI X tg iter wi) (hg : ∀ C fp pins s H, QG (cxC X N' scope cl C fp pins s H) tg g) (ht : ∀ C fp pins s H, QTs (cxC X N' scope cl C fp pins s H) ifs tt) (he : ∀ C fp pins s H, QE (cxC X N' scope cl C fp pins s H) elt te) (hfree : FreeOk X scope cl N' src) (hclos : closureFor scope X.env = pure cl) (hcell : ∀ x ∈ scope.names, x.2 ≠ .cell) (hkind : scope.kind = .function) (hnames : ∀ x ∈ scope.names, x.2 = .local -> scope.names.lookup x.1 = some .local) (hcl : CellsOk X scope cl) (hs : ∀ x, foldedSetIterable iter X.env x = pure x := by intro _; rfl) : QE X (.ListComp elt [⟨tg, iter, ifs, 0⟩] scope pos) (tComp wi src g tt te) := ⟨pe_lcomp hc hi.p (fun z0 z1 z2 z3 z4 => (hg z0 z1 z2 z3 z4).p) (fun z0 z1 z2 z3 z4 => (ht z0 z1 z2 z3 z4).p) (fun z0 z1 z2 z3 z4 => (he z0 z1 z2 z3 z4).p) hfree hclos hcell hkind hnames hcl hs⟩
theorem qs_setC  {i : Nat} {x : Str} {pos' pos2 : Pos} (hN : X.N.Nodup) (hi' : X.N[i]? = some x) (hx : Loc X.env.scope x) (hc : X.calm = true) (hi : QI X tg iter wi) (hg : ∀ C fp pins s H, QG (cxC X N' scope cl C fp pins s H) tg g) (ht : ∀ C fp pins s H, QTs (cxC X N' scope cl C fp pins s H) ifs tt) (he : ∀ C fp pins s H, QE (cxC X N' scope cl C fp pins s H) elt te) (hfree : FreeOk X scope cl N' src) (hclos : closureFor scope X.env = pure cl) (hcell : ∀ x ∈ scope.names, x.2 ≠ .cell) (hkind : scope.kind = .function) (hnames : ∀ x ∈ scope.names, x.2 = .local -> scope.names.lookup x.1 = some .local) (hcl : CellsOk X scope cl) (hs : ∀ x, foldedSetIterable iter X.env x = pure x := by intro _; rfl) (hsw : swapsWith (.ListComp elt [⟨tg, iter, ifs, 0⟩] scope pos) (some (.Name x pos')) pos2.line X.env = pure true := by rfl) (hf : X.fn x = true ∨ X.env.scope.names.lookup x = some .local := by first | exact .inl rfl | exact .inr rfl | assumption) : QS X (.Assign [.Name x pos'] (.ListComp elt [⟨tg, iter, ifs, 0⟩] scope pos) pos2) (tAsg (tComp wi src g tt te) (gName i)) := ⟨ps_setC hN hi' hx hc hi.p (fun z0 z1 z2 z3 z4 => (hg z0 z1 z2 z3 z4).p) (fun z0 z1 z2 z3 z4 => (ht z0 z1 z2 z3 z4).p) (fun z0 z1 z2 z3 z4 => (he z0 z1 z2 z3 z4).p) hfree hclos hcell hkind hnames hcl hs hsw hf⟩
end
section
variable {X : Cx} {K : Fg}
theorem pg_tupK {es : List Expr} {k : Nat} {t : TGs} {n : Nat} {pos : Pos} (hK : X.K = K) (hc : X.calm = true) (h : PGs X es t)
  (hn : (assignEach es X.env).length = n := by rfl) (hst : (assignEach es X.env).findIdx? (·.1) = none := by rfl) : PG X (.Tuple es k pos) (gTup K n t) := hK ▸ pg_tup hc h hn hst
theorem ix_tupK (hK : X.K = K) : IxR X (rIxT K) := hK ▸ ix_tup
def rLen (K : Fg) : List V -> Hp -> VK -> Prop := fun xs H Q => ∃ p ys, xs = [.ref p] /\ (SqL K H p ys ∨ SqT K H p ys) /\ Q (.int ys.length) H
end
theorem star_bin {a b : Expr} {op : Operator} {pos : Pos} {es : List Expr} {env : Env} : starEach (.BinOp a op b pos :: es) env = (false, eval (.BinOp a op b pos) env) :: starEach es env := rfl
end B
namespace B
open PySem
section
variable {es : List Expr} {env : Env}
theorem star_tup {a b c} : starEach (.Tuple a b c :: es) env = (false, eval (.Tuple a b c) env) :: starEach es env := rfl
theorem star_sub {a b c} : starEach (.Subscript a b c :: es) env = (false, eval (.Subscript a b c) env) :: starEach es env := rfl
theorem star_call {a b c d} : starEach (.Call a b c d :: es) env = (false, eval (.Call a b c d) env) :: starEach es env := rfl
theorem star_name {a b} : starEach (.Name a b :: es) env = (false, eval (.Name a b) env) :: starEach es env := rfl
theorem star_con {a b c} : starEach (.Constant a b c :: es) env = (false, eval (.Constant a b c) env) :: starEach es env := rfl
theorem star_un {a b c} : starEach (.UnaryOp a b c :: es) env = (false, eval (.UnaryOp a b c) env) :: starEach es env := rfl
theorem star_lc {a b c d} : starEach (.ListComp a b c d :: es) env = (false, eval (.ListComp a b c d) env) :: starEach es env := rfl
end
end B
namespace B
open PySem L2 PyProof.Rows
inductive Als {α : Type} (P : V -> α -> Prop) : List V -> List α -> Prop where
 | nil : Als P [] []
 | cons {x : V} {d : α} {xs : List V} {ds : List α} (h : P x d) (t : Als P xs ds) : Als P (x :: xs) (d :: ds)
theorem Als.len {α : Type} {P : V -> α -> Prop} : ∀ {xs : List V} {ds : List α}, Als P xs ds -> xs.length = ds.length
 | _, _, .nil => rfl
 | _, _, .cons _ t => congrArg (· + 1) t.len
theorem Als.mono {α : Type} {P P' : V -> α -> Prop} (m : ∀ v d, P v d -> P' v d) : ∀ {xs : List V} {ds : List α}, Als P xs ds -> Als P' xs ds
 | _, _, .nil => .nil
 | _, _, .cons h t => .cons (m _ _ h) (t.mono m)
theorem Als.snoc {α : Type} {P : V -> α -> Prop} {x : V} {d : α} (k : P x d) : ∀ {xs : List V} {ds : List α}, Als P xs ds -> Als P (xs ++ [x]) (ds ++ [d])
 | _, _, .nil => .cons k .nil
 | _, _, .cons h t => .cons h (t.snoc k)
theorem Als.at {α : Type} {P : V -> α -> Prop} : ∀ {xs : List V} {ds : List α}, Als P xs ds -> ∀ {i : Nat} {x : V}, xs[i]? = some x -> ∃ d, ds[i]? = some d /\ P x d
 | _, _, .cons h _, 0, x, e => by
  rw [List.getElem?_cons_zero] at e
  cases e
  exact ⟨_, rfl, h⟩
 | _, _, .cons _ t, i + 1, x, e => t.at (i := i) (by rw [List.getElem?_cons_succ] at e; exact e)
 | _, _, .nil, _, _, e => by cases e
theorem Als.deep {α : Type} {K : Fg} {H : Hp} {P : V -> α -> Prop} {f : α -> PyData} (m : ∀ v d, P v d -> Deep K H v (f d)) : ∀ {xs : List V} {ds : List α}, Als P xs ds -> DeepAll K H xs (ds.map f)
 | _, _, .nil => .nil
 | _, _, .cons h t => .cons (m _ _ h) (t.deep m)
end B
namespace B
open PySem PySem.Spec L2 PyProof.Rows
theorem comp_rngS {α : Type} {K : Fg} {H : Hp} {D t s : Addr} {n : Nat} {P : Hp -> V -> α -> Prop} {Ok : α -> Prop} {src : List (Option Nat)} {σ : L2.St} {g : TG} {tt : TT} {te : TE} {Q : Hp -> Prop}
  (mono : ∀ H H' v d, Tst K H H' -> P H v d -> P H' v d) (hD : H D = none) (T : Tape H t s) (hn : n ≤ 1000)
  (turn : ∀ (i : Nat) (H' : Hp), i < n -> Tst K H H' -> Tape H' t s -> ∀ (R : VK) (E : Hp -> Prop), (∀ v d H'', Step t H' H'' -> Tape H'' t s -> P H'' v d -> Ok d -> R v H'') →
   g (.int (0 + (i : Int))) (frees src σ) H' fun σ2 H2 => Ext (frees src σ) σ2 /\ tt σ2 H2 fun ok H3 => if ok = true then te σ2 H3 R else E H3)
  (fin : ∀ H' ys ds, Step t H H' -> Tape H' t s -> H' D = some (.lst ys) -> Als (P H') ys ds -> ds.length = n -> (∀ d ∈ ds, Ok d) -> Q H') :
  ∃ W : Nat -> Nat -> List V -> Hp -> Prop, (∃ m, W 0 m [] (upd H D (.lst []))) /\ ∀ i m ys H, W i m ys H -> ((Itr 0 n).stop i H /\ Q H) ∨ ((Itr 0 n).go i H /\ ∀ x H', (Itr 0 n).yld i H x H' →
   g x (frees src σ) H' fun σ2 H2 => Ext (frees src σ) σ2 /\ tt σ2 H2 fun ok H3 =>
    if ok = true then te σ2 H3 fun y H4 => H4 D = some (.lst ys) /\ ys.length < sizeLine /\ ∃ m', m' < m /\ W (i + 1) m' (ys ++ [y]) (upd H4 D (.lst (ys ++ [y]))) else ∃ m', m' < m /\ W (i + 1) m' ys H3) := by
 have nt : D ≠ t := fun z => by subst z; obtain ⟨_, e⟩ := T.lst; rw [hD] at e; cases e
 have ns : D ≠ s := fun z => by subst z; obtain ⟨_, e⟩ := T.scr; rw [hD] at e; cases e
 refine ⟨fun i m ys H' => i ≤ n /\ m = n - i /\ H' D = some (.lst ys) /\ Tape H' t s /\ (∀ b o, b ≠ t -> H b = some o -> H' b = some o) /\ ∃ ds, Als (P H') ys ds /\ ds.length = i /\ ∀ d ∈ ds, Ok d, ⟨_, Nat.zero_le _, rfl, upd_same, T.new hD _, fun b o _ q => same_new hD _ _ _ q, [], .nil, rfl, fun d hd => by cases hd⟩, ?_⟩
 rintro i m ys H1 ⟨hi, rfl, d1, T1, kp, ds, als, hlen, ok⟩
 by_cases hix : i < n
 ·refine .inr ⟨hix, ?_⟩
  rintro x H2 ⟨rfl, rfl⟩
  refine turn i _ hix (Tst.step (K := K) ⟨kp, T.lst, T1.lst⟩) T1 _ _ fun v d H3 S3 T3 p3 o3 => ?_
  have d3 : H3 D = some (.lst ys) := S3.keep _ _ nt d1
  have tm : Tst K H2 (upd H3 D (.lst (ys ++ [v]))) := (Tst.step S3).trans (Tst.up d3 _)
  refine ⟨d3, small1000 (by rw [als.len]; omega), n - (i + 1), by omega, hix, rfl, upd_same, T3.upl nt ns _, fun b o nb q => ?_, ds ++ [d], (als.mono fun v d p => mono _ _ _ _ tm p).snoc (mono _ _ _ _ (Tst.up d3 _) p3), by rw [List.length_append, hlen]; rfl, fun z hz => ?_⟩
  ·rw [upd_ne (ne_of_none q hD)]
   exact S3.keep _ _ nb (kp b o nb q)
  ·rcases List.mem_append.mp hz with h | h
   ·exact ok z h
   ·rw [List.mem_singleton] at h; rw [h]; exact o3
 ·have e : i = n := by omega
  subst e
  exact .inl ⟨Nat.le_refl _, fin H1 ys ds ⟨kp, T.lst, T1.lst⟩ T1 d1 als hlen ok⟩
theorem Als.last {α : Type} {P : V -> α -> Prop} {xs : List V} {ds : List α} {n : Nat} (h : Als P xs ds) (hn : ds.length = n + 1) : ∃ x d, atI xs (-1) = some x /\ ds[n]? = some d /\ P x d /\ xs[n]? = some x := by
 have hl := h.len
 have hx : xs[n]? = some (xs[n]'(by omega)) := List.getElem?_eq_getElem _
 obtain ⟨d, hd, p⟩ := h.at hx
 refine ⟨_, d, ?_, hd, p, hx⟩
 have e : xs = xs.take n ++ [xs[n]'(by omega)] := by
  have := List.take_append_drop n xs
  rw [List.drop_eq_getElem_cons (by omega)] at this
  rw [List.drop_eq_nil_of_le (by omega)] at this
  exact this.symm
 have := atI_last (xs.take n) (xs[n]'(by omega))
 rw [← e] at this
 exact this
section
set_option autoImplicit true
set_option relaxedAutoImplicit true
theorem qi_seq  {X : Cx} {tg l : Expr} {tl : TE} (hl : QE X l tl) : QI X tg l (iSeq X.K tl) := ⟨pi_seq hl.p⟩
theorem qg_tupK {K : Fg} {es : List Expr} {k : Nat} {t : TGs} {n : Nat} {pos : Pos} (hK : X.K = K) (hc : X.calm = true) (h : QGs X es t) (hn : (assignEach es X.env).length = n := by rfl) (hst : (assignEach es X.env).findIdx? (·.1) = none := by rfl) : QG X (.Tuple es k pos) (gTup K n t) := ⟨pg_tupK hK hc h.p hn hst⟩
end
def rEqD (K : Fg) : R2 := fun x y H Q => ∃ d d', Deep K H x d /\ Deep K H y d' /\ d.canLay0 = true /\ d'.canLay0 = true /\ d.depth ≤ 32 /\ Q (.bl (PyData.eqv d d')) H
theorem op_eqD {X : Cx} {k : Nat} (hr : Room k X.A) : OpR X (compareOp .Eq) (rEqD X.K) := by
 intro pins s σ H x y v u Q I rx ry h
 obtain ⟨d, d', hd, hd', c, c', dp, q⟩ := h
 obtain ⟨as, ra⟩ := Deep.reads I hd rx
 obtain ⟨bs, rb⟩ := Deep.reads I hd' ry
 exact SeqAt.compareEq_reads ra rb c c' (by have := hr.units; omega) ⟨.bl _, H, I, rfl, q⟩
theorem eqv_iff {r q : R} : PyData.eqv (dR r) (dR q) = decide (r = q) := by
 by_cases h : r = q
 ·rw [decide_eq_true h, h]; exact eqv_same q
 ·rw [decide_eq_false h]
  cases c : PyData.eqv (dR r) (dR q) with
  | false => rfl
  | true => exact absurd (eqv_dR c) h
def rIsiT (K : Fg) : List V -> Hp -> VK -> Prop := fun xs H Q => ∃ a ys n b, xs = [.ref a, .ty n] /\ SqT K H a ys /\ kitTT "tuple" n = some b /\ Q (.bl b) H
theorem call_isiT {X : Cx} : CallR X (.builtin "isinstance") (rIsiT X.K) := by
 intro pins s σ H xs us Q I r h
 obtain ⟨a, ys, n, b, rfl, hS, e, q⟩ := h
 obtain ⟨u, u2, rfl, rx, ry⟩ := vals2 r
 obtain rfl : u2 = Value.type n := ry
 cases (show u = Value.ref a from rx)
 obtain ⟨its, _, ⟨o, h1, h2, _⟩, _⟩ := I.tuple hS
 exact PySem.W.kia_one PySem.W.kitx_tuple I.kIn ⟨o, h1, h2⟩ (kit_of e) (fun z => nomatch z) fun tk => ⟨.bl b, H, I.tok tk, rfl, q⟩
section
set_option autoImplicit true
set_option relaxedAutoImplicit true
theorem qs_fldE  (hex : X.ex = []) (ha : QE X o ta) (hv : QE X value tv) (hs : swapsWith value (some (.Attribute o f pos')) pos.line X.env = pure false) : QS X (.Assign [.Attribute o f pos'] value pos) (sFldE X.K ta tv f) := ⟨ps_fldE hex ha.p hv.p hs⟩
theorem qs_raiseD  {x : Str} {p cpos pos : Pos} {e : Expr} {es : List Expr} {t : TA} {E : XK} (M : XC X.K C f bm) (hbase : bm.contains (.type "BaseException") = true) (hex : X.ex = []) (tk : TakesD X E) (F : FnOk X.prog X.w X.K X.mg X.base CX0 k f fd ps sp) (hr : Room (k + 1) X.A) (hb : Binds X.K fd ps []) (hg : Gl X x) (hm : X.mg x = some (.ref C)) (ha : QA X (e :: es) t) (hdb : (x == ("__debug__" : Str)) = false := by decide) (he : starEach (e :: es) X.env = (false, eval e X.env) :: starEach es X.env := by rfl) (hpl : (backTo cpos (starEach es X.env)).any (·.1) = false := by rfl) : QS X (.Raise (some (.Call (.Name x p) (e :: es) [] cpos)) none pos) (tRaiseD C sp E t) := ⟨ps_raiseD M hbase hex tk F hr hb hg hm ha.p hdb he hpl⟩
theorem qs_tryD {R : RX} {suite : List Stmt} (hex : X.ex = []) (hst : X.stack = X.env :: X.outer) (hfr : X.env.frame = some X.env.locals) (hg : Gl X x) (hm : X.mg x = some u) (hb : ∀ pins, QSs (inTryD X pins R) body tb) (hs : ∀ e, QSs (inExc X e) (b₀ :: suite) th) (hd : (x == ("__debug__" : Str)) = false := by decide) : QS X (.Try body [.ExceptHandler (some (.Name x p)) none (b₀ :: suite) hpos] [] [] pos) (tTryD X.N R (fun C => PySem.W.exmOne X.K (.ref C) u = some true) tb th) := ⟨ps_tryD hex hst hfr hg hm (fun z0 => (hb z0).p) (fun z0 => (hs z0).p) hd⟩
end
end B
namespace L2
open PySem PySem.Spec PyProof.Rows
section
variable {κ : Type} [DecidableEq κ]
def valV (kvs : List (κ × V)) (k : κ) : Option V := (kvs.find? fun kv => decide (kv.1 = k)).map (·.2)
def putK (kvs : List (κ × V)) (k : κ) (v : V) : List (κ × V) :=
 if (kvs.any fun kv => decide (kv.1 = k)) = true then kvs.map (fun kv => if kv.1 = k then (kv.1, v) else kv) else kvs ++ [(k, v)]
def dropK (kvs : List (κ × V)) (k : κ) : List (κ × V) := kvs.filter fun kv => decide (kv.1 ≠ k)
theorem valV_pos {p : κ × V} {r : List (κ × V)} {k : κ} (e : p.1 = k) : valV (p :: r) k = some p.2 := by simp [valV, List.find?_cons, e]
theorem valV_neg {p : κ × V} {r : List (κ × V)} {k : κ} (e : ¬ p.1 = k) : valV (p :: r) k = valV r k := by simp [valV, List.find?_cons, e]
theorem valV_any (k : κ) : ∀ kvs : List (κ × V), (kvs.any fun kv => decide (kv.1 = k)) = (valV kvs k).isSome
 | [] => rfl
 | p :: r => by
  rw [List.any_cons]
  by_cases e : p.1 = k
  ·simp only [valV_pos e, decide_eq_true e, Bool.true_or, Option.isSome_some]
  ·rw [valV_neg e, decide_eq_false e, Bool.false_or]; exact valV_any k r
theorem length_putK (kvs : List (κ × V)) (k : κ) (v : V) : (putK kvs k v).length ≤ kvs.length + 1 := by
 unfold putK
 split
 ·rw [List.length_map]; omega
 ·rw [List.length_append, List.length_cons, List.length_nil]; omega
theorem RelO.isSome_eq {o : Option V} {u : Option Value} (r : RelO o u) : o.isSome = u.isSome := by
 cases o with
 | none => cases u with
  | none => rfl
  | some _ => exact (show False from r).elim
 | some _ => cases u with
  | none => exact (show False from r).elim
  | some _ => rfl
theorem RelO.getD {o : Option V} {u : Option Value} {d : V} {d' : Value} (r : RelO o u) (rd : RelV d d') : RelV (o.getD d) (u.getD d') := by
 cases o with
 | none => cases u with
  | none => exact rd
  | some _ => exact (show False from r).elim
 | some _ => cases u with
  | none => exact (show False from r).elim
  | some _ => exact r
theorem KV.val {kvs : List (κ × V)} {vs : List (κ × Value)} (r : KV kvs vs) (k : κ) : RelO (valV kvs k) (valueAt vs k) := by
 unfold KV at r
 induction r with
 | nil => exact True.intro
 | @cons p q ps qs h t ih =>
  obtain ⟨h1, h2⟩ := h
  by_cases e : p.1 = k
  ·have e' : q.1 = k := h1.symm.trans e
   have b : valueAt (q :: qs) k = some q.2 := by simp [valueAt, List.find?_cons, e']
   rw [valV_pos e, b]; exact h2
  ·have e' : ¬ q.1 = k := fun z => e (h1.trans z)
   have b : valueAt (q :: qs) k = valueAt qs k := by simp [valueAt, List.find?_cons, e']
   rw [valV_neg e, b]; exact ih
theorem KV.any {kvs : List (κ × V)} {vs : List (κ × Value)} (r : KV kvs vs) (k : κ) : (kvs.any fun kv => decide (kv.1 = k)) = vs.any fun kv => decide (kv.1 = k) := by
 unfold KV at r
 induction r with
 | nil => rfl
 | cons h t ih => rw [List.any_cons, List.any_cons, ih, h.1]
theorem KV.repl {kvs : List (κ × V)} {vs : List (κ × Value)} (r : KV kvs vs) (k : κ) {y : V} {u : Value} (ry : RelV y u) :
  KV (kvs.map fun kv => if kv.1 = k then (kv.1, y) else kv) (vs.map fun kv => if kv.1 = k then (kv.1, u) else kv) := by
 unfold KV at r ⊢
 induction r with
 | nil => exact .nil
 | @cons p q ps qs h t ih =>
  rw [List.map_cons, List.map_cons]
  refine .cons ?_ ih
  obtain ⟨h1, h2⟩ := h
  by_cases e : p.1 = k
  ·rw [if_pos e, if_pos (h1.symm.trans e)]; exact ⟨h1, ry⟩
  ·rw [if_neg e, if_neg (fun z => e (h1.trans z))]; exact ⟨h1, h2⟩
theorem KV.put {kvs : List (κ × V)} {vs : List (κ × Value)} (r : KV kvs vs) (k : κ) {y : V} {u : Value} (ry : RelV y u) : KV (putK kvs k y) (stored vs k u) := by
 unfold putK stored
 rw [r.any k]
 by_cases e : (vs.any fun kv => decide (kv.1 = k)) = true
 ·rw [if_pos e, if_pos e]; exact r.repl k ry
 ·rw [if_neg e, if_neg e]; exact Paired.snoc r ⟨rfl, ry⟩
theorem KV.length {kvs : List (κ × V)} {vs : List (κ × Value)} (r : KV kvs vs) : kvs.length = vs.length := Paired.length r
end
theorem kV_is {P : Program} {w : World} {k : Key} {u : Value} (r : RelV (kV k) u) : (mixKind P w).is k u = true := by
 cases k with
 | inl i => obtain ⟨t, e⟩ := (show ∃ t, u = Value.int i t from r); subst e; exact mixKind_int P w i t
 | inr x => obtain ⟨t, e⟩ := (show ∃ t, u = Value.str x t from r); subst e; exact mixKind_str P w x t
theorem items_are {P : Program} {w : World} : ∀ {ks : List Key} {us : List Value}, Vals (ks.map kV) us -> ItemsAre (mixKind P w) ks us
 | [], _, r => by rw [List.map_nil] at r; cases r; exact .nil
 | k :: ks, _, r => by
  rw [List.map_cons] at r
  cases r with
  | cons h t => exact .cons (kV_is h) (items_are t)
abbrev KT (H : Hp) : List (List Key × V) -> List (List Key × Addr × Value) -> Prop := Paired fun p q => p.1 = q.1 /\ H q.2.1 = some (.tup (p.1.map kV)) /\ RelV p.2 q.2.2
theorem KT.val {H : Hp} {kvs : List (List Key × V)} {xs : List (List Key × Addr × Value)} (r : KT H kvs xs) (k : List Key) : RelO (valV kvs k) ((atKey xs k).map (·.2)) := by
 induction r with
 | nil => exact True.intro
 | @cons p q ps qs h t ih =>
  obtain ⟨h1, _, h2⟩ := h
  by_cases e : p.1 = k
  ·have e' : q.1 = k := h1.symm.trans e
   have b : atKey (q :: qs) k = some q.2 := by simp [atKey, List.find?_cons, e']
   rw [valV_pos e, b]; exact h2
  ·have e' : ¬ q.1 = k := fun z => e (h1.trans z)
   have b : atKey (q :: qs) k = atKey qs k := by simp [atKey, List.find?_cons, e']
   rw [valV_neg e, b]; exact ih
theorem KT.repl {H : Hp} {kvs : List (List Key × V)} {xs : List (List Key × Addr × Value)} (r : KT H kvs xs) (k : List Key) {y : V} {u : Value} (ry : RelV y u) :
  KT H (kvs.map fun kv => if kv.1 = k then (kv.1, y) else kv) (xs.map (putAt k u)) := by
 induction r with
 | nil => exact .nil
 | @cons p q ps qs h t ih =>
  rw [List.map_cons, List.map_cons]
  refine .cons ?_ ih
  obtain ⟨h1, h2, h3⟩ := h
  unfold putAt
  by_cases e : p.1 = k
  ·rw [if_pos e, if_pos (h1.symm.trans e)]; exact ⟨h1, h2, ry⟩
  ·rw [if_neg e, if_neg (fun z => e (h1.trans z))]; exact ⟨h1, h2, h3⟩
theorem KT.put {H : Hp} {kvs : List (List Key × V)} {xs : List (List Key × Addr × Value)} (r : KT H kvs xs) (k : List Key) {b : Addr} {y : V} {u : Value} (hb : H b = some (.tup (k.map kV))) (ry : RelV y u) :
  KT H (putK kvs k y) (storedH xs k b u) := by
 have e : (kvs.any fun kv => decide (kv.1 = k)) = (atKey xs k).isSome := by
  rw [valV_any, (r.val k).isSome_eq, Option.isSome_map]
 unfold putK storedH
 rw [e]
 by_cases q : (atKey xs k).isSome = true
 ·rw [if_pos q, if_pos q]; exact r.repl k ry
 ·rw [if_neg q, if_neg q]; exact Paired.snoc r ⟨rfl, hb, ry⟩
theorem KT.keeps {H H' : Hp} {kvs : List (List Key × V)} {xs : List (List Key × Addr × Value)} (r : KT H kvs xs) (ht : ∀ b ys, H b = some (.tup ys) -> H' b = some (.tup ys)) : KT H' kvs xs :=
 Paired.mapP r fun _ _ z => ⟨z.1, ht _ _ z.2.1, z.2.2⟩
section
variable {P : Program} {w : World} {H : Hp} {h : Heap} {a : Addr}
theorem rd_of {u : HO} (ok : HOk P w H h) (e : Rd H a u) : ObjOk P w H h a u := e.ok ok
theorem dk_rd {kvs : List (Key × V)} (ok : HOk P w H h) (e : Rd H a (.dK kvs)) : kvs.length ≤ sizeLine /\ (a == sysModules) = false /\ ∃ vs, KV kvs vs /\ h.DictOf (mixKind P w) a vs :=
 show ObjOk P w H h a (.dK kvs) from rd_of ok e
theorem dk_of {kvs : List (Key × V)} (ok : HOk P w H h) (e : H a = some (.dK kvs)) : kvs.length ≤ sizeLine /\ (a == sysModules) = false /\ ∃ vs, KV kvs vs /\ h.DictOf (mixKind P w) a vs := dk_rd ok (.inl e)
theorem key_of {ks : List Key} (ok : HOk P w H h) (e : H a = some (.tup (ks.map kV))) : (tupleKind (mixKind P w)).is h ks a := by
 obtain ⟨_, its, r, o, h1, h2, n, h3⟩ := (show ObjOk P w H h a (.tup (ks.map kV)) from ok a _ e)
 exact ⟨o, its.toArray, n, h1, h2, h3, by simpa using items_are r⟩
theorem dt_rd {kvs : List (List Key × V)} (ok : HOk P w H h) (e : Rd H a (.dT kvs)) : kvs.length ≤ sizeLine /\ (a == sysModules) = false ∧
  ∃ xs, KT H kvs xs /\ h.DictOfH (tupleKind (mixKind P w)) a xs := by
 obtain ⟨z, y, xs, r, o, es, ep, h1, h2, h3, h4, h5⟩ := (show ObjOk P w H h a (.dT kvs) from rd_of ok e)
 refine ⟨z, y, xs, r, o, es, ep, h1, h2, h3, h4, fun x hx => ?_, h5⟩
 have all : ∀ {l : List (List Key × V)} {m : List (List Key × Addr × Value)}, KT H l m -> ∀ x ∈ m, (tupleKind (mixKind P w)).is h x.1 x.2.1 := by
  intro l m q
  induction q with
  | nil => intro x hx; exact nomatch hx
  | @cons p q ps qs hq t ih =>
   intro x hx
   rcases List.mem_cons.mp hx with e | hx
   ·subst e
    exact key_of ok (by rw [← hq.1]; exact hq.2.1)
   ·exact ih x hx
 exact all r x hx
theorem dt_of {kvs : List (List Key × V)} (ok : HOk P w H h) (e : H a = some (.dT kvs)) : kvs.length ≤ sizeLine /\ (a == sysModules) = false ∧
  ∃ xs, KT H kvs xs /\ h.DictOfH (tupleKind (mixKind P w)) a xs := dt_rd ok (.inl e)
end
def DGet (H : Hp) (a : Addr) (y : V) (r : Option V) : Prop :=
 (∃ kvs k, Rd H a (.dK kvs) /\ y = kV k /\ r = valV kvs k) ∨ ∃ kvs k b, Rd H a (.dT kvs) /\ y = .ref b /\ H b = some (.tup (k.map kV)) /\ r = valV kvs k
def DPut (H : Hp) (a : Addr) (y v : V) (H' : Hp) : Prop :=
 (∃ kvs k, H a = some (.dK kvs) /\ y = kV k /\ kvs.length < sizeLine /\ H' = upd H a (.dK (putK kvs k v))) ∨
 ∃ kvs k b, H a = some (.dT kvs) /\ y = .ref b /\ H b = some (.tup (k.map kV)) /\ kvs.length < sizeLine /\ H' = upd H a (.dT (putK kvs k v))
theorem DGet.k {H : Hp} {a : Addr} {kvs : List (Key × V)} {k : Key} (e : H a = some (.dK kvs)) : DGet H a (kV k) (valV kvs k) := .inl ⟨kvs, k, .inl e, rfl, rfl⟩
theorem DPut.k {H : Hp} {a : Addr} {kvs : List (Key × V)} {k : Key} {v : V} (e : H a = some (.dK kvs)) (hl : kvs.length < sizeLine) : DPut H a (kV k) v (upd H a (.dK (putK kvs k v))) := .inl ⟨kvs, k, e, rfl, hl, rfl⟩
section
variable {X : Cx} {pins : PLs} {σ : St} {H : Hp} {s : Shared} {a : Addr} {y v : V} {u r : Value} {o : Option V} {A : Around} {E : VSP}
theorem Inv.big (I : Inv X pins σ H s) : sysModules < s.heap.objs.size := by
 have h : mainGlobals < s.heap.objs.size := (I.mod.glob.keeps I.bk).lt
 exact Nat.lt_trans (by decide) h
theorem d_write {h' : Heap} {t' : Nat} {ob : HO} (I : Inv X pins σ H s) (mu : Mut (H a)) (hs : Heap.SameBut a s.heap h') (he : ∃ q, h'.get? a = some q) (new : ObjOk X.prog X.w (upd H a ob) h' a ob) :
  Inv X pins σ (upd H a ob) { s with heap := h', toks := t' } :=
 I.write (x := a) (e := a) mu (.inl rfl) (fun b q hb z => (hs.2 b hb).trans z) he new
theorem dk_new {P : Program} {w : World} {H' : Hp} {h' : Heap} {kvs : List (Key × V)} {vs : List (Key × Value)} (z : kvs.length ≤ sizeLine) (hd : (a == sysModules) = false) (rel : KV kvs vs) (dd : h'.DictOf (mixKind P w) a vs) :
  ObjOk P w H' h' a (.dK kvs) := ⟨z, hd, vs, rel, dd⟩
theorem d_setItem {H' : Hp} {Q : Unit -> Shared -> Prop} (hu : A.units + 1 < cLine) (I : Inv X pins σ H s) (g : DPut H a y v H') (ry : RelV y u) (rv : RelV v r) (h : ∀ s', Inv X pins σ H' s' -> Q () s') :
  wpAny (model X.prog X.w) A (setItem (.ref a) u r) Q E s := by
 rcases g with ⟨kvs, k, e, ey, l, eH⟩ | ⟨kvs, k, b, e, ey, eb, l, eH⟩
 ·subst ey eH
  obtain ⟨z, hd, vs, rel, dd⟩ := dk_of I.hok e
  have hz : vs.length ≤ sizeLine := by rw [← rel.length]; exact z
  have hl : (putK kvs k v).length ≤ sizeLine := by have := length_putK kvs k v; omega
  refine wpAny_setItem_pairs (hsz := hz) (kV_is ry) dd fun h' dd' hs => h _ ?_
  have he : ∃ q, h'.get? a = some q := let ⟨q, _, _, hq, _⟩ := dd'; ⟨q, hq⟩
  exact d_write I (by rw [e]; exact True.intro) hs he (dk_new hl hd (rel.put k rv) dd')
 ·subst ey eH
  cases (show u = Value.ref b from ry)
  obtain ⟨z, hd, xs, rel, dd⟩ := dt_of I.hok e
  have hz : xs.length ≤ sizeLine := by rw [← Paired.length rel]; exact z
  have hl : (putK kvs k v).length ≤ sizeLine := by have := length_putK kvs k v; omega
  refine wpAny_setItem_heap (hsz := hz) (tupleKind_room_in1 hu) (key_of I.hok eb) dd fun h' dd' hs => h _ ?_
  obtain ⟨q, es, ep, hq, h2, h3, h4, _, h5⟩ := dd'
  refine d_write I (by rw [e]; exact True.intro) hs ⟨q, hq⟩ ⟨hl, hd, _, (rel.put k eb rv).keeps fun c ys ec => ?_, q, es, ep, hq, h2, h3, h4, h5⟩
  rw [upd_ne (ne_of ec e (fun z => nomatch z))]
  exact ec
end
section
variable {X : Cx} {pins : PLs} {σ : St} {H : Hp} {s : Shared} {a : Addr} {kvs : List (Key × V)} {k : Key} {u : Value} {A : Around} {E : VSP}
end
def NoSl (i : Expr) : Prop := ∀ ov iv, subscripted i false ov iv = operate [ov, iv] (getItem ov iv)
theorem subD_of {prog : Program} {w : World} {A : Around} {E : VSP} {s : Shared} {env : Env} {value slice : Expr} {pos : Pos} {T id : String} {Q : VSP}
  (hl : typeLookup (.type T) "__getitem__" = pure (some (.builtin id))) (hs : NoSl slice)
  (h : wpAny (model prog w) A (eval value env) (fun o s₁ => wpAny (model prog w) A (eval slice env) (fun i s₂ => s₂.TypeIs o T /\ wpAny (model prog w) A (getItem o i) Q E s₂) E s₁) E s) :
  wpAny (model prog w) A (eval (.Subscript value slice pos) env) Q E s := by
 refine Subscript_ (wpAny_mono h (fun o s₁ h₁ => wpAny_mono h₁ (fun i s₂ h₂ => ?_) fun _ _ x => x) fun _ _ x => x)
 obtain ⟨hT, h₂⟩ := h₂
 unfold subscriptTail
 refine wpAny_bind ?_
 rw [getitemInPython_of_ne hT.not_modules]
 refine wpAny_bind (wpAny_specialOf hT hl ?_)
 have fin : wpAny (model prog w) A (subscripted slice false o i) (fun r s₃ => wpAny (model prog w) A (letTemporaryGo value o r >>= fun _ => pure r) Q E s₃) E s₂ := by
  rw [hs o i]
  exact wpAny_operating (wpAny_mono h₂ (fun r s₃ h₃ => wpAny_bind (wpAny_letTemporaryGo (wpAny_pure h₃))) fun _ _ x => x)
 first
  | exact wpAny_pure (wpAny_bind fin)
  | exact wpAny_bind (wpAny_pure (wpAny_bind fin))
  | exact wpAny_bind fin
def tDGet (td ty : TE) : TE := fun σ H Q => td σ H fun x H1 => ty σ H1 fun y H2 => ∃ a v, x = .ref a /\ DGet H2 a y (some v) /\ Q v H2
def tDIn (ty td : TE) : TE := fun σ H Q => ty σ H fun y H1 => td σ H1 fun x H2 => ∃ a o, x = .ref a /\ DGet H2 a y o /\ Q (.bl o.isSome) H2
def tDNotIn (ty td : TE) : TE := fun σ H Q => ty σ H fun y H1 => td σ H1 fun x H2 => ∃ a o, x = .ref a /\ DGet H2 a y o /\ Q (.bl (!o.isSome)) H2
def sDPut (td ty tv : TE) : TS := fun D σ H => tv σ H fun v H1 => td σ H1 fun x H2 => ty σ H2 fun y H3 => ∃ a H4, x = .ref a /\ DPut H3 a y v H4 /\ D.nx σ H4
def sDAug (td ty tv : TE) (rd : V -> V -> Hp -> VK -> Prop) : TS := fun D σ H => td σ H fun x H1 => ty σ H1 fun y H2 => ∃ a v, x = .ref a /\ DGet H2 a y (some v) ∧
 tv σ H2 fun y2 H3 => rd v y2 H3 fun z H4 => ∃ H5, DPut H4 a y z H5 /\ D.nx σ H5
section
variable {X : Cx} {o i e value : Expr} {pos pos' tpos : Pos} {td ty tv : TE}
theorem ps_dput (hu : X.A.units + 1 < cLine) (ho : PE X o td) (hi : PE X i ty) (hv : PE X value tv) (hs : swapsWith value (some (.Subscript o i pos')) pos.line X.env = pure false) :
  PS X (.Assign [.Subscript o i pos'] value pos) (sDPut td ty tv) := by
 intro pins s σ H D I h
 refine wpAny_Assign_Subscript (thn (hv pins s σ H _ I h) fun r s1 ⟨v, H1, I1, rv, q1⟩ => thn (ho pins s1 σ H1 _ I1 q1) fun u s2 ⟨x, H2, I2, rx, q2⟩ => thn (hi pins s2 σ H2 _ I2 q2) fun iv s3 ⟨y, H3, I3, ry, a, H4, ex, g, q3⟩ => ?_) hs
 subst ex
 obtain rfl : u = Value.ref a := rx
 exact d_setItem hu I3 g ry rv fun s4 I4 => ⟨σ, H4, I4, q3⟩
end
theorem dk_empty {P : Program} {w : World} {H : Hp} (h : Heap) (hb : sysModules < h.objs.size) : ObjOk P w H (h.push { cls := .type "dict", data := .dict #[] }) h.objs.size (.dK []) :=
 ⟨Nat.zero_le _, beq_eq_false_iff_ne.mpr (Ne.symm (Nat.ne_of_lt hb)), [], .nil, Heap.DictOf.new h⟩
def tDNewK : TE := fun _ H Q => ∀ p, H p = none -> Q (.ref p) (upd H p (.dK []))
section
variable {X : Cx} {pos : Pos}
theorem pe_dnewK : PE X (.Dict [] [] pos) tDNewK := fun pins s σ H Q I h =>
 wpAny_Dict_empty ⟨.ref s.heap.objs.size, _, I.laid (a := s.heap.objs.size) (o := .dK []) (t' := s.toks) (fun _ _ q => Heap.get?_push_of_some _ q) (Nat.le_refl _) (dk_empty s.heap I.big), rfl, h _ (I.hok.fresh (Nat.le_refl _))⟩
end
def tPairs : List (TE × TE) -> St -> Hp -> (List (V × V) -> Hp -> Prop) -> Prop
 | [], _, H, Q => Q [] H
 | (tk, tv) :: r, σ, H, Q => tk σ H fun x H1 => tv σ H1 fun y H2 => tPairs r σ H2 fun ps H3 => Q ((x, y) :: ps) H3
abbrev VV : List (V × V) -> List (Value × Value) -> Prop := Paired fun p q => RelV p.1 q.1 /\ RelV p.2 q.2
def PPs (X : Cx) (pos : Pos) (keys : List (Option Expr)) (values : List Expr) (trs : List (TE × TE)) : Prop :=
 ∀ (pins : PLs) (s : Shared) (σ : St) (H : Hp) (Q : List (V × V) -> Hp -> Prop), Inv X pins σ H s -> tPairs trs σ H Q →
  wpAny (model X.prog X.w) X.A (evalPairs (pairTrees keys values X.env pos)) (fun vs s' => ∃ ps H', Inv X pins σ H' s' /\ VV ps vs /\ Q ps H') X.xe s
def mergeK (kvs more : List (Key × V)) : List (Key × V) := more.foldl (fun acc kv => putK acc kv.1 kv.2) kvs
def tDisp (trs : List (TE × TE)) : TE := fun σ H Q => ∀ p, H p = none -> tPairs trs σ (upd H p (.dK [])) fun ps H2 => H2 p = some (.dK []) /\ ∃ kvs : List (Key × V), ps = kvs.map (fun kv => (kV kv.1, kv.2)) /\ kvs.length ≤ 15 /\ Q (.ref p) (upd H2 p (.dK (mergeK [] kvs)))
structure M1 (X : Cx) (o : Expr) (m : Str) (apos : Pos) (e : Expr) (cpos : Pos) : Prop where
 base : attributeBase o m X.env (eval o X.env) = eval o X.env
 few : ((backTo cpos (starEach [e] X.env)).all (fun x => !x.1) && (backToKw cpos (keywordEach [] X.env)).all (fun x => x.1.isSome)
  && decide (([e] : List Expr).length + ([] : List Keyword).length + (if ([] : List Keyword).isEmpty then 0 else 1) < 30)) = true
 line : (apos.endLine == cpos.line) = true
 trees : backTo cpos (starEach [e] X.env) = [(false, eval e X.env)]
structure M2 (X : Cx) (o : Expr) (m : Str) (apos : Pos) (e f : Expr) (cpos : Pos) : Prop where
 base : attributeBase o m X.env (eval o X.env) = eval o X.env
 few : ((backTo cpos (starEach [e, f] X.env)).all (fun x => !x.1) && (backToKw cpos (keywordEach [] X.env)).all (fun x => x.1.isSome)
  && decide (([e, f] : List Expr).length + ([] : List Keyword).length + (if ([] : List Keyword).isEmpty then 0 else 1) < 30)) = true
 line : (apos.endLine == cpos.line) = true
 trees : backTo cpos (starEach [e, f] X.env) = [(false, eval e X.env), (false, eval f X.env)]
def IsD (H : Hp) (a : Addr) : Prop := (∃ kvs, Rd H a (.dK kvs)) ∨ ∃ kvs, Rd H a (.dT kvs)
theorem isD_at {X : Cx} {pins : PLs} {σ : St} {H : Hp} {s : Shared} {a : Addr} (I : Inv X pins σ H s) (d : IsD H a) :
  s.TypeIs (.ref a) "dict" /\ (∀ b, Value.ref a = .ref b -> ∃ ob, s.heap.get? b = some ob /\ ob.dict = none) /\ (a == sysModules) = false := by
 rcases d with ⟨kvs, e⟩ | ⟨kvs, e⟩
 ·obtain ⟨_, hd, vs, _, dd⟩ := dk_rd I.hok e
  refine ⟨dd.typeIs, fun b q => ?_, hd⟩
  cases q
  obtain ⟨ob, _, _, h1, h2, _⟩ := dd
  exact ⟨ob, h1, h2.2.1⟩
 ·obtain ⟨_, hd, xs, _, dd⟩ := dt_rd I.hok e
  refine ⟨dd.typeIs, fun b q => ?_, hd⟩
  cases q
  obtain ⟨ob, _, _, h1, h2, _⟩ := dd
  exact ⟨ob, h1, h2.2.1⟩
section
variable {X : Cx} {pins : PLs} {σ : St} {H : Hp} {s : Shared} {a : Addr} {y d : V} {u r : Value} {o : Option V} {A : Around} {E : VSP}
theorem d_get2 {Q : VSP} (hu : A.units + 1 < cLine) (I : Inv X pins σ H s) (g : DGet H a y o) (ry : RelV y u) (rd : RelV d r) (h : ∀ w' s', Inv X pins σ H s' -> RelV (o.getD d) w' -> Q w' s') :
  wpAny (model X.prog X.w) A (call (.builtin "dict.get") [.ref a, u, r]) Q E s := by
 rcases g with ⟨kvs, k, e, ey, l⟩ | ⟨kvs, k, b, e, ey, eb, l⟩
 ·subst ey
  obtain ⟨z, hd, vs, rel, dd⟩ := dk_rd I.hok e
  refine call_meetsIn PySem.F.slot_dict_get dd.typeIs PySem.F.entry_dict_get (PySem.F.args_dict_get_3 _ _ _) (meets_dict_get_default (mixKind X.prog X.w) a (kV_is ry) hd r) ⟨_, dd.mapOf, h _ _ (I.tok _) ?_⟩
  rw [l]
  exact (rel.val k).getD rd
 ·subst ey
  cases (show u = Value.ref b from ry)
  obtain ⟨z, hd, xs, rel, dd⟩ := dt_rd I.hok e
  refine call_meetsIn PySem.F.slot_dict_get dd.typeIs PySem.F.entry_dict_get (PySem.F.args_dict_get_3 _ _ _) (meetsH_dict_get_default (tupleKind (mixKind X.prog X.w)) a b hd r) ⟨tupleKind_room_in1 hu, k, xs, key_of I.hok eb, dd, h _ _ (I.tok _) ?_⟩
  rw [l]
  exact (rel.val k).getD rd
end
def tDGet1 (td ty : TE) : TE := fun σ H Q => td σ H fun x H1 => ∃ a, x = .ref a /\ IsD H1 a /\ ty σ H1 fun y H2 => ∃ o, DGet H2 a y o /\ Q (o.getD .non) H2
def tDGet2 (td ty tx : TE) : TE := fun σ H Q => td σ H fun x H1 => ∃ a, x = .ref a /\ IsD H1 a /\ ty σ H1 fun y H2 => tx σ H2 fun z H3 => ∃ o, DGet H3 a y o /\ Q (o.getD z) H3
section
variable {X : Cx} {o e f : Expr} {apos cpos : Pos} {td ty tx : TE}
theorem pe_dget2 (hu : X.A.units + 1 < cLine) (ho : PE X o td) (he : PE X e ty) (hf : PE X f tx) (m : M2 X o "get" apos e f cpos) : PE X (.Call (.Attribute o "get" apos) [e, f] [] cpos) (tDGet2 td ty tx) := by
 intro pins s σ H Q I h
 refine wpAny_Call_method m.base m.few m.line PySem.F.plainAttrs_dict PySem.F.slot_dict_get PySem.F.type_dict_get (thn (ho pins s σ H _ I h) fun u s1 ⟨x, H1, I1, rx, a, ex, d, q1⟩ => ?_)
 subst ex
 obtain rfl : u = Value.ref a := rx
 obtain ⟨t1, t2, _⟩ := isD_at I1 d
 refine ⟨t1, t2, ?_⟩
 rw [m.trees]
 refine Calls.callWith_builtin rfl (Calls.evalArgs_plain (Calls.spliced_cons (thn (he pins s1 σ H1 _ I1 q1) fun iv s2 ⟨y, H2, I2, ry, q2⟩ =>
  Calls.spliced_cons (thn (hf pins s2 σ H2 _ I2 q2) fun fv s3 ⟨z, H3, I3, rz, ov, g, q3⟩ => Calls.spliced_nil ?_))))
 exact d_get2 hu I3 g ry rz fun w' s4 I4 rw' => ⟨_, H3, I4, rw', q3⟩
end
end L2
namespace B
open PySem PySem.Spec L2 PyProof.Rows
theorem comp_mapT {α β : Type} {K : Fg} {H : Hp} {D a : Addr} {xs : List V} {ds : List α} {P : Hp -> V -> β -> Prop} {f : α -> β} {src : List (Option Nat)} {σ : L2.St} {g : TG} {tt : TT} {te : TE} {Q : Hp -> Prop}
  (mono : ∀ H H' v d, Tst K H H' -> P H v d -> P H' v d) (hD : H D = none) (hS : SqT K H a xs) (hl : xs.length = ds.length) (hn : ds.length ≤ 1000)
  (turn : ∀ (i : Nat) (x : V) (d : α) (H' : Hp), xs[i]? = some x -> ds[i]? = some d -> Same H H' -> ∀ (R : VK) (E : Hp -> Prop), (∀ v H'', Same H' H'' -> P H'' v (f d) -> R v H'') →
   g x (frees src σ) H' fun σ2 H2 => Ext (frees src σ) σ2 /\ tt σ2 H2 fun ok H3 => if ok = true then te σ2 H3 R else E H3)
  (fin : ∀ H' ys, Same H H' -> H' D = some (.lst ys) -> Als (P H') ys (ds.map f) -> Q H') :
  ∃ W : Nat -> Nat -> List V -> Hp -> Prop, (∃ m, W 0 m [] (upd H D (.lst []))) /\ ∀ i m ys H, W i m ys H -> ((Itt K a).stop i H /\ Q H) ∨ ((Itt K a).go i H /\ ∀ x H', (Itt K a).yld i H x H' →
   g x (frees src σ) H' fun σ2 H2 => Ext (frees src σ) σ2 /\ tt σ2 H2 fun ok H3 =>
    if ok = true then te σ2 H3 fun y H4 => H4 D = some (.lst ys) /\ ys.length < sizeLine /\ ∃ m', m' < m /\ W (i + 1) m' (ys ++ [y]) (upd H4 D (.lst (ys ++ [y]))) else ∃ m', m' < m /\ W (i + 1) m' ys H3) := by
 refine ⟨fun i m ys H' => i ≤ ds.length /\ m = ds.length - i /\ H' D = some (.lst ys) /\ Same H H' /\ Als (P H') ys ((ds.take i).map f), ⟨_, Nat.zero_le _, rfl, upd_same, same_new hD _, .nil⟩, ?_⟩
 rintro i m ys H1 ⟨hi, rfl, d1, s1, al1⟩
 have hS1 : SqT K H1 a xs := Tst.same s1 _ _ hS
 by_cases hix : i < ds.length
 ·have hx0 : xs[i]? = some (xs[i]'(by omega)) := List.getElem?_eq_getElem _
  refine .inr ⟨⟨xs, _, hS1, hx0⟩, ?_⟩
  rintro x H2 ⟨rfl, hy⟩
  have hx := hy xs hS1
  obtain ⟨d, hd⟩ : ∃ d, ds[i]? = some d := ⟨_, List.getElem?_eq_getElem hix⟩
  refine turn i x d _ hx hd s1 _ _ fun v H3 s3 p3 => ?_
  have d3 : H3 D = some (.lst ys) := s3 _ _ d1
  have tm : Tst K H2 (upd H3 D (.lst (ys ++ [v]))) := (Tst.same s3).trans (Tst.up d3 _)
  refine ⟨d3, small1000 (by rw [al1.len, List.length_map, List.length_take]; omega), ds.length - (i + 1), by omega, hix, rfl, upd_same, fun b o q => ?_, ?_⟩
  ·rw [upd_ne (ne_of_none q hD)]
   exact s3 _ _ (s1 _ _ q)
  ·rw [List.take_add_one, hd, List.map_append]
   exact (al1.mono fun v d p => mono _ _ _ _ tm p).snoc (mono _ _ _ _ (Tst.up d3 _) p3)
 ·have e : i = ds.length := by omega
  subst e
  rw [List.take_length] at al1
  exact .inl ⟨⟨xs, hS1, by omega⟩, fin H1 ys s1 d1 al1⟩
def tyD : PyData -> String
 | .none => "NoneType"
 | .bool _ => "bool"
 | .int _ => "int"
 | .str _ => "str"
 | .list _ => "list"
 | .tuple _ => "tuple"
 | .dict _ => "dict"
def rIsiD (K : Fg) : List V -> Hp -> VK -> Prop := fun xs H Q => ∃ v d n b, xs = [v, .ty n] /\ Deep K H v d /\ kitTT (tyD d) n = some b /\ Q (.bl b) H
theorem call_isiD {X : Cx} : CallR X (.builtin "isinstance") (rIsiD X.K) := by
 intro pins s σ H xs us Q I r h
 obtain ⟨v, d, n, b, rfl, hD, e, q⟩ := h
 cases hD with
 | non => exact call_isi pins s σ H _ us Q I r ⟨_, n, _, b, rfl, .non, e, q⟩
 | bl c => exact call_isi pins s σ H _ us Q I r ⟨_, n, _, b, rfl, .bl c, e, q⟩
 | int i => exact call_isi pins s σ H _ us Q I r ⟨_, n, _, b, rfl, .int i, e, q⟩
 | str x => exact call_isi pins s σ H _ us Q I r ⟨_, n, _, b, rfl, .str x, e, q⟩
 | @tup a ys ds hS hA => exact call_isiT pins s σ H _ us Q I r ⟨a, ys, n, b, rfl, hS, e, q⟩
 | @lst a ys ds hS hA =>
  obtain ⟨u, u2, rfl, rx, ry⟩ := vals2 r
  obtain rfl : u2 = Value.type n := ry
  cases (show u = Value.ref a from rx)
  obtain ⟨its, _, ⟨o, k, h1, h2, _⟩, _⟩ := I.list hS
  exact PySem.W.kia_one PySem.W.kitx_list I.kIn ⟨o, h1, h2⟩ (kit_of e) (fun z => nomatch z) fun tk => ⟨.bl b, H, I.tok tk, rfl, q⟩
def wholeD : PyData -> Bool
 | .int _ => true
 | _ => false
def tupD (n : Nat) : PyData -> Bool
 | .tuple xs => decide (xs.length = n)
 | _ => false
def ratD : PyData -> Bool
 | .tuple [.int a, .int b] => decide (1 ≤ b) && decide (Int.gcd a b = 1)
 | _ => false
def pairD : PyData -> Bool
 | .tuple [x, y] => ratD x && ratD y
 | _ => false
theorem isi_int {K : Fg} {H : Hp} {v : V} {d : PyData} (h : Deep K H v d) : ∃ b c, kitTT (tyD d) "int" = some b /\ kitTT (tyD d) "bool" = some c /\ wholeD d = (b && !c) := by
 cases h with
 | non => exact ⟨false, false, by simp only [tyD]; decide +kernel, by simp only [tyD]; decide +kernel, rfl⟩
 | bl b => exact ⟨true, true, by simp only [tyD]; decide +kernel, by simp only [tyD]; decide +kernel, rfl⟩
 | int i => exact ⟨true, false, by simp only [tyD]; decide +kernel, by simp only [tyD]; decide +kernel, rfl⟩
 | str x => exact ⟨false, false, by simp only [tyD]; decide +kernel, by simp only [tyD]; decide +kernel, rfl⟩
 | lst e t => exact ⟨false, false, by simp only [tyD]; decide +kernel, by simp only [tyD]; decide +kernel, rfl⟩
 | tup e t => exact ⟨false, false, by simp only [tyD]; decide +kernel, by simp only [tyD]; decide +kernel, rfl⟩
theorem isi_tup {K : Fg} {H : Hp} {v : V} {d : PyData} (h : Deep K H v d) : (kitTT (tyD d) "tuple" = some true /\ ∃ a xs ds, v = .ref a /\ d = .tuple ds /\ SqT K H a xs /\ DeepAll K H xs ds) ∨ (kitTT (tyD d) "tuple" = some false /\ ∀ ds, d ≠ .tuple ds) := by
 cases h with
 | non => exact .inr ⟨by simp only [tyD]; decide +kernel, fun _ z => nomatch z⟩
 | bl b => exact .inr ⟨by simp only [tyD]; decide +kernel, fun _ z => nomatch z⟩
 | int i => exact .inr ⟨by simp only [tyD]; decide +kernel, fun _ z => nomatch z⟩
 | str x => exact .inr ⟨by simp only [tyD]; decide +kernel, fun _ z => nomatch z⟩
 | lst e t => exact .inr ⟨by simp only [tyD]; decide +kernel, fun _ z => nomatch z⟩
 | tup e t => exact .inl ⟨by simp only [tyD]; decide +kernel, _, _, _, rfl, rfl, e, t⟩
theorem tupD_no {d : PyData} {n : Nat} (h : ∀ ds, d ≠ .tuple ds) : tupD n d = false := by
 cases d <;> first | rfl | exact absurd rfl (h _)
theorem DeepAll.len {K : Fg} {H : Hp} : ∀ {xs : List V} {ds : List PyData}, DeepAll K H xs ds -> xs.length = ds.length
 | _, _, .nil => rfl
 | _, _, .cons _ t => congrArg Nat.succ t.len
theorem Deep.two {K : Fg} {H : Hp} {v : V} {d : PyData} (h : Deep K H v d) (c : tupD 2 d = true) : ∃ a x y dx dy, v = .ref a /\ d = .tuple [dx, dy] /\ SqT K H a [x, y] /\ Deep K H x dx /\ Deep K H y dy := by
 cases h with
 | @tup a xs ds e t =>
  have l : ds.length = 2 := of_decide_eq_true c
  cases t with
  | nil => cases l
  | cons hx t => cases t with
   | nil => cases l
   | cons hy t => cases t with
    | nil => exact ⟨a, _, _, _, _, rfl, rfl, e, hx, hy⟩
    | cons hz t => simp at l
 | _ => cases c
theorem ratD_no {d : PyData} (h : tupD 2 d = false) : ratD d = false := by
 cases c : ratD d with
 | false => rfl
 | true =>
  unfold ratD at c
  split at c
  ·cases h
  ·cases c
theorem pairD_no {d : PyData} (h : tupD 2 d = false) : pairD d = false := by
 cases c : pairD d with
 | false => rfl
 | true =>
  unfold pairD at c
  split at c
  ·cases h
  ·cases c
structure Sh (k n : Nat) (d : PyData) : Prop where
 sh : d.showable = true
 nd : d.hasDict = false
 dp : d.depth ≤ k
 sz : d.shown.length ≤ n
mutual
theorem Deep.same {K : Fg} {H H' : Hp} (s : Same H H') : ∀ {v : V} {d : PyData}, Deep K H v d -> Deep K H' v d
 | _, _, .non => .non
 | _, _, .bl b => .bl b
 | _, _, .int i => .int i
 | _, _, .str x => .str x
 | _, _, .lst e t => .lst (s.seq e) (DeepAll.same s t)
 | _, _, .tup e t => .tup (Tst.same s _ _ e) (DeepAll.same s t)
theorem DeepAll.same {K : Fg} {H H' : Hp} (s : Same H H') : ∀ {vs : List V} {ds : List PyData}, DeepAll K H vs ds -> DeepAll K H' vs ds
 | _, _, .nil => .nil
 | _, _, .cons h t => .cons (Deep.same s h) (DeepAll.same s t)
end
theorem op_notB {X : Cx} : OpR X (compareOp .IsNot) (fun x y H Q => ∃ b c, x = .bl b /\ y = .bl c /\ Q (.bl (!decide (b = c))) H) := by
 intro pins s σ H x y v u Q I rx ry h
 obtain ⟨b, c, rfl, rfl, q⟩ := h
 obtain rfl : v = Value.bool b := rx
 obtain rfl : u = Value.bool c := ry
 refine wpAny_isNot_plain (by cases b <;> cases c <;> rfl) ⟨.bl _, H, I, ?_, q⟩
 cases b <;> cases c <;> rfl
end B
namespace B
open PySem PySem.Spec L2 PyProof.Rows
def rCatU (K : Fg) : R2 := fun x y H Q => ∃ a b xs ys, x = .ref a /\ y = .ref b /\ SqT K H a xs /\ SqT K H b ys /\ xs.length + ys.length ≤ sizeLine /\ ∀ p H', Same H H' -> SqT K H' p (xs ++ ys) -> Q (.ref p) H'
def rSlU (K : Fg) : V -> Option Int -> Option Int -> Hp -> VK -> Prop := fun x lo hi H Q => ∃ a xs, x = .ref a /\ SqT K H a xs /\ ∀ p H', Same H H' -> SqT K H' p (cutV xs lo hi) -> Q (.ref p) H'
theorem sl_tupU {X : Cx} : SlR X (rSlU X.K) := by
 intro pins s σ H x v vl vu lo hi sl Q I rx hs pl pu h
 obtain ⟨a, xs, rfl, hx, q⟩ := h
 refine sl_tupA pins s σ H _ v vl vu lo hi sl Q I rx hs pl pu ?_
 by_cases c : HT.sIx xs.length 0 lo = 0 /\ HT.sIx xs.length xs.length hi = xs.length
 ·refine .inl ⟨a, xs, rfl, hx, c.1, c.2, q a H (Same.refl H) ?_⟩
  have e : cutV xs lo hi = xs := by
   unfold cutV
   rw [c.1, c.2, List.drop_zero, Nat.sub_zero, List.take_length]
  rw [e]
  exact hx
 ·exact .inr ⟨a, xs, rfl, hx, c, fun p hp => q p _ (same_new hp _) (SqT.of upd_same)⟩
def Stat (K : Fg) (s : Addr) : Prop := ∃ ns : List Int, ns.length ≤ 63 /\ ∀ H : Hp, SqL K H s (ns.map V.int)
structure Tape3 (K : Fg) (H : Hp) (t s : Addr) : Prop where
 ex : ∃ (ns : List Int) (p q : Int), H t = some (.lst [.ref s, .int p, .int q]) /\ ((Rd H s (.lst (ns.map V.int)) /\ s ≠ t) ∨ ∀ H', SqL K H' s (ns.map V.int)) /\ ns.length ≤ 63 /\ 0 ≤ p /\ 0 ≤ q
def sp_tape3 (K : Fg) : Sp := fun vs H Q _ => ∃ (a : Addr) (ns : List Int), vs = [.ref a] /\ SqL K H a (ns.map V.int) /\ ns.length ≤ 63 /\ ∀ (t : Addr) (H' : Hp), Same H H' -> H t = none -> Tape3 K H' t a -> Q (.ref t) H'
def sp_draw3 (K : Fg) : Sp := fun vs H Q _ => ∃ (t s : Addr) (m : Int), vs = [.ref t, .int m] /\ Tape3 K H t s /\ 0 < m /\ m < 1073741824 /\ ∀ (r : Int) (xs : List V), 0 ≤ r -> r < m -> Tape3 K (upd H t (.lst xs)) t s -> Q (.int r) (upd H t (.lst xs))
section
set_option autoImplicit true
set_option relaxedAutoImplicit true
theorem qi_enum  {X : Cx} {elts : List Expr} {x1} {tp p pos : Pos} {a : Expr} {ta : TA} (hg : Gl X "enumerate") (hm : X.mg "enumerate" = none) (ha : QA X [a] ta) (hs : starEach [a] X.env = [(false, eval a X.env)] := by rfl) : QI X (.Tuple elts x1 tp) (.Call (.Name "enumerate" p) [a] [] pos) (iEnT X.K ta) := ⟨pi_enum hg hm ha.p hs⟩
theorem qi_enumL  {X : Cx} {elts : List Expr} {x1} {tp p pos : Pos} {a : Expr} {ta : TA} (hg : Gl X "enumerate") (hm : X.mg "enumerate" = none) (ha : QA X [a] ta) (hs : starEach [a] X.env = [(false, eval a X.env)] := by rfl) : QI X (.Tuple elts x1 tp) (.Call (.Name "enumerate" p) [a] [] pos) (iEnL X.K ta) := ⟨pi_enumL hg hm ha.p hs⟩
end
theorem bools_at : ∀ {bs : List Bool} {us : List Value}, Vals (bs.map V.bl) us -> ∀ {i : Nat} {v : Value}, us[i]? = some v -> v = .bool (bs.getD i true)
 | [], _, .nil, i, v, e => by cases e
 | b :: bs, _, .cons r t, 0, v, e => by
  rw [List.getElem?_cons_zero] at e
  cases e
  exact (show _ = Value.bool b from r)
 | b :: bs, _, .cons r t, i + 1, v, e => by
  rw [List.getElem?_cons_succ] at e
  exact bools_at t e
theorem all_range : ∀ (bs : List Bool), (List.range bs.length).all (fun i => bs.getD i true) = bs.all id
 | [] => rfl
 | b :: bs => by
  rw [List.length_cons, List.range_succ_eq_map, List.all_cons, List.all_map, List.all_cons]
  have := all_range bs
  show (b && (List.range bs.length).all (fun i => bs.getD i true)) = (id b && bs.all id)
  rw [this]; rfl
theorem call_allL {X : Cx} (hc : X.calm = true) : CallR X (.builtin "all") (fun xs H Q => ∃ (p : Addr) (bs : List Bool), xs = [.ref p] /\ SqL X.K H p (bs.map V.bl) /\ Q (.bl (bs.all id)) H) := by
 intro pins s σ H xs us Q I r h
 obtain ⟨p, bs, rfl, hq, q⟩ := h
 obtain ⟨u, rfl, rx⟩ := vals1 r
 cases rx
 obtain ⟨its, rv, pl, hz⟩ := I.list hq
 have ne : p ≠ s.heap.objs.size := by
  obtain ⟨o, ho, _⟩ := pl.isList
  exact Nat.ne_of_lt (Heap.lt_size ho)
 have hlen : its.toArray.size = bs.length := by rw [List.size_toArray, ← rv.length, List.length_map]
 refine call_all_walk (wpAny_pyIter_list pl.isList ?_)
 refine ⟨_, _, _, _, _, _, fun i => bs.getD i true, rfl, Walks.list (A := X.A.in1) (I.ok.hd hc) _ p ne its.toArray, ⟨⟨_, Heap.get?_push_size _ rfl, rfl, rfl⟩, pl.isList.push _⟩, fun i v s' Q' E' hv hQ => ?_, fun h' tk hk => ?_⟩
 ·have e := bools_at rv (i := i) (v := v) (by simpa using hv)
  subst e
  exact wpAny_truthy_bool hQ
 ·rw [hlen, all_range]
  refine ⟨.bl _, H, I.kept (t' := tk) fun b o e => hk b o (fun z => ?_) (Heap.get?_push_of_some _ e), rfl, q⟩
  rw [List.mem_singleton.mp z] at e
  exact absurd (Heap.lt_size e) (Nat.lt_irrefl _)
section
variable {prog : Program} {w : World} {A : Around} {E : VSP} {s : Shared}
end
def upTo (n : Nat) : List Int := (List.range n).map fun i : Nat => (i : Int)
def tRng1 (ta : TA) : TE := fun σ H Q => ta σ H fun vs H1 => ∃ j : Int, vs = [.int j] /\ ∀ p, H1 p = none -> Q (.ref p) (upd H1 p (.rng 0 j))
def Itd (hi : Int) (n : Nat) : It := ⟨fun i _ => i < n, fun i H x H' => H' = H /\ x = .int (hi - i), fun i _ => n ≤ i⟩
def iRngD (ta : TA) : TI := fun σ H R => ta σ H fun vs H1 => ∃ i j : Int, vs = [.int i, .int j, .int (-1)] /\ (-1000 ≤ i /\ i ≤ 1000 /\ -1000 ≤ j /\ j ≤ 1000) /\ R (Itd i (i - j).toNat) H1
section
set_option autoImplicit true
set_option relaxedAutoImplicit true
end
structure Wlk (J : It) (H : Hp) (n : Nat) (P : Nat -> V -> Hp -> Prop) : Prop where
 go : ∀ i H', i < n -> Same H H' -> J.go i H'
 stop : ∀ H', Same H H' -> J.stop n H'
 yld : ∀ i H' x H'', i < n -> Same H H' -> J.yld i H' x H'' -> Same H' H'' /\ P i x H''
theorem wlk_lst {K : Fg} {H : Hp} {a : Addr} {xs : List V} (h : SqL K H a xs) : Wlk (Itl K a) H xs.length (fun i x _ => xs[i]? = some x) where
 go := fun i H' hi s => ⟨xs, _, s.seq h, List.getElem?_eq_getElem hi⟩
 stop := fun H' s => ⟨xs, s.seq h, Nat.le_refl _⟩
 yld := fun i H' x H'' hi s y => by obtain ⟨rfl, hy⟩ := y; exact ⟨Same.refl _, hy xs (s.seq h)⟩
theorem wlk_tup {K : Fg} {H : Hp} {a : Addr} {xs : List V} (h : SqT K H a xs) : Wlk (Itt K a) H xs.length (fun i x _ => xs[i]? = some x) where
 go := fun i H' hi s => ⟨xs, _, Tst.same s _ _ h, List.getElem?_eq_getElem hi⟩
 stop := fun H' s => ⟨xs, Tst.same s _ _ h, Nat.le_refl _⟩
 yld := fun i H' x H'' hi s y => by obtain ⟨rfl, hy⟩ := y; exact ⟨Same.refl _, hy xs (Tst.same s _ _ h)⟩
theorem comp_ix {J : It} {H : Hp} {D : Addr} {n : Nat} {P : Nat -> V -> Hp -> Prop} (w : Wlk J H n P) (c : Nat -> Bool) (f : Nat -> V) {src : List (Option Nat)} {σ : L2.St} {g : TG} {tt : TT} {te : TE} {Q : Hp -> Prop} (hD : H D = none) (hn : n ≤ 1000)
  (turn : ∀ (i : Nat) (x : V) (H' : Hp), i < n -> Same H H' -> P i x H' -> ∀ (R : VK) (E : Hp -> Prop), (c i = true -> ∀ H'', Same H' H'' -> R (f i) H'') -> (c i = false -> ∀ H'', Same H' H'' -> E H'') →
   g x (frees src σ) H' fun σ2 H2 => Ext (frees src σ) σ2 /\ tt σ2 H2 fun ok H3 => if ok = true then te σ2 H3 R else E H3)
  (fin : ∀ H', Same H H' -> H' D = some (.lst (((List.range n).filter c).map f)) -> Q H') :
  ∃ W : Nat -> Nat -> List V -> Hp -> Prop, (∃ m, W 0 m [] (upd H D (.lst []))) /\ ∀ i m ys H, W i m ys H -> (J.stop i H /\ Q H) ∨ (J.go i H /\ ∀ x H', J.yld i H x H' →
   g x (frees src σ) H' fun σ2 H2 => Ext (frees src σ) σ2 /\ tt σ2 H2 fun ok H3 =>
    if ok = true then te σ2 H3 fun y H4 => H4 D = some (.lst ys) /\ ys.length < sizeLine /\ ∃ m', m' < m /\ W (i + 1) m' (ys ++ [y]) (upd H4 D (.lst (ys ++ [y]))) else ∃ m', m' < m /\ W (i + 1) m' ys H3) := by
 refine ⟨fun i m ys H' => i ≤ n /\ m = n - i /\ ys = ((List.range i).filter c).map f /\ Same H H' /\ H' D = some (.lst ys), ⟨_, Nat.zero_le _, rfl, rfl, same_new hD _, upd_same⟩, ?_⟩
 rintro i m ys H1 ⟨hi, rfl, rfl, s1, d1⟩
 by_cases hix : i < n
 ·refine .inr ⟨w.go i H1 hix s1, fun x H2 y => ?_⟩
  obtain ⟨s2, p⟩ := w.yld i H1 x H2 hix s1 y
  have d2 := s2 _ _ d1
  have len : (((List.range i).filter c).map f).length ≤ i := by
   rw [List.length_map]
   exact Nat.le_trans (List.length_filter_le _ _) (by rw [List.length_range]; exact Nat.le_refl _)
  refine turn i x H2 hix (s1.trans s2) p _ _ (fun hc H3 s3 => ?_) fun hc H3 s3 => ?_
  ·have d3 := s3 _ _ d2
   refine ⟨d3, small1000 (by omega), n - (i + 1), by omega, hix, rfl, ?_, fun b o q => ?_, upd_same⟩
   ·rw [List.range_succ, List.filter_append, List.map_append]
    simp [hc]
   ·rw [upd_ne (ne_of_none q hD)]
    exact s3 _ _ (s2 _ _ (s1 _ _ q))
  ·refine ⟨n - (i + 1), by omega, hix, rfl, ?_, (s1.trans s2).trans s3, s3 _ _ d2⟩
   rw [List.range_succ, List.filter_append, List.map_append]
   simp [hc]
 ·have e : i = n := by omega
  subst e
  exact .inl ⟨w.stop H1 s1, fin H1 s1 d1⟩
theorem by_place {α β : Type} (d : α) (p : α -> Bool) (f : α -> β) : ∀ l : List α, ((List.range l.length).filter fun i => p (l.getD i d)).map (fun i => f (l.getD i d)) = (l.filter p).map f
 | [] => rfl
 | x :: l => by
  have ih := by_place d p f l
  rw [List.length_cons, List.range_succ_eq_map, List.filter_cons, List.filter_cons]
  have e : (((List.range l.length).map Nat.succ).filter fun i => p ((x :: l).getD i d)).map (fun i => f ((x :: l).getD i d)) = (l.filter p).map f := by
   rw [List.filter_map, List.map_map]
   exact ih
  show (if p x = true then _ else _ : List Nat).map _ = _
  cases hp : p x with
  | true =>
   simp only [if_true, List.map_cons]
   rw [e]; rfl
  | false =>
   simp only [Bool.false_eq_true, if_false]
   exact e
theorem by_place_all {α β : Type} (d : α) (f : α -> β) (l : List α) : ((List.range l.length).filter fun _ => true).map (fun i => f (l.getD i d)) = l.map f := by
 have := by_place d (fun _ => true) f l
 rw [this, List.filter_eq_self.mpr (by intros; rfl)]
theorem getD_of {α : Type} {l : List α} {i : Nat} {x : α} (d : α) (h : l[i]? = some x) : l.getD i d = x := by rw [List.getD_eq_getElem?_getD, h]; rfl
section
variable {prog : Program} {w : World} {A : Around} {E : VSP} {s : Shared}
end
theorem hit_is {h : Heap} {x y : Value} {d e : PyData} {as bs : List Addr} (rx : Reads h x d as) (ry : Reads h y e bs) (cd : d.canLay0 = true) (ce : e.canLay0 = true) (dp : e.depth ≤ 32) (rf : PyData.eqv d d = true) : hitAt h x d y = PyData.eqv e d := by
 unfold hitAt
 by_cases q : y = x
 ·subst q
  rw [if_pos rfl, SeqAt.Reads.unique _ _ _ _ _ ce ry rx, rf]
 ·have z : ∃ d', d'.canLay0 = true /\ d'.depth ≤ 32 /\ ∃ as, Reads h y d' as := ⟨e, ce, dp, bs, ry⟩
  rw [if_neg q, dif_pos z]
  obtain ⟨c, _, cs, r⟩ := z.choose_spec
  rw [SeqAt.Reads.unique _ _ _ _ _ ce ry r]
def Lays (ds : List PyData) : Prop := ∀ e ∈ ds, e.canLay0 = true /\ e.depth ≤ 32
theorem hits_map {X : Cx} {pins : PLs} {σ : L2.St} {H : Hp} {s : Shared} (I : Inv X pins σ H s) {v : Value} {d : PyData} {as : List Addr} (rx : Reads s.heap v d as) (cd : d.canLay0 = true) (rf : PyData.eqv d d = true) :
  ∀ {xs : List V} {us : List Value} {ds : List PyData}, Vals xs us -> DeepAll X.K H xs ds -> Lays ds -> us.map (hitAt s.heap v d) = ds.map fun e => PyData.eqv e d
 | _, _, _, .nil, .nil, _ => rfl
 | _, _, _, .cons r t, .cons h k, l => by
  obtain ⟨bs, ry⟩ := Deep.reads I h r
  obtain ⟨ce, dp⟩ := l _ List.mem_cons_self
  rw [List.map_cons, List.map_cons, hit_is rx ry cd ce dp rf, hits_map I rx cd rf t k fun e he => l e (List.mem_cons_of_mem _ he)]
theorem DeepAll.known {K : Fg} {H : Hp} : ∀ {xs : List V} {ds : List PyData}, DeepAll K H xs ds -> Lays ds -> Known K H xs
 | _, _, .nil, _, x, hx => by cases hx
 | _, _, .cons h t, l, x, hx => by
  rcases List.mem_cons.mp hx with rfl | hx
  ·obtain ⟨a, b⟩ := l _ List.mem_cons_self
   exact ⟨_, h, a, b⟩
  ·exact DeepAll.known t (fun e he => l e (List.mem_cons_of_mem _ he)) x hx
def rInD (K : Fg) : R2 := fun x y H Q => ∃ p xs ds d, y = .ref p /\ SqL K H p xs /\ DeepAll K H xs ds /\ Lays ds /\ Deep K H x d /\ d.canLay0 = true /\ PyData.eqv d d = true /\ Q (.bl (ds.any fun e => PyData.eqv e d)) H
def rNotInD (K : Fg) : R2 := fun x y H Q => ∃ p xs ds d, y = .ref p /\ SqL K H p xs /\ DeepAll K H xs ds /\ Lays ds /\ Deep K H x d /\ d.canLay0 = true /\ PyData.eqv d d = true /\ Q (.bl (!ds.any fun e => PyData.eqv e d)) H
theorem any_of_map {α β : Type} {f : α -> Bool} {g : β -> Bool} : ∀ {l : List α} {m : List β}, l.map f = m.map g -> l.any f = m.any g
 | [], [], _ => rfl
 | [], _ :: _, h => by simp at h
 | _ :: _, [], h => by simp at h
 | a :: l, b :: m, h => by
  rw [List.map_cons, List.map_cons] at h
  injection h with h1 h2
  rw [List.any_cons, List.any_cons, h1, any_of_map h2]
theorem op_inD {X : Cx} {k : Nat} (hr : Room k X.A) : OpR X (compareOp .In) (rInD X.K) := by
 intro pins s σ H x y v u Q I rx ry h
 obtain ⟨p, xs, ds, d, rfl, hq, hd, ls, hx, cd, rf, q⟩ := h
 cases ry
 obtain ⟨its, r, pl, hz⟩ := I.list hq
 obtain ⟨as, ra⟩ := Deep.reads I hx rx
 refine SeqAt.in_listAt (hitAt s.heap v d) pl.isList (fun w hw => hitAt_eq ra cd (by show X.A.units + 1 + 32 < cLine; have := hr.units; omega) (known_reads I r (hd.known ls) w (by simpa using hw))) ⟨_, H, I, ?_, q⟩
 show Value.bool (its.toArray.any (hitAt s.heap v d)) = Value.bool (ds.any fun e => PyData.eqv e d)
 rw [List.any_toArray, any_of_map (hits_map I ra cd rf r hd ls)]
theorem op_notInD {X : Cx} {k : Nat} (hr : Room k X.A) : OpR X (compareOp .NotIn) (rNotInD X.K) := by
 intro pins s σ H x y v u Q I rx ry h
 obtain ⟨p, xs, ds, d, rfl, hq, hd, ls, hx, cd, rf, q⟩ := h
 cases ry
 obtain ⟨its, r, pl, hz⟩ := I.list hq
 obtain ⟨as, ra⟩ := Deep.reads I hx rx
 refine SeqAt.notIn_listAt (hitAt s.heap v d) pl.isList (fun w hw => hitAt_eq ra cd (by show X.A.units + 1 + 32 < cLine; have := hr.units; omega) (known_reads I r (hd.known ls) w (by simpa using hw))) ⟨_, H, I, ?_, q⟩
 show Value.bool (!its.toArray.any (hitAt s.heap v d)) = Value.bool (!ds.any fun e => PyData.eqv e d)
 rw [List.any_toArray, any_of_map (hits_map I ra cd rf r hd ls)]
def rInDT (K : Fg) : R2 := fun x y H Q => ∃ p xs ds d, y = .ref p /\ SqT K H p xs /\ DeepAll K H xs ds /\ Lays ds /\ Deep K H x d /\ d.canLay0 = true /\ PyData.eqv d d = true /\ Q (.bl (ds.any fun e => PyData.eqv e d)) H
def rIndexD (K : Fg) : V -> List V -> Hp -> VK -> Prop := fun x vs H Q => ∃ p xs ds w d, x = .ref p /\ vs = [w] /\ SqL K H p xs /\ DeepAll K H xs ds /\ Lays ds /\ Deep K H w d /\ d.canLay0 = true /\ PyData.eqv d d = true /\ (∃ e ∈ ds, PyData.eqv e d = true) ∧
 ∀ (j : Nat) (e : PyData), ds[j]? = some e -> PyData.eqv e d = true -> (∀ m f, m < j -> ds[m]? = some f -> PyData.eqv f d = false) -> Q (.int j) H
theorem at_of_map {α β γ : Type} {f : α -> γ} {g : β -> γ} {l : List α} {m : List β} (h : l.map f = m.map g) {j : Nat} {a : α} {b : β} (ha : l[j]? = some a) (hb : m[j]? = some b) : f a = g b := by
 have e : (l.map f)[j]? = (m.map g)[j]? := by rw [h]
 rw [List.getElem?_map, List.getElem?_map, ha, hb] at e
 exact Option.some.inj e
theorem mt_indexD {X : Cx} {k : Nat} (hr : Room k X.A) : MtR X "list.index" (rIndexD X.K) := by
 intro pins s σ H x vs v us Q I rx rv h
 obtain ⟨p, xs, ds, w, d, rfl, rfl, hq, hd, ls, hx, cd, rf, ex, q⟩ := h
 cases (show v = Value.ref p from rx)
 obtain ⟨u, rfl, ru⟩ := rv.one
 obtain ⟨its, r, pl, hz⟩ := I.list hq
 obtain ⟨⟨cls, dd, data, sl⟩, ho, hc, n, hdt⟩ := id pl.isList
 simp only at hc hdt
 subst hc hdt
 obtain ⟨as, ra⟩ := Deep.reads I hx ru
 have mp := hits_map I ra cd rf r hd ls
 have hl := r.length
 have hl2 := hd.len
 have l12 : its.length = ds.length := by omega
 obtain ⟨e, he, eh⟩ := ex
 have some_hit : ∃ y ∈ its, hitAt s.heap u d y = true := by
  obtain ⟨j, hj⟩ := List.getElem?_of_mem he
  have hjl := (List.getElem?_eq_some_iff.mp hj).1
  have hy : its[j]? = some (its[j]'(by omega)) := List.getElem?_eq_getElem _
  exact ⟨_, List.mem_of_getElem? hy, (at_of_map mp hy hj).trans eh⟩
 obtain ⟨j, hj, e1, e2⟩ := first_hit (hitAt s.heap u d) its some_hit
 have hs : sizeLine < 2 ^ 63 - 1 := by decide
 refine call_meets PySem.F.slot_list_index ⟨_, ho, rfl⟩ PySem.F.entry_list_index (PySem.F.args_list_index_2 _ _)
  (SeqAt.list_indexAt p its.toArray n dd sl u (hitAt s.heap u d) j (by simpa using hj) (by omega) (by simpa using e1) (fun m hm' hlt => by simpa using e2 m (by simpa using hm') hlt))
  ⟨ho, fun y hy => hitAt_eq ra cd (by show X.A.units + 1 + 32 < cLine; have := hr.units; omega) (known_reads I r (hd.known ls) y (by simpa using hy)), ⟨.int j, H, I.tok _, ⟨_, rfl⟩, ?_⟩⟩
 have dj : ds[j]? = some (ds[j]'(by omega)) := List.getElem?_eq_getElem _
 have ij : its[j]? = some (its[j]'hj) := List.getElem?_eq_getElem _
 refine q j _ dj ((at_of_map mp ij dj).symm.trans e1) fun m f hm hf => ?_
 have hml := (List.getElem?_eq_some_iff.mp hf).1
 have im : its[m]? = some (its[m]'(by omega)) := List.getElem?_eq_getElem _
 exact (at_of_map mp im hf).symm.trans (e2 m (by omega) hm)
theorem fits_ix {j : Nat} (h : j ≤ 16777216) : Builtin.List.listFitsIndex (j : Int) = true := by
 unfold Builtin.List.listFitsIndex
 have e : (2 : Int) ^ 63 = 9223372036854775808 := by decide
 rw [e, Bool.and_eq_true, decide_eq_true_iff, decide_eq_true_iff]
 omega
theorem ins_meets (l : Addr) (its : Array Value) (n : Nat) (x : Int) (tk : Tok) (u2 : Value) (hc : Builtin.List.listFitsIndex x = true) (hsz : its.size ≤ sizeLine) :
  Meets (Builtin.«list.insert» ⟨[.ref l, .int x tk, u2], []⟩) (fun _ R s => s.heap.get? l = some { cls := .type "list", dict := none, data := .seq its n, slots := #[] } /\ R (.ok (.ret Value.none)) { s with heap := s.heap.update l (Obj.mapSeq fun xs => have k := if x < 0 then (x + ((xs.size : Nat) : Int)).toNat else min x.toNat xs.size; (xs.extract 0 k).push u2 ++ xs.extract k), toks := s.toks }) := by
 apply AutoListH.list_insert_list_int_val_1
 ·rw [hc]; simp
 ·exact hsz
def rInsert : V -> List V -> Hp -> VK -> Prop := fun x vs H Q => ∃ (l : Addr) (xs : List V) (j : Nat) (y : V), x = .ref l /\ vs = [.int j, y] /\ H l = some (.lst xs) /\ j ≤ xs.length /\ xs.length < sizeLine /\ Q .non (upd H l (.lst (xs.take j ++ y :: xs.drop j)))
theorem mt_insert {X : Cx} : MtM X "list.insert" rInsert := by
 intro pins s σ H x vs v us Q I rx rv h
 obtain ⟨l, xs, j, y, rfl, rfl, hH, hj, hz, q⟩ := h
 cases rx
 obtain ⟨u, u2, rfl, ru, ru2⟩ := vals2 rv
 obtain ⟨tk, rfl⟩ := (show ∃ t, u = Value.int j t from ru)
 obtain ⟨z, its, n, r, hl, e⟩ := I.lstM hH
 have hlen := r.length
 have sl : sizeLine = 16777216 := by decide
 have hsz : its.toArray.size ≤ sizeLine := by rw [List.size_toArray]; omega
 have hfi : Builtin.List.listFitsIndex (j : Int) = true := fits_ix (show j ≤ 16777216 by omega)
 generalize hx : (j : Int) = x at hfi
 have M := ins_meets l its.toArray n x tk u2 hfi hsz
 refine call_meets PySem.F.slot_list_insert ⟨_, e, rfl⟩ PySem.F.entry_list_insert (PySem.F.args_list_insert_3 _ _ _) M ⟨e, ?_⟩
 have hv : Vals (xs.take j ++ y :: xs.drop j) (its.take j ++ u2 :: its.drop j) := (r.take j).append (.cons ru2 (r.drop j))
 refine ⟨.non, _, I.lset (its' := its.take j ++ u2 :: its.drop j) hH e ?_ hv ?_, rfl, q⟩
 ·subst hx
  have e1 : ¬ ((j : Int) < 0) := by omega
  have e2 : min j its.length = j := by omega
  simp [e1, e2, List.take_of_length_le]
 ·rw [List.length_append, List.length_cons, List.length_take, List.length_drop]
  omega
mutual
def ibd : PyData -> Bool
 | .int i => decide (i.natAbs < 2 ^ 230)
 | .tuple ds => ibdAll ds
 | .list ds => ibdAll ds
 | .dict _ => false
 | _ => true
def ibdAll : List PyData -> Bool
 | [] => true
 | d :: ds => ibd d && ibdAll ds
end
structure Gd (k n : Nat) (d : PyData) : Prop where
 sh : Sh k n d
 lay : d.canLay0 = true
 bd : ibd d = true
def decR : PyData -> R
 | .tuple [.int a, .int b] => (a, b)
 | _ => (0, 1)
def decRow : PyData -> R × R
 | .tuple [x, y] => (decR x, decR y)
 | _ => rowD
end B
namespace B
open PySem PySem.Spec L2 PyProof.Rows
theorem comp_own {J : It} {H : Hp} {D : Addr} {n : Nat} (Pv : Nat -> List V -> Hp -> Prop) {src : List (Option Nat)} {σ : L2.St} {g : TG} {tt : TT} {te : TE} {Q : Hp -> Prop} (h0 : Pv 0 [] (upd H D (.lst [])))
  (go : ∀ i ys H', i < n -> Pv i ys H' -> J.go i H') (stop : ∀ ys H', Pv n ys H' -> J.stop n H' /\ Q H')
  (turn : ∀ i ys H' x H'', i < n -> Pv i ys H' -> J.yld i H' x H'' -> ∀ (R : VK) (E : Hp -> Prop), (∀ y H4, H4 D = some (.lst ys) -> ys.length < sizeLine -> Pv (i + 1) (ys ++ [y]) (upd H4 D (.lst (ys ++ [y]))) -> R y H4) -> (∀ H3, Pv (i + 1) ys H3 -> E H3) →
   g x (frees src σ) H'' fun σ2 H2 => Ext (frees src σ) σ2 /\ tt σ2 H2 fun ok H3 => if ok = true then te σ2 H3 R else E H3) :
  ∃ W : Nat -> Nat -> List V -> Hp -> Prop, (∃ m, W 0 m [] (upd H D (.lst []))) /\ ∀ i m ys H, W i m ys H -> (J.stop i H /\ Q H) ∨ (J.go i H /\ ∀ x H', J.yld i H x H' →
   g x (frees src σ) H' fun σ2 H2 => Ext (frees src σ) σ2 /\ tt σ2 H2 fun ok H3 =>
    if ok = true then te σ2 H3 fun y H4 => H4 D = some (.lst ys) /\ ys.length < sizeLine /\ ∃ m', m' < m /\ W (i + 1) m' (ys ++ [y]) (upd H4 D (.lst (ys ++ [y]))) else ∃ m', m' < m /\ W (i + 1) m' ys H3) := by
 refine ⟨fun i m ys H' => i ≤ n /\ m = n - i /\ Pv i ys H', ⟨_, Nat.zero_le _, rfl, h0⟩, ?_⟩
 rintro i m ys H1 ⟨hi, rfl, p⟩
 by_cases hix : i < n
 ·refine .inr ⟨go i ys H1 hix p, fun x H2 y => ?_⟩
  refine turn i ys H1 x H2 hix p y _ _ (fun y H4 a b c => ⟨a, b, n - (i + 1), by omega, hix, rfl, c⟩) fun H3 c => ⟨n - (i + 1), by omega, hix, rfl, c⟩
 ·have e : i = n := by omega
  subst e
  exact .inl (stop ys H1 p)
def tCut (t : TS) : TS := fun D σ H => ∃ M : L2.St -> Hp -> Prop, t { D with nx := M } σ H /\ ∀ σ' H', M σ' H' -> D.nx σ' H'
theorem qs_cut {X : Cx} {st : Stmt} {t : TS} (h : QS X st t) : QS X st (tCut t) := ⟨by
 intro pins s σ H D I q
 obtain ⟨M, q, k⟩ := q
 refine thn (h.p pins s σ H _ I q) fun f s' z => ?_
 cases f with
 | next => obtain ⟨σ', H', I', m⟩ := z; exact ⟨σ', H', I', k _ _ m⟩
 | brk => exact z
 | cont => exact z
 | ret u => exact z⟩
end B
namespace B
abbrev Ln := Nat × Nat
inductive Rch (es : List Ln) : Nat -> Nat -> Prop where
 | one {a b : Nat} (h : (a, b) ∈ es) : Rch es a b
 | step {a b c : Nat} (h : (a, b) ∈ es) (t : Rch es b c) : Rch es a c
def EsOk (n : Nat) (es : List Ln) : Prop := ∀ e ∈ es, e.1 < n /\ e.2 < n
def Clo (n : Nat) (es : List Ln) (L : Nat -> Nat -> Bool) : Prop := ∀ i j, i < n -> j < n -> (L i j = true ↔ Rch es j i)
def addM (L : Nat -> Nat -> Bool) (a b : Nat) : Nat -> Nat -> Bool := fun i j => L i j || ((decide (i = b) || L i b) && (decide (j = a) || L a j))
structure Rx (n : Nat) (es : List Ln) (v : Nat -> Int) (ps : Nat -> Nat) (r k : Nat) (F : Nat -> Int) : Prop where
 bas : ∀ i, i < n -> v i ≤ F i
 att : ∀ i, i < n -> ∃ j, j < n /\ (j = i ∨ Rch es j i) /\ F i = v j
 don : ∀ i, i < n -> ps i < r -> ∀ j, j < n -> (j = i ∨ Rch es j i) -> v j ≤ F i
 cur : ∀ m a b, m < k -> es[m]? = some (a, b) -> ps b ≤ r -> ∀ j, j < n -> (j = a ∨ Rch es j a) -> v j ≤ F b
def rxUp (F : Nat -> Int) (a b : Nat) : Nat -> Int := fun i => if i = b then max (F b) (F a) else F i
structure Top (n : Nat) (es : List Ln) (v : Nat -> Int) (F : Nat -> Int) : Prop where
 up : ∀ i j, i < n -> j < n -> (j = i ∨ Rch es j i) -> v j ≤ F i
 att : ∀ i, i < n -> ∃ j, j < n /\ (j = i ∨ Rch es j i) /\ F i = v j
def swp (es : List Ln) : List Ln := es.map fun e => (e.2, e.1)
end B
namespace B
open PySem PySem.Spec L2 PyProof.Rows
def tChain3 (r r' r'' : R2) (ta tb tc td : TE) : TE := fun σ H Q => ta σ H fun x H1 => tb σ H1 fun y H2 => r x y H2 fun z H3 => ∃ k, z = .bl k ∧
 (if k = true then tc σ H3 fun w' H4 => r' y w' H4 fun z' H5 => ∃ k', z' = .bl k' /\ (if k' = true then td σ H5 fun u' H6 => r'' w' u' H6 Q else Q (.bl false) H5) else Q (.bl false) H3)
theorem DeepAll.atN {K : Fg} {H : Hp} : ∀ {xs : List V} {ds : List PyData}, DeepAll K H xs ds -> ∀ {i : Nat} {d : PyData}, ds[i]? = some d -> ∃ x, xs[i]? = some x /\ Deep K H x d
 | _, _, .cons h _, 0, d, e => by
  rw [List.getElem?_cons_zero] at e
  cases e
  exact ⟨_, rfl, h⟩
 | _, _, .cons _ t, i + 1, d, e => DeepAll.atN t (i := i) (by rw [List.getElem?_cons_succ] at e; exact e)
 | _, _, .nil, _, _, e => by cases e
section
variable {prog : Program} {w : World} {A : Around} {E : VSP} {s : Shared}
end
def tRev (K : Fg) (te : TE) : TE := fun σ H Q => te σ H fun x H1 => ∃ a xs, x = .ref a /\ SqT K H1 a xs /\ ∀ p, H1 p = none -> Q (.ref p) (upd H1 p (.tup xs.reverse))
end B
namespace B
theorem cast_pos {b : Int} (h : 0 < b) : (0 : Rat) < (b : Rat) := by
 have := Rat.intCast_lt_intCast.mpr h
 exact this
theorem val_less {r q : R} (hr : 0 < r.2) (hq : 0 < q.2) : lessR r q = true ↔ val r < val q := by
 rw [less_iff, ← Rat.intCast_lt_intCast, Rat.intCast_mul, Rat.intCast_mul]
 have h1 := cast_pos hr
 have h2 := cast_pos hq
 have e1 : (r.1 : Rat) = val r * (r.2 : Rat) := by
  have := ne_cast hr
  unfold val
  generalize (r.1 : Rat) = x at *
  generalize (r.2 : Rat) = y at *
  grind
 have e2 : (q.1 : Rat) = val q * (q.2 : Rat) := by
  have := ne_cast hq
  unfold val
  generalize (q.1 : Rat) = x at *
  generalize (q.2 : Rat) = y at *
  grind
 rw [e1, e2]
 generalize val r = x at *
 generalize val q = y at *
 generalize (r.2 : Rat) = u at *
 generalize (q.2 : Rat) = v at *
 have c : 0 < u * v := Rat.mul_pos h1 h2
 constructor
 ·intro h
  have h' : x * (u * v) < y * (u * v) := by grind
  by_cases w : x < y
  ·exact w
  ·have z : y ≤ x := Rat.not_lt.mp w
   have := Rat.mul_le_mul_of_nonneg_right z (Rat.le_of_lt c)
   grind
 ·intro h
  have := Rat.mul_lt_mul_of_pos_right h c
  grind
theorem val_not {r q : R} (hr : 0 < r.2) (hq : 0 < q.2) : lessR r q = false ↔ val q ≤ val r := by
 have a := val_less hr hq
 cases c : lessR r q with
 | true =>
  have := a.mp c
  constructor
  ·intro z; cases z
  ·intro z; grind
 | false =>
  constructor
  ·intro _
   by_cases w : val r < val q
   ·rw [a.mpr w] at c; cases c
   ·exact Rat.not_lt.mp w
  ·intro _; rfl
end B
namespace B
open PySem PySem.Spec L2 PyProof.Rows
theorem comp_filt {α : Type} {K : Fg} {H : Hp} {D a : Addr} {xs : List V} {ds : List α} {P : Hp -> V -> α -> Prop} {p : α -> Bool} {src : List (Option Nat)} {σ : L2.St} {g : TG} {tt : TT} {te : TE} {Q : Hp -> Prop}
  (mono : ∀ H H' v d, Tst K H H' -> P H v d -> P H' v d) (hD : H D = none) (hS : SqL K H a xs) (als : Als (P H) xs ds) (hn : ds.length ≤ 1000)
  (turn : ∀ (i : Nat) (x : V) (d : α) (H' : Hp), xs[i]? = some x -> ds[i]? = some d -> Same H H' -> P H' x d -> ∀ (R : VK) (E : Hp -> Prop), (∀ H'', Same H' H'' -> p d = true -> R x H'') -> (∀ H'', Same H' H'' -> p d = false -> E H'') →
   g x (frees src σ) H' fun σ2 H2 => Ext (frees src σ) σ2 /\ tt σ2 H2 fun ok H3 => if ok = true then te σ2 H3 R else E H3)
  (fin : ∀ H' ys, Same H H' -> H' D = some (.lst ys) -> Als (P H') ys (ds.filter p) -> Q H') :
  ∃ W : Nat -> Nat -> List V -> Hp -> Prop, (∃ m, W 0 m [] (upd H D (.lst []))) /\ ∀ i m ys H, W i m ys H -> ((Itl K a).stop i H /\ Q H) ∨ ((Itl K a).go i H /\ ∀ x H', (Itl K a).yld i H x H' →
   g x (frees src σ) H' fun σ2 H2 => Ext (frees src σ) σ2 /\ tt σ2 H2 fun ok H3 =>
    if ok = true then te σ2 H3 fun y H4 => H4 D = some (.lst ys) /\ ys.length < sizeLine /\ ∃ m', m' < m /\ W (i + 1) m' (ys ++ [y]) (upd H4 D (.lst (ys ++ [y]))) else ∃ m', m' < m /\ W (i + 1) m' ys H3) := by
 refine ⟨fun i m ys H' => i ≤ ds.length /\ m = ds.length - i /\ H' D = some (.lst ys) /\ Same H H' /\ Als (P H') ys ((ds.take i).filter p), ⟨_, Nat.zero_le _, rfl, upd_same, same_new hD _, .nil⟩, ?_⟩
 rintro i m ys H1 ⟨hi, rfl, d1, s1, al1⟩
 have hS1 : SqL K H1 a xs := s1.seq hS
 by_cases hix : i < ds.length
 ·have hx0 : xs[i]? = some (xs[i]'(by rw [als.len]; exact hix)) := List.getElem?_eq_getElem _
  refine .inr ⟨⟨xs, _, hS1, hx0⟩, ?_⟩
  rintro x H2 ⟨rfl, hy⟩
  have hx := hy xs hS1
  obtain ⟨d, hd, pd⟩ := als.at hx
  have tk : ds.take (i + 1) = ds.take i ++ [d] := by rw [List.take_add_one, hd]; rfl
  refine turn i x d _ hx hd s1 (mono _ _ _ _ (Tst.same s1) pd) _ _ (fun H3 s3 o3 => ?_) fun H3 s3 n3 => ?_
  ·have d3 : H3 D = some (.lst ys) := s3 _ _ d1
   have tm : Tst K H2 (upd H3 D (.lst (ys ++ [x]))) := (Tst.same s3).trans (Tst.up d3 _)
   have ly : ys.length ≤ 1000 := by
    rw [al1.len]
    exact Nat.le_trans (List.length_filter_le _ _) (by rw [List.length_take]; omega)
   refine ⟨d3, small1000 ly, ds.length - (i + 1), by omega, hix, rfl, upd_same, fun b o q => ?_, ?_⟩
   ·rw [upd_ne (ne_of_none q hD)]
    exact s3 _ _ (s1 _ _ q)
   ·rw [tk, List.filter_append, List.filter_cons_of_pos o3, List.filter_nil]
    exact (al1.mono fun v d p => mono _ _ _ _ tm p).snoc (mono _ _ _ _ ((Tst.same s1).trans tm) pd)
  ·refine ⟨ds.length - (i + 1), by omega, hix, rfl, s3 _ _ d1, s1.trans s3, ?_⟩
   rw [tk, List.filter_append, List.filter_cons_of_neg (by rw [n3]; decide), List.filter_nil, List.append_nil]
   exact al1.mono fun v d p => mono _ _ _ _ (Tst.same s3) p
 ·have e : i = ds.length := by omega
  subst e
  rw [List.take_length] at al1
  exact .inl ⟨⟨xs, hS1, by rw [als.len]; exact Nat.le_refl _⟩, fin H1 ys s1 d1 al1⟩
def Ris (zs : List R) : Prop := zs.Pairwise fun a b => lessR a b = true
theorem ris_at {zs : List R} {s : R} (hz : ∀ z ∈ zs, Red z) (hs : Red s) (pw : Ris zs) {j : Nat} {z : R} (e : zs[j]? = some z) : lessR z s = decide (j < (zs.filter (lessR · s)).length) := by
 have inc : Inc (zs.map fun z => (z, z)) := List.pairwise_map.mpr pw
 have al : AllP (zs.map fun z => (z, z)) := fun r hr => by
  obtain ⟨z, hm, rfl⟩ := List.mem_map.mp hr
  exact (hz z hm).pos
 have e' : (zs.map fun z => (z, z))[j]? = some (z, z) := by rw [List.getElem?_map, e]; rfl
 have c := cnt_p hs.pos inc al e'
 have n : pOf (zs.map fun z => (z, z)) s = (zs.filter (lessR · s)).length := by
  unfold pOf
  rw [List.countP_map, List.countP_eq_length_filter]
  rfl
 rw [n] at c
 exact c
theorem less_or {z s : R} (hz : Red z) (hs : Red s) (n : lessR z s = false) (ne : z ≠ s) : lessR s z = true := by
 have le := (val_not hz.pos hs.pos).mp n
 refine (val_less hs.pos hz.pos).mpr ?_
 have nv : val z ≠ val s := fun q => ne (val_inj hz hs q)
 grind
theorem ris_ins {zs : List R} {s : R} (hz : ∀ z ∈ zs, Red z) (hs : Red s) (pw : Ris zs) (no : ¬ s ∈ zs) : Ris (zs.take (zs.filter (lessR · s)).length ++ s :: zs.drop (zs.filter (lessR · s)).length) := by
 have at_ := fun j z => ris_at (j := j) (z := z) hz hs pw
 generalize (zs.filter (lessR · s)).length = n at at_
 have lo : ∀ a ∈ zs.take n, lessR a s = true := fun a ha => by
  obtain ⟨j, hj⟩ := List.getElem?_of_mem ha
  rw [List.getElem?_take] at hj
  split at hj
  ·rename_i c
   rw [at_ j a hj, decide_eq_true c]
  ·cases hj
 have hi : ∀ a ∈ zs.drop n, lessR s a = true := fun a ha => by
  have ma := List.mem_of_mem_drop ha
  obtain ⟨j, hj⟩ := List.getElem?_of_mem ha
  rw [List.getElem?_drop] at hj
  have c := at_ (n + j) a hj
  rw [decide_eq_false (by omega)] at c
  exact less_or (hz a ma) hs c fun q => no (by rw [← q]; exact ma)
 have both : (zs.take n ++ zs.drop n).Pairwise fun a b => lessR a b = true := by rw [List.take_append_drop]; exact pw
 obtain ⟨p1, p2, p3⟩ := List.pairwise_append.mp both
 refine List.pairwise_append.mpr ⟨p1, List.pairwise_cons.mpr ⟨hi, p2⟩, fun a ha b hb => ?_⟩
 rcases List.mem_cons.mp hb with rfl | hb
 ·exact lo a ha
 ·exact p3 a ha b hb
theorem Als.take {α : Type} {P : V -> α -> Prop} : ∀ {xs : List V} {ds : List α} (n : Nat), Als P xs ds -> Als P (xs.take n) (ds.take n)
 | _, _, 0, _ => by rw [List.take_zero, List.take_zero]; exact .nil
 | _, _, _ + 1, .nil => .nil
 | _, _, n + 1, .cons h t => .cons h (Als.take n t)
theorem Als.drop {α : Type} {P : V -> α -> Prop} : ∀ {xs : List V} {ds : List α} (n : Nat), Als P xs ds -> Als P (xs.drop n) (ds.drop n)
 | _, _, 0, h => h
 | _, _, _ + 1, .nil => .nil
 | _, _, n + 1, .cons _ t => Als.drop n t
theorem Als.join {α : Type} {P : V -> α -> Prop} : ∀ {xs ys : List V} {ds es : List α}, Als P xs ds -> Als P ys es -> Als P (xs ++ ys) (ds ++ es)
 | _, _, _, _, .nil, k => k
 | _, _, _, _, .cons h t, k => .cons h (Als.join t k)
end B
namespace L2
open PySem PySem.Spec PyProof.Rows
structure RoomM (k : Nat) (A : Around) : Prop where
 dp : A.depth + 3 * k + 5 < recursionLimit
 un : A.units + 16 * k + 200 < cLine
 gd : A.guards = some []
structure FnOkM (P : Program) (w : World) (K : Fg) (mg : Str -> Option Value) (base : Heap) (CX : CXT) (k : Nat) (f : Addr) (fd : FuncData) (ps : List Str) (sp : Sp) : Prop where
 len : ∀ vs H Q E, sp vs H Q E -> vs.length = ps.length
 run : ∀ (A : Around) (outer : List Env) (s : Shared) (H : Hp) (args : Args) (us : List Value) (vs : List V) (Q : VK) (E : XK), RoomM k A -> Env0 P w K mg base A outer s H -> BindsTo s fd args (ps.zip us) -> Vals vs us -> sp vs H Q E →
  codeAny (model P w) A (.call (.ref f) args) (CR CX outer P w H s Q E) s
def cxM (CX : CXT) (P : Program) (w : World) (K : Fg) (mg : Str -> Option Value) (base : Heap) (N : List Str) (qual : Str) (scope : Scope) (f : Addr) (cd : Value) (A : Around) (outer : List Env) (s : Shared) (H : Hp) (E : XK) : Cx := { cxOf CX P w K mg base N qual scope f cd A outer s H E with calm := false }
section
variable {X : Cx} {CX : CXT} {k : Nat} {f C : Addr} {fd : FuncData} {ps : List Str} {sp : Sp} {dvs : List V} {ds : List Value} {E : XK} {x m : Str} {p pos apos : Pos} {e o : Expr} {es : List Expr} {ta : TE} {t : TA}
end
section
variable {P : Program} {w : World} {K : Fg} {mg : Str -> Option Value} {base : Heap}
end
end L2
namespace B
open PySem PySem.Spec L2 PyProof.Rows
section
set_option autoImplicit true
set_option relaxedAutoImplicit true
end
def Iti (d : Addr) (ob : Obj) (kvs : List (Key × V)) : It :=
 ⟨fun i H => H d = some (.frz ob (.dK kvs)) /\ i < kvs.length,
  fun i H x H' => ∃ p k v, H p = none /\ x = .ref p /\ kvs[i]? = some (k, v) /\ H' = upd H p (.tup [kV k, v]),
  fun i H => H d = some (.frz ob (.dK kvs)) /\ kvs.length ≤ i⟩
theorem KV.get : ∀ {kvs : List (Key × V)} {vs : List (Key × Value)}, KV kvs vs -> ∀ {i : Nat} {k : Key} {v : V}, kvs[i]? = some (k, v) -> ∃ u, vs[i]? = some (k, u) /\ RelV v u
 | _, _, .nil, i, k, v, h => by simp at h
 | (a, b) :: r, (c, d) :: t, .cons h z, 0, k, v, e => by
  have e' : (a, b) = (k, v) := by simpa using e
  cases e'
  obtain ⟨h1, h2⟩ := h
  have h1' : a = c := h1
  subst h1'
  exact ⟨d, rfl, h2⟩
 | _ :: r, _ :: t, .cons h z, i + 1, k, v, e => by
  obtain ⟨u, q, w⟩ := KV.get z (i := i) (by simpa using e)
  exact ⟨u, by simpa using q, w⟩
theorem kV_of {k : Key} {u : Value} (h : keyIs k u = true) : RelV (kV k) u := by
 rcases keyIs_shape h with ⟨i, t, rfl, rfl⟩ | ⟨x, t, rfl, rfl⟩
 ·exact ⟨t, rfl⟩
 ·exact ⟨t, rfl⟩
theorem en_iit : entryFor table "dict_itemiterator.__iter__" = some Builtin.«dict_keyiterator.__iter__» :=
 entryFor_alias (by kernel_rfl) (by first | rfl | decide +kernel | (unfold String.splitOn; simp +decide [String.splitOnAux])) (by decide +kernel) (by kernel_rfl) (id' := "dict_keyiterator.__iter__")
theorem turn_items {P : Program} {w : World} {K : Fg} {elts : List Expr} {x1} {pos : Pos} {it d : Addr} {ob : Obj} {kvs : List (Key × V)} {es : Array DictEntry} {ep : Nat} (hob : ob.data = .dict es ep) :
  Turn P w K (.Tuple elts x1 pos) (Iti d ob kvs) [it] it (fun i h => ∃ ok ov, IsItemIter h it d i kvs.length ep ok ov) where
 mem := by simp
 obj := fun i h st c hc => by
  obtain ⟨ok, ov, e⟩ := st
  rw [List.mem_singleton] at hc
  subst hc
  exact ⟨_, e, fun v q => by cases (show Data.fields _ = Data.cell v from q)⟩
 keep := fun i h h' ⟨ok, ov, e⟩ k => ⟨ok, ov, k it (by simp) _ e⟩
 item := by
  intro X hP hw hK hc i pins s σ H E I hf st hg
  subst hP hw hK
  obtain ⟨hd, hi⟩ := hg
  obtain ⟨ok, ov, e⟩ := st
  obtain ⟨q0, z, hds, vs, rel, o, es', ep', d1, d2, d3, d4⟩ := (show ObjOk X.prog X.w H s.heap d (.frz ob (.dK kvs)) from I.hok d _ hd)
  have eo : o = ob := Option.some.inj (d1.symm.trans q0)
  subst eo
  rw [hob] at d3
  cases d3
  have dat : s.heap.DictAt (mixKind X.prog X.w) d vs ep := ⟨o, es, d1, d2, hob, d4⟩
  obtain ⟨k, v, hkv'⟩ : ∃ k v, kvs[i]? = some (k, v) := ⟨(kvs[i]'hi).1, (kvs[i]'hi).2, List.getElem?_eq_getElem hi⟩
  obtain ⟨u, hu, ru⟩ := KV.get rel hkv'
  have ndi : it ≠ d := fun q => by rw [q] at hf; have := (hf d (by simp)).1; rw [hd] at this; cases this
  have itl : it < s.heap.objs.size := Heap.lt_size e
  rw [rel.length] at e
  refine wpAny_pyNext_items_item e dat hu fun key h1 hkey eo tup hz hk => ⟨_, rfl, wpAny_letOwnedTupleGo_items eo fun h2 e2 sb => ?_⟩
  have nt : s.heap.objs.size ≠ it := Nat.ne_of_gt itl
  have P : ObjOk X.prog X.w (upd H s.heap.objs.size (.tup [kV k, v])) h2 s.heap.objs.size (.tup [kV k, v]) :=
   ⟨by show 2 ≤ sizeLine; decide, [key, u], .cons (kV_of hkey) (.cons ru .nil), ⟨_, sb.extBut _ _ nt tup, rfl, _, rfl⟩⟩
  have I2 : Inv X pins σ (upd H s.heap.objs.size (.tup [kV k, v])) { s with heap := h2, toks := s.toks } := turnedN I (fun c o' n q => by
   have n' : c ≠ it := fun r => n (by simp [r])
   exact sb.extBut _ _ n' (hk c o' n' q)) hf (Nat.le_refl _) P
  refine ⟨.ref s.heap.objs.size, _, I2, rfl, ⟨_, k, v, I.fresh, rfl, hkv', rfl⟩, ⟨key, u, by rw [rel.length]; exact e2⟩, fun c hc => ?_⟩
  have hc' : c = it := by simpa using hc
  rw [hc', upd_ne (Ne.symm nt)]
  exact (hf it (by simp)).1
 done := by
  intro X hP hw hK hc i pins s σ H E I hf st hg
  subst hP hw hK
  obtain ⟨hd, hi⟩ := hg
  obtain ⟨ok, ov, e⟩ := st
  obtain ⟨q0, z, hds, vs, rel, o, es', ep', d1, d2, d3, d4⟩ := (show ObjOk X.prog X.w H s.heap d (.frz ob (.dK kvs)) from I.hok d _ hd)
  have eo : o = ob := Option.some.inj (d1.symm.trans q0)
  subst eo
  rw [hob] at d3
  cases d3
  have dat : s.heap.DictAt (mixKind X.prog X.w) d vs ep := ⟨o, es, d1, d2, hob, d4⟩
  have hh : X.A.in1.handled = none := I.ok.hd hc
  rw [rel.length] at e hi
  refine wpAny_pyNext_items_end hh e dat (List.getElem?_eq_none hi) fun h1 ex => ⟨rfl, ?_⟩
  exact turnedL (t' := s.toks) I (fun c o' n q => ex c o' (fun r => n (by simp [r])) q) hf
 self := fun A i s Q E st h => by
  obtain ⟨ok, ov, e⟩ := st
  have hT : s.TypeIs (.ref it) "dict_itemiterator" := ⟨_, e, rfl⟩
  refine wpAny_pyIter_slot hT PySem.F.slot_dict_itemiterator_iter (wpAny_call_entry PySem.F.slot_dict_itemiterator_iter hT en_iit ?_ (PySem.F.args_dict_itemiterator_iter_1 _))
  show wpAny _ _ (ret (.ref it)) _ _ s
  exact wpAny_pure ⟨_, rfl, "dict_itemiterator", _, hT, PySem.F.slot_dict_itemiterator_next.lookup, h⟩
def iItems (td : TE) : TI := fun σ H R => td σ H fun x H1 => ∃ d kvs, x = .ref d /\ H1 d = some (.dK kvs) /\ ∀ ob, R (Iti d ob kvs) (upd H1 d (.frz ob (.dK kvs)))
theorem pi_items {X : Cx} {elts : List Expr} {x1} {tp apos pos : Pos} {o : Expr} {td : TE} (ho : PE X o td) (hb : attributeBase o "items" X.env (eval o X.env) = eval o X.env := by rfl) (hl : (apos.endLine == pos.line) = true := by rfl) :
  PI X (.Tuple elts x1 tp) (.Call (.Attribute o "items" apos) [] [] pos) (iItems td) := by
 intro pins s σ H R I h
 refine wpAny_Call_method (T := "dict") (id := "dict.items") hb rfl hl PySem.F.plainAttrs_dict PySem.F.slot_dict_items PySem.F.type_dict_items (thn (ho pins s σ H _ I h) fun u s1 ⟨x, H1, I1, rx, d, kvs, ex, e, q⟩ => ?_)
 subst ex
 obtain rfl : u = Value.ref d := rx
 obtain ⟨z, hds, vs, rel, dd⟩ := dk_of I1.hok e
 obtain ⟨t1, t2, _⟩ := isD_at I1 (.inl ⟨kvs, .inl e⟩)
 refine ⟨t1, t2, ?_⟩
 show wpAny _ _ (callWith pos (.builtin "dict.items") [.ref d] [] []) _ _ _
 refine method_meetsIn PySem.F.slot_dict_items PySem.F.entry_dict_items rfl (PySem.evalArgs_none ⟨rfl, t1, PySem.F.args_dict_items_1 _, _, meets_dict_items (mixKind X.prog X.w) d hds, ⟨vs, dd⟩, ?_⟩)
 obtain ⟨o', es, ep, d1, d2, d3, d4⟩ := id dd
 have dat : s1.heap.DictAt (mixKind X.prog X.w) d vs ep := ⟨o', es, d1, d2, d3, d4⟩
 refine wpAny_pyIter_items (d := d) (kvs := vs) (ep := ep) ⟨_, Heap.get?_push_size _ rfl, rfl, rfl⟩ (dat.push _) ?_
 have sz : (s1.heap.push { cls := .type "dict_items", data := .fields #[.ref d] }).objs.size = s1.heap.objs.size + 1 := Heap.size_push ..
 have I2 := I1.kept (t' := s1.toks) (h' := (s1.heap.push { cls := .type "dict_items", data := .fields #[.ref d] }).push { cls := .type "dict_itemiterator", data := .fields #[.none, .bool false, .ref d, .int 0 0, .int vs.length 0, .int ep 0, .none, .none] }) fun b o q => Heap.get?_push_of_some _ (Heap.get?_push_of_some _ q)
 have hit := Heap.get?_push_size (s1.heap.push { cls := .type "dict_items", data := .fields #[.ref d] }) (o := { cls := .type "dict_itemiterator", data := .fields #[.none, .bool false, .ref d, .int 0 0, .int vs.length 0, .int ep 0, .none, .none] }) rfl
 have dl : d < s1.heap.objs.size := Heap.lt_size d1
 have k2 : ∀ b o, s1.heap.get? b = some o -> ((s1.heap.push { cls := .type "dict_items", data := .fields #[.ref d] }).push { cls := .type "dict_itemiterator", data := .fields #[.none, .bool false, .ref d, .int 0 0, .int vs.length 0, .int ep 0, .none, .none] }).get? b = some o := fun b o q => Heap.get?_push_of_some _ (Heap.get?_push_of_some _ q)
 generalize (s1.heap.push { cls := .type "dict_items", data := .fields #[.ref d] }).push { cls := .type "dict_itemiterator", data := .fields #[.none, .bool false, .ref d, .int 0 0, .int vs.length 0, .int ep 0, .none, .none] } = hE at I2 hit k2 ⊢
 rw [sz] at hit ⊢
 have I3 := d_write (h' := hE) (t' := s1.toks) (ob := .frz o' (.dK kvs)) I2 (by rw [e]; exact True.intro) ⟨rfl, fun _ _ => rfl⟩ ⟨_, k2 _ _ d1⟩ ⟨k2 _ _ d1, z, hds, vs, rel, o', es, ep, k2 _ _ d1, d2, d3, d4⟩
 have nd : s1.heap.objs.size + 1 ≠ d := Nat.ne_of_gt (Nat.lt_succ_of_lt dl)
 refine ⟨_, [s1.heap.objs.size + 1], _, _, _, rfl, I3, turn_items d3, ⟨.none, .none, by rw [rel.length]; exact hit⟩, fun c hc => ?_, q o'⟩
 have hc' : c = s1.heap.objs.size + 1 := by simpa using hc
 subst hc'
 exact I1.fpOk (Nat.le_succ _) (by rw [upd_ne nd]; exact I1.hok.fresh (Nat.le_succ _))
theorem for_items {d : Addr} {ob : Obj} {kvs : List (Key × V)} {g : TG} {tb : TS} {D : Ends} {σ : L2.St} {H : Hp} (Pv : Nat -> L2.St -> Hp -> Prop) (h0 : Pv 0 σ H)
  (hl : ∀ i σ H, Pv i σ H -> H d = some (.frz ob (.dK kvs)))
  (hs : ∀ i k v p σ H, kvs[i]? = some (k, v) -> Pv i σ H -> H p = none -> g (.ref p) σ (upd H p (.tup [kV k, v])) fun σ2 H2 => tb { D with nx := Pv (i + 1), ct := Pv (i + 1), bk := D.nx } σ2 H2) (hd : ∀ σ H, Pv kvs.length σ H -> D.nx σ H) :
  ∃ W : Nat -> Nat -> L2.St -> Hp -> Prop, (∃ m, W 0 m σ H) /\ ∀ i m σ H, W i m σ H →
   ((Iti d ob kvs).stop i H /\ D.nx σ H) ∨ ((Iti d ob kvs).go i H /\ ∃ N : L2.St -> Hp -> Prop, (∀ σ' H', N σ' H' -> ∃ m', m' < m /\ W (i + 1) m' σ' H') /\ ∀ x H', (Iti d ob kvs).yld i H x H' -> g x σ H' fun σ2 H2 => tb { D with nx := N, ct := N, bk := D.nx } σ2 H2) := by
 refine ⟨fun i m σ H => m = kvs.length - i /\ i ≤ kvs.length /\ Pv i σ H, ⟨_, rfl, Nat.zero_le _, h0⟩, ?_⟩
 rintro i m σ H ⟨rfl, hi, p⟩
 have q := hl i σ H p
 by_cases hlt : i < kvs.length
 ·refine .inr ⟨⟨q, hlt⟩, Pv (i + 1), fun σ' H' p' => ⟨kvs.length - (i + 1), by omega, rfl, hlt, p'⟩, fun x H' y => ?_⟩
  obtain ⟨pp, k, v, hp, rfl, hkv, rfl⟩ := y
  exact hs i k v pp σ _ hkv p hp
 ·have e : i = kvs.length := by omega
  subst e
  exact .inl ⟨⟨q, Nat.le_refl _⟩, hd σ H p⟩
def enc (ps : List (Int × Int)) : List (Key × V) := ps.map fun p => (Sum.inl p.1, V.int p.2)
def topP : List (Int × Int) -> Int -> Int
 | [], _ => 0
 | (c, u) :: r, b => if c = b then u else topP r b
def addP : List (Int × Int) -> Int -> Int -> List (Int × Int)
 | [], b, t => [(b, 0 + t)]
 | (c, u) :: r, b, t => if c = b then (c, u + t) :: r else (c, u) :: addP r b t
theorem put_here {p : Key × V} {r : List (Key × V)} {k : Key} {v : V} (e : p.1 = k) (n : ∀ q ∈ r, q.1 ≠ k) : putK (p :: r) k v = (k, v) :: r := by
 unfold putK
 rw [if_pos (by simp [e]), List.map_cons, if_pos e, e]
 congr 1
 exact (List.map_congr_left (g := id) (fun q hq => by rw [if_neg (n q hq)]; rfl)).trans (List.map_id r)
theorem put_there {p : Key × V} {r : List (Key × V)} {k : Key} {v : V} (e : ¬ p.1 = k) : putK (p :: r) k v = p :: putK r k v := by
 unfold putK
 rw [List.any_cons, decide_eq_false e, Bool.false_or]
 split
 ·rw [List.map_cons, if_neg e]
 ·rfl
theorem get_enc : ∀ (ps : List (Int × Int)) (b : Int), (valV (enc ps) (Sum.inl b)).getD (V.int 0) = V.int (topP ps b)
 | [], b => rfl
 | (c, u) :: r, b => by
  show (valV ((Sum.inl c, V.int u) :: enc r) (Sum.inl b)).getD (V.int 0) = V.int (if c = b then u else topP r b)
  by_cases e : c = b
  ·rw [if_pos e, valV_pos (by rw [e])]; rfl
  ·rw [if_neg e, valV_neg (fun z => e (by injection z)), get_enc r b]
theorem put_enc : ∀ (ps : List (Int × Int)) (b t : Int), (ps.map (·.1)).Nodup -> putK (enc ps) (Sum.inl b) (V.int (topP ps b + t)) = enc (addP ps b t)
 | [], b, t, _ => rfl
 | (c, u) :: r, b, t, nd => by
  have nd' := List.nodup_cons.mp nd
  show putK ((Sum.inl c, V.int u) :: enc r) (Sum.inl b) (V.int ((if c = b then u else topP r b) + t)) = enc (if c = b then (c, u + t) :: r else (c, u) :: addP r b t)
  by_cases e : c = b
  ·rw [if_pos e, if_pos e, put_here (by rw [e]) (fun q hq z => ?_)]
   ·show _ = (Sum.inl c, V.int (u + t)) :: enc r
    rw [e]
   ·obtain ⟨p, hp, rfl⟩ := List.mem_map.mp hq
    have z' : p.1 = b := by injection z
    exact nd'.1 (List.mem_map.mpr ⟨p, hp, z'.trans e.symm⟩)
  ·rw [if_neg e, if_neg e, put_there (fun z => e (by injection z)), put_enc r b t nd'.2]
   rfl
def sumv : List (Int × Int) -> Rat
 | [] => 0
 | p :: r => (p.2 : Rat) / (p.1 : Rat) + sumv r
theorem add_div {a b c : Rat} : (a + b) / c = a / c + b / c := by rw [Rat.div_def, Rat.div_def, Rat.div_def, Rat.add_mul]
theorem sumv_add : ∀ (ps : List (Int × Int)) (b t : Int), sumv (addP ps b t) = sumv ps + (t : Rat) / (b : Rat)
 | [], b, t => by
  show ((0 + t : Int) : Rat) / (b : Rat) + 0 = 0 + (t : Rat) / (b : Rat)
  rw [Int.zero_add]; grind
 | (c, u) :: r, b, t => by
  show sumv (if c = b then (c, u + t) :: r else (c, u) :: addP r b t) = (u : Rat) / (c : Rat) + sumv r + (t : Rat) / (b : Rat)
  by_cases e : c = b
  ·rw [if_pos e]
   show ((u + t : Int) : Rat) / (c : Rat) + sumv r = _
   rw [Rat.intCast_add, add_div, e]
   grind
  ·rw [if_neg e]
   show (u : Rat) / (c : Rat) + sumv (addP r b t) = _
   rw [sumv_add r b t]
   grind
theorem sumv_snoc : ∀ (ps : List (Int × Int)) (p : Int × Int), sumv (ps ++ [p]) = sumv ps + (p.2 : Rat) / (p.1 : Rat)
 | [], p => by show (p.2 : Rat) / (p.1 : Rat) + 0 = 0 + _; grind
 | q :: r, p => by
  show (q.2 : Rat) / (q.1 : Rat) + sumv (r ++ [p]) = (q.2 : Rat) / (q.1 : Rat) + sumv r + _
  rw [sumv_snoc r p]; grind
structure PsOk (n i : Nat) (ps : List (Int × Int)) : Prop where
 nd : (ps.map (·.1)).Nodup
 len : ps.length ≤ i
 bot : ∀ p ∈ ps, 0 < p.1 /\ p.1.natAbs < 2 ^ n
 top : ∀ p ∈ ps, p.2.natAbs ≤ i * 2 ^ n
theorem add_keys : ∀ (ps : List (Int × Int)) (b t : Int) (c : Int), c ∈ (addP ps b t).map (·.1) ↔ c ∈ ps.map (·.1) ∨ c = b
 | [], b, t, c => by simp [addP]
 | (d, u) :: r, b, t, c => by
  show c ∈ (if d = b then (d, u + t) :: r else (d, u) :: addP r b t).map (·.1) ↔ _
  by_cases e : d = b
  ·rw [if_pos e]
   constructor
   ·intro h; exact .inl h
   ·rintro (h | h)
    ·exact h
    ·exact List.mem_cons.mpr (.inl (h.trans e.symm))
  ·rw [if_neg e, List.map_cons, List.map_cons, List.mem_cons, List.mem_cons, add_keys r b t c]
   exact or_assoc.symm
theorem add_nd : ∀ (ps : List (Int × Int)) (b t : Int), (ps.map (·.1)).Nodup -> ((addP ps b t).map (·.1)).Nodup
 | [], b, t, _ => by simp [addP]
 | (d, u) :: r, b, t, nd => by
  have nd' := List.nodup_cons.mp nd
  show ((if d = b then (d, u + t) :: r else (d, u) :: addP r b t).map (·.1)).Nodup
  by_cases e : d = b
  ·rw [if_pos e]; exact nd
  ·rw [if_neg e, List.map_cons, List.nodup_cons]
   refine ⟨fun z => ?_, add_nd r b t nd'.2⟩
   rcases (add_keys r b t d).mp z with h | h
   ·exact nd'.1 h
   ·exact e h
theorem add_len : ∀ (ps : List (Int × Int)) (b t : Int), (addP ps b t).length ≤ ps.length + 1
 | [], b, t => Nat.le_refl 1
 | (d, u) :: r, b, t => by
  show (if d = b then (d, u + t) :: r else (d, u) :: addP r b t).length ≤ _
  split
  ·exact Nat.le_succ _
  ·exact Nat.succ_le_succ (add_len r b t)
theorem add_top : ∀ (ps : List (Int × Int)) (b t : Int) (M N : Nat), (∀ p ∈ ps, p.2.natAbs ≤ M) -> t.natAbs ≤ N -> ∀ p ∈ addP ps b t, p.2.natAbs ≤ M + N
 | [], b, t, M, N, _, ht, p, hp => by
  have e : p = (b, 0 + t) := by simpa [addP] using hp
  rw [e]
  show (0 + t).natAbs ≤ M + N
  omega
 | (d, u) :: r, b, t, M, N, h, ht, p, hp => by
  have hu : u.natAbs ≤ M := h (d, u) List.mem_cons_self
  have hr : ∀ q ∈ r, q.2.natAbs ≤ M := fun q hq => h q (List.mem_cons_of_mem _ hq)
  have hp' : p ∈ (if d = b then (d, u + t) :: r else (d, u) :: addP r b t) := hp
  split at hp'
  ·rcases List.mem_cons.mp hp' with e | e
   ·rw [e]
    show (u + t).natAbs ≤ M + N
    omega
   ·have := hr p e
    omega
  ·rcases List.mem_cons.mp hp' with e | e
   ·rw [e]
    show u.natAbs ≤ M + N
    omega
   ·exact add_top r b t M N hr ht p e
theorem PsOk.add {n i : Nat} {ps : List (Int × Int)} (h : PsOk n i ps) {r : R} (w : Wf n r) : PsOk n (i + 1) (addP ps r.2 r.1) where
 nd := add_nd ps r.2 r.1 h.nd
 len := Nat.le_trans (add_len ps r.2 r.1) (Nat.succ_le_succ h.len)
 bot := fun p hp => by
  rcases (add_keys ps r.2 r.1 p.1).mp (List.mem_map.mpr ⟨p, hp, rfl⟩) with z | z
  ·obtain ⟨q, hq, e⟩ := List.mem_map.mp z
   rw [← e]
   exact h.bot q hq
  ·rw [z]; exact ⟨w.pos, w.bot⟩
 top := fun p hp => by
  have := add_top ps r.2 r.1 (i * 2 ^ n) (2 ^ n) h.top (Nat.le_of_lt w.top) p hp
  rw [Nat.add_mul, Nat.one_mul]
  exact this
theorem PsOk.nil (n : Nat) : PsOk n 0 [] := ⟨List.nodup_nil, Nat.le_refl _, (fun _ h => nomatch h), (fun _ h => nomatch h)⟩
theorem PsOk.wf {n i : Nat} {ps : List (Int × Int)} (h : PsOk n i ps) (hi : i ≤ 255) {p : Int × Int} (hp : p ∈ ps) : Wf (n + 8) (mkR p.2 p.1) := by
 refine mkR_wf (h.bot p hp).1 ?_ (Nat.lt_of_lt_of_le (h.bot p hp).2 (Nat.pow_le_pow_right (by decide) (by omega)))
 have a := h.top p hp
 have b : i * 2 ^ n ≤ 255 * 2 ^ n := Nat.mul_le_mul_right _ hi
 have c : 0 < 2 ^ n := Nat.pow_pos (by decide)
 rw [Nat.pow_add]
 omega
def vsum : List R -> Rat
 | [] => 0
 | r :: t => val r + vsum t
theorem vsum_snoc : ∀ (rs : List R) (r : R), vsum (rs ++ [r]) = vsum rs + val r
 | [], r => by show val r + 0 = 0 + val r; grind
 | q :: t, r => by show val q + vsum (t ++ [r]) = val q + vsum t + val r; rw [vsum_snoc t r]; grind
theorem val_fold : ∀ (rs : List R) (acc : R), Red acc -> (∀ r ∈ rs, Red r) -> Red (rs.foldl plusR acc) /\ val (rs.foldl plusR acc) = val acc + vsum rs
 | [], acc, ha, _ => ⟨ha, by show val acc = val acc + 0; grind⟩
 | r :: t, acc, ha, h => by
  have hr := h r List.mem_cons_self
  obtain ⟨a, b⟩ := val_fold t (plusR acc r) (plus_red ha hr) fun q hq => h q (List.mem_cons_of_mem _ hq)
  refine ⟨a, ?_⟩
  rw [List.foldl_cons, b, val_plus ha.pos hr.pos]
  show val acc + val r + vsum t = val acc + (val r + vsum t)
  grind
theorem val_nought : val (0, 1) = 0 := by decide +kernel
theorem red_nought : Red (0, 1) := ⟨by decide, by decide⟩
theorem val_sum {rs : List R} (h : ∀ r ∈ rs, Red r) : Red (sumR rs) /\ val (sumR rs) = vsum rs := by
 obtain ⟨a, b⟩ := val_fold rs (0, 1) red_nought h
 refine ⟨a, b.trans ?_⟩
 rw [val_nought]; grind
theorem sum_is {rs : List R} {x : R} (h : ∀ r ∈ rs, Red r) (hx : Red x) (e : val x = vsum rs) : x = sumR rs :=
 val_inj hx (val_sum h).1 (e.trans (val_sum h).2.symm)
theorem Wf.red {n : Nat} {r : R} (h : Wf n r) : Red r := ⟨h.pos, h.cop⟩
section
set_option autoImplicit true
set_option relaxedAutoImplicit true
theorem qe_dnewK   : QE X (.Dict [] [] pos) tDNewK := ⟨pe_dnewK ⟩
theorem qe_dget2  (hu : X.A.units + 1 < cLine) (ho : QE X o td) (he : QE X e ty) (hf : QE X f tx) (m : M2 X o "get" apos e f cpos) : QE X (.Call (.Attribute o "get" apos) [e, f] [] cpos) (tDGet2 td ty tx) := ⟨pe_dget2 hu ho.p he.p hf.p m⟩
theorem qs_dput  (hu : X.A.units + 1 < cLine) (ho : QE X o td) (hi : QE X i ty) (hv : QE X value tv) (hs : swapsWith value (some (.Subscript o i pos')) pos.line X.env = pure false) : QS X (.Assign [.Subscript o i pos'] value pos) (sDPut td ty tv) := ⟨ps_dput hu ho.p hi.p hv.p hs⟩
theorem qi_items  {X : Cx} {elts : List Expr} {x1} {tp apos pos : Pos} {o : Expr} {td : TE} (ho : QE X o td) (hb : attributeBase o "items" X.env (eval o X.env) = eval o X.env := by rfl) (hl : (apos.endLine == pos.line) = true := by rfl) : QI X (.Tuple elts x1 tp) (.Call (.Attribute o "items" apos) [] [] pos) (iItems td) := ⟨pi_items ho.p hb hl⟩
end
end B
namespace B
abbrev Pl := Nat × Nat
def lenP (p : Pl) : Int := (p.2 : Int) - p.1 + 1
def AheadP (p q : Pl) : Prop := p.1 < q.1 ∨ (p.1 = q.1 /\ q.2 ≤ p.2)
structure Bst (S : Pl -> Prop) (L : Pl -> Int) (p : Pl) : Prop where
 inn : S p
 all : ∀ q, S q -> L q * lenP p < L p * lenP q ∨ (L q * lenP p = L p * lenP q /\ AheadP p q)
def Sec (n : Nat) (p : Pl) : Prop := p.1 ≤ p.2 /\ p.2 < n
def SeenD (n b e : Nat) (p : Pl) : Prop := Sec n p /\ (p.1 < b ∨ (p.1 = b /\ e ≤ p.2))
def SeenU (n b e : Nat) (p : Pl) : Prop := Sec n p /\ (p.1 < b ∨ (p.1 = b /\ p.2 < e))
abbrev Wn := Option (Nat × Nat)
def holdB (b e : Nat) : Wn -> Bool
 | none => false
 | some (x, y) => decide (b ≤ x) && decide (y ≤ e)
def heldM (ws : List Wn) (p : Pl) : List Nat := (List.range ws.length).filter fun i => holdB p.1 p.2 (ws.getD i none)
def loadM (ws : List Wn) (A : Nat -> Int) (p : Pl) : Int := ((heldM ws p).map A).sum
end B
namespace B
open PySem PySem.Spec L2 PyProof.Rows
def oneEach (ns : List Int) : List Int := ns.foldl step_dedup []
def rSet1 (K : Fg) : List V -> Hp -> VK -> Prop := fun xs H Q => ∃ p ns, xs = [.ref p] /\ SqL K H p (ns.map V.int) /\ ns.length ≤ 1000 /\ ∀ l, H l = none -> Q (.ref l) (upd H l (.set (fun k => (oneEach ns).any (· == k)) (oneEach ns).length))
def rLenS : List V -> Hp -> VK -> Prop := fun xs H Q => ∃ p S n, xs = [.ref p] /\ H p = some (.set S n) /\ Q (.int n) H
def Rise (xs : Array Nat) : Prop := ∀ i j (_ : i < j) (hj : j < xs.size), xs[i]'(by omega) < xs[j]
def Tidy (t : SetTable) : Prop := t.plain = true -> t.dummies = #[] /\ Rise t.place
section
variable {prog : Program} {w : World} {A : Around} {E : VSP} {s : Shared}
def vInt : Value -> Int
 | .int n _ => n
 | _ => 0
def IntSet (w : World) (h : Heap) (a : Addr) (ks : List Int) : Prop := ∃ o es ep t, h.get? a = some o /\ o.ExactSet /\ o.data = .set es ep t /\ (∀ e ∈ es.toList, ∃ n u, e = (hashInt n, Value.int n u)) ∧
 (es.toList.map fun e => vInt e.2).Perm ks /\ t.fits es.size = true /\ Tidy t /\ t.led = !w.params.followText "set-order"
end
section
variable {prog : Program} {w : World} {A : Around} {E : VSP} {s : Shared}
def newSetObj (w : World) : Obj := { cls := .type "set", dict := none, data := .set #[] 0 (.fresh 0 0 (!w.params.followText "set-order")) }
variable {R : Result -> Shared -> Prop} {I : Addr} {fp wr : List Addr} {G : Array GenState -> Array GenState -> Prop} {n : Nat} {P : Nat -> Value -> Prop} {St : Nat -> Shared -> Prop}
end
section
variable {prog : Program} {w : World} {A : Around} {E : VSP} {s : Shared}
end
namespace FS
end FS
section
variable {prog : Program} {w : World} {A : Around} {E : VSP} {s : Shared}
def sItO (first : Value) (i : Nat) (a : Addr) (n ep : Nat) : Obj := { cls := .type "set_iterator", data := .fields #[first, .int i 0, .ref a, .int n 0, .int ep 0] }
end
end B
namespace B
open PySem PySem.Spec L2 PyProof.Rows
section
variable {prog : Program} {w : World} {A : Around} {E : VSP} {s : Shared}
end
section
variable {prog : Program} {w : World} {A : Around} {E : VSP} {s : Shared}
def WalkOf (prog : Program) (w : World) (a : Addr) (ks : List Int) (s : Shared) (It : Addr) (s1 : Shared) : Prop :=
 ∃ (fp : List Addr) (items : Array Value) (St : Nat -> Shared -> Prop), (∀ A' : Around, A'.handled = none -> WalksS prog w A' It fp [It] (fun a b => b = a) items.size (fun i v => items[i]? = some v) St) /\ St 0 s1 /\ It ∈ fp /\ (∀ b ∈ fp, b < s1.heap.objs.size /\ (b = a ∨ s.heap.objs.size ≤ b)) ∧
  s.heap.objs.size ≤ It /\ ∃ ms, IntsAre items.toList ms /\ ms.Perm ks
def slotM (t : SetTable) : Nat -> Nat
 | 0 => 0
 | k + 1 => t.place.getD k 0 + 1
end
def rExtT (K : Fg) : V -> List V -> Hp -> VK -> Prop := fun x vs H Q => ∃ l b xs zs, x = .ref l /\ vs = [.ref b] /\ H l = some (.lst xs) /\ SqT K H b zs /\ xs.length + zs.length ≤ 1000 /\ Q .non (upd H l (.lst (xs ++ zs)))
def rSort (K : Fg) : List V -> Hp -> VK -> Prop := fun xs H Q => ∃ p ns, xs = [.ref p] /\ (SqL K H p (ns.map V.int) ∨ SqT K H p (ns.map V.int)) /\ ns.length < 64 /\ ∀ (l : Addr) (ms : List Int), ms.Perm ns -> ms.Pairwise (· ≤ ·) -> H l = none -> Q (.ref l) (upd H l (.lst (ms.map V.int)))
section
variable {prog : Program} {w : World} {A : Around} {E : VSP} {s : Shared}
end
def setO (w : World) (a : Addr) (ks : List Int) : HO := .ext fun h => IntSet w h a ks
def rSetO (w : World) (K : Fg) : List V -> Hp -> VK -> Prop := fun xs H Q => ∃ p ns, xs = [.ref p] /\ (SqL K H p (ns.map V.int) ∨ SqT K H p (ns.map V.int)) /\ ns.length ≤ 1000 /\ ∀ l, H l = none -> Q (.ref l) (upd H l (setO w l (oneEach ns)))
def rSortS (w : World) : List V -> Hp -> VK -> Prop := fun xs H Q => ∃ p ks, xs = [.ref p] /\ H p = some (setO w p ks) /\ ks.length < 64 /\ ∀ (l : Addr) (ms : List Int), ms.Perm ks -> ms.Pairwise (· ≤ ·) -> H l = none -> Q (.ref l) (upd H l (.lst (ms.map V.int)))
def tRng2 (ta : TA) : TE := fun σ H Q => ta σ H fun vs H1 => ∃ i j : Int, vs = [.int i, .int j] /\ ∀ p, H1 p = none -> Q (.ref p) (upd H1 p (.rng i j))
def rNotInR : R2 := fun x y H Q => ∃ (i : Int) (p : Addr) (lo hi : Int), x = .int i /\ y = .ref p /\ H p = some (.rng lo hi) /\ Q (.bl (!(decide (lo ≤ i) && decide (i < hi)))) H
section
set_option autoImplicit true
set_option relaxedAutoImplicit true
end
def frmTo (lo n : Nat) : List Nat := (List.range n).map fun i => lo + i
def rLsR : List V -> Hp -> VK -> Prop := fun xs H Q => ∃ p, ∃ lo n : Nat, xs = [.ref p] /\ H p = some (.rng (lo : Int) ((lo + n : Nat) : Int)) /\ lo + n ≤ 1000 /\ ∀ l, H l = none -> Q (.ref l) (upd H l (.lst ((frmTo lo n).map fun i : Nat => V.int i)))
def tAsgE (te : TE) (i : Nat) : TS := fun D σ H => te σ H fun x H1 => ∃ σ', σ.set i (some x) = σ' /\ D.nx σ' H1
section
variable {prog : Program} {w : World} {A : Around} {E : VSP} {s : Shared}
end
section
variable {X : Cx} {pins : PLs} {σ : L2.St} {H : Hp} {A : Around} {E : VSP} {a kS : Addr} {vs : List Value} {kz : List Int} {f : Value} {e1 : Nat}
def KeyTurn (X : Cx) (σ : L2.St) (H : Hp) (A : Around) (f : Value) (vs : List Value) (kz : List Int) : Prop :=
 ∀ (i : Nat) (v : Value) (k : Int), vs[i]? = some v -> kz[i]? = some k -> ∀ (pins : PLs) (s : Shared), Inv X pins σ H s →
  wpAny (model X.prog X.w) A (call f [v]) (fun u s2 => (∃ t, u = .int k t) /\ Inv X pins σ H s2) (fun _ _ => False) s
end
def rSortK (sp : Sp) (key : Nat -> Int) : List V -> Hp -> VK -> Prop := fun xs H Q => ∃ (p : Addr) (n : Nat), xs = [.ref p] /\ H p = some (.rng 0 n) /\ n < 64 /\ (∀ i < n, ∀ (Qk : VK), Qk (.int (key i)) H -> sp [.int (i : Nat)] H Qk fun _ _ _ => False) ∧
 ∀ (l : Addr) (ms : List Nat), ms.Perm (List.range n) -> ms.Pairwise (fun a b => key a ≤ key b) -> H l = none -> Q (.ref l) (upd H l (.lst (ms.map fun i : Nat => V.int i)))
def tSortK (sp : Sp) (key : Nat -> Int) (t : TA) : TE := fun σ H Q => t σ H fun vs H1 => rSortK sp key vs H1 Q
def rRemN : V -> List V -> Hp -> VK -> Prop := fun x vs H Q => ∃ (l : Addr) (ns : List Nat) (j k : Nat), x = .ref l /\ vs = [.int (k : Int)] /\ H l = some (.lst (ns.map fun i : Nat => V.int i)) /\ ns[j]? = some k /\ (∀ m, m < j -> ns[m]? ≠ some k) /\ Q .non (upd H l (.lst ((ns.eraseIdx j).map fun i : Nat => V.int i)))
def isN (k : Int) : Value -> Bool
 | .int i _ => i == k
 | _ => false
def cxD (X : Cx) (N' : List Str) (scope : Scope) (y : Str) (cl : List (Str × Addr)) (C : Addr) (fp : List Addr) (pins : PLs) (s : Shared) (H : Hp) : Cx :=
 { X with N := N', s₀ := s, H₀ := H, env := compEnvC scope ((y, C + 1) :: cl) C X.env, outer := X.stack, stack := X.stack, ex := fp, fn := fun z => z == y, pn := X.pn ++ pins, xe := fun _ _ => False }
structure CellsD (X : Cx) (scope : Scope) (y : Str) (cl : List (Str × Addr)) : Prop where
 has : ∀ x, ((compEnvC scope cl 0 X.env).kindOf x = some .cell ∨ (compEnvC scope cl 0 X.env).kindOf x = some .free) -> x = y ∨ ∃ c, cl.lookup x = some c
 up : ∀ x c, cl.lookup x = some c -> X.env.cells.lookup x = some c
 no : cl.lookup y = none
section
variable {M : Model} {A : Around} {E : VSP} {s : Shared}
end
section
variable {X : Cx} {N' : List Str} {scope : Scope} {y : Str} {cl : List (Str × Addr)} {src : List (Option Nat)} {pins : PLs} {σ : L2.St} {H : Hp} {s : Shared} {fp : List Addr}
end
section
variable {X : Cx} {N' : List Str} {scope : Scope} {y : Str} {cl : List (Str × Addr)} {src : List (Option Nat)} {tg iter elt : Expr} {ifs : List Expr} {wi : TI} {g : TG} {tt : TT} {te : TE} {pos : Pos}
end
section
variable {X : Cx} {N' : List Str} {scope : Scope} {y : Str} {cl : List (Str × Addr)} {src : List (Option Nat)} {tg iter elt : Expr} {ifs : List Expr} {wi : TI} {g : TG} {tt : TT} {te : TE} {pos : Pos}
end
structure IsF (K : Fg) (n : Str) (st : Stmt) (f : Addr) (d : FuncData) : Prop where
 p : PySem.W.nsIn K mainGlobals n = some (some (.ref f))
 F : Fun K n n st f d
section
variable {K : Fg} {n : Str} {st : Stmt} {f : Addr} {d : FuncData}
theorem isF {oc : Value} {od an : Option Addr} {sl : Array (Option Value)} {kV dc pm cd ct : Value} (p : PySem.W.nsIn K mainGlobals n = some (some (.ref f)))
  (l : K.lookup f = some ⟨oc, od, .func (PySem.W.fnOf n n (defArgs st) (defBody st) (defScope st) .none kV dc pm an cd ct), sl⟩) (c : PySem.W.codeIn K cd n = true) (k : PySem.W.keepIn K (.ref f) = true) :
  IsF K n st f (PySem.W.fnOf n n (defArgs st) (defBody st) (defScope st) .none kV dc pm an cd ct) := ⟨p, fun_mk l c k⟩
abbrev BA (n : Str) (st : Stmt) (us : List Value) (ps : List Str) : Prop := ∀ (kV dc pm : Value) (an : Option Addr) (cd ct : Value), bindArgs (PySem.W.fnOf n n (defArgs st) (defBody st) (defScope st) .none kV dc pm an cd ct) ⟨us, []⟩ = pure (ps.zip us)
theorem IsF.b1 {x : Str} (I : IsF K n st f d) (h : ∀ u, BA n st [u] [x] := by exact fun _ _ _ _ _ _ _ => rfl) : Binds K d [x] [] := I.F.binds fun a b c e g i us hl => match us, hl with | [u], _ => h u a b c e g i
theorem IsF.b2 {x y : Str} (I : IsF K n st f d) (h : ∀ u v, BA n st [u, v] [x, y] := by exact fun _ _ _ _ _ _ _ _ => rfl) : Binds K d [x, y] [] := I.F.binds fun a b c e g i us hl => match us, hl with | [u, v], _ => h u v a b c e g i
theorem IsF.b3 {x y z : Str} (I : IsF K n st f d) (h : ∀ u v w, BA n st [u, v, w] [x, y, z] := by exact fun _ _ _ _ _ _ _ _ _ => rfl) : Binds K d [x, y, z] [] := I.F.binds fun a b c e g i us hl => match us, hl with | [u, v, w], _ => h u v w a b c e g i
end
theorem qss_consL {X : Cx} {st : Stmt} {rest : List Stmt} {t u : TS} (h1 : QS X st t) (h2 : QSs X rest u) : QSs X (st :: rest) (let Uq := u; tSeq t Uq) := qss_cons h1 h2
theorem lst_at {h h' : Heap} {a : Addr} {ys : Array Value} (x : h.IsList a ys) (k : ∀ o, h.get? a = some o -> h'.get? a = some o) : h'.IsList a ys := let ⟨o, e, r⟩ := x; ⟨o, k o e, r⟩
theorem lstIter_lt {h : Heap} {i a : Addr} {n : Nat} (x : h.IsListIter i a n) : i < h.objs.size := let ⟨_, e, _⟩ := x; Heap.lt_size e
def ItzLT (K : Fg) (a b : Addr) : It :=
 ⟨fun i H => ∃ xs ys x y, SqL K H a xs /\ SqT K H b ys /\ xs[i]? = some x /\ ys[i]? = some y,
  fun i H v H' => ∃ p x y, H p = none /\ v = .ref p /\ H' = upd H p (.tup [x, y]) /\ (∀ xs, SqL K H a xs -> xs[i]? = some x) /\ ∀ ys, SqT K H b ys -> ys[i]? = some y,
  fun i H => ∃ xs ys, SqL K H a xs /\ SqT K H b ys /\ (xs.length ≤ i ∨ ys.length ≤ i)⟩
def ZStLT (z TI TO i1 i2 a b : Addr) (i : Nat) (h : Heap) : Prop := IsZip h z TI TO .none /\ IsPair h TI (.ref i1) (.ref i2) /\ (∃ u v, IsPair h TO u v) /\ h.IsListIter i1 a i /\ h.IsTupleIter i2 b i
theorem turn_zipLT {P : Program} {w : World} {K : Fg} {elts : List Expr} {x1} {pos : Pos} {z TI TO i1 i2 a b : Addr} (D : Five z TI TO i1 i2) :
  Turn P w K (.Tuple elts x1 pos) (ItzLT K a b) [z, TI, TO, i1, i2] z (ZStLT z TI TO i1 i2 a b) where
 mem := by simp
 obj := fun i h st c hc => by
  obtain ⟨h1, h2, ⟨u, v, h3⟩, ⟨o4, h4, c4, d4⟩, ⟨o5, h5, c5, d5⟩⟩ := st
  simp only [List.mem_cons, List.not_mem_nil, or_false] at hc
  rcases hc with rfl | rfl | rfl | rfl | rfl
  ·exact ⟨_, h1, fun v q => by cases (show Data.fields _ = Data.cell v from q)⟩
  ·exact ⟨_, h2, fun v q => by cases (show Data.seq _ _ = Data.cell v from q)⟩
  ·exact ⟨_, h3, fun v q => by cases (show Data.seq _ _ = Data.cell v from q)⟩
  ·exact ⟨o4, h4, fun v q => by rw [d4] at q; cases q⟩
  ·exact ⟨o5, h5, fun v q => by rw [d5] at q; cases q⟩
 keep := fun i h h' st k => by
  obtain ⟨h1, h2, ⟨u, v, h3⟩, h4, h5⟩ := st
  exact ⟨k z (by simp) _ h1, k TI (by simp) _ h2, ⟨u, v, k TO (by simp) _ h3⟩, lstIter_at h4 fun o e => k i1 (by simp) o e, tupIter_at h5 fun o e => k i2 (by simp) o e⟩
 item := by
  intro X hP hw hK hc i pins s σ H E I hf st hg
  subst hP hw hK
  obtain ⟨xs, ys, x, y, q1, q2, hx, hy⟩ := hg
  obtain ⟨its, rv, p1, z1⟩ := I.list q1
  obtain ⟨jts, rw', p2, z2⟩ := I.tuple q2
  obtain ⟨u, hu, ru⟩ := rv.get hx
  obtain ⟨v, hv, rv2⟩ := rw'.get hy
  have off1 : ∀ c ∈ [z, TI, TO, i1, i2], a ≠ c := fun c hc => sqL_off I q1 (hf c hc)
  have off2 : ∀ c ∈ [z, TI, TO, i1, i2], b ≠ c := fun c hc => sqT_off I q2 (hf c hc)
  obtain ⟨h1, h2, ⟨o1, o2, h3⟩, h4, h5⟩ := st
  have hT : s.TypeIs (.ref z) "zip" := ⟨_, h1, rfl⟩
  unfold pyNext
  refine wpAny_bind (wpAny_attempt (wpAny_callSpecial?_slot (name := Str.ofString "__next__") hT F.slot_zip_next
   (wpAny_call_entry F.slot_zip_next hT F.entry_zip_next ?_ (F.args_zip_next_1 _))))
  refine zip_step (x := u) (y := v) (A1 := fun h => h.IsListIter i1 a (i + 1)) (A2 := fun h => h.IsTupleIter i2 b (i + 1)) D h1 h2 h3 ?_ ?_ (lstIter_lt h4) (tupIter_lt h5) ?_
  ·intro s' G E' k g
   exact wpAny_nextOf_list_item (lstIter_at h4 fun o e => k _ o D.a3 e) (lst_at (show s.heap.IsList a its.toArray from p1.isList) fun o e => k _ o (off1 z (by simp)) e) (by simpa using hu) g
  ·intro s' G E' k g
   exact nx_item (tupIter_at h5 fun o e => k _ o D.a4 (Ne.symm D.a9) (Ne.symm D.b1) e) (tup_at (show s.heap.IsTuple b jts.toArray from p2) fun o e => k _ o (off2 z (by simp)) (off2 TO (by simp)) (off2 i1 (by simp)) e) (by simpa using hv) g
  ·intro g1 g2 h' a1 a2 k1 k2 zz po pn sz kk
   refine wpAny_pure ⟨_, rfl, ?_⟩
   refine wpAny_letOwnedTupleGo_zip zz fun h'' z3 sb => ?_
   have nz : s.heap.objs.size ≠ z := Nat.ne_of_gt (Heap.lt_size h1)
   have hp : H s.heap.objs.size = none := I.fresh
   have P : ObjOk X.prog X.w (upd H s.heap.objs.size (.tup [x, y])) h'' s.heap.objs.size (.tup [x, y]) :=
    ⟨by show 2 ≤ sizeLine; decide, [u, v], .cons ru (.cons rv2 .nil), ⟨_, sb.extBut _ _ nz pn, rfl, _, rfl⟩⟩
   have I2 : Inv X pins σ (upd H s.heap.objs.size (.tup [x, y])) { s with heap := h'', toks := s.toks } := turnedN I (fun c o n e => by
    have n' : c ∉ [z, TO, i1, i2] := fun q => n (by
     simp only [List.mem_cons, List.not_mem_nil, or_false] at q ⊢
     rcases q with q | q | q | q <;> simp [q])
    exact sb.extBut _ _ (fun q => n (by simp [q])) (kk c o n' e)) hf (Nat.le_refl _) P
   refine ⟨.ref s.heap.objs.size, _, I2, rfl, ⟨_, x, y, hp, rfl, rfl, fun zs hz => by rw [I.list_inj hz q1]; exact hx, fun zs hz => by rw [I.tuple_inj hz q2]; exact hy⟩, ⟨z3, ?_, ⟨u, v, ?_⟩, ?_, ?_⟩, fun c hc => ?_⟩
   ·refine sb.extBut _ _ D.a1 (kk TI _ ?_ h2)
    have := D.a1; have := D.a5; have := D.a6; have := D.a7
    simp only [List.mem_cons, List.not_mem_nil, or_false, not_or]
    exact ⟨D.a1, D.a5, D.a6, D.a7⟩
   ·exact sb.extBut _ _ D.a2 po
   ·exact lstIter_at a1 fun o e => sb.extBut _ _ D.a3 (k1 _ o D.a3 (Ne.symm D.a8) D.b1 e)
   ·exact tupIter_at a2 fun o e => sb.extBut _ _ D.a4 (k2 _ o D.a4 (Ne.symm D.a9) e)
   ·have lt : c < s.heap.objs.size := by
     simp only [List.mem_cons, List.not_mem_nil, or_false] at hc
     rcases hc with rfl | rfl | rfl | rfl | rfl
     ·exact Heap.lt_size h1
     ·exact Heap.lt_size h2
     ·exact Heap.lt_size h3
     ·exact lstIter_lt h4
     ·exact tupIter_lt h5
    rw [upd_ne (Nat.ne_of_lt lt)]
    exact (hf c hc).1
 done := by
  intro X hP hw hK hc i pins s σ H E I hf st hg
  subst hP hw hK
  obtain ⟨xs, ys, q1, q2, hd⟩ := hg
  obtain ⟨its, rv, p1, z1⟩ := I.list q1
  obtain ⟨jts, rw', p2, z2⟩ := I.tuple q2
  have l1 := rv.length
  have l2 := rw'.length
  have off1 : ∀ c ∈ [z, TI, TO, i1, i2], a ≠ c := fun c hc => sqL_off I q1 (hf c hc)
  have off2 : ∀ c ∈ [z, TI, TO, i1, i2], b ≠ c := fun c hc => sqT_off I q2 (hf c hc)
  obtain ⟨h1, h2, ⟨o1, o2, h3⟩, h4, h5⟩ := st
  have hT : s.TypeIs (.ref z) "zip" := ⟨_, h1, rfl⟩
  have hh : X.A.in1.handled = none := I.ok.hd hc
  unfold pyNext
  refine wpAny_bind (wpAny_attempt (wpAny_callSpecial?_slot (name := Str.ofString "__next__") hT F.slot_zip_next
   (wpAny_call_entry F.slot_zip_next hT F.entry_zip_next ?_ (F.args_zip_next_1 _))))
  refine zip_stop D h1 h2 h3 ?_ fun h' e kk he => ?_
  ·cases e : its.toArray[i]? with
   | none =>
    refine .inl fun s' G E' k g => ?_
    exact wpAny_nextOf_list_end hh (lstIter_at h4 fun o e => k _ o D.a3 e) (lst_at (show s.heap.IsList a its.toArray from p1.isList) fun o e => k _ o (off1 z (by simp)) e) e g
   | some u =>
    refine .inr ⟨⟨u, fun s' G E' k g => ?_⟩, fun s' G E' k g => ?_⟩
    ·exact wpAny_nextOf_list_item (lstIter_at h4 fun o e => k _ o D.a3 e) (lst_at (show s.heap.IsList a its.toArray from p1.isList) fun o e => k _ o (off1 z (by simp)) e) e fun h' _ sb => g h' sb
    ·have hi : i < its.length := by
      have := (Array.getElem?_eq_some_iff.mp e).1
      simpa using this
     exact nx_end hh (tupIter_at h5 fun o e => k _ o D.a4 (Ne.symm D.a9) (Ne.symm D.b1) e) (tup_at (show s.heap.IsTuple b jts.toArray from p2) fun o e => k _ o (off2 z (by simp)) (off2 TO (by simp)) (off2 i1 (by simp)) e)
      (by rw [Array.getElem?_eq_none_iff]; simp; omega) g
  ·obtain ⟨o, ho, hc'⟩ := he
   refine wpAny_bind (wpAny_isInstance (T := "StopIteration") (b := true) ⟨o, ho, hc'⟩ isSubtype_stop ?_)
   refine wpAny_pure ⟨rfl, ?_⟩
   exact turnedL (t' := s.toks) I (fun c o n e => kk c o (fun q => n (by
     simp only [List.mem_cons, List.not_mem_nil, or_false] at q ⊢
     rcases q with q | q | q | q <;> simp [q])) e) hf
 self := fun _ _ _ _ _ st h => wpAny_pyIter_zip st.1 h
abbrev zALT (h : Heap) (a : Addr) : Heap := h.push { cls := .type "list_iterator", data := .fields #[.ref a, .int 0 0] }
abbrev zBLT (h : Heap) (a b : Addr) : Heap := (zALT h a).push { cls := .type "tuple_iterator", data := .fields #[.ref b, .int 0 0] }
abbrev zCLT (h : Heap) (a b : Addr) : Heap := (zBLT h a b).push { cls := .type "tuple", data := .seq #[.ref h.objs.size, .ref (zALT h a).objs.size] }
abbrev zDLT (h : Heap) (a b : Addr) : Heap := (zCLT h a b).push { cls := .type "tuple", data := .seq #[.none, .none] }
abbrev zELT (h : Heap) (a b : Addr) : Heap := (zDLT h a b).push { cls := .type "zip", data := .fields #[.none, .bool false, .bool false, .ref (zBLT h a b).objs.size, .ref (zCLT h a b).objs.size] }
theorem zip_newLT (a b : Addr) (xs ys : Array Value) : Meets (Builtin.«zip.__new__» ⟨[.type "zip", .ref a, .ref b], []⟩) (fun _ R s => s.heap.IsList a xs /\ s.heap.IsTuple b ys ∧
  R (.ok (.ret (.ref (zDLT s.heap a b).objs.size))) { s with heap := zELT s.heap a b }) :=
 .of_wp fun prog w A R s h => by
  obtain ⟨hp, g, d, tk, os⟩ := s; obtain ⟨l1, l2, h⟩ := h
  have zsub := sub_zip
  have L1 : Heap.IsList (Shared.heap ⟨hp, g, d, tk, os⟩) a xs := l1
  have L2 : Heap.IsTuple (Shared.heap ⟨hp.push { cls := .type "list_iterator", data := .fields #[.ref a, .int 0 0] }, g, d, tk, os⟩) b ys := Heap.IsTuple.push l2 _
  wp_walk using wpAny_pyIter_list L1, wpAny_pyIter_tuple L2
  exact ⟨_, rfl, h⟩
def iZipLT (K : Fg) (ta : TA) : TI := fun σ H R => ta σ H fun vs H1 => ∃ a b, vs = [.ref a, .ref b] /\ (∃ xs, SqL K H1 a xs) /\ (∃ ys, SqT K H1 b ys) /\ R (ItzLT K a b) H1
theorem pi_zipLT {X : Cx} {elts : List Expr} {x1} {tp p pos : Pos} {a b : Expr} {ta : TA} (hg : Gl X "zip") (hm : X.mg "zip" = none) (ha : PA X [a, b] ta) (hs : starEach [a, b] X.env = [(false, eval a X.env), (false, eval b X.env)] := by rfl) (hs2 : starEach [b] X.env = [(false, eval b X.env)] := by rfl) :
  PI X (.Tuple elts x1 tp) (.Call (.Name "zip" p) [a, b] [] pos) (iZipLT X.K ta) := by
 intro pins s σ H R I h
 refine Call_ (ld_blt I hg hm (show bootBuiltins "zip" = some (.type "zip") by kernel_rfl) (PyProof.Rows.callWith_type1 (thn (ha pos pins s σ H _ I h) fun us s1 ⟨vs, H1, I1, r1, q1⟩ => ?_) (by rw [hs, hs2]) (by rw [hs2]; rfl)))
 obtain ⟨a, b, e, ⟨xs, hx⟩, ⟨ys, hy⟩, q⟩ := q1
 subst e
 obtain ⟨u, v, rfl, ru, rv⟩ := vals2 r1
 cases ru; cases rv
 obtain ⟨its, _, p1, _⟩ := I1.list hx
 obtain ⟨jts, _, p2, _⟩ := I1.tuple hy
 refine callType_new F.called_zip (by decide) (F.typeCall_zip_2 _ _) (F.newCall_zip_2 _ _) (fun obj => F.args_object_init_3 obj _ _) F.entry_zip_new (zip_newLT a b its.toArray jts.toArray) ⟨p1.isList, p2, ?_⟩
 have e1 : (zALT s1.heap a).objs.size = s1.heap.objs.size + 1 := Heap.size_push ..
 have e2 : (zBLT s1.heap a b).objs.size = s1.heap.objs.size + 2 := by rw [Heap.size_push, e1]
 have e3 : (zCLT s1.heap a b).objs.size = s1.heap.objs.size + 3 := by rw [Heap.size_push, e2]
 have e4 : (zDLT s1.heap a b).objs.size = s1.heap.objs.size + 4 := by rw [Heap.size_push, e3]
 have g5 : (zELT s1.heap a b).get? (zDLT s1.heap a b).objs.size = some _ := Heap.get?_push_size _ rfl
 have g4 : (zELT s1.heap a b).get? (zCLT s1.heap a b).objs.size = some _ := Heap.get?_push_of_some _ (Heap.get?_push_size _ rfl)
 have g3 : (zELT s1.heap a b).get? (zBLT s1.heap a b).objs.size = some _ := Heap.get?_push_of_some _ (Heap.get?_push_of_some _ (Heap.get?_push_size _ rfl))
 have g2 : (zELT s1.heap a b).get? (zALT s1.heap a).objs.size = some _ := Heap.get?_push_of_some _ (Heap.get?_push_of_some _ (Heap.get?_push_of_some _ (Heap.get?_push_size _ rfl)))
 have g1 : (zELT s1.heap a b).get? s1.heap.objs.size = some _ := Heap.get?_push_of_some _ (Heap.get?_push_of_some _ (Heap.get?_push_of_some _ (Heap.get?_push_of_some _ (Heap.get?_push_size _ rfl))))
 have kk : ∀ c o, s1.heap.get? c = some o -> (zELT s1.heap a b).get? c = some o := fun c o x => Heap.get?_push_of_some _ (Heap.get?_push_of_some _ (Heap.get?_push_of_some _ (Heap.get?_push_of_some _ (Heap.get?_push_of_some _ x))))
 show _ /\ _
 rw [e2, e3, e4] at g5
 rw [e1, e2] at g3
 rw [e3] at g4
 rw [e1] at g2
 rw [e4]
 generalize zELT s1.heap a b = hE at g1 g2 g3 g4 g5 kk
 refine ⟨⟨_, g5, rfl⟩, wpAny_pyIter_zip g5 ?_⟩
 have I2 : Inv X pins σ H1 { s1 with heap := hE } := I1.kept (t' := s1.toks) kk
 refine ⟨_, _, _, _, H1, rfl, I2, turn_zipLT (five_new s1.heap.objs.size), ⟨g5, g3, ⟨_, _, g4⟩, ⟨_, g1, rfl, rfl⟩, ⟨_, g2, rfl, rfl⟩⟩, fun c hc => ?_, q⟩
 have le : s1.heap.objs.size ≤ c := by
  simp only [List.mem_cons, List.not_mem_nil, or_false] at hc
  rcases hc with h | h | h | h | h <;> (rw [h]; first | exact Nat.le_refl _ | exact Nat.le_add_right _ _)
 exact I1.fpOk le (I1.hok.fresh le)
def ItzLL (K : Fg) (a b : Addr) : It :=
 ⟨fun i H => ∃ xs ys x y, SqL K H a xs /\ SqL K H b ys /\ xs[i]? = some x /\ ys[i]? = some y,
  fun i H v H' => ∃ p x y, H p = none /\ v = .ref p /\ H' = upd H p (.tup [x, y]) /\ (∀ xs, SqL K H a xs -> xs[i]? = some x) /\ ∀ ys, SqL K H b ys -> ys[i]? = some y,
  fun i H => ∃ xs ys, SqL K H a xs /\ SqL K H b ys /\ (xs.length ≤ i ∨ ys.length ≤ i)⟩
def ZStLL (z TI TO i1 i2 a b : Addr) (i : Nat) (h : Heap) : Prop := IsZip h z TI TO .none /\ IsPair h TI (.ref i1) (.ref i2) /\ (∃ u v, IsPair h TO u v) /\ h.IsListIter i1 a i /\ h.IsListIter i2 b i
theorem turn_zipLL {P : Program} {w : World} {K : Fg} {elts : List Expr} {x1} {pos : Pos} {z TI TO i1 i2 a b : Addr} (D : Five z TI TO i1 i2) :
  Turn P w K (.Tuple elts x1 pos) (ItzLL K a b) [z, TI, TO, i1, i2] z (ZStLL z TI TO i1 i2 a b) where
 mem := by simp
 obj := fun i h st c hc => by
  obtain ⟨h1, h2, ⟨u, v, h3⟩, ⟨o4, h4, c4, d4⟩, ⟨o5, h5, c5, d5⟩⟩ := st
  simp only [List.mem_cons, List.not_mem_nil, or_false] at hc
  rcases hc with rfl | rfl | rfl | rfl | rfl
  ·exact ⟨_, h1, fun v q => by cases (show Data.fields _ = Data.cell v from q)⟩
  ·exact ⟨_, h2, fun v q => by cases (show Data.seq _ _ = Data.cell v from q)⟩
  ·exact ⟨_, h3, fun v q => by cases (show Data.seq _ _ = Data.cell v from q)⟩
  ·exact ⟨o4, h4, fun v q => by rw [d4] at q; cases q⟩
  ·exact ⟨o5, h5, fun v q => by rw [d5] at q; cases q⟩
 keep := fun i h h' st k => by
  obtain ⟨h1, h2, ⟨u, v, h3⟩, h4, h5⟩ := st
  exact ⟨k z (by simp) _ h1, k TI (by simp) _ h2, ⟨u, v, k TO (by simp) _ h3⟩, lstIter_at h4 fun o e => k i1 (by simp) o e, lstIter_at h5 fun o e => k i2 (by simp) o e⟩
 item := by
  intro X hP hw hK hc i pins s σ H E I hf st hg
  subst hP hw hK
  obtain ⟨xs, ys, x, y, q1, q2, hx, hy⟩ := hg
  obtain ⟨its, rv, p1, z1⟩ := I.list q1
  obtain ⟨jts, rw', p2, z2⟩ := I.list q2
  obtain ⟨u, hu, ru⟩ := rv.get hx
  obtain ⟨v, hv, rv2⟩ := rw'.get hy
  have off1 : ∀ c ∈ [z, TI, TO, i1, i2], a ≠ c := fun c hc => sqL_off I q1 (hf c hc)
  have off2 : ∀ c ∈ [z, TI, TO, i1, i2], b ≠ c := fun c hc => sqL_off I q2 (hf c hc)
  obtain ⟨h1, h2, ⟨o1, o2, h3⟩, h4, h5⟩ := st
  have hT : s.TypeIs (.ref z) "zip" := ⟨_, h1, rfl⟩
  unfold pyNext
  refine wpAny_bind (wpAny_attempt (wpAny_callSpecial?_slot (name := Str.ofString "__next__") hT F.slot_zip_next
   (wpAny_call_entry F.slot_zip_next hT F.entry_zip_next ?_ (F.args_zip_next_1 _))))
  refine zip_step (x := u) (y := v) (A1 := fun h => h.IsListIter i1 a (i + 1)) (A2 := fun h => h.IsListIter i2 b (i + 1)) D h1 h2 h3 ?_ ?_ (lstIter_lt h4) (lstIter_lt h5) ?_
  ·intro s' G E' k g
   exact wpAny_nextOf_list_item (lstIter_at h4 fun o e => k _ o D.a3 e) (lst_at (show s.heap.IsList a its.toArray from p1.isList) fun o e => k _ o (off1 z (by simp)) e) (by simpa using hu) g
  ·intro s' G E' k g
   exact wpAny_nextOf_list_item (lstIter_at h5 fun o e => k _ o D.a4 (Ne.symm D.a9) (Ne.symm D.b1) e) (lst_at (show s.heap.IsList b jts.toArray from p2.isList) fun o e => k _ o (off2 z (by simp)) (off2 TO (by simp)) (off2 i1 (by simp)) e) (by simpa using hv) g
  ·intro g1 g2 h' a1 a2 k1 k2 zz po pn sz kk
   refine wpAny_pure ⟨_, rfl, ?_⟩
   refine wpAny_letOwnedTupleGo_zip zz fun h'' z3 sb => ?_
   have nz : s.heap.objs.size ≠ z := Nat.ne_of_gt (Heap.lt_size h1)
   have hp : H s.heap.objs.size = none := I.fresh
   have P : ObjOk X.prog X.w (upd H s.heap.objs.size (.tup [x, y])) h'' s.heap.objs.size (.tup [x, y]) :=
    ⟨by show 2 ≤ sizeLine; decide, [u, v], .cons ru (.cons rv2 .nil), ⟨_, sb.extBut _ _ nz pn, rfl, _, rfl⟩⟩
   have I2 : Inv X pins σ (upd H s.heap.objs.size (.tup [x, y])) { s with heap := h'', toks := s.toks } := turnedN I (fun c o n e => by
    have n' : c ∉ [z, TO, i1, i2] := fun q => n (by
     simp only [List.mem_cons, List.not_mem_nil, or_false] at q ⊢
     rcases q with q | q | q | q <;> simp [q])
    exact sb.extBut _ _ (fun q => n (by simp [q])) (kk c o n' e)) hf (Nat.le_refl _) P
   refine ⟨.ref s.heap.objs.size, _, I2, rfl, ⟨_, x, y, hp, rfl, rfl, fun zs hz => by rw [I.list_inj hz q1]; exact hx, fun zs hz => by rw [I.list_inj hz q2]; exact hy⟩, ⟨z3, ?_, ⟨u, v, ?_⟩, ?_, ?_⟩, fun c hc => ?_⟩
   ·refine sb.extBut _ _ D.a1 (kk TI _ ?_ h2)
    have := D.a1; have := D.a5; have := D.a6; have := D.a7
    simp only [List.mem_cons, List.not_mem_nil, or_false, not_or]
    exact ⟨D.a1, D.a5, D.a6, D.a7⟩
   ·exact sb.extBut _ _ D.a2 po
   ·exact lstIter_at a1 fun o e => sb.extBut _ _ D.a3 (k1 _ o D.a3 (Ne.symm D.a8) D.b1 e)
   ·exact lstIter_at a2 fun o e => sb.extBut _ _ D.a4 (k2 _ o D.a4 (Ne.symm D.a9) e)
   ·have lt : c < s.heap.objs.size := by
     simp only [List.mem_cons, List.not_mem_nil, or_false] at hc
     rcases hc with rfl | rfl | rfl | rfl | rfl
     ·exact Heap.lt_size h1
     ·exact Heap.lt_size h2
     ·exact Heap.lt_size h3
     ·exact lstIter_lt h4
     ·exact lstIter_lt h5
    rw [upd_ne (Nat.ne_of_lt lt)]
    exact (hf c hc).1
 done := by
  intro X hP hw hK hc i pins s σ H E I hf st hg
  subst hP hw hK
  obtain ⟨xs, ys, q1, q2, hd⟩ := hg
  obtain ⟨its, rv, p1, z1⟩ := I.list q1
  obtain ⟨jts, rw', p2, z2⟩ := I.list q2
  have l1 := rv.length
  have l2 := rw'.length
  have off1 : ∀ c ∈ [z, TI, TO, i1, i2], a ≠ c := fun c hc => sqL_off I q1 (hf c hc)
  have off2 : ∀ c ∈ [z, TI, TO, i1, i2], b ≠ c := fun c hc => sqL_off I q2 (hf c hc)
  obtain ⟨h1, h2, ⟨o1, o2, h3⟩, h4, h5⟩ := st
  have hT : s.TypeIs (.ref z) "zip" := ⟨_, h1, rfl⟩
  have hh : X.A.in1.handled = none := I.ok.hd hc
  unfold pyNext
  refine wpAny_bind (wpAny_attempt (wpAny_callSpecial?_slot (name := Str.ofString "__next__") hT F.slot_zip_next
   (wpAny_call_entry F.slot_zip_next hT F.entry_zip_next ?_ (F.args_zip_next_1 _))))
  refine zip_stop D h1 h2 h3 ?_ fun h' e kk he => ?_
  ·cases e : its.toArray[i]? with
   | none =>
    refine .inl fun s' G E' k g => ?_
    exact wpAny_nextOf_list_end hh (lstIter_at h4 fun o e => k _ o D.a3 e) (lst_at (show s.heap.IsList a its.toArray from p1.isList) fun o e => k _ o (off1 z (by simp)) e) e g
   | some u =>
    refine .inr ⟨⟨u, fun s' G E' k g => ?_⟩, fun s' G E' k g => ?_⟩
    ·exact wpAny_nextOf_list_item (lstIter_at h4 fun o e => k _ o D.a3 e) (lst_at (show s.heap.IsList a its.toArray from p1.isList) fun o e => k _ o (off1 z (by simp)) e) e fun h' _ sb => g h' sb
    ·have hi : i < its.length := by
      have := (Array.getElem?_eq_some_iff.mp e).1
      simpa using this
     exact wpAny_nextOf_list_end hh (lstIter_at h5 fun o e => k _ o D.a4 (Ne.symm D.a9) (Ne.symm D.b1) e) (lst_at (show s.heap.IsList b jts.toArray from p2.isList) fun o e => k _ o (off2 z (by simp)) (off2 TO (by simp)) (off2 i1 (by simp)) e)
      (by rw [Array.getElem?_eq_none_iff]; simp; omega) g
  ·obtain ⟨o, ho, hc'⟩ := he
   refine wpAny_bind (wpAny_isInstance (T := "StopIteration") (b := true) ⟨o, ho, hc'⟩ isSubtype_stop ?_)
   refine wpAny_pure ⟨rfl, ?_⟩
   exact turnedL (t' := s.toks) I (fun c o n e => kk c o (fun q => n (by
     simp only [List.mem_cons, List.not_mem_nil, or_false] at q ⊢
     rcases q with q | q | q | q <;> simp [q])) e) hf
 self := fun _ _ _ _ _ st h => wpAny_pyIter_zip st.1 h
abbrev zALL (h : Heap) (a : Addr) : Heap := h.push { cls := .type "list_iterator", data := .fields #[.ref a, .int 0 0] }
abbrev zBLL (h : Heap) (a b : Addr) : Heap := (zALL h a).push { cls := .type "list_iterator", data := .fields #[.ref b, .int 0 0] }
abbrev zCLL (h : Heap) (a b : Addr) : Heap := (zBLL h a b).push { cls := .type "tuple", data := .seq #[.ref h.objs.size, .ref (zALL h a).objs.size] }
abbrev zDLL (h : Heap) (a b : Addr) : Heap := (zCLL h a b).push { cls := .type "tuple", data := .seq #[.none, .none] }
abbrev zELL (h : Heap) (a b : Addr) : Heap := (zDLL h a b).push { cls := .type "zip", data := .fields #[.none, .bool false, .bool false, .ref (zBLL h a b).objs.size, .ref (zCLL h a b).objs.size] }
theorem zip_newLL (a b : Addr) (xs ys : Array Value) : Meets (Builtin.«zip.__new__» ⟨[.type "zip", .ref a, .ref b], []⟩) (fun _ R s => s.heap.IsList a xs /\ s.heap.IsList b ys ∧
  R (.ok (.ret (.ref (zDLL s.heap a b).objs.size))) { s with heap := zELL s.heap a b }) :=
 .of_wp fun prog w A R s h => by
  obtain ⟨hp, g, d, tk, os⟩ := s; obtain ⟨l1, l2, h⟩ := h
  have zsub := sub_zip
  have L1 : Heap.IsList (Shared.heap ⟨hp, g, d, tk, os⟩) a xs := l1
  have L2 : Heap.IsList (Shared.heap ⟨hp.push { cls := .type "list_iterator", data := .fields #[.ref a, .int 0 0] }, g, d, tk, os⟩) b ys := Heap.IsList.push l2 _
  wp_walk using wpAny_pyIter_list L1, wpAny_pyIter_list L2
  exact ⟨_, rfl, h⟩
def iZipLL (K : Fg) (ta : TA) : TI := fun σ H R => ta σ H fun vs H1 => ∃ a b, vs = [.ref a, .ref b] /\ (∃ xs, SqL K H1 a xs) /\ (∃ ys, SqL K H1 b ys) /\ R (ItzLL K a b) H1
theorem pi_zipLL {X : Cx} {elts : List Expr} {x1} {tp p pos : Pos} {a b : Expr} {ta : TA} (hg : Gl X "zip") (hm : X.mg "zip" = none) (ha : PA X [a, b] ta) (hs : starEach [a, b] X.env = [(false, eval a X.env), (false, eval b X.env)] := by rfl) (hs2 : starEach [b] X.env = [(false, eval b X.env)] := by rfl) :
  PI X (.Tuple elts x1 tp) (.Call (.Name "zip" p) [a, b] [] pos) (iZipLL X.K ta) := by
 intro pins s σ H R I h
 refine Call_ (ld_blt I hg hm (show bootBuiltins "zip" = some (.type "zip") by kernel_rfl) (PyProof.Rows.callWith_type1 (thn (ha pos pins s σ H _ I h) fun us s1 ⟨vs, H1, I1, r1, q1⟩ => ?_) (by rw [hs, hs2]) (by rw [hs2]; rfl)))
 obtain ⟨a, b, e, ⟨xs, hx⟩, ⟨ys, hy⟩, q⟩ := q1
 subst e
 obtain ⟨u, v, rfl, ru, rv⟩ := vals2 r1
 cases ru; cases rv
 obtain ⟨its, _, p1, _⟩ := I1.list hx
 obtain ⟨jts, _, p2, _⟩ := I1.list hy
 refine callType_new F.called_zip (by decide) (F.typeCall_zip_2 _ _) (F.newCall_zip_2 _ _) (fun obj => F.args_object_init_3 obj _ _) F.entry_zip_new (zip_newLL a b its.toArray jts.toArray) ⟨p1.isList, p2.isList, ?_⟩
 have e1 : (zALL s1.heap a).objs.size = s1.heap.objs.size + 1 := Heap.size_push ..
 have e2 : (zBLL s1.heap a b).objs.size = s1.heap.objs.size + 2 := by rw [Heap.size_push, e1]
 have e3 : (zCLL s1.heap a b).objs.size = s1.heap.objs.size + 3 := by rw [Heap.size_push, e2]
 have e4 : (zDLL s1.heap a b).objs.size = s1.heap.objs.size + 4 := by rw [Heap.size_push, e3]
 have g5 : (zELL s1.heap a b).get? (zDLL s1.heap a b).objs.size = some _ := Heap.get?_push_size _ rfl
 have g4 : (zELL s1.heap a b).get? (zCLL s1.heap a b).objs.size = some _ := Heap.get?_push_of_some _ (Heap.get?_push_size _ rfl)
 have g3 : (zELL s1.heap a b).get? (zBLL s1.heap a b).objs.size = some _ := Heap.get?_push_of_some _ (Heap.get?_push_of_some _ (Heap.get?_push_size _ rfl))
 have g2 : (zELL s1.heap a b).get? (zALL s1.heap a).objs.size = some _ := Heap.get?_push_of_some _ (Heap.get?_push_of_some _ (Heap.get?_push_of_some _ (Heap.get?_push_size _ rfl)))
 have g1 : (zELL s1.heap a b).get? s1.heap.objs.size = some _ := Heap.get?_push_of_some _ (Heap.get?_push_of_some _ (Heap.get?_push_of_some _ (Heap.get?_push_of_some _ (Heap.get?_push_size _ rfl))))
 have kk : ∀ c o, s1.heap.get? c = some o -> (zELL s1.heap a b).get? c = some o := fun c o x => Heap.get?_push_of_some _ (Heap.get?_push_of_some _ (Heap.get?_push_of_some _ (Heap.get?_push_of_some _ (Heap.get?_push_of_some _ x))))
 show _ /\ _
 rw [e2, e3, e4] at g5
 rw [e1, e2] at g3
 rw [e3] at g4
 rw [e1] at g2
 rw [e4]
 generalize zELL s1.heap a b = hE at g1 g2 g3 g4 g5 kk
 refine ⟨⟨_, g5, rfl⟩, wpAny_pyIter_zip g5 ?_⟩
 have I2 : Inv X pins σ H1 { s1 with heap := hE } := I1.kept (t' := s1.toks) kk
 refine ⟨_, _, _, _, H1, rfl, I2, turn_zipLL (five_new s1.heap.objs.size), ⟨g5, g3, ⟨_, _, g4⟩, ⟨_, g1, rfl, rfl⟩, ⟨_, g2, rfl, rfl⟩⟩, fun c hc => ?_, q⟩
 have le : s1.heap.objs.size ≤ c := by
  simp only [List.mem_cons, List.not_mem_nil, or_false] at hc
  rcases hc with h | h | h | h | h <;> (rw [h]; first | exact Nat.le_refl _ | exact Nat.le_add_right _ _)
 exact I1.fpOk le (I1.hok.fresh le)
theorem lk_tuple_keys : typeLookup (.type "tuple") "keys" = pure none := by rw [typeLookup_type, builtinLookup_eq_fast]; kernel_rfl
theorem no_keys {prog : Program} {w : World} {A : Around} {E : VSP} {s : Shared} {a : Addr} {o : Obj} {xs : Array Value} {k : Nat} {Q : Option Value -> Shared -> Prop}
  (hx : s.heap.get? a = some o) (hc : o.cls = .type "tuple") (hdat : o.data = .seq xs k) (hd : o.dict = none) (hA : A.handled = none)
  (h : ∀ h' tk, (∀ b ob, s.heap.get? b = some ob -> h'.get? b = some ob) -> Q none { s with heap := h', toks := tk }) :
  wpAny (model prog w) A (getAttr? (.ref a) "keys") Q E s := by
 obtain ⟨c, dct, dat, sl⟩ := o
 simp only at hc hdat hd
 subst hc hdat hd
 obtain ⟨hp, g, d, tk, os⟩ := s
 have hT : ∀ tk', (⟨hp, g, d, tk', os⟩ : Shared).TypeIs (.ref a) "tuple" := fun _ => ⟨_, hx, rfl⟩
 have f1 := sub_AttributeError
 have f3 := F.slot_tuple_getattribute.lookup
 have f4 := F.slot_tuple_getattribute.bind (.ref a)
 have f5 := am_tuple_getattr_none
 unfold getAttr? getAttrBy? getAttrBy
 repeat (any_goals (first | assumption | exact hT _ | ((with_reducible show wpAny _ _ (call (Value.builtin "tuple.__getattribute__") _ _) _ _ _); refine call_meets F.slot_tuple_getattribute (hT _) am_entry_tuple_getattribute (F.args_tuple_getattribute_2 _ _) (meets_getattribute_miss_tuple a xs k sl "keys" _ lk_tuple_keys (by decide +kernel) (by decide +kernel)) ⟨hx, hA, fun h' tk' e hx' => ?_⟩) | wp_step))
 obtain ⟨t', u', he⟩ := hx'.there
 show wpAny _ _ (getattributeRaised _ _ _ _ _ _ _) _ _ _
 unfold getattributeRaised
 repeat (any_goals (first | assumption | wp_step))
 exact h _ _ hx'.keeps
theorem en_dul : entryFor table "dict.update.loop" = some Builtin.«dict.update.loop» := entryFor_of_tree (by kernel_rfl)
theorem pl_dul : plainId "dict.update.loop" = true := by decide +kernel
section
variable {prog : Program} {w : World} {A : Around} {E : VSP}
theorem du_loop {d it t : Addr} {its : Array Value} {xs : List (List Key × Addr × Value)} {R : Result -> Shared -> Prop} {h0 : Heap}
  (hu : A.in1.units < cLine) (hh : A.in1.handled = none) (ht : h0.IsTuple t its) (hl : its.size = xs.length) (hz : xs.length ≤ sizeLine)
  (hr : ∀ (i : Nat) (x : List Key × Addr × Value), xs[i]? = some x -> ∃ r, its[i]? = some (.ref r) /\ h0.IsTuple r #[.ref x.2.1, x.2.2] /\ IsTupleKey (mixKind prog w) h0 x.1 x.2.1)
  (nd : (xs.map (·.1)).Nodup) (hd0 : h0.get? d = none) (hi0 : h0.get? it = none) (ne : it ≠ d) :
  ∀ (k i : Nat) (s : Shared) (ti : Tok), xs.length - i = k -> i ≤ xs.length -> s.heap.IsTupleIter it t i -> s.heap.DictOfH (tupleKind (mixKind prog w)) d (xs.take i) -> (∀ c o, h0.get? c = some o -> s.heap.get? c = some o) →
  (∀ h' tk, h'.DictOfH (tupleKind (mixKind prog w)) d xs -> (∀ c o, h0.get? c = some o -> h'.get? c = some o) -> R (.ok (.ret .none)) { s with heap := h', toks := tk }) →
  codeAny (model prog w) A (.builtin "dict.update.loop" ⟨[.ref d, .ref it, .int i ti, .none], []⟩) R s := by
 have tup : ∀ {h : Heap} {a : Addr} {ys : Array Value}, (∀ c o, h0.get? c = some o -> h.get? c = some o) -> h0.IsTuple a ys -> h.IsTuple a ys := fun k ⟨o, e, r⟩ => ⟨o, k _ _ e, r⟩
 have key : ∀ {h : Heap} {a : Addr} {ks : List Key}, (∀ c o, h0.get? c = some o -> h.get? c = some o) -> IsTupleKey (mixKind prog w) h0 ks a -> IsTupleKey (mixKind prog w) h ks a := fun k ⟨o, ys, n, e, r⟩ => ⟨o, ys, n, k _ _ e, r⟩
 intro k
 induction k with
 | zero =>
  intro i s ti hk hi hit hD kp hR
  have hin : i = xs.length := by omega
  subst hin
  refine codeAny_builtin en_dul ?_
  rw [Around.under_plainId pl_dul _]
  show wpAny _ A.in1 (pyNext (.ref it) >>= _) _ _ s
  refine wpAny_bind (wpAny_pyNext_tuple_end hh hit (tup kp ht) (Array.getElem?_eq_none (by omega)) fun h' ex => ?_)
  show wpAny _ A.in1 (Builtin.Dict.addKeywords d [] >>= fun _ => ret .none) _ _ _
  refine wpAny_bind (wpAny_pure (wpAny_pure ?_))
  rw [List.take_length] at hD
  obtain ⟨o, es, ep, e1, e2, e3, e4, e5, e6⟩ := hD
  have kp' : ∀ c o, h0.get? c = some o -> h'.get? c = some o := fun c o e => ex c o (fun q => by rw [q, hi0] at e; cases e) (kp c o e)
  refine hR h' s.toks ⟨o, es, ep, ex _ _ (Ne.symm ne) e1, e2, e3, e4, fun x hx => ?_, e6⟩ kp'
  obtain ⟨j, hj⟩ := List.getElem?_of_mem hx
  obtain ⟨r, _, _, q⟩ := hr j x hj
  exact key kp' q
 | succ k ih =>
  intro i s ti hk hi hit hD kp hR
  have hlt : i < xs.length := by omega
  obtain ⟨x, hx⟩ : ∃ x, xs[i]? = some x := ⟨_, List.getElem?_eq_getElem hlt⟩
  obtain ⟨r, q1, q2, q3⟩ := hr i x hx
  refine codeAny_builtin en_dul ?_
  rw [Around.under_plainId pl_dul _]
  show wpAny _ A.in1 (pyNext (.ref it) >>= _) _ _ s
  refine wpAny_bind (wpAny_pyNext_tuple_item hit (tup kp ht) q1 fun h' hit' sb => ?_)
  have kp' : ∀ c o, h0.get? c = some o -> h'.get? c = some o := fun c o e => (sb.2 c (fun q => by rw [q, hi0] at e; cases e)).trans (kp c o e)
  obtain ⟨orr, o1, o2, n, o3⟩ := tup kp' q2
  have hT : ({ s with heap := h' } : Shared).TypeIs (.ref r) "tuple" := ⟨_, o1, o2⟩
  have hD' : h'.DictOfH (tupleKind (mixKind prog w)) d (xs.take i) := by
   obtain ⟨o, es, ep, e1, e2, e3, e4, e5, e6⟩ := hD
   refine ⟨o, es, ep, (sb.2 d (Ne.symm ne)).trans e1, e2, e3, e4, fun y hy => ?_, e6⟩
   obtain ⟨j, hj⟩ := List.getElem?_of_mem (List.mem_of_mem_take hy)
   obtain ⟨r, _, _, q⟩ := hr j y hj
   exact key kp' q
  have hz' : (xs.take i).length ≤ sizeLine := by rw [List.length_take]; omega
  have nk : atKey (xs.take i) x.1 = none := atKey_none_of_get fun j p e => by
   rw [List.getElem?_take] at e
   split at e
   ·rename_i hj
    have a1 : (xs.map (·.1))[j]? = some x.1 := by rw [List.getElem?_map, e]; rfl
    have a2 : (xs.map (·.1))[i]? = some x.1 := by rw [List.getElem?_map, hx]; rfl
    have := (List.getElem?_inj (by rw [List.length_map]; omega) nd).mp (a1.trans a2.symm)
    omega
   ·cases e
  refine wpAny_bind (wpAny_holding ?_)
  refine wpAny_bind ?_
  refine wpAny_tryCatch ?_
  unfold Builtin.Dict.pairItems
  refine wpAny_bind (wpAny_typeOf hT ?_)
  rw [if_pos (by decide)]
  refine wpAny_bind (wpAny_seqItems o1 o3 (wpAny_pure ?_))
  show wpAny _ A.in1 (holding [.ref x.2.1, x.2.2] (dictSet d (.ref x.2.1) x.2.2)) _ _ _
  refine wpAny_holding (wpAny_dictSet_heap (knd := tupleKind (mixKind prog w)) (hsz := hz') hu (key kp' q3) hD' fun h2 hD2 sb2 => ?_)
  have kp2 : ∀ c o, h0.get? c = some o -> h2.get? c = some o := fun c o e => (sb2.2 c (fun q => by rw [q, hd0] at e; cases e)).trans (kp' c o e)
  rw [storedH_new nk] at hD2
  have et : xs.take i ++ [(x.1, x.2.1, x.2.2)] = xs.take (i + 1) := by rw [List.take_add_one, hx]; rfl
  rw [et] at hD2
  obtain ⟨oi, i1, i2, i3⟩ := hit'
  refine wpAny_pure ⟨plainId_quiet pl_dul _, ?_⟩
  exact ih (i + 1) _ 0 (by omega) hlt ⟨oi, (sb2.2 it ne).trans i1, i2, i3⟩ hD2 kp2 fun h' tk a b => hR h' tk a b
end
section
variable {prog : Program} {w : World} {A : Around} {E : VSP} {s : Shared}
theorem call_dict_rows {t : Addr} {ob : Obj} {its : Array Value} {n : Nat} {xs : List (List Key × Addr × Value)} {Q : VSP}
  (hu : A.in1.in1.units < cLine) (hh : A.in1.in1.handled = none) (ho : s.heap.get? t = some ob) (hc : ob.cls = .type "tuple") (hdat : ob.data = .seq its n) (hdn : ob.dict = none) (hl : its.size = xs.length) (hz : xs.length ≤ sizeLine)
  (hr : ∀ (i : Nat) (x : List Key × Addr × Value), xs[i]? = some x -> ∃ r, its[i]? = some (.ref r) /\ s.heap.IsTuple r #[.ref x.2.1, x.2.2] /\ IsTupleKey (mixKind prog w) s.heap x.1 x.2.1)
  (nd : (xs.map (·.1)).Nodup)
  (h : ∀ h' tk, h'.DictOfH (tupleKind (mixKind prog w)) s.heap.objs.size xs -> (∀ c o, s.heap.get? c = some o -> h'.get? c = some o) -> Q (.ref s.heap.objs.size) { s with heap := h', toks := tk }) :
  wpAny (model prog w) A (call (.type "dict") [.ref t]) Q E s := by
 refine callType_codes (Q₁ := fun obj s₁ => obj = .ref s.heap.objs.size /\ s₁ = { s with heap := s.heap.push { cls := .type "dict", data := .dict #[] } }) F.kt_called_dict (F.kt_typeCall_dict_1 _) F.entry_dict_init (kt_code_dict_new _ ⟨rfl, rfl⟩) ?_
 rintro obj s₁ ⟨rfl, rfl⟩
 have hnew : (s.heap.push { cls := .type "dict", data := .dict #[] }).DictOfH (tupleKind (mixKind prog w)) s.heap.objs.size [] := Heap.DictOfH.new s.heap
 have kp1 : ∀ c o, s.heap.get? c = some o -> (s.heap.push { cls := .type "dict", data := .dict #[] }).get? c = some o := fun c o e => Heap.get?_push_of_some _ e
 have fr : s.heap.get? s.heap.objs.size = none := Heap.get?_none_of_le (Nat.le_refl _)
 refine ⟨hnew.typeIs, F.args_dict_init_2 _ _, ?_⟩
 unfold Builtin.«dict.__init__»
 refine wpAny_bind ?_
 unfold Builtin.Dict.selfAndRest
 refine wpAny_bind (wpAny_notOrdered_dict hnew.typeIs ?_)
 show wpAny _ _ (pure (s.heap.objs.size, [Value.ref t])) _ _ _
 refine wpAny_pure ?_
 show wpAny _ _ (Builtin.Dict.updateFrom "dict.__init__" s.heap.objs.size (.ref t) [] .none) _ _ _
 unfold Builtin.Dict.updateFrom
 refine wpAny_bind (wpAny_typeOf (T := "tuple") ⟨_, kp1 _ _ ho, hc⟩ ?_)
 rw [if_pos (by decide)]
 refine wpAny_bind (no_keys (kp1 _ _ ho) hc hdat hdn hh fun h2 tk kp2 => ?_)
 rw [if_pos (show (none : Option Value).isNone = true from rfl)]
 refine wpAny_bind (wpAny_rule ?_)
 have kp2' : ∀ c o, s.heap.get? c = some o -> h2.get? c = some o := fun c o e => kp2 _ _ (kp1 _ _ e)
 refine wpAny_bind (wpAny_pyIter_tuple (t := t) (items := its) ⟨_, kp2' _ _ ho, hc, _, hdat⟩ ?_)
 refine wpAny_pure ⟨plainId_quiet pl_dul _, ?_⟩
 obtain ⟨od, es, ep, d1, d2, d3, d4, d5, d6⟩ := hnew
 have lt2 : s.heap.objs.size < h2.objs.size := Heap.lt_size (kp2 _ _ d1)
 refine du_loop (h0 := s.heap) hu hh ⟨_, ho, hc, _, hdat⟩ hl hz hr nd fr (Heap.get?_none_of_le (Nat.le_of_lt lt2)) (Nat.ne_of_gt lt2) xs.length 0 _ 0 rfl (Nat.zero_le _) ⟨_, Heap.get?_push_size _ rfl, rfl, rfl⟩
  ⟨od, es, ep, Heap.get?_push_of_some _ (kp2 _ _ d1), d2, d3, d4, fun x hx => by simp at hx, by simp⟩ (fun c o e => Heap.get?_push_of_some _ (kp2' _ _ e)) fun h' tk' a b => ⟨rfl, h h' tk' a b⟩
end
theorem paired_of {α β : Type} {P : α -> β -> Prop} : ∀ {l : List α} {m : List β}, l.length = m.length -> (∀ (i : Nat) (a : α) (b : β), l[i]? = some a -> m[i]? = some b -> P a b) -> Paired P l m
 | [], [], _, _ => .nil
 | [], _ :: _, h, _ => by simp at h
 | _ :: _, [], h, _ => by simp at h
 | a :: l, b :: m, h, k => .cons (k 0 a b rfl rfl) (paired_of (by simpa using h) fun i x y e f => k (i + 1) x y (by simpa using e) (by simpa using f))
theorem chosen {α β : Type} {P : Nat -> α -> β -> Prop} : ∀ {l : List α}, (∀ (i : Nat) (a : α), l[i]? = some a -> ∃ b, P i a b) -> ∃ m : List β, m.length = l.length /\ ∀ (i : Nat) (a : α) (b : β), l[i]? = some a -> m[i]? = some b -> P i a b
 | [], _ => ⟨[], rfl, fun i a b e => by simp at e⟩
 | a :: l, h => by
  obtain ⟨b, hb⟩ := h 0 a rfl
  obtain ⟨m, hm, k⟩ := chosen (P := fun i => P (i + 1)) (l := l) fun i x e => h (i + 1) x (by simpa using e)
  refine ⟨b :: m, by simp [hm], fun i x y e f => ?_⟩
  cases i with
  | zero =>
   have e' : a = x := by simpa using e
   have f' : b = y := by simpa using f
   subst e' f'
   exact hb
  | succ i => exact k i x y (by simpa using e) (by simpa using f)
structure RowsK (K : Fg) (H : Hp) (ys : List V) (kvs : List (List Key × V)) : Prop where
 len : ys.length = kvs.length
 row : ∀ (i : Nat) (kv : List Key × V), kvs[i]? = some kv -> ∃ r b, ys[i]? = some (.ref r) /\ SqT K H r [.ref b, kv.2] /\ H b = some (.tup (kv.1.map kV))
 nd : (kvs.map (·.1)).Nodup
def rDictT (K : Fg) : List V -> Hp -> VK -> Prop := fun vs H Q => ∃ (p : Addr) (ob : Obj) (ys : List V) (kvs : List (List Key × V)), vs = [.ref p] /\ H p = some (.frz ob (.tup ys)) /\ ob.dict = none /\ RowsK K H ys kvs /\ ∀ l, H l = none -> Q (.ref l) (upd H l (.dT kvs))
def rTupZ (K : Fg) : List V -> Hp -> VK -> Prop := fun vs H Q => ∃ (p : Addr) (ys : List V), vs = [.ref p] /\ SqL K H p ys /\ ∀ (l : Addr) (ob : Obj), H l = none -> ob.dict = none -> Q (.ref l) (upd H l (.frz ob (.tup ys)))
theorem call_tupleZ {X : Cx} : CallR X (.type "tuple") (rTupZ X.K) := by
 intro pins s σ H xs us Q I r h
 obtain ⟨p, ys, rfl, hq, q⟩ := h
 obtain ⟨u, rfl, rx⟩ := vals1 r
 cases rx
 obtain ⟨its, r', pl, hz⟩ := I.list hq
 have hlen := r'.length
 refine call_tuple_list pl.isList (fun h' kp => ?_) (by simp only [List.size_toArray] <;> omega)
 have I1 : Inv X pins σ H { s with heap := h' } := I.kept (t' := s.toks) kp
 have I2 : Inv X pins σ (upd H h'.objs.size (.frz { cls := .type "tuple", data := .seq its.toArray } (.tup ys))) { s with heap := h'.push { cls := .type "tuple", data := .seq its.toArray } } :=
  I1.laid (t' := s.toks) (fun b o e => Heap.get?_push_of_some _ e) (Nat.le_refl _) (show ObjOk X.prog X.w _ _ _ (.frz _ (.tup ys)) from ⟨Heap.get?_push_size _ rfl, hz, its, r', IsTup.new _ _⟩)
 exact ⟨.ref h'.objs.size, _, I2, rfl, q _ _ (I1.hok.fresh (Nat.le_refl _)) rfl⟩
theorem hu2_of {A : Around} {k : Nat} (hr : Room k A) : A.units + 2 < cLine := Nat.lt_of_le_of_lt (Nat.add_le_add_left (by decide : 2 ≤ 64) _) hr.units
theorem wlk_zipLT {K : Fg} {H : Hp} {a b : Addr} {xs ys : List V} (h : SqL K H a xs) (h' : SqT K H b ys) (hl : xs.length = ys.length) : Wlk (ItzLT K a b) H xs.length (fun i v H' => ∃ p x y, v = .ref p /\ xs[i]? = some x /\ ys[i]? = some y /\ H' p = some (.tup [x, y])) where
 go := fun i H' hi z => ⟨xs, ys, _, _, z.seq h, Tst.same z _ _ h', List.getElem?_eq_getElem hi, List.getElem?_eq_getElem (by omega)⟩
 stop := fun H' z => ⟨xs, ys, z.seq h, Tst.same z _ _ h', .inl (Nat.le_refl _)⟩
 yld := fun i H' x H'' hi z y => by obtain ⟨p, u, v, hp, rfl, rfl, y1, y2⟩ := y; exact ⟨same_new hp _, p, u, v, rfl, y1 xs (z.seq h), y2 ys (Tst.same z _ _ h'), upd_same⟩
theorem wlk_zipLL {K : Fg} {H : Hp} {a b : Addr} {xs ys : List V} (h : SqL K H a xs) (h' : SqL K H b ys) (hl : xs.length = ys.length) : Wlk (ItzLL K a b) H xs.length (fun i v H' => ∃ p x y, v = .ref p /\ xs[i]? = some x /\ ys[i]? = some y /\ H' p = some (.tup [x, y])) where
 go := fun i H' hi z => ⟨xs, ys, _, _, z.seq h, z.seq h', List.getElem?_eq_getElem hi, List.getElem?_eq_getElem (by omega)⟩
 stop := fun H' z => ⟨xs, ys, z.seq h, z.seq h', .inl (Nat.le_refl _)⟩
 yld := fun i H' x H'' hi z y => by obtain ⟨p, u, v, hp, rfl, rfl, y1, y2⟩ := y; exact ⟨same_new hp _, p, u, v, rfl, y1 xs (z.seq h), y2 ys (z.seq h'), upd_same⟩
theorem qi_zipLT {X : Cx} {elts : List Expr} {x1} {tp p pos : Pos} {a b : Expr} {ta : TA} (hg : Gl X "zip") (hm : X.mg "zip" = none) (ha : QA X [a, b] ta) (hs : starEach [a, b] X.env = [(false, eval a X.env), (false, eval b X.env)] := by rfl) (hs2 : starEach [b] X.env = [(false, eval b X.env)] := by rfl) : QI X (.Tuple elts x1 tp) (.Call (.Name "zip" p) [a, b] [] pos) (iZipLT X.K ta) := ⟨pi_zipLT hg hm ha.p hs hs2⟩
theorem qi_zipLL {X : Cx} {elts : List Expr} {x1} {tp p pos : Pos} {a b : Expr} {ta : TA} (hg : Gl X "zip") (hm : X.mg "zip" = none) (ha : QA X [a, b] ta) (hs : starEach [a, b] X.env = [(false, eval a X.env), (false, eval b X.env)] := by rfl) (hs2 : starEach [b] X.env = [(false, eval b X.env)] := by rfl) : QI X (.Tuple elts x1 tp) (.Call (.Name "zip" p) [a, b] [] pos) (iZipLL X.K ta) := ⟨pi_zipLL hg hm ha.p hs hs2⟩
theorem comp_mapW {β : Type} {K : Fg} {J : It} {H : Hp} {D : Addr} {n : Nat} {P₀ : Nat -> V -> Hp -> Prop} {P : Hp -> V -> β -> Prop} (wk : Wlk J H n P₀) (f : Nat -> β) {src : List (Option Nat)} {σ : L2.St} {g : TG} {tt : TT} {te : TE} {Q : Hp -> Prop}
  (mono : ∀ H H' v d, Tst K H H' -> P H v d -> P H' v d) (hD : H D = none) (hn : n ≤ 1000)
  (turn : ∀ (i : Nat) (x : V) (H' : Hp), i < n -> Same H H' -> P₀ i x H' -> ∀ (R : VK) (E : Hp -> Prop), (∀ v H'', Same H' H'' -> P H'' v (f i) -> R v H'') →
   g x (frees src σ) H' fun σ2 H2 => Ext (frees src σ) σ2 /\ tt σ2 H2 fun ok H3 => if ok = true then te σ2 H3 R else E H3)
  (fin : ∀ H' ys, Same H H' -> H' D = some (.lst ys) -> Als (P H') ys ((List.range n).map f) -> Q H') :
  ∃ W : Nat -> Nat -> List V -> Hp -> Prop, (∃ m, W 0 m [] (upd H D (.lst []))) /\ ∀ i m ys H, W i m ys H -> (J.stop i H /\ Q H) ∨ (J.go i H /\ ∀ x H', J.yld i H x H' →
   g x (frees src σ) H' fun σ2 H2 => Ext (frees src σ) σ2 /\ tt σ2 H2 fun ok H3 =>
    if ok = true then te σ2 H3 fun y H4 => H4 D = some (.lst ys) /\ ys.length < sizeLine /\ ∃ m', m' < m /\ W (i + 1) m' (ys ++ [y]) (upd H4 D (.lst (ys ++ [y]))) else ∃ m', m' < m /\ W (i + 1) m' ys H3) := by
 refine ⟨fun i m ys H' => i ≤ n /\ m = n - i /\ H' D = some (.lst ys) /\ Same H H' /\ Als (P H') ys ((List.range i).map f), ⟨_, Nat.zero_le _, rfl, upd_same, same_new hD _, .nil⟩, ?_⟩
 rintro i m ys H1 ⟨hi, rfl, d1, s1, al1⟩
 by_cases hix : i < n
 ·refine .inr ⟨wk.go i H1 hix s1, fun x H2 y => ?_⟩
  obtain ⟨s2, p⟩ := wk.yld i H1 x H2 hix s1 y
  refine turn i x H2 hix (s1.trans s2) p _ _ fun v H3 s3 p3 => ?_
  have d3 : H3 D = some (.lst ys) := s3 _ _ (s2 _ _ d1)
  have tm : Tst K H1 (upd H3 D (.lst (ys ++ [v]))) := (Tst.same (s2.trans s3)).trans (Tst.up d3 _)
  refine ⟨d3, small1000 (by rw [al1.len, List.length_map, List.length_range]; omega), n - (i + 1), by omega, hix, rfl, upd_same, fun b o q => ?_, ?_⟩
  ·rw [upd_ne (ne_of_none q hD)]
   exact s3 _ _ (s2 _ _ (s1 _ _ q))
  ·rw [List.range_succ, List.map_append]
   exact (al1.mono fun v d p => mono _ _ _ _ tm p).snoc (mono _ _ _ _ (Tst.up d3 _) p3)
 ·have e : i = n := by omega
  subst e
  exact .inl ⟨wk.stop H1 s1, fin H1 ys s1 d1 al1⟩
section
variable {X : Cx} {K : Fg}
theorem qe_bmK {o e : Expr} {es : List Expr} {to : TE} {t : TA} {name : Str} {apos cpos : Pos} {T id : String} {r : V -> List V -> Hp -> VK -> Prop} (hK : X.K = K)
  (pa : PlainAttrs T) (slot : Slot T name id) (hty : typeOf (.builtin id) = pure (.type "method_descriptor")) (hm : MtR X id r) (ho : QE X o to) (ha : QA X (e :: es) t)
  (hbase : attributeBase o name X.env (eval o X.env) = eval o X.env := by rfl)
  (hfew : ((backTo cpos (starEach (e :: es) X.env)).all (fun x => !x.1) && (backToKw cpos (keywordEach [] X.env)).all (fun x => x.1.isSome)
   && decide ((e :: es).length + ([] : List Keyword).length + (if ([] : List Keyword).isEmpty then 0 else 1) < 30)) = true := by rfl)
  (hline : (apos.endLine == cpos.line) = true := by rfl) (hs : starEach (e :: es) X.env = (false, eval e X.env) :: starEach es X.env := by rfl) (hplain : (backTo cpos (starEach es X.env)).any (·.1) = false := by rfl) :
  QE X (.Call (.Attribute o name apos) (e :: es) [] cpos) (tBM K T r to t) := ⟨hK ▸ pe_bm pa slot hty hm ho.p ha.p hbase hfew hline hs hplain⟩
theorem mt_indexDK {k : Nat} (hK : X.K = K) (hr : Room k X.A) : MtR X "list.index" (rIndexD K) := hK ▸ mt_indexD hr
theorem op_inDK {k : Nat} (hK : X.K = K) (hr : Room k X.A) : OpR X (compareOp .In) (rInD K) := hK ▸ op_inD hr
end
def tDNewT : TE := fun _ H Q => ∀ p, H p = none -> Q (.ref p) (upd H p (.dT []))
def KTc (K : Fg) (H : Hp) (kvs : List (List Key × V)) (xs : List (List Key × Addr × Value)) : Prop := Paired (fun (p : List Key × V) (q : List Key × Addr × Value) => p.1 = q.1 /\ SqT K H q.2.1 (p.1.map kV) /\ RelV p.2 q.2.2) kvs xs
theorem KTc.val {K : Fg} {H : Hp} {kvs : List (List Key × V)} {xs : List (List Key × Addr × Value)} (r : KTc K H kvs xs) (k : List Key) : RelO (valV kvs k) ((atKey xs k).map (·.2)) := by
 induction r with
 | nil => exact True.intro
 | @cons p q ps qs h t ih =>
  obtain ⟨h1, _, h2⟩ := h
  by_cases e : p.1 = k
  ·have e' : q.1 = k := h1.symm.trans e
   have b : atKey (q :: qs) k = some q.2 := by simp [atKey, List.find?_cons, e']
   rw [valV_pos e, b]; exact h2
  ·have e' : ¬ q.1 = k := fun z => e (h1.trans z)
   have b : atKey (q :: qs) k = atKey qs k := by simp [atKey, List.find?_cons, e']
   rw [valV_neg e, b]; exact ih
theorem KTc.mono {K : Fg} {H H' : Hp} {kvs : List (List Key × V)} {xs : List (List Key × Addr × Value)} (r : KTc K H kvs xs) (ht : ∀ b ys, SqT K H b ys -> SqT K H' b ys) : KTc K H' kvs xs := Paired.mapP r fun _ _ z => ⟨z.1, ht _ _ z.2.1, z.2.2⟩
def dcO (P : Program) (w : World) (a : Addr) (xs : List (List Key × Addr × Value)) : HO := .ext fun h => ∃ o es ep, h.get? a = some o /\ o.ExactDict /\ o.data = .dict es ep /\ es.toList = xs.map (entryOfKey (tupleKind (mixKind P w))) /\ (xs.map (·.1)).Nodup
def DC (P : Program) (w : World) (K : Fg) (H : Hp) (a : Addr) (kvs : List (List Key × V)) : Prop := ∃ xs, H a = some (dcO P w a xs) /\ KTc K H kvs xs
theorem DC.mono {P : Program} {w : World} {K : Fg} {H H' : Hp} {a : Addr} {kvs : List (List Key × V)} (g : DC P w K H a kvs) (s : Same H H') (ht : ∀ b ys, SqT K H b ys -> SqT K H' b ys) : DC P w K H' a kvs :=
 let ⟨xs, e, r⟩ := g; ⟨xs, s _ _ e, r.mono ht⟩
section
variable {X : Cx} {pins : PLs} {σ : L2.St} {H : Hp} {s : Shared} {a b : Addr} {A : Around} {E : VSP}
theorem key_ofC {ks : List Key} (I : Inv X pins σ H s) (e : SqT X.K H b (ks.map kV)) : (tupleKind (mixKind X.prog X.w)).is s.heap ks b := by
 obtain ⟨its, r, ⟨o, h1, h2, n, h3⟩, _⟩ := I.tuple e
 exact ⟨o, its.toArray, n, h1, h2, h3, by simpa using items_are r⟩
theorem dc_of {kvs : List (List Key × V)} {xs : List (List Key × Addr × Value)} (I : Inv X pins σ H s) (g : H a = some (dcO X.prog X.w a xs)) (r : KTc X.K H kvs xs) : s.heap.DictOfH (tupleKind (mixKind X.prog X.w)) a xs := by
 obtain ⟨⟨o, es, ep, h1, h2, h3, h4, h5⟩, _, _⟩ := (show ObjOk X.prog X.w H s.heap a (dcO X.prog X.w a xs) from I.hok a _ g)
 refine ⟨o, es, ep, h1, h2, h3, h4, fun x hx => ?_, h5⟩
 have all : ∀ {l : List (List Key × V)} {m : List (List Key × Addr × Value)}, KTc X.K H l m -> ∀ x ∈ m, (tupleKind (mixKind X.prog X.w)).is s.heap x.1 x.2.1 := by
  intro l m q
  induction q with
  | nil => intro x hx; exact nomatch hx
  | @cons p q ps qs hq t ih =>
   intro x hx
   rcases List.mem_cons.mp hx with e | hx
   ·subst e
    exact key_ofC I (by rw [← hq.1]; exact hq.2.1)
   ·exact ih x hx
 exact all r x hx
theorem dc_getItem {kvs : List (List Key × V)} {k : List Key} {v : V} {Q : VSP} (hu : A.units + 1 < cLine) (I : Inv X pins σ H s) (g : DC X.prog X.w X.K H a kvs) (eb : SqT X.K H b (k.map kV)) (l : valV kvs k = some v) (h : ∀ w' s', Inv X pins σ H s' -> RelV v w' -> Q w' s') :
  wpAny (model X.prog X.w) A (getItem (.ref a) (.ref b)) Q E s := by
 obtain ⟨xs, e, rel⟩ := g
 have dd := dc_of I e rel
 obtain ⟨w', hw, rw'⟩ := RelO.some_of (v := v) (o := (atKey xs k).map (·.2)) (by rw [← l]; exact rel.val k)
 obtain ⟨p, hp, hp2⟩ := Option.map_eq_some_iff.mp hw
 refine wpAny_getItem_heap (tupleKind_room_in1 hu) (key_ofC I eb) dd hp ?_
 rw [hp2]
 exact h w' _ (I.tok _) rw'
end
def tDcGet (P : Program) (w : World) (K : Fg) (td ty : TE) : TE := fun σ H Q => td σ H fun x H1 => ty σ H1 fun y H2 => ∃ a b kvs k v, x = .ref a /\ y = .ref b /\ DC P w K H2 a kvs /\ SqT K H2 b (k.map kV) /\ valV kvs k = some v /\ Q v H2
theorem pe_dcget {X : Cx} {o i : Expr} {pos : Pos} {td ty : TE} (hu : X.A.units + 1 < cLine) (ho : PE X o td) (hi : PE X i ty) (hs : NoSl i) : PE X (.Subscript o i pos) (tDcGet X.prog X.w X.K td ty) := by
 intro pins s σ H Q I h
 refine subD_of PySem.F.slot_dict_getitem.lookup hs (thn (ho pins s σ H _ I h) fun u s1 ⟨x, H1, I1, rx, q1⟩ => thn (hi pins s1 σ H1 _ I1 q1) fun iv s2 ⟨y, H2, I2, ry, a, b, kvs, k, v, ex, ey, g, eb, l, q2⟩ => ?_)
 subst ex ey
 obtain rfl : u = Value.ref a := rx
 obtain rfl : iv = Value.ref b := ry
 refine ⟨?_, dc_getItem hu I2 g eb l fun w' s3 I3 rw' => ⟨v, H2, I3, rw', q2⟩⟩
 obtain ⟨xs, e, rel⟩ := g
 exact (dc_of I2 e rel).typeIs
theorem qe_dcget {X : Cx} {o i : Expr} {pos : Pos} {td ty : TE} {P : Program} {w : World} {K : Fg} (hP : X.prog = P) (hw : X.w = w) (hK : X.K = K) (hu : X.A.units + 1 < cLine) (ho : QE X o td) (hi : QE X i ty) (hs : NoSl i) : QE X (.Subscript o i pos) (tDcGet P w K td ty) := by
 subst hP hw hK; exact ⟨pe_dcget hu ho.p hi.p hs⟩
structure RowsC (K : Fg) (H : Hp) (ys : List V) (kvs : List (List Key × V)) : Prop where
 len : ys.length = kvs.length
 row : ∀ (i : Nat) (kv : List Key × V), kvs[i]? = some kv -> ∃ r b, ys[i]? = some (.ref r) /\ SqT K H r [.ref b, kv.2] /\ SqT K H b (kv.1.map kV)
 nd : (kvs.map (·.1)).Nodup
def rDictC (P : Program) (w : World) (K : Fg) : List V -> Hp -> VK -> Prop := fun vs H Q => ∃ (p : Addr) (ob : Obj) (ys : List V) (kvs : List (List Key × V)), vs = [.ref p] /\ H p = some (.frz ob (.tup ys)) /\ ob.dict = none /\ RowsC K H ys kvs /\ ∀ l H', H l = none -> Same H H' -> DC P w K H' l kvs -> (∀ b, b ≠ l -> H' b = H b) -> Q (.ref l) H'
theorem call_dictC {X : Cx} (hu : X.A.units + 2 < cLine) (hc : X.calm = true) : CallR X (.type "dict") (rDictC X.prog X.w X.K) := by
 intro pins s σ H vs us Q I r h
 obtain ⟨p, ob, ys, kvs, rfl, hp, hdn, rk, q⟩ := h
 obtain ⟨u, rfl, rx⟩ := vals1 r
 cases rx
 obtain ⟨g0, z, its, r', o', g1, g2, n, g3⟩ := (show ObjOk X.prog X.w H s.heap p (.frz ob (.tup ys)) from I.hok p _ hp)
 cases (Option.some.inj (g1.symm.trans g0))
 have hh : X.A.in1.in1.handled = none := I.ok.hd hc
 obtain ⟨xs, hl, hx⟩ := chosen (β := List Key × Addr × Value) (P := fun i (kv : List Key × V) x => kv.1 = x.1 /\ RelV kv.2 x.2.2 /\ SqT X.K H x.2.1 (kv.1.map kV) /\ ∃ rr, its[i]? = some (.ref rr) /\ s.heap.IsTuple rr #[.ref x.2.1, x.2.2]) (l := kvs) fun i kv e => by
  obtain ⟨rr, b, e1, e2, e3⟩ := rk.row i kv e
  obtain ⟨it2, v2, pl, z2⟩ := I.tuple e2
  obtain ⟨u1, e4, ru1⟩ := Vals.get r' e1
  cases ru1
  cases v2 with
  | cons w1 w2 =>
   cases w1
   cases w2 with
   | cons w3 w4 =>
    cases w4
    exact ⟨(kv.1, b, _), rfl, w3, e3, rr, e4, pl⟩
 have idx : ∀ (i : Nat) (x : List Key × Addr × Value), xs[i]? = some x -> ∃ kv, kvs[i]? = some kv := fun i x e => by
  have : i < xs.length := (List.getElem?_eq_some_iff.mp e).1
  exact ⟨_, List.getElem?_eq_getElem (by omega)⟩
 have keys : xs.map (·.1) = kvs.map (·.1) := by
  refine List.ext_getElem? fun i => ?_
  rw [List.getElem?_map, List.getElem?_map]
  cases e : xs[i]? with
  | none =>
   have : xs.length ≤ i := List.getElem?_eq_none_iff.mp e
   rw [List.getElem?_eq_none (by omega)]
   rfl
  | some x =>
   obtain ⟨kv, e2⟩ := idx i x e
   rw [e2]
   exact congrArg some (hx i kv x e2 e).1.symm
 have il : its.length = ys.length := r'.length.symm
 refine call_dict_rows (s := s) (xs := xs) hu hh g0 g2 g3 hdn (by rw [List.size_toArray, il, rk.len, hl]) (by rw [hl, ← rk.len]; exact z) (fun i x e => ?_) (by rw [keys]; exact rk.nd) fun h' tk dd kp => ?_
 ·obtain ⟨kv, e2⟩ := idx i x e
  obtain ⟨a1, a2, a3, rr, a4, a5⟩ := hx i kv x e2 e
  refine ⟨rr, by rw [List.getElem?_toArray]; exact a4, a5, ?_⟩
  have := key_ofC I a3
  rw [a1] at this
  exact this
 ·obtain ⟨o2, es, ep, d1, d2, d3, d4, d5, d6⟩ := dd
  have I2 : Inv X pins σ (upd H s.heap.objs.size (dcO X.prog X.w s.heap.objs.size xs)) { s with heap := h', toks := tk } := I.laid kp (Nat.le_refl _) ⟨⟨o2, es, ep, d1, d2, d3, d4, d6⟩, ⟨o2, d1⟩, fun h1 h2 ⟨o, es, ep, e1, e2⟩ k => ⟨o, es, ep, k _ e1, e2⟩⟩
  have hs : Same H (upd H s.heap.objs.size (dcO X.prog X.w s.heap.objs.size xs)) := fun b o e => by rw [upd_ne (ne_of_none e I.fresh)]; exact e
  refine ⟨.ref s.heap.objs.size, _, I2, rfl, q _ _ I.fresh hs ⟨xs, upd_same, paired_of hl.symm fun i kv x e e2 => ?_⟩ fun b hb => upd_ne hb⟩
  obtain ⟨a1, a2, a3, _⟩ := hx i kv x e e2
  refine ⟨a1, ?_, a2⟩
  rcases a3 with (a3 | ⟨o, a3⟩) | a3
  ·exact .inl (.inl (hs _ _ a3))
  ·exact .inl (.inr ⟨o, hs _ _ a3⟩)
  ·exact .inr a3
theorem call_dictCK {X : Cx} {P : Program} {w : World} {K : Fg} (hP : X.prog = P) (hw : X.w = w) (hK : X.K = K) (hu : X.A.units + 2 < cLine) (hc : X.calm = true) : CallR X (.type "dict") (rDictC P w K) := by
 subst hP hw hK; exact call_dictC hu hc
end B
namespace My
open PySem L2 B PyProof.Rows
theorem qsA {X : Cx} {pos : Pos} (i : Nat) {x : Str} {e : Expr} {te : TE} {pos' : Pos} (hN : X.N.Nodup) (he : QE X e te) (hi : X.N[i]? = some x := by rfl) (hx : Loc X.env.scope x := by first | exact Or.inl rfl | exact Or.inr rfl) (hs : swapsWith e (some (.Name x pos')) pos.line X.env = pure false := by rfl) (hf : X.fn x = true ∨ X.env.scope.names.lookup x = some .local := by first | exact .inl rfl | exact .inr rfl | assumption) : QS X (.Assign [.Name x pos'] e pos) (tAsg te (gName i)) := qs_set hN hi hx he hs hf
theorem scA {N P : List Str} {sc : Scope} (a : sc.kind = .function := by rfl) (b : sc.isCoroutine = false := by rfl) (c : sc.isGenerator = false := by rfl) (d : N.Nodup := by decide +kernel) (e : N.take P.length = P := by rfl) (f : ∀ x ∈ P, sc.names.lookup x = some .local ∨ sc.names.lookup x = some .cell := by decide +kernel) (g : ∀ y ∈ sc.names, y.2 ≠ .free := by decide +kernel) : FnScope N P sc := ⟨a, b, c, d, e, f, g⟩
theorem qcA {X : Cx} {k j : Nat} {f : Addr} {fd : FuncData} {ps : List Str} {sp : Sp} {x : Str} {p pos : Pos} {e : Expr} {es : List Expr} {t : TA} (F : FnOk X.prog X.w X.K X.mg X.base CX0 k f fd ps sp) (hr : Room j X.A) (hm : X.mg x = some (.ref f)) (hk : PySem.W.keepIn X.K (.ref f) = true) (hb : Binds X.K fd ps []) (ha : QA X (e :: es) t) (hl : k ≤ j := by decide) (hg : Gl X x := by rfl) (hdb : (x == ("__debug__" : Str)) = false := by decide) (he : starEach (e :: es) X.env = (false, eval e X.env) :: starEach es X.env := by rfl) (hpl : (backTo pos (starEach es X.env)).any (·.1) = false := by rfl) : QE X (.Call (.Name x p) (e :: es) [] pos) (tCall sp [] E0 t) := qe_call F (hr.mono hl) hg hm hk hb .nil pass0 ha hdb he hpl
theorem qxA {X : Cx} {a b : Expr} {ta tb : TE} {pos : Pos} {r : R2} (hr : IxR X r) (ha : QE X a ta) (hb : QE X b tb) (hs : PlainIx b := by exact fun _ _ => rfl) : QE X (.Subscript a b pos) (tOp r ta tb) := qe_ix hr ha hb hs
theorem bdA {K : Fg} {x qual : Str} {st : Stmt} {f : Addr} {fd : FuncData} {ps : List Str} (F : Fun K x qual st f fd) (h : ∀ (kV doc pm : Value) (an : Option Addr) (cdv ct : Value) (us : List Value), us.length = ps.length -> bindArgs (PySem.W.fnOf x qual (defArgs st) (defBody st) (defScope st) .none kV doc pm an cdv ct) ⟨us, []⟩ = pure (ps.zip us) := by
 intro _ _ _ _ _ _ us hl
 match us, hl with
 | [], h2 => first | rfl | (simp at h2)
 | [_], h2 => first | rfl | (simp at h2)
 | [_, _], h2 => first | rfl | (simp at h2)
 | [_, _, _], h2 => first | rfl | (simp at h2)
 | [_, _, _, _], h2 => first | rfl | (simp at h2)
 | _ :: _ :: _ :: _ :: _ :: _, h2 => simp at h2) : Binds K fd ps [] := F.binds h
def top (i : Nat) : Stmt := PySem.Challenge.pw_paceplan_k16_whole_no_mixture_has_less.main.body.getD i (.Pass ⟨0, 0, 0, 0⟩)
abbrev s_Q18 : Stmt := top 1
abbrev s_Q5 : Stmt := top 2
abbrev s_Q36 : Stmt := top 3
abbrev s_Q0 : Stmt := top 12
abbrev s_Q19 : Stmt := top 13
abbrev s_Q1 : Stmt := top 14
abbrev s_Q39 : Stmt := top 15
abbrev s_Q44 : Stmt := top 16
abbrev s_Q40 : Stmt := top 17
abbrev s_Q41 : Stmt := top 18
abbrev s_Q45 : Stmt := top 19
abbrev s_Q37 : Stmt := top 20
abbrev s_Q31 : Stmt := top 21
abbrev s_Q42 : Stmt := top 22
abbrev s_Q2 : Stmt := top 26
abbrev s_Q38 : Stmt := top 27
abbrev s_Q10 : Stmt := top 28
abbrev s_Q20 : Stmt := top 29
abbrev s_Q21 : Stmt := top 30
abbrev s_Q11 : Stmt := top 32
abbrev s_Q32 : Stmt := top 33
abbrev s_Q6 : Stmt := top 34
abbrev s_Q7 : Stmt := top 35
abbrev s_Q3 : Stmt := top 36
abbrev s_Q8 : Stmt := top 37
abbrev s_Q12 : Stmt := top 38
abbrev s_Q22 : Stmt := top 39
abbrev s_Q13 : Stmt := top 40
abbrev s_Q23 : Stmt := top 42
abbrev s_Q24 : Stmt := top 43
abbrev s_Q33 : Stmt := top 44
abbrev s_Q14 : Stmt := top 45
abbrev s_Q25 : Stmt := top 46
abbrev s_Q15 : Stmt := top 47
abbrev s_Q16 : Stmt := top 48
abbrev s_Q26 : Stmt := top 49
abbrev s_Q27 : Stmt := top 50
abbrev s_Q34 : Stmt := top 51
abbrev s_Q28 : Stmt := top 52
abbrev s_Q17 : Stmt := top 53
abbrev s_Q29 : Stmt := top 54
abbrev s_Q9 : Stmt := top 55
abbrev s_Q35 : Stmt := top 56
abbrev s_Q4 : Stmt := top 57
abbrev s_Q30 : Stmt := top 58
abbrev s_Q46 : Stmt := top 59
abbrev s_Q43 : Stmt := inClass (top 7) 0
structure Ad where
 a_Q18 : Addr
 d_Q18 : FuncData
 a_Q5 : Addr
 d_Q5 : FuncData
 a_Q36 : Addr
 d_Q36 : FuncData
 a_Q0 : Addr
 d_Q0 : FuncData
 a_Q19 : Addr
 d_Q19 : FuncData
 a_Q1 : Addr
 d_Q1 : FuncData
 a_Q39 : Addr
 d_Q39 : FuncData
 a_Q44 : Addr
 d_Q44 : FuncData
 a_Q40 : Addr
 d_Q40 : FuncData
 a_Q41 : Addr
 d_Q41 : FuncData
 a_Q45 : Addr
 d_Q45 : FuncData
 a_Q37 : Addr
 d_Q37 : FuncData
 a_Q31 : Addr
 d_Q31 : FuncData
 a_Q42 : Addr
 d_Q42 : FuncData
 a_Q2 : Addr
 d_Q2 : FuncData
 a_Q38 : Addr
 d_Q38 : FuncData
 a_Q10 : Addr
 d_Q10 : FuncData
 a_Q20 : Addr
 d_Q20 : FuncData
 a_Q21 : Addr
 d_Q21 : FuncData
 a_Q11 : Addr
 d_Q11 : FuncData
 a_Q32 : Addr
 d_Q32 : FuncData
 a_Q6 : Addr
 d_Q6 : FuncData
 a_Q7 : Addr
 d_Q7 : FuncData
 a_Q3 : Addr
 d_Q3 : FuncData
 a_Q8 : Addr
 d_Q8 : FuncData
 a_Q12 : Addr
 d_Q12 : FuncData
 a_Q22 : Addr
 d_Q22 : FuncData
 a_Q13 : Addr
 d_Q13 : FuncData
 a_Q23 : Addr
 d_Q23 : FuncData
 a_Q24 : Addr
 d_Q24 : FuncData
 a_Q33 : Addr
 d_Q33 : FuncData
 a_Q14 : Addr
 d_Q14 : FuncData
 a_Q25 : Addr
 d_Q25 : FuncData
 a_Q15 : Addr
 d_Q15 : FuncData
 a_Q16 : Addr
 d_Q16 : FuncData
 a_Q26 : Addr
 d_Q26 : FuncData
 a_Q27 : Addr
 d_Q27 : FuncData
 a_Q34 : Addr
 d_Q34 : FuncData
 a_Q28 : Addr
 d_Q28 : FuncData
 a_Q17 : Addr
 d_Q17 : FuncData
 a_Q29 : Addr
 d_Q29 : FuncData
 a_Q9 : Addr
 d_Q9 : FuncData
 a_Q35 : Addr
 d_Q35 : FuncData
 a_Q4 : Addr
 d_Q4 : FuncData
 a_Q30 : Addr
 d_Q30 : FuncData
 a_Q46 : Addr
 d_Q46 : FuncData
 c_NOUGHT : Addr
 c_ONE : Addr
 k_POWER : Tok
 k_TABLE : Tok
 c_base : Addr
 c_Q43 : Addr
 a_Q43 : Addr
 d_Q43 : FuncData
structure Txt (K : Fg) (mg : Str -> Option Value) (t : Ad) : Prop where
 F_Q18 : Fun K "is_whole" "is_whole" s_Q18 t.a_Q18 t.d_Q18
 b_Q18 : Binds K t.d_Q18 ["thing"] []
 m_Q18 : mg "is_whole" = some (.ref t.a_Q18)
 F_Q5 : Fun K "is_tuple_of" "is_tuple_of" s_Q5 t.a_Q5 t.d_Q5
 b_Q5 : Binds K t.d_Q5 ["thing", "length"] []
 m_Q5 : mg "is_tuple_of" = some (.ref t.a_Q5)
 F_Q36 : Fun K "copied" "copied" s_Q36 t.a_Q36 t.d_Q36
 b_Q36 : Binds K t.d_Q36 ["thing"] []
 m_Q36 : mg "copied" = some (.ref t.a_Q36)
 F_Q0 : Fun K "greatest_divisor" "greatest_divisor" s_Q0 t.a_Q0 t.d_Q0
 b_Q0 : Binds K t.d_Q0 ["one", "other"] []
 m_Q0 : mg "greatest_divisor" = some (.ref t.a_Q0)
 F_Q19 : Fun K "is_ratio" "is_ratio" s_Q19 t.a_Q19 t.d_Q19
 b_Q19 : Binds K t.d_Q19 ["thing"] []
 m_Q19 : mg "is_ratio" = some (.ref t.a_Q19)
 F_Q1 : Fun K "is_ratio_pair" "is_ratio_pair" s_Q1 t.a_Q1 t.d_Q1
 b_Q1 : Binds K t.d_Q1 ["thing"] []
 m_Q1 : mg "is_ratio_pair" = some (.ref t.a_Q1)
 F_Q39 : Fun K "ratio" "ratio" s_Q39 t.a_Q39 t.d_Q39
 b_Q39 : Binds K t.d_Q39 ["top", "bottom"] []
 m_Q39 : mg "ratio" = some (.ref t.a_Q39)
 F_Q44 : Fun K "plus" "plus" s_Q44 t.a_Q44 t.d_Q44
 b_Q44 : Binds K t.d_Q44 ["one", "other"] []
 m_Q44 : mg "plus" = some (.ref t.a_Q44)
 F_Q40 : Fun K "minus" "minus" s_Q40 t.a_Q40 t.d_Q40
 b_Q40 : Binds K t.d_Q40 ["one", "other"] []
 m_Q40 : mg "minus" = some (.ref t.a_Q40)
 F_Q41 : Fun K "times" "times" s_Q41 t.a_Q41 t.d_Q41
 b_Q41 : Binds K t.d_Q41 ["one", "other"] []
 m_Q41 : mg "times" = some (.ref t.a_Q41)
 F_Q45 : Fun K "over" "over" s_Q45 t.a_Q45 t.d_Q45
 b_Q45 : Binds K t.d_Q45 ["one", "other"] []
 m_Q45 : mg "over" = some (.ref t.a_Q45)
 F_Q37 : Fun K "raised" "raised" s_Q37 t.a_Q37 t.d_Q37
 b_Q37 : Binds K t.d_Q37 ["one", "power"] []
 m_Q37 : mg "raised" = some (.ref t.a_Q37)
 F_Q31 : Fun K "is_less" "is_less" s_Q31 t.a_Q31 t.d_Q31
 b_Q31 : Binds K t.d_Q31 ["one", "other"] []
 m_Q31 : mg "is_less" = some (.ref t.a_Q31)
 F_Q42 : Fun K "total" "total" s_Q42 t.a_Q42 t.d_Q42
 b_Q42 : Binds K t.d_Q42 ["some"] []
 m_Q42 : mg "total" = some (.ref t.a_Q42)
 F_Q2 : Fun K "slope_between" "slope_between" s_Q2 t.a_Q2 t.d_Q2
 b_Q2 : Binds K t.d_Q2 ["low", "high"] []
 m_Q2 : mg "slope_between" = some (.ref t.a_Q2)
 F_Q38 : Fun K "top_of" "top_of" s_Q38 t.a_Q38 t.d_Q38
 b_Q38 : Binds K t.d_Q38 ["rule"] []
 m_Q38 : mg "top_of" = some (.ref t.a_Q38)
 F_Q10 : Fun K "is_beyond" "is_beyond" s_Q10 t.a_Q10 t.d_Q10
 b_Q10 : Binds K t.d_Q10 ["rule", "speed"] []
 m_Q10 : mg "is_beyond" = some (.ref t.a_Q10)
 F_Q20 : Fun K "place_of" "place_of" s_Q20 t.a_Q20 t.d_Q20
 b_Q20 : Binds K t.d_Q20 ["rows", "speed"] []
 m_Q20 : mg "place_of" = some (.ref t.a_Q20)
 F_Q21 : Fun K "power_at" "power_at" s_Q21 t.a_Q21 t.d_Q21
 b_Q21 : Binds K t.d_Q21 ["rule", "speed"] []
 m_Q21 : mg "power_at" = some (.ref t.a_Q21)
 F_Q11 : Fun K "few_table" "few_table" s_Q11 t.a_Q11 t.d_Q11
 b_Q11 : Binds K t.d_Q11 ["rule", "speeds"] []
 m_Q11 : mg "few_table" = some (.ref t.a_Q11)
 F_Q32 : Fun K "mixture" "mixture" s_Q32 t.a_Q32 t.d_Q32
 b_Q32 : Binds K t.d_Q32 ["table", "speed"] []
 m_Q32 : mg "mixture" = some (.ref t.a_Q32)
 F_Q6 : Fun K "row_numbers" "row_numbers" s_Q6 t.a_Q6 t.d_Q6
 b_Q6 : Binds K t.d_Q6 ["table", "speeds"] []
 m_Q6 : mg "row_numbers" = some (.ref t.a_Q6)
 F_Q7 : Fun K "mixed_power" "mixed_power" s_Q7 t.a_Q7 t.d_Q7
 b_Q7 : Binds K t.d_Q7 ["table", "mix"] []
 m_Q7 : mg "mixed_power" = some (.ref t.a_Q7)
 F_Q3 : Fun K "is_mix_shaped" "is_mix_shaped" s_Q3 t.a_Q3 t.d_Q3
 b_Q3 : Binds K t.d_Q3 ["thing"] []
 m_Q3 : mg "is_mix_shaped" = some (.ref t.a_Q3)
 F_Q8 : Fun K "ask_speeds" "ask_speeds" s_Q8 t.a_Q8 t.d_Q8
 b_Q8 : Binds K t.d_Q8 ["table", "mix"] []
 m_Q8 : mg "ask_speeds" = some (.ref t.a_Q8)
 F_Q12 : Fun K "ask_parts" "ask_parts" s_Q12 t.a_Q12 t.d_Q12
 b_Q12 : Binds K t.d_Q12 ["mix"] []
 m_Q12 : mg "ask_parts" = some (.ref t.a_Q12)
 F_Q22 : Fun K "are_near" "are_near" s_Q22 t.a_Q22 t.d_Q22
 b_Q22 : Binds K t.d_Q22 ["table", "mix"] []
 m_Q22 : mg "are_near" = some (.ref t.a_Q22)
 F_Q13 : Fun K "mix_asked" "mix_asked" s_Q13 t.a_Q13 t.d_Q13
 b_Q13 : Binds K t.d_Q13 ["table", "speed", "thing"] []
 m_Q13 : mg "mix_asked" = some (.ref t.a_Q13)
 F_Q23 : Fun K "_law_tape" "_law_tape" s_Q23 t.a_Q23 t.d_Q23
 b_Q23 : Binds K t.d_Q23 ["_law_script"] []
 m_Q23 : mg "_law_tape" = some (.ref t.a_Q23)
 F_Q24 : Fun K "_law_draw" "_law_draw" s_Q24 t.a_Q24 t.d_Q24
 b_Q24 : Binds K t.d_Q24 ["_law_tape_here", "_law_many"] []
 m_Q24 : mg "_law_draw" = some (.ref t.a_Q24)
 F_Q33 : Fun K "_law_gcd" "_law_gcd" s_Q33 t.a_Q33 t.d_Q33
 b_Q33 : Binds K t.d_Q33 ["_law_one", "_law_other"] []
 m_Q33 : mg "_law_gcd" = some (.ref t.a_Q33)
 F_Q14 : Fun K "_law_ratio" "_law_ratio" s_Q14 t.a_Q14 t.d_Q14
 b_Q14 : Binds K t.d_Q14 ["_law_top", "_law_bottom"] []
 m_Q14 : mg "_law_ratio" = some (.ref t.a_Q14)
 F_Q25 : Fun K "_law_plus" "_law_plus" s_Q25 t.a_Q25 t.d_Q25
 b_Q25 : Binds K t.d_Q25 ["_law_one", "_law_other"] []
 m_Q25 : mg "_law_plus" = some (.ref t.a_Q25)
 F_Q15 : Fun K "_law_minus" "_law_minus" s_Q15 t.a_Q15 t.d_Q15
 b_Q15 : Binds K t.d_Q15 ["_law_one", "_law_other"] []
 m_Q15 : mg "_law_minus" = some (.ref t.a_Q15)
 F_Q16 : Fun K "_law_times" "_law_times" s_Q16 t.a_Q16 t.d_Q16
 b_Q16 : Binds K t.d_Q16 ["_law_one", "_law_other"] []
 m_Q16 : mg "_law_times" = some (.ref t.a_Q16)
 F_Q26 : Fun K "_law_over" "_law_over" s_Q26 t.a_Q26 t.d_Q26
 b_Q26 : Binds K t.d_Q26 ["_law_one", "_law_other"] []
 m_Q26 : mg "_law_over" = some (.ref t.a_Q26)
 F_Q27 : Fun K "_law_less" "_law_less" s_Q27 t.a_Q27 t.d_Q27
 b_Q27 : Binds K t.d_Q27 ["_law_one", "_law_other"] []
 m_Q27 : mg "_law_less" = some (.ref t.a_Q27)
 F_Q34 : Fun K "_law_sum" "_law_sum" s_Q34 t.a_Q34 t.d_Q34
 b_Q34 : Binds K t.d_Q34 ["_law_some"] []
 m_Q34 : mg "_law_sum" = some (.ref t.a_Q34)
 F_Q28 : Fun K "_law_part" "_law_part" s_Q28 t.a_Q28 t.d_Q28
 b_Q28 : Binds K t.d_Q28 ["_law_tape_here"] []
 m_Q28 : mg "_law_part" = some (.ref t.a_Q28)
 F_Q17 : Fun K "_law_table" "_law_table" s_Q17 t.a_Q17 t.d_Q17
 b_Q17 : Binds K t.d_Q17 ["_law_tape_here"] []
 m_Q17 : mg "_law_table" = some (.ref t.a_Q17)
 F_Q29 : Fun K "_law_rule" "_law_rule" s_Q29 t.a_Q29 t.d_Q29
 b_Q29 : Binds K t.d_Q29 ["_law_tape_here"] []
 m_Q29 : mg "_law_rule" = some (.ref t.a_Q29)
 F_Q9 : Fun K "_law_speeds" "_law_speeds" s_Q9 t.a_Q9 t.d_Q9
 b_Q9 : Binds K t.d_Q9 ["_law_tape_here", "_law_rule_here"] []
 m_Q9 : mg "_law_speeds" = some (.ref t.a_Q9)
 F_Q35 : Fun K "_law_mix" "_law_mix" s_Q35 t.a_Q35 t.d_Q35
 b_Q35 : Binds K t.d_Q35 ["_law_tape_here", "_law_speeds_here"] []
 m_Q35 : mg "_law_mix" = some (.ref t.a_Q35)
 F_Q4 : Fun K "_law_straight" "_law_straight" s_Q4 t.a_Q4 t.d_Q4
 b_Q4 : Binds K t.d_Q4 ["_law_table_here", "_law_mix_here"] []
 m_Q4 : mg "_law_straight" = some (.ref t.a_Q4)
 F_Q30 : Fun K "_law_lets" "_law_lets" s_Q30 t.a_Q30 t.d_Q30
 b_Q30 : Binds K t.d_Q30 ["_law_table_here", "_law_speed", "_law_thing"] []
 m_Q30 : mg "_law_lets" = some (.ref t.a_Q30)
 F_Q46 : Fun K "law" "law" s_Q46 t.a_Q46 t.d_Q46
 b_Q46 : Binds K t.d_Q46 ["_law_script"] []
 m_Q46 : mg "law" = some (.ref t.a_Q46)
 m_NOUGHT : mg "NOUGHT" = some (.ref t.c_NOUGHT)
 q_NOUGHT : ∀ H, SqT K H t.c_NOUGHT [.int (0), .int (1)]
 m_ONE : mg "ONE" = some (.ref t.c_ONE)
 q_ONE : ∀ H, SqT K H t.c_ONE [.int (1), .int (1)]
 m_POWER : mg "POWER" = some (.str "power" t.k_POWER)
 m_TABLE : mg "TABLE" = some (.str "table" t.k_TABLE)
 X_Q43 : XC K t.c_Q43 t.a_Q43 (.ref t.c_base :: vMro)
 F_Q43 : Fun K "__init__" "NoMix.__init__" s_Q43 t.a_Q43 t.d_Q43
 b_Q43 : Binds K t.d_Q43 ["self", "word", "number"] []
 m_Q43 : mg "NoMix" = some (.ref t.c_Q43)
 n_Q43_word : NoAttr K t.c_Q43 "word"
 n_Q43_number : NoAttr K t.c_Q43 "number"
 g_Q43 : GetX K t.c_Q43
 x_catch : PySem.W.exmOne K (.ref t.c_Q43) (.ref t.c_Q43) = some true
 z_abs : mg "abs" = none
 z_all : mg "all" = none
 z_bool : mg "bool" = none
 z_dict : mg "dict" = none
 z_enumerate : mg "enumerate" = none
 z_int : mg "int" = none
 z_isinstance : mg "isinstance" = none
 z_len : mg "len" = none
 z_list : mg "list" = none
 z_range : mg "range" = none
 z_tuple : mg "tuple" = none
 z_zip : mg "zip" = none
def sp_greatest_divisor (_ : Fg) : Sp := fun vs H Q _ => ∃ a b : Int, vs = [.int a, .int b] /\ Q (.int (Int.gcd a b : Nat)) H
def sp_law_gcd (_ : Fg) : Sp := fun vs H Q _ => ∃ a b : Int, vs = [.int a, .int b] /\ 0 ≤ a /\ 0 ≤ b /\ Q (.int (Int.gcd a b : Nat)) H
abbrev sp_law_tape := sp_tape
def sp_law_draw (_ : Fg) : Sp := sp_draw
abbrev sp_law := sp_lawT
def newR (H : Hp) (Q : VK) (r : R) : Prop := ∀ p, H p = none -> Q (.ref p) (upd H p (.tup [.int r.1, .int r.2]))
def toR (K : Fg) (H : Hp) (Q : VK) (r : R) : Prop := ∀ (v : V) (H' : Hp), Same H H' -> RV K H' v r -> Q v H'
def sp_ratio (_ : Fg) : Sp := fun vs H Q _ => ∃ a b : Int, vs = [.int a, .int b] /\ b ≠ 0 /\ b.natAbs < 2 ^ 4000 /\ newR H Q (mkS a b)
abbrev sp_law_ratio := sp_ratio
def sp_plus (K : Fg) : Sp := fun vs H Q _ => ∃ (v w : V) (r q : R) (n m : Nat), vs = [v, w] /\ RV K H v r /\ RV K H w q /\ Wf n r /\ Wf m q /\ n + m + 1 ≤ 3990 /\ newR H Q (plusR r q)
abbrev sp_law_plus := sp_plus
def sp_minus (K : Fg) : Sp := fun vs H Q _ => ∃ (v w : V) (r q : R) (n m : Nat), vs = [v, w] /\ RV K H v r /\ RV K H w q /\ Wf n r /\ Wf m q /\ n + m + 1 ≤ 3990 /\ toR K H Q (minusR r q)
def sp_law_minus (K : Fg) : Sp := fun vs H Q _ => ∃ (v w : V) (r q : R) (n m : Nat), vs = [v, w] /\ RV K H v r /\ RV K H w q /\ Wf n r /\ Wf m q /\ n + m + 1 ≤ 3990 /\ newR H Q (minusR r q)
def sp_times (K : Fg) : Sp := fun vs H Q _ => ∃ (v w : V) (r q : R) (n m : Nat), vs = [v, w] /\ RV K H v r /\ RV K H w q /\ Wf n r /\ Wf m q /\ n + m + 1 ≤ 3990 /\ newR H Q (timesR r q)
abbrev sp_law_times := sp_times
def sp_over (K : Fg) : Sp := fun vs H Q _ => ∃ (v w : V) (r q : R) (n m : Nat), vs = [v, w] /\ RV K H v r /\ RV K H w q /\ Wf n r /\ Wf m q /\ n + m + 1 ≤ 3990 /\ q.1 ≠ 0 /\ toR K H Q (overR r q)
def sp_law_over (K : Fg) : Sp := fun vs H Q _ => ∃ (v w : V) (r q : R) (n m : Nat), vs = [v, w] /\ RV K H v r /\ RV K H w q /\ Wf n r /\ Wf m q /\ n + m + 1 ≤ 3990 /\ q.1 ≠ 0 /\ newR H Q (overR r q)
def sp_is_less (K : Fg) : Sp := fun vs H Q _ => ∃ (v w : V) (r q : R) (n m : Nat), vs = [v, w] /\ RV K H v r /\ RV K H w q /\ Wf n r /\ Wf m q /\ n + m + 1 ≤ 3990 /\ Q (.bl (lessR r q)) H
abbrev sp_law_less := sp_is_less
def sp_raised (K : Fg) : Sp := fun vs H Q _ => ∃ (v : V) (r : R) (k : Int), vs = [v, .int k] /\ RV K H v r /\ Wf 310 r /\ 0 ≤ k /\ k ≤ 4 /\ toR K H Q (powR r k.toNat)
theorem big_of {i : Int} {n : Nat} (h : i.natAbs < 2 ^ n) (hn : n ≤ 4000) : i.natAbs < 2 ^ 4000 := Nat.lt_of_lt_of_le h (Nat.pow_le_pow_right (by decide) hn)
theorem rv_new {K : Fg} {H : Hp} {p : Addr} {x y : Int} (_ : Same H (upd H p (.tup [.int x, .int y]))) : RV K (upd H p (.tup [.int x, .int y])) (.ref p) (x, y) := RV.of upd_same
theorem cop_neg' {a b : Int} (h : Int.gcd a b = 1) : Int.gcd (-a) b = 1 := by rw [Int.neg_gcd]; exact h
theorem div_lt {a g : Int} (hg : 0 < g) (h : a.natAbs < 2 ^ 4000) : (a / g).natAbs < 2 ^ 4000 := Nat.lt_of_le_of_lt (natAbs_div_le a hg) h
theorem gcd_lt {a b : Int} (hb : 0 < b) (h : b.natAbs < 2 ^ 4000) : ((Int.gcd a b : Nat) : Int).natAbs < 2 ^ 4000 := gcd_big (by omega) h
theorem two63 {n : Int} (h0 : 0 ≤ n) (h1 : n ≤ 100) : -(2 ^ 62) ≤ n /\ n < 2 ^ 62 := by constructor <;> omega
theorem pow_lt98 {a : Int} {i : Nat} (h : a.natAbs < 2 ^ 310) (hi : i ≤ 4) : (a ^ i).natAbs < 2 ^ 4000 := by
 rw [Int.natAbs_pow]
 refine Nat.lt_of_le_of_lt (Nat.pow_le_pow_left (Nat.le_of_lt h) i) ?_
 rw [← Nat.pow_mul]
 exact Nat.pow_lt_pow_right (by decide) (by omega)
def RowV (K : Fg) (H : Hp) (v : V) (w : R × R) : Prop := ∃ p x y, v = .ref p /\ SqT K H p [x, y] /\ RV K H x w.1 /\ RV K H y w.2
theorem RowV.mono {K : Fg} {H H' : Hp} {v : V} {w : R × R} (h : RowV K H v w) (t : Tst K H H') : RowV K H' v w := let ⟨p, q, q', a, b, c, d⟩ := h; ⟨p, q, q', a, t _ _ b, c.mono t, d.mono t⟩
def RlV (K : Fg) (H : Hp) (v : V) : Rl -> Prop
 | .pow k => ∃ p, v = .ref p /\ SqT K H p [.str (Str.ofString "power"), .int k]
 | .tab rows => ∃ p q xs, v = .ref p /\ SqT K H p [.str (Str.ofString "table"), .ref q] /\ SqT K H q xs /\ Als (RowV K H) xs rows
theorem RlV.mono {K : Fg} {H H' : Hp} {v : V} {rl : Rl} (h : RlV K H v rl) (t : Tst K H H') : RlV K H' v rl := by
 cases rl with
 | pow k => obtain ⟨p, a, b⟩ := h; exact ⟨p, a, t _ _ b⟩
 | tab rows => obtain ⟨p, q, xs, a, b, c, d⟩ := h; exact ⟨p, q, xs, a, t _ _ b, t _ _ c, d.mono fun _ _ z => z.mono t⟩
def OptV (K : Fg) (H : Hp) (v : V) : Option R -> Prop
 | none => v = .non
 | some r => RV K H v r
theorem cast_pos {b : Int} (h : 0 < b) : (0 : Rat) < (b : Rat) := by
 have := Rat.intCast_lt_intCast.mpr h
 exact this
theorem val_less {r q : R} (hr : 0 < r.2) (hq : 0 < q.2) : lessR r q = true ↔ val r < val q := by
 rw [less_iff, ← Rat.intCast_lt_intCast, Rat.intCast_mul, Rat.intCast_mul]
 have h1 := cast_pos hr
 have h2 := cast_pos hq
 have e1 : (r.1 : Rat) = val r * (r.2 : Rat) := by
  have := ne_cast hr
  unfold val
  generalize (r.1 : Rat) = x at *
  generalize (r.2 : Rat) = y at *
  grind
 have e2 : (q.1 : Rat) = val q * (q.2 : Rat) := by
  have := ne_cast hq
  unfold val
  generalize (q.1 : Rat) = x at *
  generalize (q.2 : Rat) = y at *
  grind
 rw [e1, e2]
 generalize val r = x at *
 generalize val q = y at *
 generalize (r.2 : Rat) = u at *
 generalize (q.2 : Rat) = v at *
 have c : 0 < u * v := Rat.mul_pos h1 h2
 constructor
 ·intro h
  have h' : x * (u * v) < y * (u * v) := by grind
  by_cases w : x < y
  ·exact w
  ·have z : y ≤ x := Rat.not_lt.mp w
   have := Rat.mul_le_mul_of_nonneg_right z (Rat.le_of_lt c)
   grind
 ·intro h
  have := Rat.mul_lt_mul_of_pos_right h c
  grind
theorem val_not {r q : R} (hr : 0 < r.2) (hq : 0 < q.2) : lessR r q = false ↔ val q ≤ val r := by
 have a := val_less hr hq
 cases c : lessR r q with
 | true =>
  have := a.mp c
  constructor
  ·intro z; cases z
  ·intro z; grind
 | false =>
  constructor
  ·intro _
   by_cases w : val r < val q
   ·rw [a.mpr w] at c; cases c
   ·exact Rat.not_lt.mp w
  ·intro _; rfl
structure PartOk (r : R) : Prop where
 bq : Bq D0 N0 r
 pos : 0 < r.1
theorem PartOk.wf {r : R} (h : PartOk r) : Wf 98 r := h.bq.wf (by decide) (by decide) (by decide)
theorem div30 {r : Int} (h0 : 0 ≤ r) (h1 : r < 30) : (1 + r) ∣ (D0 : Int) := by
 have z : ∀ k : Fin 30, (1 + ((k : Nat) : Int)) ∣ (D0 : Int) := by decide
 have := z ⟨r.toNat, by omega⟩
 rw [show (((⟨r.toNat, by omega⟩ : Fin 30) : Nat) : Int) = r by show ((r.toNat : Nat) : Int) = r; omega] at this
 exact this
theorem part_ok {a b : Int} (ha : 0 < a) (ha' : a ≤ 1000000007) (hb : 0 < b) (hd : b ∣ (D0 : Int)) : PartOk (mkR a b) := by
 refine ⟨bq_mk hb hd ?_, mkR_pos ha hb⟩
 have h1 : a.natAbs ≤ 1000000007 := by omega
 have h2 : 1 ≤ b.natAbs := by omega
 show a.natAbs ≤ 1000000007 * b.natAbs
 omega
theorem bq_zero {D N : Nat} : Bq D N (0, 1) := ⟨by show (0 : Int) < 1; decide, by show Int.gcd 0 1 = 1; decide, ⟨(D : Int), by show (D : Int) = 1 * (D : Int); omega⟩, Nat.zero_le _⟩
theorem row_nn {rows : List (R × R)} (h : RowsOk rows) {k : Nat} {r : R × R} (e : rows[k]? = some r) : 0 ≤ r.1.1 := by
 obtain ⟨y, ey⟩ := h.zero
 cases k with
 | zero => rw [ey] at e; cases e; exact Int.le_refl _
 | succ k =>
  obtain ⟨h1, e1⟩ := List.getElem?_eq_some_iff.mp e
  obtain ⟨h2, e2⟩ := List.getElem?_eq_some_iff.mp ey
  have := List.pairwise_iff_getElem.mp h.inc 0 (k + 1) h2 h1 (Nat.succ_pos k)
  rw [e1, e2, less_iff] at this
  have z : 0 * r.1.2 < r.1.1 * 1 := this
  omega
structure TabAt (i : Nat) (rows : List (R × R)) : Prop where
 len : rows.length = i + 1
 inc : Inc rows
 zero : ∃ y, rows[0]? = some ((0, 1), y)
 sp : ∀ r ∈ rows, Bq D0 (i * N0) r.1
 pw : ∀ r ∈ rows, Bq (D0 * D0) (N0 + i * (12 * N0 * N0)) r.2
theorem tab_one {y : R} (h : Bq D0 N0 y) : TabAt 0 [((0, 1), y)] := by
 refine ⟨rfl, List.pairwise_singleton _ _, ⟨y, rfl⟩, fun r hr => ?_, fun r hr => ?_⟩
 ·rw [List.mem_singleton] at hr; rw [hr]; exact bq_zero
 ·rw [List.mem_singleton] at hr; rw [hr]
  exact h.mono ⟨D0, rfl⟩ (by omega)
theorem TabAt.snoc {i : Nat} {rows : List (R × R)} (h : TabAt i rows) (hi : i ≤ 10) {w : R × R} (hw : rows[i]? = some w) {sl st : R} (hs : Bq D0 ((i + 1) * N0) sl) (ht : PartOk st) :
  TabAt (i + 1) (rows ++ [(plusR w.1 st, plusR w.2 (timesR sl st))]) := by
 have mw := List.mem_of_getElem? hw
 have b1 : Bq D0 ((i + 1) * N0) (plusR w.1 st) := ((h.sp w mw).plus (by decide) ht.bq).mono ⟨1, rfl⟩ (by rw [Nat.add_mul]; omega)
 have b2 : Bq (D0 * D0) (12 * N0 * N0) (timesR sl st) := (hs.times ht.bq).mono ⟨1, by rw [Nat.mul_one]⟩ (Nat.mul_le_mul_right _ (Nat.mul_le_mul_right _ (by omega)))
 have b3 : Bq (D0 * D0) (N0 + (i + 1) * (12 * N0 * N0)) (plusR w.2 (timesR sl st)) := ((h.pw w mw).plus (by decide) b2).mono ⟨1, by rw [Nat.mul_one]⟩ (by rw [Nat.add_mul]; omega)
 have up := less_plus (h.sp w mw).red ht.bq.red ht.pos
 refine ⟨by rw [List.length_append, h.len]; rfl, ?_, ?_, fun r hr => ?_, fun r hr => ?_⟩
 ·refine List.pairwise_append.mpr ⟨h.inc, List.pairwise_singleton _ _, fun a ha b hb => ?_⟩
  rw [List.mem_singleton] at hb
  rw [hb]
  show lessR a.1 (plusR w.1 st) = true
  obtain ⟨j, hj⟩ := List.getElem?_of_mem ha
  have lj : j < i + 1 := by rw [← h.len]; exact (List.getElem?_eq_some_iff.mp hj).1
  by_cases e : j = i
  ·rw [e, hw] at hj; cases hj; exact up
  ·obtain ⟨h1, e1⟩ := List.getElem?_eq_some_iff.mp hj
   obtain ⟨h2, e2⟩ := List.getElem?_eq_some_iff.mp hw
   have := List.pairwise_iff_getElem.mp h.inc j i h1 h2 (by omega)
   rw [e1, e2] at this
   exact lt_le (h.sp a ha).pos (h.sp w mw).pos b1.pos this (less_asym up)
 ·obtain ⟨y, hy⟩ := h.zero
  exact ⟨y, by rw [List.getElem?_append_left (by rw [h.len]; exact Nat.succ_pos i)]; exact hy⟩
 ·rcases List.mem_append.mp hr with z | z
  ·exact (h.sp r z).mono ⟨1, rfl⟩ (Nat.mul_le_mul_right _ (Nat.le_succ i))
  ·rw [List.mem_singleton] at z; rw [z]; exact b1
 ·rcases List.mem_append.mp hr with z | z
  ·exact (h.pw r z).mono ⟨1, by rw [Nat.mul_one]⟩ (Nat.add_le_add_left (Nat.mul_le_mul_right _ (Nat.le_succ i)) _)
  ·rw [List.mem_singleton] at z; rw [z]; exact b3
theorem TabAt.ok {i : Nat} {rows : List (R × R)} (h : TabAt i rows) (h1 : 1 ≤ i) (h2 : i ≤ 11) : RowsOk rows := by
 refine ⟨by rw [h.len]; omega, by rw [h.len]; omega, h.inc, h.zero, fun r hr => (h.sp r hr).mono ⟨1, rfl⟩ ?_, fun r hr => (h.pw r hr).mono ⟨1, by rw [Nat.mul_one]⟩ ?_⟩
 ·exact Nat.le_trans (Nat.mul_le_mul_right N0 h2) (by decide)
 ·exact Nat.le_trans (Nat.add_le_add_left (Nat.mul_le_mul_right _ h2) _) (by decide)
theorem vne {q : R} (hq : 0 < q.2) (h : q.1 ≠ 0) : val q ≠ 0 := fun z => h ((val_zero hq).mp z)
theorem slope_snoc {x p sl st : R} (hx : Red x) (hp : Red p) (hs : Red sl) (ht : Red st) (pt : 0 < st.1) : slopeR (x, p) (plusR x st, plusR p (timesR sl st)) = sl := by
 have rt : Red (timesR sl st) := mkR_red (Int.mul_pos hs.pos ht.pos)
 have r1 : Red (plusR x st) := mkR_red (Int.mul_pos hx.pos ht.pos)
 have r2 : Red (plusR p (timesR sl st)) := mkR_red (Int.mul_pos hp.pos rt.pos)
 have e1 : minusR (plusR x st) x = st := val_inj (minus_red r1.pos hx.pos) ht (by rw [val_minus r1.pos hx.pos, val_plus hx.pos ht.pos]; grind)
 have e2 : minusR (plusR p (timesR sl st)) p = timesR sl st := val_inj (minus_red r2.pos hp.pos) rt (by rw [val_minus r2.pos hp.pos, val_plus hp.pos rt.pos]; grind)
 have n0 : st.1 ≠ 0 := by omega
 show overR (minusR (plusR p (timesR sl st)) p) (minusR (plusR x st) x) = sl
 rw [e1, e2]
 refine val_inj (over_red rt.pos n0) hs ?_
 rw [val_over rt.pos ht.pos n0, val_times hs.pos ht.pos]
 have := vne ht.pos n0
 generalize val st = u at *
 generalize val sl = v at *
 grind
structure TabS (i : Nat) (rows : List (R × R)) : Prop where
 tb : TabAt i rows
 sl : ∀ k, k < i -> Bq D0 (12 * N0) (slp rows k)
theorem tabS_one {y : R} (h : Bq D0 N0 y) : TabS 0 [((0, 1), y)] := ⟨tab_one h, fun k z => absurd z (Nat.not_lt_zero k)⟩
theorem TabS.snoc {i : Nat} {rows : List (R × R)} (h : TabS i rows) (hi : i ≤ 10) {w : R × R} (hw : rows[i]? = some w) {sl st : R} (hs : Bq D0 ((i + 1) * N0) sl) (ht : PartOk st) :
  TabS (i + 1) (rows ++ [(plusR w.1 st, plusR w.2 (timesR sl st))]) := by
 refine ⟨h.tb.snoc hi hw hs ht, fun k hk => ?_⟩
 have len := h.tb.len
 have ax : ∀ {j : Nat} {v : R × R}, rows[j]? = some v -> (rows ++ [(plusR w.1 st, plusR w.2 (timesR sl st))])[j]? = some v := fun {j v} e => by
  rw [List.getElem?_append_left (List.getElem?_eq_some_iff.mp e).1]; exact e
 by_cases c : k < i
 ·have e1 : rows[k]? = some (rows[k]'(by omega)) := List.getElem?_eq_getElem _
  have e2 : rows[k + 1]? = some (rows[k + 1]'(by omega)) := List.getElem?_eq_getElem _
  have := h.sl k c
  rw [slp_at e1 e2] at this
  rw [slp_at (ax e1) (ax e2)]
  exact this
 ·have ek : k = i := by omega
  subst ek
  have e2 : (rows ++ [(plusR w.1 st, plusR w.2 (timesR sl st))])[k + 1]? = some (plusR w.1 st, plusR w.2 (timesR sl st)) := by
   rw [List.getElem?_append_right (by omega), len, Nat.sub_self]; rfl
  rw [slp_at (ax hw) e2]
  have mw := List.mem_of_getElem? hw
  have := slope_snoc (h.tb.sp w mw).red (h.tb.pw w mw).red hs.red ht.bq.red ht.pos
  rw [show slopeR w (plusR w.1 st, plusR w.2 (timesR sl st)) = sl from this]
  exact hs.mono ⟨1, rfl⟩ (Nat.mul_le_mul_right _ (by omega))
structure RowsS (rows : List (R × R)) : Prop where
 ok : RowsOk rows
 sl : ∀ k, k + 1 < rows.length -> Bq D0 (12 * N0) (slp rows k)
theorem TabS.ok {i : Nat} {rows : List (R × R)} (h : TabS i rows) (h1 : 1 ≤ i) (h2 : i ≤ 11) : RowsS rows := ⟨h.tb.ok h1 h2, fun k hk => h.sl k (by have := h.tb.len; omega)⟩
structure SpdOk (s : R) : Prop where
 wf : Wf 310 s
 nn : 0 ≤ s.1
structure RowsG (rows : List (R × R)) : Prop where
 n2 : 2 ≤ rows.length
 n12 : rows.length ≤ 12
 inc : Inc rows
 zero : ∃ y, rows[0]? = some ((0, 1), y)
 sp : ∀ r ∈ rows, Wf 102 r.1
 pw : ∀ r ∈ rows, Wf 610 r.2
def RlG : Rl -> Prop
 | .pow k => 2 ≤ k /\ k ≤ 4
 | .tab rows => RowsG rows
theorem wred {n : Nat} {r : R} (h : Wf n r) : Red r := ⟨h.pos, h.cop⟩
theorem RowsG.allP {rows : List (R × R)} (h : RowsG rows) : AllP rows := fun r hr => (h.sp r hr).pos
theorem RowsOk.g {rows : List (R × R)} (h : RowsOk rows) : RowsG rows := ⟨h.n2, h.n12, h.inc, h.zero, fun r hr => (wfS (h.sp r hr)).mono (by decide), fun r hr => (wfP (h.pw r hr)).mono (by decide)⟩
structure SlG (a b : R × R) : Prop where
 ne : (minusR b.1 a.1).1 ≠ 0
 w1 : Wf 205 (minusR b.1 a.1)
 w2 : Wf 1221 (minusR b.2 a.2)
 a1 : Wf 102 a.1
 b1 : Wf 102 b.1
 a2 : Wf 610 a.2
 b2 : Wf 610 b.2
 sl : Wf 1426 (slopeR a b)
theorem inc_at {rows : List (R × R)} (h : Inc rows) {i j : Nat} {a b : R × R} (hij : i < j) (ha : rows[i]? = some a) (hb : rows[j]? = some b) : lessR a.1 b.1 = true := by
 obtain ⟨h1, e1⟩ := List.getElem?_eq_some_iff.mp ha
 obtain ⟨h2, e2⟩ := List.getElem?_eq_some_iff.mp hb
 have := List.pairwise_iff_getElem.mp h i j h1 h2 hij
 rw [e1, e2] at this
 exact this
theorem slG {rows : List (R × R)} (h : RowsG rows) {i j : Nat} {a b : R × R} (hij : i < j) (ha : rows[i]? = some a) (hb : rows[j]? = some b) : SlG a b := by
 have ma := List.mem_of_getElem? ha
 have mb := List.mem_of_getElem? hb
 have ne := minus_ne (wred (h.sp b mb)) (wred (h.sp a ma)) (inc_at h.inc hij ha hb)
 have w1 := minus_wf (h.sp b mb) (h.sp a ma)
 have w2 := minus_wf (h.pw b mb) (h.pw a ma)
 exact ⟨ne, w1, w2, h.sp a ma, h.sp b mb, h.pw a ma, h.pw b mb, (over_wf w2 w1 ne).mono (by decide)⟩
theorem RowsG.p_lt {rows : List (R × R)} (h : RowsG rows) {s : R} (hs : 0 < s.2) (hb : Below (.tab rows) s) : pOf rows s < rows.length := by
 obtain ⟨r, e, c⟩ := hb
 have := cnt_p hs h.inc h.allP e
 rw [c] at this
 have z := of_decide_eq_false this.symm
 have := h.n2
 omega
def topM (rows : List (R × R)) : R := (rows.getD (rows.length - 1) rowD).1
def lineR (a b : R × R) (s : R) : R := plusR a.2 (timesR (slopeR a b) (minusR s a.1))
def powT (rows : List (R × R)) (s : R) : R := if pOf rows s = 0 then (rows.getD 0 rowD).2 else lineR (rows.getD (pOf rows s - 1) rowD) (rows.getD (pOf rows s) rowD) s
def powM : Rl -> R -> R
 | .pow k, s => powR s k.toNat
 | .tab rows, s => powT rows s
def beyM : Rl -> R -> Bool
 | .pow _, _ => false
 | .tab rows, s => lessR (topM rows) s
theorem last_g {rows : List (R × R)} (h : RowsG rows) : ∃ r, rows[rows.length - 1]? = some r /\ topM rows = r.1 := by
 have n := h.n2
 have e : rows[rows.length - 1]? = some (rows[rows.length - 1]'(by omega)) := List.getElem?_eq_getElem _
 exact ⟨_, e, by unfold topM; rw [getD_at e]⟩
theorem bey_iff {rl : Rl} {s : R} (h : RlG rl) : beyM rl s = false ↔ Below rl s := by
 cases rl with
 | pow k => exact ⟨fun _ => trivial, fun _ => rfl⟩
 | tab rows =>
  obtain ⟨r, e, er⟩ := last_g (show RowsG rows from h)
  constructor
  ·intro z
   have z' : lessR (topM rows) s = false := z
   exact ⟨r, e, by rw [← er]; exact z'⟩
  ·rintro ⟨r', e', z⟩
   rw [e] at e'
   cases e'
   show lessR (topM rows) s = false
   rw [er]; exact z
theorem line_g {a b : R × R} {s : R} (ok : SlG a b) (ws : Wf 310 s) : Wf 413 (minusR s a.1) /\ Wf 1839 (timesR (slopeR a b) (minusR s a.1)) /\ Wf 2450 (lineR a b s) := by
 have m := minus_wf ws ok.a1
 have tm := times_wf ok.sl m
 exact ⟨m, tm, plus_wf ok.a2 tm⟩
theorem zero_g {rows : List (R × R)} (h : RowsG rows) {s : R} (hs : SpdOk s) (hp : pOf rows s = 0) : s = (0, 1) := by
 obtain ⟨y, ey⟩ := h.zero
 have c := cnt_p hs.wf.pos h.inc h.allP ey
 rw [hp] at c
 have c' : lessR (0, 1) s = false := c
 rw [less_not] at c'
 have z : s.1 * 1 ≤ 0 * s.2 := c'
 have nn := hs.nn
 have e : s.1 = 0 := by omega
 have cop := hs.wf.cop
 have pos := hs.wf.pos
 rw [e] at cop
 have : s.2.natAbs = 1 := by simpa [Int.gcd] using cop
 exact Prod.ext e (by omega)
theorem powT_wf {rows : List (R × R)} {s : R} (h' : RowsG rows) (hs : SpdOk s) (hb : Below (.tab rows) s) : Wf 2450 (powT rows s) := by
 have pl := h'.p_lt hs.wf.pos hb
 unfold powT
 split
 ·have e : rows[0]? = some (rows[0]'(by omega)) := List.getElem?_eq_getElem _
  rw [getD_at e]
  exact (h'.pw _ (List.mem_of_getElem? e)).mono (by decide)
 ·rename_i c
  have e1 : rows[pOf rows s - 1]? = some (rows[pOf rows s - 1]'(by omega)) := List.getElem?_eq_getElem _
  have e2 : rows[pOf rows s]? = some (rows[pOf rows s]'pl) := List.getElem?_eq_getElem _
  rw [getD_at e1, getD_at e2]
  exact (line_g (slG h' (by omega) e1 e2) hs.wf).2.2
def Sv (rows : List (R × R)) (i : Nat) : Rat := val (rows.getD i rowD).1
def Pv (rows : List (R × R)) (i : Nat) : Rat := val (rows.getD i rowD).2
def Cvx (rows : List (R × R)) : Prop := ∀ j, j + 2 < rows.length -> sl (Sv rows) (Pv rows) j ≤ sl (Sv rows) (Pv rows) (j + 1)
theorem Sv_at {rows : List (R × R)} {i : Nat} {a : R × R} (h : rows[i]? = some a) : Sv rows i = val a.1 := by unfold Sv; rw [getD_at h]
theorem Pv_at {rows : List (R × R)} {i : Nat} {a : R × R} (h : rows[i]? = some a) : Pv rows i = val a.2 := by unfold Pv; rw [getD_at h]
theorem Cvx.of {rows : List (R × R)} (h : Cvx rows) : ∀ j, j + 1 < rows.length - 1 -> sl (Sv rows) (Pv rows) j ≤ sl (Sv rows) (Pv rows) (j + 1) := fun j hj => h j (by omega)
def Cv (rows : List (R × R)) (x : Rat) : Prop := Cvx rows /\ ∀ j, j + 2 = rows.length -> sl (Sv rows) (Pv rows) j ≤ x
theorem cv_one (w : R × R) (x : Rat) : Cv [w] x := ⟨fun j h => by simp at h, fun j h => by simp at h⟩
theorem Cv.up {rows : List (R × R)} {x y : Rat} (h : Cv rows x) (l : x ≤ y) : Cv rows y := ⟨h.1, fun j e => Rat.le_trans (h.2 j e) l⟩
theorem sl_app {rows : List (R × R)} {w : R × R} {j : Nat} (h : j + 1 < rows.length) : sl (Sv (rows ++ [w])) (Pv (rows ++ [w])) j = sl (Sv rows) (Pv rows) j := by
 have g : ∀ i, i < rows.length -> (rows ++ [w]).getD i rowD = rows.getD i rowD := fun i hi => by
  rw [List.getD_eq_getElem?_getD, List.getD_eq_getElem?_getD, List.getElem?_append_left hi]
 unfold sl Sv Pv
 rw [g j (by omega), g (j + 1) h]
theorem Cv.snoc {rows : List (R × R)} {i : Nat} {w : R × R} {slo st : R} (hl : rows.length = i + 1) (hw : rows[i]? = some w) (h : Cv rows (val slo)) (w1 : 0 < w.1.2) (w2 : 0 < w.2.2) (hs : Red slo) (ht : Red st) (hp : 0 < st.1) :
  Cv (rows ++ [(plusR w.1 st, plusR w.2 (timesR slo st))]) (val slo) := by
 have tr := times_red hs ht
 have g1 : (rows ++ [(plusR w.1 st, plusR w.2 (timesR slo st))])[i]? = some w := by rw [List.getElem?_append_left (by omega)]; exact hw
 have g2 : (rows ++ [(plusR w.1 st, plusR w.2 (timesR slo st))])[i + 1]? = some (plusR w.1 st, plusR w.2 (timesR slo st)) := by
  rw [List.getElem?_append_right (by omega), show i + 1 - rows.length = 0 by omega]; rfl
 have ne : val st ≠ 0 := fun z => by have := (val_zero ht.pos).mp z; omega
 have e : sl (Sv (rows ++ [(plusR w.1 st, plusR w.2 (timesR slo st))])) (Pv (rows ++ [(plusR w.1 st, plusR w.2 (timesR slo st))])) i = val slo := by
  unfold sl
  rw [Sv_at g1, Sv_at g2, Pv_at g1, Pv_at g2]
  show (val (plusR w.2 (timesR slo st)) - val w.2) / (val (plusR w.1 st) - val w.1) = val slo
  rw [val_plus w2 tr.pos, val_plus w1 ht.pos, val_times hs.pos ht.pos]
  generalize val slo = u at *
  generalize val st = v at *
  generalize val w.1 = a at *
  generalize val w.2 = b at *
  grind
 refine ⟨fun j hj => ?_, fun j hj => ?_⟩
 ·rw [List.length_append] at hj
  have hj' : j + 2 < rows.length + 1 := hj
  rw [sl_app (show j + 1 < rows.length by omega)]
  by_cases c : j + 2 < rows.length
  ·rw [sl_app (show j + 1 + 1 < rows.length by omega)]
   exact h.1 j c
  ·have ej : j + 1 = i := by omega
   rw [ej, e]
   exact h.2 j (by omega)
 ·rw [List.length_append] at hj
  have hj' : j + 2 = rows.length + 1 := hj
  have ej : j = i := by omega
  rw [ej, e]
  exact Rat.le_refl
theorem RowsG.up {rows : List (R × R)} (h : RowsG rows) : ∀ j, j < rows.length - 1 -> Sv rows j < Sv rows (j + 1) := fun j hj => by
 obtain ⟨a, ea⟩ : ∃ a, rows[j]? = some a := ⟨_, List.getElem?_eq_getElem (by omega)⟩
 obtain ⟨b, eb⟩ : ∃ b, rows[j + 1]? = some b := ⟨_, List.getElem?_eq_getElem (by omega)⟩
 rw [Sv_at ea, Sv_at eb]
 exact (val_less (h.sp a (List.mem_of_getElem? ea)).pos (h.sp b (List.mem_of_getElem? eb)).pos).mp (inc_at h.inc (Nat.lt_succ_self j) ea eb)
theorem line_val {a b : R × R} {s : R} (g : SlG a b) (hs : 0 < s.2) : val (lineR a b s) = val a.2 + (val b.2 - val a.2) / (val b.1 - val a.1) * (val s - val a.1) := by
 have m := minus_red hs g.a1.pos
 have t : 0 < (timesR (slopeR a b) (minusR s a.1)).2 := (mkR_red (Int.mul_pos g.sl.pos m.pos)).pos
 unfold lineR
 rw [val_plus g.a2.pos t, val_times g.sl.pos m.pos, val_minus hs g.a1.pos]
 unfold slopeR
 rw [val_over g.w2.pos g.w1.pos g.ne, val_minus g.b2.pos g.a2.pos, val_minus g.b1.pos g.a1.pos]
theorem piece_g {rows : List (R × R)} (h : RowsG rows) {s : R} (hs : SpdOk s) (hb : Below (.tab rows) s) :
  ∃ m, m < rows.length - 1 /\ Sv rows m ≤ val s /\ val s ≤ Sv rows (m + 1) /\ val (powT rows s) = Pv rows m + sl (Sv rows) (Pv rows) m * (val s - Sv rows m) := by
 have n2 := h.n2
 have pl := h.p_lt hs.wf.pos hb
 by_cases c0 : pOf rows s = 0
 ·obtain ⟨y, ey⟩ := h.zero
  have e := zero_g h hs c0
  refine ⟨0, by omega, ?_, ?_, ?_⟩
  ·rw [Sv_at ey, e]; exact Rat.le_refl
  ·have := h.up 0 (by omega)
   rw [Sv_at ey] at this
   rw [e]
   grind
  ·unfold powT
   rw [if_pos c0, getD_at ey, Pv_at ey, Sv_at ey, e]
   grind
 ·obtain ⟨a, ea⟩ : ∃ a, rows[pOf rows s - 1]? = some a := ⟨_, List.getElem?_eq_getElem (by omega)⟩
  obtain ⟨b, eb⟩ : ∃ b, rows[pOf rows s]? = some b := ⟨_, List.getElem?_eq_getElem pl⟩
  have eb' : rows[pOf rows s - 1 + 1]? = some b := by rw [Nat.sub_add_cancel (by omega)]; exact eb
  have ma := List.mem_of_getElem? ea
  have mb := List.mem_of_getElem? eb
  have c1 := cnt_p hs.wf.pos h.inc h.allP ea
  have c2 := cnt_p hs.wf.pos h.inc h.allP eb
  rw [decide_eq_true (by omega)] at c1
  rw [decide_eq_false (by omega)] at c2
  refine ⟨pOf rows s - 1, by omega, ?_, ?_, ?_⟩
  ·rw [Sv_at ea]
   exact Rat.le_of_lt ((val_less (h.sp a ma).pos hs.wf.pos).mp c1)
  ·rw [Sv_at eb']
   exact (val_not (h.sp b mb).pos hs.wf.pos).mp c2
  ·unfold powT
   rw [if_neg c0, getD_at ea, getD_at eb, line_val (slG h (by omega) ea eb) hs.wf.pos, Pv_at ea, Sv_at ea]
   unfold sl
   rw [Sv_at ea, Sv_at eb', Pv_at ea, Pv_at eb']
theorem val_z : val ((0, 1) : R) = 0 := (val_zero (r := (0, 1)) (by decide)).mpr rfl
theorem val_nn {s : R} (hp : 0 < s.2) (hn : 0 ≤ s.1) : 0 ≤ val s := by
 have := (val_not hp (show (0 : Int) < ((0, 1) : R).2 by decide)).mp (nn_less.mpr hn)
 rw [val_z] at this
 exact this
def wq {α : Type} (f : α -> Rat) : List α -> Rat
 | [] => 0
 | a :: t => f a + wq f t
theorem wq_le {α : Type} {f g : α -> Rat} : ∀ {l : List α}, (∀ m ∈ l, f m ≤ g m) -> wq f l ≤ wq g l
 | [], _ => Rat.le_refl
 | a :: t, h => by
  have h1 := h a List.mem_cons_self
  have h2 := wq_le (l := t) fun m hm => h m (List.mem_cons_of_mem _ hm)
  show f a + wq f t ≤ g a + wq g t
  grind
theorem wq_eq {α : Type} {f g : α -> Rat} : ∀ {l : List α}, (∀ m ∈ l, f m ≤ g m) -> wq f l = wq g l -> ∀ m ∈ l, f m = g m
 | [], _, _ => fun m hm => by cases hm
 | a :: t, h, e => by
  have h1 := h a List.mem_cons_self
  have h2 := wq_le (l := t) fun m hm => h m (List.mem_cons_of_mem _ hm)
  have e' : f a + wq f t = g a + wq g t := e
  have e1 : f a = g a := by grind
  have e2 : wq f t = wq g t := by grind
  intro m hm
  rcases List.mem_cons.mp hm with z | z
  ·rw [z]; exact e1
  ·exact wq_eq (l := t) (fun m hm => h m (List.mem_cons_of_mem _ hm)) e2 m z
theorem wq_congr {α : Type} {f g : α -> Rat} {l : List α} (h : ∀ m ∈ l, f m = g m) : wq f l = wq g l :=
 Rat.le_antisymm (wq_le fun m hm => by rw [h m hm]; exact Rat.le_refl) (wq_le fun m hm => by rw [h m hm]; exact Rat.le_refl)
theorem wq_lin {α : Type} (q x : α -> Rat) (c g y : Rat) : ∀ l : List α, wq (fun m => (c + g * (x m - y)) * q m) l = c * wq q l + g * (wq (fun m => x m * q m) l - y * wq q l)
 | [] => by show (0 : Rat) = c * 0 + g * (0 - y * 0); grind
 | a :: t => by
  show (c + g * (x a - y)) * q a + wq _ t = c * (q a + wq q t) + g * (x a * q a + wq (fun m => x m * q m) t - y * (q a + wq q t))
  rw [wq_lin q x c g y t]
  grind
theorem fold_val : ∀ (l : List R) (a : R), 0 < a.2 -> (∀ r ∈ l, 0 < r.2) -> 0 < (l.foldl plusR a).2 /\ val (l.foldl plusR a) = val a + wq val l
 | [], a, h, _ => ⟨h, by show val a = val a + 0; grind⟩
 | r :: t, a, h, k => by
  have hr := k r List.mem_cons_self
  have p : 0 < (plusR a r).2 := (mkR_red (Int.mul_pos h hr)).pos
  obtain ⟨p1, p2⟩ := fold_val t (plusR a r) p fun q hq => k q (List.mem_cons_of_mem _ hq)
  refine ⟨p1, ?_⟩
  show val (t.foldl plusR (plusR a r)) = val a + (val r + wq val t)
  rw [p2, val_plus h hr]
  grind
theorem wq_map {α β : Type} (f : β -> Rat) (g : α -> β) : ∀ l : List α, wq f (l.map g) = wq (fun a => f (g a)) l
 | [] => rfl
 | a :: t => by show f (g a) + wq f (t.map g) = f (g a) + wq _ t; rw [wq_map f g t]
theorem fold_red : ∀ (l : List R) (a : R), Red a -> (∀ r ∈ l, 0 < r.2) -> Red (l.foldl plusR a)
 | [], _, h, _ => h
 | r :: t, a, h, k => fold_red t (plusR a r) (mkR_red (Int.mul_pos h.pos (k r List.mem_cons_self))) fun q hq => k q (List.mem_cons_of_mem _ hq)
theorem sumR_red {l : List R} (h : ∀ r ∈ l, 0 < r.2) : Red (sumR l) := fold_red l (0, 1) ⟨by decide, by decide⟩ h
theorem sumR_val {l : List R} (h : ∀ r ∈ l, 0 < r.2) : val (sumR l) = wq val l := by
 have := (fold_val l (0, 1) (by decide) h).2
 rw [val_z] at this
 show val (l.foldl plusR (0, 1)) = _
 rw [this]; grind
section
variable {s p : Nat -> Rat} {n : Nat}
theorem all_line (hs : ∀ j, j < n -> s j < s (j + 1)) (hc : ∀ j, j + 1 < n -> sl s p j ≤ sl s p (j + 1)) {i j : Nat} (hi : i < n) (hj : j ≤ n) : p i + sl s p i * (s j - s i) ≤ p j := by
 by_cases c : i ≤ j
 ·have := up_line hs hc (i := i) (j - i) (by omega) hi
  rw [show i + (j - i) = j by omega] at this
  exact this
 ·have := down_line hs hc (i := i) (i - j) (by omega) hi
  rw [show i - (i - j) = j by omega] at this
  exact this
theorem lt_of_idx (hs : ∀ j, j < n -> s j < s (j + 1)) {i j : Nat} (hij : i < j) (hj : j ≤ n) : s i < s j := by
 have a := hs i (by omega)
 have b := rise (i := i + 1) hs (j - (i + 1)) (by omega)
 rw [show i + 1 + (j - (i + 1)) = j by omega] at b
 grind
theorem idx_of_lt (hs : ∀ j, j < n -> s j < s (j + 1)) {i j : Nat} (hi : i ≤ n) (h : s i < s j) : i < j := by
 apply Classical.byContradiction
 intro c
 by_cases e : i = j
 ·subst e; grind
 ·have := lt_of_idx hs (show j < i by omega) hi
  grind
theorem chord_up (hs : ∀ j, j < n -> s j < s (j + 1)) (hc : ∀ j, j + 1 < n -> sl s p j ≤ sl s p (j + 1)) {a b j : Nat} {c g y : Rat} (hn : 0 < n) (ha : a ≤ j) (hb : j ≤ b) (hbn : b ≤ n) (hab : a < b)
  (ea : p a = c + g * (s a - y)) (eb : p b = c + g * (s b - y)) : p j ≤ c + g * (s j - y) := by
 obtain ⟨u, ku⟩ : ∃ u : Rat, ∀ i, i ≤ n -> p j + u * (s i - s j) ≤ p i := by
  by_cases cj : j < n
  ·exact ⟨sl s p j, fun i hi => all_line hs hc cj hi⟩
  ·have ej : j = (n - 1) + 1 := by omega
   refine ⟨sl s p (n - 1), fun i hi => ?_⟩
   have h1 := all_line hs hc (i := n - 1) (by omega) hi
   have h2 := sl_eq (p := p) (hs (n - 1) (by omega))
   rw [ej]
   grind
 have k1 := ku a (by omega)
 have k2 := ku b hbn
 have la := lt_of_idx hs hab hbn
 have l1 : s a ≤ s j := by
  by_cases z : a = j
  ·subst z; exact Rat.le_refl
  ·exact Rat.le_of_lt (lt_of_idx hs (by omega) (by omega))
 have l2 : s j ≤ s b := by
  by_cases z : j = b
  ·subst z; exact Rat.le_refl
  ·exact Rat.le_of_lt (lt_of_idx hs (by omega) hbn)
 have m1 := Rat.mul_le_mul_of_nonneg_right k1 (show 0 ≤ s b - s j by grind)
 have m2 := Rat.mul_le_mul_of_nonneg_right k2 (show 0 ≤ s j - s a by grind)
 rw [ea] at m1
 rw [eb] at m2
 have t : p j * (s b - s a) ≤ (c + g * (s j - y)) * (s b - s a) := by grind
 apply Classical.byContradiction
 intro nle
 have nlt : c + g * (s j - y) < p j := Rat.not_le.mp nle
 have := Rat.mul_lt_mul_of_pos_right nlt (show 0 < s b - s a by grind)
 grind
end
theorem boot_dictT : bootBuiltins "dict" = some (.type "dict") := by kernel_rfl
def keyR (r : R) : List Key := [.inl r.1, .inl r.2]
theorem keyR_inj {a b : R} (h : keyR a = keyR b) : a = b := by
 unfold keyR at h
 injection h with h1 h2
 injection h2 with h3 h4
 injection h1 with h5
 injection h3 with h6
 exact Prod.ext h5 h6
def MixV (K : Fg) (H : Hp) (v : V) (ms : List (R × R)) : Prop := ∃ p xs, v = .ref p /\ SqT K H p xs /\ Als (RowV K H) xs ms
theorem MixV.mono {K : Fg} {H H' : Hp} {v : V} {ms : List (R × R)} (h : MixV K H v ms) (t : Tst K H H') : MixV K H' v ms := let ⟨p, xs, a, b, c⟩ := h; ⟨p, xs, a, t _ _ b, c.mono fun _ _ z => z.mono t⟩
def dPr (w : R × R) : PyData := .tuple [dR w.1, dR w.2]
def dMix (ms : List (R × R)) : PyData := .tuple (ms.map dPr)
theorem RowV.deep {K : Fg} {H : Hp} {v : V} {w : R × R} (h : RowV K H v w) : Deep K H v (dPr w) := by
 obtain ⟨p, x, y, rfl, hS, hx, hy⟩ := h
 exact .tup hS (.cons hx.deep (.cons hy.deep .nil))
theorem MixV.deep {K : Fg} {H : Hp} {v : V} {ms : List (R × R)} (h : MixV K H v ms) : Deep K H v (dMix ms) := by
 obtain ⟨p, xs, rfl, hS, al⟩ := h
 exact .tup hS (al.deep fun v d z => z.deep)
def idxR (rows : List (R × R)) (z : R) : Nat := rows.findIdx fun r => decide (r.1 = z)
def numV (rows : List (R × R)) (z : R) : V := if (rows.any fun r => decide (r.1 = z)) = true then .int (idxR rows z : Nat) else .non
def pwAt (rows : List (R × R)) (z : R) : R := (rows.getD (idxR rows z) rowD).2
def HasR (rows : List (R × R)) (z : R) : Prop := ∃ r ∈ rows, r.1 = z
theorem has_any {rows : List (R × R)} {z : R} : (rows.any fun r => decide (r.1 = z)) = true ↔ HasR rows z := by
 rw [List.any_eq_true]
 exact ⟨fun ⟨r, h, e⟩ => ⟨r, h, of_decide_eq_true e⟩, fun ⟨r, h, e⟩ => ⟨r, h, decide_eq_true e⟩⟩
theorem idx_lt {rows : List (R × R)} {z : R} (h : HasR rows z) : idxR rows z < rows.length := by
 obtain ⟨r, m, e⟩ := h
 exact List.findIdx_lt_length.mpr ⟨r, m, decide_eq_true e⟩
theorem idx_at {rows : List (R × R)} {z : R} (h : HasR rows z) : ∃ r, rows[idxR rows z]? = some r /\ r.1 = z := by
 have l := idx_lt h
 refine ⟨_, List.getElem?_eq_getElem l, ?_⟩
 have := List.findIdx_getElem (p := fun r : R × R => decide (r.1 = z)) (w := l)
 exact of_decide_eq_true this
theorem num_of {rows : List (R × R)} {z : R} (h : HasR rows z) : numV rows z = .int (idxR rows z : Nat) := if_pos (has_any.mpr h)
def mixS (rows : List (R × R)) (ms : List (R × R)) : List R := ms.map fun m => timesR (pwAt rows m.1) m.2
def partR (lo hi s : R) : R := overR (minusR s lo) (minusR hi lo)
def mixM (rows : List (R × R)) (s : R) : List (R × R) :=
 if (rows.getD (pOf rows s) rowD).1 = s then [(s, (1, 1))]
 else [((rows.getD (pOf rows s - 1) rowD).1, minusR (1, 1) (partR (rows.getD (pOf rows s - 1) rowD).1 (rows.getD (pOf rows s) rowD).1 s)), ((rows.getD (pOf rows s) rowD).1, partR (rows.getD (pOf rows s - 1) rowD).1 (rows.getD (pOf rows s) rowD).1 s)]
theorem sum_pos {D N : Nat} (hD : 0 < D) {rs : List R} (h : ∀ r ∈ rs, Bq D N r /\ 0 < r.1) (n : rs ≠ []) : 0 < (sumR rs).1 := by
 have go : ∀ (l : List R) (a : R), Red a -> 0 ≤ a.1 -> (∀ r ∈ l, Bq D N r /\ 0 < r.1) -> (l ≠ [] ∨ 0 < a.1) -> 0 < (l.foldl plusR a).1 := by
  intro l
  induction l with
  | nil => intro a ra na _ c; exact c.elim (fun z => absurd rfl z) id
  | cons r l ih =>
   intro a ra na hl c
   obtain ⟨b, p⟩ := hl r List.mem_cons_self
   have bp := Int.mul_pos ra.pos b.pos
   have pp : 0 < (plusR a r).1 := mkR_pos (by have := Int.mul_nonneg na (Int.le_of_lt b.pos); have := Int.mul_pos p ra.pos; omega) bp
   exact ih (plusR a r) (mkR_red bp) (Int.le_of_lt pp) (fun q hq => hl q (List.mem_cons_of_mem _ hq)) (.inr pp)
 exact go rs (0, 1) ⟨by decide, by decide⟩ (by decide) h (.inl n)
theorem mkS_bot {a b : Int} (hb : 0 < b) : (mkS a b).2 ∣ b := by
 rw [mkS_pos hb]
 exact ⟨Int.gcd a b, (Int.ediv_mul_cancel (Int.gcd_dvd_right a b)).symm⟩
theorem over_dvd {r q : R} {D : Nat} (hr : 0 < r.2) (hq : 0 < q.1) (hd : r.2 ∣ (D : Int)) : (overR r q).2 ∣ (D : Int) * q.1 :=
 Int.dvd_trans (mkS_bot (Int.mul_pos hr hq)) (Int.mul_dvd_mul hd (Int.dvd_refl _))
theorem valV_at {kvs : List (List Key × V)} (nd : (kvs.map (·.1)).Nodup) {i : Nat} {k : List Key} {y : V} (h : kvs[i]? = some (k, y)) : valV kvs k = some y := by
 induction kvs generalizing i with
 | nil => simp at h
 | cons p r ih =>
  rw [List.map_cons, List.nodup_cons] at nd
  cases i with
  | zero =>
   have e : p = (k, y) := by simpa using h
   subst e
   exact valV_pos rfl
  | succ i =>
   have h' : r[i]? = some (k, y) := by simpa using h
   rw [valV_neg (fun e => nd.1 (by rw [e]; exact List.mem_map.mpr ⟨(k, y), List.mem_of_getElem? h', rfl⟩))]
   exact ih nd.2 h'
def hasB (rows : List (R × R)) (z : R) : Bool := rows.any fun r => decide (r.1 = z)
def badL (rows ms : List (R × R)) (n : Nat) : Bool := !hasB rows (ms.getD n rowD).1 || (decide (0 < n) && !lessR (ms.getD (n - 1) rowD).1 (ms.getD n rowD).1)
def spdX (rows ms : List (R × R)) : Option Nat := (List.range ms.length).find? (badL rows ms)
def badP (ms : List (R × R)) (n : Nat) : Bool := !lessR (0, 1) (ms.getD n rowD).2
def prtX (ms : List (R × R)) : Option Nat := (List.range ms.length).find? (badP ms)
def farB (rows ms : List (R × R)) : Bool := !(decide (ms.length = 1) || (decide (ms.length = 2) && decide ((idxR rows (ms.getD 1 rowD).1 : Int) - (idxR rows (ms.getD 0 rowD).1 : Int) = 1)))
def spdO (rows ms : List (R × R)) : Option (Str × Int) := (spdX rows ms).map fun n : Nat => (Str.ofString "speed", (n : Int))
def prtO (ms : List (R × R)) : Option (Str × Int) := match prtX ms with
 | some n => some (Str.ofString "part", (n : Int))
 | none => if sumR (ms.map fun m => m.2) = (1, 1) then none else some (Str.ofString "whole", -1)
def endO (rows : List (R × R)) (s : R) (ms : List (R × R)) : Option (Str × Int) := if sumR (ms.map fun m => timesR m.1 m.2) = s then (if farB rows ms = true then some (Str.ofString "far", -1) else none) else some (Str.ofString "mean", -1)
def askM (rows : List (R × R)) (s : R) (ms : List (R × R)) : Option (Str × Int) := match spdO rows ms with
 | some z => some z
 | none => match prtO ms with
  | some z => some z
  | none => endO rows s ms
theorem spd_in {rows ms : List (R × R)} (h : spdX rows ms = none) : ∀ m ∈ ms, HasR rows m.1 := fun m hm => by
 obtain ⟨i, hi⟩ := List.getElem?_of_mem hm
 have il := (List.getElem?_eq_some_iff.mp hi).1
 have := List.find?_eq_none.mp h i (List.mem_range.mpr il)
 unfold badL at this
 rw [getD_at hi] at this
 cases c : hasB rows m.1 with
 | true => exact has_any.mp c
 | false => rw [c] at this; exact absurd rfl this
theorem all_getD {f : PyData -> Bool} (ds : List PyData) : ((List.range ds.length).map fun i => f (ds.getD i .none)).all id = ds.all f := by
 rw [Bool.eq_iff_iff, List.all_eq_true, List.all_eq_true]
 constructor
 ·intro h d hd
  obtain ⟨i, hi, e⟩ := List.mem_iff_getElem.mp hd
  have := h (f (ds.getD i .none)) (List.mem_map.mpr ⟨i, List.mem_range.mpr hi, rfl⟩)
  rw [getD_of PyData.none (List.getElem?_eq_getElem hi), e] at this
  exact this
 ·intro h b hb
  obtain ⟨i, hi, rfl⟩ := List.mem_map.mp hb
  have hi' := List.mem_range.mp hi
  rw [getD_of PyData.none (List.getElem?_eq_getElem hi')]
  exact h _ (List.getElem_mem hi')
theorem find_at {n i : Nat} {f : Nat -> Bool} (hi : i < n) (h : f i = true) (b : ∀ j, j < i -> f j = false) : (List.range n).find? f = some i := by
 rw [List.find?_range_eq_some]
 exact ⟨h, List.mem_range.mpr hi, fun j hj => by rw [b j hj]; rfl⟩
theorem find_no {n : Nat} {f : Nat -> Bool} (b : ∀ j, j < n -> f j = false) : (List.range n).find? f = none := by
 rw [List.find?_eq_none]
 intro j hj
 rw [b j (List.mem_range.mp hj)]
 exact Bool.false_ne_true
structure MxOk (rows ms : List (R × R)) (s : R) : Prop where
 ne : 0 < ms.length
 has : ∀ m ∈ ms, HasR rows m.1
 inc : ms.Pairwise fun a b => lessR a.1 b.1 = true
 pos : ∀ m ∈ ms, 0 < m.2.1
 bp : ∀ m ∈ ms, 0 < m.2.2
 whole : wq (fun m => val m.2) ms = 1
 mean : wq (fun m => val m.1 * val m.2) ms = val s
theorem MxOk.at_ {rows ms : List (R × R)} {s : R} (h : MxOk rows ms s) {m : R × R} (hm : m ∈ ms) : idxR rows m.1 < rows.length /\ Sv rows (idxR rows m.1) = val m.1 /\ Pv rows (idxR rows m.1) = val (pwAt rows m.1) := by
 obtain ⟨r, e, f⟩ := idx_at (h.has m hm)
 refine ⟨idx_lt (h.has m hm), ?_, rfl⟩
 rw [Sv_at e, f]
theorem vpos {q : R} (hq : 0 < q.2) (h : 0 < q.1) : 0 < val q := by
 have := (val_less (r := (0, 1)) (q := q) (by decide) hq).mp (by rw [less_iff]; show 0 * q.2 < q.1 * 1; omega)
 rw [val_z] at this
 exact this
theorem MxOk.vp {rows ms : List (R × R)} {s : R} (h : MxOk rows ms s) {m : R × R} (hm : m ∈ ms) : 0 < val m.2 := vpos (h.bp m hm) (h.pos m hm)
def mxQ (rows ms : List (R × R)) : Rat := wq (fun m => val (pwAt rows m.1) * val m.2) ms
theorem mx_line {rows ms : List (R × R)} {s : R} (h : MxOk rows ms s) (c g y : Rat) : wq (fun m => (c + g * (val m.1 - y)) * val m.2) ms = c + g * (val s - y) := by
 rw [wq_lin (fun m : R × R => val m.2) (fun m : R × R => val m.1) c g y ms, h.whole, h.mean]
 grind
theorem mx_each {rows ms : List (R × R)} {s : R} (ok : RowsG rows) (cv : Cvx rows) (h : MxOk rows ms s) {p : Nat} (hp : p < rows.length - 1) : ∀ m ∈ ms, (Pv rows p + sl (Sv rows) (Pv rows) p * (val m.1 - Sv rows p)) * val m.2 ≤ val (pwAt rows m.1) * val m.2 := fun m hm => by
 obtain ⟨i1, i2, i3⟩ := h.at_ hm
 have := all_line ok.up cv.of (i := p) (j := idxR rows m.1) hp (by omega)
 rw [i2, i3] at this
 exact Rat.mul_le_mul_of_nonneg_right this (Rat.le_of_lt (h.vp hm))
theorem jensen {rows ms : List (R × R)} {s : R} (ok : RowsG rows) (cv : Cvx rows) (h : MxOk rows ms s) (hs : SpdOk s) (hb : Below (.tab rows) s) : val (powT rows s) ≤ mxQ rows ms := by
 obtain ⟨p, hp, _, _, e⟩ := piece_g ok hs hb
 have := wq_le (mx_each ok cv h hp)
 rw [mx_line h] at this
 rw [e]
 exact this
def fstI (rows ms : List (R × R)) : Nat := idxR rows (ms.getD 0 rowD).1
def lstI (rows ms : List (R × R)) : Nat := idxR rows (ms.getD (ms.length - 1) rowD).1
def innR (rows ms : List (R × R)) : List (R × R) := (rows.drop (fstI rows ms)).take (lstI rows ms + 1 - fstI rows ms)
def lnR (rows ms : List (R × R)) (r : R × R) : R := lineR (rows.getD (fstI rows ms) rowD) (rows.getD (lstI rows ms) rowD) r.1
def strM (rows ms : List (R × R)) : Bool := decide (ms.length = 1) || decide ((innR rows ms).map (lnR rows ms) = (innR rows ms).map fun r => r.2)
theorem map_eq_iff {α β : Type} {f g : α -> β} : ∀ {l : List α}, l.map f = l.map g ↔ ∀ a ∈ l, f a = g a
 | [] => Iff.intro (fun _ _ h => absurd h List.not_mem_nil) (fun _ => rfl)
 | x :: t => by
  rw [List.map_cons, List.map_cons]
  constructor
  ·intro h a ha
   injection h with h1 h2
   rcases List.mem_cons.mp ha with z | z
   ·rw [z]; exact h1
   ·exact map_eq_iff.mp h2 a z
  ·intro h
   rw [h x List.mem_cons_self, map_eq_iff.mpr fun a ha => h a (List.mem_cons_of_mem _ ha)]
theorem inn_iff {rows : List (R × R)} {a b : Nat} {r : R × R} : r ∈ (rows.drop a).take (b + 1 - a) ↔ ∃ j, a ≤ j /\ j ≤ b /\ rows[j]? = some r := by
 constructor
 ·intro h
  obtain ⟨i, hi⟩ := List.getElem?_of_mem h
  rw [List.getElem?_take] at hi
  split at hi
  ·rename_i c
   rw [List.getElem?_drop] at hi
   exact ⟨a + i, by omega, by omega, hi⟩
  ·cases hi
 ·rintro ⟨j, h1, h2, h3⟩
  refine List.mem_of_getElem? (i := j - a) ?_
  rw [List.getElem?_take, if_pos (by omega), List.getElem?_drop, show a + (j - a) = j by omega]
  exact h3
structure Ends (rows ms : List (R × R)) (s : R) (a b : Nat) : Prop where
 ab : a < b
 bn : b < rows.length
 mid : ∀ m ∈ ms, a ≤ idxR rows m.1 /\ idxR rows m.1 ≤ b
 lo : Sv rows a < val s
 hi : val s < Sv rows b
 fa : ∃ m ∈ ms, idxR rows m.1 = a
 fb : ∃ m ∈ ms, idxR rows m.1 = b
theorem wq_zero {α : Type} : ∀ l : List α, wq (fun _ => (0 : Rat)) l = 0
 | [] => rfl
 | _ :: t => by show (0 : Rat) + wq _ t = 0; rw [wq_zero t]; grind
theorem idx_val {rows : List (R × R)} (ok : RowsG rows) {i j : Nat} (hi : i < rows.length) (hj : j < rows.length) : i < j ↔ Sv rows i < Sv rows j :=
 ⟨fun h => lt_of_idx ok.up h (by omega), fun h => idx_of_lt ok.up (by omega) h⟩
theorem ends {rows ms : List (R × R)} {s : R} (ok : RowsG rows) (h : MxOk rows ms s) (h2 : 2 ≤ ms.length) : Ends rows ms s (fstI rows ms) (lstI rows ms) := by
 obtain ⟨m0, e0⟩ : ∃ m, ms[0]? = some m := ⟨_, List.getElem?_eq_getElem (by omega)⟩
 obtain ⟨m1, e1⟩ : ∃ m, ms[ms.length - 1]? = some m := ⟨_, List.getElem?_eq_getElem (by omega)⟩
 have mm0 := List.mem_of_getElem? e0
 have mm1 := List.mem_of_getElem? e1
 have ea : fstI rows ms = idxR rows m0.1 := by unfold fstI; rw [getD_at e0]
 have eb : lstI rows ms = idxR rows m1.1 := by unfold lstI; rw [getD_at e1]
 rw [ea, eb]
 obtain ⟨a1, a2, a3⟩ := h.at_ mm0
 obtain ⟨b1, b2, b3⟩ := h.at_ mm1
 have px : ∀ m ∈ ms, 0 < m.1.2 := fun m hm => by
  obtain ⟨r, mr, f⟩ := h.has m hm
  rw [← f]; exact (ok.sp r mr).pos
 have lt_at : ∀ {i j : Nat} {x y : R × R}, i < j -> ms[i]? = some x -> ms[j]? = some y -> val x.1 < val y.1 := fun {i j x y} hij hx hy => by
  obtain ⟨l1, f1⟩ := List.getElem?_eq_some_iff.mp hx
  obtain ⟨l2, f2⟩ := List.getElem?_eq_some_iff.mp hy
  have := List.pairwise_iff_getElem.mp h.inc i j l1 l2 hij
  rw [f1, f2] at this
  exact (val_less (px x (List.mem_of_getElem? hx)) (px y (List.mem_of_getElem? hy))).mp this
 have l01 := lt_at (show 0 < ms.length - 1 by omega) e0 e1
 have lo_ : ∀ m ∈ ms, val m0.1 ≤ val m.1 := fun m hm => by
  obtain ⟨i, hi⟩ := List.getElem?_of_mem hm
  by_cases z : i = 0
  ·rw [z, e0] at hi; cases hi; exact Rat.le_refl
  ·exact Rat.le_of_lt (lt_at (by omega) e0 hi)
 have hi_ : ∀ m ∈ ms, val m.1 ≤ val m1.1 := fun m hm => by
  obtain ⟨i, hi⟩ := List.getElem?_of_mem hm
  have il := (List.getElem?_eq_some_iff.mp hi).1
  by_cases z : i = ms.length - 1
  ·rw [z, e1] at hi; cases hi; exact Rat.le_refl
  ·exact Rat.le_of_lt (lt_at (by omega) hi e1)
 refine ⟨(idx_val ok a1 b1).mpr (by rw [a2, b2]; exact l01), b1, fun m hm => ?_, ?_, ?_, ⟨m0, mm0, rfl⟩, ⟨m1, mm1, rfl⟩⟩
 ·obtain ⟨c1, c2, c3⟩ := h.at_ hm
  constructor
  ·refine Nat.le_of_not_lt fun z => ?_
   have := (idx_val ok c1 a1).mp z
   rw [a2, c2] at this
   have := lo_ m hm
   grind
  ·refine Nat.le_of_not_lt fun z => ?_
   have := (idx_val ok b1 c1).mp z
   rw [b2, c2] at this
   have := hi_ m hm
   grind
 ·rw [a2]
  have q : ∀ m ∈ ms, (0 : Rat) ≤ (0 + 1 * (val m.1 - val m0.1)) * val m.2 := fun m hm => Rat.mul_nonneg (by have := lo_ m hm; grind) (Rat.le_of_lt (h.vp hm))
  have t := wq_le q
  rw [wq_zero, mx_line h] at t
  apply Classical.byContradiction
  intro n
  have e : wq (fun _ => (0 : Rat)) ms = wq (fun m => (0 + 1 * (val m.1 - val m0.1)) * val m.2) ms := by rw [wq_zero, mx_line h]; grind
  have z := wq_eq q e m1 mm1
  have p1 := Rat.mul_pos (show 0 < 0 + 1 * (val m1.1 - val m0.1) by grind) (h.vp mm1)
  grind
 ·rw [b2]
  have q : ∀ m ∈ ms, (0 : Rat) ≤ (0 + (-1) * (val m.1 - val m1.1)) * val m.2 := fun m hm => Rat.mul_nonneg (by have := hi_ m hm; grind) (Rat.le_of_lt (h.vp hm))
  have t := wq_le q
  rw [wq_zero, mx_line h] at t
  apply Classical.byContradiction
  intro n
  have e : wq (fun _ => (0 : Rat)) ms = wq (fun m => (0 + (-1) * (val m.1 - val m1.1)) * val m.2) ms := by rw [wq_zero, mx_line h]; grind
  have z := wq_eq q e m0 mm0
  have p1 := Rat.mul_pos (show 0 < 0 + (-1) * (val m0.1 - val m1.1) by grind) (h.vp mm0)
  grind
theorem row_line {rows : List (R × R)} (ok : RowsG rows) {a b j : Nat} {r : R × R} (hab : a < b) (hb : b < rows.length) (hr : rows[j]? = some r) :
  lineR (rows.getD a rowD) (rows.getD b rowD) r.1 = r.2 ↔ Pv rows a + (Pv rows b - Pv rows a) / (Sv rows b - Sv rows a) * (Sv rows j - Sv rows a) = Pv rows j := by
 obtain ⟨ra, ea⟩ : ∃ x, rows[a]? = some x := ⟨_, List.getElem?_eq_getElem (by omega)⟩
 obtain ⟨rb, eb⟩ : ∃ x, rows[b]? = some x := ⟨_, List.getElem?_eq_getElem hb⟩
 have g := slG ok hab ea eb
 have mr := List.mem_of_getElem? hr
 rw [getD_at ea, getD_at eb, Sv_at ea, Sv_at eb, Pv_at ea, Pv_at eb, Sv_at hr, Pv_at hr]
 have v := line_val g (ok.sp r mr).pos
 rw [← v]
 refine ⟨fun e => by rw [e], fun e => ?_⟩
 have m := minus_red (ok.sp r mr).pos g.a1.pos
 have t : 0 < (timesR (slopeR ra rb) (minusR r.1 ra.1)).2 := (mkR_red (Int.mul_pos g.sl.pos m.pos)).pos
 exact val_inj (mkR_red (Int.mul_pos g.a2.pos t)) (wred (ok.pw r mr)) e
theorem str_iff {rows ms : List (R × R)} {s : R} (ok : RowsG rows) (cv : Cvx rows) (h : MxOk rows ms s) (hs : SpdOk s) (hb : Below (.tab rows) s) : (mxQ rows ms = val (powT rows s)) ↔ strM rows ms = true := by
 obtain ⟨p, hp, p1, p2, e⟩ := piece_g ok hs hb
 have n2 := ok.n2
 by_cases c : ms.length = 1
 ·refine ⟨fun _ => by unfold strM; rw [decide_eq_true c]; rfl, fun _ => ?_⟩
  match ms, c, h with
  | [m], _, h =>
   have w : val m.2 + 0 = 1 := h.whole
   have v : val m.1 * val m.2 + 0 = val s := h.mean
   have w1 : val m.2 = 1 := by grind
   have v1 : val s = val m.1 := by rw [← v, w1]; grind
   obtain ⟨i1, i2, i3⟩ := h.at_ List.mem_cons_self
   show val (pwAt rows m.1) * val m.2 + 0 = _
   rw [e, w1, v1, ← i2, ← i3]
   rw [v1, ← i2] at p1 p2
   have q1 : p ≤ idxR rows m.1 := Nat.le_of_not_lt fun z => by
    have := lt_of_idx ok.up z (by omega)
    grind
   have q2 : idxR rows m.1 ≤ p + 1 := Nat.le_of_not_lt fun z => by
    have := lt_of_idx ok.up z (by omega)
    grind
   rcases (show idxR rows m.1 = p ∨ idxR rows m.1 = p + 1 by omega) with z | z
   ·rw [z]; grind
   ·rw [z]
    have := sl_eq (p := Pv rows) (ok.up p hp)
    grind
 have c2 : 2 ≤ ms.length := by have := h.ne; omega
 have en := ends ok h c2
 have es : strM rows ms = decide ((innR rows ms).map (lnR rows ms) = (innR rows ms).map fun r => r.2) := by unfold strM; rw [decide_eq_false c]; rfl
 rw [es, decide_eq_true_iff, map_eq_iff]
 unfold innR lnR
 generalize fstI rows ms = a at en ⊢
 generalize lstI rows ms = b at en ⊢
 have ab := en.ab
 have bn := en.bn
 have sab := lt_of_idx ok.up ab (by omega)
 constructor
 ·intro q r hr
  obtain ⟨j, j1, j2, hj⟩ := inn_iff.mp hr
  rw [row_line ok ab bn hj]
  have each := mx_each ok cv h hp
  have eq : wq (fun m => (Pv rows p + sl (Sv rows) (Pv rows) p * (val m.1 - Sv rows p)) * val m.2) ms = mxQ rows ms := by rw [mx_line h, q, e]
  have on : ∀ m ∈ ms, Pv rows (idxR rows m.1) = Pv rows p + sl (Sv rows) (Pv rows) p * (Sv rows (idxR rows m.1) - Sv rows p) := fun m hm => by
   have z := wq_eq each eq m hm
   obtain ⟨i1, i2, i3⟩ := h.at_ hm
   rw [i2, i3]
   have vp := h.vp hm
   generalize val m.2 = u at *
   generalize val (pwAt rows m.1) = v at *
   generalize sl (Sv rows) (Pv rows) p = g at *
   have : (v - (Pv rows p + g * (val m.1 - Sv rows p))) * u = 0 := by grind
   rcases Rat.mul_eq_zero.mp this with y | y
   ·grind
   ·grind
  obtain ⟨ma, hma, ea⟩ := en.fa
  obtain ⟨mb, hmb, eb⟩ := en.fb
  have oa := on ma hma
  have ob := on mb hmb
  rw [ea] at oa
  rw [eb] at ob
  have up := chord_up ok.up cv.of (by omega) j1 j2 (by omega) ab oa ob
  have dn := all_line ok.up cv.of (i := p) (j := j) hp (by omega)
  have ej : Pv rows j = Pv rows p + sl (Sv rows) (Pv rows) p * (Sv rows j - Sv rows p) := Rat.le_antisymm up dn
  rw [ej, oa, ob]
  have nz : Sv rows b - Sv rows a ≠ 0 := by grind
  generalize sl (Sv rows) (Pv rows) p = g at *
  generalize Sv rows b = B at *
  generalize Sv rows a = A at *
  generalize Sv rows j = J at *
  generalize Sv rows p = S at *
  generalize Pv rows p = P at *
  have : P + g * (B - S) - (P + g * (A - S)) = g * (B - A) := by grind
  rw [this]
  have : g * (B - A) / (B - A) = g := by grind
  rw [this]
  grind
 ·intro q
  have on : ∀ j, a ≤ j -> j ≤ b -> Pv rows a + (Pv rows b - Pv rows a) / (Sv rows b - Sv rows a) * (Sv rows j - Sv rows a) = Pv rows j := fun j j1 j2 => by
   obtain ⟨r, er⟩ : ∃ x, rows[j]? = some x := ⟨_, List.getElem?_eq_getElem (by omega)⟩
   exact (row_line ok ab bn er).mp (q r (inn_iff.mpr ⟨j, j1, j2, er⟩))
  generalize (Pv rows b - Pv rows a) / (Sv rows b - Sv rows a) = g at on
  have hlo := en.lo
  have hhi := en.hi
  have pa : a < p + 1 := idx_of_lt ok.up (by omega) (by grind)
  have pb : p < b := idx_of_lt ok.up (by omega) (by grind)
  have o1 := on p (by omega) (by omega)
  have o2 := on (p + 1) (by omega) (by omega)
  have m : mxQ rows ms = wq (fun m => (Pv rows a + g * (val m.1 - Sv rows a)) * val m.2) ms := by
   refine wq_congr fun m hm => ?_
   obtain ⟨i1, i2, i3⟩ := h.at_ hm
   have := on _ (en.mid m hm).1 (en.mid m hm).2
   rw [i2, i3] at this
   rw [this]
  rw [m, mx_line h, e]
  have up := ok.up p hp
  have s2 := sl_eq (p := Pv rows) up
  have nz : Sv rows (p + 1) - Sv rows p ≠ 0 := by grind
  have eg : sl (Sv rows) (Pv rows) p = g := by
   unfold sl
   rw [← o1, ← o2]
   generalize Sv rows (p + 1) = B at *
   generalize Sv rows p = A at *
   have : Pv rows a + g * (B - Sv rows a) - (Pv rows a + g * (A - Sv rows a)) = g * (B - A) := by grind
   rw [this]
   grind
  rw [eg, ← o1]
  grind
theorem row_uniq {rows : List (R × R)} (h : RowsG rows) {i j : Nat} {a b : R × R} (ha : rows[i]? = some a) (hb : rows[j]? = some b) (e : a.1 = b.1) : i = j := by
 have self : ∀ r : R, lessR r r = false := fun r => less_not.mpr (Int.le_refl _)
 rcases Nat.lt_trichotomy i j with l | l | l
 ·have := inc_at h.inc l ha hb
  rw [e, self] at this; cases this
 ·exact l
 ·have := inc_at h.inc l hb ha
  rw [e, self] at this; cases this
theorem idx_row {rows : List (R × R)} (h : RowsG rows) {i : Nat} {r : R × R} (e : rows[i]? = some r) : idxR rows r.1 = i := by
 obtain ⟨q, hq, eq⟩ := idx_at (show HasR rows r.1 from ⟨r, List.mem_of_getElem? e, rfl⟩)
 exact row_uniq h hq e eq
theorem val_one : val ((1, 1) : R) = 1 := by
 show ((1 : Int) : Rat) / ((1 : Int) : Rat) = 1
 rw [show ((1 : Int) : Rat) = 1 from rfl]
 grind
theorem one_wf : Wf 1 ((1, 1) : R) := ⟨by decide, by decide, by decide, by decide⟩
theorem sum_parts {rows ms : List (R × R)} {s : R} (h : MxOk rows ms s) : sumR (ms.map fun m => m.2) = (1, 1) := by
 have p : ∀ r ∈ ms.map (fun m : R × R => m.2), 0 < r.2 := fun r hr => by obtain ⟨m, hm, rfl⟩ := List.mem_map.mp hr; exact h.bp m hm
 refine val_inj (sumR_red p) (wred one_wf) ?_
 rw [sumR_val p, wq_map, val_one]
 exact h.whole
theorem sum_mean {rows ms : List (R × R)} {s : R} (ok : RowsG rows) (h : MxOk rows ms s) (hs : Red s) : sumR (ms.map fun m => timesR m.1 m.2) = s := by
 have px : ∀ m ∈ ms, 0 < m.1.2 := fun m hm => by
  obtain ⟨r, mr, f⟩ := h.has m hm
  rw [← f]; exact (ok.sp r mr).pos
 have p : ∀ r ∈ ms.map (fun m : R × R => timesR m.1 m.2), 0 < r.2 := fun r hr => by obtain ⟨m, hm, rfl⟩ := List.mem_map.mp hr; exact (mkR_red (Int.mul_pos (px m hm) (h.bp m hm))).pos
 refine val_inj (sumR_red p) hs ?_
 rw [sumR_val p, wq_map, ← h.mean]
 exact wq_congr fun m hm => val_times (px m hm) (h.bp m hm)
theorem ask_near {rows ms : List (R × R)} {s : R} (h : askM rows s ms = none) : farB rows ms = false := by
 unfold askM at h
 split at h
 ·cases h
 ·split at h
  ·cases h
  ·unfold endO at h
   split at h
   ·split at h
    ·cases h
    ·rename_i c
     cases z : farB rows ms with
     | false => rfl
     | true => exact absurd z c
   ·cases h
theorem ask_none {rows ms : List (R × R)} {s : R} (ok : RowsG rows) (h : MxOk rows ms s) (hs : Red s) (hf : farB rows ms = false) : askM rows s ms = none := by
 have e1 : spdO rows ms = none := by
  unfold spdO spdX
  rw [find_no fun j hj => ?_]
  ·rfl
  ·obtain ⟨m, hm⟩ : ∃ m, ms[j]? = some m := ⟨_, List.getElem?_eq_getElem hj⟩
   unfold badL
   rw [getD_at hm, show hasB rows m.1 = true from has_any.mpr (h.has m (List.mem_of_getElem? hm))]
   by_cases c : 0 < j
   ·obtain ⟨m', hm'⟩ : ∃ m, ms[j - 1]? = some m := ⟨_, List.getElem?_eq_getElem (by omega)⟩
    rw [getD_at hm', decide_eq_true c]
    obtain ⟨l1, f1⟩ := List.getElem?_eq_some_iff.mp hm'
    obtain ⟨l2, f2⟩ := List.getElem?_eq_some_iff.mp hm
    have := List.pairwise_iff_getElem.mp h.inc (j - 1) j l1 l2 (by omega)
    rw [f1, f2] at this
    rw [this]; rfl
   ·rw [decide_eq_false c]; rfl
 have e2 : prtO ms = none := by
  have : prtX ms = none := by
   unfold prtX
   rw [find_no fun j hj => ?_]
   obtain ⟨m, hm⟩ : ∃ m, ms[j]? = some m := ⟨_, List.getElem?_eq_getElem hj⟩
   have mm := List.mem_of_getElem? hm
   unfold badP
   rw [getD_at hm, show lessR (0, 1) m.2 = true from less_iff.mpr (by have := h.pos m mm; show 0 * m.2.2 < m.2.1 * 1; omega)]
   rfl
  unfold prtO
  rw [this]
  show (if sumR (ms.map fun m => m.2) = (1, 1) then none else _) = none
  rw [if_pos (sum_parts h)]
 unfold askM
 rw [e1, e2]
 show endO rows s ms = none
 unfold endO
 rw [if_pos (sum_mean ok h hs), hf]
 rfl
theorem near_str {rows ms : List (R × R)} {s : R} (ok : RowsG rows) (h : MxOk rows ms s) (hf : farB rows ms = false) : strM rows ms = true := by
 unfold strM
 by_cases c : ms.length = 1
 ·rw [decide_eq_true c]; rfl
 have c2 : 2 ≤ ms.length := by have := h.ne; omega
 have en := ends ok h c2
 rw [decide_eq_false c, Bool.false_or, decide_eq_true_iff, map_eq_iff]
 have l2 : ms.length = 2 /\ (idxR rows (ms.getD 1 rowD).1 : Int) - (idxR rows (ms.getD 0 rowD).1 : Int) = 1 := by
  unfold farB at hf
  rw [decide_eq_false c, Bool.false_or] at hf
  have hf' : (decide (ms.length = 2) && decide ((idxR rows (ms.getD 1 rowD).1 : Int) - (idxR rows (ms.getD 0 rowD).1 : Int) = 1)) = true := by
   cases z : (decide (ms.length = 2) && decide ((idxR rows (ms.getD 1 rowD).1 : Int) - (idxR rows (ms.getD 0 rowD).1 : Int) = 1)) with
   | true => rfl
   | false => rw [z] at hf; cases hf
  rw [Bool.and_eq_true, decide_eq_true_iff, decide_eq_true_iff] at hf'
  exact hf'
 have eb : lstI rows ms = fstI rows ms + 1 := by
  unfold lstI fstI
  rw [l2.1]
  have := l2.2
  show idxR rows (ms.getD 1 rowD).1 = _
  omega
 unfold innR lnR
 rw [eb]
 rw [eb] at en
 generalize fstI rows ms = a at en ⊢
 have bn := en.bn
 intro r hr
 obtain ⟨j, j1, j2, hj⟩ := inn_iff.mp hr
 rw [row_line ok (Nat.lt_succ_self a) bn hj]
 have up := ok.up a (by omega)
 have nz : Sv rows (a + 1) - Sv rows a ≠ 0 := by grind
 rcases (show j = a ∨ j = a + 1 by omega) with z | z
 ·rw [z]; grind
 ·rw [z]; grind
theorem part_g {rows : List (R × R)} (h : RowsG rows) {i : Nat} {lo hi : R × R} {s : R} (hs : SpdOk s) (e1 : rows[i]? = some lo) (e2 : rows[i + 1]? = some hi) :
  Wf 413 (minusR s lo.1) /\ Wf 205 (minusR hi.1 lo.1) /\ (minusR hi.1 lo.1).1 ≠ 0 /\ Wf 618 (partR lo.1 hi.1 s) /\ Wf 620 (minusR (1, 1) (partR lo.1 hi.1 s)) := by
 have sl := slG h (Nat.lt_succ_self i) e1 e2
 have w1 : Wf 413 (minusR s lo.1) := minus_wf hs.wf sl.a1
 have wp : Wf 618 (partR lo.1 hi.1 s) := over_wf w1 sl.w1 sl.ne
 exact ⟨w1, sl.w1, sl.ne, wp, minus_wf one_wf wp⟩
structure PtB (ms : List (R × R)) (D : Nat) : Prop where
 p : 0 < D
 u : D ≤ 2 ^ 700
 d : ∀ m ∈ ms, Bq D 1 m.2
theorem mixM_ok {rows : List (R × R)} (h : RowsG rows) {s : R} (hs : SpdOk s) (hb : Below (.tab rows) s) :
  MxOk rows (mixM rows s) s /\ farB rows (mixM rows s) = false /\ (mixM rows s).length ≤ 12 /\ ∃ D, PtB (mixM rows s) D := by
 have pl := h.p_lt hs.wf.pos hb
 obtain ⟨r, er⟩ : ∃ r, rows[pOf rows s]? = some r := ⟨_, List.getElem?_eq_getElem pl⟩
 have mr := List.mem_of_getElem? er
 unfold mixM
 rw [getD_at er]
 by_cases c : r.1 = s
 ·rw [if_pos c]
  refine ⟨⟨by show 0 < 1; decide, fun m hm => ?_, List.pairwise_singleton _ _, fun m hm => ?_, fun m hm => ?_, ?_, ?_⟩, rfl, by show 1 ≤ 12; decide, 1, by decide, by decide, fun m hm => ?_⟩
  ·rw [List.mem_singleton] at hm; rw [hm]; exact ⟨r, mr, c⟩
  ·rw [List.mem_singleton] at hm; rw [hm]; show (0 : Int) < 1; decide
  ·rw [List.mem_singleton] at hm; rw [hm]; show (0 : Int) < 1; decide
  ·show val (1, 1) + 0 = 1
   rw [val_one]; grind
  ·show val s * val (1, 1) + 0 = val s
   rw [val_one]; grind
  ·rw [List.mem_singleton] at hm; rw [hm]; exact (⟨by decide, by decide, ⟨1, rfl⟩, by decide⟩ : Bq 1 1 ((1, 1) : R))
 ·rw [if_neg c]
  have c0 : pOf rows s ≠ 0 := fun z => by
   have e := zero_g h hs z
   obtain ⟨y0, ey⟩ := h.zero
   rw [z, ey] at er
   cases er
   exact c e.symm
  obtain ⟨r1, e1⟩ : ∃ r1, rows[pOf rows s - 1]? = some r1 := ⟨_, List.getElem?_eq_getElem (by omega)⟩
  have er' : rows[pOf rows s - 1 + 1]? = some r := by rw [show pOf rows s - 1 + 1 = pOf rows s by omega]; exact er
  rw [getD_at e1]
  have m1 := List.mem_of_getElem? e1
  obtain ⟨w1, w2, ne, wp, wq_⟩ := part_g h hs e1 er'
  have g := slG h (Nat.lt_succ_self _) e1 er'
  have c1 := cnt_p hs.wf.pos h.inc h.allP e1
  have c2 := cnt_p hs.wf.pos h.inc h.allP er
  rw [decide_eq_true (by omega)] at c1
  rw [decide_eq_false (by omega)] at c2
  have v1 := (val_less g.a1.pos hs.wf.pos).mp c1
  have v2 := (val_not g.b1.pos hs.wf.pos).mp c2
  have v3 : val s ≠ val r.1 := fun z => c (val_inj (wred g.b1) (wred hs.wf) z.symm)
  have ev : val (partR r1.1 r.1 s) = (val s - val r1.1) / (val r.1 - val r1.1) := by
   unfold partR
   rw [val_over w1.pos w2.pos ne, val_minus hs.wf.pos g.a1.pos, val_minus g.b1.pos g.a1.pos]
  have eq : val (minusR (1, 1) (partR r1.1 r.1 s)) = 1 - val (partR r1.1 r.1 s) := by rw [val_minus (by decide) wp.pos, val_one]
  generalize partR r1.1 r.1 s = pt at wp wq_ ev eq
  have nz : val r.1 - val r1.1 ≠ 0 := by grind
  have pm : val pt * (val r.1 - val r1.1) = val s - val r1.1 := by rw [ev]; grind
  have pp : 0 < val pt := by
   apply Classical.byContradiction
   intro n
   have := Rat.mul_le_mul_of_nonneg_right (Rat.not_lt.mp n) (show 0 ≤ val r.1 - val r1.1 by grind)
   grind
  have pq : val pt < 1 := by
   apply Classical.byContradiction
   intro n
   have := Rat.mul_le_mul_of_nonneg_right (Rat.not_lt.mp n) (show 0 ≤ val r.1 - val r1.1 by grind)
   grind
  have posOf : ∀ {x : R}, 0 < x.2 -> 0 < val x -> 0 < x.1 := fun {x} hx hv => by
   have := (val_less (r := (0, 1)) (q := x) (by decide) hx).mpr (by rw [val_z]; exact hv)
   rw [less_iff] at this
   have t : 0 * x.2 < x.1 * 1 := this
   omega
  have leOf : ∀ {x : R}, 0 < x.2 -> 0 < x.1 -> val x ≤ 1 -> x.1.natAbs ≤ 1 * x.2.natAbs := fun {x} hx hp hv => by
   have := (val_not (r := (1, 1)) (q := x) (by decide) hx).mpr (by rw [val_one]; exact hv)
   rw [less_not] at this
   have t : x.1 * 1 ≤ 1 * x.2 := this
   omega
  have p1 := posOf wp.pos pp
  have p2 := posOf wq_.pos (by rw [eq]; grind)
  have i1 := idx_row h e1
  have i2 := idx_row h er
  refine ⟨⟨by show 0 < 2; decide, fun m hm => ?_, ?_, fun m hm => ?_, fun m hm => ?_, ?_, ?_⟩, ?_, by show 2 ≤ 12; decide, pt.2.natAbs, ?_, ?_, fun m hm => ?_⟩
  ·simp only [List.mem_cons, List.not_mem_nil, or_false] at hm
   rcases hm with rfl | rfl
   ·exact ⟨r1, m1, rfl⟩
   ·exact ⟨r, mr, rfl⟩
  ·refine List.pairwise_cons.mpr ⟨fun b hb => ?_, List.pairwise_singleton _ _⟩
   rw [List.mem_singleton] at hb
   rw [hb]
   show lessR r1.1 r.1 = true
   exact inc_at h.inc (Nat.lt_succ_self _) e1 er'
  ·simp only [List.mem_cons, List.not_mem_nil, or_false] at hm
   rcases hm with rfl | rfl
   ·exact p2
   ·exact p1
  ·simp only [List.mem_cons, List.not_mem_nil, or_false] at hm
   rcases hm with rfl | rfl
   ·exact wq_.pos
   ·exact wp.pos
  ·show val (minusR (1, 1) pt) + (val pt + 0) = 1
   rw [eq]; grind
  ·show val r1.1 * val (minusR (1, 1) pt) + (val r.1 * val pt + 0) = val s
   rw [eq]; grind
  ·unfold farB
   show (!(false || (true && decide ((idxR rows r.1 : Int) - (idxR rows r1.1 : Int) = 1)))) = false
   rw [i1, i2, decide_eq_true (by omega)]
   rfl
  ·have := wp.pos
   omega
  ·exact Nat.le_trans (Nat.le_of_lt wp.bot) (Nat.pow_le_pow_right (by decide) (by decide))
  ·have ep : ((pt.2.natAbs : Nat) : Int) = pt.2 := by have := wp.pos; omega
   simp only [List.mem_cons, List.not_mem_nil, or_false] at hm
   rcases hm with rfl | rfl
   ·refine ⟨wq_.pos, wq_.cop, ?_, leOf wq_.pos p2 (by rw [eq]; grind)⟩
    rw [ep]
    have : (minusR (1, 1) pt).2 ∣ 1 * pt.2 := ⟨_, (Int.ediv_mul_cancel (Int.gcd_dvd_right _ _)).symm⟩
    rw [Int.one_mul] at this
    exact this
   ·exact ⟨wp.pos, wp.cop, by rw [ep]; exact Int.dvd_refl _, leOf wp.pos p1 (Rat.le_of_lt pq)⟩
theorem near_pow {rows ms : List (R × R)} {s : R} (ok : RowsG rows) (cv : Cvx rows) (h : MxOk rows ms s) (hs : SpdOk s) (hb : Below (.tab rows) s) (hf : farB rows ms = false) : mxQ rows ms = val (powT rows s) := (str_iff ok cv h hs hb).mpr (near_str ok h hf)
theorem mix_val {rows ms : List (R × R)} {s : R} (ok : RowsG rows) (h : MxOk rows ms s) : Red (sumR (mixS rows ms)) /\ val (sumR (mixS rows ms)) = mxQ rows ms := by
 have px : ∀ m ∈ ms, 0 < (pwAt rows m.1).2 := fun m hm => by
  obtain ⟨r, e, f⟩ := idx_at (h.has m hm)
  unfold pwAt; rw [getD_at e]; exact (ok.pw r (List.mem_of_getElem? e)).pos
 have p : ∀ r ∈ mixS rows ms, 0 < r.2 := fun r hr => by obtain ⟨m, hm, rfl⟩ := List.mem_map.mp hr; exact (mkR_red (Int.mul_pos (px m hm) (h.bp m hm))).pos
 refine ⟨sumR_red p, ?_⟩
 rw [sumR_val p]
 unfold mixS mxQ
 rw [wq_map]
 exact wq_congr fun m hm => val_times (px m hm) (h.bp m hm)
theorem add_dvd {D i n : Nat} {ps : List (Int × Int)} {r : R} (h : ∀ p ∈ ps, p.1 ∣ (D : Int)) (hr : r.2 ∣ (D : Int)) : ∀ p ∈ addP ps r.2 r.1, p.1 ∣ (D : Int) := fun p hp => by
 rcases (add_keys ps r.2 r.1 p.1).mp (List.mem_map.mpr ⟨p, hp, rfl⟩) with z | z
 ·obtain ⟨q, hq, e⟩ := List.mem_map.mp z
  rw [← e]
  exact h q hq
 ·rw [z]; exact hr
theorem grp_bq {D n i : Nat} {ps : List (Int × Int)} (ok : PsOk n i ps) (hd : ∀ p ∈ ps, p.1 ∣ (D : Int)) (hi : i ≤ 64) {q : Int × Int} (hq : q ∈ ps) : Bq D (64 * 2 ^ n) (mkR q.2 q.1) := by
 have b := (ok.bot q hq).1
 refine bq_mk b (hd q hq) (Nat.le_trans (ok.top q hq) ?_)
 refine Nat.le_trans (Nat.mul_le_mul_right _ hi) (Nat.le_mul_of_pos_right _ (by omega))
theorem acc_wf {D n j : Nat} {r : R} (h : Bq D (64 * 2 ^ n * j) r) (hj : j ≤ 64) (h0 : 0 < D) (hD : D < 2 ^ n) : Wf (2 * n + 12) r := by
 refine h.wf h0 (Nat.lt_of_lt_of_le hD (Nat.pow_le_pow_right (by decide) (by omega))) ?_
 have a : 64 * 2 ^ n * j ≤ 64 * 2 ^ n * 64 := Nat.mul_le_mul_left _ hj
 have b : 64 * 2 ^ n * j * D < 64 * 2 ^ n * 64 * 2 ^ n := Nat.lt_of_le_of_lt (Nat.mul_le_mul_right _ a) (Nat.mul_lt_mul_of_pos_left hD (Nat.mul_pos (Nat.mul_pos (by decide) (Nat.pow_pos (by decide))) (by decide)))
 refine Nat.lt_of_lt_of_le b ?_
 rw [show 2 * n + 12 = n + (n + 12) by omega, Nat.pow_add, Nat.pow_add, show (2 : Nat) ^ 12 = 4096 by decide]
 rw [show 64 * 2 ^ n * 64 * 2 ^ n = 2 ^ n * (2 ^ n * 4096) by rw [show (4096 : Nat) = 64 * 64 by decide]; ac_rfl]
 exact Nat.le_refl _
theorem sum_bq {D N : Nat} (hD : 0 < D) : ∀ {rs : List R}, (∀ r ∈ rs, Bq D N r) -> ∀ {a : R} {M : Nat}, Bq D M a -> Bq D (M + N * rs.length) (rs.foldl plusR a)
 | [], _, a, M, h => by simpa using h
 | r :: rs, hr, a, M, h => by
  have := sum_bq hD (fun q hq => hr q (List.mem_cons_of_mem _ hq)) (h.plus hD (hr r List.mem_cons_self))
  rw [List.foldl_cons, List.length_cons, Nat.mul_succ]
  refine this.mono (Nat.dvd_refl _) (by omega)
theorem bq_z {D : Nat} : Bq D 0 ((0, 1) : R) := ⟨by decide, by decide, ⟨(D : Int), by show (D : Int) = 1 * D; omega⟩, by show 0 ≤ _; exact Nat.zero_le _⟩
theorem sumR_bq {D N : Nat} (hD : 0 < D) {rs : List R} (h : ∀ r ∈ rs, Bq D N r) : Bq D (N * rs.length) (sumR rs) := by
 have := sum_bq hD h (bq_z (D := D))
 rw [Nat.zero_add] at this
 exact this
theorem sumR_nn {rs : List R} (h : ∀ r ∈ rs, 0 ≤ r.1 /\ 0 < r.2) : 0 ≤ (sumR rs).1 /\ 0 < (sumR rs).2 := by
 have go : ∀ (l : List R) (z : R), (∀ r ∈ l, 0 ≤ r.1 /\ 0 < r.2) -> 0 ≤ z.1 /\ 0 < z.2 -> 0 ≤ (l.foldl plusR z).1 /\ 0 < (l.foldl plusR z).2 := by
  intro l
  induction l with
  | nil => intro z _ hz; exact hz
  | cons r t ih =>
   intro z hl hz
   have hr := hl r List.mem_cons_self
   have pos := Int.mul_pos hz.2 hr.2
   exact ih (plusR z r) (fun q hq => hl q (List.mem_cons_of_mem _ hq)) ⟨mkR_nn (Int.add_nonneg (Int.mul_nonneg hz.1 (Int.le_of_lt hr.2)) (Int.mul_nonneg hr.1 (Int.le_of_lt hz.2))), (mkR_red pos).pos⟩
 exact go rs (0, 1) h ⟨Int.le_refl _, by decide⟩
def RlC : Rl -> Prop
 | .pow _ => True
 | .tab rows => Cvx rows
def RlS : Rl -> Prop
 | .pow k => 2 ≤ k /\ k ≤ 4
 | .tab rows => RowsS rows
theorem RlS.g {rl : Rl} (h : RlS rl) : RlG rl := by
 cases rl with
 | pow k => exact h
 | tab rows => exact RowsOk.g (show RowsS rows from h).ok
theorem pow_red {s : R} (h : Red s) (n : Nat) : Red (powR s n) := by cases n with | zero => exact ⟨by show (0 : Int) < 1; decide, by show Int.gcd 1 1 = 1; decide⟩ | succ n => exact times_red (pow_red h n) h
theorem val_pow_succ {s : R} (h : Red s) (n : Nat) : val (powR s (n + 1)) = val (powR s n) * val s := val_times (pow_red h n).pos h.pos
theorem support {rl : Rl} (ok : RlG rl) (oc : RlC rl) {s : R} (hs : SpdOk s) (hb : Below rl s) : ∃ g : Rat, ∀ o, SpdOk o -> Below rl o -> val (powM rl s) + g * (val o - val s) ≤ val (powM rl o) := by
 cases rl with
 | pow k =>
  have hk : 2 ≤ k /\ k ≤ 4 := ok
  have sn := val_nn hs.wf.pos hs.nn
  have p0 : ∀ z : R, val (powR z 0) = 1 := fun z => val_one
  have S := fun n => val_pow_succ (wred hs.wf) n
  rcases (show k = 2 ∨ k = 3 ∨ k = 4 by omega) with rfl | rfl | rfl
  ·refine ⟨2 * val s, fun o ho _ => ?_⟩
   have O := fun n => val_pow_succ (wred ho.wf) n
   show val (powR s 2) + _ ≤ val (powR o 2)
   rw [S 1, S 0, O 1, O 0, p0, p0]
   have := pow2_line (val o) (val s)
   grind
  ·refine ⟨3 * (val s * val s), fun o ho _ => ?_⟩
   have O := fun n => val_pow_succ (wred ho.wf) n
   have on := val_nn ho.wf.pos ho.nn
   show val (powR s 3) + _ ≤ val (powR o 3)
   rw [S 2, S 1, S 0, O 2, O 1, O 0, p0, p0]
   have := pow3_line on sn
   grind
  ·refine ⟨4 * (val s * val s * val s), fun o ho _ => ?_⟩
   have O := fun n => val_pow_succ (wred ho.wf) n
   have on := val_nn ho.wf.pos ho.nn
   show val (powR s 4) + _ ≤ val (powR o 4)
   rw [S 3, S 2, S 1, S 0, O 3, O 2, O 1, O 0, p0, p0]
   have := pow4_line on sn
   grind
 | tab rows =>
  have h' : RowsG rows := ok
  have c' : Cvx rows := oc
  obtain ⟨p, hp, p1, p2, e⟩ := piece_g h' hs hb
  refine ⟨sl (Sv rows) (Pv rows) p, fun o ho hbo => ?_⟩
  obtain ⟨m, hm, m1, m2, em⟩ := piece_g h' ho hbo
  have := on_piece h'.up c'.of hp hm m1 m2
  show val (powT rows s) + _ ≤ val (powT rows o)
  rw [e, em]
  grind
abbrev DP : Nat := (D0 * 12) ^ 4
abbrev NP : Nat := NR ^ 4
def fewM (rl : Rl) (zs : List R) : List (R × R) := ((0, 1), powM rl (0, 1)) :: zs.map fun s => (s, powM rl s)
theorem fewM_snoc (rl : Rl) (zs : List R) (z : R) : fewM rl (zs ++ [z]) = fewM rl zs ++ [(z, powM rl z)] := by unfold fewM; rw [List.map_append]; rfl
structure FsOk (rl : Rl) (zs : List R) : Prop where
 n1 : 1 ≤ zs.length
 n11 : zs.length ≤ 11
 ris : zs.Pairwise fun a b => lessR a b = true
 bq : ∀ z ∈ zs, Bq (D0 * 12) NR z
 pos : ∀ z ∈ zs, 0 < z.1
 bl : ∀ z ∈ zs, Below rl z
theorem bq_spd {z : R} (h : Bq (D0 * 12) NR z) (hn : 0 ≤ z.1) : SpdOk z := ⟨h.wf (by decide) (by decide) (by decide), hn⟩
theorem bq_102 {z : R} (h : Bq (D0 * 12) NR z) : Wf 102 z := h.wf (by decide) (by decide) (by decide)
theorem spd_zero : SpdOk (0, 1) := bq_spd bq_zero (Int.le_refl _)
theorem below_zero {rl : Rl} (h : RlS rl) : Below rl (0, 1) := by
 cases rl with
 | pow k => exact trivial
 | tab rows =>
  have h' : RowsOk rows := (show RowsS rows from h).ok
  have n2 := h'.n2
  have e : rows[rows.length - 1]? = some (rows[rows.length - 1]'(by omega)) := List.getElem?_eq_getElem _
  exact ⟨_, e, nn_less.mpr (row_nn h' e)⟩
theorem powR_bq {D N : Nat} {r : R} (h : Bq D N r) : ∀ k, Bq (D ^ k) (N ^ k) (powR r k)
 | 0 => by
  show Bq 1 1 ((1, 1) : R)
  exact ⟨by decide, by decide, ⟨1, by decide⟩, by decide⟩
 | k + 1 => by
  rw [Nat.pow_succ, Nat.pow_succ]
  exact (powR_bq h k).times h
theorem pow_bq {rl : Rl} (h : RlS rl) {z : R} (hz : Bq (D0 * 12) NR z) (hn : 0 ≤ z.1) (hb : Below rl z) : Bq DP NP (powM rl z) := by
 cases rl with
 | pow k =>
  have hk : 2 ≤ k /\ k ≤ 4 := h
  have kk : k.toNat ≤ 4 := by omega
  exact (powR_bq hz k.toNat).mono (Nat.pow_dvd_pow _ kk) (Nat.pow_le_pow_right (by decide) kk)
 | tab rows =>
  have hS : RowsS rows := h
  have h' := hS.ok
  have g := RowsOk.g h'
  have pl := g.p_lt hz.pos hb
  have dd : D0 * D0 ∣ DP := ⟨D0 * D0 * 20736, by decide⟩
  show Bq DP NP (powT rows z)
  unfold powT
  split
  ·have e : rows[0]? = some (rows[0]'(by omega)) := List.getElem?_eq_getElem _
   rw [getD_at e]
   exact (h'.pw _ (List.mem_of_getElem? e)).mono dd (by decide)
  ·rename_i c
   have e1 : rows[pOf rows z - 1]? = some (rows[pOf rows z - 1]'(by omega)) := List.getElem?_eq_getElem _
   have e2 : rows[pOf rows z]? = some (rows[pOf rows z]'pl) := List.getElem?_eq_getElem _
   have e2' : rows[pOf rows z - 1 + 1]? = some (rows[pOf rows z]'pl) := by rw [Nat.sub_add_cancel (by omega)]; exact e2
   have sb := hS.sl (pOf rows z - 1) (by omega)
   rw [slp_at e1 e2'] at sb
   rw [getD_at e1, getD_at e2]
   generalize rows[pOf rows z]'pl = hi at *
   generalize rows[pOf rows z - 1]'(by omega) = lo at *
   have m1 := List.mem_of_getElem? e1
   have bm : Bq (D0 * 12) (NR + NR) (minusR z lo.1) := Bq.minus (by decide) hz ((h'.sp lo m1).mono ⟨12, rfl⟩ (Nat.le_refl _))
   have bt := sb.times bm
   have bp : Bq (D0 * (D0 * 12)) (N2 + 12 * N0 * (NR + NR)) (plusR lo.2 (timesR (slopeR lo hi) (minusR z lo.1))) := Bq.plus (by decide) ((h'.pw lo m1).mono ⟨12, by decide⟩ (Nat.le_refl _)) bt
   exact bp.mono ⟨D0 * D0 * 1728, by decide⟩ (by decide)
theorem pow_wfS {rl : Rl} {s : R} (h : RlS rl) (hs : SpdOk s) (hb : Below rl s) : Wf 1300 (powM rl s) := by
 cases rl with
 | pow k =>
  have hk : 2 ≤ k /\ k ≤ 4 := h
  refine (pow_wf hs.wf k.toNat).mono ?_
  have : k.toNat ≤ 4 := by omega
  have : k.toNat * 310 ≤ 4 * 310 := Nat.mul_le_mul_right _ this
  omega
 | tab rows =>
  have hS : RowsS rows := h
  have h' := hS.ok
  have pl := (RowsOk.g h').p_lt hs.wf.pos hb
  show Wf 1300 (powT rows s)
  unfold powT
  split
  ·have e : rows[0]? = some (rows[0]'(by omega)) := List.getElem?_eq_getElem _
   rw [getD_at e]
   exact (wfP (h'.pw _ (List.mem_of_getElem? e))).mono (by decide)
  ·rename_i c
   have e1 : rows[pOf rows s - 1]? = some (rows[pOf rows s - 1]'(by omega)) := List.getElem?_eq_getElem _
   have e2 : rows[pOf rows s]? = some (rows[pOf rows s]'pl) := List.getElem?_eq_getElem _
   have e2' : rows[pOf rows s - 1 + 1]? = some (rows[pOf rows s]'pl) := by rw [Nat.sub_add_cancel (by omega)]; exact e2
   have sb := hS.sl (pOf rows s - 1) (by omega)
   rw [slp_at e1 e2'] at sb
   rw [getD_at e1, getD_at e2]
   have m1 := List.mem_of_getElem? e1
   have w : Wf 98 _ := sb.wf (by decide) (by decide) (by decide)
   exact (plus_wf (wfP (h'.pw _ m1)) (times_wf w (minus_wf hs.wf (wfS (h'.sp _ m1))))).mono (by decide)
section
variable {rl : Rl} {zs : List R}
theorem few_row (h : RlS rl) (f : FsOk rl zs) : ∀ r ∈ fewM rl zs, r.2 = powM rl r.1 /\ Bq (D0 * 12) NR r.1 /\ 0 ≤ r.1.1 /\ Below rl r.1 := fun r hr => by
 rcases List.mem_cons.mp hr with e | hr
 ·rw [e]; exact ⟨rfl, bq_zero, Int.le_refl _, below_zero h⟩
 ·obtain ⟨z, hz, rfl⟩ := List.mem_map.mp hr
  exact ⟨rfl, f.bq z hz, Int.le_of_lt (f.pos z hz), f.bl z hz⟩
theorem few_pw (h : RlS rl) (f : FsOk rl zs) : ∀ r ∈ fewM rl zs, Bq DP NP r.2 := fun r hr => by
 obtain ⟨a, b, c, d⟩ := few_row h f r hr
 rw [a]
 exact pow_bq h b c d
theorem few_g (h : RlS rl) (f : FsOk rl zs) : RowsG (fewM rl zs) := by
 have n1 := f.n1
 have n11 := f.n11
 have l : (fewM rl zs).length = zs.length + 1 := by unfold fewM; rw [List.length_cons, List.length_map]
 refine ⟨by omega, by omega, ?_, ⟨_, rfl⟩, fun r hr => bq_102 (few_row h f r hr).2.1, fun r hr => (few_pw h f r hr).wf (by decide) (by decide) (by decide)⟩
 refine List.pairwise_cons.mpr ⟨fun b hb => ?_, ?_⟩
 ·obtain ⟨z, hz, rfl⟩ := List.mem_map.mp hb
  have := f.pos z hz
  exact less_iff.mpr (by show 0 * z.2 < z.1 * 1; omega)
 ·rw [List.pairwise_map]
  exact f.ris
theorem few_cvx (h : RlS rl) (oc : RlC rl) (f : FsOk rl zs) : Cvx (fewM rl zs) := fun j hj => by
 have g := few_g h f
 obtain ⟨a, ea⟩ : ∃ x, (fewM rl zs)[j]? = some x := ⟨_, List.getElem?_eq_getElem (by omega)⟩
 obtain ⟨b, eb⟩ : ∃ x, (fewM rl zs)[j + 1]? = some x := ⟨_, List.getElem?_eq_getElem (by omega)⟩
 obtain ⟨c, ec⟩ : ∃ x, (fewM rl zs)[j + 1 + 1]? = some x := ⟨_, List.getElem?_eq_getElem (by omega)⟩
 obtain ⟨a1, a2, a3, a4⟩ := few_row h f a (List.mem_of_getElem? ea)
 obtain ⟨b1, b2, b3, b4⟩ := few_row h f b (List.mem_of_getElem? eb)
 obtain ⟨c1, c2, c3, c4⟩ := few_row h f c (List.mem_of_getElem? ec)
 have u1 := g.up j (by omega)
 have u2 := g.up (j + 1) (by omega)
 obtain ⟨k, hk⟩ := support h.g oc (bq_spd b2 b3) b4
 have ka := hk a.1 (bq_spd a2 a3) a4
 have kc := hk c.1 (bq_spd c2 c3) c4
 rw [← a1, ← b1] at ka
 rw [← c1, ← b1] at kc
 unfold sl
 rw [Sv_at ea, Sv_at eb] at u1
 rw [Sv_at eb, Sv_at ec] at u2
 rw [Sv_at ea, Sv_at eb, Sv_at ec, Pv_at ea, Pv_at eb, Pv_at ec]
 generalize val a.1 = x at *
 generalize val b.1 = y at *
 generalize val c.1 = z at *
 generalize val a.2 = p at *
 generalize val b.2 = q at *
 generalize val c.2 = r at *
 have i1 : (q - p) / (y - x) ≤ k := Rat.not_lt.mp fun n => by
  have := Rat.mul_lt_mul_of_pos_right n (show 0 < y - x by grind)
  have e : (q - p) / (y - x) * (y - x) = q - p := by grind
  grind
 have i2 : k ≤ (r - q) / (z - y) := Rat.not_lt.mp fun n => by
  have := Rat.mul_lt_mul_of_pos_right n (show 0 < z - y by grind)
  have e : (r - q) / (z - y) * (z - y) = r - q := by grind
  grind
 exact Rat.le_trans i1 i2
theorem few_below (h : RlS rl) (f : FsOk rl zs) {s : R} (hs : SpdOk s) (hb : Below (.tab (fewM rl zs)) s) : Below rl s := by
 obtain ⟨r, er, lr⟩ := hb
 obtain ⟨r1, r2, r3, r4⟩ := few_row h f r (List.mem_of_getElem? er)
 cases rl with
 | pow k => exact trivial
 | tab rows =>
  obtain ⟨q, eq, lq⟩ := r4
  have pq := ((show RowsS rows from h).ok.sp q (List.mem_of_getElem? eq)).pos
  refine ⟨q, eq, ?_⟩
  have v1 := (val_not r2.pos hs.wf.pos).mp lr
  have v2 := (val_not pq r2.pos).mp lq
  exact (val_not pq hs.wf.pos).mpr (Rat.le_trans v1 v2)
theorem few_chord (h : RlS rl) (oc : RlC rl) (f : FsOk rl zs) {s : R} (hs : SpdOk s) (hb : Below (.tab (fewM rl zs)) s) : val (powM rl s) ≤ val (powT (fewM rl zs) s) := by
 have g := few_g h f
 have bl := few_below h f hs hb
 obtain ⟨k, hk⟩ := support h.g oc hs bl
 obtain ⟨m, hm, m1, m2, em⟩ := piece_g g hs hb
 obtain ⟨a, ea⟩ : ∃ x, (fewM rl zs)[m]? = some x := ⟨_, List.getElem?_eq_getElem (by omega)⟩
 obtain ⟨b, eb⟩ : ∃ x, (fewM rl zs)[m + 1]? = some x := ⟨_, List.getElem?_eq_getElem (by omega)⟩
 obtain ⟨a1, a2, a3, a4⟩ := few_row h f a (List.mem_of_getElem? ea)
 obtain ⟨b1, b2, b3, b4⟩ := few_row h f b (List.mem_of_getElem? eb)
 have ka := hk a.1 (bq_spd a2 a3) a4
 have kb := hk b.1 (bq_spd b2 b3) b4
 rw [← a1] at ka
 rw [← b1] at kb
 have u := g.up m hm
 have se := sl_eq (p := Pv (fewM rl zs)) u
 rw [em]
 generalize sl (Sv (fewM rl zs)) (Pv (fewM rl zs)) m = w at *
 rw [Sv_at ea, Sv_at eb] at u
 rw [Sv_at ea, Sv_at eb, Pv_at ea, Pv_at eb] at se
 rw [Sv_at ea] at m1 ⊢
 rw [Sv_at eb] at m2
 rw [Pv_at ea]
 generalize val a.1 = x at *
 generalize val b.1 = y at *
 generalize val a.2 = p at *
 generalize val b.2 = q at *
 generalize val s = v at *
 generalize val (powM rl s) = z at *
 have t1 := Rat.mul_le_mul_of_nonneg_right ka (show 0 ≤ y - v by grind)
 have t2 := Rat.mul_le_mul_of_nonneg_right kb (show 0 ≤ v - x by grind)
 have t : z * (y - x) ≤ (p + w * (v - x)) * (y - x) := by
  rw [se] at t2
  grind
 apply Classical.byContradiction
 intro n
 have := Rat.mul_lt_mul_of_pos_right (Rat.not_le.mp n) (show 0 < y - x by grind)
 grind
end
theorem wq_mem {α : Type} {f : α -> Rat} : ∀ {l : List α}, (∀ m ∈ l, 0 ≤ f m) -> ∀ m ∈ l, f m ≤ wq f l
 | [], _, m, hm => by cases hm
 | a :: t, h, m, hm => by
  have h1 := h a List.mem_cons_self
  have h2 := wq_le (f := fun _ => (0 : Rat)) (g := f) (l := t) fun x hx => h x (List.mem_cons_of_mem _ hx)
  rw [wq_zero] at h2
  show f m ≤ f a + wq f t
  rcases List.mem_cons.mp hm with e | e
  ·rw [e]; grind
  ·have := wq_mem (l := t) (fun x hx => h x (List.mem_cons_of_mem _ hx)) m e
   grind
structure ShOk (ss : List R) : Prop where
 len : ss.length ≤ 12
 ne : ss ≠ []
 ok : ∀ r ∈ ss, PartOk r
theorem ShOk.bq {ss : List R} (h : ShOk ss) : Bq D0 (N0 * 12) (sumR ss) := (sumR_bq dpos fun r hr => (h.ok r hr).bq).mono (Nat.dvd_refl _) (Nat.mul_le_mul_left _ h.len)
theorem ShOk.pos {ss : List R} (h : ShOk ss) : 0 < (sumR ss).1 := sum_pos (N := N0) dpos (fun r hr => ⟨(h.ok r hr).bq, (h.ok r hr).pos⟩) h.ne
theorem ShOk.wf {ss : List R} (h : ShOk ss) : Wf 98 (sumR ss) := h.bq.wf (by decide) (by decide) (by decide)
def shD (ss : List R) : Nat := D0 * (sumR ss).1.natAbs
theorem shD_lt {ss : List R} (h : ShOk ss) : 0 < shD ss /\ shD ss < 2 ^ 170 := by
 have p := h.pos
 have l := h.bq.le
 have b := h.bq.bot dpos
 have l2 : (sumR ss).1.natAbs ≤ N0 * 12 * D0 := Nat.le_trans l (Nat.mul_le_mul_left _ b)
 unfold shD
 exact ⟨Nat.mul_pos dpos (by omega), Nat.lt_of_le_of_lt (Nat.mul_le_mul_left _ l2) (by decide)⟩
theorem wq_div {α : Type} (f : α -> Rat) (c : Rat) : ∀ l : List α, wq (fun m => f m / c) l = wq f l / c
 | [] => by show (0 : Rat) = 0 / c; grind
 | a :: t => by
  show f a / c + wq _ t = (f a + wq f t) / c
  rw [wq_div f c t]
  grind
def shM (zs ss : List R) : List (R × R) := (List.range zs.length).map fun i => (zs.getD i (0, 1), overR (ss.getD i (0, 1)) (sumR ss))
theorem map_range {α : Type} (l : List α) (d : α) : (List.range l.length).map (fun i => l.getD i d) = l := by
 refine List.ext_getElem? fun i => ?_
 rw [List.getElem?_map]
 by_cases c : i < l.length
 ·rw [List.getElem?_range c]
  show some (l.getD i d) = _
  rw [List.getD_eq_getElem?_getD, List.getElem?_eq_getElem c]; rfl
 ·rw [List.getElem?_eq_none (by rw [List.length_range]; omega), List.getElem?_eq_none (by omega)]; rfl
theorem shM_1 (zs ss : List R) : (shM zs ss).map (fun m => m.1) = zs := by
 unfold shM
 rw [List.map_map]
 exact map_range zs (0, 1)
theorem shM_2 {zs ss : List R} (h : zs.length = ss.length) : (shM zs ss).map (fun m => m.2) = ss.map fun r => overR r (sumR ss) := by
 unfold shM
 rw [List.map_map, h]
 have := congrArg (List.map fun r => overR r (sumR ss)) (map_range ss (0, 1))
 rw [List.map_map] at this
 exact this
theorem shM_ok {rows : List (R × R)} {zs ss : List R} (hz : ∀ z ∈ zs, HasR rows z) (ri : zs.Pairwise fun a b => lessR a b = true) (hs : ShOk ss) (hl : zs.length = ss.length) (bz : ∀ r ∈ rows, Bq (D0 * 12) NR r.1 /\ 0 ≤ r.1.1) :
  MxOk rows (shM zs ss) (sumR ((shM zs ss).map fun m => timesR m.1 m.2)) /\ (shM zs ss).length ≤ 12 /\ (∀ m ∈ shM zs ss, Bq (shD ss) 1 m.2) /\ SpdOk (sumR ((shM zs ss).map fun m => timesR m.1 m.2)) /\ (∀ m ∈ shM zs ss, Bq (D0 * 12 * shD ss) NR (timesR m.1 m.2)) := by
 have sp := hs.pos
 have sw := hs.wf
 have vS : val (sumR ss) = wq val ss := sumR_val fun r hr => (hs.ok r hr).bq.pos
 have vp : 0 < val (sumR ss) := vpos sw.pos sp
 have in1 : ∀ m ∈ shM zs ss, m.1 ∈ zs := fun m hm => by have := List.mem_map_of_mem (f := fun m : R × R => m.1) hm; rw [shM_1] at this; exact this
 have in2 : ∀ m ∈ shM zs ss, ∃ r ∈ ss, m.2 = overR r (sumR ss) := fun m hm => by
  have := List.mem_map_of_mem (f := fun m : R × R => m.2) hm
  rw [shM_2 hl] at this
  obtain ⟨r, hr, e⟩ := List.mem_map.mp this
  exact ⟨r, hr, e.symm⟩
 have vo : ∀ r ∈ ss, val (overR r (sumR ss)) = val r / val (sumR ss) := fun r hr => val_over (hs.ok r hr).bq.pos sw.pos (by omega)
 have ow : ∀ r ∈ ss, Wf 196 (overR r (sumR ss)) := fun r hr => over_wf (hs.ok r hr).wf sw (by omega)
 have rp : ∀ r ∈ ss, 0 < val r := fun r hr => vpos (hs.ok r hr).bq.pos (hs.ok r hr).pos
 have dpos' : ∀ {x y : Rat}, 0 < x -> 0 < y -> 0 < x / y := fun {x y} hx hy => by
  apply Classical.byContradiction
  intro n
  have := Rat.mul_le_mul_of_nonneg_right (Rat.not_lt.mp n) (Rat.le_of_lt hy)
  have e : x / y * y = x := by grind
  grind
 have posOf : ∀ {x : R}, 0 < x.2 -> 0 < val x -> 0 < x.1 := fun {x} hx hv => by
  have := (val_less (r := (0, 1)) (q := x) (by decide) hx).mpr (by rw [val_z]; exact hv)
  rw [less_iff] at this
  have t : 0 * x.2 < x.1 * 1 := this
  omega
 have op : ∀ r ∈ ss, 0 < (overR r (sumR ss)).1 := fun r hr => posOf (ow r hr).pos (by rw [vo r hr]; exact dpos' (rp r hr) vp)
 have bq1 : ∀ m ∈ shM zs ss, Bq (shD ss) 1 m.2 := fun m hm => by
  obtain ⟨r, hr, e⟩ := in2 m hm
  rw [e]
  have w := ow r hr
  have p := op r hr
  refine ⟨w.pos, w.cop, ?_, ?_⟩
  ·have := over_dvd (q := sumR ss) (hs.ok r hr).bq.pos sp (hs.ok r hr).bq.dvd
   unfold shD
   rw [Int.natCast_mul, show (((sumR ss).1.natAbs : Nat) : Int) = (sumR ss).1 by omega]
   exact this
  ·have le : val (overR r (sumR ss)) ≤ 1 := by
    rw [vo r hr]
    have := wq_mem (f := val) (fun x hx => Rat.le_of_lt (rp x hx)) r hr
    rw [← vS] at this
    apply Classical.byContradiction
    intro n
    have := Rat.mul_lt_mul_of_pos_right (Rat.not_le.mp n) vp
    have e : val r / val (sumR ss) * val (sumR ss) = val r := by grind
    grind
   have := (val_not (r := (1, 1)) (q := overR r (sumR ss)) (by decide) w.pos).mpr (by rw [val_one]; exact le)
   rw [less_not] at this
   have t : (overR r (sumR ss)).1 * 1 ≤ 1 * (overR r (sumR ss)).2 := this
   have := w.pos
   omega
 have len : (shM zs ss).length = zs.length := by unfold shM; rw [List.length_map, List.length_range]
 have l12 := hs.len
 have lpos : 0 < zs.length := by
  rw [hl]
  cases ss with
  | nil => exact absurd rfl hs.ne
  | cons a t => exact Nat.succ_pos _
 have bs : ∀ m ∈ shM zs ss, Bq (D0 * 12) NR m.1 /\ 0 ≤ m.1.1 := fun m hm => by
  obtain ⟨r, mr, f⟩ := hz m.1 (in1 m hm)
  rw [← f]; exact bz r mr
 have bt : ∀ m ∈ shM zs ss, Bq (D0 * 12 * shD ss) NR (timesR m.1 m.2) := fun m hm => by
  have := (bs m hm).1.times (bq1 m hm)
  rw [Nat.mul_one] at this
  exact this
 obtain ⟨d1, d2⟩ := shD_lt hs
 have tp : ∀ r ∈ (shM zs ss).map (fun m => timesR m.1 m.2), 0 ≤ r.1 /\ Bq (D0 * 12 * shD ss) NR r := fun r hr => by
  obtain ⟨m, hm, rfl⟩ := List.mem_map.mp hr
  obtain ⟨q, hq, e⟩ := in2 m hm
  refine ⟨mkR_nn (Int.mul_nonneg (bs m hm).2 ?_), bt m hm⟩
  rw [e]; exact Int.le_of_lt (op q hq)
 have DD : 0 < D0 * 12 * shD ss := Nat.mul_pos (by decide) d1
 have sb := sumR_bq DD fun r hr => (tp r hr).2
 rw [List.length_map, len] at sb
 have DL : D0 * 12 * shD ss < 2 ^ 240 := Nat.lt_of_lt_of_le (Nat.mul_lt_mul_of_pos_left d2 (by decide)) (by decide)
 have swf : Wf 310 (sumR ((shM zs ss).map fun m => timesR m.1 m.2)) := by
  refine (sb.mono (Nat.dvd_refl _) (Nat.mul_le_mul_left NR (show zs.length ≤ 12 by omega))).wf DD (Nat.lt_of_lt_of_le DL (Nat.pow_le_pow_right (by decide) (by decide))) ?_
  exact Nat.lt_of_lt_of_le (Nat.mul_lt_mul_of_pos_left DL (by decide)) (by decide)
 refine ⟨⟨by omega, fun m hm => hz _ (in1 m hm), ?_, fun m hm => ?_, fun m hm => (bq1 m hm).pos, ?_, ?_⟩, by omega, bq1, ⟨swf, ?_⟩, bt⟩
 ·have := ri
  rw [← shM_1 zs ss, List.pairwise_map] at this
  exact this
 ·obtain ⟨r, hr, e⟩ := in2 m hm
  rw [e]; exact op r hr
 ·rw [← wq_map val (fun m : R × R => m.2), shM_2 hl, wq_map, wq_congr vo, wq_div, ← vS]
  have u0 : val (sumR ss) ≠ 0 := fun z => by rw [z] at vp; exact absurd vp Rat.lt_irrefl
  clear vo ow rp op bq1 bt tp DD sb DL swf in1 in2 bs dpos' posOf
  generalize val (sumR ss) = u at u0
  grind
 ·rw [sumR_val fun r hr => (tp r hr).2.pos, wq_map]
  exact wq_congr fun m hm => (val_times (bs m hm).1.pos (bq1 m hm).pos).symm
 ·exact (sumR_nn fun r hr => ⟨(tp r hr).1, (tp r hr).2.pos⟩).1
theorem mx_below {rows ms : List (R × R)} {s : R} (ok : RowsG rows) (h : MxOk rows ms s) (hs : SpdOk s) : Below (.tab rows) s := by
 have n2 := ok.n2
 obtain ⟨r, er⟩ : ∃ x, rows[rows.length - 1]? = some x := ⟨_, List.getElem?_eq_getElem (by omega)⟩
 refine ⟨r, er, (val_not (ok.sp r (List.mem_of_getElem? er)).pos hs.wf.pos).mpr ?_⟩
 have q : ∀ m ∈ ms, (0 : Rat) ≤ (0 + (-1) * (val m.1 - val r.1)) * val m.2 := fun m hm => by
  refine Rat.mul_nonneg ?_ (Rat.le_of_lt (h.vp hm))
  obtain ⟨i1, i2, i3⟩ := h.at_ hm
  have : Sv rows (idxR rows m.1) ≤ Sv rows (rows.length - 1) := by
   by_cases c : idxR rows m.1 = rows.length - 1
   ·rw [c]; exact Rat.le_refl
   ·exact Rat.le_of_lt (lt_of_idx ok.up (by omega) (Nat.le_refl _))
  rw [i2, Sv_at er] at this
  grind
 have t := wq_le q
 rw [wq_zero, mx_line h] at t
 grind
def Seq (K : Fg) (H : Hp) (a : Addr) (xs : List V) : Prop := SqL K H a xs ∨ SqT K H a xs
def sp_total (K : Fg) : Sp := fun vs H Q _ => ∃ (a : Addr) (xs : List V) (rs : List R) (n D : Nat), vs = [.ref a] /\ Seq K H a xs /\ RVs K H xs rs /\ (∀ r ∈ rs, Wf n r /\ r.2 ∣ (D : Int)) /\ 0 < D /\ D < 2 ^ n /\ rs.length ≤ 64 /\ n ≤ 1300 /\ ∀ (v' : V) (H' : Hp), Same H H' -> RV K H' v' (sumR rs) -> Q v' H'
theorem als_rvs {K : Fg} {H : Hp} {xs : List V} {rs : List R} (h : Als (RV K H) xs rs) : RVs K H xs rs := ⟨h.len, fun i x r hx hr => by obtain ⟨d, hd, p⟩ := h.at hx; rw [hr] at hd; cases hd; exact p⟩
def sp_law_sum (K : Fg) : Sp := fun vs H Q _ => ∃ (a : Addr) (xs : List V) (rs : List R) (D N n : Nat), vs = [.ref a] /\ SqL K H a xs /\ Als (RV K H) xs rs /\ (∀ r ∈ rs, Bq D N r) /\ 0 < D /\ D < 2 ^ n /\ N * 64 * D < 2 ^ n /\ rs.length ≤ 64 /\ n ≤ 1900 /\ toR K H Q (sumR rs)
theorem sum_wfB {D N n : Nat} {rs : List R} (h : ∀ r ∈ rs, Bq D N r) (h0 : 0 < D) (h1 : D < 2 ^ n) (h2 : N * 64 * D < 2 ^ n) (hl : rs.length ≤ 64) : Wf n (sumR rs) :=
 (sumR_bq h0 h).wf h0 h1 (Nat.lt_of_le_of_lt (Nat.mul_le_mul_right _ (Nat.mul_le_mul_left _ hl)) h2)
theorem bq_wfB {D N n : Nat} {r : R} (h : Bq D N r) (h0 : 0 < D) (h1 : D < 2 ^ n) (h2 : N * 64 * D < 2 ^ n) : Wf n r :=
 h.wf h0 h1 (Nat.lt_of_le_of_lt (Nat.mul_le_mul_right _ (Nat.le_mul_of_pos_right _ (by decide))) h2)
def sp_is_whole (K : Fg) : Sp := fun vs H Q _ => ∃ (v : V) (d : PyData), vs = [v] /\ Deep K H v d /\ Q (.bl (wholeD d)) H
def sp_is_tuple_of (K : Fg) : Sp := fun vs H Q _ => ∃ (v : V) (d : PyData) (m : Nat), vs = [v, .int m] /\ Deep K H v d /\ Q (.bl (tupD m d)) H
def sp_is_ratio (K : Fg) : Sp := fun vs H Q _ => ∃ (v : V) (d : PyData), vs = [v] /\ Deep K H v d /\ Q (.bl (ratD d)) H
def sp_is_ratio_pair (K : Fg) : Sp := fun vs H Q _ => ∃ (v : V) (d : PyData), vs = [v] /\ Deep K H v d /\ Q (.bl (pairD d)) H
theorem wholeD_int {d : PyData} (h : wholeD d = true) : ∃ i, d = .int i := by
 cases d with
 | int i => exact ⟨i, rfl⟩
 | _ => cases h
theorem rat_x {x y : PyData} (h : wholeD x = false) : ratD (.tuple [x, y]) = false := by
 cases x with
 | int i => cases h
 | _ => rfl
theorem rat_y {x y : PyData} (h : wholeD y = false) : ratD (.tuple [x, y]) = false := by
 cases y with
 | int i => cases h
 | _ => cases x <;> rfl
theorem del_same {H H' : Hp} {x : Addr} {o0 : HO} (hx : H x = none) (kp : ∀ b o, b ≠ x -> upd H x o0 b = some o -> H' b = some o) : Same H (del H' x) := fun b o e => by
 have nb : b ≠ x := ne_of_none e hx
 unfold del
 rw [if_neg nb]
 exact kp b o nb (by rw [upd_ne nb]; exact e)
theorem del_at {H : Hp} {x d : Addr} (n : d ≠ x) : del H x d = H d := by unfold del; rw [if_neg n]
def sp_copied (_ : Fg) : Sp := fun vs H Q _ => ∃ v : V, vs = [v] /\ ((∃ i, v = .int i) ∨ ∃ x, v = .str x) /\ Q v H
structure TT (K : Fg) (H H' : Hp) : Prop where
 u : ∀ b o, (∀ ys, o ≠ .lst ys) -> H b = some o -> H' b = some o
theorem TT.same {K : Fg} {H H' : Hp} (s : Same H H') : TT K H H' := ⟨fun b o _ e => s b o e⟩
theorem TT.step {K : Fg} {t : Addr} {H H' : Hp} (s : Step t H H') : TT K H H' := ⟨fun b o n e => s.keep b o (fun z => by subst z; obtain ⟨xs, q⟩ := s.tp; rw [q] at e; exact n xs (Option.some.inj e).symm) e⟩
theorem TT.t {K : Fg} {H H' : Hp} (a : TT K H H') : Tst K H H' := fun p ys h => by
 rcases h with (h | ⟨ob, h⟩) | h
 ·exact .inl (.inl (a.u _ _ (fun _ z => nomatch z) h))
 ·exact .inl (.inr ⟨ob, a.u _ _ (fun _ z => nomatch z) h⟩)
 ·exact .inr h
def TabV (K : Fg) (H : Hp) (v : V) (rows : List (R × R)) : Prop := ∃ p q ob xs, v = .ref p /\ SqT K H p [.str (Str.ofString "table"), .ref q] /\ H q = some (.frz ob (.tup xs)) /\ ob.dict = none /\ Als (RowV K H) xs rows
theorem TabV.mono {K : Fg} {H H' : Hp} {v : V} {rows : List (R × R)} (h : TabV K H v rows) (t : TT K H H') : TabV K H' v rows := let ⟨p, q, ob, xs, e1, e2, e3, e4, e5⟩ := h; ⟨p, q, ob, xs, e1, t.t _ _ e2, t.u _ _ (fun _ z => nomatch z) e3, e4, e5.mono fun _ _ z => z.mono t.t⟩
theorem TabV.rl {K : Fg} {H : Hp} {v : V} {rows : List (R × R)} (h : TabV K H v rows) : RlV K H v (.tab rows) := let ⟨p, q, ob, xs, e1, e2, e3, e4, e5⟩ := h; ⟨p, q, xs, e1, e2, .inl (.inr ⟨ob, e3⟩), e5⟩
def itT : PyData -> List PyData
 | .tuple ds => ds
 | _ => []
def mixD : PyData -> Bool
 | .tuple ds => decide (0 < ds.length) && ds.all pairD
 | _ => false
structure MsOk (ms : List (R × R)) : Prop where
 len : ms.length ≤ 12
 pos : 0 < ms.length
 sp : ∀ m ∈ ms, Bq (D0 * 12) NR m.1
 bd : ∃ D, PtB ms D
theorem PtB.wf {ms : List (R × R)} {D : Nat} (h : PtB ms D) : ∀ m ∈ ms, Wf 701 m.2 := fun m hm => (h.d m hm).wf h.p (Nat.lt_of_le_of_lt h.u (Nat.pow_lt_pow_right (by decide) (by decide))) (by rw [Nat.one_mul]; exact Nat.lt_of_le_of_lt h.u (Nat.pow_lt_pow_right (by decide) (by decide)))
theorem MsOk.pt {ms : List (R × R)} (h : MsOk ms) : ∀ m ∈ ms, Wf 701 m.2 := let ⟨_, b⟩ := h.bd; b.wf
theorem tm_ok {ms : List (R × R)} {D : Nat} (h : MsOk ms) (hb : PtB ms D) : ∀ m ∈ ms, Wf 102 m.1 /\ Wf 803 (timesR m.1 m.2) /\ (timesR m.1 m.2).2 ∣ ((D0 * 12 * D : Nat) : Int) := fun m hm => by
 have q := (h.sp m hm).times (hb.d m hm)
 exact ⟨bq_102 (h.sp m hm), times_wf (bq_102 (h.sp m hm)) (hb.wf m hm), q.dvd⟩
theorem mixD_ok {ms : List (R × R)} (h : MsOk ms) : mixD (dMix ms) = true := by
 show (decide (0 < (ms.map dPr).length) && (ms.map dPr).all pairD) = true
 rw [List.length_map, decide_eq_true h.pos, Bool.true_and, List.all_map, List.all_eq_true]
 intro m hm
 have r1 : ∀ {n : Nat} {r : R}, Wf n r -> ratD (dR r) = true := fun {n r} h => by
  show (decide (1 ≤ r.2) && decide (Int.gcd r.1 r.2 = 1)) = true
  rw [decide_eq_true (show 1 ≤ r.2 from h.pos), decide_eq_true h.cop]; rfl
 show (ratD (dR m.1) && ratD (dR m.2)) = true
 rw [r1 (bq_102 (h.sp m hm)), r1 (h.pt m hm)]
 rfl
def sp_slope_between (K : Fg) : Sp := fun vs H Q _ => ∃ (v w : V) (a b : R × R), vs = [v, w] /\ RowV K H v a /\ RowV K H w b /\ SlG a b /\ toR K H Q (slopeR a b)
def sp_place_of (K : Fg) : Sp := fun vs H Q _ => ∃ (q : Addr) (v : V) (xs : List V) (rows : List (R × R)) (s : R), vs = [.ref q, v] /\ SqT K H q xs /\ Als (RowV K H) xs rows /\ RowsG rows /\ RV K H v s /\ SpdOk s /\ Below (.tab rows) s /\ Q (.int (pOf rows s)) H
def sp_top_of (K : Fg) : Sp := fun vs H Q _ => ∃ (v : V) (rl : Rl), vs = [v] /\ RlV K H v rl /\ RlG rl /\ (∀ k, rl = .pow k -> Q .non H) /\ ∀ rows x, rl = .tab rows -> RV K H x (topM rows) -> Q x H
def sp_is_beyond (K : Fg) : Sp := fun vs H Q _ => ∃ (v w : V) (rl : Rl) (s : R), vs = [v, w] /\ RlV K H v rl /\ RlG rl /\ RV K H w s /\ Wf 310 s /\ Q (.bl (beyM rl s)) H
def sp_power_at (K : Fg) : Sp := fun vs H Q _ => ∃ (v w : V) (rl : Rl) (s : R), vs = [v, w] /\ RlV K H v rl /\ RlG rl /\ RV K H w s /\ SpdOk s /\ Below rl s /\ toR K H Q (powM rl s)
def sp_law_part (K : Fg) : Sp := fun vs H Q _ => ∃ t s : Addr, vs = [.ref t] /\ Tape H t s /\ ∀ (v : V) (r : R) (H' : Hp), PartOk r -> Step t H H' -> Tape H' t s -> RV K H' v r -> Q v H'
def sp_law_table (K : Fg) : Sp := fun vs H Q _ => ∃ t s : Addr, vs = [.ref t] /\ Tape H t s /\ ∀ (v : V) (rows : List (R × R)) (H' : Hp), RowsS rows -> Cvx rows -> Step t H H' -> Tape H' t s -> RlV K H' v (.tab rows) -> Q v H'
def sp_law_rule (K : Fg) : Sp := fun vs H Q _ => ∃ t s : Addr, vs = [.ref t] /\ Tape H t s /\ ∀ (v : V) (rl : Rl) (H' : Hp), RlS rl -> RlC rl -> Step t H H' -> Tape H' t s -> RlV K H' v rl -> Q v H'
def sp_few_table (K : Fg) : Sp := fun vs H Q _ => ∃ (v : V) (a : Addr) (ys : List V) (rl : Rl) (zs : List R), vs = [v, .ref a] /\ RlV K H v rl /\ RlS rl /\ SqT K H a ys /\ Als (RV K H) ys zs /\ FsOk rl zs /\ ∀ (v' : V) (H' : Hp), Same H H' -> TabV K H' v' (fewM rl zs) -> Q v' H'
def sp_mixture (K : Fg) : Sp := fun vs H Q _ => ∃ (v w : V) (rows : List (R × R)) (s : R), vs = [v, w] /\ RlV K H v (.tab rows) /\ RowsG rows /\ RV K H w s /\ SpdOk s /\ Below (.tab rows) s /\ ∀ (u : V) (H' : Hp), Same H H' -> MixV K H' u (mixM rows s) -> Q u H'
def sp_row_numbers (K : Fg) : Sp := fun vs H Q _ => ∃ (v : V) (a : Addr) (rows : List (R × R)) (xs : List V) (zs : List R), vs = [v, .ref a] /\ RlV K H v (.tab rows) /\ rows.length ≤ 12 /\ SqL K H a xs /\ Als (RV K H) xs zs /\ zs.length ≤ 64 /\ ∀ (l : Addr) (H' : Hp), Same H H' -> H' l = some (.lst (zs.map (numV rows))) -> Q (.ref l) H'
def sp_mixed_power (K : Fg) : Sp := fun vs H Q _ => ∃ (v w : V) (rows ms : List (R × R)) (D : Nat), vs = [v, w] /\ RlV K H v (.tab rows) /\ RowsG rows /\ (∀ r ∈ rows, Bq DP NP r.2) /\ MixV K H w ms /\ ms.length ≤ 12 /\ (∀ m ∈ ms, HasR rows m.1) /\ PtB ms D /\ toR K H Q (sumR (mixS rows ms))
def sp_law_speeds (K : Fg) : Sp := fun vs H Q _ => ∃ (t s : Addr) (v : V) (rl : Rl), vs = [.ref t, v] /\ Tape H t s /\ RlV K H v rl /\ RlS rl /\ ∀ (a : Addr) (ys : List V) (zs : List R) (H' : Hp), FsOk rl zs -> Step t H H' -> Tape H' t s -> SqT K H' a ys -> Als (RV K H') ys zs -> Q (.ref a) H'
def sp_law_mix (K : Fg) : Sp := fun vs H Q _ => ∃ (t s l : Addr) (xs : List V) (zs₀ : List R), vs = [.ref t, .ref l] /\ Tape H t s /\ l ≠ t /\ l ≠ s /\ H l = some (.lst xs) /\ Als (RV K H) xs zs₀ /\ 1 ≤ zs₀.length /\ zs₀.length ≤ 12 /\ ∀ (w : V) (zs ss : List R) (H' : Hp), zs.Sublist zs₀ -> ShOk ss -> zs.length = ss.length -> Step t H H' -> Tape H' t s -> MixV K H' w (shM zs ss) -> Q w H'
def sp_law_straight (K : Fg) : Sp := fun vs H Q _ => ∃ (v x : V) (rows ms : List (R × R)) (s : R), vs = [v, x] /\ TabV K H v rows /\ RowsG rows /\ MixV K H x ms /\ MxOk rows ms s /\ ms.length ≤ 12 /\ ∀ H', Same H H' -> Q (.bl (strM rows ms)) H'
def sp_NoMix (_ : Fg) (C : Addr) : Sp := fun vs H Q _ => ∃ (a : Addr) (x : Str) (n : Int), vs = [.ref a, .str x, .int n] /\ H a = some (exO a C none) /\ ∀ (d : Addr) (H' : Hp), H d = none -> d ≠ a -> (∀ b o, b ≠ a -> H b = some o -> H' b = some o) -> H' a = some (exO a C (some d)) -> H' d = some (dO d [("number", .int n), ("word", .str x)]) -> Q .non H'
def sp_is_mix_shaped (K : Fg) : Sp := fun vs H Q _ => ∃ (v : V) (d : PyData), vs = [v] /\ Deep K H v d /\ (itT d).length ≤ 12 /\ ∀ H', Same H H' -> Q (.bl (mixD d)) H'
def errs (K : Fg) (C : Addr) (H : Hp) (E : XK) (f : Option (Str × Int)) : Prop := ∀ z n, f = some (z, n) -> ∀ (dd : Addr) (H' : Hp), Same H H' -> H' dd = some (dO dd [("number", .int n), ("word", .str z)]) -> E (.ref C) (some dd) H'
def sp_ask_speeds (K : Fg) (C : Addr) : Sp := fun vs H Q E => ∃ (v w : V) (rows ms : List (R × R)), vs = [v, w] /\ RlV K H v (.tab rows) /\ RowsG rows /\ MixV K H w ms /\ MsOk ms /\ (spdO rows ms = none -> ∀ H', Same H H' -> Q .non H') /\ errs K C H E (spdO rows ms)
def sp_ask_parts (K : Fg) (C : Addr) : Sp := fun vs H Q E => ∃ (w : V) (ms : List (R × R)), vs = [w] /\ MixV K H w ms /\ MsOk ms /\ (prtO ms = none -> ∀ H', Same H H' -> Q .non H') /\ errs K C H E (prtO ms)
def sp_are_near (K : Fg) : Sp := fun vs H Q _ => ∃ (v w : V) (rows ms : List (R × R)), vs = [v, w] /\ RlV K H v (.tab rows) /\ RowsG rows /\ MixV K H w ms /\ MsOk ms /\ (∀ m ∈ ms, HasR rows m.1) /\ ∀ H', Same H H' -> Q (.bl (!farB rows ms)) H'
def sp_mix_asked (K : Fg) (C : Addr) : Sp := fun vs H Q E => ∃ (v w x : V) (rows : List (R × R)) (s : R) (ms : List (R × R)), vs = [v, w, x] /\ RlV K H v (.tab rows) /\ RowsG rows /\ RV K H w s /\ MixV K H x ms /\ MsOk ms /\ (askM rows s ms = none -> ∀ H', Same H H' -> Q (.bl true) H') /\ errs K C H E (askM rows s ms)
def sp_law_lets (K : Fg) : Sp := fun vs H Q _ => ∃ (v w x : V) (rows : List (R × R)) (s : R) (ms : List (R × R)), vs = [v, w, x] /\ RlV K H v (.tab rows) /\ RowsG rows /\ RV K H w s /\ MixV K H x ms /\ MsOk ms /\ ∀ H', Same H H' -> Q (.bl (decide (askM rows s ms = none))) H'
theorem has_lt {rows : List (R × R)} (ok : RowsG rows) {x y : R} (hx : HasR rows x) (hy : HasR rows y) : lessR x y = decide (idxR rows x < idxR rows y) := by
 obtain ⟨r, er, fr⟩ := idx_at hx
 obtain ⟨q, eq, fq⟩ := idx_at hy
 obtain ⟨h1, e1⟩ := List.getElem?_eq_some_iff.mp er
 obtain ⟨h2, e2⟩ := List.getElem?_eq_some_iff.mp eq
 have pw := List.pairwise_iff_getElem.mp ok.inc
 have px : 0 < x.2 := by rw [← fr]; exact (ok.sp r (List.mem_of_getElem? er)).pos
 have py : 0 < y.2 := by rw [← fq]; exact (ok.sp q (List.mem_of_getElem? eq)).pos
 rcases Nat.lt_trichotomy (idxR rows x) (idxR rows y) with c | c | c
 ·rw [decide_eq_true c]
  have := pw _ _ h1 h2 c
  rw [e1, e2, fr, fq] at this
  exact this
 ·rw [decide_eq_false (by omega)]
  have exy : x = y := by rw [← fr, ← fq]; rw [c] at er; rw [er] at eq; cases eq; rfl
  rw [exy, less_not]
  exact Int.le_refl _
 ·rw [decide_eq_false (by omega)]
  have := pw _ _ h2 h1 c
  rw [e1, e2, fr, fq, less_iff] at this
  rw [less_not]
  omega
theorem lays_dR (zs : List R) : Lays (zs.map dR) := fun e he => by
 obtain ⟨z, _, rfl⟩ := List.mem_map.mp he
 exact ⟨dR_lay _, dR_depth _⟩
theorem any_dR (zs : List R) (z : R) : ((zs.map dR).any fun e => PyData.eqv e (dR z)) = decide (z ∈ zs) := by
 rw [List.any_map]
 have : (zs.any fun y => decide (y = z)) = decide (z ∈ zs) := by
  by_cases c : z ∈ zs
  ·rw [decide_eq_true c, List.any_eq_true]; exact ⟨z, c, decide_eq_true rfl⟩
  ·rw [decide_eq_false c, List.any_eq_false]
   intro y hy e
   exact c (of_decide_eq_true e ▸ hy)
 rw [← this]
 refine congrArg (List.any zs) (funext fun y => ?_)
 exact eqv_iff
theorem eqv_same (z : R) : PyData.eqv (dR z) (dR z) = true := by rw [eqv_iff]; exact decide_eq_true rfl
def FzOk (rl : Rl) (z : R) : Prop := Bq (D0 * 12) NR z /\ 0 < z.1 /\ Below rl z
theorem part_fz {rl : Rl} {k : Int} {r : R} (e : rl = .pow k) (h : PartOk r) : FzOk rl r := ⟨h.bq.mono ⟨12, rfl⟩ (by decide), h.pos, by rw [e]; exact trivial⟩
theorem top_fz {rows : List (R × R)} (h : RowsS rows) {r : R × R} (er : rows[rows.length - 1]? = some r) {k : Int} (h0 : 0 ≤ k) (h1 : k < 12) : FzOk (.tab rows) (timesR r.1 (mkR (1 + k) 12)) /\ Wf 35 (mkR (1 + k) 12) := by
 have n2 := h.ok.n2
 have b := h.ok.sp r (List.mem_of_getElem? er)
 have tb : Bq 12 1 (mkR (1 + k) 12) := bq_mk (by decide) (Int.dvd_refl _) (by omega)
 have bt := b.times tb
 rw [Nat.mul_one] at bt
 have rp : 0 < r.1.1 := by
  obtain ⟨y, ey⟩ := h.ok.zero
  have := inc_at h.ok.inc (show 0 < rows.length - 1 by omega) ey er
  rw [less_iff] at this
  have t : 0 * r.1.2 < r.1.1 * 1 := this
  omega
 have tp : 0 < (mkR (1 + k) 12).1 := mkR_pos (by omega) (by decide)
 refine ⟨⟨bt, mkR_pos (Int.mul_pos rp tp) (Int.mul_pos b.pos tb.pos), r, er, ?_⟩, tb.wf (by decide) (by decide) (by decide)⟩
 refine (val_not b.pos bt.pos).mpr ?_
 rw [val_times b.pos tb.pos, val_mk (by decide)]
 have v0 := vpos b.pos rp
 have q1 : (((1 + k : Int)) : Rat) / ((12 : Int) : Rat) ≤ 1 := by
  have : (((1 + k : Int)) : Rat) ≤ ((12 : Int) : Rat) := Rat.intCast_le_intCast.mpr (by omega)
  rw [show ((12 : Int) : Rat) = 12 from rfl] at this ⊢
  grind
 have := Rat.mul_le_mul_of_nonneg_left q1 (Rat.le_of_lt v0)
 grind
theorem eqvL : ∀ a b : List R, PyData.eqvAll (a.map dR) (b.map dR) = decide (a = b)
 | [], [] => rfl
 | [], _ :: _ => rfl
 | _ :: _, [] => rfl
 | x :: a, y :: b => by
  show (PyData.eqv (dR x) (dR y) && PyData.eqvAll (a.map dR) (b.map dR)) = decide (x :: a = y :: b)
  rw [eqvL a b, eqv_iff]
  by_cases h : x = y
  ·subst h
   rw [decide_eq_true (show x = x from rfl), Bool.true_and]
   exact decide_eq_decide.mpr ⟨fun z => by rw [z], fun z => by injection z⟩
  ·rw [decide_eq_false h, Bool.false_and]
   exact (decide_eq_false fun z => h (by injection z)).symm
theorem wf_sp {i : Nat} {r : R} (h : Bq D0 (i * N0) r) (hi : i ≤ 12) : Wf 98 r := (h.mono (N' := 12 * N0) ⟨1, rfl⟩ (Nat.mul_le_mul_right _ hi)).wf (by decide) (by decide) (by decide)
theorem wf_pw {i : Nat} {r : R} (h : Bq (D0 * D0) (N0 + i * (12 * N0 * N0)) r) (hi : i ≤ 12) : Wf 197 r := (h.mono (N' := N0 + 12 * (12 * N0 * N0)) ⟨1, by rw [Nat.mul_one]⟩ (Nat.add_le_add_left (Nat.mul_le_mul_right _ hi) _)).wf (by decide) (by decide) (by decide)
theorem idx_is {rows : List (R × R)} {z : R} {j : Nat} {e : PyData} (hz' : HasR rows z) (hj : ((rows.map fun r => r.1).map dR)[j]? = some e) (he : PyData.eqv e (dR z) = true) (hlt : ∀ m f, m < j -> ((rows.map fun r => r.1).map dR)[m]? = some f -> PyData.eqv f (dR z) = false) : j = idxR rows z := by
 obtain ⟨r0, e0, f0⟩ := idx_at hz'
 have l0 := idx_lt hz'
 have at_ : ∀ (m : Nat) (r : R × R), rows[m]? = some r -> ((rows.map fun r => r.1).map dR)[m]? = some (dR r.1) := fun m r h => by rw [List.getElem?_map, List.getElem?_map, h]; rfl
 rcases Nat.lt_trichotomy j (idxR rows z) with l | l | l
 ·exfalso
  obtain ⟨r, hr⟩ : ∃ r, rows[j]? = some r := ⟨_, List.getElem?_eq_getElem (by omega)⟩
  rw [at_ j r hr] at hj
  cases hj
  rw [eqv_iff] at he
  have nf := List.not_of_lt_findIdx (p := fun r : R × R => decide (r.1 = z)) (xs := rows) (i := j) l
  have hjj := (List.getElem?_eq_some_iff.mp hr).2
  rw [hjj] at nf
  rw [he] at nf
  exact absurd nf (by decide)
 ·exact l
 ·exfalso
  have := hlt (idxR rows z) _ l (at_ _ r0 e0)
  rw [eqv_iff, decide_eq_true f0] at this
  cases this
structure PwK (K : Fg) (H : Hp) (rows : List (R × R)) (kvs : List (List Key × V)) : Prop where
 nd : (kvs.map (·.1)).Nodup
 at_ : ∀ (i : Nat) (r : R × R), rows[i]? = some r -> ∃ y, kvs[i]? = some (keyR r.1, y) /\ RV K H y r.2
theorem PwK.mono {K : Fg} {H H' : Hp} {rows : List (R × R)} {kvs : List (List Key × V)} (h : PwK K H rows kvs) (t : Tst K H H') : PwK K H' rows kvs := ⟨h.nd, fun i r e => let ⟨y, a, b⟩ := h.at_ i r e; ⟨y, a, b.mono t⟩⟩
theorem PwK.get {K : Fg} {H : Hp} {rows : List (R × R)} {kvs : List (List Key × V)} (h : PwK K H rows kvs) {z : R} (hz : HasR rows z) : ∃ y, valV kvs (keyR z) = some y /\ RV K H y (pwAt rows z) := by
 obtain ⟨r, e, f⟩ := idx_at hz
 obtain ⟨y, a, b⟩ := h.at_ _ r e
 refine ⟨y, ?_, ?_⟩
 ·rw [← f]; exact valV_at h.nd a
 ·unfold pwAt; rw [getD_at e]; exact b
theorem kvs_c {K : Fg} {H : Hp} {xs : List V} {rows : List (R × R)} (ok : RowsG rows) (al : Als (RowV K H) xs rows) : ∃ kvs, RowsC K H xs kvs /\ PwK K H rows kvs := by
 obtain ⟨kvs, hl, hk⟩ := chosen (β := List Key × V) (P := fun i (r : R × R) kv => kv.1 = keyR r.1 /\ RV K H kv.2 r.2 /\ ∃ p b, xs[i]? = some (.ref p) /\ SqT K H p [.ref b, kv.2] /\ SqT K H b [.int r.1.1, .int r.1.2]) (l := rows) fun i r e => by
  have li : i < rows.length := (List.getElem?_eq_some_iff.mp e).1
  have ex : xs[i]? = some (xs[i]'(by rw [al.len]; exact li)) := List.getElem?_eq_getElem _
  obtain ⟨r', e', rk⟩ := al.at ex
  rw [e] at e'
  cases e'
  obtain ⟨p, x, y, e1, e2, ⟨b, e5, e3⟩, e4⟩ := rk
  subst e5
  exact ⟨(keyR r.1, y), rfl, e4, p, b, by rw [ex, e1], e2, e3⟩
 have idx : ∀ (i : Nat) (kv : List Key × V), kvs[i]? = some kv -> ∃ r, rows[i]? = some r := fun i kv e => by
  have : i < kvs.length := (List.getElem?_eq_some_iff.mp e).1
  exact ⟨_, List.getElem?_eq_getElem (by omega)⟩
 have nd : (kvs.map (·.1)).Nodup := by
  rw [List.nodup_iff_pairwise_ne, List.pairwise_iff_getElem]
  intro i j hi hj hij e
  rw [List.length_map] at hi hj
  rw [List.getElem_map, List.getElem_map] at e
  have ei : kvs[i]? = some kvs[i] := List.getElem?_eq_getElem _
  have ej : kvs[j]? = some kvs[j] := List.getElem?_eq_getElem _
  obtain ⟨r, er⟩ := idx i _ ei
  obtain ⟨q, eq⟩ := idx j _ ej
  rw [(hk i r _ er ei).1, (hk j q _ eq ej).1] at e
  have := row_uniq ok er eq (keyR_inj e)
  omega
 refine ⟨kvs, ⟨by rw [hl]; exact al.len, fun i kv e => ?_, nd⟩, ⟨nd, fun i r e => ?_⟩⟩
 ·obtain ⟨r, er⟩ := idx i kv e
  obtain ⟨a1, a2, p, b, a3, a4, a5⟩ := hk i r kv er e
  refine ⟨p, b, a3, a4, ?_⟩
  rw [a1]
  exact a5
 ·have li : i < rows.length := (List.getElem?_eq_some_iff.mp e).1
  obtain ⟨kv, ek⟩ : ∃ kv, kvs[i]? = some kv := ⟨_, List.getElem?_eq_getElem (by omega)⟩
  obtain ⟨a1, a2, _⟩ := hk i r kv e ek
  exact ⟨kv.2, by rw [ek, ← a1], a2⟩
theorem cut_nat {xs : List V} {a b : Nat} (ha : a ≤ xs.length) (hb : b ≤ xs.length) : cutV xs (some (a : Int)) (some (b : Int)) = (xs.drop a).take (b - a) := by
 unfold cutV
 rw [HT.sIx_nat, HT.sIx_nat, Nat.min_eq_left ha, Nat.min_eq_left hb]
theorem mx_wf {rows : List (R × R)} {ms : List (R × R)} {D : Nat} (bp : ∀ r ∈ rows, Bq DP NP r.2) (has : ∀ m ∈ ms, HasR rows m.1) (l : ms.length ≤ 12) (d0 : 0 < D) (dl : D < 2 ^ 170) (bq : ∀ m ∈ ms, Bq D 1 m.2) : Wf 610 (sumR (mixS rows ms)) := by
 have b : ∀ r ∈ mixS rows ms, Bq (DP * D) NP r := fun r hr => by
  obtain ⟨m, hm, rfl⟩ := List.mem_map.mp hr
  obtain ⟨r9, e9, _⟩ := idx_at (has m hm)
  have b9 : Bq DP NP (pwAt rows m.1) := by unfold pwAt; rw [getD_at e9]; exact bp r9 (List.mem_of_getElem? e9)
  have := b9.times (bq m hm)
  rw [Nat.mul_one] at this
  exact this
 have DD : 0 < DP * D := Nat.mul_pos (by decide) d0
 have DL : DP * D < 2 ^ 440 := Nat.lt_of_lt_of_le (Nat.mul_lt_mul_of_pos_left dl (by decide)) (by decide)
 have sb := sumR_bq DD b
 have ll : (mixS rows ms).length ≤ 12 := by show (ms.map _).length ≤ 12; rw [List.length_map]; exact l
 refine (sb.mono (Nat.dvd_refl _) (Nat.mul_le_mul_left NP ll)).wf DD (Nat.lt_of_lt_of_le DL (Nat.pow_le_pow_right (by decide) (by decide))) ?_
 exact Nat.lt_of_lt_of_le (Nat.mul_lt_mul_of_pos_left DL (by decide)) (by decide)
theorem ms_ok {rows ms : List (R × R)} {s : R} {D : Nat} (h : MxOk rows ms s) (bz : ∀ r ∈ rows, Bq (D0 * 12) NR r.1) (l : ms.length ≤ 12) (pb : PtB ms D) : MsOk ms := ⟨l, h.ne, fun m hm => by obtain ⟨r, mr, f⟩ := h.has m hm; rw [← f]; exact bz r mr, D, pb⟩
theorem sc_Q18 : FnScope ["thing"] ["thing"] (defScope s_Q18) := scA
theorem sc_Q5 : FnScope ["thing", "length"] ["thing", "length"] (defScope s_Q5) := scA
theorem sc_Q36 : FnScope ["thing"] ["thing"] (defScope s_Q36) := scA
theorem sc_Q0 : FnScope ["one", "other", "high", "low", "rest"] ["one", "other"] (defScope s_Q0) := scA
theorem sc_Q19 : FnScope ["thing", "top", "bottom"] ["thing"] (defScope s_Q19) := scA
theorem sc_Q1 : FnScope ["thing"] ["thing"] (defScope s_Q1) := scA
theorem sc_Q39 : FnScope ["top", "bottom", "shared"] ["top", "bottom"] (defScope s_Q39) := scA
theorem sc_Q44 : FnScope ["one", "other", "shared", "top", "rest"] ["one", "other"] (defScope s_Q44) := scA
theorem sc_Q40 : FnScope ["one", "other"] ["one", "other"] (defScope s_Q40) := scA
theorem sc_Q41 : FnScope ["one", "other", "left", "right"] ["one", "other"] (defScope s_Q41) := scA
theorem sc_Q45 : FnScope ["one", "other"] ["one", "other"] (defScope s_Q45) := scA
theorem sc_Q37 : FnScope ["one", "power", "top", "bottom", "step"] ["one", "power"] (defScope s_Q37) := scA
theorem sc_Q31 : FnScope ["one", "other"] ["one", "other"] (defScope s_Q31) := scA
theorem sc_Q42 : FnScope ["some", "tops", "one", "so_far", "bottom", "top"] ["some"] (defScope s_Q42) := scA
theorem sc_Q2 : FnScope ["low", "high"] ["low", "high"] (defScope s_Q2) := scA
theorem sc_Q38 : FnScope ["rule"] ["rule"] (defScope s_Q38) := scA
theorem sc_Q10 : FnScope ["rule", "speed", "top"] ["rule", "speed"] (defScope s_Q10) := scA
theorem sc_Q20 : FnScope ["rows", "speed", "place"] ["rows", "speed"] (defScope s_Q20) := scA
theorem sc_Q21 : FnScope ["rule", "speed", "rows", "place", "high", "low"] ["rule", "speed"] (defScope s_Q21) := scA
theorem sc_Q11 : FnScope ["rule", "speeds", "rows", "speed"] ["rule", "speeds"] (defScope s_Q11) := scA
theorem sc_Q32 : FnScope ["table", "speed", "rows", "place", "high", "low", "part"] ["table", "speed"] (defScope s_Q32) := scA
theorem sc_Q6 : FnScope ["table", "speeds", "rows"] ["table", "speeds"] (defScope s_Q6) := scA
theorem sc_Q7 : FnScope ["table", "mix", "numbers"] ["table", "mix"] (defScope s_Q7) := scA
theorem sc_Q3 : FnScope ["thing"] ["thing"] (defScope s_Q3) := scA
theorem sc_Q8 : FnScope ["table", "mix", "numbers", "place", "number"] ["table", "mix"] (defScope s_Q8) := scA
theorem sc_Q12 : FnScope ["mix", "place", "pair"] ["mix"] (defScope s_Q12) := scA
theorem sc_Q22 : FnScope ["table", "mix", "numbers"] ["table", "mix"] (defScope s_Q22) := scA
theorem sc_Q13 : FnScope ["table", "speed", "thing"] ["table", "speed", "thing"] (defScope s_Q13) := scA
theorem sc_Q23 : FnScope ["_law_script"] ["_law_script"] (defScope s_Q23) := scA
theorem sc_Q24 : FnScope ["_law_tape_here", "_law_many", "_law_script", "_law_spot", "_law_left", "_law_cell", "_law_mixed"] ["_law_tape_here", "_law_many"] (defScope s_Q24) := scA
theorem sc_Q33 : FnScope ["_law_one", "_law_other"] ["_law_one", "_law_other"] (defScope s_Q33) := scA
theorem sc_Q14 : FnScope ["_law_top", "_law_bottom", "_law_by"] ["_law_top", "_law_bottom"] (defScope s_Q14) := scA
theorem sc_Q25 : FnScope ["_law_one", "_law_other"] ["_law_one", "_law_other"] (defScope s_Q25) := scA
theorem sc_Q15 : FnScope ["_law_one", "_law_other"] ["_law_one", "_law_other"] (defScope s_Q15) := scA
theorem sc_Q16 : FnScope ["_law_one", "_law_other"] ["_law_one", "_law_other"] (defScope s_Q16) := scA
theorem sc_Q26 : FnScope ["_law_one", "_law_other"] ["_law_one", "_law_other"] (defScope s_Q26) := scA
theorem sc_Q27 : FnScope ["_law_one", "_law_other"] ["_law_one", "_law_other"] (defScope s_Q27) := scA
theorem sc_Q34 : FnScope ["_law_some", "_law_found", "_law_one"] ["_law_some"] (defScope s_Q34) := scA
theorem sc_Q28 : FnScope ["_law_tape_here", "_law_tops", "_law_bottoms"] ["_law_tape_here"] (defScope s_Q28) := scA
theorem sc_Q17 : FnScope ["_law_tape_here", "_law_rows", "_law_slope", "_law_k", "_law_step", "_law_speed", "_law_power"] ["_law_tape_here"] (defScope s_Q17) := scA
theorem sc_Q29 : FnScope ["_law_tape_here"] ["_law_tape_here"] (defScope s_Q29) := scA
theorem sc_Q9 : FnScope ["_law_tape_here", "_law_rule_here", "_law_found", "_law_top", "_law_rows", "_law_one", "_law_at"] ["_law_tape_here", "_law_rule_here"] (defScope s_Q9) := scA
theorem sc_Q35 : FnScope ["_law_tape_here", "_law_speeds_here", "_law_some", "_law_shares"] ["_law_tape_here", "_law_speeds_here"] (defScope s_Q35) := scA
theorem sc_Q4 : FnScope ["_law_table_here", "_law_mix_here", "_law_powers", "_law_spots", "_law_inner", "_law_slope", "_law_line"] ["_law_table_here", "_law_mix_here"] (defScope s_Q4) := scA
theorem sc_Q30 : FnScope ["_law_table_here", "_law_speed", "_law_thing", "_law_found"] ["_law_table_here", "_law_speed", "_law_thing"] (defScope s_Q30) := scA
theorem sc_Q46 : FnScope ["_law_script", "_law_tape_here", "_law_k", "_law_rule_here", "_law_table_here", "_law_j", "_law_mix_here", "_law_speed", "_law_power", "_law_least", "_law_told"] ["_law_script"] (defScope s_Q46) := scA
theorem sc_Q43 : FnScope ["self", "word", "number"] ["self", "word", "number"] (defScope s_Q43) := scA
end My
namespace My
open PySem L2 B PyProof.Rows
section
variable {P : Program} {w : World} {K : Fg} {mg : Str -> Option Value} {base : Heap} {t : Ad}
theorem ok_Q18 (T : Txt K mg t) : FnOk P w K mg base CX0 1 t.a_Q18 t.d_Q18 ["thing"] (sp_is_whole K) := by
 refine T.F_Q18.ok sc_Q18 (fun vs H Q E h => ?_) (fun cdv A outer s H vs Q E hr h => ?_)
 ·obtain ⟨_, _, rfl, _⟩ := h; rfl
 obtain ⟨v, d, rfl, hD, k⟩ := h
 obtain ⟨b, c, e1, e2, e3⟩ := isi_int hD
 refine QSs.ok (qss_one (qs_ret (qe_and (qe_callB call_isiD (by rfl) T.z_isinstance boot_isinstance (qa_cons (qv 0) (qa_cons (qe_bltn (v := V.ty "int") rfl T.z_int boot_int rfl) qa_nil star_name) star_name)) (qe_one (qe_not (qe_callB call_isiD (by rfl) T.z_isinstance boot_isinstance (qa_cons (qv 0) (qa_cons (qe_bltn (v := V.ty "bool") rfl T.z_bool boot_bool rfl) qa_nil star_name) star_name))))))) ?_
 extract_lets +lift
 try dsimp -zeta -zetaDelta only [Cx.nox, Cx.wish, cxOf]
 rw [e3] at k
 refine ⟨_, rfl, _, _, _, _, rfl, hD, e1, _, rfl, ?_⟩
 cases b with
 | false => exact k
 | true => exact ⟨_, rfl, _, _, _, _, rfl, hD, e2, _, rfl, k⟩
theorem ok_Q5 (T : Txt K mg t) : FnOk P w K mg base CX0 1 t.a_Q5 t.d_Q5 ["thing", "length"] (sp_is_tuple_of K) := by
 refine T.F_Q5.ok sc_Q5 (fun vs H Q E h => ?_) (fun cdv A outer s H vs Q E hr h => ?_)
 ·obtain ⟨_, _, _, rfl, _⟩ := h; rfl
 obtain ⟨v, d, m, rfl, hD, k⟩ := h
 refine QSs.ok (qss_one (qs_ret (qe_and (qe_callB call_isiD (by rfl) T.z_isinstance boot_isinstance (qa_cons (qv 0) (qa_cons (qe_bltn (v := V.ty "tuple") rfl T.z_tuple boot_tuple rfl) qa_nil star_name) star_name)) (qe_one (qe_cmpR op_eq (qe_callB call_len_seq (by rfl) T.z_len boot_len (qa_cons (qv 0) qa_nil star_name)) (qv 1) (nomark _)))))) ?_
 extract_lets +lift
 try dsimp -zeta -zetaDelta only [Cx.nox, Cx.wish, cxOf]
 rcases isi_tup hD with ⟨e, p, xs, ds, rfl, rfl, hS, hA⟩ | ⟨e, no⟩
 ·refine ⟨_, rfl, _, _, _, _, rfl, hD, e, _, rfl, ?_⟩
  refine ⟨_, rfl, p, _, rfl, .inr hS, _, rfl, rfl, ?_⟩
  have q : decide ((V.int xs.length : V) = .int m) = tupD m (.tuple ds) := by
   show _ = decide (ds.length = m)
   rw [hA.len]
   refine decide_eq_decide.mpr ⟨fun z => by injection z with z; omega, fun z => by rw [z]⟩
  rw [q]
  exact k
 ·refine ⟨_, rfl, _, _, _, _, rfl, hD, e, _, rfl, ?_⟩
  rw [tupD_no no] at k
  exact k
theorem ok_Q36 (T : Txt K mg t) : FnOk P w K mg base CX0 1 t.a_Q36 t.d_Q36 ["thing"] (sp_copied K) := by
 refine T.F_Q36.ok sc_Q36 (fun vs H Q E h => ?_) (fun cdv A outer s H vs Q E hr h => ?_)
 ·obtain ⟨_, rfl, _⟩ := h; rfl
 obtain ⟨v, rfl, hv, k⟩ := h
 refine QSs.ok (qss_consL (qs_if (qt_val (qe_callB call_isi (by rfl) T.z_isinstance boot_isinstance (qa_cons (qv 0) (qa_cons (qe_bltn (v := V.ty "list") rfl T.z_list boot_list rfl) qa_nil star_name) star_name))) (qss_one qs_never) qss_nil)
   (qss_consL (qs_if (qt_val (qe_callB call_isi (by rfl) T.z_isinstance boot_isinstance (qa_cons (qv 0) (qa_cons (qe_bltn (v := V.ty "tuple") rfl T.z_tuple boot_tuple rfl) qa_nil star_name) star_name))) (qss_one qs_never) qss_nil)
   (qss_one (qs_ret (qv 0))))) ?_
 extract_lets +lift
 try dsimp -zeta -zetaDelta only [Cx.nox, Cx.wish, cxOf]
 rcases hv with ⟨i, rfl⟩ | ⟨x, rfl⟩
 ·refine ⟨_, rfl, _, _, "int", false, rfl, .int i, by decide +kernel, false, rfl, iteF ?_⟩
  refine ⟨_, rfl, _, _, "int", false, rfl, .int i, by decide +kernel, false, rfl, iteF ?_⟩
  exact ⟨_, rfl, k⟩
 ·refine ⟨_, rfl, _, _, "str", false, rfl, .str x, by decide +kernel, false, rfl, iteF ?_⟩
  refine ⟨_, rfl, _, _, "str", false, rfl, .str x, by decide +kernel, false, rfl, iteF ?_⟩
  exact ⟨_, rfl, k⟩
theorem ok_Q0 (T : Txt K mg t) : FnOk P w K mg base CX0 1 t.a_Q0 t.d_Q0 ["one", "other"] (sp_greatest_divisor K) := by
 refine T.F_Q0.ok sc_Q0 (fun vs H Q E h => ?_) (fun cdv A outer s H vs Q E hr h => ?_)
 ·obtain ⟨_, _, rfl, _⟩ := h; rfl
 obtain ⟨a, b, rfl, k⟩ := h
 refine QSs.ok (qss_consL (qsA 2 sc_Q0.nd (qe_callB call_abs (by rfl) T.z_abs boot_abs (qa_cons (qv 0) qa_nil star_name)))
   (qss_consL (qsA 3 sc_Q0.nd (qe_callB call_abs (by rfl) T.z_abs boot_abs (qa_cons (qv 1) qa_nil star_name)))
   (qss_consL (qs_while PassesOwn.never (qt_cmpR op_ne (qv 3) qe_int (nomark _))
   (qss_consL (qsA 4 sc_Q0.nd (qe_op op_mod (qv 2) (qv 3)))
   (qss_consL (qsA 2 sc_Q0.nd (qv 3))
   (qss_one (qsA 3 sc_Q0.nd (qv 4))))))
   (qss_one (qs_ret (qv 2)))))) ?_
 extract_lets +lift
 try dsimp -zeta -zetaDelta only [Cx.nox, Cx.wish, cxOf]
 refine ⟨_, rfl, _, rfl, _, rfl, _, rfl, ?_⟩
 rw [abs_if, abs_if]
 refine ⟨fun m σ H' => ∃ (x y : Int) (v : Option V), σ = [some (.int a), some (.int b), some (.int x), some (.int y), v] /\ H' = H /\ 0 ≤ x /\ 0 ≤ y /\ Int.gcd x y = Int.gcd a b /\ m = y.toNat, ⟨_, _, _, _, rfl, rfl, by omega, by omega, (by simp [Int.gcd]), rfl⟩, ?_⟩
 rintro m σ H' ⟨x, y, v, rfl, rfl, hx, hy, hg, rfl⟩
 refine ⟨_, rfl, rfl, _, rfl, ?_⟩
 by_cases c : y = 0
 ·subst c
  refine iteNS rfl ?_
  rw [← hg] at k
  refine ⟨_, rfl, ?_⟩
  have e : (x : Int) = (Int.gcd x 0 : Nat) := by simp [Int.gcd]; omega
  rw [← e] at k
  exact k
 ·refine iteN1 (fun z => c (by injection z)) ?_
  refine ⟨_, fun _ _ z => z, ?_⟩
  refine ⟨_, rfl, _, rfl, _, _, rfl, rfl, (by omega), _, rfl, _, rfl, ?_⟩
  refine ⟨_, ?_, y, x % y, _, rfl, rfl, hy, Int.emod_nonneg _ c, ?_, rfl⟩
  ·have := Int.emod_lt_of_pos x (show 0 < y by omega)
   have := Int.emod_nonneg x c
   omega
  ·rw [gcd_turn hx (by omega), hg]
theorem ok_Q19 (T : Txt K mg t) : FnOk P w K mg base CX0 2 t.a_Q19 t.d_Q19 ["thing"] (sp_is_ratio K) := by
 refine T.F_Q19.ok sc_Q19 (fun vs H Q E h => ?_) (fun cdv A outer s H vs Q E hr h => ?_)
 ·obtain ⟨_, _, rfl, _⟩ := h; rfl
 obtain ⟨v, d, rfl, hD, k⟩ := h
 refine QSs.ok (qss_consL (qs_if (qt_not (qt_val (qcA (ok_Q5 T) hr T.m_Q5 T.F_Q5.kp T.b_Q5 (qa_cons (qv 0) (qa_cons qe_int qa_nil star_con) star_name)))) (qss_one (qs_ret qe_bl)) qss_nil)
   (qss_consL (qsA 1 sc_Q19.nd (qxA ix_tup (qv 0) qe_int))
   (qss_consL (qsA 2 sc_Q19.nd (qxA ix_tup (qv 0) qe_int))
   (qss_consL (qs_if (qw_pt (qw_or (qt_not (qt_val (qcA (ok_Q18 T) hr T.m_Q18 T.F_Q18.kp T.b_Q18 (qa_cons (qv 1) qa_nil star_name)))) (qw_or (qt_not (qt_val (qcA (ok_Q18 T) hr T.m_Q18 T.F_Q18.kp T.b_Q18 (qa_cons (qv 2) qa_nil star_name)))) (qw_or1 (qt_cmpR op_lt (qv 2) qe_int (nomark _)))))) (qss_one (qs_ret qe_bl)) qss_nil)
   (qss_one (qs_ret (qe_cmpR op_eq (qcA (ok_Q0 T) hr T.m_Q0 T.F_Q0.kp T.b_Q0 (qa_cons (qv 1) (qa_cons (qv 2) qa_nil star_name) star_name)) qe_int (nomark _)))))))) ?_
 extract_lets +lift
 try dsimp -zeta -zetaDelta only [Cx.nox, Cx.wish, cxOf]
 refine ⟨_, rfl, v, d, 2, rfl, hD, ⟨_, rfl, ?_⟩⟩
 cases c2 : tupD 2 d with
 | false =>
  refine iteT ?_
  rw [ratD_no c2] at k
  exact k
 | true =>
  refine iteF ?_
  obtain ⟨p, x, y, dx, dy, rfl, rfl, hS, hx, hy⟩ := hD.two c2
  refine ⟨_, rfl, p, _, _, _, rfl, rfl, hS, rfl, _, rfl, p, _, _, _, rfl, rfl, hS, rfl, ?_⟩
  refine ⟨_, rfl, x, dx, rfl, hx, _, rfl, ?_⟩
  cases cx : wholeD dx with
  | false =>
   refine iteT (iteT ?_)
   rw [rat_x cx] at k
   exact k
  | true =>
   refine iteF ?_
   refine ⟨_, rfl, y, dy, rfl, hy, _, rfl, ?_⟩
   cases cy : wholeD dy with
   | false =>
    refine iteT (iteT ?_)
    rw [rat_y cy] at k
    exact k
   | true =>
    refine iteF ?_
    obtain ⟨i, rfl⟩ := wholeD_int cx
    obtain ⟨j, rfl⟩ := wholeD_int cy
    cases hx
    cases hy
    have kk : Q (.bl (decide (1 ≤ j) && decide (Int.gcd i j = 1))) H := k
    refine ⟨_, rfl, _, _, rfl, rfl, _, rfl, ?_⟩
    by_cases c : j < 1
    ·refine iteD1 c ?_
     rw [decide_eq_false (show ¬ 1 ≤ j by omega)] at kk
     exact kk
    ·refine iteD0 c ?_
     refine ⟨_, rfl, _, rfl, i, j, rfl, rfl, ?_⟩
     rw [decide_eq_true (show 1 ≤ j by omega), Bool.true_and] at kk
     have q : decide ((V.int (Int.gcd i j : Nat) : V) = .int 1) = decide (Int.gcd i j = 1) := decide_eq_decide.mpr ⟨fun z => by injection z with z; omega, fun z => by rw [z]; rfl⟩
     rw [q]
     exact kk
theorem ok_Q1 (T : Txt K mg t) : FnOk P w K mg base CX0 3 t.a_Q1 t.d_Q1 ["thing"] (sp_is_ratio_pair K) := by
 refine T.F_Q1.ok sc_Q1 (fun vs H Q E h => ?_) (fun cdv A outer s H vs Q E hr h => ?_)
 ·obtain ⟨_, _, rfl, _⟩ := h; rfl
 obtain ⟨v, d, rfl, hD, k⟩ := h
 refine QSs.ok (qss_one (qs_ret (qe_and (qcA (ok_Q5 T) hr T.m_Q5 T.F_Q5.kp T.b_Q5 (qa_cons (qv 0) (qa_cons qe_int qa_nil star_con) star_name)) (qe_and (qcA (ok_Q19 T) hr T.m_Q19 T.F_Q19.kp T.b_Q19 (qa_cons (qxA ix_tup (qv 0) qe_int) qa_nil star_sub)) (qe_one (qcA (ok_Q19 T) hr T.m_Q19 T.F_Q19.kp T.b_Q19 (qa_cons (qxA ix_tup (qv 0) qe_int) qa_nil star_sub))))))) ?_
 extract_lets +lift
 try dsimp -zeta -zetaDelta only [Cx.nox, Cx.wish, cxOf]
 refine ⟨_, rfl, v, d, 2, rfl, hD, ?_⟩
 cases c2 : tupD 2 d with
 | false =>
  rw [pairD_no c2] at k
  exact ⟨_, rfl, k⟩
 | true =>
  obtain ⟨p, x, y, dx, dy, rfl, rfl, hS, hx, hy⟩ := hD.two c2
  have kk : Q (.bl (ratD dx && ratD dy)) H := k
  refine ⟨_, rfl, ?_⟩
  refine ⟨_, rfl, p, _, _, _, rfl, rfl, hS, rfl, x, dx, rfl, hx, ?_⟩
  cases cx : ratD dx with
  | false =>
   rw [cx] at kk
   exact ⟨_, rfl, kk⟩
  | true =>
   rw [cx] at kk
   exact ⟨_, rfl, _, rfl, p, _, _, _, rfl, rfl, hS, rfl, y, dy, rfl, hy, kk⟩
theorem ok_Q39 (T : Txt K mg t) : FnOk P w K mg base CX0 2 t.a_Q39 t.d_Q39 ["top", "bottom"] (sp_ratio K) := by
 refine T.F_Q39.ok sc_Q39 (fun vs H Q E h => ?_) (fun cdv A outer s H vs Q E hr h => ?_)
 ·obtain ⟨_, _, rfl, _⟩ := h; rfl
 obtain ⟨a, b, rfl, hb, hz, k⟩ := h
 refine QSs.ok (qss_consL (qs_if (qt_cmpR op_eq (qv 1) qe_int (nomark _)) (qss_one qs_never) qss_nil)
   (qss_consL (qsA 2 sc_Q39.nd (qcA (ok_Q0 T) hr T.m_Q0 T.F_Q0.kp T.b_Q0 (qa_cons (qv 0) (qa_cons (qv 1) qa_nil star_name) star_name)))
   (qss_consL (qs_if (qt_cmpR op_lt (qv 1) qe_int (nomark _)) (qss_one (qsA 2 sc_Q39.nd (qe_un un_neg (qv 2)))) qss_nil)
   (qss_one (qs_ret (qe_tup (qa_cons (qe_op op_quoN (qv 0) (qv 2)) (qa_cons (qe_op op_quoN (qv 1) (qv 2)) qa_nil star_bin) star_bin))))))) ?_
 extract_lets +lift
 try dsimp -zeta -zetaDelta only [Cx.nox, Cx.wish, cxOf]
 have gp := gcd_posN (a := a) hb
 have gb := gcd_big (a := a) hb hz
 refine ⟨_, rfl, rfl, _, rfl, ?_⟩
 refine iteD0 (fun z => by injection z with z; omega) ?_
 refine ⟨_, rfl, _, rfl, a, b, rfl, ?_⟩
 refine ⟨_, rfl, _, _, rfl, rfl, _, rfl, ?_⟩
 by_cases hn : b < 0
 ·refine iteD1 hn ?_
  rw [← mkS_neg1 hn] at k
  have gm : (-((Int.gcd a b : Nat) : Int)).natAbs < 2 ^ 4000 := by rw [Int.natAbs_neg]; exact gb
  refine ⟨_, rfl, _, rfl, ?_⟩
  refine ⟨_, rfl, _, rfl, _, _, rfl, rfl, ⟨by omega, gm⟩, _, rfl, _, rfl, _, _, rfl, rfl, ⟨by omega, gm⟩, zl2, fun p hp => ?_⟩
  exact k p hp
 ·refine iteD0 hn ?_
  rw [← mkS_pos1 (by omega : 0 < b)] at k
  refine ⟨_, rfl, _, rfl, _, _, rfl, rfl, ⟨by omega, gb⟩, _, rfl, _, rfl, _, _, rfl, rfl, ⟨by omega, gb⟩, zl2, fun p hp => ?_⟩
  exact k p hp
theorem ok_Q44 (T : Txt K mg t) : FnOk P w K mg base CX0 2 t.a_Q44 t.d_Q44 ["one", "other"] (sp_plus K) := by
 refine T.F_Q44.ok sc_Q44 (fun vs H Q E h => ?_) (fun cdv A outer s H vs Q E hr h => ?_)
 ·obtain ⟨_, _, _, _, _, _, rfl, _⟩ := h; rfl
 obtain ⟨v, w, r, q, n, m, rfl, hv, hw, wr, wq, hz, k⟩ := h
 refine QSs.ok (qss_consL (qsA 2 sc_Q44.nd (qcA (ok_Q0 T) hr T.m_Q0 T.F_Q0.kp T.b_Q0 (qa_cons (qxA ix_tup (qv 0) qe_int) (qa_cons (qxA ix_tup (qv 1) qe_int) qa_nil star_sub) star_sub)))
   (qss_consL (qsA 3 sc_Q44.nd (qe_op op_add (qe_op op_mulB (qxA ix_tup (qv 0) qe_int) (qe_op op_quo (qxA ix_tup (qv 1) qe_int) (qv 2))) (qe_op op_mulB (qxA ix_tup (qv 1) qe_int) (qe_op op_quo (qxA ix_tup (qv 0) qe_int) (qv 2)))))
   (qss_consL (qsA 4 sc_Q44.nd (qcA (ok_Q0 T) hr T.m_Q0 T.F_Q0.kp T.b_Q0 (qa_cons (qv 3) (qa_cons (qv 2) qa_nil star_name) star_name)))
   (qss_one (qs_ret (qe_tup (qa_cons (qe_op op_quo (qv 3) (qv 4)) (qa_cons (qe_op op_mulB (qe_op op_quo (qxA ix_tup (qv 0) qe_int) (qv 2)) (qe_op op_quo (qxA ix_tup (qv 1) qe_int) (qv 4))) qa_nil star_bin) star_bin))))))) ?_
 extract_lets +lift
 try dsimp -zeta -zetaDelta only [Cx.nox, Cx.wish, cxOf]
 obtain ⟨p, rfl, hv⟩ := hv
 obtain ⟨p', rfl, hw⟩ := hw
 have c1 := big_of wr.top (show n ≤ 4000 by omega)
 have c2 := big_of wr.bot (show n ≤ 4000 by omega)
 have c3 := big_of wq.top (show m ≤ 4000 by omega)
 have c4 := big_of wq.bot (show m ≤ 4000 by omega)
 have gp : (0 : Int) < (Int.gcd r.2 q.2 : Nat) := gcd_posR wq.pos
 have gb := gcd_lt (a := r.2) wq.pos c4
 refine ⟨_, rfl, p, _, _, _, rfl, rfl, hv, rfl, _, rfl, p', _, _, _, rfl, rfl, hw, rfl, r.2, q.2, rfl, ?_⟩
 have z := plusG_eq ⟨wr.pos, wr.cop⟩ ⟨wq.pos, wq.cop⟩
 have kk : newR H Q (plusG r q) := by rw [z]; exact k
 unfold plusG at kk
 simp only at kk
 generalize ((Int.gcd r.2 q.2 : Nat) : Int) = d at gp gb kk ⊢
 refine ⟨_, rfl, p, _, _, _, rfl, rfl, hv, rfl, _, rfl, p', _, _, _, rfl, rfl, hw, rfl, _, rfl, _, _, rfl, rfl, ⟨gp, gb⟩, _, _, rfl, rfl, ⟨c1, div_lt gp c4⟩, _, rfl, p', _, _, _, rfl, rfl, hw, rfl, _, rfl, p, _, _, _, rfl, rfl, hv, rfl, _, rfl, _, _, rfl, rfl, ⟨gp, gb⟩, _, _, rfl, rfl, ⟨c3, div_lt gp c2⟩, _, _, rfl, rfl, ?_⟩
 refine ⟨_, rfl, _, rfl, _, _, rfl, ?_⟩
 have ep : (0 : Int) < (Int.gcd (r.1 * (q.2 / d) + q.1 * (r.2 / d)) d : Nat) := gcd_posR gp
 have eb := gcd_lt (a := r.1 * (q.2 / d) + q.1 * (r.2 / d)) gp gb
 generalize ((Int.gcd (r.1 * (q.2 / d) + q.1 * (r.2 / d)) d : Nat) : Int) = e at ep eb kk ⊢
 refine ⟨_, rfl, _, rfl, _, _, rfl, rfl, ⟨ep, eb⟩, _, rfl, p, _, _, _, rfl, rfl, hv, rfl, _, rfl, _, _, rfl, rfl, ⟨gp, gb⟩, _, rfl, p', _, _, _, rfl, rfl, hw, rfl, _, rfl, _, _, rfl, rfl, ⟨ep, eb⟩, _, _, rfl, rfl, ⟨div_lt gp c2, div_lt ep c4⟩, zl2, kk⟩
theorem ok_Q40 (T : Txt K mg t) : FnOk P w K mg base CX0 3 t.a_Q40 t.d_Q40 ["one", "other"] (sp_minus K) := by
 refine T.F_Q40.ok sc_Q40 (fun vs H Q E h => ?_) (fun cdv A outer s H vs Q E hr h => ?_)
 ·obtain ⟨_, _, _, _, _, _, rfl, _⟩ := h; rfl
 obtain ⟨v, w, r, q, n, m, rfl, hv, hw, wr, wq, hz, k⟩ := h
 refine QSs.ok (qss_one (qs_ret (qcA (ok_Q44 T) hr T.m_Q44 T.F_Q44.kp T.b_Q44 (qa_cons (qv 0) (qa_cons (qe_tup (qa_cons (qe_un un_neg (qxA ix_tup (qv 1) qe_int)) (qa_cons (qxA ix_tup (qv 1) qe_int) qa_nil star_sub) star_un)) qa_nil star_tup) star_name)))) ?_
 extract_lets +lift
 try dsimp -zeta -zetaDelta only [Cx.nox, Cx.wish, cxOf]
 obtain ⟨p', rfl, hw⟩ := hw
 refine ⟨_, rfl, _, rfl, p', _, _, _, rfl, rfl, hw, rfl, _, rfl, _, rfl, p', _, _, _, rfl, rfl, hw, rfl, zl2, fun pt ht => ?_⟩
 have s1 := same_new ht (.tup [.int (-q.1), .int q.2])
 refine ⟨v, .ref pt, r, (-q.1, q.2), n, m, rfl, hv.mono (Tst.same s1), RV.of upd_same, wr, ⟨wq.pos, by show (-q.1).natAbs < _; rw [Int.natAbs_neg]; exact wq.top, wq.bot, cop_neg' wq.cop⟩, hz, fun p hp => ?_⟩
 refine k _ _ (s1.trans (same_new hp _)) ?_
 rw [← minus_eq]
 exact RV.of upd_same
theorem ok_Q41 (T : Txt K mg t) : FnOk P w K mg base CX0 2 t.a_Q41 t.d_Q41 ["one", "other"] (sp_times K) := by
 refine T.F_Q41.ok sc_Q41 (fun vs H Q E h => ?_) (fun cdv A outer s H vs Q E hr h => ?_)
 ·obtain ⟨_, _, _, _, _, _, rfl, _⟩ := h; rfl
 obtain ⟨v, w, r, q, n, m, rfl, hv, hw, wr, wq, hz, k⟩ := h
 refine QSs.ok (qss_consL (qsA 2 sc_Q41.nd (qcA (ok_Q0 T) hr T.m_Q0 T.F_Q0.kp T.b_Q0 (qa_cons (qxA ix_tup (qv 0) qe_int) (qa_cons (qxA ix_tup (qv 1) qe_int) qa_nil star_sub) star_sub)))
   (qss_consL (qsA 3 sc_Q41.nd (qcA (ok_Q0 T) hr T.m_Q0 T.F_Q0.kp T.b_Q0 (qa_cons (qxA ix_tup (qv 1) qe_int) (qa_cons (qxA ix_tup (qv 0) qe_int) qa_nil star_sub) star_sub)))
   (qss_one (qs_ret (qe_tup (qa_cons (qe_op op_mulB (qe_op op_quo (qxA ix_tup (qv 0) qe_int) (qv 2)) (qe_op op_quo (qxA ix_tup (qv 1) qe_int) (qv 3))) (qa_cons (qe_op op_mulB (qe_op op_quo (qxA ix_tup (qv 0) qe_int) (qv 3)) (qe_op op_quo (qxA ix_tup (qv 1) qe_int) (qv 2))) qa_nil star_bin) star_bin)))))) ?_
 extract_lets +lift
 try dsimp -zeta -zetaDelta only [Cx.nox, Cx.wish, cxOf]
 obtain ⟨p, rfl, hv⟩ := hv
 obtain ⟨p', rfl, hw⟩ := hw
 have c1 := big_of wr.top (show n ≤ 4000 by omega)
 have c2 := big_of wr.bot (show n ≤ 4000 by omega)
 have c3 := big_of wq.top (show m ≤ 4000 by omega)
 have c4 := big_of wq.bot (show m ≤ 4000 by omega)
 have lp : (0 : Int) < (Int.gcd r.1 q.2 : Nat) := gcd_posR wq.pos
 have lb := gcd_lt (a := r.1) wq.pos c4
 have mp : (0 : Int) < (Int.gcd q.1 r.2 : Nat) := gcd_posR wr.pos
 have mb := gcd_lt (a := q.1) wr.pos c2
 have z := timesG_eq ⟨wr.pos, wr.cop⟩ ⟨wq.pos, wq.cop⟩
 have kk : newR H Q (timesG r q) := by rw [z]; exact k
 unfold timesG at kk
 simp only at kk
 refine ⟨_, rfl, p, _, _, _, rfl, rfl, hv, rfl, _, rfl, p', _, _, _, rfl, rfl, hw, rfl, r.1, q.2, rfl, _, rfl, p', _, _, _, rfl, rfl, hw, rfl, _, rfl, p, _, _, _, rfl, rfl, hv, rfl, q.1, r.2, rfl, ?_⟩
 generalize ((Int.gcd r.1 q.2 : Nat) : Int) = l at lp lb kk ⊢
 generalize ((Int.gcd q.1 r.2 : Nat) : Int) = m' at mp mb kk ⊢
 refine ⟨_, rfl, p, _, _, _, rfl, rfl, hv, rfl, _, rfl, _, _, rfl, rfl, ⟨lp, lb⟩, _, rfl, p', _, _, _, rfl, rfl, hw, rfl, _, rfl, _, _, rfl, rfl, ⟨mp, mb⟩, _, _, rfl, rfl, ⟨div_lt lp c1, div_lt mp c3⟩, _, rfl, p, _, _, _, rfl, rfl, hv, rfl, _, rfl, _, _, rfl, rfl, ⟨mp, mb⟩, _, rfl, p', _, _, _, rfl, rfl, hw, rfl, _, rfl, _, _, rfl, rfl, ⟨lp, lb⟩, _, _, rfl, rfl, ⟨div_lt mp c2, div_lt lp c4⟩, zl2, kk⟩
theorem ok_Q45 (T : Txt K mg t) : FnOk P w K mg base CX0 3 t.a_Q45 t.d_Q45 ["one", "other"] (sp_over K) := by
 refine T.F_Q45.ok sc_Q45 (fun vs H Q E h => ?_) (fun cdv A outer s H vs Q E hr h => ?_)
 ·obtain ⟨_, _, _, _, _, _, rfl, _⟩ := h; rfl
 obtain ⟨v, w, r, q, n, m, rfl, hv, hw, wr, wq, hz, hq, k⟩ := h
 refine QSs.ok (qss_consL (qs_if (qt_cmpR op_eq (qxA ix_tup (qv 1) qe_int) qe_int (nomark _)) (qss_one qs_never) qss_nil)
   (qss_one (qs_ret (qcA (ok_Q41 T) hr T.m_Q41 T.F_Q41.kp T.b_Q41 (qa_cons (qv 0) (qa_cons (qcA (ok_Q39 T) hr T.m_Q39 T.F_Q39.kp T.b_Q39 (qa_cons (qxA ix_tup (qv 1) qe_int) (qa_cons (qxA ix_tup (qv 1) qe_int) qa_nil star_sub) star_sub)) qa_nil star_call) star_name))))) ?_
 extract_lets +lift
 try dsimp -zeta -zetaDelta only [Cx.nox, Cx.wish, cxOf]
 obtain ⟨p', rfl, hw⟩ := hw
 refine ⟨_, rfl, p', _, _, _, rfl, rfl, hw, rfl, rfl, _, rfl, ?_⟩
 refine iteD0 (fun z => by injection z with z; exact hq z) ?_
 refine ⟨_, rfl, _, rfl, p', _, _, _, rfl, rfl, hw, rfl, _, rfl, p', _, _, _, rfl, rfl, hw, rfl, q.2, q.1, rfl, hq, big_of wq.top (by omega), fun ps hps => ?_⟩
 have s1 := same_new hps (.tup [.int (mkS q.2 q.1).1, .int (mkS q.2 q.1).2])
 refine ⟨v, .ref ps, r, mkS q.2 q.1, n, m, rfl, hv.mono (Tst.same s1), RV.of upd_same, wr, mkS_wf hq wq.bot wq.top, hz, fun p hp => ?_⟩
 refine k _ _ (s1.trans (same_new hp _)) ?_
 rw [← over_eq ⟨wr.pos, wr.cop⟩ hq]
 exact RV.of upd_same
theorem ok_Q37 (T : Txt K mg t) : FnOk P w K mg base CX0 1 t.a_Q37 t.d_Q37 ["one", "power"] (sp_raised K) := by
 refine T.F_Q37.ok sc_Q37 (fun vs H Q E h => ?_) (fun cdv A outer s H vs Q E hr h => ?_)
 ·obtain ⟨_, _, _, rfl, _⟩ := h; rfl
 obtain ⟨v, r, k₁, rfl, hv, wr, h0, h6, k⟩ := h
 refine QSs.ok (qss_consL (qsA 2 sc_Q37.nd qe_int)
   (qss_consL (qsA 3 sc_Q37.nd qe_int)
   (qss_consL (qs_for PassesOwn.never rfl (qi_range1 rfl T.z_range (qa_cons (qv 1) qa_nil star_name)) (qg_name (i := 4) sc_Q37.nd rfl (by first | exact Or.inl rfl | exact Or.inr rfl))
   (qss_consL (qsA 2 sc_Q37.nd (qe_op op_mulB (qv 2) (qxA ix_tup (qv 0) qe_int)))
   (qss_one (qsA 3 sc_Q37.nd (qe_op op_mulB (qv 3) (qxA ix_tup (qv 0) qe_int))))))
   (qss_one (qs_ret (qe_tup (qa_cons (qv 2) (qa_cons (qv 3) qa_nil star_name) star_name))))))) ?_
 extract_lets +lift
 try dsimp -zeta -zetaDelta only [Cx.nox, Cx.wish, cxOf]
 have kb := two63 h0 (by omega : k₁ ≤ 100)
 obtain ⟨p, rfl, hv⟩ := hv
 refine ⟨_, rfl, k₁, rfl, kb.1, kb.2, for_range (lo := 0) (n := k₁.toNat) (fun i σ H' => ∃ (x : Option V), σ = [some (.ref p), some (.int k₁), some (.int (r.1 ^ i)), some (.int (r.2 ^ i)), x] /\ H' = H) ⟨none, by rw [Int.pow_zero, Int.pow_zero] <;> rfl, rfl⟩ ?_ ?_⟩
 ·rintro i σ H1 hi ⟨x, rfl, rfl⟩
  have b1 := pow_lt98 (i := i) wr.top (by omega)
  have b2 := pow_lt98 (i := i) wr.bot (by omega)
  refine ⟨_, rfl, _, rfl, p, _, _, _, rfl, rfl, hv, rfl, _, _, rfl, rfl, ⟨b1, big_of wr.top (by decide)⟩, ?_⟩
  refine ⟨_, rfl, _, rfl, p, _, _, _, rfl, rfl, hv, rfl, _, _, rfl, rfl, ⟨b2, big_of wr.bot (by decide)⟩, ?_⟩
  exact ⟨_, by rw [Int.pow_succ, Int.pow_succ] <;> rfl, rfl⟩
 ·rintro σ H1 ⟨x, rfl, rfl⟩
  refine ⟨_, rfl, _, rfl, zl2, fun q hq => ?_⟩
  have e := pow_eq_red ⟨wr.pos, wr.cop⟩ k₁.toNat
  refine k _ _ (same_new hq _) ?_
  rw [e]
  exact RV.of upd_same
theorem ok_Q31 (T : Txt K mg t) : FnOk P w K mg base CX0 1 t.a_Q31 t.d_Q31 ["one", "other"] (sp_is_less K) := by
 refine T.F_Q31.ok sc_Q31 (fun vs H Q E h => ?_) (fun cdv A outer s H vs Q E hr h => ?_)
 ·obtain ⟨_, _, _, _, _, _, rfl, _⟩ := h; rfl
 obtain ⟨v, w, r, q, n, m, rfl, hv, hw, wr, wq, hz, k⟩ := h
 refine QSs.ok (qss_one (qs_ret (qe_cmpR op_lt (qe_op op_mulB (qxA ix_tup (qv 0) qe_int) (qxA ix_tup (qv 1) qe_int)) (qe_op op_mulB (qxA ix_tup (qv 1) qe_int) (qxA ix_tup (qv 0) qe_int)) (nomark _)))) ?_
 extract_lets +lift
 try dsimp -zeta -zetaDelta only [Cx.nox, Cx.wish, cxOf]
 obtain ⟨p, rfl, hv⟩ := hv
 obtain ⟨p', rfl, hw⟩ := hw
 have c1 := big_of wr.top (show n ≤ 4000 by omega)
 have c2 := big_of wr.bot (show n ≤ 4000 by omega)
 have c3 := big_of wq.top (show m ≤ 4000 by omega)
 have c4 := big_of wq.bot (show m ≤ 4000 by omega)
 refine ⟨_, rfl, p, _, _, _, rfl, rfl, hv, rfl, _, rfl, p', _, _, _, rfl, rfl, hw, rfl, _, _, rfl, rfl, ⟨c1, c4⟩, _, rfl, p', _, _, _, rfl, rfl, hw, rfl, _, rfl, p, _, _, _, rfl, rfl, hv, rfl, _, _, rfl, rfl, ⟨c3, c2⟩, _, _, rfl, rfl, k⟩
theorem ok_Q42 (T : Txt K mg t) : FnOk P w K mg base CX0 3 t.a_Q42 t.d_Q42 ["some"] (sp_total K) := by
 refine T.F_Q42.ok sc_Q42 (fun vs H Q E h => ?_) (fun cdv A outer s H vs Q E hr h => ?_)
 ·obtain ⟨_, _, _, _, _, rfl, _⟩ := h; rfl
 obtain ⟨a, xs, rs, n, D₀, rfl, hS, hR, hWD, h0, hDn₀, hlen, hn, k⟩ := h
 refine QSs.ok (qss_consL (qsA 1 sc_Q42.nd qe_dnewK)
   (qss_consL (qs_for PassesOwn.never rfl (qi_seq (qv 0)) (qg_name (i := 2) sc_Q42.nd rfl (by first | exact Or.inl rfl | exact Or.inr rfl))
   (qss_one (qs_dput (hu_of hr) (qv 1) (qxA ix_tup (qv 2) qe_int) (qe_op op_add (qe_dget2 (hu_of hr) (qv 1) (qxA ix_tup (qv 2) qe_int) qe_int ⟨rfl, rfl, rfl, rfl⟩) (qxA ix_tup (qv 2) qe_int)) rfl)))
   (qss_consL (qsA 3 sc_Q42.nd (qe_glob (v := .ref t.c_NOUGHT) rfl T.m_NOUGHT rfl))
   (qss_consL (qs_for PassesOwn.never rfl (qi_items (qv 1)) (qg_tup rfl (qgs_cons (qg_name (i := 4) sc_Q42.nd rfl (by first | exact Or.inl rfl | exact Or.inr rfl)) (qgs_cons (qg_name (i := 5) sc_Q42.nd rfl (by first | exact Or.inl rfl | exact Or.inr rfl)) qgs_nil)))
   (qss_one (qsA 3 sc_Q42.nd (qcA (ok_Q44 T) hr T.m_Q44 T.F_Q44.kp T.b_Q44 (qa_cons (qv 3) (qa_cons (qcA (ok_Q39 T) hr T.m_Q39 T.F_Q39.kp T.b_Q39 (qa_cons (qv 5) (qa_cons (qv 4) qa_nil star_name) star_name)) qa_nil star_call) star_name)))))
   (qss_one (qs_ret (qv 3))))))) ?_
 extract_lets +lift
 try dsimp -zeta -zetaDelta only [Cx.nox, Cx.wish, cxOf]
 refine fun D hDn => ⟨_, rfl, ?_⟩
 have sD := same_new hDn (.dK [])
 rcases hS with hS | hS
 refine .inl ⟨a, rfl, ⟨_, sD.seq hS⟩, for_list (K := K) (a := a) (xs := xs) (fun i σ H' => ∃ (x : Option V) (ps : List (Int × Int)), σ = [some (.ref a), some (.ref D), x, none, none, none] /\ Same H H' /\ H' D = some (.dK (enc ps)) /\ PsOk n i ps /\ (∀ p ∈ ps, p.1 ∣ (D₀ : Int)) /\ sumv ps = vsum (rs.take i)) ⟨none, [], rfl, sD, upd_same, PsOk.nil n, (fun _ h => nomatch h), rfl⟩ (fun i σ H1 _ ⟨_, _, _, s1, _⟩ => s1.seq hS) ?_ ?_⟩
 rotate_left 2
 refine .inr ⟨a, rfl, ⟨_, Tst.same sD _ _ hS⟩, for_tup (K := K) (a := a) (xs := xs) (fun i σ H' => ∃ (x : Option V) (ps : List (Int × Int)), σ = [some (.ref a), some (.ref D), x, none, none, none] /\ Same H H' /\ H' D = some (.dK (enc ps)) /\ PsOk n i ps /\ (∀ p ∈ ps, p.1 ∣ (D₀ : Int)) /\ sumv ps = vsum (rs.take i)) ⟨none, [], rfl, sD, upd_same, PsOk.nil n, (fun _ h => nomatch h), rfl⟩ (fun i σ H1 _ ⟨_, _, _, s1, _⟩ => Tst.same s1 _ _ hS) ?_ ?_⟩
 all_goals first
  | (
   rintro i y σ H1 hi ⟨x, ps, rfl, s1, hD1, ok, dv, ev⟩
   obtain ⟨ry, hry, hyv⟩ := hR.at hi
   have my : ry ∈ rs := List.mem_of_getElem? hry
   have hil := (List.getElem?_eq_some_iff.mp hry).1
   obtain ⟨py, rfl, hSy⟩ := hyv.mono (Tst.same s1)
   have el : (enc ps).length = ps.length := List.length_map _
   have hlp : (enc ps).length < sizeLine := by rw [el]; exact small1000 (by have := ok.len; omega)
   refine ⟨_, rfl, D, rfl, .inl ⟨_, .inl hD1⟩, _, rfl, py, _, _, _, rfl, rfl, hSy, rfl, _, DGet.k (k := Sum.inl ry.2) hD1, _, rfl, py, _, _, _, rfl, rfl, hSy, rfl, topP ps ry.2, ry.1, get_enc ps ry.2, rfl, _, rfl, _, rfl, py, _, _, _, rfl, rfl, hSy, rfl, D, _, rfl, DPut.k (k := Sum.inl ry.2) hD1 hlp, ?_⟩
   refine ⟨_, addP ps ry.2 ry.1, rfl, fun b o q => ?_, ?_, ok.add (hWD ry my).1, add_dvd (i := 0) (n := 0) dv (hWD ry my).2, ?_⟩
   ·rw [upd_ne (ne_of_none q hDn)]
    exact s1 b o q
   ·rw [put_enc ps _ _ ok.nd]
    exact upd_same
   ·rw [sumv_add, ev, List.take_add_one, hry]
    exact (vsum_snoc _ _).symm)
  | (
   rintro σ H1 ⟨x, ps, rfl, s1, hD1, ok, dv, ev⟩
   rw [hR.1, List.take_length] at ev
   rw [hR.1] at ok
   refine ⟨_, rfl, D, enc ps, rfl, hD1, fun ob => for_items (d := D) (ob := ob) (kvs := enc ps) (fun j σ H' => ∃ (u : V) (acc : R) (y4 y5 : Option V), σ = [some (.ref a), some (.ref D), x, some u, y4, y5] /\ Same H H' /\ H' D = some (.frz ob (.dK (enc ps))) /\ RV K H' u acc /\ Bq D₀ (64 * 2 ^ n * j) acc /\ val acc = sumv (ps.take j)) ⟨_, (0, 1), none, none, rfl, ?_, upd_same, ⟨_, rfl, T.q_NOUGHT _⟩, ⟨by decide, by decide, ⟨(D₀ : Int), by show (D₀ : Int) = 1 * D₀; omega⟩, by show 0 ≤ _; exact Nat.zero_le _⟩, val_nought⟩ (fun i σ H1 ⟨_, _, _, _, _, _, z, _⟩ => z) ?_ ?_⟩
   ·intro b o q
    rw [upd_ne (ne_of_none q hDn)]
    exact s1 b o q
   ·rintro j kk v p σ H2 hkv ⟨u, acc, y4, y5, rfl, s2, hD2, r2, w2, ev2⟩ hp
    have hkv' : (ps.map fun p => ((Sum.inl p.1 : Key), V.int p.2))[j]? = some (kk, v) := hkv
    rw [List.getElem?_map] at hkv'
    obtain ⟨q, hq, e⟩ := Option.map_eq_some_iff.mp hkv'
    cases e
    have mq := List.mem_of_getElem? hq
    have hjl := (List.getElem?_eq_some_iff.mp hq).1
    have wq := ok.wf (by omega) mq
    have lps := ok.len
    have gq := grp_bq ok dv hlen mq
    have wa := acc_wf w2 (by omega) h0 hDn₀
    have bq := ok.bot q mq
    have e1 := same_new hp (.tup [kV (Sum.inl q.1), V.int q.2])
    refine ⟨p, _, rfl, SqT.of upd_same, rfl, _, _, rfl, _, _, rfl, rfl, ?_⟩
    refine ⟨_, rfl, _, rfl, _, rfl, q.2, q.1, rfl, (by have := bq.1; omega), big_of bq.2 (by omega), fun p1 g1 => ?_⟩
    rw [mkS_pos bq.1]
    have e2 := same_new g1 (.tup [.int (mkR q.2 q.1).1, .int (mkR q.2 q.1).2])
    refine ⟨u, .ref p1, acc, mkR q.2 q.1, 2 * n + 12, n + 8, rfl, (r2.mono (Tst.same e1)).mono (Tst.same e2), RV.of upd_same, wa, wq, by omega, fun p2 g2 => ?_⟩
    have e3 := same_new g2 (.tup [.int (plusR acc (mkR q.2 q.1)).1, .int (plusR acc (mkR q.2 q.1)).2])
    have s3 := ((e1.trans e2).trans e3)
    refine ⟨_, plusR acc (mkR q.2 q.1), _, _, rfl, s2.trans s3, s3 _ _ hD2, RV.of upd_same, (by rw [Nat.mul_succ]; exact Bq.plus h0 w2 gq), ?_⟩
    rw [val_plus w2.pos wq.pos, val_mk bq.1, ev2, List.take_add_one, hq]
    exact (sumv_snoc _ _).symm
   ·rintro σ H2 ⟨u, acc, y4, y5, rfl, s2, hD2, r2, w2, ev2⟩
    have el : (enc ps).length = ps.length := List.length_map _
    rw [el, List.take_length] at ev2
    have es := sum_is (fun r hr => (hWD r hr).1.red) w2.red (ev2.trans ev)
    rw [es] at r2
    exact ⟨_, rfl, k u H2 s2 r2⟩)
theorem ok_Q2 (T : Txt K mg t) : FnOk P w K mg base CX0 4 t.a_Q2 t.d_Q2 ["low", "high"] (sp_slope_between K) := by
 refine T.F_Q2.ok sc_Q2 (fun vs H Q E h => ?_) (fun cdv A outer s H vs Q E hr h => ?_)
 ·obtain ⟨_, _, _, _, rfl, _⟩ := h; rfl
 obtain ⟨v, w, a, b, rfl, ⟨p, x, y, rfl, hS, hx, hy⟩, ⟨p2, x2, y2, rfl, hS2, hx2, hy2⟩, ok, k⟩ := h
 refine QSs.ok (qss_one (qs_ret (qcA (ok_Q45 T) hr T.m_Q45 T.F_Q45.kp T.b_Q45 (qa_cons (qcA (ok_Q40 T) hr T.m_Q40 T.F_Q40.kp T.b_Q40 (qa_cons (qxA ix_tup (qv 1) qe_int) (qa_cons (qxA ix_tup (qv 0) qe_int) qa_nil star_sub) star_sub)) (qa_cons (qcA (ok_Q40 T) hr T.m_Q40 T.F_Q40.kp T.b_Q40 (qa_cons (qxA ix_tup (qv 1) qe_int) (qa_cons (qxA ix_tup (qv 0) qe_int) qa_nil star_sub) star_sub)) qa_nil star_call) star_call)))) ?_
 extract_lets +lift
 try dsimp -zeta -zetaDelta only [Cx.nox, Cx.wish, cxOf]
 refine ⟨_, rfl, p2, _, _, _, rfl, rfl, hS2, rfl, _, rfl, p, _, _, _, rfl, rfl, hS, rfl, y2, y, b.2, a.2, 610, 610, rfl, hy2, hy, ok.b2, ok.a2, by decide, fun v1 H1 s1 h1 => ?_⟩
 refine ⟨_, rfl, p2, _, _, _, rfl, rfl, Tst.same s1 _ _ hS2, rfl, _, rfl, p, _, _, _, rfl, rfl, Tst.same s1 _ _ hS, rfl, x2, x, b.1, a.1, 102, 102, rfl, hx2.mono (Tst.same s1), hx.mono (Tst.same s1), ok.b1, ok.a1, by decide, fun v2 H2 s2 h2 => ?_⟩
 exact ⟨v1, v2, _, _, 1221, 205, rfl, h1.mono (Tst.same s2), h2, ok.w2, ok.w1, by decide, ok.ne, fun v3 H3 s3 h3 => k v3 H3 (s1.trans (s2.trans s3)) h3⟩
theorem ok_Q38 (T : Txt K mg t) : FnOk P w K mg base CX0 1 t.a_Q38 t.d_Q38 ["rule"] (sp_top_of K) := by
 refine T.F_Q38.ok sc_Q38 (fun vs H Q E h => ?_) (fun cdv A outer s H vs Q E hr h => ?_)
 ·obtain ⟨_, _, rfl, _⟩ := h; rfl
 obtain ⟨v, rl, rfl, hv, ok, k1, k2⟩ := h
 refine QSs.ok (qss_consL (qs_if (qt_cmpR op_eq (qxA ix_tup (qv 0) qe_int) (qe_glob (v := .str "power") rfl T.m_POWER ⟨_, rfl⟩) (nomark _)) (qss_one (qs_ret qe_non)) qss_nil)
   (qss_one (qs_ret (qxA ix_tup (qxA ix_tup (qxA ix_tup (qv 0) qe_int) (qe_un un_neg qe_int)) qe_int)))) ?_
 extract_lets +lift
 try dsimp -zeta -zetaDelta only [Cx.nox, Cx.wish, cxOf]
 cases rl with
 | pow kk =>
  obtain ⟨p, rfl, hS⟩ := hv
  exact ⟨_, rfl, p, _, _, _, rfl, rfl, hS, rfl, rfl, _, rfl, iteD1 rfl (k1 kk rfl)⟩
 | tab rows =>
  obtain ⟨p, q, xs, rfl, hS, hq, al⟩ := hv
  have ok' : RowsG rows := ok
  have n2 := ok'.n2
  obtain ⟨xl, w, hat, hw, ⟨pw, y1, y2, rfl, hSw, h1, h2⟩, _⟩ := al.last (n := rows.length - 1) (by omega)
  refine ⟨_, rfl, p, _, _, _, rfl, rfl, hS, rfl, rfl, _, rfl, iteD0 (by decide) ?_⟩
  refine ⟨_, rfl, p, _, _, _, rfl, rfl, hS, rfl, _, rfl, q, _, _, _, rfl, rfl, hq, hat, pw, _, _, _, rfl, rfl, hSw, rfl, k2 rows _ rfl ?_⟩
  unfold topM
  rw [getD_at hw]
  exact h1
theorem ok_Q10 (T : Txt K mg t) : FnOk P w K mg base CX0 2 t.a_Q10 t.d_Q10 ["rule", "speed"] (sp_is_beyond K) := by
 refine T.F_Q10.ok sc_Q10 (fun vs H Q E h => ?_) (fun cdv A outer s H vs Q E hr h => ?_)
 ·obtain ⟨_, _, _, _, rfl, _⟩ := h; rfl
 obtain ⟨v, w, rl, s, rfl, hv, ok, hw, ws, k⟩ := h
 refine QSs.ok (qss_consL (qsA 2 sc_Q10.nd (qcA (ok_Q38 T) hr T.m_Q38 T.F_Q38.kp T.b_Q38 (qa_cons (qv 0) qa_nil star_name)))
   (qss_one (qs_ret (qe_and (qe_cmpR op_notN (qv 2) qe_non (nomark _)) (qe_one (qcA (ok_Q31 T) hr T.m_Q31 T.F_Q31.kp T.b_Q31 (qa_cons (qv 2) (qa_cons (qv 1) qa_nil star_name) star_name))))))) ?_
 extract_lets +lift
 try dsimp -zeta -zetaDelta only [Cx.nox, Cx.wish, cxOf]
 refine ⟨_, rfl, v, rl, rfl, hv, ok, ?_, ?_⟩
 ·rintro kk rfl
  exact ⟨_, rfl, rfl, _, rfl, iteNS rfl k⟩
 ·rintro rows x rfl hx
  obtain ⟨px, rfl, _⟩ := id hx
  have ok' : RowsG rows := ok
  obtain ⟨r, e, er⟩ := last_g ok'
  have wt : Wf 102 (topM rows) := by rw [er]; exact ok'.sp r (List.mem_of_getElem? e)
  refine ⟨_, rfl, rfl, _, rfl, iteN1 (fun z => nomatch z) ?_⟩
  exact ⟨_, rfl, _, rfl, .ref px, w, topM rows, s, 102, 310, rfl, hx, hw, wt, ws, by decide, k⟩
theorem ok_Q20 (T : Txt K mg t) : FnOk P w K mg base CX0 2 t.a_Q20 t.d_Q20 ["rows", "speed"] (sp_place_of K) := by
 refine T.F_Q20.ok sc_Q20 (fun vs H Q E h => ?_) (fun cdv A outer s H vs Q E hr h => ?_)
 ·obtain ⟨_, _, _, _, _, rfl, _⟩ := h; rfl
 obtain ⟨q, v, xs, rows, s, rfl, hq, al, ok, hv, hs, hb, k⟩ := h
 refine QSs.ok (qss_consL (qsA 2 sc_Q20.nd qe_int)
   (qss_consL (qs_while PassesOwn.never (qt_val (qcA (ok_Q31 T) hr T.m_Q31 T.F_Q31.kp T.b_Q31 (qa_cons (qxA ix_tup (qxA ix_tup (qv 0) (qv 2)) qe_int) (qa_cons (qv 1) qa_nil star_name) star_sub)))
   (qss_one (qs_aug (i := 2) sc_Q20.nd rfl (by first | exact Or.inl rfl | exact Or.inr rfl) qe_int ip_add)))
   (qss_one (qs_ret (qv 2))))) ?_
 extract_lets +lift
 try dsimp -zeta -zetaDelta only [Cx.nox, Cx.wish, cxOf]
 have pl := ok.p_lt hs.wf.pos hb
 refine ⟨fun m σ H' => ∃ i : Nat, σ = [some (.ref q), some v, some (.int (i : Int))] /\ H' = H /\ i ≤ pOf rows s /\ m = pOf rows s - i, ⟨_, 0, rfl, rfl, Nat.zero_le _, rfl⟩, ?_⟩
 rintro m σ H' ⟨i, rfl, rfl, hi, rfl⟩
 have hx0 : xs[i]? = some (xs[i]'(by rw [al.len]; omega)) := List.getElem?_eq_getElem _
 obtain ⟨r, hr, hrv⟩ := al.at hx0
 obtain ⟨pa, x, y, ex, hS, hx, hy⟩ := id hrv
 have mr := List.mem_of_getElem? hr
 refine ⟨_, rfl, _, rfl, q, _, _, _, rfl, rfl, hq, atI_nat hx0, pa, _, _, _, ex, rfl, hS, rfl, _, rfl, x, v, r.1, s, 102, 310, rfl, hx, hv, ok.sp r mr, hs.wf, by decide, _, rfl, ?_⟩
 rw [cnt_p hs.wf.pos ok.inc ok.allP hr]
 by_cases c : i < pOf rows s
 ·refine iteD1 c ?_
  refine ⟨_, fun _ _ z => z, ?_⟩
  exact ⟨_, rfl, _, _, rfl, rfl, _, (by omega), i + 1, rfl, rfl, c, rfl⟩
 ·refine iteD0 c ?_
  have e : i = pOf rows s := by omega
  subst e
  exact ⟨_, rfl, k⟩
theorem ok_Q21 (T : Txt K mg t) : FnOk P w K mg base CX0 5 t.a_Q21 t.d_Q21 ["rule", "speed"] (sp_power_at K) := by
 refine T.F_Q21.ok sc_Q21 (fun vs H Q E h => ?_) (fun cdv A outer s H vs Q E hr h => ?_)
 ·obtain ⟨_, _, _, _, rfl, _⟩ := h; rfl
 obtain ⟨v, w, rl, s, rfl, hv, ok, hw, hs, hbl, k⟩ := h
 refine QSs.ok (qss_consL (qs_if (qt_cmpR op_eq (qxA ix_tup (qv 0) qe_int) (qe_glob (v := .str "power") rfl T.m_POWER ⟨_, rfl⟩) (nomark _)) (qss_one (qs_ret (qcA (ok_Q37 T) hr T.m_Q37 T.F_Q37.kp T.b_Q37 (qa_cons (qv 1) (qa_cons (qxA ix_tup (qv 0) qe_int) qa_nil star_sub) star_name)))) qss_nil)
   (qss_consL (qs_if (qt_val (qcA (ok_Q10 T) hr T.m_Q10 T.F_Q10.kp T.b_Q10 (qa_cons (qv 0) (qa_cons (qv 1) qa_nil star_name) star_name))) (qss_one qs_never) qss_nil)
   (qss_consL (qsA 2 sc_Q21.nd (qxA ix_tup (qv 0) qe_int))
   (qss_consL (qsA 3 sc_Q21.nd (qcA (ok_Q20 T) hr T.m_Q20 T.F_Q20.kp T.b_Q20 (qa_cons (qv 2) (qa_cons (qv 1) qa_nil star_name) star_name)))
   (qss_consL (qsA 4 sc_Q21.nd (qxA ix_tup (qv 2) (qv 3)))
   (qss_consL (qs_if (qt_cmpR (op_eqD hr) (qxA ix_tup (qv 4) qe_int) (qv 1) (nomark _)) (qss_one (qs_ret (qxA ix_tup (qv 4) qe_int))) qss_nil)
   (qss_consL (qsA 5 sc_Q21.nd (qxA ix_tup (qv 2) (qe_op op_sub (qv 3) qe_int)))
   (qss_one (qs_ret (qcA (ok_Q44 T) hr T.m_Q44 T.F_Q44.kp T.b_Q44 (qa_cons (qxA ix_tup (qv 5) qe_int) (qa_cons (qcA (ok_Q41 T) hr T.m_Q41 T.F_Q41.kp T.b_Q41 (qa_cons (qcA (ok_Q2 T) hr T.m_Q2 T.F_Q2.kp T.b_Q2 (qa_cons (qv 5) (qa_cons (qv 4) qa_nil star_name) star_name)) (qa_cons (qcA (ok_Q40 T) hr T.m_Q40 T.F_Q40.kp T.b_Q40 (qa_cons (qv 1) (qa_cons (qxA ix_tup (qv 5) qe_int) qa_nil star_sub) star_name)) qa_nil star_call) star_call)) qa_nil star_call) star_sub))))))))))) ?_
 extract_lets +lift
 try dsimp -zeta -zetaDelta only [Cx.nox, Cx.wish, cxOf]
 cases rl with
 | pow kk =>
  obtain ⟨p, rfl, hS⟩ := hv
  have ok' : 2 ≤ kk /\ kk ≤ 4 := ok
  refine ⟨_, rfl, p, _, _, _, rfl, rfl, hS, rfl, rfl, _, rfl, iteD1 rfl ?_⟩
  exact ⟨_, rfl, _, rfl, p, _, _, _, rfl, rfl, hS, rfl, w, s, kk, rfl, hw, hs.wf, by omega, by omega, k⟩
 | tab rows =>
  have ok' : RowsG rows := ok
  obtain ⟨p, q, xs, rfl, hS, hq, al⟩ := id hv
  refine ⟨_, rfl, p, _, _, _, rfl, rfl, hS, rfl, rfl, _, rfl, iteD0 (by decide) ?_⟩
  refine ⟨_, rfl, _, rfl, .ref p, w, .tab rows, s, rfl, hv, ok, hw, hs.wf, _, rfl, ?_⟩
  cases c : beyM (.tab rows) s with
  | true => rw [(bey_iff ok).mpr hbl] at c; cases c
  | false =>
   refine iteF ?_
   have hb := (bey_iff ok).mp c
   have pl := ok'.p_lt hs.wf.pos hb
   have hx0 : xs[pOf rows s]? = some (xs[pOf rows s]'(by rw [al.len]; exact pl)) := List.getElem?_eq_getElem _
   obtain ⟨r, hr', hrv⟩ := al.at hx0
   obtain ⟨pa, x, y, ex, hSr, hx, hy⟩ := id hrv
   have mr := List.mem_of_getElem? hr'
   refine ⟨_, rfl, p, _, _, _, rfl, rfl, hS, rfl, _, rfl, _, rfl, q, w, xs, rows, s, rfl, hq, al, ok', hw, hs, hb, ?_⟩
   refine ⟨_, rfl, _, rfl, q, _, _, _, rfl, rfl, hq, atI_nat hx0, ?_⟩
   refine ⟨_, rfl, pa, _, _, _, ex, rfl, hSr, rfl, _, rfl, dR r.1, dR s, hx.deep, hw.deep, dR_lay _, dR_lay _, dR_depth _, _, rfl, ?_⟩
   rw [eqv_iff]
   have kb : toR K H Q (powT rows s) := k
   unfold powT at kb
   rw [getD_at hr'] at kb
   by_cases ce : r.1 = s
   ·refine iteD1 ce ?_
    refine ⟨_, rfl, pa, _, _, _, ex, rfl, hSr, rfl, ?_⟩
    by_cases c0 : pOf rows s = 0
    ·rw [if_pos c0] at kb
     rw [c0] at hr'
     rw [getD_at hr'] at kb
     exact kb _ _ (Same.refl H) hy
    ·rw [if_neg c0] at kb
     obtain ⟨r1, e1⟩ : ∃ r1, rows[pOf rows s - 1]? = some r1 := ⟨_, List.getElem?_eq_getElem (by omega)⟩
     rw [getD_at e1] at kb
     have sl := slG ok' (by omega) e1 hr'
     have m1 := List.mem_of_getElem? e1
     have le := line_end (wred (ok'.sp _ m1)) (wred (ok'.pw _ m1)) (wred (ok'.sp r mr)) (wred (ok'.pw r mr)) sl.ne
     unfold lineR at kb
     rw [← ce, le] at kb
     exact kb _ _ (Same.refl H) hy
   ·refine iteD0 ce ?_
    have c0 : pOf rows s ≠ 0 := fun z => by
     have e := zero_g ok' hs z
     obtain ⟨y0, ey⟩ := ok'.zero
     rw [z, ey] at hr'
     cases hr'
     exact ce e.symm
    rw [if_neg c0] at kb
    have hw0 : xs[pOf rows s - 1]? = some (xs[pOf rows s - 1]'(by rw [al.len]; omega)) := List.getElem?_eq_getElem _
    obtain ⟨r0, hr0, hrv0⟩ := al.at hw0
    rw [getD_at hr0] at kb
    obtain ⟨pb, x0, y0, ex0, hS0, hx0', hy0⟩ := id hrv0
    have sl := slG ok' (by omega) hr0 hr'
    obtain ⟨wm, wt, wl⟩ := line_g sl hs.wf
    refine ⟨_, rfl, _, rfl, _, _, rfl, rfl, q, _, _, _, rfl, rfl, hq, (by rw [show ((pOf rows s : Int) - 1) = ((pOf rows s - 1 : Nat) : Int) by omega]; exact atI_nat hw0), ?_⟩
    refine ⟨_, rfl, pb, _, _, _, ex0, rfl, hS0, rfl, _, rfl, _, rfl, _, _, r0, r, rfl, hrv0, hrv, sl, fun v3 H3 s3 h3 => ?_⟩
    refine ⟨_, rfl, _, rfl, pb, _, _, _, ex0, rfl, Tst.same s3 _ _ hS0, rfl, w, x0, s, r0.1, 310, 102, rfl, hw.mono (Tst.same s3), hx0'.mono (Tst.same s3), hs.wf, sl.a1, by decide, fun v4 H4 s4 h4 => ?_⟩
    refine ⟨v3, v4, slopeR r0 r, minusR s r0.1, 1426, 413, rfl, h3.mono (Tst.same s4), h4, sl.sl, wm, by decide, fun p5 g5 => ?_⟩
    have s5 := same_new g5 (.tup [.int (timesR (slopeR r0 r) (minusR s r0.1)).1, .int (timesR (slopeR r0 r) (minusR s r0.1)).2])
    have s35 := (s3.trans s4).trans s5
    refine ⟨y0, .ref p5, r0.2, timesR (slopeR r0 r) (minusR s r0.1), 610, 1839, rfl, hy0.mono (Tst.same s35), rv_new (K := K) s5, sl.a2, wt, by decide, fun p6 g6 => ?_⟩
    have s6 := same_new g6 (.tup [.int (plusR r0.2 (timesR (slopeR r0 r) (minusR s r0.1))).1, .int (plusR r0.2 (timesR (slopeR r0 r) (minusR s r0.1))).2])
    exact kb _ _ (s35.trans s6) (rv_new (K := K) s6)
theorem ok_Q11 (T : Txt K mg t) : FnOk P w K mg base CX0 6 t.a_Q11 t.d_Q11 ["rule", "speeds"] (sp_few_table K) := by
 refine T.F_Q11.ok sc_Q11 (fun vs H Q E h => ?_) (fun cdv A outer s H vs Q E hr h => ?_)
 ·obtain ⟨_, _, _, _, _, rfl, _⟩ := h; rfl
 obtain ⟨v, a, ys, rl, zs, rfl, hv, ok, hS, al, fs, k⟩ := h
 refine QSs.ok (qss_consL (qsA 2 sc_Q11.nd (qe_lst (qa_cons (qe_tup (qa_cons (qe_glob (v := .ref t.c_NOUGHT) rfl T.m_NOUGHT rfl) (qa_cons (qcA (ok_Q21 T) hr T.m_Q21 T.F_Q21.kp T.b_Q21 (qa_cons (qv 0) (qa_cons (qe_glob (v := .ref t.c_NOUGHT) rfl T.m_NOUGHT rfl) qa_nil star_name) star_name)) qa_nil star_call) star_name)) qa_nil star_tup)))
   (qss_consL (qs_for PassesOwn.never rfl (qi_tup (qv 1)) (qg_name (i := 3) sc_Q11.nd rfl (by first | exact Or.inl rfl | exact Or.inr rfl))
   (qss_one (qs_expr (qe_bm PySem.F.plainAttrs_list PySem.F.slot_list_append PySem.F.type_list_append mt_append (qv 2) (qa_cons (qe_tup (qa_cons (qv 3) (qa_cons (qcA (ok_Q21 T) hr T.m_Q21 T.F_Q21.kp T.b_Q21 (qa_cons (qv 0) (qa_cons (qv 3) qa_nil star_name) star_name)) qa_nil star_call) star_name)) qa_nil star_tup)))))
   (qss_one (qs_ret (qe_tup (qa_cons (qe_glob (v := .str "table") rfl T.m_TABLE ⟨_, rfl⟩) (qa_cons (qe_callTy call_tupleZ (by rfl) T.z_tuple boot_tuple (qa_cons (qv 2) qa_nil star_name)) qa_nil star_call) star_name)))))) ?_
 extract_lets +lift
 try dsimp -zeta -zetaDelta only [Cx.nox, Cx.wish, cxOf]
 have nul : RV K H (.ref t.c_NOUGHT) (0, 1) := ⟨_, rfl, T.q_NOUGHT H⟩
 refine ⟨_, rfl, v, .ref t.c_NOUGHT, rl, (0, 1), rfl, hv, RlS.g ok, nul, spd_zero, below_zero ok, fun v1 H1 s1 h1 => ?_⟩
 refine ⟨zl2, fun p1 g1 => ⟨zl1, fun l gl => ?_⟩⟩
 have e1 := same_new g1 (.tup [.ref t.c_NOUGHT, v1])
 have e2 := same_new gl (.lst [.ref p1])
 have sL := (s1.trans e1).trans e2
 have rw0 : RowV K (upd (upd H1 p1 (.tup [.ref t.c_NOUGHT, v1])) l (.lst [.ref p1])) (.ref p1) ((0, 1), powM rl (0, 1)) := ⟨p1, _, _, rfl, SqT.of (e2 _ _ upd_same), ⟨_, rfl, T.q_NOUGHT _⟩, h1.mono (Tst.same (e1.trans e2))⟩
 have hl0 : (upd (upd H1 p1 (.tup [.ref t.c_NOUGHT, v1])) l (.lst [.ref p1])) l = some (.lst [.ref p1]) := upd_same
 have nl : ∀ b o, H b = some o -> b ≠ l := fun b o q z => by
  subst z
  have := e1 _ _ (s1 _ _ q)
  rw [gl] at this
  cases this
 generalize (upd (upd H1 p1 (.tup [.ref t.c_NOUGHT, v1])) l (.lst [.ref p1])) = HL at sL rw0 hl0 ⊢
 refine ⟨_, rfl, a, rfl, ⟨_, Tst.same sL _ _ hS⟩, for_tup (K := K) (a := a) (xs := ys) (fun i σ H' => ∃ (x3 : Option V) (xs : List V), σ = [some v, some (.ref a), some (.ref l), x3] /\ Same H H' /\ H' l = some (.lst xs) /\ Als (RowV K H') xs (fewM rl (zs.take i))) ⟨none, [.ref p1], rfl, sL, hl0, .cons rw0 .nil⟩ (fun i σ H1 _ ⟨_, _, _, sm, _⟩ => Tst.same sm _ _ hS) ?_ ?_⟩
 ·rintro i x σ H2 hx ⟨x3, xs, rfl, sm, hl2, al2⟩
  obtain ⟨z, hz, rvz⟩ := al.at hx
  have mz := List.mem_of_getElem? hz
  have okz := bq_spd (fs.bq z mz) (Int.le_of_lt (fs.pos z mz))
  have hl := fs.n11
  have hil := (List.getElem?_eq_some_iff.mp hz).1
  have lxs : xs.length = (zs.take i).length + 1 := by rw [al2.len]; unfold fewM; rw [List.length_cons, List.length_map]
  rw [List.length_take] at lxs
  refine ⟨_, rfl, .inl ⟨rfl, _, SqL.of hl2⟩, _, rfl, _, rfl, _, rfl, v, x, rl, z, rfl, hv.mono (Tst.same sm), RlS.g ok, rvz.mono (Tst.same sm), okz, fs.bl z mz, fun v3 H3 s3 h3 => ?_⟩
  ·refine ⟨zl2, fun p4 g4 => ⟨l, xs, .ref p4, rfl, rfl, same_new g4 _ _ _ (s3 _ _ hl2), small1000 (by omega), ?_⟩⟩
   have e4 := same_new g4 (.tup [x, v3])
   have hl4 := e4 _ _ (s3 _ _ hl2)
   have s24 := s3.trans e4
   have rw4 : RowV K (upd H3 p4 (.tup [x, v3])) (.ref p4) (z, powM rl z) := ⟨p4, _, _, rfl, SqT.of upd_same, rvz.mono (Tst.same (sm.trans s24)), h3.mono (Tst.same e4)⟩
   have tm := Tst.up (K := K) hl4 (xs ++ [.ref p4])
   refine ⟨_, xs ++ [.ref p4], rfl, fun b o q => ?_, upd_same, ?_⟩
   ·rw [upd_ne (nl b o q)]
    exact s24 _ _ (sm _ _ q)
   ·rw [List.take_add_one, hz, show (some z).toList = [z] from rfl, fewM_snoc]
    exact (al2.mono fun _ _ q => (q.mono (Tst.same s24)).mono tm).snoc (rw4.mono tm)
 ·rintro σ H2 ⟨x3, xs, rfl, sm, hl2, al2⟩
  rw [al.len, List.take_length] at al2
  refine ⟨_, rfl, l, xs, rfl, SqL.of hl2, fun q ob gq hob => ⟨zl2, fun p gp => ?_⟩⟩
  have e1 := same_new gq (.frz ob (.tup xs))
  have e2 := same_new gp (.tup [.str (Str.ofString "table"), .ref q])
  exact k _ _ (sm.trans (e1.trans e2)) ⟨p, q, ob, xs, rfl, SqT.of upd_same, e2 _ _ upd_same, hob, al2.mono fun _ _ z => z.mono (Tst.same (e1.trans e2))⟩
theorem ok_Q32 (T : Txt K mg t) : FnOk P w K mg base CX0 4 t.a_Q32 t.d_Q32 ["table", "speed"] (sp_mixture K) := by
 refine T.F_Q32.ok sc_Q32 (fun vs H Q E h => ?_) (fun cdv A outer s H vs Q E hr h => ?_)
 ·obtain ⟨_, _, _, _, rfl, _⟩ := h; rfl
 obtain ⟨v, w, rows, s, rfl, hv, ok, hw, hs, hb, k⟩ := h
 refine QSs.ok (qss_consL (qsA 2 sc_Q32.nd (qxA ix_tup (qv 0) qe_int))
   (qss_consL (qsA 3 sc_Q32.nd (qcA (ok_Q20 T) hr T.m_Q20 T.F_Q20.kp T.b_Q20 (qa_cons (qv 2) (qa_cons (qv 1) qa_nil star_name) star_name)))
   (qss_consL (qsA 4 sc_Q32.nd (qxA ix_tup (qxA ix_tup (qv 2) (qv 3)) qe_int))
   (qss_consL (qs_if (qt_cmpR (op_eqD hr) (qv 4) (qv 1) (nomark _)) (qss_one (qs_ret (qe_tup (qa_cons (qe_tup (qa_cons (qv 4) (qa_cons (qe_glob (v := .ref t.c_ONE) rfl T.m_ONE rfl) qa_nil star_name) star_name)) qa_nil star_tup)))) qss_nil)
   (qss_consL (qsA 5 sc_Q32.nd (qxA ix_tup (qxA ix_tup (qv 2) (qe_op op_sub (qv 3) qe_int)) qe_int))
   (qss_consL (qsA 6 sc_Q32.nd (qcA (ok_Q45 T) hr T.m_Q45 T.F_Q45.kp T.b_Q45 (qa_cons (qcA (ok_Q40 T) hr T.m_Q40 T.F_Q40.kp T.b_Q40 (qa_cons (qv 1) (qa_cons (qv 5) qa_nil star_name) star_name)) (qa_cons (qcA (ok_Q40 T) hr T.m_Q40 T.F_Q40.kp T.b_Q40 (qa_cons (qv 4) (qa_cons (qv 5) qa_nil star_name) star_name)) qa_nil star_call) star_call)))
   (qss_one (qs_ret (qe_tup (qa_cons (qe_tup (qa_cons (qv 5) (qa_cons (qcA (ok_Q40 T) hr T.m_Q40 T.F_Q40.kp T.b_Q40 (qa_cons (qe_glob (v := .ref t.c_ONE) rfl T.m_ONE rfl) (qa_cons (qv 6) qa_nil star_name) star_name)) qa_nil star_call) star_name)) (qa_cons (qe_tup (qa_cons (qv 4) (qa_cons (qv 6) qa_nil star_name) star_name)) qa_nil star_tup) star_tup)))))))))) ?_
 extract_lets +lift
 try dsimp -zeta -zetaDelta only [Cx.nox, Cx.wish, cxOf]
 obtain ⟨p, q, xs, rfl, hS, hq, al⟩ := id hv
 have pl := ok.p_lt hs.wf.pos hb
 have hx0 : xs[pOf rows s]? = some (xs[pOf rows s]'(by rw [al.len]; exact pl)) := List.getElem?_eq_getElem _
 obtain ⟨r, hr', hrv⟩ := al.at hx0
 obtain ⟨pa, x, y, ex, hSr, hx, hy⟩ := id hrv
 refine ⟨_, rfl, p, _, _, _, rfl, rfl, hS, rfl, _, rfl, _, rfl, q, w, xs, rows, s, rfl, hq, al, ok, hw, hs, hb, ?_⟩
 refine ⟨_, rfl, _, rfl, q, _, _, _, rfl, rfl, hq, atI_nat hx0, pa, _, _, _, ex, rfl, hSr, rfl, ?_⟩
 refine ⟨_, rfl, _, rfl, dR r.1, dR s, hx.deep, hw.deep, dR_lay _, dR_lay _, dR_depth _, _, rfl, ?_⟩
 rw [eqv_iff]
 by_cases c : r.1 = s
 ·refine iteD1 c ?_
  have em : mixM rows s = [(s, (1, 1))] := by unfold mixM; rw [getD_at hr', if_pos c]
  refine ⟨_, rfl, zl2, fun p1 h1 => ⟨zl1, fun p2 h2 => ?_⟩⟩
  have m1 := same_new h1 (.tup [x, .ref t.c_ONE])
  have m2 := same_new h2 (.tup [.ref p1])
  refine k _ _ (m1.trans m2) ⟨p2, _, rfl, SqT.of upd_same, ?_⟩
  rw [em]
  exact .cons ⟨p1, _, _, rfl, SqT.of (m2 _ _ upd_same), by rw [← c]; exact hx.mono (Tst.same (m1.trans m2)), ⟨_, rfl, T.q_ONE _⟩⟩ .nil
 ·refine iteD0 c ?_
  have c0 : pOf rows s ≠ 0 := fun z => by
   have e := zero_g ok hs z
   obtain ⟨y0, ey⟩ := ok.zero
   rw [z, ey] at hr'
   cases hr'
   exact c e.symm
  have hw0 : xs[pOf rows s - 1]? = some (xs[pOf rows s - 1]'(by rw [al.len]; omega)) := List.getElem?_eq_getElem _
  obtain ⟨r1, e1, hrv1⟩ := al.at hw0
  obtain ⟨pb, xb, yb, exb, hSb, hxb, hyb⟩ := id hrv1
  have er' : rows[pOf rows s - 1 + 1]? = some r := by rw [show pOf rows s - 1 + 1 = pOf rows s by omega]; exact hr'
  obtain ⟨w1, w2, ne, wp, wq⟩ := part_g ok hs e1 er'
  have sl := slG ok (Nat.lt_succ_self _) e1 er'
  have em : mixM rows s = [(r1.1, minusR (1, 1) (partR r1.1 r.1 s)), (r.1, partR r1.1 r.1 s)] := by unfold mixM; rw [getD_at hr', getD_at e1, if_neg c]
  have ei : ((pOf rows s : Nat) : Int) - 1 = ((pOf rows s - 1 : Nat) : Int) := by omega
  refine ⟨_, rfl, _, rfl, _, _, rfl, rfl, q, _, _, _, rfl, rfl, hq, (by rw [ei]; exact atI_nat hw0), pb, _, _, _, exb, rfl, hSb, rfl, ?_⟩
  refine ⟨_, rfl, _, rfl, w, xb, s, r1.1, 310, 102, rfl, hw, hxb, hs.wf, sl.a1, by decide, fun v1 H1 s1 h1 => ?_⟩
  refine ⟨_, rfl, _, rfl, x, xb, r.1, r1.1, 102, 102, rfl, hx.mono (Tst.same s1), hxb.mono (Tst.same s1), sl.b1, sl.a1, by decide, fun v2 H2 s2 h2 => ?_⟩
  refine ⟨v1, v2, minusR s r1.1, minusR r.1 r1.1, 413, 205, rfl, h1.mono (Tst.same s2), h2, w1, w2, by decide, ne, fun v3 H3 s3 h3 => ?_⟩
  have h3' : RV K H3 v3 (partR r1.1 r.1 s) := h3
  have s13 := (s1.trans s2).trans s3
  refine ⟨_, rfl, _, rfl, .ref t.c_ONE, v3, (1, 1), partR r1.1 r.1 s, 1, 618, rfl, ⟨_, rfl, T.q_ONE _⟩, h3', one_wf, wp, by decide, fun v4 H4 s4 h4 => ?_⟩
  have s14 := s13.trans s4
  refine ⟨zl2, fun p5 g5 => ⟨_, rfl, _, rfl, zl2, fun p6 g6 => ⟨zl2, fun p7 g7 => ?_⟩⟩⟩
  have m5 := same_new g5 (.tup [xb, v4])
  have m6 := same_new g6 (.tup [x, v3])
  have m7 := same_new g7 (.tup [.ref p5, .ref p6])
  have s47 := (m5.trans m6).trans m7
  refine k _ _ (s14.trans s47) ⟨p7, _, rfl, SqT.of upd_same, ?_⟩
  rw [em]
  exact .cons ⟨p5, _, _, rfl, SqT.of (m7 _ _ (m6 _ _ upd_same)), hxb.mono (Tst.same (s14.trans s47)), h4.mono (Tst.same s47)⟩ (.cons ⟨p6, _, _, rfl, SqT.of (m7 _ _ upd_same), hx.mono (Tst.same (s14.trans s47)), h3'.mono (Tst.same (s4.trans s47))⟩ .nil)
theorem ok_Q6 (T : Txt K mg t) : FnOk P w K mg base CX0 1 t.a_Q6 t.d_Q6 ["table", "speeds"] (sp_row_numbers K) := by
 refine T.F_Q6.ok sc_Q6 (fun vs H Q E h => ?_) (fun cdv A outer s H vs Q E hr h => ?_)
 ·obtain ⟨_, _, _, _, _, rfl, _⟩ := h; rfl
 obtain ⟨v, a, rows, xs, zs, rfl, hv, l12, hS, al, l64, k⟩ := h
 refine QSs.ok (qss_consL (qsA 2 sc_Q6.nd (qe_lcomp (N' := ["row"]) (src := [none]) rfl (by exact (qi_tup (qe_ix ix_tup (qv 0) qe_int (fun _ _ => rfl)))) (fun _ _ _ _ _ => (by exact (by exact qg_name (i := 0) (by show List.Nodup (["row"] : List Str); decide +kernel) (by exact rfl) (by first | exact Or.inl rfl | exact Or.inr rfl)))) (fun _ _ _ _ _ => qts_nil) (fun _ _ _ _ _ => (by exact (by exact (qe_ix (ix_tupK (K := K) (by exact rfl)) (by exact (qv 0)) qe_int (by exact fun _ _ => rfl))))) (by exact trivial) rfl (by decide +kernel) rfl (by decide +kernel) (by exact cells_of rfl trivial)))
   (qss_one (qs_ret (qe_lcomp (N' := ["speed", "rows"]) (src := [none, some 2]) rfl (by exact (qi_list (qv 1))) (fun _ _ _ _ _ => (by exact (by exact qg_name (i := 0) (by show List.Nodup (["speed", "rows"] : List Str); decide +kernel) (by exact rfl) (by first | exact Or.inl rfl | exact Or.inr rfl)))) (fun _ _ _ _ _ => qts_nil) (fun _ _ _ _ _ => (by exact (by exact (qe_ifExp (qt_cmpR (op_inDK (K := K) (by exact rfl) (by exact hr)) (by exact (qv 0)) (by exact (qv 1)) (by with_unfolding_all rfl)) (by exact (qe_bmK (K := K) (by exact rfl) PySem.F.plainAttrs_list PySem.F.slot_list_index PySem.F.type_list_index (mt_indexDK (K := K) (by exact rfl) (by exact hr)) (by exact (qv 1)) (qa_cons (by exact (qv 0)) qa_nil star_name))) qe_non)))) (by exact ⟨rfl, rfl, rfl, rfl, trivial⟩) rfl (by decide +kernel) rfl (by decide +kernel) (by exact cells_of rfl ⟨rfl, trivial⟩))))) ?_
 extract_lets +lift
 try dsimp -zeta -zetaDelta only [Cx.nox, Cx.wish, cxOf]
 obtain ⟨p, q, ys, rfl, hSp, hq, aly⟩ := id hv
 refine ⟨_, rfl, p, _, _, _, rfl, rfl, hSp, rfl, q, rfl, ⟨_, hq⟩, fun D hD => comp_mapT (K := K) (a := q) (xs := ys) (ds := rows) (P := RV K) (f := fun r => r.1) (fun _ _ _ _ t z => z.mono t) hD hq aly.len (by omega) (fun i x d H' hx hd sm Rk E kR => ?_) fun H1 vs s1 hD1 al1 => ?_⟩
 ·obtain ⟨d', hd', rv⟩ := aly.at hx
  rw [hd] at hd'
  cases hd'
  obtain ⟨pa, x1, y1, ex, hSr, hx1, hy1⟩ := rv.mono (Tst.same sm)
  exact ⟨Ext.set rfl, _, rfl, pa, _, _, _, ex, rfl, hSr, rfl, kR _ _ (Same.refl _) hx1⟩
 have dall : DeepAll K H1 vs ((rows.map fun r => r.1).map dR) := al1.deep fun v d z => z.deep
 have lays : Lays ((rows.map fun r => r.1).map dR) := fun e he => by
  obtain ⟨z, _, rfl⟩ := List.mem_map.mp he
  exact ⟨dR_lay _, dR_depth _⟩
 have hS1 : SqL K H1 a xs := s1.seq hS
 have lx : xs.length = zs.length := al.len
 refine ⟨_, rfl, a, rfl, ⟨_, hS1⟩, fun D2 hD2 => comp_ix (wlk_lst hS1) (fun _ => true) (fun i => numV rows (zs.getD i (0, 1))) hD2 (by omega) (fun i x H' hi sm hx Rk E kR _ => ?_) fun H2 s2 hD2' => ?_⟩
 ·obtain ⟨z, hz, rv⟩ := al.at hx
  have rv' : RV K H' x z := (rv.mono (Tst.same s1)).mono (Tst.same sm)
  have eg : zs.getD i (0, 1) = z := by rw [List.getD_eq_getElem?_getD, hz]; rfl
  rw [eg] at kR
  have hV : SqL K H' D vs := sm.seq (SqL.of hD1)
  have da := DeepAll.same sm dall
  have sf : PyData.eqv (dR z) (dR z) = true := by rw [eqv_iff]; exact decide_eq_true rfl
  refine ⟨Ext.set rfl, ⟨_, rfl, _, rfl, D, vs, _, dR z, rfl, hV, da, lays, rv'.deep, dR_lay _, sf, _, rfl, ?_⟩⟩
  have ea : ((rows.map fun r => r.1).map dR).any (fun e => PyData.eqv e (dR z)) = rows.any fun r => decide (r.1 = z) := by
   rw [List.any_map, List.any_map]
   refine congrArg (List.any rows) (funext fun r => ?_)
   exact eqv_iff
  rw [ea]
  cases c : rows.any fun r => decide (r.1 = z) with
  | false =>
   refine iteF ?_
   have : numV rows z = .non := if_neg (by rw [c]; exact Bool.false_ne_true)
   rw [this] at kR
   exact kR rfl _ (Same.refl _)
  | true =>
   refine iteT ?_
   have hz' := has_any.mp c
   rw [num_of hz'] at kR
   refine ⟨_, rfl, .inl ⟨rfl, _, hV⟩, _, rfl, D, vs, _, x, dR z, rfl, rfl, hV, da, lays, rv'.deep, dR_lay _, sf, ?_, fun j e hj he hlt => ?_⟩
   ·obtain ⟨r, mr, er⟩ := hz'
    exact ⟨dR r.1, List.mem_map.mpr ⟨r.1, List.mem_map.mpr ⟨r, mr, rfl⟩, rfl⟩, by rw [eqv_iff]; exact decide_eq_true er⟩
   ·have ej : j = idxR rows z := by
     obtain ⟨r0, e0, f0⟩ := idx_at hz'
     have l0 := idx_lt hz'
     have at_ : ∀ (m : Nat) (r : R × R), rows[m]? = some r -> ((rows.map fun r => r.1).map dR)[m]? = some (dR r.1) := fun m r h => by rw [List.getElem?_map, List.getElem?_map, h]; rfl
     rcases Nat.lt_trichotomy j (idxR rows z) with l | l | l
     ·exfalso
      obtain ⟨r, hr⟩ : ∃ r, rows[j]? = some r := ⟨_, List.getElem?_eq_getElem (by omega)⟩
      rw [at_ j r hr] at hj
      cases hj
      rw [eqv_iff] at he
      have nf := List.not_of_lt_findIdx (p := fun r : R × R => decide (r.1 = z)) (xs := rows) (i := j) l
      have hjj := (List.getElem?_eq_some_iff.mp hr).2
      rw [hjj] at nf
      rw [he] at nf
      exact absurd nf (by decide)
     ·exact l
     ·exfalso
      have := hlt (idxR rows z) _ l (at_ _ r0 e0)
      rw [eqv_iff, decide_eq_true f0] at this
      cases this
    rw [ej]
    exact kR rfl _ (Same.refl _)
 ·refine k _ _ (s1.trans s2) ?_
  rw [hD2', lx]
  have := by_place_all (0, 1) (fun z => numV rows z) zs
  rw [this]
theorem ok_Q7 (T : Txt K mg t) : FnOk P w K mg base CX0 4 t.a_Q7 t.d_Q7 ["table", "mix"] (sp_mixed_power K) := by
 refine T.F_Q7.ok sc_Q7 (fun vs H Q E h => ?_) (fun cdv A outer s H vs Q E hr h => ?_)
 ·obtain ⟨_, _, _, _, _, rfl, _⟩ := h; rfl
 obtain ⟨v, w, rows, ms, D0_, rfl, hv, ok, bpw, hw, l64, hm, pb, k⟩ := h
 refine QSs.ok (qss_consL (qsA 2 sc_Q7.nd (qcA (ok_Q6 T) hr T.m_Q6 T.F_Q6.kp T.b_Q6 (qa_cons (qv 0) (qa_cons (qe_lcomp (N' := ["pair"]) (src := [none]) rfl (by exact (qi_tup (qv 1))) (fun _ _ _ _ _ => (by exact (by exact qg_name (i := 0) (by show List.Nodup (["pair"] : List Str); decide +kernel) (by exact rfl) (by first | exact Or.inl rfl | exact Or.inr rfl)))) (fun _ _ _ _ _ => qts_nil) (fun _ _ _ _ _ => (by exact (by exact (qe_ix (ix_tupK (K := K) (by exact rfl)) (by exact (qv 0)) qe_int (by exact fun _ _ => rfl))))) (by exact trivial) rfl (by decide +kernel) rfl (by decide +kernel) (by exact cells_of rfl trivial)) qa_nil star_lc) star_name)))
   (qss_one (qs_ret (qcA (ok_Q42 T) hr T.m_Q42 T.F_Q42.kp T.b_Q42 (qa_cons (qe_lcomp (N' := ["number", "pair", "table"]) (src := [none, none, some 0]) rfl (by exact (qi_zipLT rfl T.z_zip (qa_cons (qv 2) (qa_cons (qv 1) qa_nil star_name) star_name))) (fun _ _ _ _ _ => (by exact (by exact qg_tupK (K := K) (n := 2) (by exact rfl) (by exact rfl) (by exact qgs_cons (by exact qg_name (i := 0) (by show List.Nodup (["number", "pair", "table"] : List Str); decide +kernel) (by exact rfl) (by first | exact Or.inl rfl | exact Or.inr rfl)) (by exact qgs_cons (by exact qg_name (i := 1) (by show List.Nodup (["number", "pair", "table"] : List Str); decide +kernel) (by exact rfl) (by first | exact Or.inl rfl | exact Or.inr rfl)) qgs_nil))))) (fun _ _ _ _ _ => qts_nil) (fun _ _ _ _ _ => (by exact (by exact (qe_call (ok_Q41 T) (by exact hr.mono (by decide)) (by exact rfl) T.m_Q41 T.F_Q41.kp T.b_Q41 (by exact .nil) (by exact pass0) (qa_cons (by exact (qe_ix (ix_tupK (K := K) (by exact rfl)) (by exact (qe_ix (ix_tupK (K := K) (by exact rfl)) (by exact (qe_ix (ix_tupK (K := K) (by exact rfl)) (by exact (qv 2)) qe_int (by exact fun _ _ => rfl))) (by exact (qv 0)) (by exact fun _ _ => rfl))) qe_int (by exact fun _ _ => rfl))) (qa_cons (by exact (qe_ix (ix_tupK (K := K) (by exact rfl)) (by exact (qv 1)) qe_int (by exact fun _ _ => rfl))) qa_nil star_sub) star_sub))))) (by exact ⟨rfl, rfl, rfl, rfl, trivial⟩) rfl (by decide +kernel) rfl (by decide +kernel) (by exact cells_of rfl ⟨rfl, trivial⟩)) qa_nil star_lc))))) ?_
 extract_lets +lift
 try dsimp -zeta -zetaDelta only [Cx.nox, Cx.wish, cxOf]
 obtain ⟨p, q, ys, rfl, hSp, hq, aly⟩ := id hv
 obtain ⟨pm, xs, rfl, hSm, alx⟩ := id hw
 have n12 := ok.n12
 have lx : xs.length = ms.length := alx.len
 refine ⟨_, rfl, _, rfl, pm, rfl, ⟨_, hSm⟩, fun D hD => comp_mapT (K := K) (a := pm) (xs := xs) (ds := ms) (P := RV K) (f := fun r => r.1) (fun _ _ _ _ t z => z.mono t) hD hSm lx (by omega) (fun i x d H' hx hd sm Rk E kR => ?_) fun H1 vs s1 hD1 al1 => ?_⟩
 ·obtain ⟨d', hd', rv⟩ := alx.at hx
  rw [hd] at hd'
  cases hd'
  obtain ⟨pa, x1, y1, ex, hSr, hx1, hy1⟩ := rv.mono (Tst.same sm)
  exact ⟨Ext.set rfl, _, rfl, pa, _, _, _, ex, rfl, hSr, rfl, kR _ _ (Same.refl _) hx1⟩
 refine ⟨.ref p, D, rows, vs, List.map (fun r : R × R => r.1) ms, rfl, hv.mono (Tst.same s1), n12, SqL.of hD1, al1, by rw [List.length_map]; omega, fun l H2 s2 hl => ?_⟩
 rw [List.map_map] at hl
 have hl' : H2 l = some (.lst (ms.map fun m => numV rows m.1)) := hl
 have s12 := s1.trans s2
 have hSm2 : SqT K H2 pm xs := Tst.same s12 _ _ hSm
 have hlL : SqL K H2 l (ms.map fun m => numV rows m.1) := SqL.of hl'
 refine ⟨_, rfl, _, rfl, l, pm, rfl, ⟨_, hlL⟩, ⟨_, hSm2⟩, fun D2 hD2 => comp_mapW (K := K) (P := RV K) (wlk_zipLT hlL hSm2 (by rw [List.length_map, lx])) (fun i => timesR (pwAt rows (ms.getD i rowD).1) (ms.getD i rowD).2) (fun _ _ _ _ t z => z.mono t) hD2 (by rw [List.length_map]; omega) (fun i x H' hi sm hP Rk E kR => ?_) fun H3 zs s3 hD3 al3 => ?_⟩
 ·obtain ⟨pp, x1, y1, rfl, hx1, hy1, hpp⟩ := hP
  rw [List.length_map] at hi
  obtain ⟨m, hm'⟩ : ∃ m, ms[i]? = some m := ⟨_, List.getElem?_eq_getElem hi⟩
  rw [List.getElem?_map, hm'] at hx1
  cases hx1
  obtain ⟨m2, hm2, rv⟩ := alx.at hy1
  rw [hm'] at hm2
  cases hm2
  have has := hm m (List.mem_of_getElem? hm')
  have wm := pb.wf m (List.mem_of_getElem? hm')
  have s1' := s12.trans sm
  obtain ⟨pa, xa, ya, exa, hSa, hxa, hya⟩ := rv.mono (Tst.same s1')
  rw [getD_at hm'] at kR
  have hpp' : H' pp = some (.tup [.int (idxR rows m.1 : Nat), y1]) := by rw [← num_of has]; exact hpp
  obtain ⟨r0, e0, f0⟩ := idx_at has
  have ex0 : ys[idxR rows m.1]? = some (ys[idxR rows m.1]'(by rw [aly.len]; exact idx_lt has)) := List.getElem?_eq_getElem _
  obtain ⟨r1, e1, rv1⟩ := aly.at ex0
  rw [e0] at e1
  cases e1
  obtain ⟨pb, xb, yb, exb, hSb, hxb, hyb⟩ := rv1.mono (Tst.same s1')
  have epw : pwAt rows m.1 = r0.2 := by unfold pwAt; rw [getD_at e0]
  have wpw : Wf 610 r0.2 := ok.pw r0 (List.mem_of_getElem? e0)
  refine ⟨pp, _, rfl, SqT.of hpp', rfl, _, _, rfl, _, _, rfl, rfl, Ext.set' (Ext.set rfl) rfl, ?_⟩
  refine ⟨_, rfl, p, _, _, _, rfl, rfl, Tst.same s1' _ _ hSp, rfl, _, rfl, q, _, _, _, rfl, rfl, Tst.same s1' _ _ hq, atI_nat ex0, pb, _, _, _, exb, rfl, hSb, rfl, ?_⟩
  refine ⟨_, rfl, pa, _, _, _, exa, rfl, hSa, rfl, yb, ya, r0.2, m.2, 610, 701, rfl, hyb, hya, wpw, wm, by decide, fun p9 g9 => ?_⟩
  have e9 := same_new g9 (.tup [.int (timesR r0.2 m.2).1, .int (timesR r0.2 m.2).2])
  refine kR _ _ e9 ?_
  rw [epw]
  exact rv_new (K := K) e9
 ·rw [List.length_map] at al3
  have el : (List.range ms.length).map (fun i => timesR (pwAt rows (ms.getD i rowD).1) (ms.getD i rowD).2) = mixS rows ms := by
   have := by_place_all rowD (fun m : R × R => timesR (pwAt rows m.1) m.2) ms
   rw [List.filter_eq_self.mpr (fun _ _ => rfl)] at this
   exact this
  rw [el] at al3
  refine ⟨D2, zs, mixS rows ms, 1290, DP * D0_, rfl, .inl (SqL.of hD3), ⟨al3.len, fun i x r hx hr => ?_⟩, fun r hr => ?_, Nat.mul_pos (by decide) pb.p, Nat.lt_of_le_of_lt (Nat.mul_le_mul_left _ pb.u) (by decide), ?_, by decide, fun v4 H4 s4 h4 => k _ _ ((s12.trans s3).trans s4) h4⟩
  ·obtain ⟨r', h', rv⟩ := al3.at hx
   rw [hr] at h'
   cases h'
   exact rv
  ·obtain ⟨m, mm, rfl⟩ := List.mem_map.mp hr
   obtain ⟨r9, e9, _⟩ := idx_at (hm m mm)
   have b9 : Bq DP NP (pwAt rows m.1) := by unfold pwAt; rw [getD_at e9]; exact bpw r9 (List.mem_of_getElem? e9)
   have q9 := b9.times (pb.d m mm)
   refine ⟨q9.wf (Nat.mul_pos (by decide) pb.p) (Nat.lt_of_le_of_lt (Nat.mul_le_mul_left _ pb.u) (by decide)) ?_, q9.dvd⟩
   exact Nat.lt_of_le_of_lt (Nat.mul_le_mul_left _ (Nat.mul_le_mul_left _ pb.u)) (by decide)
  ·show (ms.map _).length ≤ 64
   rw [List.length_map]
   omega
theorem ok_Q3 (T : Txt K mg t) : FnOk P w K mg base CX0 4 t.a_Q3 t.d_Q3 ["thing"] (sp_is_mix_shaped K) := by
 refine T.F_Q3.ok sc_Q3 (fun vs H Q E h => ?_) (fun cdv A outer s H vs Q E hr h => ?_)
 ·obtain ⟨_, _, rfl, _⟩ := h; rfl
 obtain ⟨v, d, rfl, hD, hl, k⟩ := h
 refine QSs.ok (qss_one (qs_ret (qe_and (qe_callB call_isiD (by rfl) T.z_isinstance boot_isinstance (qa_cons (qv 0) (qa_cons (qe_bltn (v := V.ty "tuple") rfl T.z_tuple boot_tuple rfl) qa_nil star_name) star_name)) (qe_and (qe_cmpR op_gt (qe_callB call_len_seq (by rfl) T.z_len boot_len (qa_cons (qv 0) qa_nil star_name)) qe_int (nomark _)) (qe_one (qe_callB (call_allL rfl) (by rfl) T.z_all boot_all (qa_cons (qe_lcomp (N' := ["pair"]) (src := [none]) rfl (by exact (qi_tup (qv 0))) (fun _ _ _ _ _ => (by exact (by exact qg_name (i := 0) (by show List.Nodup (["pair"] : List Str); decide +kernel) (by exact rfl) (by first | exact Or.inl rfl | exact Or.inr rfl)))) (fun _ _ _ _ _ => qts_nil) (fun _ _ _ _ _ => (by exact (by exact (qe_call (ok_Q1 T) (by exact hr.mono (by decide)) (by exact rfl) T.m_Q1 T.F_Q1.kp T.b_Q1 (by exact .nil) (by exact pass0) (qa_cons (by exact (qv 0)) qa_nil star_name))))) (by exact trivial) rfl (by decide +kernel) rfl (by decide +kernel) (by exact cells_of rfl trivial)) qa_nil star_lc))))))) ?_
 extract_lets +lift
 try dsimp -zeta -zetaDelta only [Cx.nox, Cx.wish, cxOf]
 rcases isi_tup hD with ⟨e, p, xs, ds, rfl, rfl, hS, hA⟩ | ⟨e, no⟩
 rotate_left
 ·refine ⟨_, rfl, _, _, _, _, rfl, hD, e, _, rfl, iteF ?_⟩
  have := k _ (Same.refl _)
  rw [show mixD d = false by cases d with | tuple ds => exact absurd rfl (no _) | _ => rfl] at this
  exact this
 refine ⟨_, rfl, _, _, _, _, rfl, hD, e, _, rfl, iteT ?_⟩
 have len := hA.len
 have hl' : ds.length ≤ 12 := hl
 have km : mixD (.tuple ds) = (decide (0 < ds.length) && ds.all pairD) := rfl
 rw [km] at k
 refine ⟨_, rfl, p, _, rfl, .inr hS, _, _, rfl, rfl, _, rfl, ?_⟩
 by_cases c : 0 < ds.length
 rotate_left
 ·refine iteD0 (by rw [len]; omega) ?_
  have := k _ (Same.refl _)
  rw [decide_eq_false c] at this
  exact this
 refine iteD1 (by rw [len]; omega) ?_
 rw [decide_eq_true c] at k
 refine ⟨_, rfl, p, rfl, ⟨_, hS⟩, fun D hDn => comp_ix (wlk_tup hS) (fun _ => true) (fun i => V.bl (pairD (ds.getD i .none))) hDn (by omega) (fun i x H' hi s' hx R E kR kE => ?_) fun H1 s1 h1 => ?_⟩
 ·have hil : i < ds.length := by omega
  obtain ⟨v, hv, dv⟩ := DeepAll.atN hA (List.getElem?_eq_getElem hil)
  rw [hx] at hv
  cases hv
  rw [getD_of PyData.none (List.getElem?_eq_getElem hil)] at kR
  exact ⟨Ext.set rfl, _, rfl, x, _, rfl, dv.same s', kR rfl _ (Same.refl _)⟩
 have e1 : (((List.range xs.length).filter fun _ => true).map fun i => V.bl (pairD (ds.getD i .none))) = ((List.range xs.length).map fun i => pairD (ds.getD i .none)).map V.bl := by rw [List.filter_eq_self.mpr (fun _ _ => rfl), List.map_map]; rfl
 rw [e1] at h1
 have al : ((List.range xs.length).map fun i => pairD (ds.getD i .none)).all id = ds.all pairD := by rw [len, all_getD]
 refine ⟨D, _, rfl, SqL.of h1, ?_⟩
 rw [al]
 exact k _ s1
theorem ok_Q22 (T : Txt K mg t) : FnOk P w K mg base CX0 2 t.a_Q22 t.d_Q22 ["table", "mix"] (sp_are_near K) := by
 refine T.F_Q22.ok sc_Q22 (fun vs H Q E h => ?_) (fun cdv A outer s H vs Q E hr h => ?_)
 ·obtain ⟨_, _, _, _, rfl, _⟩ := h; rfl
 obtain ⟨v, w, rows, ms, rfl, hv, ok, hw, okm, hh, k⟩ := h
 refine QSs.ok (qss_consL (qsA 2 sc_Q22.nd (qcA (ok_Q6 T) hr T.m_Q6 T.F_Q6.kp T.b_Q6 (qa_cons (qv 0) (qa_cons (qe_lcomp (N' := ["pair"]) (src := [none]) rfl (by exact (qi_tup (qv 1))) (fun _ _ _ _ _ => (by exact (by exact qg_name (i := 0) (by show List.Nodup (["pair"] : List Str); decide +kernel) (by exact rfl) (by first | exact Or.inl rfl | exact Or.inr rfl)))) (fun _ _ _ _ _ => qts_nil) (fun _ _ _ _ _ => (by exact (by exact (qe_ix (ix_tupK (K := K) (by exact rfl)) (by exact (qv 0)) qe_int (by exact fun _ _ => rfl))))) (by exact trivial) rfl (by decide +kernel) rfl (by decide +kernel) (by exact cells_of rfl trivial)) qa_nil star_lc) star_name)))
   (qss_one (qs_ret (qe_or (qe_cmpR op_eq (qe_callB call_len_seq (by rfl) T.z_len boot_len (qa_cons (qv 2) qa_nil star_name)) qe_int (nomark _)) (qe_one (qe_and (qe_cmpR op_eq (qe_callB call_len_seq (by rfl) T.z_len boot_len (qa_cons (qv 2) qa_nil star_name)) qe_int (nomark _)) (qe_one (qe_cmpR op_eq (qe_op op_sub (qxA ix_list (qv 2) qe_int) (qxA ix_list (qv 2) qe_int)) qe_int (nomark _))))))))) ?_
 extract_lets +lift
 try dsimp -zeta -zetaDelta only [Cx.nox, Cx.wish, cxOf]
 obtain ⟨pm, xs, rfl, hSm, alx⟩ := id hw
 have n12 := ok.n12
 have l5 := okm.len
 have lx : xs.length = ms.length := alx.len
 refine ⟨_, rfl, _, rfl, pm, rfl, ⟨_, hSm⟩, fun D hD => comp_mapT (K := K) (a := pm) (xs := xs) (ds := ms) (P := RV K) (f := fun r => r.1) (fun _ _ _ _ t z => z.mono t) hD hSm lx (by omega) (fun i x d H' hx hd sm Rk E kR => ?_) fun H1 vs s1 hD1 al1 => ?_⟩
 ·obtain ⟨d', hd', rv⟩ := alx.at hx
  rw [hd] at hd'
  cases hd'
  obtain ⟨pa, x1, y1, ex, hSr, hx1, hy1⟩ := rv.mono (Tst.same sm)
  exact ⟨Ext.set rfl, _, rfl, pa, _, _, _, ex, rfl, hSr, rfl, kR _ _ (Same.refl _) hx1⟩
 refine ⟨v, D, rows, vs, List.map (fun r : R × R => r.1) ms, rfl, hv.mono (Tst.same s1), n12, SqL.of hD1, al1, by rw [List.length_map]; omega, fun l H2 s2 hl => ?_⟩
 rw [List.map_map] at hl
 have hl' : H2 l = some (.lst (ms.map fun m => numV rows m.1)) := hl
 have s12 := s1.trans s2
 clear hl
 have ll : (ms.map fun m => numV rows m.1).length = ms.length := List.length_map _
 refine ⟨_, rfl, l, _, rfl, .inl (SqL.of hl'), rfl, _, rfl, ?_⟩
 by_cases c1 : ms.length = 1
 ·refine iteD1 (by rw [ll, c1]; rfl) ?_
  have := k _ s12
  rw [show farB rows ms = false by unfold farB; rw [decide_eq_true c1]; rfl] at this
  exact this
 refine iteD0 (fun z => c1 (by rw [ll] at z; injection z with z; omega)) ?_
 refine ⟨_, rfl, l, _, rfl, .inl (SqL.of hl'), rfl, _, rfl, ?_⟩
 by_cases c2 : ms.length = 2
 rotate_left
 ·refine iteD0 (fun z => c2 (by rw [ll] at z; injection z with z; omega)) ?_
  have := k _ s12
  rw [show farB rows ms = true by unfold farB; rw [decide_eq_false c1, decide_eq_false c2]; rfl] at this
  exact this
 refine iteD1 (by rw [ll, c2]; rfl) ?_
 obtain ⟨m0, h0⟩ : ∃ m, ms[0]? = some m := ⟨_, List.getElem?_eq_getElem (by omega)⟩
 obtain ⟨m1, h1⟩ : ∃ m, ms[1]? = some m := ⟨_, List.getElem?_eq_getElem (by omega)⟩
 have a0 : atI (ms.map fun m => numV rows m.1) 0 = some (.int (idxR rows m0.1 : Nat)) := by
  refine atI_nat (j := 0) ?_
  rw [List.getElem?_map, h0, ← num_of (hh m0 (List.mem_of_getElem? h0))]
  rfl
 have a1 : atI (ms.map fun m => numV rows m.1) 1 = some (.int (idxR rows m1.1 : Nat)) := by
  refine atI_nat (j := 1) ?_
  rw [List.getElem?_map, h1, ← num_of (hh m1 (List.mem_of_getElem? h1))]
  rfl
 refine ⟨_, rfl, l, _, _, _, rfl, rfl, SqL.of hl', a1, _, rfl, l, _, _, _, rfl, rfl, SqL.of hl', a0, _, _, rfl, rfl, rfl, ?_⟩
 have := k _ s12
 rw [show farB rows ms = !decide ((idxR rows m1.1 : Int) - (idxR rows m0.1 : Int) = 1) by unfold farB; rw [decide_eq_false c1, decide_eq_true c2, getD_at h0, getD_at h1]; rfl, Bool.not_not] at this
 dsimp only
 rw [show decide (V.int ((idxR rows m1.1 : Int) - (idxR rows m0.1 : Int)) = V.int 1) = decide ((idxR rows m1.1 : Int) - (idxR rows m0.1 : Int) = 1) from decide_eq_decide.mpr ⟨fun z => by injection z, fun z => by rw [z]⟩]
 exact this
theorem ok_Q23 (T : Txt K mg t) : FnOk P w K mg base CX0 1 t.a_Q23 t.d_Q23 ["_law_script"] (sp_law_tape K) := by
 refine T.F_Q23.ok sc_Q23 (fun vs H Q E h => ?_) (fun cdv A outer s H vs Q E hr h => ?_)
 ·obtain ⟨_, _, rfl, _⟩ := h; rfl
 obtain ⟨a, ns, rfl, hS, k⟩ := h
 refine QSs.ok (qss_one (qs_ret (qe_lst (qa_cons (qe_slice sl_list (qv 0) qo_none (qo_some qe_int)) (qa_cons qe_int (qa_cons qe_int (qa_cons qe_int qa_nil star_con) star_con) star_con) star_sub)))) ?_
 extract_lets +lift
 try dsimp -zeta -zetaDelta only [Cx.nox, Cx.wish, cxOf]
 refine ⟨_, rfl, 63, rfl, a, _, rfl, hS, fun p hp => ⟨zl4, fun t ht => ?_⟩⟩
 have npt : p ≠ t := fun z => by subst z; rw [upd_same] at ht; cases ht
 have h0 : H t = none := by rw [upd_ne npt.symm] at ht; exact ht
 refine k t p _ ((same_new hp _).trans (same_new ht _)) h0 hp ⟨ns.take (min 63 ns.length), 0, 0, 0, upd_same, ?_, npt, ?_, by decide, by decide, by decide⟩
 ·rw [upd_ne npt, upd_same, cut63]
 ·rw [List.length_take]; omega
theorem ok_Q24 (T : Txt K mg t) : FnOk P w K mg base CX0 1 t.a_Q24 t.d_Q24 ["_law_tape_here", "_law_many"] (sp_law_draw K) := by
 refine T.F_Q24.ok sc_Q24 (fun vs H Q E h => ?_) (fun cdv A outer s H vs Q E hr h => ?_)
 ·obtain ⟨_, _, _, rfl, _⟩ := h; rfl
 obtain ⟨t₁, s₁, m, rfl, tp, hm0, hm1, k⟩ := h
 obtain ⟨ns, p, q₀, r₀, ht, hs, hne, hlen, hp0, hq0, hr0⟩ := tp.ex
 refine QSs.ok (qss_consL (qsA 2 sc_Q24.nd (qxA ix_list (qv 0) qe_int))
   (qss_consL (qsA 3 sc_Q24.nd (qxA ix_list (qv 0) qe_int))
   (qss_consL (qs_asg (qe_op op_add (qv 3) qe_int) (qg_sub (qv 0) qe_int set_list))
   (qss_consL (qs_while PassesOwn.never (qw_pt (qw_and (qt_cmpR op_eq (qxA ix_list (qv 0) qe_int) qe_int (nomark _)) (qw_and1 (qt_cmpR op_lt (qxA ix_list (qv 0) qe_int) (qe_callB call_len_seq (by rfl) T.z_len boot_len (qa_cons (qv 2) qa_nil star_name)) (nomark _)))))
   (qss_consL (qs_if (qt_cmpR op_ge (qe_callB call_abs (by rfl) T.z_abs boot_abs (qa_cons (qxA ix_list (qv 2) (qxA ix_list (qv 0) qe_int)) qa_nil star_sub)) (qe_op op_pow qe_int qe_int) (nomark _)) (qss_one (qs_asg (qe_callB call_abs (by rfl) T.z_abs boot_abs (qa_cons (qxA ix_list (qv 2) (qxA ix_list (qv 0) qe_int)) qa_nil star_sub)) (qg_sub (qv 0) qe_int set_list))) qss_nil)
   (qss_one (qs_asg (qe_op op_add (qxA ix_list (qv 0) qe_int) qe_int) (qg_sub (qv 0) qe_int set_list)))))
   (qss_consL (qs_if (qt_cmpR op_gt (qxA ix_list (qv 0) qe_int) qe_int (nomark _)) (qss_consL (qsA 4 sc_Q24.nd (qxA ix_list (qv 0) qe_int))
   (qss_consL (qs_asg (qe_op op_fdiv (qv 4) (qv 1)) (qg_sub (qv 0) qe_int set_list))
   (qss_one (qs_ret (qe_op op_mod (qv 4) (qv 1)))))) qss_nil)
   (qss_consL (qsA 5 sc_Q24.nd qe_int)
   (qss_consL (qs_if (qt_cmpR op_gt (qe_callB call_len_seq (by rfl) T.z_len boot_len (qa_cons (qv 2) qa_nil star_name)) qe_int (nomark _)) (qss_one (qsA 5 sc_Q24.nd (qxA ix_list (qv 2) (qe_op op_mod (qv 3) (qe_callB call_len_seq (by rfl) T.z_len boot_len (qa_cons (qv 2) qa_nil star_name)))))) qss_nil)
   (qss_consL (qsA 6 sc_Q24.nd (qe_op op_mod (qe_op op_mul (qe_op op_add (qe_op op_mod (qv 5) qe_int) qe_int) (qe_op op_add (qe_op op_add (qe_op op_mul (qe_op op_mod (qv 3) qe_int) qe_int) qe_int) (qv 3))) qe_int))
   (qss_consL (qsA 6 sc_Q24.nd (qe_op op_mod (qe_op op_add (qe_op op_add (qe_op op_mul (qv 6) (qv 6)) (qe_op op_mul qe_int (qv 6))) (qv 3)) qe_int))
   (qss_one (qs_ret (qe_op op_mod (qe_op op_mod (qe_op op_mul (qv 6) qe_int) qe_int) (qv 1))))))))))))) ?_
 extract_lets +lift
 try dsimp -zeta -zetaDelta only [Cx.nox, Cx.wish, cxOf]
 have tap : ∀ (q r : Int), 0 ≤ q -> 0 ≤ r -> Tape (upd H t₁ (.lst [.ref s₁, .int (p + 1), .int q, .int r])) t₁ s₁ := fun q r hq hr => ⟨ns, p + 1, q, r, upd_same, by rw [upd_ne hne]; exact hs, hne, hlen, by omega, hq, hr⟩
 have hs' : ∀ o, (upd H t₁ o) s₁ = some (.lst (ns.map V.int)) := fun o => by rw [upd_ne hne]; exact hs
 have hl : ((ns.map V.int).length : Int) = (ns.length : Int) := by rw [List.length_map]
 refine ⟨_, rfl, t₁, _, _, _, rfl, rfl, SqL.of ht, rfl, ?_⟩
 refine ⟨_, rfl, t₁, _, _, _, rfl, rfl, SqL.of ht, rfl, ?_⟩
 refine ⟨_, rfl, _, _, rfl, rfl, _, rfl, t₁, _, _, _, rfl, rfl, ht, rfl, ?_⟩
 refine ⟨fun μ σ H' => ∃ q r : Int, σ = [some (.ref t₁), some (.int m), some (.ref s₁), some (.int p), none, none, none] /\ H' = upd H t₁ (.lst [.ref s₁, .int (p + 1), .int q, .int r]) /\ 0 ≤ q /\ 0 ≤ r /\ μ = ns.length - r.toNat, ⟨_, q₀, r₀, rfl, rfl, hq0, hr0, rfl⟩, ?_⟩
 rintro μ σ H' ⟨q, r, rfl, rfl, hq, hr', rfl⟩
 refine ⟨_, rfl, t₁, _, _, _, rfl, rfl, SqL.of upd_same, rfl, rfl, _, rfl, ?_⟩
 by_cases c : q = 0 /\ r < (ns.length : Int)
 ·obtain ⟨c1, c2⟩ := c
  subst c1
  refine iteD1 rfl ?_
  refine ⟨_, rfl, t₁, _, _, _, rfl, rfl, SqL.of upd_same, rfl, _, rfl, s₁, _, rfl, .inl (SqL.of (hs' _)), _, _, rfl, rfl, _, rfl, ?_⟩
  refine iteD1 (by rw [hl]; exact c2) ?_
  refine ⟨_, fun _ _ z => z, ?_⟩
  obtain ⟨z, hz⟩ := pickI (ns := ns) hr' c2
  refine ⟨_, rfl, _, rfl, t₁, _, _, _, rfl, rfl, SqL.of upd_same, rfl, s₁, _, _, _, rfl, rfl, SqL.of (hs' _), hz, _, rfl, _, _, rfl, rfl, ⟨by decide, by decide, by decide⟩, _, _, rfl, rfl, _, rfl, ?_⟩
  refine ite2 (fun _ => ?_) (fun _ => ?_)
  ·refine ⟨_, rfl, _, rfl, t₁, _, _, _, rfl, rfl, SqL.of upd_same, rfl, s₁, _, _, _, rfl, rfl, SqL.of (hs' _), hz, _, rfl, _, rfl, t₁, _, _, _, rfl, rfl, upd_same, rfl, ?_⟩
   rw [upd_upd]
   refine ⟨_, rfl, t₁, _, _, _, rfl, rfl, SqL.of upd_same, rfl, _, _, rfl, rfl, _, rfl, t₁, _, _, _, rfl, rfl, upd_same, rfl, ?_⟩
   rw [upd_upd]
   exact ⟨_, by omega, _, r + 1, rfl, rfl, by split <;> omega, by omega, rfl⟩
  ·refine ⟨_, rfl, t₁, _, _, _, rfl, rfl, SqL.of upd_same, rfl, _, _, rfl, rfl, _, rfl, t₁, _, _, _, rfl, rfl, upd_same, rfl, ?_⟩
   rw [upd_upd]
   exact ⟨_, by omega, 0, r + 1, rfl, rfl, by omega, by omega, rfl⟩
 by_cases c1 : q = 0
 ·refine iteD1 (by rw [c1]) ?_
  refine ⟨_, rfl, t₁, _, _, _, rfl, rfl, SqL.of upd_same, rfl, _, rfl, s₁, _, rfl, .inl (SqL.of (hs' _)), _, _, rfl, rfl, _, rfl, ?_⟩
  refine iteD0 (by rw [hl]; exact fun z => c ⟨c1, z⟩) ?_
  refine ⟨_, rfl, t₁, _, _, _, rfl, rfl, SqL.of upd_same, rfl, _, _, rfl, rfl, _, rfl, ?_⟩
  refine ite2 (fun _ => ?_) (fun _ => ?_)
  ·refine ⟨_, rfl, t₁, _, _, _, rfl, rfl, SqL.of upd_same, rfl, ?_⟩
   refine ⟨_, rfl, _, rfl, _, _, rfl, rfl, ⟨hm0, hm1⟩, _, rfl, t₁, _, _, _, rfl, rfl, upd_same, rfl, ?_⟩
   refine ⟨_, rfl, _, rfl, _, _, rfl, rfl, hm0, ?_⟩
   rw [upd_upd]
   exact k _ _ (Int.emod_nonneg _ (by omega)) (Int.emod_lt_of_pos _ hm0) (tap (q / m) r (Int.ediv_nonneg hq (by omega)) hr')
  ·refine ⟨_, rfl, s₁, _, rfl, .inl (SqL.of (hs' _)), _, _, rfl, rfl, _, rfl, ?_⟩
   refine ite2 (fun c9 => ?_) (fun _ => ?_)
   ·have c8 : (0 : Int) < (ns.length : Int) := by
     have c7 : (0 : Int) < ((ns.map V.int).length : Int) := of_decide_eq_true c9
     rw [hl] at c7; exact c7
    obtain ⟨z, hz⟩ := pickI (ns := ns) (r := p % (ns.length : Int)) (Int.emod_nonneg _ (by omega)) (Int.emod_lt_of_pos _ c8)
    rw [← hl] at hz c8
    refine ⟨_, rfl, _, rfl, _, rfl, s₁, _, rfl, .inl (SqL.of (hs' _)), _, _, rfl, rfl, c8, s₁, _, _, _, rfl, rfl, SqL.of (hs' _), hz, ?_⟩
    refine ⟨_, rfl, _, _, rfl, rfl, (by show (0 : Int) < _; decide), _, _, rfl, rfl, _, rfl, _, _, rfl, rfl, (by show (0 : Int) < _; decide), _, _, rfl, rfl, .inl ⟨by omega, by omega⟩, _, _, rfl, rfl, _, rfl, _, _, rfl, rfl, _, _, rfl, rfl, .inl ⟨by omega, by omega⟩, _, _, rfl, rfl, (by show (0 : Int) < _; decide), ?_⟩
    refine ⟨_, rfl, _, rfl, _, _, rfl, rfl, .inl ⟨by omega, by omega⟩, _, rfl, _, _, rfl, rfl, .inl ⟨by omega, by omega⟩, _, _, rfl, rfl, _, rfl, _, _, rfl, rfl, _, _, rfl, rfl, (by show (0 : Int) < _; decide), ?_⟩
    refine ⟨_, rfl, _, _, rfl, rfl, .inl ⟨by omega, by omega⟩, _, _, rfl, rfl, (by show (0 : Int) < _; decide), _, rfl, _, _, rfl, rfl, hm0, ?_⟩
    exact k _ _ (Int.emod_nonneg _ (by omega)) (Int.emod_lt_of_pos _ hm0) (tap q r hq hr')
   ·refine ⟨_, rfl, _, _, rfl, rfl, (by show (0 : Int) < _; decide), _, _, rfl, rfl, _, rfl, _, _, rfl, rfl, (by show (0 : Int) < _; decide), _, _, rfl, rfl, .inl ⟨by omega, by omega⟩, _, _, rfl, rfl, _, rfl, _, _, rfl, rfl, _, _, rfl, rfl, .inl ⟨by omega, by omega⟩, _, _, rfl, rfl, (by show (0 : Int) < _; decide), ?_⟩
    refine ⟨_, rfl, _, rfl, _, _, rfl, rfl, .inl ⟨by omega, by omega⟩, _, rfl, _, _, rfl, rfl, .inl ⟨by omega, by omega⟩, _, _, rfl, rfl, _, rfl, _, _, rfl, rfl, _, _, rfl, rfl, (by show (0 : Int) < _; decide), ?_⟩
    refine ⟨_, rfl, _, _, rfl, rfl, .inl ⟨by omega, by omega⟩, _, _, rfl, rfl, (by show (0 : Int) < _; decide), _, rfl, _, _, rfl, rfl, hm0, ?_⟩
    exact k _ _ (Int.emod_nonneg _ (by omega)) (Int.emod_lt_of_pos _ hm0) (tap q r hq hr')
 ·refine iteD0 (fun z => c1 (by injection z)) (iteF ?_)
  refine ⟨_, rfl, t₁, _, _, _, rfl, rfl, SqL.of upd_same, rfl, _, _, rfl, rfl, _, rfl, ?_⟩
  refine ite2 (fun _ => ?_) (fun _ => ?_)
  ·refine ⟨_, rfl, t₁, _, _, _, rfl, rfl, SqL.of upd_same, rfl, ?_⟩
   refine ⟨_, rfl, _, rfl, _, _, rfl, rfl, ⟨hm0, hm1⟩, _, rfl, t₁, _, _, _, rfl, rfl, upd_same, rfl, ?_⟩
   refine ⟨_, rfl, _, rfl, _, _, rfl, rfl, hm0, ?_⟩
   rw [upd_upd]
   exact k _ _ (Int.emod_nonneg _ (by omega)) (Int.emod_lt_of_pos _ hm0) (tap (q / m) r (Int.ediv_nonneg hq (by omega)) hr')
  ·refine ⟨_, rfl, s₁, _, rfl, .inl (SqL.of (hs' _)), _, _, rfl, rfl, _, rfl, ?_⟩
   refine ite2 (fun c9 => ?_) (fun _ => ?_)
   ·have c8 : (0 : Int) < (ns.length : Int) := by
     have c7 : (0 : Int) < ((ns.map V.int).length : Int) := of_decide_eq_true c9
     rw [hl] at c7; exact c7
    obtain ⟨z, hz⟩ := pickI (ns := ns) (r := p % (ns.length : Int)) (Int.emod_nonneg _ (by omega)) (Int.emod_lt_of_pos _ c8)
    rw [← hl] at hz c8
    refine ⟨_, rfl, _, rfl, _, rfl, s₁, _, rfl, .inl (SqL.of (hs' _)), _, _, rfl, rfl, c8, s₁, _, _, _, rfl, rfl, SqL.of (hs' _), hz, ?_⟩
    refine ⟨_, rfl, _, _, rfl, rfl, (by show (0 : Int) < _; decide), _, _, rfl, rfl, _, rfl, _, _, rfl, rfl, (by show (0 : Int) < _; decide), _, _, rfl, rfl, .inl ⟨by omega, by omega⟩, _, _, rfl, rfl, _, rfl, _, _, rfl, rfl, _, _, rfl, rfl, .inl ⟨by omega, by omega⟩, _, _, rfl, rfl, (by show (0 : Int) < _; decide), ?_⟩
    refine ⟨_, rfl, _, rfl, _, _, rfl, rfl, .inl ⟨by omega, by omega⟩, _, rfl, _, _, rfl, rfl, .inl ⟨by omega, by omega⟩, _, _, rfl, rfl, _, rfl, _, _, rfl, rfl, _, _, rfl, rfl, (by show (0 : Int) < _; decide), ?_⟩
    refine ⟨_, rfl, _, _, rfl, rfl, .inl ⟨by omega, by omega⟩, _, _, rfl, rfl, (by show (0 : Int) < _; decide), _, rfl, _, _, rfl, rfl, hm0, ?_⟩
    exact k _ _ (Int.emod_nonneg _ (by omega)) (Int.emod_lt_of_pos _ hm0) (tap q r hq hr')
   ·refine ⟨_, rfl, _, _, rfl, rfl, (by show (0 : Int) < _; decide), _, _, rfl, rfl, _, rfl, _, _, rfl, rfl, (by show (0 : Int) < _; decide), _, _, rfl, rfl, .inl ⟨by omega, by omega⟩, _, _, rfl, rfl, _, rfl, _, _, rfl, rfl, _, _, rfl, rfl, .inl ⟨by omega, by omega⟩, _, _, rfl, rfl, (by show (0 : Int) < _; decide), ?_⟩
    refine ⟨_, rfl, _, rfl, _, _, rfl, rfl, .inl ⟨by omega, by omega⟩, _, rfl, _, _, rfl, rfl, .inl ⟨by omega, by omega⟩, _, _, rfl, rfl, _, rfl, _, _, rfl, rfl, _, _, rfl, rfl, (by show (0 : Int) < _; decide), ?_⟩
    refine ⟨_, rfl, _, _, rfl, rfl, .inl ⟨by omega, by omega⟩, _, _, rfl, rfl, (by show (0 : Int) < _; decide), _, rfl, _, _, rfl, rfl, hm0, ?_⟩
    exact k _ _ (Int.emod_nonneg _ (by omega)) (Int.emod_lt_of_pos _ hm0) (tap q r hq hr')
theorem ok_Q33 (T : Txt K mg t) : FnOk P w K mg base CX0 1 t.a_Q33 t.d_Q33 ["_law_one", "_law_other"] (sp_law_gcd K) := by
 refine T.F_Q33.ok sc_Q33 (fun vs H Q E h => ?_) (fun cdv A outer s H vs Q E hr h => ?_)
 ·obtain ⟨_, _, rfl, _⟩ := h; rfl
 obtain ⟨a, b, rfl, ha, hb, k⟩ := h
 refine QSs.ok (qss_consL (qs_while PassesOwn.never (qt_cmpR op_ne (qv 1) qe_int (nomark _))
   (qss_one (qs_par (i := 0) (j := 1) rfl sc_Q33.nd rfl rfl (by decide) rfl rfl (qa_cons (qv 1) (qa_cons (qe_op op_mod (qv 0) (qv 1)) qa_nil star_bin) star_name) rfl)))
   (qss_one (qs_ret (qv 0)))) ?_
 extract_lets +lift
 try dsimp -zeta -zetaDelta only [Cx.nox, Cx.wish, cxOf]
 refine ⟨fun m σ H' => ∃ (x y : Int), σ = [some (.int x), some (.int y)] /\ H' = H /\ 0 ≤ x /\ 0 ≤ y /\ Int.gcd x y = Int.gcd a b /\ m = y.toNat, ⟨_, _, _, rfl, rfl, ha, hb, rfl, rfl⟩, ?_⟩
 rintro m σ H' ⟨x, y, rfl, rfl, hx, hy, hg, rfl⟩
 refine ⟨_, rfl, rfl, _, rfl, ?_⟩
 by_cases c : y = 0
 ·subst c
  refine iteNS rfl ?_
  rw [← hg] at k
  refine ⟨_, rfl, ?_⟩
  have e : (x : Int) = (Int.gcd x 0 : Nat) := by simp [Int.gcd]; omega
  rw [← e] at k
  exact k
 ·refine iteN1 (fun z => c (by injection z)) ?_
  refine ⟨_, fun _ _ z => z, ?_⟩
  refine ⟨_, rfl, _, rfl, _, rfl, _, _, rfl, rfl, (by omega), _, _, rfl, ?_⟩
  refine ⟨_, ?_, y, x % y, rfl, rfl, hy, Int.emod_nonneg _ c, ?_, rfl⟩
  ·have := Int.emod_lt_of_pos x (show 0 < y by omega)
   have := Int.emod_nonneg x c
   omega
  ·rw [gcd_turn hx (by omega), hg]
theorem ok_Q14 (T : Txt K mg t) : FnOk P w K mg base CX0 2 t.a_Q14 t.d_Q14 ["_law_top", "_law_bottom"] (sp_law_ratio K) := by
 refine T.F_Q14.ok sc_Q14 (fun vs H Q E h => ?_) (fun cdv A outer s H vs Q E hr h => ?_)
 ·obtain ⟨_, _, rfl, _⟩ := h; rfl
 obtain ⟨a, b, rfl, hb, hz, k⟩ := h
 refine QSs.ok (qss_consL (qsA 2 sc_Q14.nd (qcA (ok_Q33 T) hr T.m_Q33 T.F_Q33.kp T.b_Q33 (qa_cons (qe_callB call_abs (by rfl) T.z_abs boot_abs (qa_cons (qv 0) qa_nil star_name)) (qa_cons (qe_callB call_abs (by rfl) T.z_abs boot_abs (qa_cons (qv 1) qa_nil star_name)) qa_nil star_call) star_call)))
   (qss_consL (qs_if (qt_cmpR op_lt (qv 1) qe_int (nomark _)) (qss_one (qsA 2 sc_Q14.nd (qe_un un_neg (qv 2)))) qss_nil)
   (qss_one (qs_ret (qe_tup (qa_cons (qe_op op_quoN (qv 0) (qv 2)) (qa_cons (qe_op op_quoN (qv 1) (qv 2)) qa_nil star_bin) star_bin)))))) ?_
 extract_lets +lift
 try dsimp -zeta -zetaDelta only [Cx.nox, Cx.wish, cxOf]
 have gp := gcd_posN (a := a) hb
 have gb := gcd_big (a := a) hb hz
 refine ⟨_, rfl, _, rfl, _, rfl, _, rfl, _, _, rfl, (by split <;> omega), (by split <;> omega), ?_⟩
 rw [abs_if, abs_if]
 have eg : Int.gcd (a.natAbs : Int) (b.natAbs : Int) = Int.gcd a b := by simp [Int.gcd]
 rw [eg]
 refine ⟨_, rfl, _, _, rfl, rfl, _, rfl, ?_⟩
 by_cases hn : b < 0
 ·refine iteD1 hn ?_
  rw [← mkS_neg1 hn] at k
  have gm : (-((Int.gcd a b : Nat) : Int)).natAbs < 2 ^ 4000 := by rw [Int.natAbs_neg]; exact gb
  refine ⟨_, rfl, _, rfl, ?_⟩
  refine ⟨_, rfl, _, rfl, _, _, rfl, rfl, ⟨by omega, gm⟩, _, rfl, _, rfl, _, _, rfl, rfl, ⟨by omega, gm⟩, zl2, fun p hp => ?_⟩
  exact k p hp
 ·refine iteD0 hn ?_
  rw [← mkS_pos1 (by omega : 0 < b)] at k
  refine ⟨_, rfl, _, rfl, _, _, rfl, rfl, ⟨by omega, gb⟩, _, rfl, _, rfl, _, _, rfl, rfl, ⟨by omega, gb⟩, zl2, fun p hp => ?_⟩
  exact k p hp
theorem ok_Q25 (T : Txt K mg t) : FnOk P w K mg base CX0 3 t.a_Q25 t.d_Q25 ["_law_one", "_law_other"] (sp_law_plus K) := by
 refine T.F_Q25.ok sc_Q25 (fun vs H Q E h => ?_) (fun cdv A outer s H vs Q E hr h => ?_)
 ·obtain ⟨_, _, _, _, _, _, rfl, _⟩ := h; rfl
 obtain ⟨v, w, r, q, n, m, rfl, hv, hw, wr, wq, hz, k⟩ := h
 refine QSs.ok (qss_one (qs_ret (qcA (ok_Q14 T) hr T.m_Q14 T.F_Q14.kp T.b_Q14 (qa_cons (qe_op op_add (qe_op op_mulB (qxA ix_tup (qv 0) qe_int) (qxA ix_tup (qv 1) qe_int)) (qe_op op_mulB (qxA ix_tup (qv 1) qe_int) (qxA ix_tup (qv 0) qe_int))) (qa_cons (qe_op op_mulB (qxA ix_tup (qv 0) qe_int) (qxA ix_tup (qv 1) qe_int)) qa_nil star_bin) star_bin)))) ?_
 extract_lets +lift
 try dsimp -zeta -zetaDelta only [Cx.nox, Cx.wish, cxOf]
 obtain ⟨p, rfl, hv⟩ := hv
 obtain ⟨p', rfl, hw⟩ := hw
 have c1 := big_of wr.top (show n ≤ 4000 by omega)
 have c2 := big_of wr.bot (show n ≤ 4000 by omega)
 have c3 := big_of wq.top (show m ≤ 4000 by omega)
 have c4 := big_of wq.bot (show m ≤ 4000 by omega)
 have bp := Int.mul_pos wr.pos wq.pos
 refine ⟨_, rfl, p, _, _, _, rfl, rfl, hv, rfl, _, rfl, p', _, _, _, rfl, rfl, hw, rfl, _, _, rfl, rfl, ⟨c1, c4⟩, _, rfl, p', _, _, _, rfl, rfl, hw, rfl, _, rfl, p, _, _, _, rfl, rfl, hv, rfl, _, _, rfl, rfl, ⟨c3, c2⟩, _, _, rfl, rfl, _, rfl, p, _, _, _, rfl, rfl, hv, rfl, _, rfl, p', _, _, _, rfl, rfl, hw, rfl, _, _, rfl, rfl, ⟨c2, c4⟩, _, _, rfl, Int.ne_of_gt bp, big_of (mul_lt wr.bot wq.bot) (by omega), (by rw [mkS_pos bp]; exact k)⟩
theorem ok_Q15 (T : Txt K mg t) : FnOk P w K mg base CX0 3 t.a_Q15 t.d_Q15 ["_law_one", "_law_other"] (sp_law_minus K) := by
 refine T.F_Q15.ok sc_Q15 (fun vs H Q E h => ?_) (fun cdv A outer s H vs Q E hr h => ?_)
 ·obtain ⟨_, _, _, _, _, _, rfl, _⟩ := h; rfl
 obtain ⟨v, w, r, q, n, m, rfl, hv, hw, wr, wq, hz, k⟩ := h
 refine QSs.ok (qss_one (qs_ret (qcA (ok_Q14 T) hr T.m_Q14 T.F_Q14.kp T.b_Q14 (qa_cons (qe_op op_sub (qe_op op_mulB (qxA ix_tup (qv 0) qe_int) (qxA ix_tup (qv 1) qe_int)) (qe_op op_mulB (qxA ix_tup (qv 1) qe_int) (qxA ix_tup (qv 0) qe_int))) (qa_cons (qe_op op_mulB (qxA ix_tup (qv 0) qe_int) (qxA ix_tup (qv 1) qe_int)) qa_nil star_bin) star_bin)))) ?_
 extract_lets +lift
 try dsimp -zeta -zetaDelta only [Cx.nox, Cx.wish, cxOf]
 obtain ⟨p, rfl, hv⟩ := hv
 obtain ⟨p', rfl, hw⟩ := hw
 have c1 := big_of wr.top (show n ≤ 4000 by omega)
 have c2 := big_of wr.bot (show n ≤ 4000 by omega)
 have c3 := big_of wq.top (show m ≤ 4000 by omega)
 have c4 := big_of wq.bot (show m ≤ 4000 by omega)
 have bp := Int.mul_pos wr.pos wq.pos
 refine ⟨_, rfl, p, _, _, _, rfl, rfl, hv, rfl, _, rfl, p', _, _, _, rfl, rfl, hw, rfl, _, _, rfl, rfl, ⟨c1, c4⟩, _, rfl, p', _, _, _, rfl, rfl, hw, rfl, _, rfl, p, _, _, _, rfl, rfl, hv, rfl, _, _, rfl, rfl, ⟨c3, c2⟩, _, _, rfl, rfl, _, rfl, p, _, _, _, rfl, rfl, hv, rfl, _, rfl, p', _, _, _, rfl, rfl, hw, rfl, _, _, rfl, rfl, ⟨c2, c4⟩, _, _, rfl, Int.ne_of_gt bp, big_of (mul_lt wr.bot wq.bot) (by omega), (by rw [mkS_pos bp]; exact k)⟩
theorem ok_Q16 (T : Txt K mg t) : FnOk P w K mg base CX0 3 t.a_Q16 t.d_Q16 ["_law_one", "_law_other"] (sp_law_times K) := by
 refine T.F_Q16.ok sc_Q16 (fun vs H Q E h => ?_) (fun cdv A outer s H vs Q E hr h => ?_)
 ·obtain ⟨_, _, _, _, _, _, rfl, _⟩ := h; rfl
 obtain ⟨v, w, r, q, n, m, rfl, hv, hw, wr, wq, hz, k⟩ := h
 refine QSs.ok (qss_one (qs_ret (qcA (ok_Q14 T) hr T.m_Q14 T.F_Q14.kp T.b_Q14 (qa_cons (qe_op op_mulB (qxA ix_tup (qv 0) qe_int) (qxA ix_tup (qv 1) qe_int)) (qa_cons (qe_op op_mulB (qxA ix_tup (qv 0) qe_int) (qxA ix_tup (qv 1) qe_int)) qa_nil star_bin) star_bin)))) ?_
 extract_lets +lift
 try dsimp -zeta -zetaDelta only [Cx.nox, Cx.wish, cxOf]
 obtain ⟨p, rfl, hv⟩ := hv
 obtain ⟨p', rfl, hw⟩ := hw
 have c1 := big_of wr.top (show n ≤ 4000 by omega)
 have c2 := big_of wr.bot (show n ≤ 4000 by omega)
 have c3 := big_of wq.top (show m ≤ 4000 by omega)
 have c4 := big_of wq.bot (show m ≤ 4000 by omega)
 have bp := Int.mul_pos wr.pos wq.pos
 refine ⟨_, rfl, p, _, _, _, rfl, rfl, hv, rfl, _, rfl, p', _, _, _, rfl, rfl, hw, rfl, _, _, rfl, rfl, ⟨c1, c3⟩, _, rfl, p, _, _, _, rfl, rfl, hv, rfl, _, rfl, p', _, _, _, rfl, rfl, hw, rfl, _, _, rfl, rfl, ⟨c2, c4⟩, _, _, rfl, Int.ne_of_gt bp, big_of (mul_lt wr.bot wq.bot) (by omega), (by rw [mkS_pos bp]; exact k)⟩
theorem ok_Q26 (T : Txt K mg t) : FnOk P w K mg base CX0 3 t.a_Q26 t.d_Q26 ["_law_one", "_law_other"] (sp_law_over K) := by
 refine T.F_Q26.ok sc_Q26 (fun vs H Q E h => ?_) (fun cdv A outer s H vs Q E hr h => ?_)
 ·obtain ⟨_, _, _, _, _, _, rfl, _⟩ := h; rfl
 obtain ⟨v, w, r, q, n, m, rfl, hv, hw, wr, wq, hz, hq, k⟩ := h
 refine QSs.ok (qss_one (qs_ret (qcA (ok_Q14 T) hr T.m_Q14 T.F_Q14.kp T.b_Q14 (qa_cons (qe_op op_mulB (qxA ix_tup (qv 0) qe_int) (qxA ix_tup (qv 1) qe_int)) (qa_cons (qe_op op_mulB (qxA ix_tup (qv 0) qe_int) (qxA ix_tup (qv 1) qe_int)) qa_nil star_bin) star_bin)))) ?_
 extract_lets +lift
 try dsimp -zeta -zetaDelta only [Cx.nox, Cx.wish, cxOf]
 obtain ⟨p, rfl, hv⟩ := hv
 obtain ⟨p', rfl, hw⟩ := hw
 have c1 := big_of wr.top (show n ≤ 4000 by omega)
 have c2 := big_of wr.bot (show n ≤ 4000 by omega)
 have c3 := big_of wq.top (show m ≤ 4000 by omega)
 have c4 := big_of wq.bot (show m ≤ 4000 by omega)
 have bn : r.2 * q.1 ≠ 0 := Int.mul_ne_zero (by have := wr.pos; omega) hq
 refine ⟨_, rfl, p, _, _, _, rfl, rfl, hv, rfl, _, rfl, p', _, _, _, rfl, rfl, hw, rfl, _, _, rfl, rfl, ⟨c1, c4⟩, _, rfl, p, _, _, _, rfl, rfl, hv, rfl, _, rfl, p', _, _, _, rfl, rfl, hw, rfl, _, _, rfl, rfl, ⟨c2, c3⟩, _, _, rfl, bn, big_of (mul_lt wr.bot wq.top) (by omega), k⟩
theorem ok_Q27 (T : Txt K mg t) : FnOk P w K mg base CX0 1 t.a_Q27 t.d_Q27 ["_law_one", "_law_other"] (sp_law_less K) := by
 refine T.F_Q27.ok sc_Q27 (fun vs H Q E h => ?_) (fun cdv A outer s H vs Q E hr h => ?_)
 ·obtain ⟨_, _, _, _, _, _, rfl, _⟩ := h; rfl
 obtain ⟨v, w, r, q, n, m, rfl, hv, hw, wr, wq, hz, k⟩ := h
 refine QSs.ok (qss_one (qs_ret (qe_cmpR op_lt (qe_op op_mulB (qxA ix_tup (qv 0) qe_int) (qxA ix_tup (qv 1) qe_int)) (qe_op op_mulB (qxA ix_tup (qv 1) qe_int) (qxA ix_tup (qv 0) qe_int)) (nomark _)))) ?_
 extract_lets +lift
 try dsimp -zeta -zetaDelta only [Cx.nox, Cx.wish, cxOf]
 obtain ⟨p, rfl, hv⟩ := hv
 obtain ⟨p', rfl, hw⟩ := hw
 have c1 := big_of wr.top (show n ≤ 4000 by omega)
 have c2 := big_of wr.bot (show n ≤ 4000 by omega)
 have c3 := big_of wq.top (show m ≤ 4000 by omega)
 have c4 := big_of wq.bot (show m ≤ 4000 by omega)
 refine ⟨_, rfl, p, _, _, _, rfl, rfl, hv, rfl, _, rfl, p', _, _, _, rfl, rfl, hw, rfl, _, _, rfl, rfl, ⟨c1, c4⟩, _, rfl, p', _, _, _, rfl, rfl, hw, rfl, _, rfl, p, _, _, _, rfl, rfl, hv, rfl, _, _, rfl, rfl, ⟨c3, c2⟩, _, _, rfl, rfl, k⟩
theorem ok_Q34 (T : Txt K mg t) : FnOk P w K mg base CX0 4 t.a_Q34 t.d_Q34 ["_law_some"] (sp_law_sum K) := by
 refine T.F_Q34.ok sc_Q34 (fun vs H Q E h => ?_) (fun cdv A outer s H vs Q E hr h => ?_)
 ·obtain ⟨_, _, _, _, _, _, rfl, _⟩ := h; rfl
 obtain ⟨a, xs, rs, D, N, n, rfl, hS, al, bq, h0, h1, h2, hl, hn, k⟩ := h
 refine QSs.ok (qss_consL (qsA 1 sc_Q34.nd (qe_tup (qa_cons qe_int (qa_cons qe_int qa_nil star_con) star_con)))
   (qss_consL (qs_for PassesOwn.never rfl (qi_list (qv 0)) (qg_name (i := 2) sc_Q34.nd rfl (by first | exact Or.inl rfl | exact Or.inr rfl))
   (qss_one (qsA 1 sc_Q34.nd (qcA (ok_Q25 T) hr T.m_Q25 T.F_Q25.kp T.b_Q25 (qa_cons (qv 1) (qa_cons (qv 2) qa_nil star_name) star_name)))))
   (qss_one (qs_ret (qv 1))))) ?_
 extract_lets +lift
 try dsimp -zeta -zetaDelta only [Cx.nox, Cx.wish, cxOf]
 have hlen := al.len
 refine ⟨zl2, fun p0 hp0 => ?_⟩
 have s0 := same_new hp0 (.tup [.int 0, .int 1])
 refine ⟨_, rfl, a, rfl, ⟨_, s0.seq hS⟩, for_list (K := K) (a := a) (xs := xs) (fun i σ H' => ∃ (u : V) (x3 : Option V), σ = [some (.ref a), some u, x3] /\ Same H H' /\ RV K H' u (sumR (rs.take i))) ⟨_, none, rfl, s0, RV.of upd_same⟩ (fun i σ H1 _ ⟨_, _, _, s1, _⟩ => s1.seq hS) ?_ ?_⟩
 ·rintro i y σ H1 hi ⟨u, x3, rfl, s1, ru⟩
  obtain ⟨r, hr, rv⟩ := al.at hi
  have wr := bq_wfB (bq r (List.mem_of_getElem? hr)) h0 h1 h2
  have wu : Wf n (sumR (rs.take i)) := sum_wfB (fun z hz => bq z (List.mem_of_mem_take hz)) h0 h1 h2 (by rw [List.length_take]; omega)
  have e : sumR (rs.take (i + 1)) = plusR (sumR (rs.take i)) r := by
   unfold sumR
   rw [List.take_add_one, hr, List.foldl_append]
   rfl
  refine ⟨_, rfl, _, rfl, u, y, sumR (rs.take i), r, n, n, rfl, ru, rv.mono (Tst.same s1), wu, wr, by omega, fun p hp => ?_⟩
  have s2 := same_new hp (.tup [.int (plusR (sumR (rs.take i)) r).1, .int (plusR (sumR (rs.take i)) r).2])
  refine ⟨_, _, rfl, s1.trans s2, ?_⟩
  rw [e]; exact RV.of upd_same
 ·rintro σ H1 ⟨u, x3, rfl, s1, ru⟩
  rw [hlen, List.take_length] at ru
  exact ⟨_, rfl, k u H1 s1 ru⟩
theorem ok_Q28 (T : Txt K mg t) : FnOk P w K mg base CX0 3 t.a_Q28 t.d_Q28 ["_law_tape_here"] (sp_law_part K) := by
 refine T.F_Q28.ok sc_Q28 (fun vs H Q E h => ?_) (fun cdv A outer s H vs Q E hr h => ?_)
 ·obtain ⟨_, _, rfl, _⟩ := h; rfl
 obtain ⟨t₁, s₀, rfl, T0, k⟩ := h
 refine QSs.ok (qss_consL (qsA 1 sc_Q28.nd (qe_lst (qa_cons qe_int (qa_cons qe_int (qa_cons qe_int (qa_cons qe_int (qa_cons (qe_op op_add qe_int (qcA (ok_Q24 T) hr T.m_Q24 T.F_Q24.kp T.b_Q24 (qa_cons (qv 0) (qa_cons qe_int qa_nil star_con) star_name))) (qa_cons (qe_op op_add qe_int (qcA (ok_Q24 T) hr T.m_Q24 T.F_Q24.kp T.b_Q24 (qa_cons (qv 0) (qa_cons qe_int qa_nil star_con) star_name))) (qa_cons (qe_op op_add (qe_op op_pow qe_int qe_int) qe_int) qa_nil star_bin) star_bin) star_bin) star_con) star_con) star_con) star_con)))
   (qss_consL (qsA 2 sc_Q28.nd (qe_lst (qa_cons qe_int (qa_cons qe_int (qa_cons qe_int (qa_cons qe_int (qa_cons qe_int (qa_cons qe_int (qa_cons (qe_op op_add qe_int (qcA (ok_Q24 T) hr T.m_Q24 T.F_Q24.kp T.b_Q24 (qa_cons (qv 0) (qa_cons qe_int qa_nil star_con) star_name))) (qa_cons (qe_op op_pow qe_int qe_int) qa_nil star_bin) star_bin) star_con) star_con) star_con) star_con) star_con) star_con)))
   (qss_one (qs_ret (qcA (ok_Q14 T) hr T.m_Q14 T.F_Q14.kp T.b_Q14 (qa_cons (qxA ix_list (qv 1) (qcA (ok_Q24 T) hr T.m_Q24 T.F_Q24.kp T.b_Q24 (qa_cons (qv 0) (qa_cons qe_int qa_nil star_con) star_name))) (qa_cons (qxA ix_list (qv 2) (qcA (ok_Q24 T) hr T.m_Q24 T.F_Q24.kp T.b_Q24 (qa_cons (qv 0) (qa_cons qe_int qa_nil star_con) star_name))) qa_nil star_sub) star_sub)))))) ?_
 extract_lets +lift
 try dsimp -zeta -zetaDelta only [Cx.nox, Cx.wish, cxOf]
 refine ⟨_, rfl, t₁, s₀, 40, rfl, T0, by decide, by decide, fun r1 x1 a1 b1 T1 => ⟨_, _, rfl, rfl, _, rfl, t₁, s₀, 60000, rfl, T1, by decide, by decide, fun r2 x2 a2 b2 T2 => ⟨_, _, rfl, rfl, _, _, rfl, rfl, ⟨by decide, by decide, by decide⟩, _, _, rfl, rfl, zl7, fun l1 g1 => ?_⟩⟩⟩
 have T3 := T2.new g1 (.lst [.int 1, .int 2, .int 3, .int 5, .int (1 + r1), .int (1 + r2), .int (10 ^ 9 + 7)])
 refine ⟨_, rfl, t₁, s₀, 30, rfl, T3, by decide, by decide, fun r3 x3 a3 b3 T4 => ⟨_, _, rfl, rfl, _, _, rfl, rfl, ⟨by decide, by decide, by decide⟩, zl8, fun l2 g2 => ?_⟩⟩
 have T5 := T4.new g2 (.lst [.int 1, .int 1, .int 1, .int 2, .int 3, .int 6, .int (1 + r3), .int (10 ^ 9)])
 have n1 : l1 ≠ t₁ := fun z => by subst z; obtain ⟨_, e⟩ := T2.lst; rw [g1] at e; cases e
 have n2 : l2 ≠ t₁ := fun z => by subst z; obtain ⟨_, e⟩ := T4.lst; rw [g2] at e; cases e
 have n3 : l1 ≠ l2 := fun z => by subst z; rw [upd_ne n1, upd_same] at g2; cases g2
 refine ⟨_, rfl, _, rfl, t₁, s₀, 7, rfl, T5, by decide, by decide, fun r4 x4 a4 b4 T6 => ?_⟩
 obtain ⟨v1, hv1, m1⟩ := pick (xs := [.int 1, .int 2, .int 3, .int 5, .int (1 + r1), .int (1 + r2), .int (10 ^ 9 + 7)]) a4 b4
 refine ⟨l1, _, _, v1, rfl, rfl, SqL.of (by rw [upd_ne n1, upd_ne n3, upd_ne n1, upd_same] <;> rfl), hv1, ?_⟩
 refine ⟨_, rfl, _, rfl, t₁, s₀, 8, rfl, T6, by decide, by decide, fun r5 x5 a5 b5 T7 => ?_⟩
 obtain ⟨v2, hv2, m2⟩ := pick (xs := [.int 1, .int 1, .int 1, .int 2, .int 3, .int 6, .int (1 + r3), .int (10 ^ 9)]) a5 b5
 refine ⟨l2, _, _, v2, rfl, rfl, SqL.of (by rw [upd_ne n2, upd_ne n2, upd_same] <;> rfl), hv2, ?_⟩
 obtain ⟨z1, rfl, p1, q1⟩ : ∃ z : Int, v1 = .int z /\ 0 < z /\ z ≤ 1000000007 := by
  simp only [List.mem_cons, List.not_mem_nil, or_false] at m1
  rcases m1 with e | e | e | e | e | e | e
  all_goals exact ⟨_, e, by omega, by omega⟩
 obtain ⟨z2, rfl, p2, q2, d2⟩ : ∃ z : Int, v2 = .int z /\ 0 < z /\ z < 2 ^ 31 /\ z ∣ (D0 : Int) := by
  simp only [List.mem_cons, List.not_mem_nil, or_false] at m2
  rcases m2 with e | e | e | e | e | e | e | e
  ·exact ⟨_, e, by decide, by decide, by decide⟩
  ·exact ⟨_, e, by decide, by decide, by decide⟩
  ·exact ⟨_, e, by decide, by decide, by decide⟩
  ·exact ⟨_, e, by decide, by decide, by decide⟩
  ·exact ⟨_, e, by decide, by decide, by decide⟩
  ·exact ⟨_, e, by decide, by decide, by decide⟩
  ·exact ⟨_, e, by omega, by omega, div30 a3 b3⟩
  ·exact ⟨_, e, by decide, by decide, by decide⟩
 have w2 : z2.natAbs < 2 ^ 31 := by omega
 refine ⟨z1, z2, rfl, by omega, big_of w2 (by decide), ?_⟩
 rw [mkS_pos p2]
 intro p hp
 have S := (((((((Step.up (ys := x1) T0.lst.choose_spec).trans (Step.up (ys := x2) upd_same)).trans (Step.new ⟨_, upd_same⟩ g1 _)).trans (Step.up (ys := x3) T3.lst.choose_spec)).trans (Step.new T4.lst g2 _)).trans (Step.up (ys := x4) T5.lst.choose_spec)).trans (Step.up (ys := x5) T6.lst.choose_spec)).trans (Step.new T7.lst hp (.tup [.int (mkR z1 z2).1, .int (mkR z1 z2).2]))
 exact k _ (mkR z1 z2) _ (part_ok p1 q1 p2 d2) S (T7.new hp _) (RV.of upd_same)
theorem ok_Q17 (T : Txt K mg t) : FnOk P w K mg base CX0 4 t.a_Q17 t.d_Q17 ["_law_tape_here"] (sp_law_table K) := by
 refine T.F_Q17.ok sc_Q17 (fun vs H Q E h => ?_) (fun cdv A outer s H vs Q E hr h => ?_)
 ·obtain ⟨_, _, rfl, _⟩ := h; rfl
 obtain ⟨t₁, s₀, rfl, T0, k⟩ := h
 refine QSs.ok (qss_consL (qsA 1 sc_Q17.nd (qe_lst (qa_cons (qe_tup (qa_cons (qe_tup (qa_cons qe_int (qa_cons qe_int qa_nil star_con) star_con)) (qa_cons (qxA ix_list (qe_lst (qa_cons (qe_tup (qa_cons qe_int (qa_cons qe_int qa_nil star_con) star_con)) (qa_cons (qcA (ok_Q28 T) hr T.m_Q28 T.F_Q28.kp T.b_Q28 (qa_cons (qv 0) qa_nil star_name)) qa_nil star_call) star_tup)) (qcA (ok_Q24 T) hr T.m_Q24 T.F_Q24.kp T.b_Q24 (qa_cons (qv 0) (qa_cons qe_int qa_nil star_con) star_name))) qa_nil star_sub) star_tup)) qa_nil star_tup)))
   (qss_consL (qsA 2 sc_Q17.nd (qcA (ok_Q28 T) hr T.m_Q28 T.F_Q28.kp T.b_Q28 (qa_cons (qv 0) qa_nil star_name)))
   (qss_consL (qs_for PassesOwn.never rfl (qi_range1 rfl T.z_range (qa_cons (qxA ix_list (qe_lst (qa_cons qe_int (qa_cons qe_int (qa_cons qe_int (qa_cons qe_int (qa_cons qe_int qa_nil star_con) star_con) star_con) star_con) star_con)) (qcA (ok_Q24 T) hr T.m_Q24 T.F_Q24.kp T.b_Q24 (qa_cons (qv 0) (qa_cons qe_int qa_nil star_con) star_name))) qa_nil star_sub)) (qg_name (i := 3) sc_Q17.nd rfl (by first | exact Or.inl rfl | exact Or.inr rfl))
   (qss_consL (qsA 4 sc_Q17.nd (qcA (ok_Q28 T) hr T.m_Q28 T.F_Q28.kp T.b_Q28 (qa_cons (qv 0) qa_nil star_name)))
   (qss_consL (qs_asg (qxA ix_list (qv 1) (qe_un un_neg qe_int)) (qg_tup rfl (qgs_cons (qg_name (i := 5) sc_Q17.nd rfl (by first | exact Or.inl rfl | exact Or.inr rfl)) (qgs_cons (qg_name (i := 6) sc_Q17.nd rfl (by first | exact Or.inl rfl | exact Or.inr rfl)) qgs_nil))))
   (qss_consL (qs_expr (qe_bm PySem.F.plainAttrs_list PySem.F.slot_list_append PySem.F.type_list_append mt_append (qv 1) (qa_cons (qe_tup (qa_cons (qcA (ok_Q25 T) hr T.m_Q25 T.F_Q25.kp T.b_Q25 (qa_cons (qv 5) (qa_cons (qv 4) qa_nil star_name) star_name)) (qa_cons (qcA (ok_Q25 T) hr T.m_Q25 T.F_Q25.kp T.b_Q25 (qa_cons (qv 6) (qa_cons (qcA (ok_Q16 T) hr T.m_Q16 T.F_Q16.kp T.b_Q16 (qa_cons (qv 2) (qa_cons (qv 4) qa_nil star_name) star_name)) qa_nil star_call) star_name)) qa_nil star_call) star_call)) qa_nil star_tup)))
   (qss_one (qs_if (qt_cmpR op_gt (qcA (ok_Q24 T) hr T.m_Q24 T.F_Q24.kp T.b_Q24 (qa_cons (qv 0) (qa_cons qe_int qa_nil star_con) star_name)) qe_int (nomark _)) (qss_one (qsA 2 sc_Q17.nd (qcA (ok_Q25 T) hr T.m_Q25 T.F_Q25.kp T.b_Q25 (qa_cons (qv 2) (qa_cons (qcA (ok_Q28 T) hr T.m_Q28 T.F_Q28.kp T.b_Q28 (qa_cons (qv 0) qa_nil star_name)) qa_nil star_call) star_name)))) qss_nil))))))
   (qss_one (qs_ret (qe_tup (qa_cons qe_str (qa_cons (qe_callTy call_tuple_of (by rfl) T.z_tuple boot_tuple (qa_cons (qv 1) qa_nil star_name)) qa_nil star_call) star_con))))))) ?_
 extract_lets +lift
 try dsimp -zeta -zetaDelta only [Cx.nox, Cx.wish, cxOf]
 refine ⟨zl2, fun p0 h0 => ⟨zl2, fun p1 h1 => ⟨_, rfl, t₁, s₀, rfl, (T0.new h0 _).new h1 _, fun v r Ha oka Sa Ta hv => ⟨zl2, fun l hl => ?_⟩⟩⟩⟩
 have Tb := Ta.new hl (.lst [.ref p1, v])
 refine ⟨_, rfl, t₁, s₀, 2, rfl, Tb, by decide, by decide, fun r1 x1 a1 b1 Tc => ?_⟩
 have nl : l ≠ t₁ := fun z => by subst z; obtain ⟨_, e⟩ := Ta.lst; rw [hl] at e; cases e
 obtain ⟨vp, hvp, mvp⟩ := pick (xs := [.ref p1, v]) a1 b1
 refine ⟨l, _, _, vp, rfl, rfl, SqL.of (by rw [upd_ne nl, upd_same] <;> rfl), hvp, ?_⟩
 have Sf : Step t₁ _ _ := Step.up (ys := x1) Tb.lst.choose_spec
 have m0 := same_new h0 (.tup [.int 0, .int 1])
 have m1 := same_new h1 (.tup [.int 0, .int 1])
 have ml := same_new hl (.lst [.ref p1, v])
 have Sab : Step t₁ (upd (upd H p0 (.tup [.int 0, .int 1])) p1 (.tup [.int 0, .int 1])) _ := (Sa.trans (Step.same ml Ta.lst)).trans Sf
 have S0 : Step t₁ H _ := (Step.same (m0.trans m1) T0.lst).trans Sab
 have z0 : RV K (upd (upd H p0 (.tup [.int 0, .int 1])) p1 (.tup [.int 0, .int 1])) (.ref p0) (0, 1) := (rv_new (K := K) m0).mono (Tst.same m1)
 have z1 : RV K (upd (upd H p0 (.tup [.int 0, .int 1])) p1 (.tup [.int 0, .int 1])) (.ref p1) (0, 1) := rv_new (K := K) m1
 replace z0 := z0.mono (Tst.step Sab)
 replace z1 := z1.mono (Tst.step Sab)
 have zv := (hv.mono (Tst.same ml)).mono (Tst.step Sf)
 obtain ⟨y, by0, hy⟩ : ∃ y : R, Bq D0 N0 y /\ RV K (upd (upd Ha l (.lst [.ref p1, v])) t₁ (.lst x1)) vp y := by
  simp only [List.mem_cons, List.not_mem_nil, or_false] at mvp
  rcases mvp with rfl | rfl
  ·exact ⟨_, bq_zero, z1⟩
  ·exact ⟨_, oka.bq, zv⟩
 clear z1 zv hvp Sf Sab ml m0 m1
 generalize (upd (upd Ha l (.lst [.ref p1, v])) t₁ (.lst x1)) = Hb at S0 Tc z0 hy ⊢
 refine ⟨zl2, fun p2 h2 => ⟨zl1, fun lr hlr => ?_⟩⟩
 have m2 := same_new h2 (.tup [.ref p0, vp])
 have m3 := same_new hlr (.lst [.ref p2])
 have T3 := (Tc.same m2).same m3
 have nlt : lr ≠ t₁ := fun z => by subst z; obtain ⟨_, e⟩ := (Tc.same m2).lst; rw [hlr] at e; cases e
 have nls : lr ≠ s₀ := fun z => by subst z; obtain ⟨_, e⟩ := (Tc.same m2).scr; rw [hlr] at e; cases e
 have rw0 : RowV K (upd (upd Hb p2 (.tup [.ref p0, vp])) lr (.lst [.ref p2])) (.ref p2) ((0, 1), y) := ⟨p2, _, _, rfl, SqT.of (m3 _ _ upd_same), (z0.mono (Tst.same m2)).mono (Tst.same m3), (hy.mono (Tst.same m2)).mono (Tst.same m3)⟩
 have S3 := S0.trans (Step.same (m2.trans m3) Tc.lst)
 have hl0 : (upd (upd Hb p2 (.tup [.ref p0, vp])) lr (.lst [.ref p2])) lr = some (.lst [.ref p2]) := upd_same
 have ne_lr : ∀ b o, H b = some o -> b ≠ lr := fun b o q z => by
  subst z
  have : H b = none := by
   cases hb : H b with
   | none => rfl
   | some o' =>
    by_cases nb : b = t₁
    ·exact absurd nb nlt
    ·have := S0.keep _ _ nb hb
     have := m2 _ _ this
     rw [hlr] at this
     cases this
  rw [this] at q; cases q
 generalize (upd (upd Hb p2 (.tup [.ref p0, vp])) lr (.lst [.ref p2])) = Hc at T3 rw0 S3 hl0 ⊢
 refine ⟨_, rfl, t₁, s₀, rfl, T3, fun vs sl Hd okd Sd Td hvs => ?_⟩
 have hl1 := Sd.keep _ _ nlt hl0
 refine ⟨zl5, fun l5 h5 => ?_⟩
 have T5 := Td.new h5 (.lst [.int 1, .int 2, .int 3, .int 5, .int 11])
 refine ⟨_, rfl, t₁, s₀, 5, rfl, T5, by decide, by decide, fun r2 x2 a2 b2 T6 => ?_⟩
 have n5 : l5 ≠ t₁ := fun z => by subst z; obtain ⟨_, e⟩ := Td.lst; rw [h5] at e; cases e
 obtain ⟨vn, hvn, mvn⟩ := pick (xs := [.int 1, .int 2, .int 3, .int 5, .int 11]) a2 b2
 refine ⟨l5, _, _, vn, rfl, rfl, SqL.of (by rw [upd_ne n5, upd_same] <;> rfl), hvn, ?_⟩
 obtain ⟨nn, rfl, n1, n11⟩ : ∃ z : Int, vn = .int z /\ 1 ≤ z /\ z ≤ 11 := by
  simp only [List.mem_cons, List.not_mem_nil, or_false] at mvn
  rcases mvn with e | e | e | e | e
  all_goals exact ⟨_, e, by omega, by omega⟩
 have S6 : Step t₁ Hd _ := (Step.same (same_new h5 (.lst [.int 1, .int 2, .int 3, .int 5, .int 11])) Td.lst).trans (Step.up (ys := x2) T5.lst.choose_spec)
 have S36 := (S3.trans Sd).trans S6
 have hl6 := S6.keep _ _ nlt hl1
 have rw6 := (rw0.mono (Tst.step Sd)).mono (Tst.step S6)
 have hv6 := hvs.mono (Tst.step S6)
 generalize (upd (upd Hd l5 (.lst [.int 1, .int 2, .int 3, .int 5, .int 11])) t₁ (.lst x2)) = He at T6 S36 hl6 rw6 hv6 ⊢
 refine ⟨nn, rfl, by omega, by omega, for_range (lo := 0) (n := nn.toNat) (fun i σ H' => ∃ (vs : V) (x3 x4 x5 x6 : Option V), σ = [some (.ref t₁), some (.ref lr), some vs, x3, x4, x5, x6] /\ Tape H' t₁ s₀ /\ (∀ b o, b ≠ t₁ -> H b = some o -> H' b = some o) /\ ∃ xs rows sl, H' lr = some (.lst xs) /\ Als (RowV K H') xs rows /\ TabS i rows /\ RV K H' vs sl /\ Bq D0 ((i + 1) * N0) sl /\ Cv rows (val sl)) ⟨vs, none, none, none, none, rfl, T6, S36.keep, [.ref p2], _, sl, hl6, .cons rw6 .nil, tabS_one by0, hv6, okd.bq.mono ⟨1, rfl⟩ (by omega), cv_one _ _⟩ ?_ ?_⟩
 ·rintro i σ H1 hi ⟨vs, x3, x4, x5, x6, rfl, T1, kp, xs, rows, sl, hlx, als, tab, hsl, bsl, cv⟩
  have i10 : i ≤ 10 := by omega
  refine ⟨_, rfl, t₁, s₀, rfl, T1, fun v4 st H2 ok4 S2 T2 h4 => ?_⟩
  have hlx2 := S2.keep _ _ nlt hlx
  obtain ⟨xl, w, hat, hw, rvw, _⟩ := (als.mono fun _ _ z => z.mono (Tst.step (K := K) S2)).last tab.tb.len
  obtain ⟨pw, y1, y2, exl, hSw, hy1, hy2⟩ := rvw
  have mw := List.mem_of_getElem? hw
  refine ⟨_, rfl, _, rfl, lr, xs, -1, xl, rfl, rfl, SqL.of hlx2, hat, ?_⟩
  refine ⟨pw, _, exl, hSw, rfl, _, _, rfl, _, _, rfl, rfl, ?_⟩
  have hsl2 := hsl.mono (Tst.step S2)
  have w4 := ok4.wf
  have wy1 := wf_sp (tab.tb.sp w mw) (by omega)
  have wy2 := wf_pw (tab.tb.pw w mw) (by omega)
  have wsl := wf_sp bsl (by omega)
  refine ⟨_, rfl, .inl ⟨rfl, _, SqL.of hlx2⟩, _, rfl, _, rfl, y1, v4, w.1, st, 98, 98, rfl, hy1, h4, wy1, w4, by decide, fun q1 g1 => ?_⟩
  have e1 := same_new g1 (.tup [.int (plusR w.1 st).1, .int (plusR w.1 st).2])
  refine ⟨_, rfl, _, rfl, _, rfl, vs, v4, sl, st, 98, 98, rfl, hsl2.mono (Tst.same e1), h4.mono (Tst.same e1), wsl, w4, by decide, fun q2 g2 => ?_⟩
  have e2 := same_new g2 (.tup [.int (timesR sl st).1, .int (timesR sl st).2])
  refine ⟨y2, .ref q2, w.2, timesR sl st, 197, 196, rfl, (hy2.mono (Tst.same e1)).mono (Tst.same e2), rv_new (K := K) e2, wy2, times_wf wsl w4, by decide, fun q3 g3 => ⟨zl2, fun q4 g4 => ?_⟩⟩
  have e3 := same_new g3 (.tup [.int (plusR w.2 (timesR sl st)).1, .int (plusR w.2 (timesR sl st)).2])
  have e4 := same_new g4 (.tup [.ref q1, .ref q3])
  have e14 := ((e1.trans e2).trans e3).trans e4
  have hlx3 := e14 _ _ hlx2
  have ra : RV K _ (.ref q1) (plusR w.1 st) := (((rv_new (K := K) e1).mono (Tst.same e2)).mono (Tst.same e3)).mono (Tst.same e4)
  have rb : RV K _ (.ref q3) (plusR w.2 (timesR sl st)) := (rv_new (K := K) e3).mono (Tst.same e4)
  have rn : RowV K _ (.ref q4) (plusR w.1 st, plusR w.2 (timesR sl st)) := ⟨q4, _, _, rfl, SqT.of upd_same, ra, rb⟩
  have T4 := T2.same e14
  have S24 := S2.trans (Step.same e14 T2.lst)
  have hsl4 := hsl2.mono (Tst.same e14)
  clear ra rb
  generalize (upd (upd (upd (upd H2 q1 (.tup [.int (plusR w.1 st).1, .int (plusR w.1 st).2])) q2 (.tup [.int (timesR sl st).1, .int (timesR sl st).2])) q3 (.tup [.int (plusR w.2 (timesR sl st)).1, .int (plusR w.2 (timesR sl st)).2])) q4 (.tup [.ref q1, .ref q3])) = H4 at hlx3 rn T4 S24 hsl4 ⊢
  refine ⟨lr, xs, _, rfl, rfl, hlx3, small1000 (by rw [als.len, tab.tb.len]; omega), ?_⟩
  have up := Tst.up (K := K) hlx3 (xs ++ [.ref q4])
  have T5 := T4.upl nlt nls (.lst (xs ++ [.ref q4]))
  have tm := (Tst.step (K := K) S24).trans up
  have als5 := (als.mono fun _ _ z => z.mono tm).snoc (rn.mono up)
  have tab5 := tab.snoc i10 hw bsl ok4
  have cv5 := Cv.snoc tab.tb.len hw cv (tab.tb.sp w mw).pos (tab.tb.pw w mw).pos bsl.red ok4.bq.red ok4.pos
  have hsl5 := hsl4.mono up
  have kp5 : ∀ b o, b ≠ t₁ -> H b = some o -> (upd H4 lr (.lst (xs ++ [.ref q4]))) b = some o := fun b o nb q => by
   rw [upd_ne (ne_lr b o q)]
   exact S24.keep _ _ nb (kp b o nb q)
  have hlx5 : (upd H4 lr (.lst (xs ++ [.ref q4]))) lr = some (.lst (xs ++ [.ref q4])) := upd_same
  generalize (upd H4 lr (.lst (xs ++ [.ref q4]))) = H5 at T5 als5 hsl5 kp5 hlx5 ⊢
  refine ⟨_, rfl, t₁, s₀, 4, rfl, T5, by decide, by decide, fun r6 x6 a6 b6 T6 => ⟨_, _, rfl, rfl, _, rfl, ?_⟩⟩
  have S6 : Step t₁ H5 _ := Step.up (ys := x6) T5.lst.choose_spec
  by_cases c : 0 < r6
  ·refine iteD1 c ?_
   refine ⟨_, rfl, _, rfl, t₁, s₀, rfl, T6, fun v7 st7 H7 ok7 S7 T7 h7 => ?_⟩
   have S67 := S6.trans S7
   refine ⟨vs, v7, sl, st7, 98, 98, rfl, hsl5.mono (Tst.step S67), h7, wsl, ok7.wf, by decide, fun q8 g8 => ?_⟩
   have e8 := same_new g8 (.tup [.int (plusR sl st7).1, .int (plusR sl st7).2])
   have tm8 := (Tst.step (K := K) S67).trans (Tst.same e8)
   exact ⟨.ref q8, _, _, _, _, rfl, T7.same e8, fun b o nb q => e8 _ _ (S67.keep _ _ nb (kp5 b o nb q)), _, _, plusR sl st7, e8 _ _ (S67.keep _ _ nlt hlx5), als5.mono fun _ _ z => z.mono tm8, tab5, rv_new (K := K) e8, (bsl.plus (by decide) ok7.bq).mono ⟨1, rfl⟩ (by rw [Nat.add_mul (i + 1) 1]; omega), cv5.up (Rat.le_of_lt ((val_less bsl.pos (plus_red bsl.red ok7.bq.red).pos).mp (less_plus bsl.red ok7.bq.red ok7.pos)))⟩
  ·refine iteD0 c ?_
   exact ⟨vs, _, _, _, _, rfl, T6, fun b o nb q => S6.keep _ _ nb (kp5 b o nb q), _, _, sl, S6.keep _ _ nlt hlx5, als5.mono fun _ _ z => z.mono (Tst.step S6), tab5, hsl5.mono (Tst.step S6), bsl.mono ⟨1, rfl⟩ (Nat.mul_le_mul_right _ (Nat.le_succ _)), cv5⟩
 ·rintro σ H1 ⟨vs, x3, x4, x5, x6, rfl, T1, kp, xs, rows, sl, hlx, als, tab, hsl, bsl, cv⟩
  refine ⟨_, rfl, lr, xs, rfl, .inl ⟨SqL.of hlx, fun p3 h3 => ⟨zl2, fun p4 h4 => ?_⟩⟩⟩
  have m3 := same_new h3 (.tup xs)
  have m4 := same_new h4 (.tup [.str (Str.ofString "table"), .ref p3])
  have m := m3.trans m4
  exact k _ rows _ (tab.ok (by omega) (by omega)) cv.1 ⟨fun b o nb q => m _ _ (kp b o nb q), T0.lst, (T1.same m).lst⟩ (T1.same m) ⟨p4, p3, xs, rfl, SqT.of upd_same, SqT.of (m4 _ _ upd_same), als.mono fun _ _ z => z.mono (Tst.same m)⟩
theorem ok_Q29 (T : Txt K mg t) : FnOk P w K mg base CX0 5 t.a_Q29 t.d_Q29 ["_law_tape_here"] (sp_law_rule K) := by
 refine T.F_Q29.ok sc_Q29 (fun vs H Q E h => ?_) (fun cdv A outer s H vs Q E hr h => ?_)
 ·obtain ⟨_, _, rfl, _⟩ := h; rfl
 obtain ⟨t₁, s₀, rfl, T0, k⟩ := h
 refine QSs.ok (qss_consL (qs_if (qt_cmpR op_eq (qcA (ok_Q24 T) hr T.m_Q24 T.F_Q24.kp T.b_Q24 (qa_cons (qv 0) (qa_cons qe_int qa_nil star_con) star_name)) qe_int (nomark _)) (qss_one (qs_ret (qe_tup (qa_cons qe_str (qa_cons (qe_op op_add qe_int (qcA (ok_Q24 T) hr T.m_Q24 T.F_Q24.kp T.b_Q24 (qa_cons (qv 0) (qa_cons qe_int qa_nil star_con) star_name))) qa_nil star_bin) star_con)))) qss_nil)
   (qss_one (qs_ret (qcA (ok_Q17 T) hr T.m_Q17 T.F_Q17.kp T.b_Q17 (qa_cons (qv 0) qa_nil star_name))))) ?_
 extract_lets +lift
 try dsimp -zeta -zetaDelta only [Cx.nox, Cx.wish, cxOf]
 refine ⟨_, rfl, t₁, s₀, 3, rfl, T0, by decide, by decide, fun r1 x1 a1 b1 T1 => ⟨rfl, _, rfl, ?_⟩⟩
 have S1 := Step.up (ys := x1) T0.lst.choose_spec
 by_cases h0 : r1 = 0
 ·refine iteD1 (by rw [h0]) ?_
  refine ⟨_, rfl, t₁, s₀, 3, rfl, T1, by decide, by decide, fun r2 x2 a2 b2 T2 => ⟨_, _, rfl, rfl, zl2, fun p hp => ?_⟩⟩
  exact k _ (.pow (2 + r2)) _ ⟨by omega, by omega⟩ trivial ((S1.trans (Step.up (ys := x2) T1.lst.choose_spec)).trans (Step.new T2.lst hp _)) (T2.new hp _) ⟨p, rfl, SqT.of upd_same⟩
 refine iteD0 (fun z => h0 (by injection z)) ?_
 exact ⟨_, rfl, t₁, s₀, rfl, T1, fun v rows H' ok oc S T' hv => k v (.tab rows) H' ok oc (S1.trans S) T' hv⟩
theorem ok_Q9 (T : Txt K mg t) : FnOk P w K mg base CX0 4 t.a_Q9 t.d_Q9 ["_law_tape_here", "_law_rule_here"] (sp_law_speeds K) := by
 refine T.F_Q9.ok sc_Q9 (fun vs H Q E h => ?_) (fun cdv A outer s H vs Q E hr h => ?_)
 ·obtain ⟨_, _, _, _, rfl, _⟩ := h; rfl
 obtain ⟨t₁, s₀, v, rl, rfl, T0, hv, ok, k⟩ := h
 refine QSs.ok (qss_consL (qs_setC (i := 2) (N' := ["_law_k", "_law_tape_here"]) (src := [none, some 0]) sc_Q9.nd rfl (by first | exact Or.inl rfl | exact Or.inr rfl) rfl (by exact (qi_range1 rfl T.z_range (qa_cons (qe_op op_add qe_int (qcA (ok_Q24 T) hr T.m_Q24 T.F_Q24.kp T.b_Q24 (qa_cons (qv 0) (qa_cons qe_int qa_nil star_con) star_name))) qa_nil star_bin))) (fun _ _ _ _ _ => (by exact (by exact qg_name (i := 0) (by show List.Nodup (["_law_k", "_law_tape_here"] : List Str); decide +kernel) (by exact rfl) (by first | exact Or.inl rfl | exact Or.inr rfl)))) (fun _ _ _ _ _ => qts_nil) (fun _ _ _ _ _ => (by exact (by exact (qe_call (ok_Q28 T) (by exact hr.mono (by decide)) (by exact rfl) T.m_Q28 T.F_Q28.kp T.b_Q28 (by exact .nil) (by exact pass0) (qa_cons (by exact (qv 1)) qa_nil star_name))))) (by exact ⟨rfl, rfl, rfl, rfl, trivial⟩) rfl (by decide +kernel) rfl (by decide +kernel) (by exact cells_of rfl ⟨rfl, trivial⟩))
   (qss_consL (qs_cut (qs_if (qt_cmpR op_eq (qxA ix_tup (qv 1) qe_int) qe_str (nomark _)) (qss_consL (qsA 3 sc_Q9.nd (qxA ix_tup (qxA ix_tup (qxA ix_tup (qv 1) qe_int) (qe_un un_neg qe_int)) qe_int))
   (qss_one (qs_setC (i := 2) (N' := ["_law_one", "_law_top", "_law_tape_here"]) (src := [none, some 3, some 0]) sc_Q9.nd rfl (by first | exact Or.inl rfl | exact Or.inr rfl) rfl (by exact (qi_list (qv 2))) (fun _ _ _ _ _ => (by exact (by exact qg_name (i := 0) (by show List.Nodup (["_law_one", "_law_top", "_law_tape_here"] : List Str); decide +kernel) (by exact rfl) (by first | exact Or.inl rfl | exact Or.inr rfl)))) (fun _ _ _ _ _ => qts_nil) (fun _ _ _ _ _ => (by exact (by exact (qe_call (ok_Q16 T) (by exact hr.mono (by decide)) (by exact rfl) T.m_Q16 T.F_Q16.kp T.b_Q16 (by exact .nil) (by exact pass0) (qa_cons (by exact (qv 1)) (qa_cons (by exact (qe_call (ok_Q14 T) (by exact hr.mono (by decide)) (by exact rfl) T.m_Q14 T.F_Q14.kp T.b_Q14 (by exact .nil) (by exact pass0) (qa_cons (by exact (qe_op op_add qe_int (by exact (qe_call (ok_Q24 T) (by exact hr.mono (by decide)) (by exact rfl) T.m_Q24 T.F_Q24.kp T.b_Q24 (by exact .nil) (by exact pass0) (qa_cons (by exact (qv 2)) (qa_cons qe_int qa_nil star_con) star_name))))) (qa_cons qe_int qa_nil star_con) star_bin))) qa_nil star_call) star_name))))) (by exact ⟨rfl, rfl, rfl, rfl, ⟨rfl, rfl, rfl, rfl, trivial⟩⟩) rfl (by decide +kernel) rfl (by decide +kernel) (by exact cells_of rfl ⟨rfl, ⟨rfl, trivial⟩⟩)))) qss_nil))
   (qss_consL (qsA 4 sc_Q9.nd (qe_lst qa_nil))
   (qss_consL (qs_for PassesOwn.never rfl (qi_list (qv 2)) (qg_name (i := 5) sc_Q9.nd rfl (by first | exact Or.inl rfl | exact Or.inr rfl))
   (qss_consL (qsA 6 sc_Q9.nd (qe_callB call_len_seq (by rfl) T.z_len boot_len (qa_cons (qe_lcomp (N' := ["_law_other", "_law_one"]) (src := [none, some 5]) rfl (by exact (qi_list (qv 4))) (fun _ _ _ _ _ => (by exact (by exact qg_name (i := 0) (by show List.Nodup (["_law_other", "_law_one"] : List Str); decide +kernel) (by exact rfl) (by first | exact Or.inl rfl | exact Or.inr rfl)))) (fun _ _ _ _ _ => (qts_one (qt_val (by exact (qe_call (ok_Q27 T) (by exact hr.mono (by decide)) (by exact rfl) T.m_Q27 T.F_Q27.kp T.b_Q27 (by exact .nil) (by exact pass0) (qa_cons (by exact (qv 0)) (qa_cons (by exact (qv 1)) qa_nil star_name) star_name)))))) (fun _ _ _ _ _ => (by exact (by exact (qv 0)))) (by exact ⟨rfl, rfl, rfl, rfl, trivial⟩) rfl (by decide +kernel) rfl (by decide +kernel) (by exact cells_of rfl ⟨rfl, trivial⟩)) qa_nil star_lc)))
   (qss_one (qs_if (qt_cmpR (op_notInD hr) (qv 5) (qv 4) (by with_unfolding_all rfl)) (qss_one (qs_expr (qe_bm PySem.F.plainAttrs_list PySem.F.slot_list_insert PySem.F.type_list_insert mt_insert (qv 4) (qa_cons (qv 6) (qa_cons (qv 5) qa_nil star_name) star_name)))) qss_nil))))
   (qss_one (qs_ret (qe_callTy call_tuple_of (by rfl) T.z_tuple boot_tuple (qa_cons (qv 4) qa_nil star_name)))))))) ?_
 extract_lets +lift
 try dsimp -zeta -zetaDelta only [Cx.nox, Cx.wish, cxOf]
 refine ⟨_, rfl, t₁, s₀, 6, rfl, T0, by decide, by decide, fun r1 x1 a1 b1 T1 => ⟨_, _, rfl, rfl, ?_⟩⟩
 have S1 := Step.up (ys := x1) T0.lst.choose_spec
 refine ⟨1 + r1, rfl, by omega, by omega, fun D hD => comp_rngS (K := K) (P := RV K) (Ok := PartOk) (t := t₁) (s := s₀) (fun _ _ _ _ t p => p.mono t) hD T1 (show (1 + r1).toNat ≤ 1000 by omega) (fun i H' hi tst T' R E kR => ?_) fun H2 ys zs S2 T2 hD2 al2 hl2 ok2 => ?_⟩
 ·exact ⟨Ext.set rfl, _, rfl, t₁, s₀, rfl, T', fun u r H5 okr S5 T5 h5 => kR u r H5 S5 T5 h5 okr⟩
 have nD : D ≠ t₁ := fun z => by subst z; obtain ⟨_, e⟩ := T1.lst; rw [hD] at e; cases e
 have nDs : D ≠ s₀ := fun z => by subst z; obtain ⟨_, e⟩ := T1.scr; rw [hD] at e; cases e
 have S12 := S1.trans S2
 clear hD S1 S2
 refine ⟨fun σ H' => ∃ (lf : Addr) (x3 : Option V) (ys : List V) (zs : List R), σ = [some (.ref t₁), some v, some (.ref lf), x3, none, none, none] /\ lf ≠ t₁ /\ lf ≠ s₀ /\ H' lf = some (.lst ys) /\ Tape H' t₁ s₀ /\ Step t₁ H H' /\ Als (RV K H') ys zs /\ 1 ≤ zs.length /\ zs.length ≤ 6 /\ ∀ z ∈ zs, FzOk rl z, ?_, ?_⟩
 ·have hv2 := hv.mono (Tst.step (K := K) S12)
  cases rl with
  | pow kk =>
   obtain ⟨p, rfl, hS⟩ := hv2
   refine ⟨_, rfl, p, _, _, _, rfl, rfl, hS, rfl, rfl, _, rfl, iteD0 (by decide) ?_⟩
   exact ⟨D, none, ys, zs, rfl, nD, nDs, hD2, T2, S12, al2, by omega, by omega, fun z hz => part_fz rfl (ok2 z hz)⟩
  | tab rows =>
   have ok' : RowsS rows := ok
   obtain ⟨p, q, xs, rfl, hS, hq, alr⟩ := id hv2
   have n2 := ok'.ok.n2
   obtain ⟨xl, w, hat, hw, ⟨pw, y1, y2, rfl, hSw, h1, h2⟩, _⟩ := alr.last (n := rows.length - 1) (by omega)
   have wb := ok'.ok.sp w (List.mem_of_getElem? hw)
   refine ⟨_, rfl, p, _, _, _, rfl, rfl, hS, rfl, rfl, _, rfl, iteD1 (by decide) ?_⟩
   refine ⟨_, rfl, p, _, _, _, rfl, rfl, hS, rfl, _, rfl, q, _, _, _, rfl, rfl, hq, hat, pw, _, _, _, rfl, rfl, hSw, rfl, ?_⟩
   refine ⟨_, rfl, D, rfl, ⟨_, SqL.of hD2⟩, fun D3 hD3 => ?_⟩
   have nt3 : D3 ≠ t₁ := fun z => by subst z; obtain ⟨_, e⟩ := T2.lst; rw [hD3] at e; cases e
   have ns3 : D3 ≠ s₀ := fun z => by subst z; obtain ⟨_, e⟩ := T2.scr; rw [hD3] at e; cases e
   have yl : ys.length = zs.length := al2.len
   refine comp_own (J := Itl K D) (n := ys.length) (fun i us H' => us.length = i /\ H' D3 = some (.lst us) /\ Tape H' t₁ s₀ /\ (∀ b o, b ≠ t₁ -> H2 b = some o -> H' b = some o) /\ ∃ ss : List R, Als (RV K H') us ss /\ ∀ r ∈ ss, FzOk (.tab rows) r) ⟨rfl, upd_same, T2.new hD3 _, fun b o _ e => same_new hD3 _ _ _ e, [], .nil, fun z hz => by cases hz⟩ (fun i us H' hi ⟨_, _, T', kp, _⟩ => ⟨ys, _, SqL.of (kp _ _ nD hD2), List.getElem?_eq_getElem hi⟩) (fun us H3 ⟨hl3, hD3', T3, kp3, ss, al3, ok3⟩ => ⟨⟨ys, SqL.of (kp3 _ _ nD hD2), Nat.le_refl _⟩, ?_⟩) ?_
   ·have lss : us.length = ss.length := al3.len
    exact ⟨D3, _, us, ss, rfl, nt3, ns3, hD3', T3, S12.trans ⟨kp3, T2.lst, T3.lst⟩, al3, by omega, by omega, ok3⟩
   ·rintro i us H' x H'' hi ⟨hl3, hD3', T3, kp3, ss, al3, ok3⟩ ⟨rfl, hy⟩ Rk E kR kE
    have SS : Step t₁ H2 H'' := ⟨kp3, T2.lst, T3.lst⟩
    refine ⟨Ext.set rfl, _, rfl, _, rfl, t₁, s₀, 12, rfl, T3, by decide, by decide, fun kk x4 a4 b4 T4 => ⟨_, _, rfl, rfl, 1 + kk, 12, rfl, by decide, big_of (n := 4) (by decide) (by decide), ?_⟩⟩
    rw [mkS_pos (by decide)]
    intro p5 g5
    have S4 := Step.up (ys := x4) T3.lst.choose_spec
    have m5 := same_new g5 (.tup [.int (mkR (1 + kk) 12).1, .int (mkR (1 + kk) 12).2])
    have S5 := S4.trans (Step.same m5 T4.lst)
    have T5 := T4.same m5
    have r5 := rv_new (K := K) m5
    have h15 := h1.mono ((Tst.step (K := K) SS).trans (Tst.step (K := K) S5))
    have al5 := al3.mono fun _ _ z => z.mono (Tst.step (K := K) S5)
    have d5 := S5.keep _ _ nt3 hD3'
    clear m5 S4
    generalize upd (upd H'' t₁ (.lst x4)) p5 (.tup [.int (mkR (1 + kk) 12).1, .int (mkR (1 + kk) 12).2]) = H5 at S5 T5 r5 h15 al5 d5 ⊢
    obtain ⟨fz, wt⟩ := top_fz ok' hw a4 b4
    refine ⟨y1, .ref p5, w.1, mkR (1 + kk) 12, 98, 35, rfl, h15, r5, wfS wb, wt, by decide, fun q7 g7 => ?_⟩
    have m7 := same_new g7 (.tup [.int (timesR w.1 (mkR (1 + kk) 12)).1, .int (timesR w.1 (mkR (1 + kk) 12)).2])
    have d7 := m7 _ _ d5
    have tm := (Tst.same (K := K) m7).trans (Tst.up d7 (us ++ [.ref q7]))
    refine kR _ _ d7 (small1000 (by omega)) ⟨by rw [List.length_append, hl3]; rfl, upd_same, (T5.same m7).upl nt3 ns3 _, fun b o nb e => ?_, ss ++ [timesR w.1 (mkR (1 + kk) 12)], (al5.mono fun _ _ z => z.mono tm).snoc ((rv_new (K := K) m7).mono (Tst.up d7 _)), fun z hz' => ?_⟩
    ·rw [upd_ne (ne_of_none e hD3)]
     exact m7 _ _ (S5.keep _ _ nb (kp3 b o nb e))
    ·rcases List.mem_append.mp hz' with h | h
     ·exact ok3 z h
     ·rw [List.mem_singleton] at h; rw [h]; exact fz
 rintro σ H3 ⟨lf, x3, ys, zs, rfl, nlf, nls, hlf, T3, S3, al3, z1, z6, fz⟩
 clear ok2 hl2 al2 hD2 T2 S12 nD nDs
 refine ⟨zl0, fun l hl => ?_⟩
 have nl : l ≠ t₁ := fun z => by subst z; obtain ⟨_, e⟩ := T3.lst; rw [hl] at e; cases e
 have nlz : l ≠ s₀ := fun z => by subst z; obtain ⟨_, e⟩ := T3.scr; rw [hl] at e; cases e
 have s4 := same_new hl (.lst [])
 have nin : ∀ b o, H3 b = some o -> b ≠ l := fun b o q => ne_of_none q hl
 refine ⟨_, rfl, lf, rfl, ⟨_, SqL.of (s4 _ _ hlf)⟩, for_list (K := K) (a := lf) (xs := ys) (fun i σ H' => ∃ (x5 x6 : Option V), σ = [some (.ref t₁), some v, some (.ref lf), x3, some (.ref l), x5, x6] /\ Same H3 H' /\ ∃ us rs, H' l = some (.lst us) /\ Als (RV K H') us rs /\ rs.length ≤ i /\ (0 < i -> 0 < rs.length) /\ Ris rs /\ ∀ z ∈ rs, FzOk rl z) ⟨none, none, rfl, s4, [], [], upd_same, .nil, Nat.le_refl _, fun z => absurd z (Nat.lt_irrefl 0), List.Pairwise.nil, fun z hz => nomatch hz⟩ (fun i σ H1 _ ⟨_, _, _, sm, _⟩ => sm.seq (SqL.of hlf)) ?_ ?_⟩
 ·rintro i x σ H4 hx ⟨x5, x6, rfl, sm, us, rs, hl4, al4, hlen, hpos, ris, okr⟩
  obtain ⟨z, hz, rvz⟩ := al3.at hx
  have okz := fz z (List.mem_of_getElem? hz)
  have il := (List.getElem?_eq_some_iff.mp hz).1
  have rz := rvz.mono (Tst.same sm)
  have red : ∀ y, FzOk rl y -> Red y := fun y hy => hy.1.red
  refine ⟨_, rfl, l, rfl, ⟨_, SqL.of hl4⟩, fun D hD => comp_filt (K := K) (P := RV K) (p := fun y => lessR y z) (fun _ _ _ _ t p => p.mono t) hD (SqL.of hl4) al4 (by omega) (fun j x' d H5 hx' hd s5 pd R E kR kE => ?_) fun H5 ds s5 hD5 al5 => ?_⟩
  ·refine ⟨Ext.set rfl, _, rfl, _, rfl, x', x, d, z, 102, 102, rfl, pd, rz.mono (Tst.same s5), bq_102 (okr d (List.mem_of_getElem? hd)).1, bq_102 okz.1, by decide, _, rfl, ?_⟩
   cases c : lessR d z with
   | true => exact iteT ⟨_, rfl, kR _ (Same.refl _) c⟩
   | false => exact iteF (kE _ (Same.refl _) c)
  refine ⟨D, ds, rfl, .inl (SqL.of hD5), ?_⟩
  have dl : ds.length = (rs.filter fun y => lessR y z).length := al5.len
  have dle : ds.length ≤ rs.length := by rw [dl]; exact List.length_filter_le _ _
  have hl5 := s5 _ _ hl4
  have rz5 := rz.mono (Tst.same s5)
  have alz := al4.mono fun _ _ q => q.mono (Tst.same s5)
  have ul : us.length = rs.length := al4.len
  refine ⟨_, rfl, _, rfl, l, us, rs.map dR, dR z, rfl, SqL.of hl5, alz.deep fun _ _ q => q.deep, lays_dR rs, rz5.deep, dR_lay z, eqv_same z, _, rfl, ?_⟩
  rw [any_dR]
  by_cases cm : z ∈ rs
  ·rw [decide_eq_true cm]
   refine iteF ?_
   exact ⟨_, _, rfl, sm.trans s5, us, rs, hl5, alz, by omega, fun _ => List.length_pos_of_mem cm, ris, okr⟩
  ·rw [decide_eq_false cm]
   refine iteT ?_
   refine ⟨_, rfl, .inl ⟨rfl, _, SqL.of hl5⟩, _, rfl, _, rfl, l, us, ds.length, x, rfl, rfl, hl5, by omega, small1000 (by omega), ?_⟩
   have tm := Tst.up (K := K) hl5 (us.take ds.length ++ x :: us.drop ds.length)
   refine ⟨_, _, rfl, fun b o q => ?_, _, rs.take ds.length ++ z :: rs.drop ds.length, upd_same, ?_, ?_, fun _ => ?_, ?_, ?_⟩
   ·rw [upd_ne (nin b o q)]
    exact s5 _ _ (sm _ _ q)
   ·have alm := alz.mono fun _ _ q => q.mono tm
    exact (alm.take _).join (.cons (rz5.mono tm) (alm.drop _))
   ·rw [List.length_append, List.length_cons, List.length_take, List.length_drop]
    omega
   ·rw [List.length_append, List.length_cons]; omega
   ·rw [dl]
    exact ris_ins (fun y hy => red y (okr y hy)) (red z okz) ris cm
   ·intro y hy
    rcases List.mem_append.mp hy with q | q
    ·exact okr y (List.mem_of_mem_take q)
    ·rcases List.mem_cons.mp q with q | q
     ·rw [q]; exact okz
     ·exact okr y (List.mem_of_mem_drop q)
 ·rintro σ H4 ⟨x5, x6, rfl, sm, us, rs, hl4, al4, hlen, hpos, ris, okr⟩
  have yl : ys.length = zs.length := al3.len
  refine ⟨_, rfl, l, us, rfl, .inl ⟨SqL.of hl4, fun p1 g1 => ?_⟩⟩
  have e1 := same_new g1 (.tup us)
  have sA := sm.trans e1
  exact k p1 us rs _ ⟨hpos (by omega), by omega, ris, fun z hz => (okr z hz).1, fun z hz => (okr z hz).2.1, fun z hz => (okr z hz).2.2⟩ (S3.trans (Step.same sA T3.lst)) (T3.same sA) (SqT.of upd_same) (al4.mono fun _ _ q => q.mono (Tst.same e1))
theorem ok_Q35 (T : Txt K mg t) : FnOk P w K mg base CX0 5 t.a_Q35 t.d_Q35 ["_law_tape_here", "_law_speeds_here"] (sp_law_mix K) := by
 refine T.F_Q35.ok sc_Q35 (fun vs H Q E h => ?_) (fun cdv A outer s H vs Q E hr h => ?_)
 ·obtain ⟨_, _, _, _, _, rfl, _⟩ := h; rfl
 obtain ⟨t₁, s₀, lq, xs, zs₀, rfl, T0, nlt0, nls0, hq, al, n1, n12, k⟩ := h
 refine QSs.ok (qss_consL (qs_setC (i := 2) (N' := ["_law_speed", "_law_tape_here"]) (src := [none, some 0]) sc_Q35.nd rfl (by first | exact Or.inl rfl | exact Or.inr rfl) rfl (by exact (qi_list (qv 1))) (fun _ _ _ _ _ => (by exact (by exact qg_name (i := 0) (by show List.Nodup (["_law_speed", "_law_tape_here"] : List Str); decide +kernel) (by exact rfl) (by first | exact Or.inl rfl | exact Or.inr rfl)))) (fun _ _ _ _ _ => (qts_one (qt_cmpR op_gt (by exact (qe_call (ok_Q24 T) (by exact hr.mono (by decide)) (by exact rfl) T.m_Q24 T.F_Q24.kp T.b_Q24 (by exact .nil) (by exact pass0) (qa_cons (by exact (qv 1)) (qa_cons qe_int qa_nil star_con) star_name))) qe_int (nomark _)))) (fun _ _ _ _ _ => (by exact (by exact (qv 0)))) (by exact ⟨rfl, rfl, rfl, rfl, trivial⟩) rfl (by decide +kernel) rfl (by decide +kernel) (by exact cells_of rfl ⟨rfl, trivial⟩))
   (qss_consL (qs_cut (qs_if (qt_cmpR (op_eqD hr) (qv 2) (qe_lst qa_nil) (nomark _)) (qss_one (qsA 2 sc_Q35.nd (qe_lst (qa_cons (qxA ix_list (qv 1) qe_int) qa_nil star_sub)))) qss_nil))
   (qss_consL (qsA 3 sc_Q35.nd (qe_lcomp (N' := ["_law_speed", "_law_tape_here"]) (src := [none, some 0]) rfl (by exact (qi_list (qv 2))) (fun _ _ _ _ _ => (by exact (by exact qg_name (i := 0) (by show List.Nodup (["_law_speed", "_law_tape_here"] : List Str); decide +kernel) (by exact rfl) (by first | exact Or.inl rfl | exact Or.inr rfl)))) (fun _ _ _ _ _ => qts_nil) (fun _ _ _ _ _ => (by exact (by exact (qe_call (ok_Q28 T) (by exact hr.mono (by decide)) (by exact rfl) T.m_Q28 T.F_Q28.kp T.b_Q28 (by exact .nil) (by exact pass0) (qa_cons (by exact (qv 1)) qa_nil star_name))))) (by exact ⟨rfl, rfl, rfl, rfl, trivial⟩) rfl (by decide +kernel) rfl (by decide +kernel) (by exact cells_of rfl ⟨rfl, trivial⟩)))
   (qss_one (qs_ret (qe_callTy call_tuple_of (by rfl) T.z_tuple boot_tuple (qa_cons (qe_lcomp (N' := ["_law_speed", "_law_share", "_law_shares"]) (src := [none, none, some 3]) rfl (by exact (qi_zipLL rfl T.z_zip (qa_cons (qv 2) (qa_cons (qv 3) qa_nil star_name) star_name))) (fun _ _ _ _ _ => (by exact (by exact qg_tupK (K := K) (n := 2) (by exact rfl) (by exact rfl) (by exact qgs_cons (by exact qg_name (i := 0) (by show List.Nodup (["_law_speed", "_law_share", "_law_shares"] : List Str); decide +kernel) (by exact rfl) (by first | exact Or.inl rfl | exact Or.inr rfl)) (by exact qgs_cons (by exact qg_name (i := 1) (by show List.Nodup (["_law_speed", "_law_share", "_law_shares"] : List Str); decide +kernel) (by exact rfl) (by first | exact Or.inl rfl | exact Or.inr rfl)) qgs_nil))))) (fun _ _ _ _ _ => qts_nil) (fun _ _ _ _ _ => (by exact (by exact (qe_tup (qa_cons (by exact (qv 0)) (qa_cons (by exact (qe_call (ok_Q26 T) (by exact hr.mono (by decide)) (by exact rfl) T.m_Q26 T.F_Q26.kp T.b_Q26 (by exact .nil) (by exact pass0) (qa_cons (by exact (qv 1)) (qa_cons (by exact (qe_call (ok_Q34 T) (by exact hr.mono (by decide)) (by exact rfl) T.m_Q34 T.F_Q34.kp T.b_Q34 (by exact .nil) (by exact pass0) (qa_cons (by exact (qv 2)) qa_nil star_name))) qa_nil star_call) star_name))) qa_nil star_call) star_name))))) (by exact ⟨rfl, rfl, rfl, rfl, trivial⟩) rfl (by decide +kernel) rfl (by decide +kernel) (by exact cells_of rfl ⟨rfl, trivial⟩)) qa_nil star_lc))))))) ?_
 extract_lets +lift
 try dsimp -zeta -zetaDelta only [Cx.nox, Cx.wish, cxOf]
 have hlen : xs.length = zs₀.length := al.len
 refine ⟨_, rfl, lq, rfl, ⟨_, SqL.of hq⟩, fun D hD => ?_⟩
 have nt : D ≠ t₁ := fun z => by subst z; obtain ⟨_, e⟩ := T0.lst; rw [hD] at e; cases e
 have ns : D ≠ s₀ := fun z => by subst z; obtain ⟨_, e⟩ := T0.scr; rw [hD] at e; cases e
 refine comp_own (J := Itl K lq) (n := xs.length) (fun i ys H' => ys.length ≤ i /\ H' D = some (.lst ys) /\ Tape H' t₁ s₀ /\ (∀ b o, b ≠ t₁ -> H b = some o -> H' b = some o) /\ ∃ zs : List R, Als (RV K H') ys zs /\ zs.Sublist (zs₀.take i)) ⟨Nat.le_refl 0, upd_same, T0.new hD _, fun b o _ e => same_new hD _ _ _ e, [], .nil, List.nil_sublist _⟩ (fun i ys H' hi ⟨_, _, T', kp, _⟩ => ⟨xs, _, SqL.of (kp _ _ nlt0 hq), List.getElem?_eq_getElem hi⟩) (fun ys H1 ⟨hl, hD1, T1, kp, zs, alz, hz⟩ => ⟨⟨xs, SqL.of (kp _ _ nlt0 hq), Nat.le_refl _⟩, ?_⟩) ?_
 ·have S1 : Step t₁ H H1 := ⟨kp, T0.lst, T1.lst⟩
  rw [hlen, List.take_length] at hz
  have lz : ys.length = zs.length := alz.len
  refine ⟨fun σ H' => ∃ (lr : Addr) (ys : List V) (zs : List R), σ = [some (.ref t₁), some (.ref lq), some (.ref lr), none] /\ lr ≠ t₁ /\ lr ≠ s₀ /\ H' lr = some (.lst ys) /\ Tape H' t₁ s₀ /\ Step t₁ H H' /\ Als (RV K H') ys zs /\ zs.Sublist zs₀ /\ zs ≠ [], ?_, ?_⟩
  ·refine ⟨_, rfl, (by show 0 ≤ sizeLine; exact Nat.zero_le _), fun q0 hq0 => ?_⟩
   have sq := same_new hq0 (.lst [])
   have hqq : upd H1 q0 (.lst []) q0 = some (.lst []) := upd_same
   have TQ := T1.same sq
   have SQ := S1.trans (Step.same sq T1.lst)
   have alq := alz.mono fun _ _ z => z.mono (Tst.same sq)
   have hDq := sq _ _ hD1
   clear sq
   generalize upd H1 q0 (.lst []) = HQ at TQ SQ alq hDq hqq ⊢
   refine ⟨dL zs, dL [], .lst (SqL.of hDq) (alq.deep fun _ _ z => z.deep), .lst (SqL.of hqq) .nil, layL zs, layL [], depthL zs, _, rfl, ?_⟩
   rw [eqvL_nil]
   cases zs with
   | nil =>
    refine iteT ?_
    have tq := Tst.step (K := K) SQ
    have ex0 : xs[0]? = some (xs[0]'(by omega)) := List.getElem?_eq_getElem _
    obtain ⟨r, er, rk⟩ := al.at ex0
    have rk' := rk.mono tq
    have at0 : atI xs 0 = some (xs[0]'(by omega)) := atI_nat ex0
    refine ⟨_, rfl, lq, _, _, _, rfl, rfl, SqL.of (SQ.keep _ _ nlt0 hq), at0, zl1, fun lr hlr => ?_⟩
    have sl := same_new hlr (.lst [xs[0]'(by omega)])
    have nlt : lr ≠ t₁ := fun z => by subst z; obtain ⟨_, e⟩ := TQ.lst; rw [hlr] at e; cases e
    have nls : lr ≠ s₀ := fun z => by subst z; obtain ⟨_, e⟩ := TQ.scr; rw [hlr] at e; cases e
    exact ⟨lr, _, [r], rfl, nlt, nls, upd_same, TQ.same sl, SQ.trans (Step.same sl TQ.lst), .cons (rk'.mono (Tst.same sl)) .nil, List.singleton_sublist.mpr (List.mem_of_getElem? er), by simp⟩
   | cons z0 zr =>
    refine iteF ?_
    exact ⟨D, ys, z0 :: zr, rfl, nt, ns, hDq, TQ, SQ, alq, hz, by simp⟩
  ·rintro σ H2 ⟨lr, ys, zs, rfl, nlt, nls, hlr, T2, S2, al2, hz, nz⟩
   clear lz alz hD1 hl S1 kp T1
   have l12 : zs.length ≤ 12 := Nat.le_trans hz.length_le n12
   have hl2 : ys.length = zs.length := al2.len
   refine ⟨_, rfl, lr, rfl, ⟨_, SqL.of hlr⟩, fun D2 hD2 => ?_⟩
   have nt2 : D2 ≠ t₁ := fun z => by subst z; obtain ⟨_, e⟩ := T2.lst; rw [hD2] at e; cases e
   have ns2 : D2 ≠ s₀ := fun z => by subst z; obtain ⟨_, e⟩ := T2.scr; rw [hD2] at e; cases e
   refine comp_own (J := Itl K lr) (n := ys.length) (fun i us H' => us.length = i /\ H' D2 = some (.lst us) /\ Tape H' t₁ s₀ /\ (∀ b o, b ≠ t₁ -> H2 b = some o -> H' b = some o) /\ ∃ ss : List R, Als (RV K H') us ss /\ ∀ r ∈ ss, PartOk r) ⟨rfl, upd_same, T2.new hD2 _, fun b o _ e => same_new hD2 _ _ _ e, [], .nil, fun z hz => by cases hz⟩ (fun i us H' hi ⟨_, _, T', kp, _⟩ => ⟨ys, _, SqL.of (kp _ _ nlt hlr), List.getElem?_eq_getElem hi⟩) (fun us H3 ⟨hl3, hD3, T3, kp3, ss, al3, ok3⟩ => ⟨⟨ys, SqL.of (kp3 _ _ nlt hlr), Nat.le_refl _⟩, ?_⟩) ?_
   ·have S3 : Step t₁ H2 H3 := ⟨kp3, T2.lst, T3.lst⟩
    have ls : us.length = ss.length := al3.len
    have hlr3 := kp3 _ _ nlt hlr
    have al23 := al2.mono fun _ _ z => z.mono (Tst.step (K := K) S3)
    have sh : ShOk ss := ⟨by omega, fun z => by subst z; have : zs.length = 0 := (by rw [← hl2, ← hl3, ls]; rfl); exact nz (List.length_eq_zero_iff.mp this), ok3⟩
    have lzs : zs.length = ss.length := by omega
    refine ⟨_, rfl, _, rfl, lr, D2, rfl, ⟨_, SqL.of hlr3⟩, ⟨_, SqL.of hD3⟩, fun D4 hD4 => comp_mapW (K := K) (P := RowV K) (wlk_zipLL (SqL.of hlr3) (SqL.of hD3) hl3.symm) (fun i => (zs.getD i (0, 1), overR (ss.getD i (0, 1)) (sumR ss))) (fun _ _ _ _ t z => z.mono t) hD4 (by omega) (fun i x H' hi sm hP Rk E kR => ?_) fun H4 ws s4 hD4' al4 => ?_⟩
    ·obtain ⟨pp, x1, y1, rfl, hx1, hy1, hpp⟩ := hP
     obtain ⟨z, hz1, kb⟩ := al23.at hx1
     obtain ⟨r, hr1, rv⟩ := al3.at hy1
     have kb' := kb.mono (Tst.same sm)
     have rv' := rv.mono (Tst.same sm)
     have ez : zs.getD i (0, 1) = z := by rw [List.getD_eq_getElem?_getD, hz1]; rfl
     have er : ss.getD i (0, 1) = r := by rw [List.getD_eq_getElem?_getD, hr1]; rfl
     rw [ez, er] at kR
     have okr := ok3 r (List.mem_of_getElem? hr1)
     have sp := sh.pos
     refine ⟨pp, _, rfl, SqT.of hpp, rfl, _, _, rfl, _, _, rfl, rfl, Ext.set' (Ext.set rfl) rfl, ?_⟩
     refine ⟨_, rfl, _, rfl, _, rfl, D2, us, ss, D0, N0, 100, rfl, SqL.of (sm _ _ hD3), al3.mono fun _ _ z => z.mono (Tst.same sm), fun r hr => (ok3 r hr).bq, dpos, by decide, by decide, Nat.le_trans sh.len (by decide), by decide, fun u H5 s5 h5 => ?_⟩
     refine ⟨y1, u, r, sumR ss, 98, 98, rfl, rv'.mono (Tst.same s5), h5, okr.wf, sh.wf, by decide, by omega, fun p9 g9 => ⟨zl2, fun pA gA => ?_⟩⟩
     have m9 := same_new g9 (.tup [.int (overR r (sumR ss)).1, .int (overR r (sumR ss)).2])
     have mA := same_new gA (.tup [x1, .ref p9])
     exact kR _ _ ((s5.trans m9).trans mA) ⟨pA, x1, _, rfl, SqT.of upd_same, kb'.mono (Tst.same ((s5.trans m9).trans mA)), (rv_new (K := K) m9).mono (Tst.same mA)⟩
    ·rw [hl2] at al4
     refine ⟨D4, ws, rfl, .inl ⟨SqL.of hD4', fun pF gF => ?_⟩⟩
     have mF := same_new gF (.tup ws)
     have sF := s4.trans mF
     exact k _ zs ss _ hz sh lzs ((S2.trans S3).trans (Step.same sF T3.lst)) (T3.same sF) ⟨pF, ws, rfl, SqT.of upd_same, al4.mono fun _ _ z => z.mono (Tst.same mF)⟩
   ·rintro i us H' x H'' hi ⟨hl3, hD3, T3, kp3, ss, al3, ok3⟩ ⟨rfl, hy⟩ Rk E kR kE
    refine ⟨Ext.set rfl, _, rfl, t₁, s₀, rfl, T3, fun u r H5 okr S5 T5 h5 => ?_⟩
    have d5 := S5.keep _ _ nt2 hD3
    have tm := (Tst.step (K := K) S5).trans (Tst.up d5 (us ++ [u]))
    refine kR _ _ d5 (small1000 (by omega)) ⟨by rw [List.length_append, hl3]; rfl, upd_same, T5.upl nt2 ns2 _, fun b o nb e => ?_, ss ++ [r], (al3.mono fun _ _ z => z.mono tm).snoc (h5.mono (Tst.up d5 _)), fun z hz' => ?_⟩
    ·rw [upd_ne (ne_of_none e hD2)]
     exact S5.keep _ _ nb (kp3 b o nb e)
    ·rcases List.mem_append.mp hz' with h | h
     ·exact ok3 z h
     ·rw [List.mem_singleton] at h; rw [h]; exact okr
 ·rintro i ys H' x H'' hi ⟨hl, hD1, T1, kp, zs, alz, hz⟩ ⟨rfl, hy⟩ Rk E kR kE
  have S1 : Step t₁ H H'' := ⟨kp, T0.lst, T1.lst⟩
  have hx := hy xs (SqL.of (kp _ _ nlt0 hq))
  obtain ⟨r, er, rk⟩ := al.at hx
  have tk : zs₀.take (i + 1) = zs₀.take i ++ [r] := by rw [List.take_add_one, er]; rfl
  refine ⟨Ext.set rfl, _, rfl, t₁, s₀, 3, rfl, T1, by decide, by decide, fun rr xx aa bb T2 => ⟨_, _, rfl, rfl, _, rfl, ?_⟩⟩
  have S2 := Step.up (ys := xx) T1.lst.choose_spec
  have hD2 := S2.keep _ _ nt hD1
  have al2 := alz.mono fun _ _ z => z.mono (Tst.step (K := K) S2)
  have rk2 := (rk.mono (Tst.step (K := K) S1)).mono (Tst.step (K := K) S2)
  generalize upd H'' t₁ (.lst xx) = H2 at T2 S2 hD2 al2 rk2 ⊢
  refine ite2 (fun _ => ?_) (fun _ => ?_)
  ·refine ⟨_, rfl, ?_⟩
   have up := Tst.up (K := K) hD2 (ys ++ [x])
   refine kR _ _ hD2 (small1000 (by omega)) ⟨by rw [List.length_append]; show ys.length + 1 ≤ i + 1; omega, upd_same, T2.upl nt ns _, fun c o nc e => ?_, zs ++ [r], (al2.mono fun _ _ z => z.mono up).snoc (rk2.mono up), ?_⟩
   ·rw [upd_ne (ne_of_none e hD)]
    exact S2.keep _ _ nc (kp c o nc e)
   ·rw [tk]
    exact List.Sublist.append hz (List.Sublist.refl _)
  ·refine kE _ ⟨by omega, hD2, T2, fun c o nc e => S2.keep _ _ nc (kp c o nc e), zs, al2, ?_⟩
   rw [tk]
   exact hz.trans (List.sublist_append_left _ _)
theorem ok_Q4 (T : Txt K mg t) : FnOk P w K mg base CX0 4 t.a_Q4 t.d_Q4 ["_law_table_here", "_law_mix_here"] (sp_law_straight K) := by
 refine T.F_Q4.ok sc_Q4 (fun vs H Q E h => ?_) (fun cdv A outer s H vs Q E hr h => ?_)
 ·obtain ⟨_, _, _, _, _, rfl, _⟩ := h; rfl
 obtain ⟨v, x, rows, ms, s, rfl, hv, ok, hm, mx, l12, k⟩ := h
 refine QSs.ok (qss_consL (qsA 2 sc_Q4.nd (qe_callTy (call_dictCK (P := P) (w := w) (K := K) rfl rfl rfl (hu2_of hr) rfl) (by rfl) T.z_dict boot_dictT (qa_cons (qxA ix_tup (qv 0) qe_int) qa_nil star_sub)))
   (qss_consL (qs_setC (i := 3) (N' := ["_law_row"]) (src := [none]) sc_Q4.nd rfl (by first | exact Or.inl rfl | exact Or.inr rfl) rfl (by exact (qi_tup (qe_ix ix_tup (qv 0) qe_int (fun _ _ => rfl)))) (fun _ _ _ _ _ => (by exact (by exact qg_name (i := 0) (by show List.Nodup (["_law_row"] : List Str); decide +kernel) (by exact rfl) (by first | exact Or.inl rfl | exact Or.inr rfl)))) (fun _ _ _ _ _ => qts_nil) (fun _ _ _ _ _ => (by exact (by exact (qe_ix (ix_tupK (K := K) (by exact rfl)) (by exact (qv 0)) qe_int (by exact fun _ _ => rfl))))) (by exact trivial) rfl (by decide +kernel) rfl (by decide +kernel) (by exact cells_of rfl trivial))
   (qss_consL (qsA 4 sc_Q4.nd (qe_slice sl_tupU (qxA ix_tup (qv 0) qe_int) (qo_some (qe_bm PySem.F.plainAttrs_list PySem.F.slot_list_index PySem.F.type_list_index (mt_indexD hr) (qv 3) (qa_cons (qxA ix_tup (qxA ix_tup (qv 1) qe_int) qe_int) qa_nil star_sub))) (qo_some (qe_op op_add (qe_bm PySem.F.plainAttrs_list PySem.F.slot_list_index PySem.F.type_list_index (mt_indexD hr) (qv 3) (qa_cons (qxA ix_tup (qxA ix_tup (qv 1) (qe_un un_neg qe_int)) qe_int) qa_nil star_sub)) qe_int))))
   (qss_consL (qs_if (qt_cmpR op_eq (qe_callB call_len_seq (by rfl) T.z_len boot_len (qa_cons (qv 1) qa_nil star_name)) qe_int (nomark _)) (qss_one (qs_ret qe_bl)) qss_nil)
   (qss_consL (qsA 5 sc_Q4.nd (qcA (ok_Q26 T) hr T.m_Q26 T.F_Q26.kp T.b_Q26 (qa_cons (qcA (ok_Q15 T) hr T.m_Q15 T.F_Q15.kp T.b_Q15 (qa_cons (qe_dcget (P := P) (w := w) (K := K) rfl rfl rfl (hu_of hr) (qv 2) (qe_ix ix_tup (qe_ix ix_tup (qv 1) (qe_un un_neg qe_int) (fun _ _ => rfl)) qe_int (fun _ _ => rfl)) (fun _ _ => rfl)) (qa_cons (qe_dcget (P := P) (w := w) (K := K) rfl rfl rfl (hu_of hr) (qv 2) (qe_ix ix_tup (qe_ix ix_tup (qv 1) qe_int (fun _ _ => rfl)) qe_int (fun _ _ => rfl)) (fun _ _ => rfl)) qa_nil star_sub) star_sub)) (qa_cons (qcA (ok_Q15 T) hr T.m_Q15 T.F_Q15.kp T.b_Q15 (qa_cons (qe_ix ix_tup (qe_ix ix_tup (qv 1) (qe_un un_neg qe_int) (fun _ _ => rfl)) qe_int (fun _ _ => rfl)) (qa_cons (qe_ix ix_tup (qe_ix ix_tup (qv 1) qe_int (fun _ _ => rfl)) qe_int (fun _ _ => rfl)) qa_nil star_sub) star_sub)) qa_nil star_call) star_call)))
   (qss_consL (qs_setC (i := 6) (N' := ["_law_row", "_law_powers", "_law_slope", "_law_mix_here"]) (src := [none, some 2, some 5, some 1]) sc_Q4.nd rfl (by first | exact Or.inl rfl | exact Or.inr rfl) rfl (by exact (qi_tup (qv 4))) (fun _ _ _ _ _ => (by exact (by exact qg_name (i := 0) (by show List.Nodup (["_law_row", "_law_powers", "_law_slope", "_law_mix_here"] : List Str); decide +kernel) (by exact rfl) (by first | exact Or.inl rfl | exact Or.inr rfl)))) (fun _ _ _ _ _ => qts_nil) (fun _ _ _ _ _ => (by exact (by exact (qe_call (ok_Q25 T) (by exact hr.mono (by decide)) (by exact rfl) T.m_Q25 T.F_Q25.kp T.b_Q25 (by exact .nil) (by exact pass0) (qa_cons (by exact (qe_dcget (P := P) (w := w) (K := K) (by exact rfl) (by exact rfl) (by exact rfl) (by exact hu_of hr) (by exact (qv 1)) (by exact (qe_ix (ix_tupK (K := K) (by exact rfl)) (by exact (qe_ix (ix_tupK (K := K) (by exact rfl)) (by exact (qv 3)) qe_int (by exact fun _ _ => rfl))) qe_int (by exact fun _ _ => rfl))) (by exact fun _ _ => rfl))) (qa_cons (by exact (qe_call (ok_Q16 T) (by exact hr.mono (by decide)) (by exact rfl) T.m_Q16 T.F_Q16.kp T.b_Q16 (by exact .nil) (by exact pass0) (qa_cons (by exact (qv 2)) (qa_cons (by exact (qe_call (ok_Q15 T) (by exact hr.mono (by decide)) (by exact rfl) T.m_Q15 T.F_Q15.kp T.b_Q15 (by exact .nil) (by exact pass0) (qa_cons (by exact (qe_ix (ix_tupK (K := K) (by exact rfl)) (by exact (qv 0)) qe_int (by exact fun _ _ => rfl))) (qa_cons (by exact (qe_ix (ix_tupK (K := K) (by exact rfl)) (by exact (qe_ix (ix_tupK (K := K) (by exact rfl)) (by exact (qv 3)) qe_int (by exact fun _ _ => rfl))) qe_int (by exact fun _ _ => rfl))) qa_nil star_sub) star_sub))) qa_nil star_call) star_name))) qa_nil star_call) star_sub))))) (by exact ⟨rfl, rfl, rfl, rfl, ⟨rfl, rfl, rfl, rfl, ⟨rfl, rfl, rfl, rfl, trivial⟩⟩⟩) rfl (by decide +kernel) rfl (by decide +kernel) (by exact cells_of rfl ⟨rfl, ⟨rfl, ⟨rfl, trivial⟩⟩⟩))
   (qss_one (qs_ret (qe_cmpR (op_eqD hr) (qv 6) (qe_lcomp (N' := ["_law_row"]) (src := [none]) rfl (by exact (qi_tup (qv 4))) (fun _ _ _ _ _ => (by exact (by exact qg_name (i := 0) (by show List.Nodup (["_law_row"] : List Str); decide +kernel) (by exact rfl) (by first | exact Or.inl rfl | exact Or.inr rfl)))) (fun _ _ _ _ _ => qts_nil) (fun _ _ _ _ _ => (by exact (by exact (qe_ix (ix_tupK (K := K) (by exact rfl)) (by exact (qv 0)) qe_int (by exact fun _ _ => rfl))))) (by exact trivial) rfl (by decide +kernel) rfl (by decide +kernel) (by exact cells_of rfl trivial)) (nomark _)))))))))) ?_
 extract_lets +lift
 try dsimp -zeta -zetaDelta only [Cx.nox, Cx.wish, cxOf]
 obtain ⟨p, q, ob, xs, rfl, hSp, hq, hob, al⟩ := id hv
 obtain ⟨pm, us, rfl, hSm, alm⟩ := id hm
 have n12 := ok.n12
 have n2 := ok.n2
 have hqT : SqT K H q xs := .inl (.inr ⟨ob, hq⟩)
 obtain ⟨kvs, rk, pk⟩ := kvs_c ok al
 refine ⟨_, rfl, p, _, _, _, rfl, rfl, hSp, rfl, q, ob, xs, kvs, rfl, hq, hob, rk, fun dd H1 hdd s1 dc _ => ?_⟩
 have t1 := Tst.same (K := K) s1
 refine ⟨_, rfl, p, _, _, _, rfl, rfl, t1 _ _ hSp, rfl, q, rfl, ⟨_, t1 _ _ hqT⟩, fun D hD => comp_mapT (K := K) (a := q) (xs := xs) (ds := rows) (P := RV K) (f := fun r => r.1) (fun _ _ _ _ t z => z.mono t) hD (t1 _ _ hqT) al.len (by omega) (fun i x d H' hx hd sm Rk E kR => ?_) fun H2 vs s2 hD2 al2 => ?_⟩
 ·obtain ⟨d', hd', rv⟩ := al.at hx
  rw [hd] at hd'
  cases hd'
  obtain ⟨pa, x1, y1, ex, hSr, hx1, hy1⟩ := rv.mono (t1.trans (Tst.same (K := K) sm))
  exact ⟨Ext.set rfl, _, rfl, pa, _, _, _, ex, rfl, hSr, rfl, kR _ _ (Same.refl _) hx1⟩
 have s12 := s1.trans s2
 have t12 := Tst.same (K := K) s12
 have dall : DeepAll K H2 vs ((rows.map fun r => r.1).map dR) := al2.deep fun v d z => z.deep
 have lays : Lays ((rows.map fun r => r.1).map dR) := lays_dR _
 have hV : SqL K H2 D vs := SqL.of hD2
 have ne := mx.ne
 have lm : us.length = ms.length := alm.len
 have exu : us[0]? = some (us[0]'(by omega)) := List.getElem?_eq_getElem _
 obtain ⟨m0, e0, rv0⟩ := alm.at exu
 have at0 : atI us 0 = some (us[0]'(by omega)) := atI_nat exu
 obtain ⟨xl, m1, at1, e1, rv1, _⟩ := alm.last (n := ms.length - 1) (by omega)
 generalize us[0]'(by omega) = x0 at exu at0 rv0
 obtain ⟨pa, xa, ya, rfl, hSa, hxa, hya⟩ := id rv0
 obtain ⟨pb, xb, yb, rfl, hSb, hxb, hyb⟩ := id rv1
 have mm0 := List.mem_of_getElem? e0
 have mm1 := List.mem_of_getElem? e1
 have h0 := mx.has m0 mm0
 have h1 := mx.has m1 mm1
 have ea : fstI rows ms = idxR rows m0.1 := by unfold fstI; rw [getD_at e0]
 have eb : lstI rows ms = idxR rows m1.1 := by unfold lstI; rw [getD_at e1]
 have exst : ∀ {z : R}, HasR rows z -> ∃ e ∈ (rows.map fun r => r.1).map dR, PyData.eqv e (dR z) = true := fun {z} hz => by
  obtain ⟨r, mr, er⟩ := hz
  exact ⟨dR r.1, List.mem_map.mpr ⟨r.1, List.mem_map.mpr ⟨r, mr, rfl⟩, rfl⟩, by rw [eqv_iff]; exact decide_eq_true er⟩
 refine ⟨_, rfl, p, _, _, _, rfl, rfl, t12 _ _ hSp, rfl, _, rfl, .inl ⟨rfl, _, hV⟩, _, rfl, pm, _, _, _, rfl, rfl, t12 _ _ hSm, at0, pa, _, _, _, rfl, rfl, t12 _ _ hSa, rfl, D, vs, _, xa, dR m0.1, rfl, rfl, hV, dall, lays, (hxa.mono t12).deep, dR_lay _, eqv_same _, exst h0, fun j0 f0 hj0 hf0 hlt0 => ?_⟩
 have ej0 : j0 = idxR rows m0.1 := idx_is h0 hj0 hf0 hlt0
 subst ej0
 clear hj0 hf0 hlt0
 refine ⟨_, rfl, _, rfl, .inl ⟨rfl, _, hV⟩, _, rfl, _, rfl, pm, _, _, _, rfl, rfl, t12 _ _ hSm, at1, pb, _, _, _, rfl, rfl, t12 _ _ hSb, rfl, D, vs, _, xb, dR m1.1, rfl, rfl, hV, dall, lays, (hxb.mono t12).deep, dR_lay _, eqv_same _, exst h1, fun j1 f1 hj1 hf1 hlt1 => ?_⟩
 have ej1 : j1 = idxR rows m1.1 := idx_is h1 hj1 hf1 hlt1
 subst ej1
 clear hj1 hf1 hlt1
 have ia := idx_lt h0
 have ib := idx_lt h1
 have hlx : xs.length = rows.length := al.len
 refine ⟨_, _, rfl, rfl, _, rfl, q, xs, rfl, t12 _ _ hqT, fun pi H3 s3 hpi => ?_⟩
 rw [show ((idxR rows m1.1 : Int) + 1) = ((idxR rows m1.1 + 1 : Nat) : Int) by omega, cut_nat (by omega) (by omega)] at hpi
 have s13 := s12.trans s3
 have t13 := Tst.same (K := K) s13
 have ali : Als (RowV K H3) ((xs.drop (idxR rows m0.1)).take (idxR rows m1.1 + 1 - idxR rows m0.1)) (innR rows ms) := by
  unfold innR
  rw [ea, eb]
  exact ((al.mono fun _ _ z => z.mono t13).drop _).take _
 have inl : (innR rows ms).length ≤ 12 := by unfold innR; rw [List.length_take, List.length_drop]; omega
 generalize (xs.drop (idxR rows m0.1)).take (idxR rows m1.1 + 1 - idxR rows m0.1) = is at hpi ali
 refine ⟨_, rfl, pm, _, rfl, .inr (t13 _ _ hSm), rfl, _, rfl, ?_⟩
 by_cases c1 : ms.length = 1
 ·refine iteD1 (by rw [lm, c1]; rfl) ?_
  have := k _ s13
  rw [show strM rows ms = true by unfold strM; rw [decide_eq_true c1]; rfl] at this
  exact this
 refine iteD0 (fun z => c1 (by rw [lm] at z; injection z with z; omega)) ?_
 have en := ends ok mx (by omega)
 rw [ea, eb] at en
 obtain ⟨r0, er0, fr0⟩ := idx_at h0
 obtain ⟨r1, er1, fr1⟩ := idx_at h1
 have g := slG ok en.ab er0 er1
 have ep0 : pwAt rows m0.1 = r0.2 := by unfold pwAt; rw [getD_at er0]
 have ep1 : pwAt rows m1.1 = r1.2 := by unfold pwAt; rw [getD_at er1]
 have pk3 := pk.mono t13
 obtain ⟨y0, ev0, ry0⟩ := pk3.get h0
 obtain ⟨y1, ev1, ry1⟩ := pk3.get h1
 rw [ep0] at ry0
 rw [ep1] at ry1
 rw [← fr0] at hxa ev0
 rw [← fr1] at hxb ev1
 have es : strM rows ms = decide ((innR rows ms).map (fun r => lineR r0 r1 r.1) = (innR rows ms).map fun r => r.2) := by
  unfold strM lnR
  rw [decide_eq_false c1, Bool.false_or, ea, eb, getD_at er0, getD_at er1]
 rw [es] at k
 have inw : ∀ r ∈ innR rows ms, Wf 102 r.1 /\ Wf 610 r.2 := fun r hr => by
  have mr : r ∈ rows := List.mem_of_mem_drop (List.mem_of_mem_take hr)
  exact ⟨ok.sp r mr, ok.pw r mr⟩
 clear es
 generalize innR rows ms = L at k ali inl inw
 clear ea eb dall lays hV ep0 ep1 rv0 rv1 exst hD2 al2 en
 obtain ⟨ka, rfl, hka⟩ := id hxa
 obtain ⟨kb, rfl, hkb⟩ := id hxb
 have dc3 := dc.mono (s2.trans s3) (Tst.same (K := K) (s2.trans s3))
 have hka3 : SqT K H3 ka ((keyR r0.1).map kV) := t13 _ _ hka
 have hkb3 : SqT K H3 kb ((keyR r1.1).map kV) := t13 _ _ hkb
 have hSm3 := t13 _ _ hSm
 have hSa3 := t13 _ _ hSa
 have hSb3 := t13 _ _ hSb
 have rxa := hxa.mono t13
 have rxb := hxb.mono t13
 clear dc hka hkb hxa hxb hSm hSa hSb t12 t1 pk pk3 rk al hq hob hqT hSp hv hm hya hyb alm s3 s2 s1 s12
 refine ⟨_, rfl, _, rfl, _, rfl, pm, _, _, _, rfl, rfl, hSm3, at1, pb, _, _, _, rfl, rfl, hSb3, rfl, dd, kb, kvs, keyR r1.1, y1, rfl, rfl, dc3, hkb3, ev1, ?_⟩
 refine ⟨_, rfl, _, rfl, pm, _, _, _, rfl, rfl, hSm3, at0, pa, _, _, _, rfl, rfl, hSa3, rfl, dd, ka, kvs, keyR r0.1, y0, rfl, rfl, dc3, hka3, ev0, ?_⟩
 refine ⟨y1, y0, r1.2, r0.2, 610, 610, rfl, ry1, ry0, g.b2, g.a2, by decide, fun p4 g4 => ?_⟩
 have m4 := same_new g4 (.tup [.int (minusR r1.2 r0.2).1, .int (minusR r1.2 r0.2).2])
 have t4 := Tst.same (K := K) m4
 refine ⟨_, rfl, _, rfl, pm, _, _, _, rfl, rfl, t4 _ _ hSm3, at1, pb, _, _, _, rfl, rfl, t4 _ _ hSb3, rfl, ?_⟩
 refine ⟨_, rfl, pm, _, _, _, rfl, rfl, t4 _ _ hSm3, at0, pa, _, _, _, rfl, rfl, t4 _ _ hSa3, rfl, ?_⟩
 refine ⟨.ref kb, .ref ka, r1.1, r0.1, 102, 102, rfl, rxb.mono t4, rxa.mono t4, g.b1, g.a1, by decide, fun p5 g5 => ?_⟩
 have m5 := same_new g5 (.tup [.int (minusR r1.1 r0.1).1, .int (minusR r1.1 r0.1).2])
 refine ⟨.ref p4, .ref p5, minusR r1.2 r0.2, minusR r1.1 r0.1, 1221, 205, rfl, (rv_new (K := K) m4).mono (Tst.same m5), rv_new (K := K) m5, g.w2, g.w1, by decide, g.ne, fun p6 g6 => ?_⟩
 have m6 := same_new g6 (.tup [.int (overR (minusR r1.2 r0.2) (minusR r1.1 r0.1)).1, .int (overR (minusR r1.2 r0.2) (minusR r1.1 r0.1)).2])
 have s36 := (m4.trans m5).trans m6
 have t36 := Tst.same (K := K) s36
 have rsl := rv_new (K := K) m6
 have dc6 := dc3.mono s36 t36
 have S6 := s13.trans s36
 replace hka3 := t36 _ _ hka3
 replace hSm3 := t36 _ _ hSm3
 replace hSa3 := t36 _ _ hSa3
 replace rxa := rxa.mono t36
 replace ry0 := ry0.mono t36
 replace hpi := t36 _ _ hpi
 replace ali := ali.mono fun _ _ z => z.mono t36
 clear m4 m5 m6 t4 s36 t36 dc3 hkb3 hSb3 rxb ry1 s13 t13 ev1
 generalize (upd (upd (upd H3 p4 (.tup [.int (minusR r1.2 r0.2).1, .int (minusR r1.2 r0.2).2])) p5 (.tup [.int (minusR r1.1 r0.1).1, .int (minusR r1.1 r0.1).2])) p6 (.tup [.int (overR (minusR r1.2 r0.2) (minusR r1.1 r0.1)).1, .int (overR (minusR r1.2 r0.2) (minusR r1.1 r0.1)).2])) = H6 at rsl dc6 S6 hka3 hSm3 hSa3 rxa ry0 hpi ali ⊢
 have rsl : RV K H6 (.ref p6) (slopeR r0 r1) := rsl
 have il : is.length = (L).length := ali.len
 refine ⟨_, rfl, pi, rfl, ⟨_, hpi⟩, fun D7 hD7 => comp_mapT (K := K) (a := pi) (xs := is) (ds := L) (P := RV K) (f := fun r => lineR r0 r1 r.1) (fun _ _ _ _ t z => z.mono t) hD7 hpi ali.len (by omega) (fun i x d H' hx hd sm Rk E kR => ?_) fun H7 ls s7 hD7' al7 => ?_⟩
 ·obtain ⟨d', hd', rv⟩ := ali.at hx
  rw [hd] at hd'
  cases hd'
  have t' := Tst.same (K := K) sm
  have md := List.mem_of_getElem? hd
  obtain ⟨pr, xr, yr, ex, hSr, hxr, hyr⟩ := rv.mono t'
  refine ⟨Ext.set rfl, _, rfl, _, rfl, pm, _, _, _, rfl, rfl, t' _ _ hSm3, at0, pa, _, _, _, rfl, rfl, t' _ _ hSa3, rfl, dd, ka, kvs, keyR r0.1, y0, rfl, rfl, dc6.mono sm t', t' _ _ hka3, ev0, ?_⟩
  refine ⟨_, rfl, _, rfl, pr, _, _, _, ex, rfl, hSr, rfl, _, rfl, pm, _, _, _, rfl, rfl, t' _ _ hSm3, at0, pa, _, _, _, rfl, rfl, t' _ _ hSa3, rfl, ?_⟩
  refine ⟨xr, .ref ka, d.1, r0.1, 102, 102, rfl, hxr, rxa.mono t', (inw d md).1, g.a1, by decide, fun q1 h1' => ?_⟩
  have n1 := same_new h1' (.tup [.int (minusR d.1 r0.1).1, .int (minusR d.1 r0.1).2])
  have w1 : Wf 205 (minusR d.1 r0.1) := minus_wf (inw d md).1 g.a1
  refine ⟨.ref p6, .ref q1, slopeR r0 r1, minusR d.1 r0.1, 1426, 205, rfl, (rsl.mono t').mono (Tst.same n1), rv_new (K := K) n1, g.sl, w1, by decide, fun q2 h2' => ?_⟩
  have n2' := same_new h2' (.tup [.int (timesR (slopeR r0 r1) (minusR d.1 r0.1)).1, .int (timesR (slopeR r0 r1) (minusR d.1 r0.1)).2])
  refine ⟨y0, .ref q2, r0.2, timesR (slopeR r0 r1) (minusR d.1 r0.1), 610, 1631, rfl, (ry0.mono t').mono (Tst.same (n1.trans n2')), rv_new (K := K) n2', g.a2, times_wf g.sl w1, by decide, fun q3 h3' => ?_⟩
  have n3 := same_new h3' (.tup [.int (plusR r0.2 (timesR (slopeR r0 r1) (minusR d.1 r0.1))).1, .int (plusR r0.2 (timesR (slopeR r0 r1) (minusR d.1 r0.1))).2])
  exact kR _ _ ((n1.trans n2').trans n3) (rv_new (K := K) n3)
 have t7 := Tst.same (K := K) s7
 refine ⟨_, rfl, _, rfl, pi, rfl, ⟨_, t7 _ _ hpi⟩, fun D8 hD8 => comp_mapT (K := K) (a := pi) (xs := is) (ds := L) (P := RV K) (f := fun r => r.2) (fun _ _ _ _ t z => z.mono t) hD8 (t7 _ _ hpi) ali.len (by omega) (fun i x d H' hx hd sm Rk E kR => ?_) fun H8 vs8 s8 hD8' al8 => ?_⟩
 ·obtain ⟨d', hd', rv⟩ := ali.at hx
  rw [hd] at hd'
  cases hd'
  obtain ⟨pr, xr, yr, ex, hSr, hxr, hyr⟩ := rv.mono (t7.trans (Tst.same (K := K) sm))
  exact ⟨Ext.set rfl, _, rfl, pr, _, _, _, ex, rfl, hSr, rfl, kR _ _ (Same.refl _) hyr⟩
 have d7 := (al7.mono fun _ _ z => z.mono (Tst.same s8)).deep fun _ _ z => RV.deep z
 have d8 := al8.deep fun _ _ z => RV.deep z
 have kk := k _ (S6.trans (s7.trans s8))
 have h7 := s8 _ _ hD7'
 clear al7 al8 k
 generalize L.map (fun r => lineR r0 r1 r.1) = A at d7 kk
 generalize L.map (fun r => r.2) = B at d8 kk
 have ee : PyData.eqv (dL A) (dL B) = decide (A = B) := eqvL A B
 refine ⟨dL A, dL B, .lst (SqL.of h7) d7, .lst (SqL.of hD8') d8, layL A, layL B, depthL A, ?_⟩
 rw [ee]
 exact kk
theorem ok_Q43 (T : Txt K mg t) : FnOk P w K mg base CX0 2 t.a_Q43 t.d_Q43 ["self", "word", "number"] (sp_NoMix K t.c_Q43) := by
 refine T.F_Q43.ok sc_Q43 (fun vs H Q E h => ?_) (fun cdv A outer s H vs Q E hr h => ?_)
 ·obtain ⟨_, _, _, rfl, _⟩ := h; rfl
 obtain ⟨a, x, n, rfl, ha, k⟩ := h
 refine QSs.ok (qss_consL (qs_fldE rfl (qv 0) (qcA (ok_Q36 T) hr T.m_Q36 T.F_Q36.kp T.b_Q36 (qa_cons (qv 1) qa_nil star_name)) rfl)
   (qss_one (qs_fldE rfl (qv 0) (qcA (ok_Q36 T) hr T.m_Q36 T.F_Q36.kp T.b_Q36 (qa_cons (qv 2) qa_nil star_name)) rfl))) ?_
 extract_lets +lift
 try dsimp -zeta -zetaDelta only [Cx.nox, Cx.wish, cxOf]
 refine ⟨_, rfl, _, rfl, .inr ⟨x, rfl⟩, _, rfl, a, _, _, rfl, T.X_Q43.cl, T.n_Q43_word, .inl ⟨ha, fun d hd nd => ?_⟩⟩
 have ha2 : upd (upd H a (exO a t.c_Q43 (some d))) d (dO d [("word", .str x)]) a = some (exO a t.c_Q43 (some d)) := by rw [upd_ne nd.symm, upd_same]
 refine ⟨_, rfl, _, rfl, .inl ⟨n, rfl⟩, _, rfl, a, _, _, rfl, T.X_Q43.cl, T.n_Q43_number, .inr ⟨d, _, ha2, upd_same, by show 1 ≤ 100; decide, ?_⟩⟩
 have hd0 : H d = none := hd
 refine k d _ hd0 nd (fun b o nb q => ?_) (by rw [upd_ne nd.symm]; exact ha2) upd_same
 have nbd : b ≠ d := ne_of_none q hd0
 rw [upd_ne nbd, upd_ne nbd, upd_ne nb]
 exact q
theorem ok_Q8 (T : Txt K mg t) : FnOk P w K mg base (CXD P w) 4 t.a_Q8 t.d_Q8 ["table", "mix"] (sp_ask_speeds K t.c_Q43) := by
 refine B.Fun.okD T.F_Q8 sc_Q8 (fun vs H Q E h => ?_) (fun cdv A outer s H vs Q E hr h => ?_)
 ·obtain ⟨_, _, _, _, rfl, _⟩ := h; rfl
 obtain ⟨v, w, rows, ms, rfl, hv, ok, hw, okm, k, ke⟩ := h
 refine QSs.ok (qss_consL (qsA 2 sc_Q8.nd (qcA (ok_Q6 T) hr T.m_Q6 T.F_Q6.kp T.b_Q6 (qa_cons (qv 0) (qa_cons (qe_lcomp (N' := ["pair"]) (src := [none]) rfl (by exact (qi_tup (qv 1))) (fun _ _ _ _ _ => (by exact (by exact qg_name (i := 0) (by show List.Nodup (["pair"] : List Str); decide +kernel) (by exact rfl) (by first | exact Or.inl rfl | exact Or.inr rfl)))) (fun _ _ _ _ _ => qts_nil) (fun _ _ _ _ _ => (by exact (by exact (qe_ix (ix_tupK (K := K) (by exact rfl)) (by exact (qv 0)) qe_int (by exact fun _ _ => rfl))))) (by exact trivial) rfl (by decide +kernel) rfl (by decide +kernel) (by exact cells_of rfl trivial)) qa_nil star_lc) star_name)))
   (qss_one (qs_for PassesOwn.leaving rfl (qi_enumL rfl T.z_enumerate (qa_cons (qv 2) qa_nil star_name)) (qg_tup rfl (qgs_cons (qg_name (i := 3) sc_Q8.nd rfl (by first | exact Or.inl rfl | exact Or.inr rfl)) (qgs_cons (qg_name (i := 4) sc_Q8.nd rfl (by first | exact Or.inl rfl | exact Or.inr rfl)) qgs_nil)))
   (qss_one (qs_if (qw_pt (qw_or (qt_cmpR op_isN (qv 4) qe_non (nomark _)) (qw_or1 (qw_pt (qw_and (qt_cmpR op_gt (qv 3) qe_int (nomark _)) (qw_and1 (qt_cmpR op_le (qv 4) (qxA ix_list (qv 2) (qe_op op_sub (qv 3) qe_int)) (nomark _)))))))) (qss_one (qs_raiseD T.X_Q43 (vm_has _) rfl takesD (ok_Q43 T) (hr.mono (by decide)) T.b_Q43 rfl T.m_Q43 (qa_cons qe_str (qa_cons (qv 3) qa_nil star_name) star_con))) qss_nil))))) ?_
 extract_lets +lift
 try dsimp -zeta -zetaDelta only [Cx.nox, Cx.wish, cxOf]
 obtain ⟨pm, xs, rfl, hSm, alx⟩ := id hw
 have n12 := ok.n12
 have l5 := okm.len
 have lx : xs.length = ms.length := alx.len
 refine ⟨_, rfl, _, rfl, pm, rfl, ⟨_, hSm⟩, fun D hD => comp_mapT (K := K) (a := pm) (xs := xs) (ds := ms) (P := RV K) (f := fun r => r.1) (fun _ _ _ _ t z => z.mono t) hD hSm lx (by omega) (fun i x d H' hx hd sm Rk E kR => ?_) fun H1 vs s1 hD1 al1 => ?_⟩
 ·obtain ⟨d', hd', rv⟩ := alx.at hx
  rw [hd] at hd'
  cases hd'
  obtain ⟨pa, x1, y1, ex, hSr, hx1, hy1⟩ := rv.mono (Tst.same sm)
  exact ⟨Ext.set rfl, _, rfl, pa, _, _, _, ex, rfl, hSr, rfl, kR _ _ (Same.refl _) hx1⟩
 refine ⟨v, D, rows, vs, List.map (fun r : R × R => r.1) ms, rfl, hv.mono (Tst.same s1), n12, SqL.of hD1, al1, by rw [List.length_map]; omega, fun l H2 s2 hl => ?_⟩
 rw [List.map_map] at hl
 have hl' : H2 l = some (.lst (ms.map fun m => numV rows m.1)) := hl
 have s12 := s1.trans s2
 clear hl
 refine ⟨_, rfl, l, rfl, ⟨_, SqL.of hl'⟩, for_enumL (K := K) (a := l) (xs := ms.map fun m => numV rows m.1) (fun i σ H' => ∃ (x3 x4 : Option V), σ = [some v, some (.ref pm), some (.ref l), x3, x4] /\ Same H2 H' /\ ∀ m, m < i -> badL rows ms m = false) ⟨none, none, rfl, Same.refl _, fun m hm => absurd hm (Nat.not_lt_zero _)⟩ (fun i σ H' _ ⟨_, _, _, sm, _⟩ => sm.seq (SqL.of hl')) ?_ ?_⟩
 rotate_left
 ·rintro σ H3 ⟨x3, x4, rfl, sm, gd⟩
  rw [List.length_map] at gd
  exact k (by unfold spdO spdX; rw [find_no fun j hj => gd j (by omega)]; rfl) _ (s12.trans sm)
 rintro i x pt σ H3 hx ⟨x3, x4, rfl, sm, gd⟩ hpt
 rw [List.getElem?_map] at hx
 obtain ⟨m, hm, rfl⟩ := Option.map_eq_some_iff.mp hx
 have il := (List.getElem?_eq_some_iff.mp hm).1
 have e1 := same_new hpt (.tup [.int i, numV rows m.1])
 refine ⟨pt, _, rfl, SqT.of upd_same, rfl, _, _, rfl, _, _, rfl, rfl, ?_⟩
 have sm1 := sm.trans e1
 clear e1 hpt
 generalize upd H3 pt (.tup [.int i, numV rows m.1]) = H4 at sm1 ⊢
 have eb : badL rows ms i = (!hasB rows m.1 || (decide (0 < i) && !lessR (ms.getD (i - 1) rowD).1 m.1)) := by unfold badL; rw [getD_at hm]
 refine ⟨_, rfl, rfl, _, rfl, ?_⟩
 by_cases c : HasR rows m.1
 rotate_left
 ·have hb : hasB rows m.1 = false := by
   cases z : hasB rows m.1 with
   | false => rfl
   | true => exact absurd (has_any.mp z) c
  have bd : badL rows ms i = true := by rw [eb, hb]; rfl
  have nv : numV rows m.1 = .non := if_neg (by rw [show (rows.any fun r => decide (r.1 = m.1)) = hasB rows m.1 from rfl, hb]; exact Bool.false_ne_true)
  rw [nv]
  refine iteD1 rfl (iteT ?_)
  refine ⟨_, rfl, zl2, fun x hx => ⟨x, _, _, rfl, upd_same, fun d' H' hd nd kp ha hd' => ⟨rfl, some d', ha, ?_⟩⟩⟩
  exact ke _ _ (by unfold spdO spdX; rw [find_at (i := i) (by omega) bd gd]; rfl) d' _ ((s12.trans sm1).trans (del_same hx kp)) (by rw [del_at nd]; exact hd')
 have hb : hasB rows m.1 = true := has_any.mpr c
 rw [num_of c]
 refine iteD0 (fun z => nomatch z) ?_
 refine ⟨_, rfl, _, _, rfl, rfl, _, rfl, ?_⟩
 by_cases c0 : 0 < i
 rotate_left
 ·have bd : badL rows ms i = false := by rw [eb, hb, decide_eq_false c0]; rfl
  refine iteD0 (by omega) (iteF ⟨_, _, rfl, sm1, fun j hj => ?_⟩)
  have : j = i := by omega
  rw [this]; exact bd
 refine iteD1 (by omega) ?_
 obtain ⟨m', hm'⟩ : ∃ m', ms[i - 1]? = some m' := ⟨_, List.getElem?_eq_getElem (by omega)⟩
 have g' := gd (i - 1) (by omega)
 have c' : HasR rows m'.1 := by
  unfold badL at g'
  rw [getD_at hm'] at g'
  cases z : hasB rows m'.1 with
  | true => exact has_any.mp z
  | false => rw [z] at g'; cases g'
 have hat : atI (ms.map fun m => numV rows m.1) ((i : Int) - 1) = some (.int (idxR rows m'.1 : Nat)) := by
  rw [show ((i : Int) - 1) = ((i - 1 : Nat) : Int) by omega]
  refine atI_nat ?_
  rw [List.getElem?_map, hm', ← num_of c']
  rfl
 rw [getD_at hm', hb, decide_eq_true c0, has_lt ok c' c] at eb
 refine ⟨_, rfl, _, rfl, _, rfl, _, _, rfl, rfl, l, _, _, _, rfl, rfl, SqL.of (sm1 _ _ hl'), hat, _, _, rfl, rfl, _, rfl, ?_⟩
 by_cases c2 : idxR rows m'.1 < idxR rows m.1
 ·have bd : badL rows ms i = false := by rw [eb, decide_eq_true c2]; rfl
  refine iteD0 (by omega) ⟨_, _, rfl, sm1, fun j hj => ?_⟩
  by_cases z : j < i
  ·exact gd j z
  ·have : j = i := by omega
   rw [this]; exact bd
 ·have bd : badL rows ms i = true := by rw [eb, decide_eq_false c2]; rfl
  refine iteD1 (by omega) ?_
  refine ⟨_, rfl, zl2, fun x hx => ⟨x, _, _, rfl, upd_same, fun d' H' hd nd kp ha hd' => ⟨rfl, some d', ha, ?_⟩⟩⟩
  exact ke _ _ (by unfold spdO spdX; rw [find_at (i := i) (by omega) bd gd]; rfl) d' _ ((s12.trans sm1).trans (del_same hx kp)) (by rw [del_at nd]; exact hd')
theorem ok_Q12 (T : Txt K mg t) : FnOk P w K mg base (CXD P w) 4 t.a_Q12 t.d_Q12 ["mix"] (sp_ask_parts K t.c_Q43) := by
 refine B.Fun.okD T.F_Q12 sc_Q12 (fun vs H Q E h => ?_) (fun cdv A outer s H vs Q E hr h => ?_)
 ·obtain ⟨_, _, rfl, _⟩ := h; rfl
 obtain ⟨w, ms, rfl, hw, okm, k, ke⟩ := h
 refine QSs.ok (qss_consL (qs_for PassesOwn.leaving rfl (qi_enum rfl T.z_enumerate (qa_cons (qv 0) qa_nil star_name)) (qg_tup rfl (qgs_cons (qg_name (i := 1) sc_Q12.nd rfl (by first | exact Or.inl rfl | exact Or.inr rfl)) (qgs_cons (qg_name (i := 2) sc_Q12.nd rfl (by first | exact Or.inl rfl | exact Or.inr rfl)) qgs_nil)))
   (qss_one (qs_if (qt_not (qt_val (qcA (ok_Q31 T) hr T.m_Q31 T.F_Q31.kp T.b_Q31 (qa_cons (qe_glob (v := .ref t.c_NOUGHT) rfl T.m_NOUGHT rfl) (qa_cons (qxA ix_tup (qv 2) qe_int) qa_nil star_sub) star_name)))) (qss_one (qs_raiseD T.X_Q43 (vm_has _) rfl takesD (ok_Q43 T) (hr.mono (by decide)) T.b_Q43 rfl T.m_Q43 (qa_cons qe_str (qa_cons (qv 1) qa_nil star_name) star_con))) qss_nil)))
   (qss_one (qs_if (qt_cmpR (op_neD hr) (qcA (ok_Q42 T) hr T.m_Q42 T.F_Q42.kp T.b_Q42 (qa_cons (qe_lcomp (N' := ["pair"]) (src := [none]) rfl (by exact (qi_tup (qv 0))) (fun _ _ _ _ _ => (by exact (by exact qg_name (i := 0) (by show List.Nodup (["pair"] : List Str); decide +kernel) (by exact rfl) (by first | exact Or.inl rfl | exact Or.inr rfl)))) (fun _ _ _ _ _ => qts_nil) (fun _ _ _ _ _ => (by exact (by exact (qe_ix (ix_tupK (K := K) (by exact rfl)) (by exact (qv 0)) qe_int (by exact fun _ _ => rfl))))) (by exact trivial) rfl (by decide +kernel) rfl (by decide +kernel) (by exact cells_of rfl trivial)) qa_nil star_lc)) (qe_glob (v := .ref t.c_ONE) rfl T.m_ONE rfl) (nomark _)) (qss_one (qs_raiseD T.X_Q43 (vm_has _) rfl takesD (ok_Q43 T) (hr.mono (by decide)) T.b_Q43 rfl T.m_Q43 (qa_cons qe_str (qa_cons (qe_un un_neg qe_int) qa_nil star_un) star_con))) qss_nil))) ?_
 extract_lets +lift
 try dsimp -zeta -zetaDelta only [Cx.nox, Cx.wish, cxOf]
 obtain ⟨pm, xs, rfl, hSm, alx⟩ := id hw
 have l5 := okm.len
 have lx : xs.length = ms.length := alx.len
 refine ⟨_, rfl, pm, rfl, ⟨_, hSm⟩, for_enum (K := K) (a := pm) (xs := xs) (fun i σ H' => ∃ (x3 x4 : Option V), σ = [some (.ref pm), x3, x4] /\ Same H H' /\ ∀ m, m < i -> badP ms m = false) ⟨none, none, rfl, Same.refl _, fun m hm => absurd hm (Nat.not_lt_zero _)⟩ (fun i σ H' _ ⟨_, _, _, sm, _⟩ => Tst.same sm _ _ hSm) ?_ ?_⟩
 ·rintro i x pt σ H3 hx ⟨x3, x4, rfl, sm, gd⟩ hpt
  obtain ⟨m, hm, rv⟩ := alx.at hx
  have il := (List.getElem?_eq_some_iff.mp hm).1
  have e1 := same_new hpt (.tup [.int i, x])
  refine ⟨pt, _, rfl, SqT.of upd_same, rfl, _, _, rfl, _, _, rfl, rfl, ?_⟩
  have sm1 := sm.trans e1
  clear e1 hpt
  generalize upd H3 pt (.tup [.int i, x]) = H4 at sm1 ⊢
  obtain ⟨pa, xa, ya, rfl, hSa, hxa, hya⟩ := rv.mono (Tst.same sm1)
  have eb : badP ms i = !lessR (0, 1) m.2 := by unfold badP; rw [getD_at hm]
  refine ⟨_, rfl, pa, _, _, _, rfl, rfl, hSa, rfl, .ref t.c_NOUGHT, ya, (0, 1), m.2, 1, 701, rfl, ⟨_, rfl, T.q_NOUGHT _⟩, hya, ⟨by decide, by decide, by decide, by decide⟩, okm.pt m (List.mem_of_getElem? hm), by decide, _, rfl, ?_⟩
  cases c : lessR (0, 1) m.2 with
  | true =>
   have bd : badP ms i = false := by rw [eb, c]; rfl
   refine iteF ⟨_, _, rfl, sm1, fun j hj => ?_⟩
   by_cases z : j < i
   ·exact gd j z
   ·have : j = i := by omega
    rw [this]; exact bd
  | false =>
   have bd : badP ms i = true := by rw [eb, c]; rfl
   refine iteT ?_
   refine ⟨_, rfl, zl2, fun x hx => ⟨x, _, _, rfl, upd_same, fun d' H' hd nd kp ha hd' => ⟨rfl, some d', ha, ?_⟩⟩⟩
   exact ke _ _ (by unfold prtO prtX; rw [find_at (i := i) (by omega) bd gd]) d' _ ((sm1).trans (del_same hx kp)) (by rw [del_at nd]; exact hd')
 rintro σ H3 ⟨x3, x4, rfl, sm, gd⟩
 have e0 : prtX ms = none := by unfold prtX; rw [find_no fun j hj => gd j (by omega)]
 have eo : prtO ms = if sumR (ms.map fun m => m.2) = (1, 1) then none else some (Str.ofString "whole", -1) := by unfold prtO; rw [e0]
 have hS3 := Tst.same (K := K) sm _ _ hSm
 refine ⟨_, rfl, pm, rfl, ⟨_, hS3⟩, fun D hD => comp_mapT (K := K) (a := pm) (xs := xs) (ds := ms) (P := RV K) (f := fun r => r.2) (fun _ _ _ _ t z => z.mono t) hD hS3 lx (by omega) (fun i x d H' hx hd sm Rk E kR => ?_) fun H1 vs s1 hD1 al1 => ?_⟩
 ·obtain ⟨d', hd', rv⟩ := alx.at hx
  rw [hd] at hd'
  cases hd'
  obtain ⟨pa, x1, y1, ex, hSr, hx1, hy1⟩ := (rv.mono (Tst.same (by assumption))).mono (Tst.same sm)
  exact ⟨Ext.set rfl, _, rfl, pa, _, _, _, ex, rfl, hSr, rfl, kR _ _ (Same.refl _) hy1⟩
 obtain ⟨DD, pb⟩ := okm.bd
 refine ⟨D, vs, ms.map (fun r : R × R => r.2), 1160, DD, rfl, .inl (SqL.of hD1), als_rvs al1, (fun r hr => ?_), pb.p, Nat.lt_of_le_of_lt pb.u (Nat.pow_lt_pow_right (by decide) (by decide)), (by rw [List.length_map]; omega), by decide, fun w H4 s4 rv4 => ?_⟩
 ·obtain ⟨m, hm, rfl⟩ := List.mem_map.mp hr
  exact ⟨(okm.pt m hm).mono (by decide), (pb.d m hm).dvd⟩
 have s14 := (sm.trans s1).trans s4
 have r1 : RV K H4 (.ref t.c_ONE) (1, 1) := ⟨_, rfl, T.q_ONE _⟩
 refine ⟨dR (sumR (ms.map fun m => m.2)), dR (1, 1), rv4.deep, r1.deep, dR_lay _, dR_lay _, dR_depth _, _, rfl, ?_⟩
 rw [eqv_iff]
 by_cases c : sumR (ms.map fun m => m.2) = (1, 1)
 ·rw [decide_eq_true c]
  refine iteF ?_
  exact k (by rw [eo, if_pos c]) _ s14
 ·rw [decide_eq_false c]
  refine iteT ?_
  refine ⟨_, rfl, zl2, fun x hx => ⟨x, _, _, rfl, upd_same, fun d' H' hd nd kp ha hd' => ⟨rfl, some d', ha, ?_⟩⟩⟩
  exact ke _ _ (by rw [eo, if_neg c]) d' _ ((s14).trans (del_same hx kp)) (by rw [del_at nd]; exact hd')
theorem ok_Q13 (T : Txt K mg t) : FnOk P w K mg base (CXD P w) 5 t.a_Q13 t.d_Q13 ["table", "speed", "thing"] (sp_mix_asked K t.c_Q43) := by
 refine B.Fun.okD T.F_Q13 sc_Q13 (fun vs H Q E h => ?_) (fun cdv A outer s H vs Q E hr h => ?_)
 ·obtain ⟨_, _, _, _, _, _, rfl, _⟩ := h; rfl
 obtain ⟨v, w, x, rows, s, ms, rfl, hv, ok, hw, mv0, okm, k, ke⟩ := h
 refine QSs.ok (qss_consL (qs_if (qt_not (qt_val (qcA (ok_Q3 T) hr T.m_Q3 T.F_Q3.kp T.b_Q3 (qa_cons (qv 2) qa_nil star_name)))) (qss_one (qs_raiseD T.X_Q43 (vm_has _) rfl takesD (ok_Q43 T) (hr.mono (by decide)) T.b_Q43 rfl T.m_Q43 (qa_cons qe_str (qa_cons (qe_un un_neg qe_int) qa_nil star_un) star_con))) qss_nil)
   (qss_consL (qs_expr (qe_call (ok_Q8 T) (hr.mono (by decide)) rfl T.m_Q8 T.F_Q8.kp T.b_Q8 .nil passD (qa_cons (qv 0) (qa_cons (qv 2) qa_nil star_name) star_name)))
   (qss_consL (qs_expr (qe_call (ok_Q12 T) (hr.mono (by decide)) rfl T.m_Q12 T.F_Q12.kp T.b_Q12 .nil passD (qa_cons (qv 2) qa_nil star_name)))
   (qss_consL (qs_if (qt_cmpR (op_neD hr) (qcA (ok_Q42 T) hr T.m_Q42 T.F_Q42.kp T.b_Q42 (qa_cons (qe_lcomp (N' := ["pair"]) (src := [none]) rfl (by exact (qi_tup (qv 2))) (fun _ _ _ _ _ => (by exact (by exact qg_name (i := 0) (by show List.Nodup (["pair"] : List Str); decide +kernel) (by exact rfl) (by first | exact Or.inl rfl | exact Or.inr rfl)))) (fun _ _ _ _ _ => qts_nil) (fun _ _ _ _ _ => (by exact (by exact (qe_call (ok_Q41 T) (by exact hr.mono (by decide)) (by exact rfl) T.m_Q41 T.F_Q41.kp T.b_Q41 (by exact .nil) (by exact pass0) (qa_cons (by exact (qe_ix (ix_tupK (K := K) (by exact rfl)) (by exact (qv 0)) qe_int (by exact fun _ _ => rfl))) (qa_cons (by exact (qe_ix (ix_tupK (K := K) (by exact rfl)) (by exact (qv 0)) qe_int (by exact fun _ _ => rfl))) qa_nil star_sub) star_sub))))) (by exact trivial) rfl (by decide +kernel) rfl (by decide +kernel) (by exact cells_of rfl trivial)) qa_nil star_lc)) (qv 1) (nomark _)) (qss_one (qs_raiseD T.X_Q43 (vm_has _) rfl takesD (ok_Q43 T) (hr.mono (by decide)) T.b_Q43 rfl T.m_Q43 (qa_cons qe_str (qa_cons (qe_un un_neg qe_int) qa_nil star_un) star_con))) qss_nil)
   (qss_consL (qs_if (qt_not (qt_val (qcA (ok_Q22 T) hr T.m_Q22 T.F_Q22.kp T.b_Q22 (qa_cons (qv 0) (qa_cons (qv 2) qa_nil star_name) star_name)))) (qss_one (qs_raiseD T.X_Q43 (vm_has _) rfl takesD (ok_Q43 T) (hr.mono (by decide)) T.b_Q43 rfl T.m_Q43 (qa_cons qe_str (qa_cons (qe_un un_neg qe_int) qa_nil star_un) star_con))) qss_nil)
   (qss_one (qs_ret qe_bl))))))) ?_
 extract_lets +lift
 try dsimp -zeta -zetaDelta only [Cx.nox, Cx.wish, cxOf]
 refine ⟨_, rfl, x, dMix ms, rfl, mv0.deep, (by show (ms.map dPr).length ≤ 12; rw [List.length_map]; exact okm.len), fun H1 s1 => ⟨_, rfl, ?_⟩⟩
 rw [mixD_ok okm]
 refine iteF ?_
 have mv := mv0.mono (Tst.same s1)
 have hv1 := hv.mono (Tst.same s1)
 refine ⟨_, rfl, _, rfl, v, x, rows, ms, rfl, hv1, ok, mv, okm, fun n1 H2 s2 => ?_, fun z n e dd H2 s2 hd => ke z n (by unfold askM; rw [e]) dd _ (s1.trans s2) hd⟩
 have t2 := Tst.same (K := K) s2
 refine ⟨_, rfl, x, ms, rfl, mv.mono t2, okm, fun n2 H3 s3 => ?_, fun z n e dd H3 s3 hd => ke z n (by unfold askM; rw [n1, e]) dd _ ((s1.trans s2).trans s3) hd⟩
 have am : askM rows s ms = endO rows s ms := by unfold askM; rw [n1, n2]
 rw [am] at k ke
 have x1 : spdX rows ms = none := by
  cases z : spdX rows ms with
  | none => rfl
  | some n => unfold spdO at n1; rw [z] at n1; cases n1
 have hh := spd_in x1
 have s23 := s2.trans s3
 have t23 := Tst.same (K := K) s23
 obtain ⟨pm, xs, rfl, hSm, alx⟩ := id (mv.mono t23)
 have l5 := okm.len
 have lx : xs.length = ms.length := alx.len
 obtain ⟨DD, pb⟩ := okm.bd
 have tm := tm_ok okm pb
 refine ⟨_, rfl, pm, rfl, ⟨_, hSm⟩, fun D hD => comp_mapT (K := K) (a := pm) (xs := xs) (ds := ms) (P := RV K) (f := fun r => timesR r.1 r.2) (fun _ _ _ _ t z => z.mono t) hD hSm lx (by omega) (fun i x d H' hx hd sm Rk E kR => ?_) fun H4 vs s4 hD4 al4 => ?_⟩
 ·obtain ⟨d', hd', rv⟩ := alx.at hx
  rw [hd] at hd'
  cases hd'
  have md := List.mem_of_getElem? hd
  obtain ⟨pa, x1, y1, ex, hSr, hx1, hy1⟩ := rv.mono (Tst.same sm)
  refine ⟨Ext.set rfl, _, rfl, pa, _, _, _, ex, rfl, hSr, rfl, _, rfl, pa, _, _, _, ex, rfl, hSr, rfl, x1, y1, d.1, d.2, 102, 701, rfl, hx1, hy1, (tm d md).1, okm.pt d md, by decide, fun q1 g1 => ?_⟩
  have e1 := same_new g1 (.tup [.int (timesR d.1 d.2).1, .int (timesR d.1 d.2).2])
  exact kR _ _ e1 (rv_new (K := K) e1)
 refine ⟨D, vs, ms.map (fun r : R × R => timesR r.1 r.2), 1290, D0 * 12 * DD, rfl, .inl (SqL.of hD4), als_rvs al4, (fun r hr => ?_), Nat.mul_pos (by decide) pb.p, Nat.lt_of_le_of_lt (Nat.mul_le_mul_left _ pb.u) (by decide), (by rw [List.length_map]; omega), by decide, fun u H5 s5 rv5 => ?_⟩
 ·obtain ⟨m, hm, rfl⟩ := List.mem_map.mp hr
  exact ⟨(tm m hm).2.1.mono (by decide), (tm m hm).2.2⟩
 have s15 := (s1.trans s23).trans (s4.trans s5)
 have hw5 := hw.mono (Tst.same s15)
 refine ⟨_, rfl, dR (sumR (ms.map fun m => timesR m.1 m.2)), dR s, rv5.deep, hw5.deep, dR_lay _, dR_lay _, dR_depth _, _, rfl, ?_⟩
 rw [eqv_iff]
 by_cases c : sumR (ms.map fun m => timesR m.1 m.2) = s
 rotate_left
 ·rw [decide_eq_false c]
  refine iteT ?_
  refine ⟨_, rfl, zl2, fun x₁ hx => ⟨x₁, _, _, rfl, upd_same, fun d' H' hd nd kp ha hd' => ⟨rfl, some d', ha, ?_⟩⟩⟩
  exact ke _ _ (by unfold endO; rw [if_neg c]) d' _ ((s15).trans (del_same hx kp)) (by rw [del_at nd]; exact hd')
 rw [decide_eq_true c]
 refine iteF ?_
 have eo : endO rows s ms = if farB rows ms = true then some (Str.ofString "far", -1) else none := by unfold endO; rw [if_pos c]
 rw [eo] at k ke
 have mv5 : MixV K H5 (.ref pm) ms := (mv.mono t23).mono (Tst.same (s4.trans s5))
 refine ⟨_, rfl, _, rfl, v, .ref pm, rows, ms, rfl, hv.mono (Tst.same s15), ok, mv5, okm, hh, fun H6 s6 => ⟨_, rfl, ?_⟩⟩
 cases cf : farB rows ms with
 | true =>
  refine iteT ?_
  refine ⟨_, rfl, zl2, fun x₁ hx => ⟨x₁, _, _, rfl, upd_same, fun d' H' hd nd kp ha hd' => ⟨rfl, some d', ha, ?_⟩⟩⟩
  exact ke _ _ (by rw [if_pos cf]) d' _ ((s15.trans s6).trans (del_same hx kp)) (by rw [del_at nd]; exact hd')
 | false =>
  refine iteF ?_
  exact k (by rw [if_neg (by rw [cf]; exact Bool.false_ne_true)]) _ (s15.trans s6)
theorem ok_Q30 (T : Txt K mg t) : FnOk P w K mg base CX0 6 t.a_Q30 t.d_Q30 ["_law_table_here", "_law_speed", "_law_thing"] (sp_law_lets K) := by
 refine T.F_Q30.ok sc_Q30 (fun vs H Q E h => ?_) (fun cdv A outer s H vs Q E hr h => ?_)
 ·obtain ⟨_, _, _, _, _, _, rfl, _⟩ := h; rfl
 obtain ⟨v, w, x, rows, s, ms, rfl, hv, ok, hw, mv, okm, k⟩ := h
 refine QSs.ok (qss_consL (qsA 3 sc_Q30.nd qe_bl)
   (qss_consL (qs_tryD (R := (fun C dx H' => C = t.c_Q43 /\ Same H H' /\ (∃ d, dx = some d) /\ askM rows s ms ≠ none)) rfl rfl rfl rfl T.m_Q43 (fun _ => (qss_one (qsA 3 sc_Q30.nd (qe_call (ok_Q13 T) (hr.mono (by decide)) rfl T.m_Q13 T.F_Q13.kp T.b_Q13 .nil (passTD rfl) (qa_cons (qv 0) (qa_cons (qv 1) (qa_cons (qv 2) qa_nil star_name) star_name) star_name)))))
   (fun _ => (qss_one (qsA 3 sc_Q30.nd qe_bl))))
   (qss_one (qs_ret (qv 3))))) ?_
 extract_lets +lift
 try dsimp -zeta -zetaDelta only [Cx.nox, Cx.wish, cxOf]
 refine ⟨⟨_, rfl, _, rfl, _, rfl, v, w, x, rows, s, ms, rfl, hv, ok, hw, mv, okm, fun nn H1 s1 => ⟨_, rfl, ?_⟩, fun z n e dd H1 s1 hd => ⟨_, rfl, rfl, s1, ⟨_, rfl⟩, by rw [e]; exact fun z => nomatch z⟩⟩, ?_⟩
 ·have := k _ s1
  rw [decide_eq_true nn] at this
  exact this
 rintro C dx H' ⟨rfl, s1, _, nn⟩
 refine ⟨T.x_catch, _, rfl, ?_⟩
 have := k _ s1
 rw [decide_eq_false nn] at this
 exact this
theorem ok_Q46 (T : Txt K mg t) : FnOk P w K mg base CX0 7 t.a_Q46 t.d_Q46 ["_law_script"] (sp_law K) := by
 refine T.F_Q46.ok sc_Q46 (fun vs H Q E h => ?_) (fun cdv A outer s H vs Q E hr h => ?_)
 ·obtain ⟨_, _, rfl, _⟩ := h; rfl
 obtain ⟨a, ns, rfl, hS, hlen, k⟩ := h
 refine QSs.ok (qss_consL (qsA 1 sc_Q46.nd (qcA (ok_Q23 T) hr T.m_Q23 T.F_Q23.kp T.b_Q23 (qa_cons (qv 0) qa_nil star_name)))
   (qss_consL (qs_for PassesOwn.never rfl (qi_range1 rfl T.z_range (qa_cons qe_int qa_nil star_con)) (qg_name (i := 2) sc_Q46.nd rfl (by first | exact Or.inl rfl | exact Or.inr rfl))
   (qss_consL (qsA 3 sc_Q46.nd (qcA (ok_Q29 T) hr T.m_Q29 T.F_Q29.kp T.b_Q29 (qa_cons (qv 1) qa_nil star_name)))
   (qss_consL (qsA 4 sc_Q46.nd (qcA (ok_Q11 T) hr T.m_Q11 T.F_Q11.kp T.b_Q11 (qa_cons (qv 3) (qa_cons (qcA (ok_Q9 T) hr T.m_Q9 T.F_Q9.kp T.b_Q9 (qa_cons (qv 1) (qa_cons (qv 3) qa_nil star_name) star_name)) qa_nil star_call) star_name)))
   (qss_one (qs_for PassesOwn.never rfl (qi_range1 rfl T.z_range (qa_cons qe_int qa_nil star_con)) (qg_name (i := 5) sc_Q46.nd rfl (by first | exact Or.inl rfl | exact Or.inr rfl))
   (qss_consL (qsA 6 sc_Q46.nd (qcA (ok_Q35 T) hr T.m_Q35 T.F_Q35.kp T.b_Q35 (qa_cons (qv 1) (qa_cons (qe_lcomp (N' := ["_law_row"]) (src := [none]) rfl (by exact (qi_tup (qe_ix ix_tup (qv 4) qe_int (fun _ _ => rfl)))) (fun _ _ _ _ _ => (by exact (by exact qg_name (i := 0) (by show List.Nodup (["_law_row"] : List Str); decide +kernel) (by exact rfl) (by first | exact Or.inl rfl | exact Or.inr rfl)))) (fun _ _ _ _ _ => qts_nil) (fun _ _ _ _ _ => (by exact (by exact (qe_ix (ix_tupK (K := K) (by exact rfl)) (by exact (qv 0)) qe_int (by exact fun _ _ => rfl))))) (by exact trivial) rfl (by decide +kernel) rfl (by decide +kernel) (by exact cells_of rfl trivial)) qa_nil star_lc) star_name)))
   (qss_consL (qsA 7 sc_Q46.nd (qcA (ok_Q34 T) hr T.m_Q34 T.F_Q34.kp T.b_Q34 (qa_cons (qe_lcomp (N' := ["_law_one", "_law_part_here"]) (src := [none, none]) rfl (by exact (qi_tup (qv 6))) (fun _ _ _ _ _ => (by exact (by exact qg_tupK (K := K) (n := 2) (by exact rfl) (by exact rfl) (by exact qgs_cons (by exact qg_name (i := 0) (by show List.Nodup (["_law_one", "_law_part_here"] : List Str); decide +kernel) (by exact rfl) (by first | exact Or.inl rfl | exact Or.inr rfl)) (by exact qgs_cons (by exact qg_name (i := 1) (by show List.Nodup (["_law_one", "_law_part_here"] : List Str); decide +kernel) (by exact rfl) (by first | exact Or.inl rfl | exact Or.inr rfl)) qgs_nil))))) (fun _ _ _ _ _ => qts_nil) (fun _ _ _ _ _ => (by exact (by exact (qe_call (ok_Q16 T) (by exact hr.mono (by decide)) (by exact rfl) T.m_Q16 T.F_Q16.kp T.b_Q16 (by exact .nil) (by exact pass0) (qa_cons (by exact (qv 0)) (qa_cons (by exact (qv 1)) qa_nil star_name) star_name))))) (by exact trivial) rfl (by decide +kernel) rfl (by decide +kernel) (by exact cells_of rfl trivial)) qa_nil star_lc)))
   (qss_consL (qsA 8 sc_Q46.nd (qcA (ok_Q7 T) hr T.m_Q7 T.F_Q7.kp T.b_Q7 (qa_cons (qv 4) (qa_cons (qv 6) qa_nil star_name) star_name)))
   (qss_consL (qsA 9 sc_Q46.nd (qcA (ok_Q21 T) hr T.m_Q21 T.F_Q21.kp T.b_Q21 (qa_cons (qv 4) (qa_cons (qv 7) qa_nil star_name) star_name)))
   (qss_consL (qs_if (qw_pt (qw_or (qt_val (qcA (ok_Q27 T) hr T.m_Q27 T.F_Q27.kp T.b_Q27 (qa_cons (qv 8) (qa_cons (qv 9) qa_nil star_name) star_name))) (qw_or1 (qt_val (qcA (ok_Q27 T) hr T.m_Q27 T.F_Q27.kp T.b_Q27 (qa_cons (qv 9) (qa_cons (qcA (ok_Q21 T) hr T.m_Q21 T.F_Q21.kp T.b_Q21 (qa_cons (qv 3) (qa_cons (qv 7) qa_nil star_name) star_name)) qa_nil star_call) star_name)))))) (qss_one (qs_ret qe_bl)) qss_nil)
   (qss_consL (qs_if (qt_cmpR op_ne (qe_cmpR (op_eqD hr) (qv 8) (qv 9) (nomark _)) (qcA (ok_Q4 T) hr T.m_Q4 T.F_Q4.kp T.b_Q4 (qa_cons (qv 4) (qa_cons (qv 6) qa_nil star_name) star_name)) (nomark _)) (qss_one (qs_ret qe_bl)) qss_nil)
   (qss_consL (qsA 10 sc_Q46.nd (qcA (ok_Q32 T) hr T.m_Q32 T.F_Q32.kp T.b_Q32 (qa_cons (qv 4) (qa_cons (qv 7) qa_nil star_name) star_name)))
   (qss_consL (qs_if (qw_pt (qw_or (qt_cmpR op_notB (qcA (ok_Q30 T) hr T.m_Q30 T.F_Q30.kp T.b_Q30 (qa_cons (qv 4) (qa_cons (qv 7) (qa_cons (qv 10) qa_nil star_name) star_name) star_name)) qe_bl (nomark _)) (qw_or1 (qt_cmpR (op_neD hr) (qcA (ok_Q7 T) hr T.m_Q7 T.F_Q7.kp T.b_Q7 (qa_cons (qv 4) (qa_cons (qv 10) qa_nil star_name) star_name)) (qv 9) (nomark _))))) (qss_one (qs_ret qe_bl)) qss_nil)
   (qss_one (qs_if (qw_pt (qw_and (qt_val (qcA (ok_Q30 T) hr T.m_Q30 T.F_Q30.kp T.b_Q30 (qa_cons (qv 4) (qa_cons (qv 7) (qa_cons (qv 6) qa_nil star_name) star_name) star_name))) (qw_and1 (qt_cmpR (op_neD hr) (qv 8) (qv 9) (nomark _))))) (qss_one (qs_ret qe_bl)) qss_nil)))))))))))))))
   (qss_one (qs_ret qe_bl)))) ?_
 extract_lets +lift
 try dsimp -zeta -zetaDelta only [Cx.nox, Cx.wish, cxOf]
 refine ⟨_, rfl, a, ns, rfl, hS, fun t₁ s₀ H0 s0 _ _ T0 => ?_⟩
 refine ⟨4, rfl, by decide, by decide, for_range (lo := 0) (n := 4) (fun i σ H' => ∃ (x2 x3 x4 x5 x6 x7 x8 x9 x10 : Option V), σ = [some (.ref a), some (.ref t₁), x2, x3, x4, x5, x6, x7, x8, x9, x10] /\ Tape H' t₁ s₀) ⟨none, none, none, none, none, none, none, none, none, rfl, T0⟩ ?_ ?_⟩
 rotate_left
 ·rintro σ H1 ⟨x2, x3, x4, x5, x6, x7, x8, x9, x10, rfl, T1⟩
  exact k H1
 rintro i₀ σ H1 hi₀ ⟨x2, x3, x4, x5, x6, x7, x8, x9, x10, rfl, T1⟩
 refine ⟨_, rfl, t₁, s₀, rfl, T1, fun v rl H2 ok oc S2 T2 hv => ?_⟩
 refine ⟨_, rfl, _, rfl, _, rfl, t₁, s₀, v, rl, rfl, T2, hv, ok, fun az ys zs H3 fs S3 T3 hz alz => ?_⟩
 have hv3 := hv.mono (Tst.step (K := K) S3)
 refine ⟨v, az, ys, rl, zs, rfl, hv3, ok, hz, alz, fs, fun vt H4 s4 tv => ?_⟩
 have hv4 := hv3.mono (Tst.same s4)
 have T4 := T3.same s4
 have rg := few_g ok fs
 have rc := few_cvx ok oc fs
 have rp := few_pw ok fs
 have rr := few_row ok fs
 clear hv3 hv alz hz S3 S2 T3 T2 T1 s4
 have key := fun (s : R) (hs : SpdOk s) (hb : Below (.tab (fewM rl zs)) s) => (⟨few_below ok fs hs hb, few_chord ok oc fs hs hb⟩ : Below rl s /\ val (powM rl s) ≤ val (powT (fewM rl zs) s))
 generalize fewM rl zs = rows at tv rg rc rp rr key
 refine ⟨4, rfl, by decide, by decide, for_range (lo := 0) (n := 4) (fun i σ H' => ∃ (y5 y6 y7 y8 y9 y10 : Option V), σ = [some (.ref a), some (.ref t₁), some (.int (0 + (i₀ : Int))), some v, some vt, y5, y6, y7, y8, y9, y10] /\ Tape H' t₁ s₀ /\ TabV K H' vt rows /\ RlV K H' v rl) ⟨x5, x6, x7, x8, x9, x10, rfl, T4, tv, hv4⟩ ?_ ?_⟩
 rotate_left
 ·rintro σ H5 ⟨y5, y6, y7, y8, y9, y10, rfl, T5, _, _⟩
  exact ⟨_, _, _, _, _, _, _, _, _, rfl, T5⟩
 rintro j σ H5 hj ⟨y5, y6, y7, y8, y9, y10, rfl, T5, tv5, hv5⟩
 clear tv hv4 T4
 obtain ⟨p, q, ob, xs, rfl, hSp, hq, hob, al⟩ := id tv5
 have hqT : SqT K H5 q xs := .inl (.inr ⟨ob, hq⟩)
 have n12 := rg.n12
 have n2 := rg.n2
 have hlx : xs.length = rows.length := al.len
 refine ⟨_, rfl, _, rfl, p, _, _, _, rfl, rfl, hSp, rfl, q, rfl, ⟨_, hqT⟩, fun D hD => comp_mapT (K := K) (a := q) (xs := xs) (ds := rows) (P := RV K) (f := fun r => r.1) (fun _ _ _ _ t z => z.mono t) hD hqT al.len (by omega) (fun i x d H' hx hd sm Rk E kR => ?_) fun H6 vs s6 hD6 al6 => ?_⟩
 ·obtain ⟨d', hd', rv⟩ := al.at hx
  rw [hd] at hd'
  cases hd'
  obtain ⟨pa, x1, y1, ex, hSr, hx1, hy1⟩ := rv.mono (Tst.same sm)
  exact ⟨Ext.set rfl, _, rfl, pa, _, _, _, ex, rfl, hSr, rfl, kR _ _ (Same.refl _) hx1⟩
 have T6 := T5.same s6
 have ntD : D ≠ t₁ := fun z => by subst z; obtain ⟨_, e⟩ := T5.lst; rw [hD] at e; cases e
 have nsD : D ≠ s₀ := fun z => by subst z; obtain ⟨_, e⟩ := T5.scr; rw [hD] at e; cases e
 have tv6 := tv5.mono (TT.same (K := K) s6)
 have hv6 := hv5.mono (Tst.same s6)
 refine ⟨t₁, s₀, D, vs, rows.map (fun r : R × R => r.1), rfl, T6, ntD, nsD, hD6, al6, by rw [List.length_map]; omega, by rw [List.length_map]; omega, fun vm zm ss H7 sub sh lzs S7 T7 hm => ?_⟩
 have tv7 := tv6.mono (TT.step (K := K) S7)
 have hv7 := hv6.mono (Tst.step (K := K) S7)
 have hz : ∀ z ∈ zm, HasR rows z := fun z h => by
  obtain ⟨r, mr, e⟩ := List.mem_map.mp (sub.subset h)
  exact ⟨r, mr, e⟩
 have ri : zm.Pairwise fun a b => lessR a b = true := List.Pairwise.sublist sub (List.pairwise_map.mpr rg.inc)
 obtain ⟨mx, ml, mb, hs, mt⟩ := shM_ok hz ri sh lzs fun r hr => ⟨(rr r hr).2.1, (rr r hr).2.2.1⟩
 obtain ⟨d1, d2⟩ := shD_lt sh
 clear al6 hD6 hD T6 tv6 hv6 s6 al hq hqT hSp hob tv5 hv5 T5 S7 sub ri hz
 generalize shM zm ss = ms at hm mx ml mb hs mt
 generalize shD ss = DD at mb mt d1 d2
 have pb : PtB ms DD := ⟨d1, Nat.le_of_lt (Nat.lt_of_lt_of_le d2 (Nat.pow_le_pow_right (by decide) (by decide))), mb⟩
 have okm := ms_ok mx (fun r hr => (rr r hr).2.1) ml pb
 obtain ⟨pm, us, rfl, hSm, alm⟩ := id hm
 have lm : us.length = ms.length := alm.len
 refine ⟨_, rfl, pm, rfl, ⟨_, hSm⟩, fun D8 hD8 => comp_mapT (K := K) (a := pm) (xs := us) (ds := ms) (P := RV K) (f := fun m => timesR m.1 m.2) (fun _ _ _ _ t z => z.mono t) hD8 hSm lm (by omega) (fun i x m H' hx hm' sm Rk E kR => ?_) fun H8 us8 s8 hD8' al8 => ?_⟩
 ·obtain ⟨m', hm2, rkm⟩ := alm.at hx
  rw [hm'] at hm2
  cases hm2
  have mm := List.mem_of_getElem? hm'
  obtain ⟨pr, xr, yr, exr, hSr, hxr, hyr⟩ := rkm.mono (Tst.same sm)
  refine ⟨pr, _, exr, hSr, rfl, _, _, rfl, _, _, rfl, rfl, Ext.set' (Ext.set rfl) rfl, ?_⟩
  refine ⟨_, rfl, _, rfl, xr, yr, m.1, m.2, 102, 701, rfl, hxr, hyr, bq_102 (okm.sp m mm), okm.pt m mm, by decide, fun p9 g9 => ?_⟩
  have m9 := same_new g9 (.tup [.int (timesR m.1 m.2).1, .int (timesR m.1 m.2).2])
  exact kR _ _ m9 (rv_new (K := K) m9)
 have DDl : D0 * 12 * DD < 2 ^ 240 := Nat.lt_of_lt_of_le (Nat.mul_lt_mul_of_pos_left d2 (by decide)) (by decide)
 refine ⟨D8, us8, ms.map (fun m => timesR m.1 m.2), D0 * 12 * DD, NR, 300, rfl, SqL.of hD8', al8, (fun r hr => by obtain ⟨m, hm', rfl⟩ := List.mem_map.mp hr; exact mt m hm'), Nat.mul_pos (by decide) d1, Nat.lt_of_lt_of_le DDl (Nat.pow_le_pow_right (by decide) (by decide)), Nat.lt_of_lt_of_le (Nat.mul_lt_mul_of_pos_left DDl (by decide)) (by decide), by rw [List.length_map]; omega, by decide, fun vs9 H9 s9 hs9 => ?_⟩
 have s79 := s8.trans s9
 have T9 := T7.same s79
 have tv9 := tv7.mono (TT.same (K := K) s79)
 have hv9 := hv7.mono (Tst.same s79)
 have hm9 := hm.mono (Tst.same s79)
 have hb := mx_below rg mx hs
 have jen := jensen rg rc mx hs hb
 have stq := str_iff rg rc mx hs hb
 have nearP := fun hf => near_pow rg rc mx hs hb hf
 obtain ⟨mr1, mr2⟩ := mix_val rg mx
 have tw := powT_wf rg hs hb
 obtain ⟨kb, kc⟩ := key _ hs hb
 have pws := pow_wfS ok hs kb
 have mwf := mx_wf rp mx.has ml d1 d2 mb
 obtain ⟨tx, tf, tl, TD, tpb⟩ := mixM_ok rg hs hb
 have tn := ask_none rg tx (wred hs.wf) tf
 have tp := near_pow rg rc tx hs hb tf
 obtain ⟨tr1, tr2⟩ := mix_val rg tx
 have okt := ms_ok tx (fun r hr => (rr r hr).2.1) tl tpb
 clear s8 s9 s79 hD8' al8 hD8 mt DDl hm hSm alm lm T7 tv7 hv7
 generalize sumR (ms.map fun m => timesR m.1 m.2) = sp at mx hs hs9 hb jen stq nearP tw kb kc pws tx tf tl tpb tn tp tr1 tr2 okt
 have teq : sumR (mixS rows (mixM rows sp)) = powT rows sp := val_inj tr1 (wred tw) (by rw [tr2, tp])
 refine ⟨_, rfl, _, rfl, .ref p, .ref pm, rows, ms, DD, rfl, tv9.rl, rg, rp, hm9, ml, mx.has, pb, fun vpw HA sA hpw => ?_⟩
 have tvA := tv9.mono (TT.same (K := K) sA)
 refine ⟨_, rfl, _, rfl, .ref p, vs9, .tab rows, sp, rfl, tvA.rl, rg, hs9.mono (Tst.same sA), hs, hb, fun vl HB sB hle => ?_⟩
 have hle' : RV K HB vl (powT rows sp) := hle
 clear hle
 have sAB := sA.trans sB
 have hpwB := hpw.mono (Tst.same sB)
 refine ⟨_, rfl, _, rfl, vpw, vl, sumR (mixS rows ms), powT rows sp, 610, 2450, rfl, hpwB, hle', mwf, tw, by decide, ?_⟩
 have c1 : lessR (sumR (mixS rows ms)) (powT rows sp) = false := (val_not mwf.pos tw.pos).mpr (by rw [mr2]; exact jen)
 refine ⟨_, rfl, ?_⟩
 rw [c1]
 refine iteF ?_
 refine ⟨_, rfl, _, rfl, _, rfl, v, vs9, rl, sp, rfl, hv9.mono (Tst.same sAB), RlS.g ok, hs9.mono (Tst.same sAB), hs, kb, fun vr HC sC hr' => ?_⟩
 refine ⟨vl, vr, powT rows sp, powM rl sp, 2450, 1300, rfl, hle'.mono (Tst.same sC), hr', tw, pws, by decide, _, rfl, ?_⟩
 have c2 : lessR (powT rows sp) (powM rl sp) = false := (val_not tw.pos pws.pos).mpr kc
 rw [c2]
 refine iteF ?_
 have s9C := sAB.trans sC
 have tC := Tst.same (K := K) s9C
 have tvC := tv9.mono (TT.same (K := K) s9C)
 have hleC := hle'.mono (Tst.same sC)
 have hpwC := hpwB.mono (Tst.same sC)
 have hmC := hm9.mono tC
 have hsC := hs9.mono tC
 have hvC := hv9.mono tC
 have TC := T9.same s9C
 clear hr' hle' hpwB hpw sAB sA sB sC tvA tv9 hm9 hs9 hv9 T9 s9C tC
 refine ⟨_, rfl, _, rfl, dR (sumR (mixS rows ms)), dR (powT rows sp), hpwC.deep, hleC.deep, dR_lay _, dR_lay _, dR_depth _, ?_⟩
 rw [eqv_iff]
 refine ⟨_, rfl, _, rfl, .ref p, .ref pm, rows, ms, sp, rfl, tvC, rg, hmC, mx, ml, fun HD sD => ?_⟩
 have c3 : decide (sumR (mixS rows ms) = powT rows sp) = strM rows ms := by
  cases z : strM rows ms with
  | true => exact decide_eq_true (val_inj mr1 (wred tw) (by rw [mr2]; exact stq.mpr z))
  | false =>
   refine decide_eq_false fun e => ?_
   have e2 : mxQ rows ms = val (powT rows sp) := by rw [← mr2, e]
   have := stq.mp e2
   rw [z] at this
   cases this
 rw [c3]
 refine ⟨rfl, _, rfl, iteNS rfl ?_⟩
 have tvD := tvC.mono (TT.same (K := K) sD)
 have tD := Tst.same (K := K) sD
 refine ⟨_, rfl, _, rfl, .ref p, vs9, rows, sp, rfl, tvD.rl, rg, hsC.mono tD, hs, hb, fun vo HE sE hto => ?_⟩
 have sDE := sD.trans sE
 have tE := Tst.same (K := K) sDE
 have tvE := tvC.mono (TT.same (K := K) sDE)
 refine ⟨_, rfl, _, rfl, _, rfl, .ref p, vs9, vo, rows, sp, _, rfl, tvE.rl, rg, hsC.mono tE, hto, okt, fun HF sF => ?_⟩
 rw [decide_eq_true tn]
 refine ⟨_, _, rfl, rfl, ?_⟩
 refine ⟨_, rfl, iteF ?_⟩
 have sDF := sDE.trans sF
 have tF := Tst.same (K := K) sDF
 have tvF := tvC.mono (TT.same (K := K) sDF)
 refine ⟨_, rfl, _, rfl, .ref p, vo, rows, _, TD, rfl, tvF.rl, rg, rp, hto.mono (Tst.same sF), tl, tx.has, tpb, fun vq HG sG hq' => ?_⟩
 rw [teq] at hq'
 have sDG := sDF.trans sG
 have tG := Tst.same (K := K) sDG
 refine ⟨_, rfl, dR (powT rows sp), dR (powT rows sp), hq'.deep, (hleC.mono tG).deep, dR_lay _, dR_lay _, dR_depth _, _, rfl, ?_⟩
 rw [eqv_same]
 refine iteF ?_
 have tvG := tvC.mono (TT.same (K := K) sDG)
 refine ⟨_, rfl, _, rfl, _, rfl, .ref p, vs9, .ref pm, rows, sp, ms, rfl, tvG.rl, rg, hsC.mono tG, hmC.mono tG, okm, fun HI sI => ⟨_, rfl, ?_⟩⟩
 have sDI := sDG.trans sI
 have tI := Tst.same (K := K) sDI
 have hpwI := hpwC.mono tI
 have hleI := hleC.mono tI
 have tvI := tvC.mono (TT.same (K := K) sDI)
 have hvI := hvC.mono tI
 have TI := TC.same sDI
 by_cases ca : askM rows sp ms = none
 rotate_left
 ·rw [decide_eq_false ca]
  exact iteF (iteF ⟨_, _, _, _, _, _, rfl, TI, tvI, hvI⟩)
 rw [decide_eq_true ca]
 refine iteT ?_
 have pe : sumR (mixS rows ms) = powT rows sp := val_inj mr1 (wred tw) (by rw [mr2]; exact nearP (ask_near ca))
 refine ⟨_, rfl, _, rfl, dR (sumR (mixS rows ms)), dR (powT rows sp), hpwI.deep, hleI.deep, dR_lay _, dR_lay _, dR_depth _, _, rfl, ?_⟩
 rw [pe, eqv_same]
 exact iteF ⟨_, _, _, _, _, _, rfl, TI, tvI, hvI⟩
end
set_option autoImplicit true in
set_option relaxedAutoImplicit true in
open PySem.W in
theorem all_mk {l : OpenLaw} {w : World} {K : Frag} {h : Heap} {mg : Str -> Option Value} {fa : Addr} (X : K.In h) (G : h.Ns mainGlobals mg) (hfa : mg "law" = some (.ref fa))
  {f_Q18 : Addr} {d_Q18 : FuncData} (h_is_whole : IsF K "is_whole" s_Q18 f_Q18 d_Q18)
  {f_Q5 : Addr} {d_Q5 : FuncData} (h_is_tuple_of : IsF K "is_tuple_of" s_Q5 f_Q5 d_Q5)
  {f_Q36 : Addr} {d_Q36 : FuncData} (h_copied : IsF K "copied" s_Q36 f_Q36 d_Q36)
  {f_Q0 : Addr} {d_Q0 : FuncData} (h_greatest_divisor : IsF K "greatest_divisor" s_Q0 f_Q0 d_Q0)
  {f_Q19 : Addr} {d_Q19 : FuncData} (h_is_ratio : IsF K "is_ratio" s_Q19 f_Q19 d_Q19)
  {f_Q1 : Addr} {d_Q1 : FuncData} (h_is_ratio_pair : IsF K "is_ratio_pair" s_Q1 f_Q1 d_Q1)
  {f_Q39 : Addr} {d_Q39 : FuncData} (h_ratio : IsF K "ratio" s_Q39 f_Q39 d_Q39)
  {f_Q44 : Addr} {d_Q44 : FuncData} (h_plus : IsF K "plus" s_Q44 f_Q44 d_Q44)
  {f_Q40 : Addr} {d_Q40 : FuncData} (h_minus : IsF K "minus" s_Q40 f_Q40 d_Q40)
  {f_Q41 : Addr} {d_Q41 : FuncData} (h_times : IsF K "times" s_Q41 f_Q41 d_Q41)
  {f_Q45 : Addr} {d_Q45 : FuncData} (h_over : IsF K "over" s_Q45 f_Q45 d_Q45)
  {f_Q37 : Addr} {d_Q37 : FuncData} (h_raised : IsF K "raised" s_Q37 f_Q37 d_Q37)
  {f_Q31 : Addr} {d_Q31 : FuncData} (h_is_less : IsF K "is_less" s_Q31 f_Q31 d_Q31)
  {f_Q42 : Addr} {d_Q42 : FuncData} (h_total : IsF K "total" s_Q42 f_Q42 d_Q42)
  {f_Q2 : Addr} {d_Q2 : FuncData} (h_slope_between : IsF K "slope_between" s_Q2 f_Q2 d_Q2)
  {f_Q38 : Addr} {d_Q38 : FuncData} (h_top_of : IsF K "top_of" s_Q38 f_Q38 d_Q38)
  {f_Q10 : Addr} {d_Q10 : FuncData} (h_is_beyond : IsF K "is_beyond" s_Q10 f_Q10 d_Q10)
  {f_Q20 : Addr} {d_Q20 : FuncData} (h_place_of : IsF K "place_of" s_Q20 f_Q20 d_Q20)
  {f_Q21 : Addr} {d_Q21 : FuncData} (h_power_at : IsF K "power_at" s_Q21 f_Q21 d_Q21)
  {f_Q11 : Addr} {d_Q11 : FuncData} (h_few_table : IsF K "few_table" s_Q11 f_Q11 d_Q11)
  {f_Q32 : Addr} {d_Q32 : FuncData} (h_mixture : IsF K "mixture" s_Q32 f_Q32 d_Q32)
  {f_Q6 : Addr} {d_Q6 : FuncData} (h_row_numbers : IsF K "row_numbers" s_Q6 f_Q6 d_Q6)
  {f_Q7 : Addr} {d_Q7 : FuncData} (h_mixed_power : IsF K "mixed_power" s_Q7 f_Q7 d_Q7)
  {f_Q3 : Addr} {d_Q3 : FuncData} (h_is_mix_shaped : IsF K "is_mix_shaped" s_Q3 f_Q3 d_Q3)
  {f_Q8 : Addr} {d_Q8 : FuncData} (h_ask_speeds : IsF K "ask_speeds" s_Q8 f_Q8 d_Q8)
  {f_Q12 : Addr} {d_Q12 : FuncData} (h_ask_parts : IsF K "ask_parts" s_Q12 f_Q12 d_Q12)
  {f_Q22 : Addr} {d_Q22 : FuncData} (h_are_near : IsF K "are_near" s_Q22 f_Q22 d_Q22)
  {f_Q13 : Addr} {d_Q13 : FuncData} (h_mix_asked : IsF K "mix_asked" s_Q13 f_Q13 d_Q13)
  {f_Q23 : Addr} {d_Q23 : FuncData} (h_law_tape : IsF K "_law_tape" s_Q23 f_Q23 d_Q23)
  {f_Q24 : Addr} {d_Q24 : FuncData} (h_law_draw : IsF K "_law_draw" s_Q24 f_Q24 d_Q24)
  {f_Q33 : Addr} {d_Q33 : FuncData} (h_law_gcd : IsF K "_law_gcd" s_Q33 f_Q33 d_Q33)
  {f_Q14 : Addr} {d_Q14 : FuncData} (h_law_ratio : IsF K "_law_ratio" s_Q14 f_Q14 d_Q14)
  {f_Q25 : Addr} {d_Q25 : FuncData} (h_law_plus : IsF K "_law_plus" s_Q25 f_Q25 d_Q25)
  {f_Q15 : Addr} {d_Q15 : FuncData} (h_law_minus : IsF K "_law_minus" s_Q15 f_Q15 d_Q15)
  {f_Q16 : Addr} {d_Q16 : FuncData} (h_law_times : IsF K "_law_times" s_Q16 f_Q16 d_Q16)
  {f_Q26 : Addr} {d_Q26 : FuncData} (h_law_over : IsF K "_law_over" s_Q26 f_Q26 d_Q26)
  {f_Q27 : Addr} {d_Q27 : FuncData} (h_law_less : IsF K "_law_less" s_Q27 f_Q27 d_Q27)
  {f_Q34 : Addr} {d_Q34 : FuncData} (h_law_sum : IsF K "_law_sum" s_Q34 f_Q34 d_Q34)
  {f_Q28 : Addr} {d_Q28 : FuncData} (h_law_part : IsF K "_law_part" s_Q28 f_Q28 d_Q28)
  {f_Q17 : Addr} {d_Q17 : FuncData} (h_law_table : IsF K "_law_table" s_Q17 f_Q17 d_Q17)
  {f_Q29 : Addr} {d_Q29 : FuncData} (h_law_rule : IsF K "_law_rule" s_Q29 f_Q29 d_Q29)
  {f_Q9 : Addr} {d_Q9 : FuncData} (h_law_speeds : IsF K "_law_speeds" s_Q9 f_Q9 d_Q9)
  {f_Q35 : Addr} {d_Q35 : FuncData} (h_law_mix : IsF K "_law_mix" s_Q35 f_Q35 d_Q35)
  {f_Q4 : Addr} {d_Q4 : FuncData} (h_law_straight : IsF K "_law_straight" s_Q4 f_Q4 d_Q4)
  {f_Q30 : Addr} {d_Q30 : FuncData} (h_law_lets : IsF K "_law_lets" s_Q30 f_Q30 d_Q30)
  {f_Q46 : Addr} {d_Q46 : FuncData} (h_law : IsF K "law" s_Q46 f_Q46 d_Q46)
  {f_NOUGHT : Addr} {od_NOUGHT : Option Addr} {sl_NOUGHT : Array (Option Value)} {tkNOUGHT0 tkNOUGHT1 : Tok} {n_NOUGHT : Nat} (p_NOUGHT : nsIn K mainGlobals "NOUGHT" = some (some (.ref f_NOUGHT))) (l_NOUGHT : K.lookup f_NOUGHT = some ⟨.type "tuple", od_NOUGHT, .seq #[.int (0) tkNOUGHT0, .int (1) tkNOUGHT1] n_NOUGHT, sl_NOUGHT⟩)
  {f_ONE : Addr} {od_ONE : Option Addr} {sl_ONE : Array (Option Value)} {tkONE0 tkONE1 : Tok} {n_ONE : Nat} (p_ONE : nsIn K mainGlobals "ONE" = some (some (.ref f_ONE))) (l_ONE : K.lookup f_ONE = some ⟨.type "tuple", od_ONE, .seq #[.int (1) tkONE0, .int (1) tkONE1] n_ONE, sl_ONE⟩)
  {tkPOWER : Tok} (p_POWER : nsIn K mainGlobals "POWER" = some (some (.str "power" tkPOWER)))
  {tkTABLE : Tok} (p_TABLE : nsIn K mainGlobals "TABLE" = some (some (.str "table" tkTABLE)))
  {cB NB : Addr} {nmB qB : Str} {bsB : List Value} {hdB : Bool} {snB : List Str} {suB : List Value} {abB : Bool} {coB : Option Bool} {ddB : Option Addr} {j0 j1 j2 j3 j5 : Option Value} {ocB : Value} {odB : Option Addr} {esB : Array DictEntry} {nB : Nat} {slB : Array (Option Value)}
  (pB : nsIn K mainGlobals "PaceError" = some (some (.ref cB))) (lB : K.lookup cB = some (excClassObj nmB qB cB NB bsB [.type "ValueError", .type "Exception", .type "BaseException", .type "object"] hdB snB suB abB coB ddB j0 j1 j2 j3 j5 "ValueError.__new__")) (lnB : K.lookup NB = some ⟨ocB, odB, .dict esB nB, slB⟩) (hsB : strKeysB esB = true) (hnB : (nsFind esB "__init__").isNone = true)
  (cgB : specialIn K (.builtin "object.__class__") "__get__" = some (some (.builtin "getset_descriptor.__get__"))) (ctB : takesIn K (.builtin "object.__class__") = some true)
  {c_Q43 N_Q43 i_Q43 : Addr} {nm_Q43 q_Q43 : Str} {bs_Q43 : List Value} {hd_Q43 : Bool} {sn_Q43 : List Str} {su_Q43 : List Value} {ab_Q43 : Bool} {co_Q43 : Option Bool} {dd_Q43 : Option Addr} {k0_Q43 k1_Q43 k2_Q43 k3_Q43 k5_Q43 : Option Value} {od_Q43 an_Q43 : Option Addr} {sl_Q43 : Array (Option Value)} {oc_Q43 kV_Q43 dc_Q43 pm_Q43 cd_Q43 ct_Q43 : Value}
  (p_Q43 : nsIn K mainGlobals "NoMix" = some (some (.ref c_Q43))) (lc_Q43 : K.lookup c_Q43 = some (excClassObj nm_Q43 q_Q43 c_Q43 N_Q43 bs_Q43 (.ref cB :: [.type "ValueError", .type "Exception", .type "BaseException", .type "object"]) hd_Q43 sn_Q43 su_Q43 ab_Q43 co_Q43 dd_Q43 k0_Q43 k1_Q43 k2_Q43 k3_Q43 k5_Q43 "ValueError.__new__")) (fi_Q43 : findIn K (.ref c_Q43) "__init__" = some (some (.ref i_Q43)))
  (l_Q43 : K.lookup i_Q43 = some ⟨oc_Q43, od_Q43, .func (fnOf "__init__" "NoMix.__init__" (defArgs s_Q43) (defBody s_Q43) (defScope s_Q43) .none kV_Q43 dc_Q43 pm_Q43 an_Q43 cd_Q43 ct_Q43), sl_Q43⟩) (cd_Q43_ : codeIn K cd_Q43 "NoMix.__init__" = true) (ki_Q43 : keepIn K (.ref i_Q43) = true) (ti_Q43 : typeIn K (.ref i_Q43) = some (.type "function")) (kc_Q43 : keepIn K (.ref c_Q43) = true)
  (hh_Q43 : hasDictIn K c_Q43 = true) (sa_Q43 : findIn K (.ref c_Q43) "__setattr__" = some (some (.builtin "object.__setattr__")))
  (na_Q43_word : findIn K (.ref c_Q43) "word" = some none) (na_Q43_number : findIn K (.ref c_Q43) "number" = some none) (ga_Q43 : findIn K (.ref c_Q43) "__getattribute__" = some (some (.builtin "BaseException.__getattribute__"))) (gn_Q43 : findIn K (.ref c_Q43) "__getattr__" = some none) (cl_Q43 : findIn K (.ref c_Q43) "__class__" = some (some (.builtin "object.__class__")))
  (w_x_catch : exmOne K (.ref c_Q43) (.ref c_Q43) = some true)
  (z_abs : nsIn K mainGlobals "abs" = some none)
  (z_all : nsIn K mainGlobals "all" = some none)
  (z_bool : nsIn K mainGlobals "bool" = some none)
  (z_dict : nsIn K mainGlobals "dict" = some none)
  (z_enumerate : nsIn K mainGlobals "enumerate" = some none)
  (z_int : nsIn K mainGlobals "int" = some none)
  (z_isinstance : nsIn K mainGlobals "isinstance" = some none)
  (z_len : nsIn K mainGlobals "len" = some none)
  (z_list : nsIn K mainGlobals "list" = some none)
  (z_range : nsIn K mainGlobals "range" = some none)
  (z_tuple : nsIn K mainGlobals "tuple" = some none)
  (z_zip : nsIn K mainGlobals "zip" = some none)
  : ∃ fd : FuncData, (∀ (s : Shared) (v : Value), BindsTo s fd ⟨[v], []⟩ [("_law_script", v)]) /\ ∀ base : Heap, K.In base -> base.Ns mainGlobals mg -> FnOk l.prog w K mg base CX0 7 fa fd ["_law_script"] (sp_law K) := by
 have e := hfa.symm.trans (mg_of X G h_law.p)
 cases e
 obtain ⟨_, _, _, _, _, _, _, _, _, rfl, _, _⟩ := h_law.F.ex
 have F_Q43 := fun_mk (st := s_Q43) l_Q43 cd_Q43_ ki_Q43
 have T : Txt K mg ⟨f_Q18, _, f_Q5, _, f_Q36, _, f_Q0, _, f_Q19, _, f_Q1, _, f_Q39, _, f_Q44, _, f_Q40, _, f_Q41, _, f_Q45, _, f_Q37, _, f_Q31, _, f_Q42, _, f_Q2, _, f_Q38, _, f_Q10, _, f_Q20, _, f_Q21, _, f_Q11, _, f_Q32, _, f_Q6, _, f_Q7, _, f_Q3, _, f_Q8, _, f_Q12, _, f_Q22, _, f_Q13, _, f_Q23, _, f_Q24, _, f_Q33, _, f_Q14, _, f_Q25, _, f_Q15, _, f_Q16, _, f_Q26, _, f_Q27, _, f_Q34, _, f_Q28, _, f_Q17, _, f_Q29, _, f_Q9, _, f_Q35, _, f_Q4, _, f_Q30, _, fa, _, f_NOUGHT, f_ONE, tkPOWER, tkTABLE, cB, c_Q43, i_Q43, _⟩ := {
  F_Q18 := h_is_whole.F, b_Q18 := h_is_whole.b1, m_Q18 := mg_of X G h_is_whole.p,
  F_Q5 := h_is_tuple_of.F, b_Q5 := h_is_tuple_of.b2, m_Q5 := mg_of X G h_is_tuple_of.p,
  F_Q36 := h_copied.F, b_Q36 := h_copied.b1, m_Q36 := mg_of X G h_copied.p,
  F_Q0 := h_greatest_divisor.F, b_Q0 := h_greatest_divisor.b2, m_Q0 := mg_of X G h_greatest_divisor.p,
  F_Q19 := h_is_ratio.F, b_Q19 := h_is_ratio.b1, m_Q19 := mg_of X G h_is_ratio.p,
  F_Q1 := h_is_ratio_pair.F, b_Q1 := h_is_ratio_pair.b1, m_Q1 := mg_of X G h_is_ratio_pair.p,
  F_Q39 := h_ratio.F, b_Q39 := h_ratio.b2, m_Q39 := mg_of X G h_ratio.p,
  F_Q44 := h_plus.F, b_Q44 := h_plus.b2, m_Q44 := mg_of X G h_plus.p,
  F_Q40 := h_minus.F, b_Q40 := h_minus.b2, m_Q40 := mg_of X G h_minus.p,
  F_Q41 := h_times.F, b_Q41 := h_times.b2, m_Q41 := mg_of X G h_times.p,
  F_Q45 := h_over.F, b_Q45 := h_over.b2, m_Q45 := mg_of X G h_over.p,
  F_Q37 := h_raised.F, b_Q37 := h_raised.b2, m_Q37 := mg_of X G h_raised.p,
  F_Q31 := h_is_less.F, b_Q31 := h_is_less.b2, m_Q31 := mg_of X G h_is_less.p,
  F_Q42 := h_total.F, b_Q42 := h_total.b1, m_Q42 := mg_of X G h_total.p,
  F_Q2 := h_slope_between.F, b_Q2 := h_slope_between.b2, m_Q2 := mg_of X G h_slope_between.p,
  F_Q38 := h_top_of.F, b_Q38 := h_top_of.b1, m_Q38 := mg_of X G h_top_of.p,
  F_Q10 := h_is_beyond.F, b_Q10 := h_is_beyond.b2, m_Q10 := mg_of X G h_is_beyond.p,
  F_Q20 := h_place_of.F, b_Q20 := h_place_of.b2, m_Q20 := mg_of X G h_place_of.p,
  F_Q21 := h_power_at.F, b_Q21 := h_power_at.b2, m_Q21 := mg_of X G h_power_at.p,
  F_Q11 := h_few_table.F, b_Q11 := h_few_table.b2, m_Q11 := mg_of X G h_few_table.p,
  F_Q32 := h_mixture.F, b_Q32 := h_mixture.b2, m_Q32 := mg_of X G h_mixture.p,
  F_Q6 := h_row_numbers.F, b_Q6 := h_row_numbers.b2, m_Q6 := mg_of X G h_row_numbers.p,
  F_Q7 := h_mixed_power.F, b_Q7 := h_mixed_power.b2, m_Q7 := mg_of X G h_mixed_power.p,
  F_Q3 := h_is_mix_shaped.F, b_Q3 := h_is_mix_shaped.b1, m_Q3 := mg_of X G h_is_mix_shaped.p,
  F_Q8 := h_ask_speeds.F, b_Q8 := h_ask_speeds.b2, m_Q8 := mg_of X G h_ask_speeds.p,
  F_Q12 := h_ask_parts.F, b_Q12 := h_ask_parts.b1, m_Q12 := mg_of X G h_ask_parts.p,
  F_Q22 := h_are_near.F, b_Q22 := h_are_near.b2, m_Q22 := mg_of X G h_are_near.p,
  F_Q13 := h_mix_asked.F, b_Q13 := h_mix_asked.b3, m_Q13 := mg_of X G h_mix_asked.p,
  F_Q23 := h_law_tape.F, b_Q23 := h_law_tape.b1, m_Q23 := mg_of X G h_law_tape.p,
  F_Q24 := h_law_draw.F, b_Q24 := h_law_draw.b2, m_Q24 := mg_of X G h_law_draw.p,
  F_Q33 := h_law_gcd.F, b_Q33 := h_law_gcd.b2, m_Q33 := mg_of X G h_law_gcd.p,
  F_Q14 := h_law_ratio.F, b_Q14 := h_law_ratio.b2, m_Q14 := mg_of X G h_law_ratio.p,
  F_Q25 := h_law_plus.F, b_Q25 := h_law_plus.b2, m_Q25 := mg_of X G h_law_plus.p,
  F_Q15 := h_law_minus.F, b_Q15 := h_law_minus.b2, m_Q15 := mg_of X G h_law_minus.p,
  F_Q16 := h_law_times.F, b_Q16 := h_law_times.b2, m_Q16 := mg_of X G h_law_times.p,
  F_Q26 := h_law_over.F, b_Q26 := h_law_over.b2, m_Q26 := mg_of X G h_law_over.p,
  F_Q27 := h_law_less.F, b_Q27 := h_law_less.b2, m_Q27 := mg_of X G h_law_less.p,
  F_Q34 := h_law_sum.F, b_Q34 := h_law_sum.b1, m_Q34 := mg_of X G h_law_sum.p,
  F_Q28 := h_law_part.F, b_Q28 := h_law_part.b1, m_Q28 := mg_of X G h_law_part.p,
  F_Q17 := h_law_table.F, b_Q17 := h_law_table.b1, m_Q17 := mg_of X G h_law_table.p,
  F_Q29 := h_law_rule.F, b_Q29 := h_law_rule.b1, m_Q29 := mg_of X G h_law_rule.p,
  F_Q9 := h_law_speeds.F, b_Q9 := h_law_speeds.b2, m_Q9 := mg_of X G h_law_speeds.p,
  F_Q35 := h_law_mix.F, b_Q35 := h_law_mix.b2, m_Q35 := mg_of X G h_law_mix.p,
  F_Q4 := h_law_straight.F, b_Q4 := h_law_straight.b2, m_Q4 := mg_of X G h_law_straight.p,
  F_Q30 := h_law_lets.F, b_Q30 := h_law_lets.b3, m_Q30 := mg_of X G h_law_lets.p,
  F_Q46 := h_law.F, b_Q46 := h_law.b1, m_Q46 := mg_of X G h_law.p,
  m_NOUGHT := mg_of X G p_NOUGHT, q_NOUGHT := fun H => .inr ⟨_, _, _, l_NOUGHT, rfl, rfl, zl2, (.cons ⟨_, rfl⟩ (.cons ⟨_, rfl⟩ .nil))⟩,
  m_ONE := mg_of X G p_ONE, q_ONE := fun H => .inr ⟨_, _, _, l_ONE, rfl, rfl, zl2, (.cons ⟨_, rfl⟩ (.cons ⟨_, rfl⟩ .nil))⟩,
  m_POWER := mg_of X G p_POWER,
  m_TABLE := mg_of X G p_TABLE,
  X_Q43 := xc_mk lc_Q43 lB lnB hsB hnB fi_Q43 ti_Q43 kc_Q43 hh_Q43 sa_Q43, F_Q43 := F_Q43, b_Q43 := bdA F_Q43, m_Q43 := mg_of X G p_Q43, n_Q43_word := na_Q43_word, n_Q43_number := na_Q43_number, g_Q43 := ⟨ga_Q43, gn_Q43, cl_Q43, cgB, ctB⟩,
  x_catch := w_x_catch,
  z_abs := mg_none_of X G z_abs, z_all := mg_none_of X G z_all, z_bool := mg_none_of X G z_bool, z_dict := mg_none_of X G z_dict, z_enumerate := mg_none_of X G z_enumerate, z_int := mg_none_of X G z_int, z_isinstance := mg_none_of X G z_isinstance, z_len := mg_none_of X G z_len, z_list := mg_none_of X G z_list, z_range := mg_none_of X G z_range, z_tuple := mg_none_of X G z_tuple, z_zip := mg_none_of X G z_zip }
 exact ⟨_, fun s v => .of_eq rfl, fun base _ _ => ok_Q46 T⟩
theorem walk {l : PySem.W.OpenLaw} {q : Program} {loose : List Str} {XP : (Str -> Option Value) -> Heap -> Prop} {YP : World -> Heap -> Prop} {d : DefRec} {K : Params -> Fg} (hn : l.most = some 63) (hdf : d.params.defaults = [])
  (hY : ∀ (w : World) (h : Heap), YP w h -> (K w.params).In h)
  (F : ∀ (w : World) (mg : Str -> Option Value) (fa : Addr) (h : Heap), (K w.params).In h -> h.Ns mainGlobals mg -> mg d.name = some (.ref fa) →
   ∃ fd : FuncData, (∀ (s : Shared) (u : Value), BindsTo s fd ⟨[u], []⟩ [("_law_script", u)]) /\ ∀ base : Heap, (K w.params).In base -> base.Ns mainGlobals mg -> FnOk l.prog w (K w.params) mg base CX0 7 fa fd ["_law_script"] (sp_law (K w.params))) :
  PySem.W.WalkO q loose XP YP l.row.toRowW d [] (fun f vs => PySem.call f vs) :=
 L2.walk_of (n := 63) (k := 7) (x := "_law_script") (CX := fun _ => CX0) (sp := fun w => sp_law (K w.params)) hn (by decide) hdf ⟨rfl, by decide, by decide, rfl⟩ hY F (fun _ _ a ns hl _ hS => ⟨a, ns, rfl, hS, hl, fun _ => rfl⟩) fun _ _ _ _ _ z => z
end My
open PySem PySem.W PyProof.Rows
set_option maxRecDepth 100000 in
set_option maxHeartbeats 0 in
theorem PySem.Challenge.cw_paceplan_k16_whole_no_mixture_has_less_holds : PySem.Challenge.rw_paceplan_k16_whole_no_mixture_has_less.Holds := by
 w_on; refine HWtop ?_
 k_fill
 refine My.walk (l := PySem.Challenge.rw_paceplan_k16_whole_no_mixture_has_less) rfl rfl (fun w h Y => PySem.W.kIn_of Y) ?F
 case F =>
  intro w mg fa h KX G hmg
  refine' My.all_mk KX G hmg ?h_is_whole ?h_is_tuple_of ?h_copied ?h_greatest_divisor ?h_is_ratio ?h_is_ratio_pair ?h_ratio ?h_plus ?h_minus ?h_times ?h_over ?h_raised ?h_is_less ?h_total ?h_slope_between ?h_top_of ?h_is_beyond ?h_place_of ?h_power_at ?h_few_table ?h_mixture ?h_row_numbers ?h_mixed_power ?h_is_mix_shaped ?h_ask_speeds ?h_ask_parts ?h_are_near ?h_mix_asked ?h_law_tape ?h_law_draw ?h_law_gcd ?h_law_ratio ?h_law_plus ?h_law_minus ?h_law_times ?h_law_over ?h_law_less ?h_law_sum ?h_law_part ?h_law_table ?h_law_rule ?h_law_speeds ?h_law_mix ?h_law_straight ?h_law_lets ?h_law ?p_NOUGHT ?l_NOUGHT ?p_ONE ?l_ONE ?p_POWER ?p_TABLE ?pB ?lB ?lnB ?hsB ?hnB ?cgB ?ctB ?p_Q43 ?lc_Q43 ?fi_Q43 ?l_Q43 ?cd_Q43_ ?ki_Q43 ?ti_Q43 ?kc_Q43 ?hh_Q43 ?sa_Q43 ?na_Q43_word ?na_Q43_number ?ga_Q43 ?gn_Q43 ?cl_Q43 ?w_x_catch ?z_abs ?z_all ?z_bool ?z_dict ?z_enumerate ?z_int ?z_isinstance ?z_len ?z_list ?z_range ?z_tuple ?z_zip
  (case h_is_whole => refine' B.isF ?a ?b ?c ?d; (case a => k_is); (case b => k_is); (case c => k_is); (case d => k_is))
  (case h_is_tuple_of => refine' B.isF ?a ?b ?c ?d; (case a => k_is); (case b => k_is); (case c => k_is); (case d => k_is))
  (case h_copied => refine' B.isF ?a ?b ?c ?d; (case a => k_is); (case b => k_is); (case c => k_is); (case d => k_is))
  (case h_greatest_divisor => refine' B.isF ?a ?b ?c ?d; (case a => k_is); (case b => k_is); (case c => k_is); (case d => k_is))
  (case h_is_ratio => refine' B.isF ?a ?b ?c ?d; (case a => k_is); (case b => k_is); (case c => k_is); (case d => k_is))
  (case h_is_ratio_pair => refine' B.isF ?a ?b ?c ?d; (case a => k_is); (case b => k_is); (case c => k_is); (case d => k_is))
  (case h_ratio => refine' B.isF ?a ?b ?c ?d; (case a => k_is); (case b => k_is); (case c => k_is); (case d => k_is))
  (case h_plus => refine' B.isF ?a ?b ?c ?d; (case a => k_is); (case b => k_is); (case c => k_is); (case d => k_is))
  (case h_minus => refine' B.isF ?a ?b ?c ?d; (case a => k_is); (case b => k_is); (case c => k_is); (case d => k_is))
  (case h_times => refine' B.isF ?a ?b ?c ?d; (case a => k_is); (case b => k_is); (case c => k_is); (case d => k_is))
  (case h_over => refine' B.isF ?a ?b ?c ?d; (case a => k_is); (case b => k_is); (case c => k_is); (case d => k_is))
  (case h_raised => refine' B.isF ?a ?b ?c ?d; (case a => k_is); (case b => k_is); (case c => k_is); (case d => k_is))
  (case h_is_less => refine' B.isF ?a ?b ?c ?d; (case a => k_is); (case b => k_is); (case c => k_is); (case d => k_is))
  (case h_total => refine' B.isF ?a ?b ?c ?d; (case a => k_is); (case b => k_is); (case c => k_is); (case d => k_is))
  (case h_slope_between => refine' B.isF ?a ?b ?c ?d; (case a => k_is); (case b => k_is); (case c => k_is); (case d => k_is))
  (case h_top_of => refine' B.isF ?a ?b ?c ?d; (case a => k_is); (case b => k_is); (case c => k_is); (case d => k_is))
  (case h_is_beyond => refine' B.isF ?a ?b ?c ?d; (case a => k_is); (case b => k_is); (case c => k_is); (case d => k_is))
  (case h_place_of => refine' B.isF ?a ?b ?c ?d; (case a => k_is); (case b => k_is); (case c => k_is); (case d => k_is))
  (case h_power_at => refine' B.isF ?a ?b ?c ?d; (case a => k_is); (case b => k_is); (case c => k_is); (case d => k_is))
  (case h_few_table => refine' B.isF ?a ?b ?c ?d; (case a => k_is); (case b => k_is); (case c => k_is); (case d => k_is))
  (case h_mixture => refine' B.isF ?a ?b ?c ?d; (case a => k_is); (case b => k_is); (case c => k_is); (case d => k_is))
  (case h_row_numbers => refine' B.isF ?a ?b ?c ?d; (case a => k_is); (case b => k_is); (case c => k_is); (case d => k_is))
  (case h_mixed_power => refine' B.isF ?a ?b ?c ?d; (case a => k_is); (case b => k_is); (case c => k_is); (case d => k_is))
  (case h_is_mix_shaped => refine' B.isF ?a ?b ?c ?d; (case a => k_is); (case b => k_is); (case c => k_is); (case d => k_is))
  (case h_ask_speeds => refine' B.isF ?a ?b ?c ?d; (case a => k_is); (case b => k_is); (case c => k_is); (case d => k_is))
  (case h_ask_parts => refine' B.isF ?a ?b ?c ?d; (case a => k_is); (case b => k_is); (case c => k_is); (case d => k_is))
  (case h_are_near => refine' B.isF ?a ?b ?c ?d; (case a => k_is); (case b => k_is); (case c => k_is); (case d => k_is))
  (case h_mix_asked => refine' B.isF ?a ?b ?c ?d; (case a => k_is); (case b => k_is); (case c => k_is); (case d => k_is))
  (case h_law_tape => refine' B.isF ?a ?b ?c ?d; (case a => k_is); (case b => k_is); (case c => k_is); (case d => k_is))
  (case h_law_draw => refine' B.isF ?a ?b ?c ?d; (case a => k_is); (case b => k_is); (case c => k_is); (case d => k_is))
  (case h_law_gcd => refine' B.isF ?a ?b ?c ?d; (case a => k_is); (case b => k_is); (case c => k_is); (case d => k_is))
  (case h_law_ratio => refine' B.isF ?a ?b ?c ?d; (case a => k_is); (case b => k_is); (case c => k_is); (case d => k_is))
  (case h_law_plus => refine' B.isF ?a ?b ?c ?d; (case a => k_is); (case b => k_is); (case c => k_is); (case d => k_is))
  (case h_law_minus => refine' B.isF ?a ?b ?c ?d; (case a => k_is); (case b => k_is); (case c => k_is); (case d => k_is))
  (case h_law_times => refine' B.isF ?a ?b ?c ?d; (case a => k_is); (case b => k_is); (case c => k_is); (case d => k_is))
  (case h_law_over => refine' B.isF ?a ?b ?c ?d; (case a => k_is); (case b => k_is); (case c => k_is); (case d => k_is))
  (case h_law_less => refine' B.isF ?a ?b ?c ?d; (case a => k_is); (case b => k_is); (case c => k_is); (case d => k_is))
  (case h_law_sum => refine' B.isF ?a ?b ?c ?d; (case a => k_is); (case b => k_is); (case c => k_is); (case d => k_is))
  (case h_law_part => refine' B.isF ?a ?b ?c ?d; (case a => k_is); (case b => k_is); (case c => k_is); (case d => k_is))
  (case h_law_table => refine' B.isF ?a ?b ?c ?d; (case a => k_is); (case b => k_is); (case c => k_is); (case d => k_is))
  (case h_law_rule => refine' B.isF ?a ?b ?c ?d; (case a => k_is); (case b => k_is); (case c => k_is); (case d => k_is))
  (case h_law_speeds => refine' B.isF ?a ?b ?c ?d; (case a => k_is); (case b => k_is); (case c => k_is); (case d => k_is))
  (case h_law_mix => refine' B.isF ?a ?b ?c ?d; (case a => k_is); (case b => k_is); (case c => k_is); (case d => k_is))
  (case h_law_straight => refine' B.isF ?a ?b ?c ?d; (case a => k_is); (case b => k_is); (case c => k_is); (case d => k_is))
  (case h_law_lets => refine' B.isF ?a ?b ?c ?d; (case a => k_is); (case b => k_is); (case c => k_is); (case d => k_is))
  (case h_law => refine' B.isF ?a ?b ?c ?d; (case a => k_is); (case b => k_is); (case c => k_is); (case d => k_is))
  (case p_NOUGHT => k_is)
  (case l_NOUGHT => k_is)
  (case p_ONE => k_is)
  (case l_ONE => k_is)
  (case p_POWER => k_is)
  (case p_TABLE => k_is)
  (case pB => k_is)
  (case lB => k_is)
  (case lnB => k_is)
  (case hsB => rfl)
  (case hnB => rfl)
  (case cgB => k_is)
  (case ctB => k_is)
  (case p_Q43 => k_is)
  (case lc_Q43 => k_is)
  (case fi_Q43 => k_is)
  (case l_Q43 => k_is)
  (case cd_Q43_ => k_is)
  (case ki_Q43 => k_is)
  (case ti_Q43 => k_is)
  (case kc_Q43 => k_is)
  (case hh_Q43 => k_is)
  (case sa_Q43 => k_is)
  (case na_Q43_word => k_is)
  (case na_Q43_number => k_is)
  (case ga_Q43 => k_is)
  (case gn_Q43 => k_is)
  (case cl_Q43 => k_is)
  (case w_x_catch => kts_exm)
  (case z_abs => k_is)
  (case z_all => k_is)
  (case z_bool => k_is)
  (case z_dict => k_is)
  (case z_enumerate => k_is)
  (case z_int => k_is)
  (case z_isinstance => k_is)
  (case z_len => k_is)
  (case z_list => k_is)
  (case z_range => k_is)
  (case z_tuple => k_is)
  (case z_zip => k_is)
