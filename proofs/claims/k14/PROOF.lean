import PyProof.Rows.All
import KE.RegKIsAll
import KE.RegKTryMore
import KE.KDictOf
import KE.KItem
import PySem.Challenge.RW_paceplan_k14_mixtures_told
set_option Elab.async false
set_option linter.all false
set_option maxRecDepth 100000
theorem opt_two {α β γ : Type} {o : Option α} {f : α -> β} {g : α -> γ} {a : β} {b : γ} (h1 : o.map f = some a) (h2 : o.map g = some b) : o.map (fun s => (f s, g s)) = some (a, b) := by
 cases o with
 | none => cases h1
 | some x => cases h1; cases h2; rfl
namespace HW
open PySem
def keep : List Nat := [1, 2, 4, 5, 6, 7, 8, 9, 10, 11, 12, 13, 15, 17, 18, 19, 21, 22, 23, 24, 25, 26, 27, 28, 29, 30, 31, 32, 33, 34, 35, 36, 37, 38]
def V : Program := PySem.W.view PySem.Challenge.pw_paceplan_k14_mixtures_told keep
end HW
section HWs
open PySem PySem.W PyProof.Rows
set_option maxHeartbeats 0 in
theorem HWa : ∀ w : World, (openEnds treeTable PySem.Challenge.rw_paceplan_k14_mixtures_told.row.prog w 2962).map (fun s => openSeen HW.V [] (importedModules PySem.Challenge.rw_paceplan_k14_mixtures_told.row.prog.main.body) (fun s => xlAt HW.V [] s && recOk PySem.Challenge.rw_paceplan_k14_mixtures_told.row.records s) true s) = some (openGood HW.V []) := by
 intro w
 delta openEnds fencedOpening topFrom
 rw [PySem.W.Fast.te14364793385576792824, PySem.W.Fast.te14082659384304107361, PySem.W.Fast.te10274390034422433532, PySem.W.Fast.te1435165496053646825, PySem.W.Fast.te14289696077712309145, PySem.W.Fast.te4187177175401517315]
 kernel_rfl
local macro_rules
 | `(tactic| o_head $H:term) => `(tactic| (
   refine holds_open (q := HW.V) (loose := []) (N := 2962)
    (Xt := fun s => xlAt HW.V [] s && recOk (RowW.records (OpenRow.toRowW (OpenLaw.row PySem.Challenge.rw_paceplan_k14_mixtures_told))) s)
    (XP := XL HW.V []) (Yf := Hook.obs $H) (Ya := Hook.val $H) (YP := Hook.says $H)
    ?hl (Hook.of $H) (Hook.keeps $H)
    (fun s e => xl_of s (Bool.and_eq_true_iff.mp e).1) XL.keeps
    (by rfl) (by rfl) (by rfl)
    (fun s e => recFacts_of (Bool.and_eq_true_iff.mp e).2) (by rfl) (by assumption) (by decide +kernel)
    ⟨rfl, rfl, rfl, rfl, rfl, by decide +kernel⟩ ?hw ?hc
   (case hl =>
    intro w
    refine opt_two (HWa w) ?_
    delta openEnds fencedOpening topFrom
    rw [PySem.W.Fast.te14364793385576792824, PySem.W.Fast.te14082659384304107361, PySem.W.Fast.te10274390034422433532, PySem.W.Fast.te1435165496053646825, PySem.W.Fast.te14289696077712309145]
    kernel_rfl)))
set_option maxHeartbeats 0 in
open_top HWtop for PySem.Challenge.rw_paceplan_k14_mixtures_told
end HWs
abbrev Fg := PySem.W.Frag
abbrev PLs := List (PySem.Addr × PySem.Obj)
abbrev VSP := PySem.Value -> PySem.Shared -> Prop
theorem zl1 : 1 ≤ PySem.sizeLine := by decide
theorem zl2 : 2 ≤ PySem.sizeLine := by decide
theorem zl4 : 4 ≤ PySem.sizeLine := by decide
theorem zl5 : 5 ≤ PySem.sizeLine := by decide
theorem zl7 : 7 ≤ PySem.sizeLine := by decide
theorem zl8 : 8 ≤ PySem.sizeLine := by decide
namespace L2
open PySem PySem.Spec PyProof.Rows
abbrev Key := Sum Int Str
def keyIs : Key -> Value -> Bool
 | .inl k, v => Value.isInt k v
 | .inr x, v => Value.isStrOf x v
def keyH (w : World) : Key -> Int
 | .inl k => hashInt k
 | .inr x => hashStr w x
theorem keyIs_shape : ∀ {k : Key} {v : Value}, keyIs k v = true -> (∃ i t, k = Sum.inl i /\ v = Value.int i t) ∨ (∃ x t, k = Sum.inr x /\ v = Value.str x t)
 | .inl i, v, h => by
  obtain ⟨t, e⟩ := Value.isInt_shape (k := i) (v := v) h
  exact .inl ⟨i, t, rfl, e⟩
 | .inr x, v, h => by
  obtain ⟨t, e⟩ := Value.isStrOf_shape (x := x) (v := v) h
  exact .inr ⟨x, t, rfl, e⟩
theorem keyIs_int (i : Int) (t : Tok) : keyIs (.inl i) (.int i t) = true := by simp [keyIs, Value.isInt]
theorem keyIs_str (x : Str) (t : Tok) : keyIs (.inr x) (.str x t) = true := by simp [keyIs, Value.isStrOf]
theorem key_ll (a b : Int) : decide ((Sum.inl a : Key) = Sum.inl b) = (a == b) := by
 by_cases e : a = b
 ·subst e; simp
 ·have h : ¬ (Sum.inl a : Key) = Sum.inl b := fun q => e (Sum.inl.inj q)
  rw [decide_eq_false h]
  exact (beq_eq_false_iff_ne.mpr e).symm
theorem key_rr (a b : Str) : decide ((Sum.inr a : Key) = Sum.inr b) = decide (a = b) := by
 by_cases e : a = b
 ·subst e; simp
 ·have h : ¬ (Sum.inr a : Key) = Sum.inr b := fun q => e (Sum.inr.inj q)
  rw [decide_eq_false h, decide_eq_false e]
theorem key_lr (a : Int) (b : Str) : decide ((Sum.inl a : Key) = Sum.inr b) = false := decide_eq_false (fun q => nomatch q)
theorem key_rl (a : Str) (b : Int) : decide ((Sum.inr a : Key) = Sum.inl b) = false := decide_eq_false (fun q => nomatch q)
def mixKind (prog : Program) (w : World) : PySem.KeyKind prog w Key where
 is := keyIs
 hash := keyH w
 inj := fun v a b ha hb => by
  rcases keyIs_shape ha with ⟨i, t, rfl, rfl⟩ | ⟨x, t, rfl, rfl⟩
  ·rcases keyIs_shape hb with ⟨j, u, rfl, e⟩ | ⟨y, u, rfl, e⟩
   ·injection e with e1 _; rw [e1]
   ·exact nomatch e
  ·rcases keyIs_shape hb with ⟨j, u, rfl, e⟩ | ⟨y, u, rfl, e⟩
   ·exact nomatch e
   ·injection e with e1 _; rw [e1]
 byValue := fun k v h => by
  rcases keyIs_shape h with ⟨i, t, rfl, rfl⟩ | ⟨x, t, rfl, rfl⟩ <;> rfl
 pyHash := fun hv h => by
  rcases keyIs_shape hv with ⟨i, t, rfl, rfl⟩ | ⟨x, t, rfl, rfl⟩
  ·exact wpAny_pyHash_int h
  ·exact wpAny_pyHash_str h
 eqBool := fun hu hv h => by
  rcases keyIs_shape hu with ⟨i, t, rfl, rfl⟩ | ⟨x, t, rfl, rfl⟩
  ·rcases keyIs_shape hv with ⟨j, u, rfl, rfl⟩ | ⟨y, u, rfl, rfl⟩
   ·rw [key_ll] at h; exact wpAny_eqBool_int h
   ·rw [key_lr] at h; exact SeqAt.EqAt.int_str i t y u _ _ _ _ h
  ·rcases keyIs_shape hv with ⟨j, u, rfl, rfl⟩ | ⟨y, u, rfl, rfl⟩
   ·rw [key_rl] at h; exact SeqAt.EqAt.str_int x t j u _ _ _ _ h
   ·rw [key_rr] at h; exact wpAny_eqBool_str h
 «strs» := fun k x t v h => by
  rcases keyIs_shape h with ⟨i, u, rfl, e⟩ | ⟨y, u, rfl, e⟩
  ·exact nomatch e
  ·injection e with e1 _
   subst e1
   cases v <;> rfl
theorem mixKind_int (prog : Program) (w : World) (i : Int) (t : Tok) : (mixKind prog w).is (.inl i) (.int i t) = true := keyIs_int i t
theorem mixKind_str (prog : Program) (w : World) (x : Str) (t : Tok) : (mixKind prog w).is (.inr x) (.str x t) = true := keyIs_str x t
end L2
namespace L2
open PySem PySem.Spec PyProof.Rows
inductive V where
 | non | bl (b : Bool) | int (i : Int) | str (x : Str) | byt (b : Array UInt8) | flt (b : UInt64) | ref (a : Addr) | ty (n : String)
 deriving DecidableEq
def RelV : V -> Value -> Prop
 | .non, u => u = Value.none
 | .bl b, u => u = Value.bool b
 | .int i, u => ∃ t, u = Value.int i t
 | .str x, u => ∃ t, u = Value.str x t
 | .byt b, u => ∃ t, u = Value.bytes b t
 | .flt b, u => ∃ t, u = Value.float b t
 | .ref a, u => u = Value.ref a
 | .ty n, u => u = Value.type n
abbrev Vals : List V -> List Value -> Prop := Paired RelV
theorem Vals.length {xs : List V} {us : List Value} (r : Vals xs us) : xs.length = us.length := Paired.length r
theorem Vals.get : ∀ {xs : List V} {us : List Value} {i : Nat} {x : V}, Vals xs us -> xs[i]? = some x -> ∃ u, us[i]? = some u /\ RelV x u
 | _, _, _, _, .nil, e => by simp at e
 | _, _, 0, _, .cons r _, e => by simp at e; subst e; exact ⟨_, rfl, r⟩
 | _, _, i + 1, x, .cons _ t, e => by
  obtain ⟨u, h1, h2⟩ := Vals.get (i := i) (x := x) t (by simpa using e)
  exact ⟨u, by simpa using h1, h2⟩
theorem Vals.set {x : V} {u : Value} (r : RelV x u) : ∀ {xs : List V} {us : List Value} (i : Nat), Vals xs us -> Vals (xs.set i x) (us.set i u)
 | _, _, _, .nil => .nil
 | _, _, 0, .cons _ t => .cons r t
 | _, _, i + 1, .cons q t => .cons q (Vals.set r i t)
theorem Vals.append : ∀ {xs ys : List V} {us ws : List Value}, Vals xs us -> Vals ys ws -> Vals (xs ++ ys) (us ++ ws)
 | _, _, _, _, .nil, s => s
 | _, _, _, _, .cons r t, s => .cons r (Vals.append t s)
theorem Vals.take : ∀ {xs : List V} {us : List Value} (n : Nat), Vals xs us -> Vals (xs.take n) (us.take n)
 | _, _, 0, _ => .nil
 | _, _, _ + 1, .nil => .nil
 | _, _, n + 1, .cons r t => .cons r (Vals.take n t)
theorem Vals.drop : ∀ {xs : List V} {us : List Value} (n : Nat), Vals xs us -> Vals (xs.drop n) (us.drop n)
 | _, _, 0, r => r
 | _, _, _ + 1, .nil => .nil
 | _, _, n + 1, .cons _ t => Vals.drop n t
def RelO : Option V -> Option Value -> Prop
 | some v, some u => RelV v u
 | none, none => True
 | _, _ => False
def KV {κ : Type} : List (κ × V) -> List (κ × Value) -> Prop := Paired fun (p : κ × V) (q : κ × Value) => p.1 = q.1 /\ RelV p.2 q.2
def kV : Key -> V
 | .inl i => .int i
 | .inr x => .str x
inductive HO where
 | lst (xs : List V)
 | tup (xs : List V)
 | dK (kvs : List (Key × V)) | dT (kvs : List (List Key × V))
 | set (S : Int -> Bool) (n : Nat)
 | ins (C dx : Addr) (fs : List (Str × V))
 | own (x : Addr)
 | xd (fs : List (Str × V))
 | met (f x : Addr)
 | rng (lo hi : Int)
 | frz (o : Obj) (u : HO)
 | tbl (ps : Array Value)
 | ext (φ : Heap -> Prop)
abbrev Hp := Addr -> Option HO
def upd (H : Hp) (a : Addr) (o : HO) : Hp := fun b => if b = a then some o else H b
theorem upd_same {H : Hp} {a : Addr} {o : HO} : upd H a o a = some o := by unfold upd; rw [if_pos rfl]
theorem upd_ne {H : Hp} {a b : Addr} {o : HO} (h : b ≠ a) : upd H a o b = H b := by unfold upd; rw [if_neg h]
theorem upd_upd {H : Hp} {a : Addr} {o u : HO} : upd (upd H a o) a u = upd H a u := by
 funext b; unfold upd; split <;> rfl
theorem ne_of {H : Hp} {a b : Addr} {o u : HO} (h : H a = some o) (h' : H b = some u) (d : o ≠ u) : a ≠ b := by
 intro e; subst e; rw [h] at h'; exact d (Option.some.inj h')
theorem ne_of_none {H : Hp} {a b : Addr} {o : HO} (h : H a = some o) (h' : H b = none) : a ≠ b := by
 intro e; subst e; rw [h] at h'; cases h'
section
variable (P : Program) (w : World)
def ObjOk (H : Hp) (h : Heap) (a : Addr) : HO -> Prop
 | .lst xs => xs.length ≤ sizeLine /\ ∃ (its : List Value) (n : Nat), Vals xs its /\ h.get? a = some { cls := .type "list", data := .seq its.toArray n }
 | .tup xs => xs.length ≤ sizeLine /\ ∃ its : List Value, Vals xs its /\ IsTup h a its.toArray
 | .dK kvs => kvs.length ≤ sizeLine /\ (a == sysModules) = false /\ ∃ vs, KV kvs vs /\ h.DictOf (mixKind P w) a vs
 | .dT kvs => kvs.length ≤ sizeLine /\ (a == sysModules) = false /\ ∃ xs : List (List Key × Addr × Value),
   Paired (fun (p : List Key × V) (q : List Key × Addr × Value) => p.1 = q.1 /\ H q.2.1 = some (.tup (p.1.map kV)) /\ RelV p.2 q.2.2) kvs xs ∧
   ∃ o es ep, h.get? a = some o /\ o.ExactDict /\ o.data = .dict es ep /\ es.toList = xs.map (entryOfKey (tupleKind (mixKind P w))) /\ (xs.map (·.1)).Nodup
 | .set S n => h.SetOf (intKind P w) a S n
 | .ins C dx fs => H dx = some (.own a) /\ fs.length ≤ 1000 /\ dx ≠ a /\ h.get? a = some (PySem.W.instObj C dx) ∧
   ∃ mA, h.Ns1 dx mA /\ (∀ f, RelO (fs.lookup f) (mA f)) /\ PySem.Within mA (fs.map (·.1))
 | .own _ => ∃ o, h.get? a = some o
 | .xd fs => ∃ mA, h.Ns1 a mA /\ ∀ f, RelO (fs.lookup f) (mA f)
 | .rng lo hi => ∃ t u v, h.get? a = some { cls := .type "range", data := .fields #[.int lo t, .int hi u, .int 1 v] }
 | .frz o u => h.get? a = some o /\ ObjOk H h a u
 | .tbl ps => h.get? a = some { cls := .none, data := .fields ps }
 | .met f x => h.get? a = some (PySem.W.methodObj (.ref f) (.ref x))
 | .ext φ => φ h /\ (∃ o, h.get? a = some o) /\ ∀ h1 h2 : Heap, φ h1 -> (∀ o, h1.get? a = some o -> h2.get? a = some o) -> φ h2
def HOk (H : Hp) (h : Heap) : Prop := ∀ a o, H a = some o -> ObjOk P w H h a o
end
section
variable {P : Program} {w : World} {H H' : Hp} {h h' : Heap} {a : Addr} {o : HO}
theorem ObjOk.lt (x : ObjOk P w H h a o) : a < h.objs.size := by
 cases o with
 | lst xs => obtain ⟨_, _, _, _, e⟩ := x; exact Heap.lt_size e
 | tup xs => obtain ⟨_, _, _, p⟩ := x; exact p.lt
 | dK kvs => obtain ⟨_, _, _, _, o, _, _, e, _⟩ := x; exact Heap.lt_size e
 | dT kvs => obtain ⟨_, _, _, _, o, _, _, e, _⟩ := x; exact Heap.lt_size e
 | set S n => obtain ⟨o, _, _, _, e, _⟩ := x; exact Heap.lt_size e
 | ins C dx fs => obtain ⟨_, _, _, e, _⟩ := x; exact Heap.lt_size e
 | own y => obtain ⟨_, e⟩ := x; exact Heap.lt_size e
 | xd fs => obtain ⟨_, ⟨_, _, _, e, _⟩, _⟩ := x; exact Heap.lt_size e
 | rng lo hi => obtain ⟨_, _, _, e⟩ := x; exact Heap.lt_size e
 | frz ob u => obtain ⟨e, _⟩ := x; exact Heap.lt_size e
 | tbl ps => exact Heap.lt_size (show h.get? a = some _ from x)
 | met f y => exact Heap.lt_size (show h.get? a = some _ from x)
 | ext φ => obtain ⟨_, ⟨_, e⟩, _⟩ := x; exact Heap.lt_size e
theorem Paired.mapP {α β : Type} {F G : α -> β -> Prop} : ∀ {l₁ : List α} {l₂ : List β}, Paired F l₁ l₂ -> (∀ a b, F a b -> G a b) -> Paired G l₁ l₂
 | _, _, .nil, _ => .nil
 | _, _, .cons r t, f => .cons (f _ _ r) (Paired.mapP t f)
theorem ObjOk.stay (x : ObjOk P w H h a o) (k : ∀ b u, (b = a ∨ H b = some (.own a)) -> h.get? b = some u -> h'.get? b = some u)
  (ho : ∀ b, H b = some (.own a) -> H' b = some (.own a)) (ht : ∀ b xs, H b = some (.tup xs) -> H' b = some (.tup xs)) : ObjOk P w H' h' a o := by
 induction o with
 | lst xs => obtain ⟨z, its, n, r, e⟩ := x; exact ⟨z, its, n, r, k _ _ (.inl rfl) e⟩
 | tup xs => obtain ⟨z, its, r, ob, e, c⟩ := x; exact ⟨z, its, r, ob, k _ _ (.inl rfl) e, c⟩
 | dK kvs => obtain ⟨z, y, vs, r, ob, es, ep, e, c⟩ := x; exact ⟨z, y, vs, r, ob, es, ep, k _ _ (.inl rfl) e, c⟩
 | dT kvs =>
  obtain ⟨z, y, xs, r, ob, es, ep, e, c⟩ := x
  exact ⟨z, y, xs, Paired.mapP r fun p q z => ⟨z.1, ht _ _ z.2.1, z.2.2⟩, ob, es, ep, k _ _ (.inl rfl) e, c⟩
 | set S n => obtain ⟨ob, es, ep, t, e, c⟩ := x; exact ⟨ob, es, ep, t, k _ _ (.inl rfl) e, c⟩
 | ins C dx fs =>
  obtain ⟨d, z, ne, e, mA, ⟨od, es, ep, e2, c⟩, r⟩ := x
  exact ⟨ho _ d, z, ne, k _ _ (.inl rfl) e, mA, ⟨od, es, ep, k _ _ (.inr d) e2, c⟩, r⟩
 | own y => obtain ⟨ob, e⟩ := x; exact ⟨ob, k _ _ (.inl rfl) e⟩
 | xd fs => obtain ⟨mA, ⟨od, es, ep, e, c⟩, r⟩ := x; exact ⟨mA, ⟨od, es, ep, k _ _ (.inl rfl) e, c⟩, r⟩
 | rng lo hi => obtain ⟨t, u, v, e⟩ := x; exact ⟨t, u, v, k _ _ (.inl rfl) e⟩
 | frz ob u ih => obtain ⟨e, q⟩ := x; exact ⟨k _ _ (.inl rfl) e, ih q⟩
 | tbl ps =>
  have e : h.get? a = some { cls := .none, data := .fields ps } := x
  show h'.get? a = some { cls := .none, data := .fields ps }
  exact k a _ (.inl rfl) e
 | met f y =>
  have e : h.get? a = some (PySem.W.methodObj (.ref f) (.ref y)) := x
  show h'.get? a = some (PySem.W.methodObj (.ref f) (.ref y))
  exact k a _ (.inl rfl) e
 | ext φ => obtain ⟨p, ⟨o, e⟩, st⟩ := x; exact ⟨st _ _ p fun o q => k _ _ (.inl rfl) q, ⟨o, k _ _ (.inl rfl) e⟩, st⟩
theorem HOk.lt (x : HOk P w H h) (e : H a = some o) : a < h.objs.size := (x a o e).lt
theorem HOk.fresh (x : HOk P w H h) (e : h.objs.size ≤ a) : H a = none := by
 cases q : H a with
 | none => rfl
 | some u => exact absurd (Nat.lt_of_lt_of_le (x.lt q) e) (Nat.lt_irrefl _)
theorem HOk.kept (x : HOk P w H h) (k : ∀ b u, h.get? b = some u -> h'.get? b = some u) : HOk P w H h' := fun a o e =>
 (x a o e).stay (fun b u _ q => k b u q) (fun _ q => q) fun _ _ q => q
theorem HOk.laid (x : HOk P w H h) (k : ∀ b u, h.get? b = some u -> h'.get? b = some u) (hp : h.objs.size ≤ a) (new : ObjOk P w (upd H a o) h' a o) : HOk P w (upd H a o) h' := fun b u e => by
 have hn := x.fresh hp
 by_cases hb : b = a
 ·subst hb; rw [upd_same] at e; cases e; exact new
 ·rw [upd_ne hb] at e
  exact (x b u e).stay (fun c v _ q => k c v q) (fun c q => by rw [upd_ne (ne_of_none q hn)]; exact q) fun c xs q => by rw [upd_ne (ne_of_none q hn)]; exact q
end
def Rd (H : Hp) (a : Addr) (u : HO) : Prop := H a = some u ∨ ∃ o, H a = some (.frz o u)
theorem Rd.ok {P : Program} {w : World} {H : Hp} {h : Heap} {a : Addr} {u : HO} (r : Rd H a u) (x : HOk P w H h) : ObjOk P w H h a u := by
 rcases r with r | ⟨o, r⟩
 ·exact x a u r
 ·obtain ⟨_, q⟩ := x a _ r
  exact q
def Mut : Option HO -> Prop
 | some (.lst _) => True
 | some (.dK _) => True
 | some (.dT _) => True
 | some (.set _ _) => True
 | some (.ins _ _ _) => True
 | some (.ext _) => True
 | _ => False
section
variable {P : Program} {w : World} {H : Hp} {h h' : Heap} {x e : Addr} {o' : HO}
theorem HOk.write (ok : HOk P w H h) (mu : Mut (H x)) (he : e = x ∨ H e = some (.own x)) (k : ∀ b u, b ≠ e -> h.get? b = some u -> h'.get? b = some u) (heo : ∃ u, h'.get? e = some u)
  (new : ObjOk P w (upd H x o') h' x o') : HOk P w (upd H x o') h' := fun b u q => by
 have nown : ∀ c y, H c = some (.own y) -> c ≠ x := fun c y r z => by subst z; rw [r] at mu; exact mu
 have ntup : ∀ c xs, H c = some (.tup xs) -> c ≠ x := fun c xs r z => by subst z; rw [r] at mu; exact mu
 by_cases hb : b = x
 ·subst hb; rw [upd_same] at q; cases q; exact new
 ·rw [upd_ne hb] at q
  by_cases hbe : b = e
  ·have q' : H b = some (.own x) := by
    rcases he with z | z
    ·exact absurd (hbe.trans z) hb
    ·rw [hbe]; exact z
   rw [q] at q'; cases q'
   obtain ⟨v, hv⟩ := heo
   exact ⟨v, by rw [hbe]; exact hv⟩
  ·refine (ok b u q).stay (fun c v hc r => k c v ?_ r) (fun c r => by rw [upd_ne (nown c b r)]; exact r) fun c xs r => by rw [upd_ne (ntup c xs r)]; exact r
   rcases hc with rfl | hc
   ·exact hbe
   ·rintro rfl
    rcases he with z | z
    ·exact nown c b hc z
    ·rw [hc] at z; cases z; exact hb rfl
end
structure Un (fs ex : List Addr) (H H' : Hp) (h h' : Heap) : Prop where
 keep : ∀ b o, h.get? b = some o -> H b = none -> b ∉ fs -> b ∉ ex -> h'.get? b = some o
 slot : ∀ b o, h.get? b = some o -> H b = none -> b ∈ fs -> b ∉ ex -> ∃ sl, h'.get? b = some { o with slots := sl }
 free : ∀ b o, h.get? b = some o -> H b = none -> b ∉ ex -> H' b = none
 there : ∀ b o, h.get? b = some o -> b ∉ ex -> ∃ o', h'.get? b = some o'
 tups : ∀ b xs, H b = some (.tup xs) -> H' b = some (.tup xs)
 frzs : ∀ b o u, H b = some (.frz o u) -> H' b = some (.frz o u)
 tbls : ∀ b ps, H b = some (.tbl ps) -> ∃ more, H' b = some (.tbl (ps ++ more))
section
variable {fs fs' ex ex' : List Addr} {H H1 H2 : Hp} {h h1 h2 h' : Heap} {a x e : Addr} {o : HO}
theorem Un.any (u : Un fs ex H H1 h h1) {b : Addr} {ob : Obj} (q : h.get? b = some ob) (n : H b = none) (hx : b ∉ ex) : ∃ sl, h1.get? b = some { ob with slots := sl } := by
 by_cases hb : b ∈ fs
 ·exact u.slot b ob q n hb hx
 ·exact ⟨ob.slots, u.keep b ob q n hb hx⟩
theorem Un.kept (k : ∀ b u, h.get? b = some u -> h'.get? b = some u) : Un fs ex H H h h' :=
 ⟨fun b ob q _ _ _ => k b ob q, fun b ob q _ _ _ => ⟨ob.slots, k b ob q⟩, fun _ _ _ n _ => n, fun b ob q _ => ⟨ob, k b ob q⟩, fun _ _ q => q, fun _ _ _ q => q, fun _ ps q => ⟨#[], by rw [q]; simp⟩⟩
theorem Un.refl : Un fs ex H H h h := Un.kept fun _ _ q => q
theorem Un.laid (k : ∀ b u, h.get? b = some u -> h'.get? b = some u) (hp : h.objs.size ≤ a) (hn : H a = none) : Un fs ex H (upd H a o) h h' where
 keep := fun b u q _ _ _ => k b u q
 slot := fun b u q _ _ _ => ⟨u.slots, k b u q⟩
 free := fun b u q n _ => by rw [upd_ne (Nat.ne_of_lt (Nat.lt_of_lt_of_le (Heap.lt_size q) hp))]; exact n
 there := fun b u q _ => ⟨u, k b u q⟩
 tups := fun b xs q => by rw [upd_ne (ne_of_none q hn)]; exact q
 frzs := fun b u xs q => by rw [upd_ne (ne_of_none q hn)]; exact q
 tbls := fun b ps q => ⟨#[], by rw [upd_ne (ne_of_none q hn), q]; simp⟩
theorem Un.write (mu : Mut (H x)) (he : e = x ∨ H e = some (.own x)) (k : ∀ b u, b ≠ e -> h.get? b = some u -> h'.get? b = some u) (heo : ∃ u, h'.get? e = some u) : Un fs ex H (upd H x o) h h' := by
 have hx : ∀ b, H b = none -> b ≠ x := fun b n z => by subst z; rw [n] at mu; exact mu
 have hb : ∀ b, H b = none -> b ≠ e := fun b n z => by
  subst z
  rcases he with r | r
  ·exact hx b n r
  ·rw [n] at r; cases r
 have hm : ∀ b u, H b = some u -> ¬ Mut (some u) -> b ≠ x := fun b u q nm z => by subst z; rw [q] at mu; exact nm mu
 refine ⟨fun b u q n _ _ => k b u (hb b n) q, fun b u q n _ _ => ⟨u.slots, k b u (hb b n) q⟩, fun b u q n _ => by rw [upd_ne (hx b n)]; exact n, fun b u q _ => ?_,
  fun b xs q => by rw [upd_ne (hm b _ q fun z => z)]; exact q, fun b u xs q => by rw [upd_ne (hm b _ q fun z => z)]; exact q, fun b ps q => ⟨#[], by rw [upd_ne (hm b _ q fun z => z), q]; simp⟩⟩
 by_cases hbe : b = e
 ·subst hbe; exact heo
 ·exact ⟨u, k b u hbe q⟩
end
def trk (h : Heap) (H : Hp) : List Addr := (List.range h.objs.size).filter fun a => (H a).isSome
def hidT (h : Heap) (H : Hp) : Heap := PySem.W.hideAll h (trk h H)
theorem hidT_size (h : Heap) (H : Hp) : (hidT h H).objs.size = h.objs.size := PySem.W.hideAll_size _ _
theorem hidT_get {h : Heap} {H : Hp} {b : Addr} {o : Obj} (e : h.get? b = some o) (n : H b = none) : (hidT h H).get? b = some o :=
 PySem.W.hideAll_get _ e fun hm => by
  have q : (H b).isSome = true := (List.mem_filter.mp hm).2
  rw [n] at q; simp at q
theorem of_hidT {h : Heap} {H : Hp} {b : Addr} {o : Obj} (e : (hidT h H).get? b = some o) : h.get? b = some o /\ H b = none := by
 have e' : h.get? b = some o := PySem.W.of_hideAll (trk h H) e
 refine ⟨e', ?_⟩
 cases q : H b with
 | none => rfl
 | some x =>
  have hm : b ∈ trk h H := List.mem_filter.mpr ⟨List.mem_range.mpr (Heap.lt_size e'), by simp [q]⟩
  have z : (hidT h H).get? b = none := PySem.W.hideAll_none (trk h H) hm
  rw [z] at e; cases e
def allNews (g h : Heap) (L : Addr) : PLs := (List.range h.objs.size).filterMap fun a => if a = L ∨ (g.get? a).isSome = true then none else (h.get? a).map fun o => (a, o)
def rest (g h : Heap) (L d : Addr) : PLs := (allNews g h L).filter fun p => decide (p.1 ≠ d)
end L2
namespace L2
open PySem PySem.Spec PyProof.Rows
structure Mod (K : Fg) (mg : Str -> Option Value) (base : Heap) : Prop where
 kin : K.In base
 glob : base.Ns mainGlobals mg
 blt : ∃ mb, base.Ns builtinsNs mb /\ ∀ x : Str, x ≠ "__name__" -> mb x = bootBuiltins x
 nolimit : base.NoLimit
structure Cx where
 prog : Program
 w : World
 K : Fg
 mg : Str -> Option Value
 base : Heap
 A : Around
 N : List Str
 s₀ : Shared
 H₀ : Hp
 env : Env
 outer : List Env
 stack : List Env
 ex : List Addr
 fn : Str -> Bool
 calm : Bool
 pn : PLs
 xe : VSP
def frs (l : List Env) : List Addr := l.filterMap (·.frame)
abbrev Cx.fs (X : Cx) : List Addr := frs X.outer
def Vis (sc : Scope) (x : Str) : Prop := sc.names.lookup x = some .local ∨ sc.names.lookup x = some .cell ∨ sc.names.lookup x = some .free
def Loc (sc : Scope) (x : Str) : Prop := sc.names.lookup x = some .local ∨ sc.names.lookup x = some .cell
def Look (env : Env) (h : Heap) (m : Str -> Option Value) (x : Str) (u : Value) : Prop :=
 (env.kindOf x = some .local /\ m x = some u) ∨ ((env.kindOf x = some .cell ∨ env.kindOf x = some .free) /\ ∃ c, env.cells.lookup x = some c /\ h.IsCell c (some u))
structure Cx.Ok (X : Cx) : Prop where
 mod : Mod X.K X.mg X.base
 kind : X.env.scope.kind = .function
 glob : X.env.globals = mainGlobals
 blt : X.env.builtins = builtinsNs
 above : X.s₀.heap.objs.size ≤ X.env.locals
 inj : ∀ x y c, X.env.cells.lookup x = some c -> X.env.cells.lookup y = some c -> x = y
 has : ∀ x, (X.env.kindOf x = some .cell ∨ X.env.kindOf x = some .free) -> ∃ c, X.env.cells.lookup x = some c
 cab : ∀ x c, X.fn x = true -> X.env.cells.lookup x = some c -> X.s₀.heap.objs.size ≤ c
 hd : X.calm = true -> X.A.handled = none
 frames : X.A.frames = some X.stack
 stk : X.stack = X.outer ∨ (X.stack = X.env :: X.outer /\ X.env.frame = some X.env.locals)
 exf : ∀ b ∈ X.ex, b ≠ X.env.locals /\ ∀ x c, X.env.cells.lookup x = some c -> c ≠ b
 bs : ∀ b o, X.base.get? b = some o -> X.s₀.heap.get? b = some o /\ X.H₀ b = none
 bsz : X.base.objs.size ≤ X.s₀.heap.objs.size
 noex : ∀ b o, X.base.get? b = some o -> b ∉ X.ex
 exfs : ∀ b ∈ X.ex, b ∉ X.fs
 funs : X.s₀.heap.FunFrames X.base X.outer
 frf : ∀ b ∈ X.fs, X.H₀ b = none
structure Inv (X : Cx) (pins : PLs) (σ : List (Option V)) (H : Hp) (s : Shared) : Prop where
 ok : X.Ok
 os : s.os = X.s₀.os
 bare : AllBare s.gens
 base : Un X.fs X.ex X.H₀ H X.s₀.heap s.heap
 loc : ∃ m, s.heap.Ns X.env.locals m /\ ∀ (i : Nat) (x : Str) (v : V), X.N[i]? = some x -> σ[i]? = some (some v) -> Vis X.env.scope x -> ∃ u, RelV v u /\ Look X.env s.heap m x u
 cell : ∀ x c, X.env.cells.lookup x = some c -> ∃ v, s.heap.IsCell c v
 free : H X.env.locals = none
 freeC : ∀ x c, X.env.cells.lookup x = some c -> H c = none
 pin : ∀ p ∈ X.pn ++ pins, s.heap.get? p.1 = some p.2 /\ H p.1 = none /\ p.1 ≠ X.env.locals /\ p.1 ∉ X.fs /\ ∀ v, p.2.data ≠ .cell v
 hok : HOk X.prog X.w H s.heap
 len : σ.length = X.N.length
section
variable {X : Cx} {pins : PLs} {σ : List (Option V)} {H H' : Hp} {s : Shared} {h' : Heap}
theorem Cx.Ok.nofr (ok : X.Ok) {b : Addr} {o : Obj} (e : X.base.get? b = some o) : b ∉ X.fs := fun hb => by
 have := (ok.funs.mem hb).1
 rw [e] at this; cases this
theorem Inv.bs (I : Inv X pins σ H s) : ∀ b o, X.base.get? b = some o -> s.heap.get? b = some o /\ H b = none := fun b o e =>
 ⟨I.base.keep b o (I.ok.bs b o e).1 (I.ok.bs b o e).2 (I.ok.nofr e) (I.ok.noex b o e), I.base.free b o (I.ok.bs b o e).1 (I.ok.bs b o e).2 (I.ok.noex b o e)⟩
theorem Inv.bk (I : Inv X pins σ H s) : ∀ b o, X.base.get? b = some o -> s.heap.get? b = some o := fun b o e => (I.bs b o e).1
theorem Inv.mod (I : Inv X pins σ H s) : Mod X.K X.mg X.base := I.ok.mod
theorem Inv.kIn (I : Inv X pins σ H s) : X.K.In s.heap := I.ok.mod.kin.keeps I.bk
theorem Inv.lt (I : Inv X pins σ H s) : X.env.locals < s.heap.objs.size := let ⟨_, hn, _⟩ := I.loc; hn.lt
theorem Inv.sz (I : Inv X pins σ H s) : X.s₀.heap.objs.size ≤ s.heap.objs.size := Nat.le_trans I.ok.above (Nat.le_of_lt I.lt)
theorem Inv.nofs (I : Inv X pins σ H s) {a : Addr} (h : s.heap.objs.size ≤ a) : a ∉ X.fs := fun hb => by
 obtain ⟨_, o, ho, _⟩ := I.ok.funs.mem hb
 exact absurd (Nat.lt_of_lt_of_le (Heap.lt_size ho) (Nat.le_trans I.sz h)) (Nat.lt_irrefl _)
theorem Inv.cne (I : Inv X pins σ H s) : ∀ x c, X.env.cells.lookup x = some c -> c ≠ X.env.locals := fun x c e z => by
 obtain ⟨v, o, ho, hd⟩ := I.cell x c e
 obtain ⟨m, ⟨o', es, ep, ho', hd', _⟩, _⟩ := I.loc
 rw [z, ho'] at ho; cases ho; rw [hd'] at hd; cases hd
theorem Inv.funs (I : Inv X pins σ H s) : s.heap.FunFrames X.base X.outer := by
 have all : ∀ (l : List Env), (∀ b ∈ frs l, b ∈ X.fs) -> X.s₀.heap.FunFrames X.base l -> s.heap.FunFrames X.base l := by
  intro l
  induction l with
  | nil => intro _ _; trivial
  | cons env r ih =>
   intro hs hl
   obtain ⟨hk, ⟨L, o, hf, hn, ho, hd⟩, hr⟩ := hl
   have hL : L ∈ X.fs := hs L (by unfold frs; rw [List.filterMap_cons, hf]; exact List.mem_cons_self)
   obtain ⟨sl, e⟩ := I.base.slot L o ho (I.ok.frf L hL) hL fun z => I.ok.exfs L z hL
   exact ⟨hk, ⟨L, _, hf, hn, e, hd⟩, ih (fun b hb => hs b (by unfold frs; rw [List.filterMap_cons, hf]; exact List.mem_cons_of_mem _ hb)) hr⟩
 exact all X.outer (fun _ hb => hb) I.ok.funs
theorem Inv.stack (I : Inv X pins σ H s) : s.heap.FunFrames X.base X.stack := by
 rcases I.ok.stk with e | ⟨e, hf⟩
 ·rw [e]; exact I.funs
 ·rw [e]
  obtain ⟨m, hn, _⟩ := I.loc
  refine .cons (by rw [I.ok.kind]; decide) hf hn ?_ I.funs
  exact Heap.get?_none_of_le (Nat.le_trans I.ok.bsz I.ok.above)
theorem Inv.stkSub (I : Inv X pins σ H s) : ∀ b ∈ frs X.stack, b ∈ X.env.locals :: X.fs := fun b hb => by
 rcases I.ok.stk with e | ⟨e, hf⟩
 ·rw [e] at hb; exact List.mem_cons_of_mem _ hb
 ·rw [e] at hb
  unfold frs at hb
  rw [List.filterMap_cons, hf] at hb
  exact hb
theorem Inv.stkFree (I : Inv X pins σ H s) : ∀ b ∈ frs X.stack, H b = none := fun b hb => by
 rcases List.mem_cons.mp (I.stkSub b hb) with e | hb
 ·rw [e]; exact I.free
 ·obtain ⟨_, o, ho, _⟩ := I.ok.funs.mem hb
  exact I.base.free b o ho (I.ok.frf b hb) fun z => I.ok.exfs b z hb
theorem Inv.step {g' : Array GenState} {t' : Nat} {d' : Drawn} {ch : List Addr} (I : Inv X pins σ H s)
  (hch : ∀ b ∈ ch, (b ∈ X.ex ∨ X.s₀.heap.get? b = none) /\ b ≠ X.env.locals /\ (∀ x c, X.env.cells.lookup x = some c -> c ≠ b) /\ ∀ p ∈ X.pn ++ pins, p.1 ≠ b)
  (keep : ∀ b o, b ≠ X.env.locals -> b ∉ X.fs -> b ∉ ch -> s.heap.get? b = some o -> H b = none -> h'.get? b = some o)
  (slot : ∀ b o, b ≠ X.env.locals -> b ∈ X.fs -> b ∉ ch -> s.heap.get? b = some o -> H b = none -> ∃ sl, h'.get? b = some { o with slots := sl }) (free : ∀ b o, b ∉ ch -> s.heap.get? b = some o -> H b = none -> H' b = none)
  (there : ∀ b o, b ∉ ch -> s.heap.get? b = some o -> ∃ o', h'.get? b = some o')
  (tups : ∀ b xs, H b = some (.tup xs) -> H' b = some (.tup xs)) (frzs : ∀ b o u, H b = some (.frz o u) -> H' b = some (.frz o u)) (tbls : ∀ b ps, H b = some (.tbl ps) -> ∃ more, H' b = some (.tbl (ps ++ more)))
  (ns : ∀ m, s.heap.Ns X.env.locals m -> h'.Ns X.env.locals m) (hok : HOk X.prog X.w H' h') (hg : AllBare g') :
  Inv X pins σ H' { s with heap := h', gens := g', drawn := d', toks := t' } := by
 have neL : ∀ b o, X.s₀.heap.get? b = some o -> b ≠ X.env.locals := fun b o e => Nat.ne_of_lt (Nat.lt_of_lt_of_le (Heap.lt_size e) I.ok.above)
 have neC : ∀ b o, X.s₀.heap.get? b = some o -> b ∉ X.ex -> b ∉ ch := fun b o e hx hb => by
  rcases (hch b hb).1 with z | z
  ·exact hx z
  ·rw [e] at z; cases z
 have cellK : ∀ x c, X.env.cells.lookup x = some c -> ∀ v, s.heap.IsCell c v -> h'.IsCell c v := fun x c e v ⟨o, ho, hd⟩ => by
  have nch : c ∉ ch := fun z => (hch c z).2.2.1 x c e rfl
  by_cases hc : c ∈ X.fs
  ·obtain ⟨sl, q⟩ := slot c o (I.cne x c e) hc nch ho (I.freeC x c e)
   exact ⟨_, q, hd⟩
  ·exact ⟨o, keep c o (I.cne x c e) hc nch ho (I.freeC x c e), hd⟩
 refine ⟨I.ok, I.os, hg, ⟨fun b o e n hb hx => ?_, fun b o e n hb hx => ?_, fun b o e n hx => ?_, fun b o e hx => ?_, fun b xs e => tups b xs (I.base.tups b xs e), fun b o xs e => frzs b o xs (I.base.frzs b o xs e), fun b ps e => ?_⟩, ?_, fun x c e => ?_, ?_, fun x c e => ?_, fun p hp => ?_, hok, I.len⟩
 ·exact keep b o (neL b o e) hb (neC b o e hx) (I.base.keep b o e n hb hx) (I.base.free b o e n hx)
 ·obtain ⟨sl, e1⟩ := I.base.slot b o e n hb hx
  obtain ⟨sl', e2⟩ := slot b _ (neL b o e) hb (neC b o e hx) e1 (I.base.free b o e n hx)
  exact ⟨sl', e2⟩
 ·obtain ⟨o', e1⟩ := I.base.there b o e hx
  exact free b o' (neC b o e hx) e1 (I.base.free b o e n hx)
 ·obtain ⟨o', e1⟩ := I.base.there b o e hx
  exact there b o' (neC b o e hx) e1
 ·obtain ⟨m1, e1⟩ := I.base.tbls b ps e
  obtain ⟨m2, e2⟩ := tbls b _ e1
  exact ⟨m1 ++ m2, by rw [e2, Array.append_assoc]⟩
 ·obtain ⟨m, hn, hl⟩ := I.loc
  refine ⟨m, ns m hn, fun i x v e1 e2 e3 => ?_⟩
  obtain ⟨u, r, l⟩ := hl i x v e1 e2 e3
  refine ⟨u, r, ?_⟩
  rcases l with l | ⟨k, c, e, z⟩
  ·exact .inl l
  ·exact .inr ⟨k, c, e, cellK x c e _ z⟩
 ·obtain ⟨v, z⟩ := I.cell x c e
  exact ⟨v, cellK x c e v z⟩
 ·obtain ⟨m, ⟨o, _, _, ho, _⟩, _⟩ := I.loc
  exact free _ o (fun z => (hch _ z).2.1 rfl) ho I.free
 ·obtain ⟨v, o, ho, hd⟩ := I.cell x c e
  exact free c o (fun z => (hch c z).2.2.1 x c e rfl) ho (I.freeC x c e)
 ·obtain ⟨e, n, ne, nf, d⟩ := I.pin p hp
  have nch : p.1 ∉ ch := fun z => (hch p.1 z).2.2.2 p hp rfl
  exact ⟨keep p.1 p.2 ne nf nch e n, free p.1 p.2 nch e n, ne, nf, d⟩
theorem Inv.un {t' : Nat} (I : Inv X pins σ H s) (u : Un X.fs [] H H' s.heap h') (hok : HOk X.prog X.w H' h') : Inv X pins σ H' { s with heap := h', toks := t' } := by
 obtain ⟨m, ⟨o, es, ep, ho, r⟩, _⟩ := id I.loc
 obtain ⟨sl, hL⟩ := u.any ho I.free (by simp)
 exact I.step (g' := s.gens) (d' := s.drawn) (ch := []) (fun _ z => nomatch z) (fun b o _ hb _ e n => u.keep b o e n hb (by simp)) (fun b o _ hb _ e n => u.slot b o e n hb (by simp)) (fun b o _ e n => u.free b o e n (by simp)) (fun b o _ e => u.there b o e (by simp)) u.tups u.frzs u.tbls (fun m' hm => by
  obtain ⟨o', es', ep', ho', r'⟩ := hm
  rw [ho] at ho'; cases ho'
  exact ⟨_, es', ep', hL, r'⟩) hok I.bare
theorem Inv.call {g' : Array GenState} {t' : Nat} {d' : Drawn} {ch : List Addr} (I : Inv X pins σ H s) (u : Un (frs X.stack) ch H H' s.heap h') (hok : HOk X.prog X.w H' h') (hg : AllBare g')
  (hch : ∀ b ∈ ch, (b ∈ X.ex ∨ X.s₀.heap.get? b = none) /\ b ≠ X.env.locals /\ (∀ x c, X.env.cells.lookup x = some c -> c ≠ b) /\ ∀ p ∈ X.pn ++ pins, p.1 ≠ b) :
  Inv X pins σ H' { s with heap := h', gens := g', drawn := d', toks := t' } := by
 obtain ⟨m, ⟨o, es, ep, ho, r⟩, _⟩ := id I.loc
 obtain ⟨sl, hL⟩ := u.any ho I.free fun z => (hch _ z).2.1 rfl
 exact I.step (ch := ch) hch (fun b o hL hb hc e n => u.keep b o e n (fun z => (List.mem_cons.mp (I.stkSub b z)).elim hL hb) hc) (fun b o _ _ hc e n => u.any e n hc) (fun b o hc e n => u.free b o e n hc) (fun b o hc e => u.there b o e hc) u.tups u.frzs u.tbls (fun m' hm => by
  obtain ⟨o', es', ep', ho', r'⟩ := hm
  rw [ho] at ho'; cases ho'
  exact ⟨_, es', ep', hL, r'⟩) hok hg
theorem Inv.turned {t' : Nat} {it : Addr} (I : Inv X pins σ H s) (k : ∀ b o, b ≠ it -> s.heap.get? b = some o -> h'.get? b = some o) (hn : H it = none) (hL : it ≠ X.env.locals)
  (h1 : it ∈ X.ex ∨ X.s₀.heap.get? it = none) (h2 : ∀ x c, X.env.cells.lookup x = some c -> c ≠ it) (h3 : ∀ p ∈ X.pn ++ pins, p.1 ≠ it) : Inv X pins σ H { s with heap := h', toks := t' } := by
 have nit : ∀ b u, H b = some u -> b ≠ it := fun b u e z => by rw [z, hn] at e; cases e
 refine I.step (g' := s.gens) (d' := s.drawn) (ch := [it]) (fun b hb => ?_) (fun b o _ _ hc e _ => k b o (fun z => hc (by simp [z])) e) (fun b o _ _ hc e _ => ⟨o.slots, k b o (fun z => hc (by simp [z])) e⟩) (fun _ _ _ _ n => n)
  (fun b o hc e => ⟨o, k b o (fun z => hc (by simp [z])) e⟩) (fun _ _ e => e) (fun _ _ _ e => e) (fun b ps e => ⟨#[], by rw [e]; simp⟩) (fun m hm => ?_) (fun b u e => ?_) I.bare
 ·have e : b = it := by simpa using hb
  subst e
  exact ⟨h1, hL, h2, h3⟩
 ·obtain ⟨o, es, ep, ho, r⟩ := hm
  exact ⟨o, es, ep, k _ o (Ne.symm hL) ho, r⟩
 ·refine (I.hok b u e).stay (fun c v hc q => k c v ?_ q) (fun _ q => q) fun _ _ q => q
  rcases hc with z | z
  ·rw [z]; exact nit b u e
  ·exact nit c _ z
theorem Inv.tok (I : Inv X pins σ H s) (t : Nat) : Inv X pins σ H { s with toks := t } := I.un (h' := s.heap) (t' := t) Un.refl I.hok
theorem Inv.kept {t' : Nat} (I : Inv X pins σ H s) (k : ∀ b u, s.heap.get? b = some u -> h'.get? b = some u) : Inv X pins σ H { s with heap := h', toks := t' } := I.un (Un.kept k) (I.hok.kept k)
theorem Inv.laid {a : Addr} {o : HO} {t' : Nat} (I : Inv X pins σ H s) (k : ∀ b u, s.heap.get? b = some u -> h'.get? b = some u) (hp : s.heap.objs.size ≤ a) (new : ObjOk X.prog X.w (upd H a o) h' a o) :
  Inv X pins σ (upd H a o) { s with heap := h', toks := t' } := I.un (Un.laid k hp (I.hok.fresh hp)) (I.hok.laid k hp new)
theorem Inv.write {x e : Addr} {o : HO} {t' : Nat} (I : Inv X pins σ H s) (mu : Mut (H x)) (he : e = x ∨ H e = some (.own x)) (k : ∀ b u, b ≠ e -> s.heap.get? b = some u -> h'.get? b = some u) (heo : ∃ u, h'.get? e = some u)
  (new : ObjOk X.prog X.w (upd H x o) h' x o) : Inv X pins σ (upd H x o) { s with heap := h', toks := t' } := I.un (Un.write mu he k heo) (I.hok.write mu he k heo new)
theorem Inv.weak {σ' : List (Option V)} (I : Inv X pins σ H s) (hl : σ'.length = σ.length) (w : ∀ (i : Nat) v, σ'[i]? = some (some v) -> σ[i]? = some (some v)) : Inv X pins σ' H s :=
 ⟨I.ok, I.os, I.bare, I.base, let ⟨m, hn, hl'⟩ := I.loc; ⟨m, hn, fun i x v e1 e2 e3 => hl' i x v e1 (w i v e2) e3⟩, I.cell, I.free, I.freeC, I.pin, I.hok, hl.trans I.len⟩
theorem Inv.pins_of {pins' : PLs} (I : Inv X pins σ H s) (h : ∀ p ∈ pins', s.heap.get? p.1 = some p.2 /\ H p.1 = none /\ p.1 ≠ X.env.locals /\ p.1 ∉ X.fs /\ ∀ v, p.2.data ≠ .cell v) : Inv X pins' σ H s :=
 ⟨I.ok, I.os, I.bare, I.base, I.loc, I.cell, I.free, I.freeC, fun p hp => (List.mem_append.mp hp).elim (fun z => I.pin p (List.mem_append_left _ z)) (h p), I.hok, I.len⟩
theorem nodup_ix {N : List Str} (hN : N.Nodup) {i j : Nat} {x : Str} (a : N[i]? = some x) (b : N[j]? = some x) : i = j := by
 obtain ⟨h1, e1⟩ := List.getElem?_eq_some_iff.mp a
 obtain ⟨h2, e2⟩ := List.getElem?_eq_some_iff.mp b
 exact (List.getElem_inj hN).mp (e1.trans e2.symm)
theorem store_ok2 {M : Model} {A : Around} {E : VSP} {i : Nat} {x : Str} {v : V} {u : Value} {Q : Unit -> Shared -> Prop} (I : Inv X pins σ H s) (hN : X.N.Nodup) (hi : X.N[i]? = some x) (hx : Loc X.env.scope x) (r : RelV v u)
  (h : ∀ s', Inv X pins (σ.set i (some v)) H s' -> (∃ a, Heap.SameBut a s.heap s'.heap /\ (a = X.env.locals ∨ X.env.cells.lookup x = some a)) -> Q () s') (hf : X.fn x = true ∨ X.env.scope.names.lookup x = some .local := by first | exact .inl rfl | exact .inr rfl | assumption) : wpAny M A (storeName X.env x u) Q E s := by
 obtain ⟨m, hn, hl⟩ := id I.loc
 have hcls : (X.env.scope.kind == .class || (X.env.scope.kind == .module && X.env.locals != X.env.globals)) = false := by rw [I.ok.kind]; rfl
 have hiσ : i < σ.length := by rw [I.len]; exact (List.getElem?_eq_some_iff.mp hi).1
 have cne := I.cne
 have tracked : ∀ {a : Addr} {h' : Heap}, (∃ o, s.heap.get? a = some o /\ H a = none) -> Heap.SameBut a s.heap h' -> HOk X.prog X.w H h' := fun {a h'} ha hs b ob e => by
  obtain ⟨_, _, hfree⟩ := ha
  refine (I.hok b ob e).stay (fun c w' hc q => (hs.2 c ?_).trans q) (fun _ q => q) fun _ _ q => q
  rintro rfl
  rcases hc with rfl | hc
  ·rw [hfree] at e; cases e
  ·rw [hfree] at hc; cases hc
 rcases hx with hk | hk
 ·refine wpAny_storeName_local hk hn (fun h' hn' hs => ?_) hcls
  obtain ⟨oL, _, _, hoL, _⟩ := id hn
  refine h _ ⟨I.ok, I.os, I.bare, ⟨fun b o e n hb hx => ?_, fun b o e n hb hx => ?_, I.base.free, fun b o e hx => ?_, I.base.tups, I.base.frzs, I.base.tbls⟩, ⟨_, hn', fun j y v' e1 e2 e3 => ?_⟩, fun y c e => ?_, I.free, I.freeC, fun p hp => ?_, tracked ⟨oL, hoL, I.free⟩ hs, by simpa using I.len⟩ ⟨_, hs, .inl rfl⟩
  ·exact (hs.2 b (Nat.ne_of_lt (Nat.lt_of_lt_of_le (Heap.lt_size e) I.ok.above))).trans (I.base.keep b o e n hb hx)
  ·obtain ⟨sl, e1⟩ := I.base.slot b o e n hb hx
   exact ⟨sl, (hs.2 b (Nat.ne_of_lt (Nat.lt_of_lt_of_le (Heap.lt_size e) I.ok.above))).trans e1⟩
  ·obtain ⟨o', e1⟩ := I.base.there b o e hx
   exact ⟨o', (hs.2 b (Nat.ne_of_lt (Nat.lt_of_lt_of_le (Heap.lt_size e) I.ok.above))).trans e1⟩
  ·by_cases hj : j = i
   ·subst hj
    rw [hi] at e1; cases e1
    rw [List.getElem?_set_self hiσ] at e2
    cases e2
    exact ⟨u, r, .inl ⟨hk, by simp⟩⟩
   ·rw [List.getElem?_set_ne (Ne.symm hj)] at e2
    obtain ⟨u', r', q⟩ := hl j y v' e1 e2 e3
    refine ⟨u', r', ?_⟩
    rcases q with ⟨k, e⟩ | ⟨k, c, e, z⟩
    ·refine .inl ⟨k, ?_⟩
     have : y ≠ x := fun e => hj (nodup_ix hN e1 (e ▸ hi))
     simp [this, e]
    ·exact .inr ⟨k, c, e, z.sameBut hs (cne y c e)⟩
  ·obtain ⟨w', z⟩ := I.cell y c e
   exact ⟨w', z.sameBut hs (cne y c e)⟩
  ·obtain ⟨e, n, ne, nf, d⟩ := I.pin p hp
   exact ⟨(hs.2 p.1 ne).trans e, n, ne, nf, d⟩
 ·have hfn : X.fn x = true := by
   rcases hf with z | z
   ·exact z
   ·rw [z] at hk; cases hk
  obtain ⟨c, hc⟩ := I.ok.has x (.inl hk)
  obtain ⟨w', z⟩ := I.cell x c hc
  refine wpAny_storeName_cell I.ok.kind hk hc z (fun h' hc' hs => ?_)
  obtain ⟨oc, hoc, hocd⟩ := id z
  refine h { s with heap := h' } ⟨I.ok, I.os, I.bare, ⟨fun b o e n hb hx => ?_, fun b o e n hb hx => ?_, I.base.free, fun b o e hx => ?_, I.base.tups, I.base.frzs, I.base.tbls⟩, ⟨m, hn.sameBut hs (Ne.symm (cne x c hc)), fun j y v' e1 e2 e3 => ?_⟩, fun y c' e => ?_, I.free, I.freeC, fun p hp => ?_, tracked ⟨oc, hoc, I.freeC x c hc⟩ hs, by simpa using I.len⟩ ⟨c, hs, .inr hc⟩
  ·exact (hs.2 b (Nat.ne_of_lt (Nat.lt_of_lt_of_le (Heap.lt_size e) (I.ok.cab x c hfn hc)))).trans (I.base.keep b o e n hb hx)
  ·obtain ⟨sl, e1⟩ := I.base.slot b o e n hb hx
   exact ⟨sl, (hs.2 b (Nat.ne_of_lt (Nat.lt_of_lt_of_le (Heap.lt_size e) (I.ok.cab x c hfn hc)))).trans e1⟩
  ·obtain ⟨o', e1⟩ := I.base.there b o e hx
   exact ⟨o', (hs.2 b (Nat.ne_of_lt (Nat.lt_of_lt_of_le (Heap.lt_size e) (I.ok.cab x c hfn hc)))).trans e1⟩
  ·by_cases hj : j = i
   ·subst hj
    rw [hi] at e1; cases e1
    rw [List.getElem?_set_self hiσ] at e2
    cases e2
    exact ⟨u, r, .inr ⟨.inl hk, c, hc, hc'⟩⟩
   ·rw [List.getElem?_set_ne (Ne.symm hj)] at e2
    obtain ⟨u', r', q⟩ := hl j y v' e1 e2 e3
    refine ⟨u', r', ?_⟩
    rcases q with q | ⟨k, c', e, z'⟩
    ·exact .inl q
    ·refine .inr ⟨k, c', e, z'.sameBut hs ?_⟩
     rintro rfl
     exact hj (nodup_ix hN e1 (I.ok.inj _ _ _ e hc ▸ hi))
  ·by_cases hcc : c' = c
   ·subst hcc; exact ⟨_, hc'⟩
   ·obtain ⟨w2, z2⟩ := I.cell y c' e
    exact ⟨w2, z2.sameBut hs hcc⟩
  ·obtain ⟨e, n, ne, nf, d⟩ := I.pin p hp
   refine ⟨(hs.2 p.1 ?_).trans e, n, ne, nf, d⟩
   intro q
   rw [q, hoc] at e
   have q' : oc = p.2 := Option.some.inj e
   exact d w' (by rw [← q']; exact hocd)
theorem store_ok {M : Model} {A : Around} {E : VSP} {i : Nat} {x : Str} {v : V} {u : Value} {Q : Unit -> Shared -> Prop} (I : Inv X pins σ H s) (hN : X.N.Nodup) (hi : X.N[i]? = some x) (hx : Loc X.env.scope x) (r : RelV v u)
  (h : ∀ s', Inv X pins (σ.set i (some v)) H s' -> Q () s') (hf : X.fn x = true ∨ X.env.scope.names.lookup x = some .local := by first | exact .inl rfl | exact .inr rfl | assumption) : wpAny M A (storeName X.env x u) Q E s :=
 store_ok2 I hN hi hx r (fun s' I' _ => h s' I') hf
theorem Inv.call' {s' : Shared} {ch : List Addr} (I : Inv X pins σ H s) (ho : s'.os = s.os) (u : Un (frs X.stack) ch H H' s.heap s'.heap) (hok : HOk X.prog X.w H' s'.heap) (hg : AllBare s'.gens)
  (hch : ∀ b ∈ ch, (b ∈ X.ex ∨ X.s₀.heap.get? b = none) /\ b ≠ X.env.locals /\ (∀ x c, X.env.cells.lookup x = some c -> c ≠ b) /\ ∀ p ∈ X.pn ++ pins, p.1 ≠ b) : Inv X pins σ H' s' := by
 obtain ⟨h', g', d', t', o'⟩ := s'
 have e : o' = s.os := ho
 subst e
 exact I.call (g' := g') (t' := t') (d' := d') u hok hg hch
end
abbrev XK := Value -> Option Addr -> Hp -> Prop
abbrev St := List (Option V)
abbrev VK := V -> Hp -> Prop
abbrev TE := St -> Hp -> VK -> Prop
abbrev TT := St -> Hp -> (Bool -> Hp -> Prop) -> Prop
abbrev TA := St -> Hp -> (List V -> Hp -> Prop) -> Prop
structure Ends where
 nx : St -> Hp -> Prop
 rt : VK
 bk : St -> Hp -> Prop := fun _ _ => False
 ct : St -> Hp -> Prop := fun _ _ => False
abbrev TS := Ends -> St -> Hp -> Prop
def EP (X : Cx) (pins : PLs) (σ : St) (Q : VK) (u : Value) (s' : Shared) : Prop := ∃ v H', Inv X pins σ H' s' /\ RelV v u /\ Q v H'
def TP (X : Cx) (pins : PLs) (σ : St) (Q : Bool -> Hp -> Prop) (b : Bool) (s' : Shared) : Prop := ∃ H', Inv X pins σ H' s' /\ Q b H'
def AP (X : Cx) (pins : PLs) (σ : St) (Q : List V -> Hp -> Prop) (us : List Value) (s' : Shared) : Prop := ∃ vs H', Inv X pins σ H' s' /\ Vals vs us /\ Q vs H'
def SP (X : Cx) (pins : PLs) (D : Ends) (f : Flow) (s' : Shared) : Prop :=
 match f with
 | .next => ∃ σ' H', Inv X pins σ' H' s' /\ D.nx σ' H'
 | .brk => ∃ σ' H', Inv X pins σ' H' s' /\ D.bk σ' H'
 | .cont => ∃ σ' H', Inv X pins σ' H' s' /\ D.ct σ' H'
 | .ret u => ∃ v σ' H', Inv X pins σ' H' s' /\ RelV v u /\ D.rt v H'
def PE (X : Cx) (e : Expr) (t : TE) : Prop :=
 ∀ (pins : PLs) (s : Shared) (σ : St) (H : Hp) (Q : VK), Inv X pins σ H s -> t σ H Q -> wpAny (model X.prog X.w) X.A (eval e X.env) (EP X pins σ Q) X.xe s
def PT (X : Cx) (e : Expr) (t : TT) : Prop :=
 ∀ (pins : PLs) (s : Shared) (σ : St) (H : Hp) (Q : Bool -> Hp -> Prop), Inv X pins σ H s -> t σ H Q -> wpAny (model X.prog X.w) X.A (isTrue e X.env (eval e X.env)) (TP X pins σ Q) X.xe s
def PW (X : Cx) (e : Expr) (t : TT) : Prop :=
 ∀ (whole : Sem Value) (pins : PLs) (s : Shared) (σ : St) (H : Hp) (Q : Bool -> Hp -> Prop), Inv X pins σ H s -> t σ H Q -> wpAny (model X.prog X.w) X.A (isTrue e X.env whole) (TP X pins σ Q) X.xe s
theorem PW.pt {X : Cx} {e : Expr} {t : TT} (h : PW X e t) : PT X e t := h _
def PA (X : Cx) (es : List Expr) (t : TA) : Prop :=
 ∀ (pos : Pos) (pins : PLs) (s : Shared) (σ : St) (H : Hp) (Q : List V -> Hp -> Prop), Inv X pins σ H s -> t σ H Q -> wpAny (model X.prog X.w) X.A (spliced (backTo pos (starEach es X.env))) (AP X pins σ Q) X.xe s
def PS (X : Cx) (st : Stmt) (t : TS) : Prop :=
 ∀ (pins : PLs) (s : Shared) (σ : St) (H : Hp) (D : Ends), Inv X pins σ H s -> t D σ H -> wpAny (model X.prog X.w) X.A (exec st X.env) (SP X pins D) X.xe s
def PSs (X : Cx) (st : List Stmt) (t : TS) : Prop :=
 ∀ (pins : PLs) (s : Shared) (σ : St) (H : Hp) (D : Ends), Inv X pins σ H s -> t D σ H -> wpAny (model X.prog X.w) X.A (execs st X.env) (SP X pins D) X.xe s
theorem thn {α : Type} {t : Sem α} {Q Q' : α -> Shared -> Prop} {M : Model} {A : Around} {E : VSP} {s : Shared} (h : wpAny M A t Q E s) (hQ : ∀ a s, Q a s -> Q' a s) : wpAny M A t Q' E s := wpAny_mono h hQ fun _ _ x => x
end L2
namespace L2
open PySem PySem.Spec PyProof.Rows
section
variable {X : Cx}
def tVar (i : Nat) : TE := fun σ H Q => ∃ v, σ[i]? = some (some v) /\ Q v H
def tC (v : V) : TE := fun _ H Q => Q v H
theorem pe_var {i : Nat} {x : Str} {pos : Pos} (hN : X.N[i]? = some x) (hv : Vis X.env.scope x) (hd : (x == ("__debug__" : Str)) = false := by decide) (hcd : (x == ("__classdict__" : Str)) = false := by decide) : PE X (.Name x pos) (tVar i) := by
 intro pins s σ H Q I h
 obtain ⟨v, e, h⟩ := h
 obtain ⟨m, hn, hl⟩ := I.loc
 obtain ⟨u, r, l⟩ := hl i x v hN e hv
 have fin : EP X pins σ Q u s := ⟨v, H, I, r, h⟩
 rcases l with ⟨hk, hm⟩ | ⟨hk, c, hc, hcell⟩
 ·exact wpAny_Name (wpAny_loadName_local I.ok.kind hk hn hm fin) hd
 ·rcases hk with hk | hk
  ·exact wpAny_Name (wpAny_loadName_cell I.ok.kind hk hc hcell fin) hd
  ·exact wpAny_Name (wpAny_loadName_free I.ok.kind hk hc hcell fin hcd) hd
theorem pe_int {i j pos} : PE X (.Constant (.int i) j pos) (tC (.int i)) := fun _ _ _ H _ I h => wpAny_Constant_int ⟨.int i, H, I.tok _, ⟨_, rfl⟩, h⟩
theorem pe_bl {b j pos} : PE X (.Constant (.bool b) j pos) (tC (.bl b)) := fun _ _ _ H _ I h => Constant_bool ⟨.bl b, H, I, rfl, h⟩
theorem pe_non {j pos} : PE X (.Constant .none j pos) (tC .non) := fun _ _ _ H _ I h => Constant_none ⟨.non, H, I, rfl, h⟩
theorem pe_str {x j pos} : PE X (.Constant (.str x) j pos) (tC (.str x)) := fun _ _ _ H _ I h => Calls.Constant_str ⟨.str x, H, I.tok _, ⟨_, rfl⟩, h⟩
def Gl (X : Cx) (x : Str) : Prop := X.env.kindOf x = some .globalImplicit
theorem ld_glob {E : VSP} {pins : PLs} {s : Shared} {σ : St} {H : Hp} {x : Str} {u : Value} {pos : Pos} {Q : VSP} (I : Inv X pins σ H s) (hg : Gl X x) (hm : X.mg x = some u) (h : Q u s)
  (hd : (x == ("__debug__" : Str)) = false := by decide) : wpAny (model X.prog X.w) X.A (eval (.Name x pos) X.env) Q E s :=
 Calls.Name_function_global I.ok.kind hg (Calls.loadGlobal_global (by rw [I.ok.glob]; exact I.mod.glob.keeps I.bk) hm h) hd
theorem ld_blt {E : VSP} {pins : PLs} {s : Shared} {σ : St} {H : Hp} {x : Str} {u : Value} {pos : Pos} {Q : VSP} (I : Inv X pins σ H s) (hg : Gl X x) (hm : X.mg x = none) (hv : bootBuiltins x = some u) (h : Q u s)
  (hn : x ≠ "__name__" := by decide) (hd : (x == ("__debug__" : Str)) = false := by decide) : wpAny (model X.prog X.w) X.A (eval (.Name x pos) X.env) Q E s := by
 obtain ⟨mb, h1, h2⟩ := I.mod.blt
 exact Calls.Name_function_global I.ok.kind hg (Calls.loadGlobal_builtin (by rw [I.ok.glob]; exact I.mod.glob.keeps I.bk) hm (by rw [I.ok.blt]; exact h1.keeps I.bk) ((h2 x hn).trans hv) h) hd
theorem pe_glob {x : Str} {v : V} {u : Value} {pos : Pos} (hg : Gl X x) (hm : X.mg x = some u) (r : RelV v u) (hd : (x == ("__debug__" : Str)) = false := by decide) : PE X (.Name x pos) (tC v) :=
 fun _ _ _ H _ I h => ld_glob I hg hm ⟨v, H, I, r, h⟩ hd
def t2I (ta tb : TE) (k : Int -> Int -> Hp -> Prop) : St -> Hp -> Prop := fun σ H => ta σ H fun x H1 => tb σ H1 fun y H2 => ∃ i j, x = .int i /\ y = .int j /\ k i j H2
def tAdd (ta tb : TE) : TE := fun σ H Q => t2I ta tb (fun i j H2 => Q (.int (i + j)) H2) σ H
def tSub (ta tb : TE) : TE := fun σ H Q => t2I ta tb (fun i j H2 => Q (.int (i - j)) H2) σ H
def tMul (ta tb : TE) : TE := fun σ H Q => t2I ta tb (fun i j H2 => (-(2 ^ 64) < i /\ i < 2 ^ 64) /\ Q (.int (i * j)) H2) σ H
variable {a b : Expr} {ta tb : TE} {pos : Pos}
def PC (X : Cx) (op : CmpOp) (a b : Expr) (t : TE) : Prop :=
 ∀ (pins : PLs) (s : Shared) (σ : St) (H : Hp) (Q : VK), Inv X pins σ H s -> t σ H Q →
  wpAny (model X.prog X.w) X.A (eval a X.env) (fun v s₁ => wpAny (model X.prog X.w) X.A (eval b X.env) (fun u s₂ => wpAny (model X.prog X.w) X.A (compareOp op v u) (EP X pins σ Q) X.xe s₂) X.xe s₁) X.xe s
def tCmp (p : Int -> Int -> Bool) (ta tb : TE) : TE := fun σ H Q => t2I ta tb (fun i j H2 => Q (.bl (p i j)) H2) σ H
abbrev tLt : TE -> TE -> TE := tCmp fun i j => decide (i < j)
abbrev tLe : TE -> TE -> TE := tCmp fun i j => decide (i ≤ j)
abbrev tGt : TE -> TE -> TE := tCmp fun i j => decide (j < i)
abbrev tGe : TE -> TE -> TE := tCmp fun i j => decide (j ≤ i)
abbrev tEqI : TE -> TE -> TE := tCmp fun i j => decide (i = j)
abbrev tNeI : TE -> TE -> TE := tCmp fun i j => !decide (i = j)
def tIsN (ta : TE) : TE := fun σ H Q => ta σ H fun x H1 => Q (.bl (decide (x = .non))) H1
def tNotN (ta : TE) : TE := fun σ H Q => ta σ H fun x H1 => Q (.bl (!decide (x = .non))) H1
def tB (t : TE) : TT := fun σ H Q => t σ H fun x H1 => ∃ c, x = .bl c /\ Q c H1
theorem pt_val {e : Expr} {t : TE} (h : PE X e t) (he : ∀ whole, isTrue e X.env whole = (do let v ← whole; standAt e.pos; holding [v] (truthy v)) := by intro _; rfl) : PT X e (tB t) := by
 intro pins s σ H Q I hw
 refine isTrue_plain (thn (h pins s σ H _ I hw) fun v s1 ⟨x, H1, I1, r1, q1⟩ => ?_) (he _)
 obtain ⟨d, rfl, q⟩ := q1
 cases r1
 exact wpAny_truthy_bool ⟨H1, I1, q⟩
variable {tA tB' : TT} {rest : List Expr}
def tAnd (t u : TT) : TT := fun σ H Q => t σ H fun c H1 => if c = true then u σ H1 Q else Q false H1
def tOr (t u : TT) : TT := fun σ H Q => t σ H fun c H1 => if c = true then Q true H1 else u σ H1 Q
def tNot (t : TT) : TT := fun σ H Q => t σ H fun c H1 => Q (!c) H1
theorem pw_and1 (ha : PT X a tA) : PW X (.BoolOp .And [a] pos) tA := by
 intro wh pins s σ H Q I h
 refine isTrue_and (thn (ha pins s σ H Q I h) fun c s1 e => ?_)
 cases c with
 | true => exact isTrue_and_nil e
 | false => exact e
theorem pw_and (ha : PT X a tA) (hb : PW X (.BoolOp .And (b :: rest) pos) tB') : PW X (.BoolOp .And (a :: b :: rest) pos) (tAnd tA tB') := by
 intro wh pins s σ H Q I h
 refine isTrue_and (thn (ha pins s σ H _ I h) fun c s1 ⟨H1, I1, q1⟩ => ?_)
 cases c with
 | true => exact hb wh pins s1 σ H1 Q I1 q1
 | false => exact ⟨H1, I1, q1⟩
theorem pt_not (ha : PT X a tA) : PT X (.UnaryOp .Not a pos) (tNot tA) := by
 intro pins s σ H Q I h
 exact isTrue_not (ha pins s σ H (fun c H1 => Q (!c) H1) I h)
def tAndV (ta tb : TE) : TE := fun σ H Q => ta σ H fun x H1 => ∃ c, x = .bl c /\ if c = true then tb σ H1 Q else Q (.bl false) H1
def tOrV (ta tb : TE) : TE := fun σ H Q => ta σ H fun x H1 => ∃ c, x = .bl c /\ if c = true then Q (.bl true) H1 else tb σ H1 Q
def tNotV (ta : TE) : TE := fun σ H Q => ta σ H fun x H1 => ∃ c, x = .bl c /\ Q (.bl (!c)) H1
def tIf (t : TT) (ta tb : TE) : TE := fun σ H Q => t σ H fun c H1 => if c = true then ta σ H1 Q else tb σ H1 Q
theorem pe_ifExp {c : Expr} (hc : PT X c tA) (ha : PE X a ta) (hb : PE X b tb) : PE X (.IfExp c a b pos) (tIf tA ta tb) := by
 intro pins s σ H Q I h
 refine wpAny_IfExp (thn (hc pins s σ H _ I h) fun d s1 ⟨H1, I1, q1⟩ => ?_)
 cases d with
 | true => exact ha pins s1 σ H1 Q I1 q1
 | false => exact hb pins s1 σ H1 Q I1 q1
end
end L2
namespace L2
open PySem PySem.Spec PyProof.Rows
def SqL (K : Fg) (H : Hp) (a : Addr) (xs : List V) : Prop :=
 Rd H a (.lst xs) ∨
  ∃ (o : Obj) (its : Array Value) (n : Nat), K.lookup a = some o /\ o.cls = .type "list" /\ o.dict = none /\ o.data = .seq its n /\ its.size ≤ sizeLine /\ Vals xs its.toList
def SqT (K : Fg) (H : Hp) (a : Addr) (xs : List V) : Prop :=
 Rd H a (.tup xs) ∨
  ∃ (o : Obj) (its : Array Value) (n : Nat), K.lookup a = some o /\ o.cls = .type "tuple" /\ o.data = .seq its n /\ its.size ≤ sizeLine /\ Vals xs its.toList
def absV : Value -> Option V
 | .none => some .non
 | .bool b => some (.bl b)
 | .int i _ => some (.int i)
 | .str x _ => some (.str x)
 | .bytes b _ => some (.byt b)
 | .float b _ => some (.flt b)
 | .ref a => some (.ref a)
 | .type n => some (.ty n)
 | _ => none
theorem RelV.abs {x : V} {u : Value} (r : RelV x u) : absV u = some x := by
 cases x with
 | non => cases r; rfl
 | bl _ => cases r; rfl
 | int _ => obtain ⟨t, rfl⟩ := r; rfl
 | str _ => obtain ⟨t, rfl⟩ := r; rfl
 | byt _ => obtain ⟨t, rfl⟩ := r; rfl
 | flt _ => obtain ⟨t, rfl⟩ := r; rfl
 | ref _ => cases r; rfl
 | ty _ => cases r; rfl
theorem RelV.inj {x y : V} {u : Value} (r : RelV x u) (q : RelV y u) : x = y := Option.some.inj (r.abs.symm.trans q.abs)
theorem Vals.inj : ∀ {xs ys : List V} {us : List Value}, Vals xs us -> Vals ys us -> xs = ys
 | _, _, _, .nil, .nil => rfl
 | _, _, _, .cons r t, .cons r' t' => by rw [r.inj r', Vals.inj t t']
section
variable {X : Cx} {pins : PLs} {σ : St} {H : Hp} {s : Shared} {a : Addr} {xs ys : List V}
theorem SqL.of {K : Fg} (h : H a = some (.lst xs)) : SqL K H a xs := .inl (.inl h)
theorem SqT.of {K : Fg} (h : H a = some (.tup xs)) : SqT K H a xs := .inl (.inl h)
theorem Inv.list (I : Inv X pins σ H s) (h : SqL X.K H a xs) : ∃ its : List Value, Vals xs its /\ PlainL s.heap a its.toArray /\ xs.length ≤ sizeLine := by
 rcases h with h | ⟨o, its, n, hk, hc, hd, hs, hz, r⟩
 ·obtain ⟨z, its, n, r, e⟩ := h.ok I.hok
  exact ⟨its, r, ⟨_, n, e, rfl, rfl, rfl⟩, z⟩
 ·refine ⟨its.toList, r, ⟨o, n, I.kIn a o hk, hc, hd, by simpa using hs⟩, ?_⟩
  have e := r.length
  simp only [Array.length_toList] at e
  omega
theorem Inv.tuple (I : Inv X pins σ H s) (h : SqT X.K H a xs) : ∃ its : List Value, Vals xs its /\ IsTup s.heap a its.toArray /\ xs.length ≤ sizeLine := by
 rcases h with h | ⟨o, its, n, hk, hc, hs, hz, r⟩
 ·obtain ⟨z, its, r, p⟩ := h.ok I.hok
  exact ⟨its, r, p, z⟩
 ·refine ⟨its.toList, r, ⟨o, I.kIn a o hk, hc, n, by simpa using hs⟩, ?_⟩
  have e := r.length
  simp only [Array.length_toList] at e
  omega
theorem Inv.list_inj (I : Inv X pins σ H s) (h : SqL X.K H a xs) (h' : SqL X.K H a ys) : xs = ys := by
 obtain ⟨its, r, ⟨o, n, e, _, _, d⟩, _⟩ := I.list h
 obtain ⟨its', r', ⟨o', n', e', _, _, d'⟩, _⟩ := I.list h'
 rw [e] at e'; cases e'
 rw [d] at d'
 injection d' with d1 _
 have : its = its' := by simpa using congrArg Array.toList d1
 subst this
 exact r.inj r'
theorem Inv.tuple_inj (I : Inv X pins σ H s) (h : SqT X.K H a xs) (h' : SqT X.K H a ys) : xs = ys := by
 obtain ⟨its, r, ⟨o, e, _, n, d⟩, _⟩ := I.tuple h
 obtain ⟨its', r', ⟨o', e', _, n', d'⟩, _⟩ := I.tuple h'
 rw [e] at e'; cases e'
 rw [d] at d'
 injection d' with d1 _
 have : its = its' := by simpa using congrArg Array.toList d1
 subst this
 exact r.inj r'
end
abbrev Cx.wish (X : Cx) (E : VSP) : Cx := { X with xe := E }
abbrev Cx.nox (X : Cx) : Cx := X.wish fun _ _ => False
theorem Cx.Ok.wish {X : Cx} (ok : X.Ok) (E : VSP) : (X.wish E).Ok :=
 ⟨ok.mod, ok.kind, ok.glob, ok.blt, ok.above, ok.inj, ok.has, ok.cab, ok.hd, ok.frames, ok.stk, ok.exf, ok.bs, ok.bsz, ok.noex, ok.exfs, ok.funs, ok.frf⟩
theorem Cx.Ok.unwish {X : Cx} {E : VSP} (ok : (X.wish E).Ok) : X.Ok :=
 ⟨ok.mod, ok.kind, ok.glob, ok.blt, ok.above, ok.inj, ok.has, ok.cab, ok.hd, ok.frames, ok.stk, ok.exf, ok.bs, ok.bsz, ok.noex, ok.exfs, ok.funs, ok.frf⟩
section
variable {X : Cx} {pins : PLs} {σ : St} {H : Hp} {s : Shared} {E : VSP}
theorem Inv.wish (I : Inv X pins σ H s) (E : VSP) : Inv (X.wish E) pins σ H s := ⟨I.ok.wish E, I.os, I.bare, I.base, I.loc, I.cell, I.free, I.freeC, I.pin, I.hok, I.len⟩
theorem Inv.unwish (I : Inv (X.wish E) pins σ H s) : Inv X pins σ H s := ⟨I.ok.unwish, I.os, I.bare, I.base, I.loc, I.cell, I.free, I.freeC, I.pin, I.hok, I.len⟩
theorem SP.unwish {D : Ends} {f : Flow} {s' : Shared} (h : SP (X.wish E) pins D f s') : SP X pins D f s' := by
 cases f with
 | next => obtain ⟨σ', H', I, q⟩ := h; exact ⟨σ', H', I.unwish, q⟩
 | brk => obtain ⟨σ', H', I, q⟩ := h; exact ⟨σ', H', I.unwish, q⟩
 | cont => obtain ⟨σ', H', I, q⟩ := h; exact ⟨σ', H', I.unwish, q⟩
 | ret u => obtain ⟨v, σ', H', I, r, q⟩ := h; exact ⟨v, σ', H', I.unwish, r, q⟩
theorem PSs.nox {st : List Stmt} {t : TS} (h : PSs X.nox st t) : PSs X st t := fun pins s σ H D I hw =>
 wpAny_mono (h pins s σ H D (I.wish _) hw) (fun _ _ q => q.unwish) fun _ _ z => False.elim z
end
section
variable {X : Cx} {st : Stmt} {rest : List Stmt} {t u : TS} {e : Expr} {te : TE} {pos : Pos}
def tNext : TS := fun D σ H => D.nx σ H
def tSeq (t u : TS) : TS := fun D σ H => t { D with nx := u D } σ H
theorem pss_nil : PSs X [] tNext := fun _ _ σ H _ I h => wpAny_execs_nil ⟨σ, H, I, h⟩
theorem pss_cons (h1 : PS X st t) (h2 : PSs X rest u) : PSs X (st :: rest) (tSeq t u) := by
 intro pins s σ H D I h
 refine wpAny_execs_cons (thn (h1 pins s σ H { D with nx := u D } I h) fun f s1 q => ?_)
 cases f with
 | next =>
  obtain ⟨σ', H', I', q⟩ := q
  exact h2 pins s1 σ' H' D I' q
 | ret v => exact q
 | brk => exact q
 | cont => exact q
theorem pss_one (h1 : PS X st t) : PSs X [st] t := by
 intro pins s σ H D I h
 refine wpAny_execs_cons (thn (h1 pins s σ H D I h) fun f s1 q => ?_)
 cases f with
 | next => exact wpAny_execs_nil q
 | ret v => exact q
 | brk => exact q
 | cont => exact q
def tBreak : TS := fun D σ H => D.bk σ H
def tCont : TS := fun D σ H => D.ct σ H
theorem Inv.quiet {pins : PLs} {σ : St} {H : Hp} {s : Shared} (I : Inv X pins σ H s) : interactive X.env = false := by simp [interactive, I.ok.kind]
def tDrop (te : TE) : TS := fun D σ H => te σ H fun _ H1 => D.nx σ H1
theorem ps_expr (he : PE X e te) (hs : swapsWith e none pos.line X.env = pure false := by rfl) : PS X (.Expr e pos) (tDrop te) := by
 intro pins s σ H D I h
 exact wpAny_Expr_any (thn (he pins s σ H _ I h) fun v s1 ⟨x, H1, I1, r1, q1⟩ => ⟨σ, H1, I1, q1⟩) I.quiet hs
def tRet (te : TE) : TS := fun D σ H => te σ H D.rt
theorem ps_ret (he : PE X e te) : PS X (.Return (some e) pos) (tRet te) := by
 intro pins s σ H D I h
 exact wpAny_Return_some (thn (he pins s σ H _ I h) fun v s1 ⟨x, H1, I1, r1, q1⟩ => ⟨x, σ, H1, I1, r1, q1⟩)
def tRetN : TS := fun D _ H => D.rt .non H
def tIfS (c : TT) (t u : TS) : TS := fun D σ H => c σ H fun b H1 => if b = true then t D σ H1 else u D σ H1
theorem ps_if {c : Expr} {a b : List Stmt} {tc : TT} (hc : PT X c tc) (ha : PSs X a t) (hb : PSs X b u) : PS X (.If c a b pos) (tIfS tc t u) := by
 intro pins s σ H D I h
 refine wpAny_If (thn (hc pins s σ H _ I h) fun d s1 ⟨H1, I1, q1⟩ => ?_)
 cases d with
 | true => exact ha pins s1 σ H1 D I1 q1
 | false => exact hb pins s1 σ H1 D I1 q1
def tNever : TS := fun _ _ _ => False
theorem ps_never : PS X st tNever := fun _ _ _ _ _ _ h => h.elim
end
abbrev TG := V -> St -> Hp -> (St -> Hp -> Prop) -> Prop
abbrev TGs := List V -> St -> Hp -> (St -> Hp -> Prop) -> Prop
def PG (X : Cx) (target : Expr) (t : TG) : Prop :=
 ∀ (pins : PLs) (s : Shared) (σ : St) (H : Hp) (v : V) (u : Value) (Q : St -> Hp -> Prop), Inv X pins σ H s -> RelV v u -> t v σ H Q →
  wpAny (model X.prog X.w) X.A (assign target X.env u) (fun _ s' => ∃ σ' H', Inv X pins σ' H' s' /\ Q σ' H') X.xe s
def PGs (X : Cx) (ts : List Expr) (t : TGs) : Prop :=
 ∀ (pins : PLs) (s : Shared) (σ : St) (H : Hp) (vs : List V) (us : List Value) (Q : St -> Hp -> Prop), Inv X pins σ H s -> Vals vs us -> t vs σ H Q →
  wpAny (model X.prog X.w) X.A (assignInOrder ((assignEach ts X.env).map (·.2)) us) (fun _ s' => ∃ σ' H', Inv X pins σ' H' s' /\ Q σ' H') X.xe s
abbrev TSet := V -> V -> V -> Hp -> (Hp -> Prop) -> Prop
def PSet (X : Cx) (t : TSet) : Prop :=
 ∀ (pins : PLs) (s : Shared) (σ : St) (H : Hp) (o i v : V) (ov iv u : Value) (Q : Hp -> Prop), Inv X pins σ H s -> RelV o ov -> RelV i iv -> RelV v u -> t o i v H Q →
  wpAny (model X.prog X.w) X.A (setItem ov iv u) (fun _ s' => ∃ H', Inv X pins σ H' s' /\ Q H') X.xe s
abbrev TIp := V -> V -> Hp -> VK -> Prop
def PIp (X : Cx) (op : Operator) (t : TIp) : Prop :=
 ∀ (pins : PLs) (s : Shared) (σ : St) (H : Hp) (x y : V) (v u : Value) (Q : VK), Inv X pins σ H s -> RelV x v -> RelV y u -> t x y H Q →
  wpAny (model X.prog X.w) X.A (inplaceOp op v u) (EP X pins σ Q) X.xe s
section
variable {X : Cx} {pos : Pos}
def gName (i : Nat) : TG := fun v σ H Q => Q (σ.set i (some v)) H
theorem pg_name {i : Nat} {x : Str} (hN : X.N.Nodup) (hi : X.N[i]? = some x) (hx : Loc X.env.scope x) (hf : X.fn x = true ∨ X.env.scope.names.lookup x = some .local := by first | exact .inl rfl | exact .inr rfl | assumption) : PG X (.Name x pos) (gName i) := by
 intro pins s σ H v u Q I r h
 exact wpAny_assign_Name (store_ok I hN hi hx r (fun s' I' => ⟨_, H, I', h⟩) hf)
def gNil : TGs := fun vs σ H Q => vs = [] /\ Q σ H
def gCons (t : TG) (u : TGs) : TGs := fun vs σ H Q => ∃ v r, vs = v :: r /\ t v σ H fun σ' H' => u r σ' H' Q
theorem pgs_nil : PGs X [] gNil := by
 intro pins s σ H vs us Q I r h
 obtain ⟨e, h⟩ := h
 subst e
 cases r
 exact assignInOrder_nil ⟨σ, H, I, h⟩
theorem pgs_cons {e : Expr} {es : List Expr} {t : TG} {u : TGs} (h1 : PG X e t) (h2 : PGs X es u)
  (hs : (assignEach (e :: es) X.env).map (·.2) = assign e X.env :: (assignEach es X.env).map (·.2) := by rfl) : PGs X (e :: es) (gCons t u) := by
 intro pins s σ H vs us Q I r h
 obtain ⟨v, vr, e1, h⟩ := h
 subst e1
 cases r with
 | cons r rr =>
  rw [hs]
  refine assignInOrder_cons (thn (h1 pins s σ H _ _ _ I r h) fun _ s1 ⟨σ1, H1, I1, q1⟩ => ?_)
  exact h2 pins s1 σ1 H1 _ _ Q I1 rr q1
def gTup (K : Fg) (n : Nat) (t : TGs) : TG := fun v σ H Q => ∃ a xs, v = .ref a /\ SqT K H a xs /\ xs.length = n /\ t xs σ H Q
theorem pg_tup {es : List Expr} {k : Nat} {t : TGs} {n : Nat} (hc : X.calm = true) (h : PGs X es t)
  (hn : (assignEach es X.env).length = n := by rfl) (hst : (assignEach es X.env).findIdx? (·.1) = none := by rfl) : PG X (.Tuple es k pos) (gTup X.K n t) := by
 intro pins s σ H v u Q I r hw
 obtain ⟨a, xs, e1, hq, hl, hw⟩ := hw
 subst e1
 cases r
 obtain ⟨its, rv, ht, hz⟩ := I.tuple hq
 refine assign_Tuple_tuple (I.ok.hd hc) ht (by simp [hn, ← hl, rv.length]) hst fun h' hx => ?_
 have I1 : Inv X pins σ H { s with heap := h' } := I.kept (t' := s.toks) fun b o e => hx b o (Nat.ne_of_lt (Heap.lt_size e)) e
 exact h pins _ σ H xs _ Q I1 (by simpa using rv) hw
def gSub (to ti : TE) (t : TSet) : TG := fun v σ H Q => to σ H fun o H1 => ti σ H1 fun i H2 => t o i v H2 fun H3 => Q σ H3
theorem pg_sub {o i : Expr} {to ti : TE} {t : TSet} (ho : PE X o to) (hi : PE X i ti) (hs : PSet X t)
  (ha : ∀ v, assign (.Subscript o i pos) X.env v = (do
   let ov ← holding [v] (eval o X.env)
   let iv ← holding [v, ov] (eval i X.env)
   standAt pos
   holding [v, ov, iv] (setItem ov iv v)
   release [v, ov, iv] []) := by intro _; rfl) : PG X (.Subscript o i pos) (gSub to ti t) := by
 intro pins s σ H v u Q I r h
 rw [ha]
 refine wpAny_bind (wpAny_holding (thn (ho pins s σ H _ I h) fun ov s1 ⟨x, H1, I1, r1, q1⟩ => ?_))
 refine wpAny_bind (wpAny_holding (thn (hi pins s1 σ H1 _ I1 q1) fun iv s2 ⟨y, H2, I2, r2, q2⟩ => ?_))
 refine wpAny_bind (wpAny_standAt (wpAny_bind (wpAny_holding (thn (hs pins s2 σ H2 x y v ov iv u _ I2 r1 r2 r q2) fun _ s3 ⟨H3, I3, q3⟩ => ?_))))
 exact wpAny_release ⟨σ, H3, I3, q3⟩
def tAsg (te : TE) (g : TG) : TS := fun D σ H => te σ H fun x H1 => g x σ H1 D.nx
theorem ps_asg {tg e : Expr} {te : TE} {g : TG} (he : PE X e te) (hg : PG X tg g) (hs : swapsWithSole [tg] e pos.line X.env = pure false := by rfl) (hw : swappedStores [tg] e X.env = pure none := by rfl)
  (h1 : (assignEach [tg] X.env).map (·.2) = [assign tg X.env] := by rfl) : PS X (.Assign [tg] e pos) (tAsg te g) := by
 intro pins s σ H D I h
 refine wpAny_Assign_stores (thn (he pins s σ H _ I h) fun v s1 ⟨x, H1, I1, r1, q1⟩ => ?_) hs hw
 rw [h1]
 exact thn (hg pins s1 σ H1 x v _ I1 r1 q1) fun _ s2 q => q
theorem ps_set {i : Nat} {x : Str} {e : Expr} {te : TE} {pos' : Pos} (hN : X.N.Nodup) (hi : X.N[i]? = some x) (hx : Loc X.env.scope x) (he : PE X e te) (hs : swapsWith e (some (.Name x pos')) pos.line X.env = pure false := by rfl) (hf : X.fn x = true ∨ X.env.scope.names.lookup x = some .local := by first | exact .inl rfl | exact .inr rfl | assumption) :
  PS X (.Assign [.Name x pos'] e pos) (tAsg te (gName i)) := by
 intro pins s σ H D I h
 refine wpAny_Assign_Name (thn (he pins s σ H _ I h) fun v s1 ⟨y, H1, I1, r1, q1⟩ => ?_) hs
 exact store_ok I1 hN hi hx r1 (fun s2 I2 => ⟨_, H1, I2, q1⟩) hf
def tPar (i j : Nat) (ta : TA) : TS := fun D σ H => ta σ H fun vs H1 => ∃ v w, vs = [v, w] /\ D.nx ((σ.set i (some v)).set j (some w)) H1
theorem ps_par {i j : Nat} {x y : Str} {a b : Expr} {ta : TA} {px py pt : Pos} {kt k2 pt2} (hc : X.calm = true) (hN : X.N.Nodup) (hi : X.N[i]? = some x) (hj : X.N[j]? = some y) (hij : i ≠ j)
  (hx : X.env.scope.names.lookup x = some .local) (hy : X.env.scope.names.lookup y = some .local) (ha : PA X [a, b] ta)
  (hw : swappedStores [.Tuple [.Name x px, .Name y py] kt pt] (.Tuple [a, b] k2 pt2) X.env = pure (some [x, y]))
  (hs : swapsWithSole [.Tuple [.Name x px, .Name y py] kt pt] (.Tuple [a, b] k2 pt2) pos.line X.env = pure false := by rfl) :
  PS X (.Assign [.Tuple [.Name x px, .Name y py] kt pt] (.Tuple [a, b] k2 pt2) pos) (tPar i j ta) := by
 intro pins s σ H D I h
 rw [exec_Assign_arm]
 refine wpAny_bind (wpAny_standAt ?_)
 rw [hs]
 refine wpAny_bind (wpAny_pure ?_)
 rw [if_neg (by decide)]
 refine wpAny_bind (Tuple_ (thn (ha _ pins s σ H _ I h) fun us s1 ⟨vs, H1, I1, r1, q1⟩ => ?_))
 obtain ⟨v, w, e1, q1⟩ := q1
 subst e1
 obtain ⟨u1, u2, rfl, rv, rw'⟩ : ∃ u1 u2, us = [u1, u2] /\ RelV v u1 /\ RelV w u2 := by
  cases r1 with
  | cons p q =>
   cases q with
   | cons p' q' =>
    cases q'
    exact ⟨_, _, rfl, p, p'⟩
 refine wpAny_newObj_type ?_ zl2
 have I2 : Inv X pins σ H1 { s1 with heap := s1.heap.push { cls := .type "tuple", data := .seq [u1, u2].toArray } } := I1.kept (t' := s1.toks) fun b o e => Heap.get?_push_of_some _ e
 rw [hw]
 refine wpAny_bind (wpAny_pure ?_)
 show wpAny (model X.prog X.w) X.A (do rule "assign.swapped-stores"; let items ← unpackItems (.ref s1.heap.objs.size) 2 none; assignInOrder [fun v => bindName X.env y v, fun v => bindName X.env x v] items.reverse; pure Flow.next) _ _ _
 refine wpAny_bind (wpAny_rule (wpAny_bind (unpackItems_tuple (items := #[u1, u2]) (I.ok.hd hc) (IsTup.new s1.heap _) fun h' hx' => ?_)))
 have I3 := I2.kept (h' := h') (t' := s1.toks) fun b o e => hx' b o (Nat.ne_of_lt (Heap.lt_size e)) e
 show wpAny _ _ (assignInOrder [fun v => bindName X.env y v, fun v => bindName X.env x v] [u2, u1] >>= fun _ => pure Flow.next) _ _ _
 refine wpAny_bind (assignInOrder_cons (wpAny_bindName (store_ok I3 hN hj (.inl hy) rw' (fun s2 I4 => ?_) (.inr hy))))
 refine assignInOrder_cons (wpAny_bindName (store_ok I4 hN hi (.inl hx) rv (fun s3 I5 => assignInOrder_nil (wpAny_pure ?_)) (.inr hx)))
 rw [List.set_comm _ _ (Ne.symm hij)] at I5
 exact ⟨_, H1, I5, q1⟩
def tAug (i : Nat) (te : TE) (ti : TIp) : TS := fun D σ H => ∃ x, σ[i]? = some (some x) /\ te σ H fun y H1 => ti x y H1 fun z H2 => D.nx (σ.set i (some z)) H2
theorem ps_aug {i : Nat} {x : Str} {e : Expr} {te : TE} {op : Operator} {ti : TIp} {pos' : Pos} (hN : X.N.Nodup) (hi : X.N[i]? = some x) (hx : Loc X.env.scope x) (he : PE X e te) (ho : PIp X op ti) (hf : X.fn x = true ∨ X.env.scope.names.lookup x = some .local := by first | exact .inl rfl | exact .inr rfl | assumption) :
  PS X (.AugAssign (.Name x pos') op e pos) (tAug i te ti) := by
 intro pins s σ H D I h
 obtain ⟨v, e1, h⟩ := h
 obtain ⟨m, hn, hl⟩ := I.loc
 have vis : Vis X.env.scope x := by rcases hx with k | k; exact .inl k; exact .inr (.inl k)
 obtain ⟨u, r, l⟩ := hl i x v hi e1 vis
 refine wpAny_AugAssign_Name ?_
 have go : wpAny (model X.prog X.w) X.A (eval e X.env) (fun w s₂ => wpAny (model X.prog X.w) X.A (inplaceOp op u w) (fun r s₃ => wpAny (model X.prog X.w) X.A (storeName X.env x r) (fun _ => SP X pins D .next) X.xe s₃) X.xe s₂) X.xe s := by
  refine thn (he pins s σ H _ I h) fun w s1 ⟨y, H1, I1, r1, q1⟩ => ?_
  refine thn (ho pins s1 σ H1 v y u w _ I1 r r1 q1) fun z s2 ⟨zv, H2, I2, r2, q2⟩ => ?_
  exact store_ok I2 hN hi hx r2 (fun s3 I3 => ⟨_, H2, I3, q2⟩) hf
 rcases l with ⟨hk, hm⟩ | ⟨hk, c, hc, hcell⟩
 ·exact wpAny_loadName_local I.ok.kind hk hn hm go
 ·rcases hk with hk | hk
  ·exact wpAny_loadName_cell I.ok.kind hk hc hcell go
  ·rcases hx with k | k
   ·have : X.env.scope.names.lookup x = some .free := hk
    rw [k] at this; cases this
   ·have : X.env.scope.names.lookup x = some .free := hk
    rw [k] at this; cases this
def tAugS (to ti te : TE) (tget : V -> V -> Hp -> VK -> Prop) (tip : TIp) (tset : TSet) : TS := fun D σ H => to σ H fun o H1 => ti σ H1 fun i H2 => tget o i H2 fun x H3 => te σ H3 fun y H4 => tip x y H4 fun z H5 => tset o i z H5 fun H6 => D.nx σ H6
def PGet (X : Cx) (t : V -> V -> Hp -> VK -> Prop) : Prop :=
 ∀ (pins : PLs) (s : Shared) (σ : St) (H : Hp) (o i : V) (ov iv : Value) (Q : VK), Inv X pins σ H s -> RelV o ov -> RelV i iv -> t o i H Q →
  wpAny (model X.prog X.w) X.A (getItem ov iv) (EP X pins σ Q) X.xe s
def ipI (f : Int -> Int -> Int) : TIp := fun x y H Q => ∃ i j, x = .int i /\ y = .int j /\ Q (.int (f i j)) H
theorem ip_add : PIp X .Add (ipI fun i j => i + j) := by
 intro pins s σ H x y v u Q I r1 r2 h
 obtain ⟨i, j, e1, e2, q⟩ := h
 subst e1; subst e2
 obtain ⟨t, rfl⟩ := r1
 obtain ⟨t', rfl⟩ := r2
 exact iadd_int ⟨.int _, H, I.tok _, ⟨_, rfl⟩, q⟩
end
section
variable {X : Cx} {pos : Pos}
def tWhile (c : TT) (tb : TS) : TS := fun D σ H => ∃ W : Nat -> St -> Hp -> Prop, (∃ m, W m σ H) /\ ∀ m σ H, W m σ H →
 c σ H fun b H1 => if b = true then ∃ N : St -> Hp -> Prop, (∀ σ' H', N σ' H' -> ∃ m', m' < m /\ W m' σ' H') /\ tb { D with nx := N, ct := N, bk := D.nx } σ H1 else D.nx σ H1
theorem ps_while {c : Expr} {body : List Stmt} {tc : TT} {tb : TS} (hp : PassesOwn (model X.prog X.w) X.A X.env X.xe) (hc : PT X c tc) (hb : PSs X body tb) : PS X (.While c body [] pos) (tWhile tc tb) := by
 intro pins s σ H D I h
 obtain ⟨W, ⟨m0, w0⟩, turn⟩ := h
 refine wpAny_While (codeAny_whileLoop (fun n s' => ∃ σ' H', Inv X pins σ' H' s' /\ W n σ' H') ?_ m0 ⟨σ, H, I, w0⟩)
 rintro n s1 ⟨σ1, H1, I1, w1⟩
 refine wpAny_passesOwn hp (thn (hc pins s1 σ1 H1 _ I1 (turn n σ1 H1 w1)) fun b s2 ⟨H2, I2, q2⟩ => ?_)
 cases b with
 | true =>
  obtain ⟨N, hN, q2⟩ := q2
  rw [if_pos rfl]
  refine wpAny_passesOwn hp (thn (hb pins s2 σ1 H2 _ I2 q2) fun f s3 q3 => ?_)
  cases f with
  | next =>
   obtain ⟨σ3, H3, I3, n3⟩ := q3
   obtain ⟨m', hm, w3⟩ := hN σ3 H3 n3
   exact ⟨m', hm, σ3, H3, I3, w3⟩
  | cont =>
   obtain ⟨σ3, H3, I3, n3⟩ := q3
   obtain ⟨m', hm, w3⟩ := hN σ3 H3 n3
   exact ⟨m', hm, σ3, H3, I3, w3⟩
  | brk => exact q3
  | ret v => exact q3
 | false =>
  rw [if_neg Bool.false_ne_true]
  exact wpAny_execs_nil ⟨σ1, H2, I2, q2⟩
end
structure It where
 go : Nat -> Hp -> Prop
 yld : Nat -> Hp -> V -> Hp -> Prop
 stop : Nat -> Hp -> Prop
def FpOk (X : Cx) (pins : PLs) (H : Hp) (b : Addr) : Prop :=
 H b = none /\ b ≠ X.env.locals /\ b ∉ X.fs /\ (b ∈ X.ex ∨ X.s₀.heap.get? b = none) /\ (∀ x c, X.env.cells.lookup x = some c -> c ≠ b) /\ ∀ p ∈ X.pn ++ pins, p.1 ≠ b
theorem Inv.fpOk {X : Cx} {pins : PLs} {σ : St} {H H' : Hp} {s : Shared} {b : Addr} (I : Inv X pins σ H s) (hb : s.heap.objs.size ≤ b) (hn : H' b = none) : FpOk X pins H' b := by
 refine ⟨hn, Nat.ne_of_gt (Nat.lt_of_lt_of_le I.lt hb), I.nofs hb, .inr (Heap.get?_none_of_le (Nat.le_trans I.sz hb)), fun x c e z => ?_, fun p hp z => ?_⟩
 ·obtain ⟨v, q⟩ := I.cell x c e
  exact absurd (Nat.lt_of_lt_of_le q.lt (by rw [z]; exact hb)) (Nat.lt_irrefl _)
 ·exact absurd (Nat.lt_of_lt_of_le (Heap.lt_size (I.pin p hp).1) (by rw [z]; exact hb)) (Nat.lt_irrefl _)
structure Turn (P : Program) (w : World) (K : Fg) (tg : Expr) (J : It) (fp : List Addr) (it : Addr) (tn : Nat -> Heap -> Prop) : Prop where
 mem : it ∈ fp
 obj : ∀ i h, tn i h -> ∀ b ∈ fp, ∃ o, h.get? b = some o /\ ∀ v, o.data ≠ .cell v
 keep : ∀ i h h', tn i h -> (∀ b ∈ fp, ∀ o, h.get? b = some o -> h'.get? b = some o) -> tn i h'
 item : ∀ (X : Cx), X.prog = P -> X.w = w -> X.K = K -> X.calm = true -> ∀ (i : Nat) (pins : PLs) (s : Shared) (σ : St) (H : Hp) (E : VSP), Inv X pins σ H s -> (∀ b ∈ fp, FpOk X pins H b) -> tn i s.heap -> J.go i H →
  wpAny (model P w) X.A (pyNext (.ref it)) (fun r s1 => ∃ u, r = some u ∧
   wpAny (model P w) X.A (letOwnedTupleGo tg (.ref it) u) (fun _ s2 => ∃ x H', Inv X pins σ H' s2 /\ RelV x u /\ J.yld i H x H' /\ tn (i + 1) s2.heap /\ ∀ b ∈ fp, H' b = none) E s1) E s
 done : ∀ (X : Cx), X.prog = P -> X.w = w -> X.K = K -> X.calm = true -> ∀ (i : Nat) (pins : PLs) (s : Shared) (σ : St) (H : Hp) (E : VSP), Inv X pins σ H s -> (∀ b ∈ fp, FpOk X pins H b) -> tn i s.heap -> J.stop i H →
  wpAny (model P w) X.A (pyNext (.ref it)) (fun r s1 => r = none /\ Inv X pins σ H s1) E s
 self : ∀ (A : Around) (i : Nat) (s : Shared) (Q : VSP) (E : VSP), tn i s.heap -> Q (.ref it) s -> wpAny (model P w) A (pyIter (.ref it)) Q E s
abbrev TI := St -> Hp -> (It -> Hp -> Prop) -> Prop
def PIE (X : Cx) (pins : PLs) (σ : St) (tg : Expr) (R : It -> Hp -> Prop) (itv : Value) (s2 : Shared) : Prop :=
 ∃ (it : Addr) (fp : List Addr) (tn : Nat -> Heap -> Prop) (J : It) (H' : Hp), itv = .ref it /\ Inv X pins σ H' s2 /\ Turn X.prog X.w X.K tg J fp it tn /\ tn 0 s2.heap /\ (∀ b ∈ fp, FpOk X pins H' b) /\ R J H'
def PI (X : Cx) (tg iter : Expr) (wi : TI) : Prop :=
 ∀ (pins : PLs) (s : Shared) (σ : St) (H : Hp) (R : It -> Hp -> Prop), Inv X pins σ H s -> wi σ H R →
  wpAny (model X.prog X.w) X.A (eval iter X.env) (fun v s1 => wpAny (model X.prog X.w) X.A (pyIter v) (PIE X pins σ tg R) X.xe s1) X.xe s
theorem go_of {M : Model} {A : Around} {E : VSP} {s : Shared} {tg : Expr} {it : Addr} {u : Value} {o : Obj} {n : String} {vs : Array Value} {Q : Unit -> Shared -> Prop} (ho : s.heap.get? it = some o) (hc : o.cls = .type n) (hd : o.data = .fields vs)
  (hn : ["enumerate", "zip", "dict_itemiterator", "dict_reverseitemiterator", "odict_iterator", "itertools.zip_longest", "itertools.pairwise"].contains n = false) (hQ : Q () s) : wpAny M A (letOwnedTupleGo tg (.ref it) u) Q E s := by
 unfold letOwnedTupleGo
 cases tg <;> first
  | exact wpAny_pure hQ
  | (cases u <;> first
    | exact wpAny_pure hQ
    | (refine wpAny_bind (wpAny_load ho ?_)
       rw [hc, hd]
       show wpAny M A (if (["enumerate", "zip", "dict_itemiterator", "dict_reverseitemiterator", "odict_iterator", "itertools.zip_longest", "itertools.pairwise"].contains n && vs[0]? == some (rawInt _)) = true then _ else _) Q E s
       rw [if_neg (by intro h; rw [hn, Bool.false_and] at h; cases h)]
       exact wpAny_pure hQ))
def Itl (K : Fg) (a : Addr) : It :=
 ⟨fun i H => ∃ xs x, SqL K H a xs /\ xs[i]? = some x, fun i H x H' => H' = H /\ ∀ xs, SqL K H a xs -> xs[i]? = some x, fun i H => ∃ xs, SqL K H a xs /\ xs.length ≤ i⟩
def Itt (K : Fg) (a : Addr) : It :=
 ⟨fun i H => ∃ xs x, SqT K H a xs /\ xs[i]? = some x, fun i H x H' => H' = H /\ ∀ xs, SqT K H a xs -> xs[i]? = some x, fun i H => ∃ xs, SqT K H a xs /\ xs.length ≤ i⟩
def Itr (lo : Int) (n : Nat) : It := ⟨fun i _ => i < n, fun i H x H' => H' = H /\ x = .int (lo + i), fun i _ => n ≤ i⟩
theorem turn_list {P : Program} {w : World} {K : Fg} {tg : Expr} (a it : Addr) : Turn P w K tg (Itl K a) [it] it (fun i h => h.IsListIter it a i) where
 mem := by simp
 obj := fun i h st b hb => by
  have e : b = it := by simpa using hb
  subst e
  obtain ⟨o, e, c, d⟩ := st
  exact ⟨o, e, fun v z => by rw [d] at z; cases z⟩
 keep := fun i h h' st k => st.at fun o e => k it (by simp) o e
 item := by
  intro X hP hw hK hc i pins s σ H E I hf st hg
  subst hP hw hK
  obtain ⟨xs, x, hq, hx⟩ := hg
  obtain ⟨its, rv, p, hz⟩ := I.list hq
  obtain ⟨u, hu, ru⟩ := rv.get hx
  obtain ⟨f0, f1, f2, f3, f4, f5⟩ := hf it (by simp)
  refine wpAny_pyNext_list_item st p.isList (x := u) (by simpa using hu) fun h' st' sb => ?_
  have I1 : Inv X pins σ H { s with heap := h' } := I.turned (t' := s.toks) (fun b o hb e => (sb.2 b hb).trans e) f0 f1 f3 f4 f5
  obtain ⟨o, e, c, d⟩ := id st'
  exact ⟨u, rfl, go_of (s := { s with heap := h' }) e c d (by decide) ⟨x, H, I1, ru, ⟨rfl, fun ys hy => by rw [I.list_inj hy hq]; exact hx⟩, st', fun b hb => (hf b hb).1⟩⟩
 done := by
  intro X hP hw hK hc i pins s σ H E I hf st hg
  subst hP hw hK
  obtain ⟨xs, hq, hx⟩ := hg
  obtain ⟨its, rv, p, hz⟩ := I.list hq
  obtain ⟨f0, f1, f2, f3, f4, f5⟩ := hf it (by simp)
  have hl := rv.length
  exact wpAny_pyNext_list_end (I.ok.hd hc) st p.isList (by simp; omega) fun h' eb => ⟨rfl, I.turned (t' := s.toks) (fun b o hb e => eb b o hb e) f0 f1 f3 f4 f5⟩
 self := fun _ _ _ _ _ st h => wpAny_pyIter_listiter st h
theorem turn_tuple {P : Program} {w : World} {K : Fg} {tg : Expr} (a it : Addr) : Turn P w K tg (Itt K a) [it] it (fun i h => h.IsTupleIter it a i) where
 mem := by simp
 obj := fun i h st b hb => by
  have e : b = it := by simpa using hb
  subst e
  obtain ⟨o, e, c, d⟩ := st
  exact ⟨o, e, fun v z => by rw [d] at z; cases z⟩
 keep := fun i h h' st k => st.at fun o e => k it (by simp) o e
 item := by
  intro X hP hw hK hc i pins s σ H E I hf st hg
  subst hP hw hK
  obtain ⟨xs, x, hq, hx⟩ := hg
  obtain ⟨its, rv, p, hz⟩ := I.tuple hq
  obtain ⟨u, hu, ru⟩ := rv.get hx
  obtain ⟨f0, f1, f2, f3, f4, f5⟩ := hf it (by simp)
  refine wpAny_pyNext_tuple_item st (show s.heap.IsTuple a its.toArray from p) (x := u) (by simpa using hu) fun h' st' sb => ?_
  have I1 : Inv X pins σ H { s with heap := h' } := I.turned (t' := s.toks) (fun b o hb e => (sb.2 b hb).trans e) f0 f1 f3 f4 f5
  obtain ⟨o, e, c, d⟩ := id st'
  exact ⟨u, rfl, go_of (s := { s with heap := h' }) e c d (by decide) ⟨x, H, I1, ru, ⟨rfl, fun ys hy => by rw [I.tuple_inj hy hq]; exact hx⟩, st', fun b hb => (hf b hb).1⟩⟩
 done := by
  intro X hP hw hK hc i pins s σ H E I hf st hg
  subst hP hw hK
  obtain ⟨xs, hq, hx⟩ := hg
  obtain ⟨its, rv, p, hz⟩ := I.tuple hq
  obtain ⟨f0, f1, f2, f3, f4, f5⟩ := hf it (by simp)
  have hl := rv.length
  exact wpAny_pyNext_tuple_end (I.ok.hd hc) st (show s.heap.IsTuple a its.toArray from p) (by simp; omega) fun h' eb => ⟨rfl, I.turned (t' := s.toks) (fun b o hb e => eb b o hb e) f0 f1 f3 f4 f5⟩
 self := fun _ _ _ _ _ st h => wpAny_pyIter_tupleiter st h
theorem turn_range {P : Program} {w : World} {K : Fg} {tg : Expr} (it : Addr) (lo : Int) (n : Nat) : Turn P w K tg (Itr lo n) [it] it (fun i h => IsRangeIter h it (lo + (i : Nat) * 1) ((n : Int) - (i : Nat)) 1) where
 mem := by simp
 obj := fun i h st b hb => by
  have e : b = it := by simpa using hb
  subst e
  exact ⟨_, st, fun v z => by
   have z' : Data.fields _ = Data.cell v := z
   cases z'⟩
 keep := fun i h h' st k => k it (by simp) _ st
 item := by
  intro X hP hw hK hc i pins s σ H E I hf st hg
  subst hP hw hK
  obtain ⟨f0, f1, f2, f3, f4, f5⟩ := hf it (by simp)
  have W := Walks.range (prog := X.prog) (w := X.w) (I.ok.hd hc) it lo 1 n
  refine W.item i s _ _ hg st fun v h' tk hv st' kk => ?_
  obtain ⟨t, rfl⟩ := hv
  have I1 : Inv X pins σ H { s with heap := h', toks := tk } := I.turned (fun b o hb e => kk b o (by simpa using hb) e) f0 f1 f3 f4 f5
  refine ⟨_, rfl, go_of (s := { s with heap := h', toks := tk }) (n := "range_iterator") st' rfl rfl (by decide) ⟨.int (lo + i), H, I1, ⟨t, ?_⟩, ⟨rfl, rfl⟩, st', fun b hb => (hf b hb).1⟩⟩
  rw [Int.mul_one]
 done := by
  intro X hP hw hK hc i pins s σ H E I hf st hg
  subst hP hw hK
  obtain ⟨f0, f1, f2, f3, f4, f5⟩ := hf it (by simp)
  exact wpAny_pyNext_range_end (I.ok.hd hc) st (by have : n ≤ i := hg; omega) fun h' eb => ⟨rfl, I.turned (t' := s.toks) (fun b o hb e => eb b o hb e) f0 f1 f3 f4 f5⟩
 self := fun _ _ _ _ _ st h => wpAny_pyIter_rangeiter st h
end L2
namespace L2
open PySem PySem.Spec PyProof.Rows
section
variable {X : Cx} {tg : Expr}
def iList (K : Fg) (tl : TE) : TI := fun σ H R => tl σ H fun x H1 => ∃ a, x = .ref a /\ (∃ xs, SqL K H1 a xs) /\ R (Itl K a) H1
def iTup (K : Fg) (tl : TE) : TI := fun σ H R => tl σ H fun x H1 => ∃ a, x = .ref a /\ (∃ xs, SqT K H1 a xs) /\ R (Itt K a) H1
theorem pi_list {l : Expr} {tl : TE} (hl : PE X l tl) : PI X tg l (iList X.K tl) := by
 intro pins s σ H R I h
 refine thn (hl pins s σ H _ I h) fun v s1 ⟨x, H1, I1, r1, q1⟩ => ?_
 obtain ⟨a, e, ⟨xs, hq⟩, q⟩ := q1
 subst e
 cases r1
 obtain ⟨its, rv, p, hz⟩ := I1.list hq
 refine wpAny_pyIter_list p.isList ?_
 refine ⟨s1.heap.objs.size, [s1.heap.objs.size], _, _, H1, rfl, I1.kept (t' := s1.toks) fun b o e => Heap.get?_push_of_some _ e, turn_list a _, ⟨_, Heap.get?_push_size _ rfl, rfl, rfl⟩, fun b hb => ?_, q⟩
 have e : b = s1.heap.objs.size := by simpa using hb
 subst e
 exact I1.fpOk (Nat.le_refl _) (I1.hok.fresh (Nat.le_refl _))
theorem pi_tup {l : Expr} {tl : TE} (hl : PE X l tl) : PI X tg l (iTup X.K tl) := by
 intro pins s σ H R I h
 refine thn (hl pins s σ H _ I h) fun v s1 ⟨x, H1, I1, r1, q1⟩ => ?_
 obtain ⟨a, e, ⟨xs, hq⟩, q⟩ := q1
 subst e
 cases r1
 obtain ⟨its, rv, p, hz⟩ := I1.tuple hq
 refine wpAny_pyIter_tuple (show s1.heap.IsTuple a its.toArray from p) ?_
 refine ⟨s1.heap.objs.size, [s1.heap.objs.size], _, _, H1, rfl, I1.kept (t' := s1.toks) fun b o e => Heap.get?_push_of_some _ e, turn_tuple a _, ⟨_, Heap.get?_push_size _ rfl, rfl, rfl⟩, fun b hb => ?_, q⟩
 have e : b = s1.heap.objs.size := by simpa using hb
 subst e
 exact I1.fpOk (Nat.le_refl _) (I1.hok.fresh (Nat.le_refl _))
theorem range_it {pins : PLs} {σ : St} {H : Hp} {s : Shared} {R : It -> Hp -> Prop} {E : VSP} {lo hi : Int} {t u v : Tok} {tk : Nat} (I : Inv X pins σ H s) (h1 : -(2 ^ 62) ≤ lo) (h2 : lo < 2 ^ 62) (h3 : -(2 ^ 62) ≤ hi) (h4 : hi < 2 ^ 62)
  (q : R (Itr lo (hi - lo).toNat) H) : wpAny (model X.prog X.w) X.A (pyIter (.ref s.heap.objs.size)) (PIE X pins σ tg R) E { s with heap := s.heap.push { cls := .type "range", data := .fields #[.int lo t, .int hi u, .int 1 v] }, toks := tk } := by
 refine wpAny_pyIter_range (IsRange.new ..) (small_one h1 h2 h3 h4) ?_
 have I1 : Inv X pins σ H { s with heap := s.heap.push { cls := .type "range", data := .fields #[.int lo t, .int hi u, .int 1 v] }, toks := tk } := I.kept fun b o e => Heap.get?_push_of_some _ e
 refine ⟨(s.heap.push { cls := .type "range", data := .fields #[.int lo t, .int hi u, .int 1 v] }).objs.size, [(s.heap.push { cls := .type "range", data := .fields #[.int lo t, .int hi u, .int 1 v] }).objs.size], _, _, H, rfl,
  I1.kept (t' := tk) fun b o e => Heap.get?_push_of_some _ e, turn_range _ lo (hi - lo).toNat, ?_, fun b hb => ?_, q⟩
 ·have e1 : lo + ((0 : Nat) : Int) * 1 = lo := by simp
  have e2 : (((hi - lo).toNat : Nat) : Int) - ((0 : Nat) : Int) = Builtin.Range.rangeSize lo hi 1 := by rw [rangeSize_one]; split <;> omega
  show IsRangeIter _ _ (lo + ((0 : Nat) : Int) * 1) ((((hi - lo).toNat : Nat) : Int) - ((0 : Nat) : Int)) 1
  rw [e1, e2]
  exact Heap.get?_push_size _ rfl
 ·have e : b = (s.heap.push { cls := .type "range", data := .fields #[.int lo t, .int hi u, .int 1 v] }).objs.size := by simpa using hb
  subst e
  exact I1.fpOk (Nat.le_refl _) (I1.hok.fresh (Nat.le_refl _))
def iRng1 (ta : TA) : TI := fun σ H R => ta σ H fun vs H1 => ∃ j : Int, vs = [.int j] /\ -(2 ^ 62) ≤ j /\ j < 2 ^ 62 /\ R (Itr 0 j.toNat) H1
def iRng2 (ta : TA) : TI := fun σ H R => ta σ H fun vs H1 => ∃ i j : Int, vs = [.int i, .int j] /\ (-(2 ^ 62) ≤ i /\ i < 2 ^ 62 /\ -(2 ^ 62) ≤ j /\ j < 2 ^ 62) /\ R (Itr i (j - i).toNat) H1
theorem pi_range1 {a : Expr} {ta : TA} {p pos : Pos} (hg : Gl X "range") (hm : X.mg "range" = none) (ha : PA X [a] ta) (hs : starEach [a] X.env = [(false, eval a X.env)] := by rfl) : PI X tg (.Call (.Name "range" p) [a] [] pos) (iRng1 ta) := by
 intro pins s σ H R I h
 refine Call_ (ld_blt I hg hm boot_range (PyProof.Rows.callWith_type1 (thn (ha pos pins s σ H _ I h) fun us s1 ⟨vs, H1, I1, r1, q1⟩ => ?_) hs rfl))
 obtain ⟨j, e, q1, q2, q⟩ := q1
 subst e
 cases r1 with
 | cons r rr =>
  cases rr
  obtain ⟨t, rfl⟩ := r
  exact call_range_1 (range_it I1 (by omega) (by omega) q1 q2 (by simpa using q))
def tFor (wi : TI) (g : TG) (tb : TS) : TS := fun D σ H => wi σ H fun J H1 => ∃ W : Nat -> Nat -> St -> Hp -> Prop, (∃ m, W 0 m σ H1) /\ ∀ i m σ H, W i m σ H →
 (J.stop i H /\ D.nx σ H) ∨ (J.go i H /\ ∃ N : St -> Hp -> Prop, (∀ σ' H', N σ' H' -> ∃ m', m' < m /\ W (i + 1) m' σ' H') /\ ∀ x H', J.yld i H x H' -> g x σ H' fun σ2 H2 => tb { D with nx := N, ct := N, bk := D.nx } σ2 H2)
def pinsAt (fp : List Addr) (h : Heap) : PLs := fp.filterMap fun b => (h.get? b).map fun o => (b, o)
theorem mem_pinsAt {fp : List Addr} {h : Heap} {b : Addr} {o : Obj} (hb : b ∈ fp) (e : h.get? b = some o) : (b, o) ∈ pinsAt fp h := List.mem_filterMap.mpr ⟨b, hb, by rw [e]; rfl⟩
theorem of_pinsAt {fp : List Addr} {h : Heap} {p : Addr × Obj} (hp : p ∈ pinsAt fp h) : p.1 ∈ fp /\ h.get? p.1 = some p.2 := by
 obtain ⟨b, hb, e⟩ := List.mem_filterMap.mp hp
 cases q : h.get? b with
 | none => rw [q] at e; cases e
 | some o =>
  rw [q] at e
  have e' : (b, o) = p := Option.some.inj e
  subst e'
  exact ⟨hb, q⟩
theorem Inv.pinned {pins : PLs} {σ : St} {H : Hp} {s : Shared} {fp : List Addr} (I : Inv X pins σ H s) (hf : ∀ b ∈ fp, FpOk X pins H b) (ho : ∀ b ∈ fp, ∃ o, s.heap.get? b = some o /\ ∀ v, o.data ≠ .cell v) : Inv X (pins ++ pinsAt fp s.heap) σ H s :=
 I.pins_of fun p hp => (List.mem_append.mp hp).elim (fun z => I.pin p (List.mem_append_right _ z)) fun z => by
  obtain ⟨hb, e⟩ := of_pinsAt z
  obtain ⟨f0, f1, f2, _⟩ := hf p.1 hb
  obtain ⟨o, e', d⟩ := ho p.1 hb
  rw [e] at e'; cases e'
  exact ⟨e, f0, f1, f2, d⟩
theorem Inv.unpinned {pins pl : PLs} {σ : St} {H : Hp} {s : Shared} (I : Inv X (pins ++ pl) σ H s) : Inv X pins σ H s := I.pins_of fun p hp => I.pin p (List.mem_append_right _ (List.mem_append_left _ hp))
theorem ps_for {iter : Expr} {body : List Stmt} {wi : TI} {g : TG} {tb : TS} {pos : Pos} (hp : PassesOwn (model X.prog X.w) X.A X.env X.xe) (hc : X.calm = true) (hi : PI X tg iter wi) (hg : PG X tg g) (hb : PSs X body tb)
  (hs : ∀ x, foldedSetIterable iter X.env x = pure x := by intro _; rfl) : PS X (.For tg iter body [] pos) (tFor wi g tb) := by
 intro pins s σ H D I h
 refine wpAny_For (thn (hi pins s σ H _ I h) fun v s1 h1 => thn h1 fun itv s2 h2 => ?_) hs
 obtain ⟨it, fp, tn, J, H2, e, I2, T, st2, f2, W, ⟨m0, w0⟩, turn⟩ := h2
 subst e
 have stat : ∀ {H' : Hp}, (∀ b ∈ fp, H' b = none) -> ∀ b ∈ fp, FpOk X pins H' b := fun hn b hb => ⟨hn b hb, (f2 b hb).2⟩
 refine codeAny_forLoop_any (fun n s' => ∃ i σ' H', Inv X pins σ' H' s' /\ tn i s'.heap /\ (∀ b ∈ fp, H' b = none) /\ W i n σ' H') ?_ m0 ⟨0, σ, H2, I2, st2, fun b hb => (f2 b hb).1, w0⟩
 rintro n s3 ⟨i, σ3, H3, I3, st3, fr3, w3⟩
 rcases turn i n σ3 H3 w3 with ⟨stop, qn⟩ | ⟨go, N, hN, step⟩
 ·refine wpAny_passesOwn hp (thn (T.done X rfl rfl rfl hc i pins s3 σ3 H3 X.xe I3 (stat fr3) st3 stop) fun r s4 ⟨hr, I4⟩ => ?_)
  subst hr
  exact wpAny_execs_nil ⟨σ3, H3, I4, qn⟩
 ·refine wpAny_passesOwn hp (thn (T.item X rfl rfl rfl hc i pins s3 σ3 H3 X.xe I3 (stat fr3) st3 go) fun r s4 ⟨u, hr, h4⟩ => ?_)
  subst hr
  refine wpAny_passesOwn hp (thn h4 fun _ s5 ⟨x, H5, I5, r5, y5, st5, fr5⟩ => ?_)
  have I5' := I5.pinned (stat fr5) (T.obj _ _ st5)
  refine wpAny_passesOwn hp (thn (hg _ s5 σ3 H5 x u _ I5' r5 (step x H5 y5)) fun _ s6 ⟨σ6, H6, I6, q6⟩ => ?_)
  refine wpAny_passesOwn hp (thn (hb _ s6 σ6 H6 _ I6 q6) fun f s7 q7 => ?_)
  have again : ∀ {σ7 : St} {H7 : Hp}, Inv X (pins ++ pinsAt fp s5.heap) σ7 H7 s7 -> N σ7 H7 -> ∃ m, m < n /\ ∃ i σ' H', Inv X pins σ' H' s7 /\ tn i s7.heap /\ (∀ b ∈ fp, H' b = none) /\ W i m σ' H' := fun {σ7 H7} I7 n7 => by
   obtain ⟨m', hm, w7⟩ := hN σ7 H7 n7
   refine ⟨m', hm, i + 1, σ7, H7, I7.unpinned, T.keep _ _ _ st5 fun b hb o e => (I7.pin (b, o) (List.mem_append_right _ (List.mem_append_right _ (mem_pinsAt hb e)))).1, fun b hb => ?_, w7⟩
   obtain ⟨o, e, d⟩ := T.obj _ _ st5 b hb
   exact (I7.pin (b, o) (List.mem_append_right _ (List.mem_append_right _ (mem_pinsAt hb e)))).2.1
  cases f with
  | next => obtain ⟨σ7, H7, I7, n7⟩ := q7; exact again I7 n7
  | cont => obtain ⟨σ7, H7, I7, n7⟩ := q7; exact again I7 n7
  | brk => obtain ⟨σ7, H7, I7, q7⟩ := q7; exact ⟨σ7, H7, I7.unpinned, q7⟩
  | ret v => obtain ⟨x7, σ7, H7, I7, r7, q7⟩ := q7; exact ⟨x7, σ7, H7, I7.unpinned, r7, q7⟩
end
theorem for_list {K : Fg} {a : Addr} {xs : List V} {g : TG} {tb : TS} {D : Ends} {σ : St} {H : Hp} (Pv : Nat -> St -> Hp -> Prop) (h0 : Pv 0 σ H) (hl : ∀ i σ H, i ≤ xs.length -> Pv i σ H -> SqL K H a xs)
  (hs : ∀ i x σ H, xs[i]? = some x -> Pv i σ H -> g x σ H fun σ2 H2 => tb { D with nx := Pv (i + 1), ct := Pv (i + 1), bk := D.nx } σ2 H2) (hd : ∀ σ H, Pv xs.length σ H -> D.nx σ H) :
  ∃ W : Nat -> Nat -> St -> Hp -> Prop, (∃ m, W 0 m σ H) /\ ∀ i m σ H, W i m σ H →
   ((Itl K a).stop i H /\ D.nx σ H) ∨ ((Itl K a).go i H /\ ∃ N : St -> Hp -> Prop, (∀ σ' H', N σ' H' -> ∃ m', m' < m /\ W (i + 1) m' σ' H') /\ ∀ x H', (Itl K a).yld i H x H' -> g x σ H' fun σ2 H2 => tb { D with nx := N, ct := N, bk := D.nx } σ2 H2) := by
 refine ⟨fun i m σ H => m = xs.length - i /\ i ≤ xs.length /\ Pv i σ H, ⟨xs.length, by simp, Nat.zero_le _, h0⟩, ?_⟩
 rintro i m σ H ⟨rfl, hi, p⟩
 have q := hl i σ H hi p
 by_cases hlt : i < xs.length
 ·refine .inr ⟨⟨xs, xs[i], q, by simp [hlt]⟩, Pv (i + 1), fun σ' H' p' => ⟨xs.length - (i + 1), by omega, rfl, hlt, p'⟩, fun x H' y => ?_⟩
  obtain ⟨e, y⟩ := y
  subst e
  exact hs i x σ _ (y xs q) p
 ·have e : i = xs.length := by omega
  subst e
  exact .inl ⟨⟨xs, q, Nat.le_refl _⟩, hd σ H p⟩
theorem for_tup {K : Fg} {a : Addr} {xs : List V} {g : TG} {tb : TS} {D : Ends} {σ : St} {H : Hp} (Pv : Nat -> St -> Hp -> Prop) (h0 : Pv 0 σ H) (hl : ∀ i σ H, i ≤ xs.length -> Pv i σ H -> SqT K H a xs)
  (hs : ∀ i x σ H, xs[i]? = some x -> Pv i σ H -> g x σ H fun σ2 H2 => tb { D with nx := Pv (i + 1), ct := Pv (i + 1), bk := D.nx } σ2 H2) (hd : ∀ σ H, Pv xs.length σ H -> D.nx σ H) :
  ∃ W : Nat -> Nat -> St -> Hp -> Prop, (∃ m, W 0 m σ H) /\ ∀ i m σ H, W i m σ H →
   ((Itt K a).stop i H /\ D.nx σ H) ∨ ((Itt K a).go i H /\ ∃ N : St -> Hp -> Prop, (∀ σ' H', N σ' H' -> ∃ m', m' < m /\ W (i + 1) m' σ' H') /\ ∀ x H', (Itt K a).yld i H x H' -> g x σ H' fun σ2 H2 => tb { D with nx := N, ct := N, bk := D.nx } σ2 H2) := by
 refine ⟨fun i m σ H => m = xs.length - i /\ i ≤ xs.length /\ Pv i σ H, ⟨xs.length, by simp, Nat.zero_le _, h0⟩, ?_⟩
 rintro i m σ H ⟨rfl, hi, p⟩
 have q := hl i σ H hi p
 by_cases hlt : i < xs.length
 ·refine .inr ⟨⟨xs, xs[i], q, by simp [hlt]⟩, Pv (i + 1), fun σ' H' p' => ⟨xs.length - (i + 1), by omega, rfl, hlt, p'⟩, fun x H' y => ?_⟩
  obtain ⟨e, y⟩ := y
  subst e
  exact hs i x σ _ (y xs q) p
 ·have e : i = xs.length := by omega
  subst e
  exact .inl ⟨⟨xs, q, Nat.le_refl _⟩, hd σ H p⟩
theorem for_range {lo : Int} {n : Nat} {g : TG} {tb : TS} {D : Ends} {σ : St} {H : Hp} (Pv : Nat -> St -> Hp -> Prop) (h0 : Pv 0 σ H)
  (hs : ∀ i σ H, i < n -> Pv i σ H -> g (.int (lo + i)) σ H fun σ2 H2 => tb { D with nx := Pv (i + 1), ct := Pv (i + 1), bk := D.nx } σ2 H2) (hd : ∀ σ H, Pv n σ H -> D.nx σ H) :
  ∃ W : Nat -> Nat -> St -> Hp -> Prop, (∃ m, W 0 m σ H) /\ ∀ i m σ H, W i m σ H →
   ((Itr lo n).stop i H /\ D.nx σ H) ∨ ((Itr lo n).go i H /\ ∃ N : St -> Hp -> Prop, (∀ σ' H', N σ' H' -> ∃ m', m' < m /\ W (i + 1) m' σ' H') /\ ∀ x H', (Itr lo n).yld i H x H' -> g x σ H' fun σ2 H2 => tb { D with nx := N, ct := N, bk := D.nx } σ2 H2) := by
 refine ⟨fun i m σ H => m = n - i /\ i ≤ n /\ Pv i σ H, ⟨n, by simp, Nat.zero_le _, h0⟩, ?_⟩
 rintro i m σ H ⟨rfl, hi, p⟩
 by_cases hlt : i < n
 ·refine .inr ⟨hlt, Pv (i + 1), fun σ' H' p' => ⟨n - (i + 1), by omega, rfl, hlt, p'⟩, fun x H' y => ?_⟩
  obtain ⟨e, y⟩ := y
  subst e y
  exact hs i σ _ hlt p
 ·have e : i = n := by omega
  subst e
  exact .inl ⟨Nat.le_refl _, hd σ H p⟩
end L2
namespace L2
open PySem PySem.Spec PyProof.Rows
abbrev R2 := V -> V -> Hp -> VK -> Prop
def OpR (X : Cx) (f : Value -> Value -> Sem Value) (r : R2) : Prop :=
 ∀ (pins : PLs) (s : Shared) (σ : St) (H : Hp) (x y : V) (v u : Value) (Q : VK), Inv X pins σ H s -> RelV x v -> RelV y u -> r x y H Q →
  wpAny (model X.prog X.w) X.A (f v u) (EP X pins σ Q) X.xe s
def UnR (X : Cx) (f : Value -> Sem Value) (r : V -> Hp -> VK -> Prop) : Prop :=
 ∀ (pins : PLs) (s : Shared) (σ : St) (H : Hp) (x : V) (v : Value) (Q : VK), Inv X pins σ H s -> RelV x v -> r x H Q →
  wpAny (model X.prog X.w) X.A (f v) (EP X pins σ Q) X.xe s
def CallR (X : Cx) (f : Value) (r : List V -> Hp -> VK -> Prop) : Prop :=
 ∀ (pins : PLs) (s : Shared) (σ : St) (H : Hp) (xs : List V) (us : List Value) (Q : VK), Inv X pins σ H s -> Vals xs us -> r xs H Q →
  wpAny (model X.prog X.w) X.A (call f us) (EP X pins σ Q) X.xe s
def TruR (X : Cx) (r : V -> Hp -> (Bool -> Hp -> Prop) -> Prop) : Prop :=
 ∀ (pins : PLs) (s : Shared) (σ : St) (H : Hp) (x : V) (v : Value) (Q : Bool -> Hp -> Prop), Inv X pins σ H s -> RelV x v -> r x H Q →
  wpAny (model X.prog X.w) X.A (truthy v) (TP X pins σ Q) X.xe s
def tOp (r : R2) (ta tb : TE) : TE := fun σ H Q => ta σ H fun x H1 => tb σ H1 fun y H2 => r x y H2 Q
def tUn (r : V -> Hp -> VK -> Prop) (ta : TE) : TE := fun σ H Q => ta σ H fun x H1 => r x H1 Q
def rI (C : Int -> Int -> Prop) (g : Int -> Int -> V) : R2 := fun x y H Q => ∃ i j, x = .int i /\ y = .int j /\ C i j /\ Q (g i j) H
def rI0 (g : Int -> Int -> V) : R2 := fun x y H Q => ∃ i j, x = .int i /\ y = .int j /\ Q (g i j) H
def rU (g : Int -> V) : V -> Hp -> VK -> Prop := fun x H Q => ∃ i, x = .int i /\ Q (g i) H
section
variable {X : Cx} {a b c : Expr} {ta tb tc : TE} {pos : Pos}
theorem binT (ha : PE X a ta) (hb : PE X b tb) {pins : PLs} {s : Shared} {σ : St} {H : Hp} {R : V -> V -> Hp -> Prop} (I : Inv X pins σ H s)
  (h : ta σ H fun x H1 => tb σ H1 fun y H2 => R x y H2) {Q : VSP} {f : Value -> Value -> Sem Value}
  (hf : ∀ v u s2 x y H2, Inv X pins σ H2 s2 -> RelV x v -> RelV y u -> R x y H2 -> wpAny (model X.prog X.w) X.A (f v u) Q X.xe s2) :
  wpAny (model X.prog X.w) X.A (eval a X.env) (fun v s₁ => wpAny (model X.prog X.w) X.A (eval b X.env) (fun u s₂ => wpAny (model X.prog X.w) X.A (f v u) Q X.xe s₂) X.xe s₁) X.xe s := by
 refine thn (ha pins s σ H _ I h) fun v s1 ⟨x, H1, I1, r1, q1⟩ => ?_
 refine thn (hb pins s1 σ H1 _ I1 q1) fun u s2 ⟨y, H2, I2, r2, q2⟩ => ?_
 exact hf v u s2 x y H2 I2 r1 r2 q2
theorem pe_op {op : Operator} {r : R2} (ho : OpR X (binaryOp op) r) (ha : PE X a ta) (hb : PE X b tb) : PE X (.BinOp a op b pos) (tOp r ta tb) := by
 intro pins s σ H Q I h
 exact wpAny_BinOp (binT ha hb I h fun v u s2 x y H2 I2 rx ry q => ho pins s2 σ H2 x y v u Q I2 rx ry q)
theorem pe_un {op : UnaryOp} {r : V -> Hp -> VK -> Prop} (ho : UnR X (unaryOp op) r) (ha : PE X a ta) : PE X (.UnaryOp op a pos) (tUn r ta) := by
 intro pins s σ H Q I h
 exact UnaryOp_ (thn (ha pins s σ H _ I h) fun v s1 ⟨x, H1, I1, r1, q1⟩ => ho pins s1 σ H1 x v Q I1 r1 q1)
theorem opI {f : Value -> Value -> Sem Value} {C : Int -> Int -> Prop} {g : Int -> Int -> Int}
  (rule : ∀ (i j : Int) (t u : Tok) (s : Shared) (Q : VSP) (E : VSP), C i j -> Q (.int (g i j) s.toks) { s with toks := s.toks + 1 } -> wpAny (model X.prog X.w) X.A (f (.int i t) (.int j u)) Q E s) :
  OpR X f (rI C fun i j => .int (g i j)) := by
 intro pins s σ H x y v u Q I rx ry h
 obtain ⟨i, j, rfl, rfl, hc, q⟩ := h
 obtain ⟨t, rfl⟩ := rx
 obtain ⟨t', rfl⟩ := ry
 exact rule i j t t' s _ _ hc ⟨.int (g i j), H, I.tok _, ⟨_, rfl⟩, q⟩
theorem opI0 {f : Value -> Value -> Sem Value} {g : Int -> Int -> Int}
  (rule : ∀ (i j : Int) (t u : Tok) (s : Shared) (Q : VSP) (E : VSP), Q (.int (g i j) s.toks) { s with toks := s.toks + 1 } -> wpAny (model X.prog X.w) X.A (f (.int i t) (.int j u)) Q E s) :
  OpR X f (rI0 fun i j => .int (g i j)) := by
 intro pins s σ H x y v u Q I rx ry h
 obtain ⟨i, j, rfl, rfl, q⟩ := h
 obtain ⟨t, rfl⟩ := rx
 obtain ⟨t', rfl⟩ := ry
 exact rule i j t t' s _ _ ⟨.int (g i j), H, I.tok _, ⟨_, rfl⟩, q⟩
theorem opB0 {f : Value -> Value -> Sem Value} {g : Int -> Int -> Bool}
  (rule : ∀ (i j : Int) (t u : Tok) (s : Shared) (Q : VSP) (E : VSP), Q (.bool (g i j)) s -> wpAny (model X.prog X.w) X.A (f (.int i t) (.int j u)) Q E s) :
  OpR X f (rI0 fun i j => .bl (g i j)) := by
 intro pins s σ H x y v u Q I rx ry h
 obtain ⟨i, j, rfl, rfl, q⟩ := h
 obtain ⟨t, rfl⟩ := rx
 obtain ⟨t', rfl⟩ := ry
 exact rule i j t t' s _ _ ⟨.bl (g i j), H, I, rfl, q⟩
def CDiv (i j : Int) : Prop := 0 < j /\ j < 1073741824
def CDivN (i j : Int) : Prop := j ≠ 0 /\ j.natAbs < 1073741824
def CPow (i j : Int) : Prop := 0 ≤ j /\ j ≤ 1000000 /\ i.natAbs < 2 ^ 64
def CMul (i j : Int) : Prop := (-(2 ^ 64) < i /\ i < 2 ^ 64) ∨ (-(2 ^ 64) < j /\ j < 2 ^ 64)
theorem CMul.ok {i j : Int} (h : CMul i j) : IntMulOk i j := by
 rcases h with ⟨h1, h2⟩ | ⟨h1, h2⟩
 ·exact .of_left (intBits_le_64 h1 h2)
 ·exact .of_right (intBits_le_64 h1 h2)
theorem op_add : OpR X (binaryOp .Add) (rI0 fun i j => .int (i + j)) := opI0 fun _ _ _ _ _ _ _ q => add_int q
theorem op_sub : OpR X (binaryOp .Sub) (rI0 fun i j => .int (i - j)) := opI0 fun _ _ _ _ _ _ _ q => sub_int q
theorem op_mul : OpR X (binaryOp .Mult) (rI CMul fun i j => .int (i * j)) := opI fun _ _ _ _ _ _ _ hc q => mul_int q hc.ok
theorem op_fdiv : OpR X (binaryOp .FloorDiv) (rI CDiv fun i j => .int (i / j)) := opI fun i j _ _ _ _ _ hc q => by
 have h1 : (0 : Int) < j := hc.1
 have h2 : j < 1073741824 := hc.2
 exact floordiv_int (by omega) (by rw [Int.fdiv_eq_ediv_of_nonneg i (by omega)]; exact q) (.inl (PyProof.noPylong_small (by omega)))
theorem op_mod : OpR X (binaryOp .Mod) (rI (fun _ j => 0 < j) fun i j => .int (i % j)) := opI fun i j _ _ _ _ _ hc q => by
 have h1 : (0 : Int) < j := hc
 exact mod_int' (by omega) (by rw [Int.fmod_eq_emod_of_nonneg i (by omega)]; exact q)
theorem op_pow : OpR X (binaryOp .Pow) (rI CPow fun i j => .int (i ^ j.toNat)) := opI fun _ _ _ _ _ _ _ hc q => pow_int_small hc.1 hc.2.1 hc.2.2 q
theorem unI {f : Value -> Sem Value} {g : Int -> Int}
  (rule : ∀ (i : Int) (t : Tok) (s : Shared) (Q : VSP) (E : VSP), Q (.int (g i) s.toks) { s with toks := s.toks + 1 } -> wpAny (model X.prog X.w) X.A (f (.int i t)) Q E s) :
  UnR X f (rU fun i => .int (g i)) := by
 intro pins s σ H x v Q I rx h
 obtain ⟨i, rfl, q⟩ := h
 obtain ⟨t, rfl⟩ := rx
 exact rule i t s _ _ ⟨.int (g i), H, I.tok _, ⟨_, rfl⟩, q⟩
theorem un_neg : UnR X (unaryOp .USub) (rU fun i => .int (-i)) := unI fun _ _ _ _ _ q => neg_int q
end
def scal : V -> V -> Bool
 | .non, .non => true | .non, .int _ => true | .int _, .non => true | .non, .bl _ => true | .bl _, .non => true | .non, .str _ => true | .str _, .non => true
 | .int _, .int _ => true | .bl _, .bl _ => true | .str _, .str _ => true | .byt _, .byt _ => true
 | .int _, .str _ => true | .str _, .int _ => true | .bl _, .str _ => true | .str _, .bl _ => true
 | _, _ => false
def rEq : R2 := fun x y H Q => scal x y = true /\ Q (.bl (decide (x = y))) H
def rNe : R2 := fun x y H Q => scal x y = true /\ Q (.bl (!decide (x = y))) H
theorem dec_int {i j : Int} : decide (V.int i = V.int j) = (i == j) := by
 rw [Bool.eq_iff_iff]
 simp
theorem dec_bl {i j : Bool} : decide (V.bl i = V.bl j) = (i == j) := by
 rw [Bool.eq_iff_iff]
 simp
theorem dec_str {i j : Str} : decide (V.str i = V.str j) = (i == j) := by
 rw [Bool.eq_iff_iff]
 simp
theorem dec_byt {i j : Array UInt8} : decide (V.byt i = V.byt j) = (i.toList == j.toList) := by
 rw [Bool.eq_iff_iff]
 cases i
 cases j
 simp
section
variable {X : Cx} {a b c : Expr} {ta tb tc : TE} {pos : Pos}
theorem fin_bl {pins : PLs} {σ : St} {H : Hp} {s : Shared} {Q : VK} {k k' : Bool} (I : Inv X pins σ H s) (q : Q (.bl k) H) (e : k = k') : EP X pins σ Q (.bool k') s := by
 subst e
 exact ⟨.bl k, H, I, rfl, q⟩
theorem op_eq : OpR X (compareOp .Eq) rEq := by
 intro pins s σ H x y v u Q I rx ry h
 obtain ⟨hs, q⟩ := h
 cases x with
 | non =>
  cases rx
  cases y with
  | non => cases ry; exact PySem.EqNone.eq_none_none (fin_bl I q (by simp))
  | bl j => cases ry; exact PySem.EqNone.eq_none_bool (fin_bl I q (by simp))
  | int j => obtain ⟨t', rfl⟩ := ry; exact PySem.EqNone.eq_none_int (fin_bl I q (by simp))
  | str j => obtain ⟨t', rfl⟩ := ry; exact PySem.EqNone.eq_none_str (fin_bl I q (by simp))
  | _ => exact absurd (show false = true from hs) Bool.false_ne_true
 | bl i =>
  cases rx
  cases y with
  | non => cases ry; exact PySem.EqNone.eq_bool_none (fin_bl I q (by simp))
  | bl j => cases ry; exact eq_bool (fin_bl I q dec_bl)
  | str j => obtain ⟨t', rfl⟩ := ry; exact PySem.EqMixed.eq_bool_str (fin_bl I q (by simp))
  | _ => exact absurd (show false = true from hs) Bool.false_ne_true
 | int i =>
  obtain ⟨t, rfl⟩ := rx
  cases y with
  | non => cases ry; exact PySem.EqNone.eq_int_none (fin_bl I q (by simp))
  | int j => obtain ⟨t', rfl⟩ := ry; exact eq_int (fin_bl I q dec_int)
  | str j => obtain ⟨t', rfl⟩ := ry; exact PySem.EqMixed.eq_int_str (fin_bl I q (by simp))
  | _ => exact absurd (show false = true from hs) Bool.false_ne_true
 | str i =>
  obtain ⟨t, rfl⟩ := rx
  cases y with
  | non => cases ry; exact PySem.EqNone.eq_str_none (fin_bl I q (by simp))
  | bl j => cases ry; exact PySem.EqMixed.eq_str_bool (fin_bl I q (by simp))
  | int j => obtain ⟨t', rfl⟩ := ry; exact PySem.EqMixed.eq_str_int (fin_bl I q (by simp))
  | str j => obtain ⟨t', rfl⟩ := ry; exact eq_str (fin_bl I q dec_str)
  | _ => exact absurd (show false = true from hs) Bool.false_ne_true
 | byt i =>
  obtain ⟨t, rfl⟩ := rx
  cases y with
  | byt j => obtain ⟨t', rfl⟩ := ry; exact PySem.W.eq_bytes (fin_bl I q dec_byt)
  | _ => exact absurd (show false = true from hs) Bool.false_ne_true
 | _ => cases y <;> exact absurd (show false = true from hs) Bool.false_ne_true
theorem op_ne : OpR X (compareOp .NotEq) rNe := by
 intro pins s σ H x y v u Q I rx ry h
 obtain ⟨hs, q⟩ := h
 cases x with
 | non =>
  cases rx
  cases y with
  | non => cases ry; exact PySem.EqNone.ne_none_none (fin_bl I q (by simp))
  | bl j => cases ry; exact PySem.EqNone.ne_none_bool (fin_bl I q (by simp))
  | int j => obtain ⟨t', rfl⟩ := ry; exact PySem.EqNone.ne_none_int (fin_bl I q (by simp))
  | str j => obtain ⟨t', rfl⟩ := ry; exact PySem.EqNone.ne_none_str (fin_bl I q (by simp))
  | _ => exact absurd (show false = true from hs) Bool.false_ne_true
 | bl i =>
  cases rx
  cases y with
  | non => cases ry; exact PySem.EqNone.ne_bool_none (fin_bl I q (by simp))
  | bl j => cases ry; exact ne_bool (fin_bl I q (congrArg not dec_bl))
  | str j => obtain ⟨t', rfl⟩ := ry; exact PySem.EqMixed.ne_bool_str (fin_bl I q (by simp))
  | _ => exact absurd (show false = true from hs) Bool.false_ne_true
 | int i =>
  obtain ⟨t, rfl⟩ := rx
  cases y with
  | non => cases ry; exact PySem.EqNone.ne_int_none (fin_bl I q (by simp))
  | int j => obtain ⟨t', rfl⟩ := ry; exact ne_int (fin_bl I q (congrArg not dec_int))
  | str j => obtain ⟨t', rfl⟩ := ry; exact PySem.EqMixed.ne_int_str (fin_bl I q (by simp))
  | _ => exact absurd (show false = true from hs) Bool.false_ne_true
 | str i =>
  obtain ⟨t, rfl⟩ := rx
  cases y with
  | non => cases ry; exact PySem.EqNone.ne_str_none (fin_bl I q (by simp))
  | bl j => cases ry; exact PySem.EqMixed.ne_str_bool (fin_bl I q (by simp))
  | int j => obtain ⟨t', rfl⟩ := ry; exact PySem.EqMixed.ne_str_int (fin_bl I q (by simp))
  | str j => obtain ⟨t', rfl⟩ := ry; exact ne_str (fin_bl I q (congrArg not dec_str))
  | _ => exact absurd (show false = true from hs) Bool.false_ne_true
 | byt i =>
  obtain ⟨t, rfl⟩ := rx
  cases y with
  | byt j => obtain ⟨t', rfl⟩ := ry; exact PySem.W.ne_bytes (fin_bl I q (congrArg not dec_byt))
  | _ => exact absurd (show false = true from hs) Bool.false_ne_true
 | _ => cases y <;> exact absurd (show false = true from hs) Bool.false_ne_true
theorem op_lt : OpR X (compareOp .Lt) (rI0 fun i j => .bl (decide (i < j))) := opB0 fun _ _ _ _ _ _ _ q => lt_int q
theorem op_gt : OpR X (compareOp .Gt) (rI0 fun i j => .bl (decide (j < i))) := opB0 fun _ _ _ _ _ _ _ q => gt_int q
theorem op_ge : OpR X (compareOp .GtE) (rI0 fun i j => .bl (decide (j ≤ i))) := opB0 fun _ _ _ _ _ _ _ q => ge_int q
def isObj : HO -> Bool
 | .lst _ => true
 | .ins _ _ _ => true
 | _ => false
theorem nomark (b : Expr) {op : CmpOp} (h : op ≠ .In := by decide) (h2 : op ≠ .NotIn := by decide) : behindInMarks op b = false := by
 have e1 : (op == CmpOp.In) = false := by cases op <;> first | rfl | exact absurd rfl h
 have e2 : (op == CmpOp.NotIn) = false := by cases op <;> first | rfl | exact absurd rfl h2
 cases b <;> simp [behindInMarks, e1, e2]
theorem pe_cmpR {op : CmpOp} {r : R2} (ho : OpR X (compareOp op) r) (ha : PE X a ta) (hb : PE X b tb) (hm : behindInMarks op b = false) : PE X (.Compare a [op] [b] pos) (tOp r ta tb) := by
 intro pins s σ H Q I h
 exact wpAny_Compare1 (binT ha hb I h fun v u s2 x y H2 I2 rx ry q => ho pins s2 σ H2 x y v u Q I2 rx ry q) hm
def tTest (t : TE) : TT := fun σ H Q => t σ H fun x H' => ∃ k, x = .bl k /\ Q k H'
theorem pt_cmpR {op : CmpOp} {r : R2} (ho : OpR X (compareOp op) r) (ha : PE X a ta) (hb : PE X b tb) (hm : behindInMarks op b = false) : PT X (.Compare a [op] [b] pos) (tTest (tOp r ta tb)) := by
 intro pins s σ H Q I h
 refine wpAny_isTrue_Compare1 (thn (ha pins s σ H _ I h) fun v s1 ⟨x, H1, I1, r1, q1⟩ => thn (hb pins s1 σ H1 _ I1 q1) fun u s2 ⟨y, H2, I2, r2, q2⟩ =>
  thn (ho pins s2 σ H2 x y v u _ I2 r1 r2 q2) fun c s3 ⟨z, H3, I3, r3, k, e, q3⟩ => ?_) hm
 subst e
 cases r3
 exact wpAny_truthy_bool ⟨H3, I3, q3⟩
def tChain (r r' : R2) (ta tb tc : TE) : TE := fun σ H Q => ta σ H fun x H1 => tb σ H1 fun y H2 => r x y H2 fun z H3 => ∃ k, z = .bl k ∧
 (if k = true then tc σ H3 fun w' H4 => r' y w' H4 Q else Q (.bl false) H3)
def TruV (K : Fg) (x : V) (H : Hp) (k : Bool) : Prop :=
 match x with
 | .non => k = false
 | .bl b => k = b
 | .int i => k = (i != 0)
 | .str y => y.length ≤ sizeLine /\ k = ((y.length : Int) != 0)
 | .byt y => y.size ≤ sizeLine /\ k = ((y.size : Int) != 0)
 | .ref p => (∃ xs, SqL K H p xs /\ k = !xs.isEmpty) ∨ (∃ xs, SqT K H p xs /\ k = !xs.isEmpty) ∨ ∃ kvs, H p = some (.dK kvs) /\ k = !kvs.isEmpty
 | _ => False
theorem line63 : (sizeLine : Nat) < 2 ^ 63 := by rw [sizeLine_eq]; decide
def PlainIxT (b : Expr) : Prop := ∀ o i, subscripted b false o i = operate [o, i] (getItem o i)
theorem vals1 {x : V} {us : List Value} (r : Vals [x] us) : ∃ u, us = [u] /\ RelV x u := by
 cases r with
 | cons r1 r2 => cases r2; exact ⟨_, rfl, r1⟩
theorem vals2 {x y : V} {us : List Value} (r : Vals [x, y] us) : ∃ u w', us = [u, w'] /\ RelV x u /\ RelV y w' := by
 cases r with
 | cons r1 r2 =>
  cases r2 with
  | cons r3 r4 => cases r4; exact ⟨_, _, rfl, r1, r3⟩
theorem call_abs : CallR X (.builtin "abs") (fun xs H Q => ∃ i, xs = [.int i] /\ Q (.int (if i < 0 then -i else i)) H) := by
 intro pins s σ H xs us Q I r h
 obtain ⟨i, rfl, q⟩ := h
 obtain ⟨u, rfl, t, rfl⟩ := vals1 r
 exact call_abs_int fun u tk => ⟨.int (if i < 0 then -i else i), H, I.tok _, ⟨_, rfl⟩, q⟩
def LenV (K : Fg) (x : V) (H : Hp) (n : Nat) : Prop :=
 match x with
 | .str y => y.length ≤ sizeLine /\ n = y.length
 | .byt y => y.size ≤ sizeLine /\ n = y.size
 | .ref p => (∃ xs, SqL K H p xs /\ n = xs.length) ∨ ∃ xs, SqT K H p xs /\ n = xs.length
 | _ => False
end
end L2
namespace L2
open PySem PySem.Spec PyProof.Rows
structure ObjM (h : Heap) (x dx C : Addr) (mA : Str -> Option Value) : Prop where
 obj : h.get? x = some (PySem.W.instObj C dx)
 ns : h.Ns1 dx mA
 ne : dx ≠ x
section
variable {prog : Program} {w : World} {A : Around} {E : VSP} {s : Shared} {K : Fg} {x dx C f : Addr} {mA : Str -> Option Value} {name : Str} {v : Value}
end
def putF (f : Str) (v : V) : List (Str × V) -> List (Str × V)
 | [] => [(f, v)]
 | (g, x) :: r => if g = f then (g, v) :: r else (g, x) :: putF f v r
theorem RelO.some_of {v : V} {o : Option Value} (r : RelO (some v) o) : ∃ u, o = some u /\ RelV v u := by
 cases o with
 | none => exact (show False from r).elim
 | some u => exact ⟨u, rfl, r⟩
section
variable {P : Program} {w : World} {H H' : Hp} {h h' : Heap} {a C dx : Addr} {fs fs' : List (Str × V)}
end
structure Cls (K : Fg) (C : Addr) : Prop where
 pg : PySem.W.plainGet K C Str.empty = true
 hd : PySem.W.hasDictIn K C = true
 po : PySem.W.plainOver K C = true
 sa : PySem.W.findIn K (.ref C) "__setattr__" = some (some (.builtin "object.__setattr__"))
def NoAttr (K : Fg) (C : Addr) (f : Str) : Prop := PySem.W.findIn K (.ref C) f = some none
structure Con (K : Fg) (C : Addr) (f : Str) (v : V) (u : Value) : Prop where
 at_ : PySem.W.findIn K (.ref C) f = some (some u)
 rel : RelV v u
 get : PySem.W.specialIn K u "__get__" = some none
 cp : PySem.W.copiedNames.contains f = false
structure Meth (K : Fg) (C : Addr) (m : Str) (f : Addr) : Prop where
 at_ : PySem.W.findIn K (.ref C) m = some (some (.ref f))
 fn : PySem.W.isFn K (.ref f) = true
 kp : PySem.W.keepIn K (.ref f) = true
section
variable {X : Cx} {pins : PLs} {σ : St} {H : Hp} {s : Shared} {a C dx : Addr} {fs : List (Str × V)} {f : Str} {v : V} {A : Around} {E : VSP}
end
def tFld (K : Fg) (ta : TE) (f : Str) : TE := fun σ H Q => ta σ H fun x H1 => ∃ a C dx fs v, x = .ref a /\ H1 a = some (.ins C dx fs) /\ Cls K C /\ NoAttr K C f /\ fs.lookup f = some v /\ Q v H1
def tCon (K : Fg) (ta : TE) (f : Str) : TE := fun σ H Q => ta σ H fun x H1 => ∃ a C dx fs v u, x = .ref a /\ H1 a = some (.ins C dx fs) /\ Cls K C /\ Con K C f v u /\ fs.lookup f = none /\ Q v H1
def sFld (K : Fg) (ta tv : TE) (f : Str) : TS := fun D σ H => tv σ H fun y H1 => ta σ H1 fun x H2 => ∃ a C dx fs, x = .ref a /\ H2 a = some (.ins C dx fs) /\ Cls K C /\ NoAttr K C f /\ fs.length < 1000 ∧
 D.nx σ (upd H2 a (.ins C dx (putF f y fs)))
def InOp (X : Cx) (op : Operator) (rd : V -> V -> Hp -> VK -> Prop) : Prop :=
 ∀ (pins : PLs) (s : Shared) (σ : St) (H : Hp) (x y : V) (u v : Value) (Q : VK), Inv X pins σ H s -> RelV x u -> RelV y v -> rd x y H Q -> wpAny (model X.prog X.w) X.A (inplaceOp op u v) (EP X pins σ Q) X.xe s
def sFldAug (K : Fg) (ta tv : TE) (rd : V -> V -> Hp -> VK -> Prop) (f : Str) : TS := fun D σ H => ta σ H fun x H1 => ∃ a C dx fs v, x = .ref a /\ H1 a = some (.ins C dx fs) /\ Cls K C /\ NoAttr K C f /\ fs.lookup f = some v ∧
 tv σ H1 fun y H2 => rd v y H2 fun z H3 => ∃ dx' fs', H3 a = some (.ins C dx' fs') /\ fs'.length < 1000 /\ D.nx σ (upd H3 a (.ins C dx' (putF f z fs')))
section
variable {X : Cx} {o e value : Expr} {f : Str} {pos pos' tpos : Pos} {ta tv : TE}
def rAdd : V -> V -> Hp -> VK -> Prop := fun x y H Q => ∃ i j, x = .int i /\ y = .int j /\ Q (.int (i + j)) H
def rSub : V -> V -> Hp -> VK -> Prop := fun x y H Q => ∃ i j, x = .int i /\ y = .int j /\ Q (.int (i - j)) H
end
section
variable {X : Cx} {pins : PLs} {σ : St} {H : Hp} {s : Shared} {A : Around} {E : VSP} {Q : VSP} {c : Value} {b : Bool}
inductive TyOf (K : Fg) (H : Hp) : V -> Value -> Prop where
 | non : TyOf K H .non (.type "NoneType")
 | bl (x : Bool) : TyOf K H (.bl x) (.type "bool")
 | int (i : Int) : TyOf K H (.int i) (.type "int")
 | str (x : Str) : TyOf K H (.str x) (.type "str")
 | flt (x : UInt64) : TyOf K H (.flt x) (.type "float")
 | lst {a : Addr} {xs : List V} (e : H a = some (.lst xs)) : TyOf K H (.ref a) (.type "list")
 | frz {a : Addr} {o : Obj} {xs : List V} (e : H a = some (.frz o (.lst xs))) : TyOf K H (.ref a) (.type "list")
 | tup {a : Addr} {xs : List V} (e : H a = some (.tup xs)) : TyOf K H (.ref a) (.type "tuple")
 | dK {a : Addr} {kvs : List (Key × V)} (e : H a = some (.dK kvs)) : TyOf K H (.ref a) (.type "dict")
 | dT {a : Addr} {kvs : List (List Key × V)} (e : H a = some (.dT kvs)) : TyOf K H (.ref a) (.type "dict")
 | ins {a C dx : Addr} {fs : List (Str × V)} (e : H a = some (.ins C dx fs)) (cl : Cls K C) (ha : PySem.W.findIn K (.ref C) "__class__" = some (some (.builtin "object.__class__")))
   (hn : PySem.W.specialIn K (.builtin "object.__class__") "__get__" = some (some (.builtin "getset_descriptor.__get__"))) (htk : PySem.W.takesIn K (.builtin "object.__class__") = some true)
   (hm : PySem.W.mroIn K C (.type "object") = some true) : TyOf K H (.ref a) (.ref C)
end
end L2
namespace L2
open PySem PySem.Spec PyProof.Rows
structure Room (k : Nat) (A : Around) : Prop where
 hd : A.handled = none
 dp : A.depth + 3 * k + 5 < recursionLimit
 un : A.units + 16 * k + 200 < cLine
 gd : A.guards = some []
theorem Room.mono {j k : Nat} {A : Around} (r : Room k A) (h : j ≤ k) : Room j A := ⟨r.hd, by have := r.dp; omega, by have := r.un; omega, r.gd⟩
theorem Room.deeper {k : Nat} {A : Around} (r : Room (k + 1) A) (env : Env) : Room k (A.deeper env) :=
 ⟨r.hd, by have := r.dp; show A.depth + 1 + 3 * k + 5 < _; omega, by have := r.un; show A.units + 3 + 16 * k + 200 < _; omega, r.gd⟩
theorem Room.depth {k : Nat} {A : Around} (r : Room k A) : A.depth < recursionLimit := by have := r.dp; omega
theorem Room.units {k : Nat} {A : Around} (r : Room k A) : A.units + 64 < cLine := by have := r.un; omega
def tNil : TA := fun _ H Q => Q [] H
def tCons (ta : TE) (tr : TA) : TA := fun σ H Q => ta σ H fun x H1 => tr σ H1 fun xs H2 => Q (x :: xs) H2
section
variable {X : Cx} {e : Expr} {es : List Expr} {te : TE} {t : TA} {pos : Pos}
theorem pa_nil : PA X [] tNil := fun _ _ _ _ H Q I h => Calls.spliced_nil ⟨[], H, I, .nil, h⟩
theorem pa_cons (ha : PE X e te) (hr : PA X es t) (hs : starEach (e :: es) X.env = (false, eval e X.env) :: starEach es X.env := by rfl) : PA X (e :: es) (tCons te t) := by
 intro pos pins s σ H Q I h
 rw [hs]
 show wpAny _ _ (spliced ((false, eval e X.env) :: backTo pos (starEach es X.env))) _ _ s
 refine Calls.spliced_cons (thn (ha pins s σ H _ I h) fun u s1 ⟨x, H1, I1, r1, q1⟩ => ?_)
 exact thn (hr pos pins s1 σ H1 _ I1 q1) fun us s2 ⟨xs, H2, I2, r2, q2⟩ => ⟨x :: xs, H2, I2, .cons r1 r2, q2⟩
def tTup (t : TA) : TE := fun σ H Q => t σ H fun xs H1 => xs.length ≤ sizeLine /\ ∀ p, H1 p = none -> Q (.ref p) (upd H1 p (.tup xs))
def tLst (t : TA) : TE := fun σ H Q => t σ H fun xs H1 => xs.length ≤ sizeLine /\ ∀ p, H1 p = none -> Q (.ref p) (upd H1 p (.lst xs))
theorem pe_tup {x1} (h : PA X es t) : PE X (.Tuple es x1 pos) (tTup t) := by
 intro pins s σ H Q I hq
 refine wpAny_Tuple_spliced (thn (h pos pins s σ H _ I hq) fun us s1 ⟨xs, H1, I1, r, z, q⟩ => ⟨by rw [← r.length]; exact z, ?_⟩)
 have hf : H1 s1.heap.objs.size = none := I1.hok.fresh (Nat.le_refl _)
 refine ⟨.ref s1.heap.objs.size, upd H1 s1.heap.objs.size (.tup xs), I1.laid (t' := s1.toks) (fun b u e => Heap.get?_push_of_some _ e) (Nat.le_refl _) ?_, rfl, q _ hf⟩
 exact ⟨z, us, r, ⟨_, Heap.get?_push_size _ rfl, rfl, _, rfl⟩⟩
theorem pe_lst (h : PA X es t) : PE X (.List es pos) (tLst t) := by
 intro pins s σ H Q I hq
 refine wpAny_List_spliced (thn (h pos pins s σ H _ I hq) fun us s1 ⟨xs, H1, I1, r, z, q⟩ => ⟨by rw [← r.length]; exact z, ?_⟩)
 have hf : H1 s1.heap.objs.size = none := I1.hok.fresh (Nat.le_refl _)
 refine ⟨.ref s1.heap.objs.size, upd H1 s1.heap.objs.size (.lst xs), I1.laid (t' := s1.toks) (fun b u e => Heap.get?_push_of_some _ e) (Nat.le_refl _) ?_, rfl, q _ hf⟩
 exact ⟨z, us, 0, r, Heap.get?_push_size _ rfl⟩
end
abbrev Sp := List V -> Hp -> VK -> XK -> Prop
abbrev CXT := List Env -> Hp -> Shared -> XK -> Value -> Shared -> Prop
structure Env0 (P : Program) (w : World) (K : Fg) (mg : Str -> Option Value) (base : Heap) (A : Around) (outer : List Env) (s : Shared) (H : Hp) : Prop where
 frames : A.frames = some outer
 mod : Mod K mg base
 bs : ∀ b o, base.get? b = some o -> s.heap.get? b = some o /\ H b = none
 bsz : base.objs.size ≤ s.heap.objs.size
 funs : s.heap.FunFrames base outer
 frf : ∀ b ∈ frs outer, H b = none
 hok : HOk P w H s.heap
 bare : AllBare s.gens
def CE (outer : List Env) (P : Program) (w : World) (H : Hp) (s : Shared) (Q : VK) (u : Value) (s' : Shared) : Prop :=
 ∃ v H', s'.os = s.os /\ AllBare s'.gens /\ Un (frs outer) [] H H' s.heap s'.heap /\ HOk P w H' s'.heap /\ RelV v u /\ Q v H'
def CR (CX : CXT) (outer : List Env) (P : Program) (w : World) (H : Hp) (s : Shared) (Q : VK) (E : XK) (r : Result) (s' : Shared) : Prop :=
 match r with
 | .ok (.ret u) => CE outer P w H s Q u s'
 | .ok _ => False
 | .error e => CX outer H s E e s'
structure FnOk (P : Program) (w : World) (K : Fg) (mg : Str -> Option Value) (base : Heap) (CX : CXT) (k : Nat) (f : Addr) (fd : FuncData) (ps : List Str) (sp : Sp) : Prop where
 len : ∀ vs H Q E, sp vs H Q E -> vs.length = ps.length
 run : ∀ (A : Around) (outer : List Env) (s : Shared) (H : Hp) (args : Args) (us : List Value) (vs : List V) (Q : VK) (E : XK), Room k A -> Env0 P w K mg base A outer s H -> BindsTo s fd args (ps.zip us) -> Vals vs us -> sp vs H Q E →
  codeAny (model P w) A (.call (.ref f) args) (CR CX outer P w H s Q E) s
section
variable {X : Cx} {pins : PLs} {σ : St} {H : Hp} {s s' : Shared}
theorem Inv.env0 (I : Inv X pins σ H s) : Env0 X.prog X.w X.K X.mg X.base X.A X.stack s H :=
 ⟨I.ok.frames, I.ok.mod, I.bs, Nat.le_trans I.ok.bsz I.sz, I.stack, I.stkFree, I.hok, I.bare⟩
theorem Inv.after {Q : VK} {u : Value} (I : Inv X pins σ H s) (h : CE X.stack X.prog X.w H s Q u s') : EP X pins σ Q u s' := by
 obtain ⟨v, H', os, bare, un, hok, r, q⟩ := h
 obtain ⟨hh, g, d, t, os'⟩ := s'
 obtain rfl : os' = s.os := os
 exact ⟨v, H', I.call (h' := hh) (g' := g) (d' := d) (t' := t) (ch := []) un hok bare (fun b z => absurd z (by simp)), r, q⟩
end
def tCall (sp : Sp) (dvs : List V) (E : XK) (t : TA) : TE := fun σ H Q => t σ H fun vs H1 => sp (vs ++ dvs) H1 Q E
def tMeth (C : Addr) (m : Str) (sp : Sp) (dvs : List V) (E : XK) (ta : TE) (t : TA) : TE := fun σ H Q => ta σ H fun x H1 => ∃ a dx fs, x = .ref a /\ H1 a = some (.ins C dx fs) /\ fs.lookup m = none ∧
 t σ H1 fun vs H2 => sp (x :: (vs ++ dvs)) H2 Q E
def tMake (C : Addr) (sp : Sp) (dvs : List V) (E : XK) (t : TA) : TE := fun σ H Q => t σ H fun vs H1 => ∀ x dx, H1 x = none -> H1 dx = none -> dx ≠ x →
 sp (.ref x :: (vs ++ dvs)) (upd (upd H1 dx (.own x)) x (.ins C dx [])) (fun v H2 => v = .non /\ Q (.ref x) H2) E
def Binds (K : Fg) (fd : FuncData) (ps : List Str) (ds : List Value) : Prop :=
 ∀ (s : Shared) (us : List Value), K.In s.heap -> (us ++ ds).length = ps.length -> BindsTo s fd ⟨us, []⟩ (ps.zip (us ++ ds))
theorem Binds.all {K : Fg} {fd : FuncData} {ps : List Str} (h : ∀ us : List Value, us.length = ps.length -> bindArgs fd ⟨us, []⟩ = pure (ps.zip us)) : Binds K fd ps [] := fun s us _ hl => by
 rw [List.append_nil] at hl ⊢
 exact .of_eq (h us hl)
def Passes (CX : CXT) (X : Cx) (E : XK) : Prop := ∀ (pins : PLs) (σ : St) (H : Hp) (s : Shared) (e : Value) (s' : Shared), Inv X pins σ H s -> CX X.stack H s E e s' -> X.xe e s'
section
variable {X : Cx} {CX : CXT} {k : Nat} {f C : Addr} {fd : FuncData} {ps : List Str} {sp : Sp} {dvs : List V} {ds : List Value} {E : XK} {x m : Str} {p pos apos : Pos} {e o : Expr} {es : List Expr} {ta : TE} {t : TA}
theorem run_fn {pins : PLs} {σ : St} {H : Hp} {s : Shared} {Q : VK} {us : List Value} {vs : List V} (F : FnOk X.prog X.w X.K X.mg X.base CX k f fd ps sp) (hr : Room k X.A) (hb : Binds X.K fd ps ds) (hd : Vals dvs ds) (hx : Passes CX X E)
  (I : Inv X pins σ H s) (r : Vals vs us) (h : sp (vs ++ dvs) H Q E) : wpAny (model X.prog X.w) X.A (call (.ref f) us) (EP X pins σ Q) X.xe s := by
 have r2 : Vals (vs ++ dvs) (us ++ ds) := r.append hd
 have hl : (us ++ ds).length = ps.length := by rw [← r2.length]; exact F.len _ _ _ _ h
 refine wpAny_call (codeAny_mono (F.run X.A X.stack s H ⟨us, []⟩ (us ++ ds) (vs ++ dvs) Q E hr I.env0 (hb s us I.kIn hl) r2 h) fun r s' hq => ?_)
 cases r with
 | error e => exact hx pins σ H s e s' I hq
 | ok fl =>
  cases fl with
  | ret u => exact I.after hq
  | next => exact False.elim hq
  | brk => exact False.elim hq
  | cont => exact False.elim hq
theorem pe_call (F : FnOk X.prog X.w X.K X.mg X.base CX k f fd ps sp) (hr : Room k X.A) (hg : Gl X x) (hm : X.mg x = some (.ref f)) (hk : PySem.W.keepIn X.K (.ref f) = true) (hb : Binds X.K fd ps ds) (hd : Vals dvs ds) (hx : Passes CX X E)
  (ha : PA X (e :: es) t) (hdb : (x == ("__debug__" : Str)) = false := by decide) (he : starEach (e :: es) X.env = (false, eval e X.env) :: starEach es X.env := by rfl) (hpl : (backTo pos (starEach es X.env)).any (·.1) = false := by rfl) :
  PE X (.Call (.Name x p) (e :: es) [] pos) (tCall sp dvs E t) := by
 intro pins s σ H Q I h
 refine wpAny_Call_Name_kw (ld_glob I hg hm ?_ hdb)
 refine PySem.W.callWith_K (h₀ := X.base) I.ok.mod.kin hk (thn (ha pos pins s σ H _ I h) fun us s1 ⟨vs, H1, I1, r, q⟩ => ⟨I1.kIn, ?_⟩) he hpl
 exact run_fn F hr hb hd hx I1 r q
structure Mk (K : Fg) (C f : Addr) : Prop where
 makes : PySem.W.makesIn K C = true
 init : PySem.W.findIn K (.ref C) "__init__" = some (some (.ref f))
 fn : PySem.W.isFn K (.ref f) = true
 kp : PySem.W.keepIn K (.ref C) = true
end
def PK (X : Cx) (kws : List Keyword) (t : TA) : Prop :=
 ∀ (pos : Pos) (pins : PLs) (s : Shared) (σ : St) (H : Hp) (Q : List V -> Hp -> Prop), Inv X pins σ H s -> t σ H Q -> wpAny (model X.prog X.w) X.A (evalAll ((backToKw pos (keywordEach kws X.env)).map (·.2))) (AP X pins σ Q) X.xe s
section
variable {X : Cx} {CX : CXT} {k : Nat} {f C : Addr} {fd : FuncData} {ps ks : List Str} {sp : Sp} {E : XK} {x m : Str} {p pos apos kpos : Pos} {e o : Expr} {es : List Expr} {kws : List Keyword} {te ta : TE} {t tk : TA} {nm : Option Str}
structure KBinds (K : Fg) (fd : FuncData) (ps ks : List Str) (g : List Value -> List Value -> List Value) (gV : List V -> List V -> List V) : Prop where
 to : ∀ (s : Shared) (us ws : List Value), K.In s.heap -> (g us ws).length = ps.length -> BindsTo s fd ⟨us, ks.zip ws⟩ (ps.zip (g us ws))
 rel : ∀ {vs : List V} {us : List Value} {zs : List V} {ws : List Value}, Vals vs us -> Vals zs ws -> Vals (gV vs zs) (g us ws)
def tCallK (sp : Sp) (gV : List V -> List V -> List V) (E : XK) (t tk : TA) : TE := fun σ H Q => t σ H fun vs H1 => tk σ H1 fun zs H2 => sp (gV vs zs) H2 Q E
variable {g : List Value -> List Value -> List Value} {gV : List V -> List V -> List V}
end
structure FnScope (N P : List Str) (sc : Scope) : Prop where
 kind : sc.kind = .function
 co : sc.isCoroutine = false
 gen : sc.isGenerator = false
 nd : N.Nodup
 pre : N.take P.length = P
 par : ∀ x ∈ P, sc.names.lookup x = some .local ∨ sc.names.lookup x = some .cell
 nofree : ∀ y ∈ sc.names, y.2 ≠ .free
theorem bindL_out {kindOf : Str -> Option NameKind} {x : Str} : ∀ {binds : List (Str × Value)} {m : Str -> Option Value}, (∀ v, (x, v) ∉ binds) -> bindL kindOf binds m x = m x
 | [], _, _ => rfl
 | (n, v) :: r, m, h => by
  unfold bindL
  rw [bindL_out fun w hw => h w (List.mem_cons_of_mem _ hw)]
  split
  ·have : x ≠ n := by rintro rfl; exact h v List.mem_cons_self
   simp [this]
  ·rfl
theorem bindC_out {kindOf : Str -> Option NameKind} {x : Str} : ∀ {binds : List (Str × Value)} {m : Str -> Option Value}, (∀ v, (x, v) ∉ binds) -> bindC kindOf binds m x = m x
 | [], _, _ => rfl
 | (n, v) :: r, m, h => by
  unfold bindC
  rw [bindC_out fun w hw => h w (List.mem_cons_of_mem _ hw)]
  split
  ·rfl
  ·have : x ≠ n := by rintro rfl; exact h v List.mem_cons_self
   simp [this]
theorem bindL_get {kindOf : Str -> Option NameKind} {x : Str} {v : Value} : ∀ {P : List Str} {vs : List Value} {i : Nat} {m : Str -> Option Value}, P.Nodup -> P[i]? = some x -> vs[i]? = some v -> kindOf x = some .local →
  bindL kindOf (P.zip vs) m x = some v
 | [], _, _, _, _, h, _, _ => by simp at h
 | _ :: _, [], _, _, _, _, h, _ => by simp at h
 | p :: P, w :: vs, 0, m, nd, h1, h2, hk => by
  simp at h1 h2; subst h1; subst h2
  show bindL kindOf ((p, w) :: P.zip vs) m p = _
  unfold bindL
  rw [bindL_out fun v hv => (List.nodup_cons.mp nd).1 (List.of_mem_zip hv).1, if_pos hk]
  simp
 | p :: P, w :: vs, i + 1, m, nd, h1, h2, hk => by
  show bindL kindOf ((p, w) :: P.zip vs) m x = _
  unfold bindL
  exact bindL_get (i := i) (List.nodup_cons.mp nd).2 (by simpa using h1) (by simpa using h2) hk
theorem bindC_get {kindOf : Str -> Option NameKind} {x : Str} {v : Value} : ∀ {P : List Str} {vs : List Value} {i : Nat} {m : Str -> Option Value}, P.Nodup -> P[i]? = some x -> vs[i]? = some v -> kindOf x ≠ some .local →
  bindC kindOf (P.zip vs) m x = some v
 | [], _, _, _, _, h, _, _ => by simp at h
 | _ :: _, [], _, _, _, _, h, _ => by simp at h
 | p :: P, w :: vs, 0, m, nd, h1, h2, hk => by
  simp at h1 h2; subst h1; subst h2
  show bindC kindOf ((p, w) :: P.zip vs) m p = _
  unfold bindC
  rw [bindC_out fun v hv => (List.nodup_cons.mp nd).1 (List.of_mem_zip hv).1, if_neg hk]
  simp
 | p :: P, w :: vs, i + 1, m, nd, h1, h2, hk => by
  show bindC kindOf ((p, w) :: P.zip vs) m x = _
  unfold bindC
  exact bindC_get (i := i) (List.nodup_cons.mp nd).2 (by simpa using h1) (by simpa using h2) hk
def start (N : List Str) (vs : List V) : St := vs.map some ++ List.replicate (N.length - vs.length) none
def cxOf (CX : CXT) (P : Program) (w : World) (K : Fg) (mg : Str -> Option Value) (base : Heap) (N : List Str) (qual : Str) (scope : Scope) (f : Addr) (cd : Value) (A : Around) (outer : List Env) (s : Shared) (H : Hp) (E : XK) : Cx where
 prog := P
 w := w
 K := K
 mg := mg
 base := base
 A := A.deeper (envOfC qual scope s.heap.objs.size f cd)
 N := N
 s₀ := s
 H₀ := H
 env := envOfC qual scope s.heap.objs.size f cd
 outer := outer
 stack := envOfC qual scope s.heap.objs.size f cd :: outer
 ex := []
 calm := true
 fn := fun _ => true
 pn := []
 xe := fun e s' => wpAny (model P w) (A.deeper (envOfC qual scope s.heap.objs.size f cd)) (leaving (envOfC qual scope s.heap.objs.size f cd) e) (fun _ s'' => CX outer H s E e s'') (fun e' s'' => CX outer H s E e' s'') s'
theorem cell_has {sc : Scope} {n : Nat} {x : Str} (h : sc.names.lookup x = some .cell) : ∃ c, (cellsFrom n sc.names []).lookup x = some c := by
 have q := PySem.W.cellsFrom_some sc.names n [] (.inl h)
 exact Option.isSome_iff_exists.mp q
theorem inv_start {CX : CXT} {P : Program} {w : World} {K : Fg} {mg : Str -> Option Value} {base : Heap} {N ps : List Str} {qual : Str} {scope : Scope} {f : Addr} {cd : Value} {A : Around} {outer : List Env} {s s1 : Shared} {H : Hp} {E : XK} {us : List Value} {vs : List V}
  (S : FnScope N ps scope) (hd : A.handled = none) (e0 : Env0 P w K mg base A outer s H) (hl : vs.length = ps.length) (r : Vals vs us)
  (x : InCallC s s.heap.objs.size (bindL (envOfC qual scope s.heap.objs.size f cd).kindOf (ps.zip us) fun _ => none) (cellsFrom (s.heap.objs.size + 1) scope.names []) (bindC (envOfC qual scope s.heap.objs.size f cd).kindOf (ps.zip us) fun _ => none) s1) :
  Inv (cxOf CX P w K mg base N qual scope f cd A outer s H E) [] (start N vs) H s1 := by
 have hpl : ps.length ≤ N.length := by have := congrArg List.length S.pre; rw [List.length_take] at this; omega
 obtain ⟨h1, tk, rfl, hk⟩ := x.done
 have noA : ∀ b : Addr, b ∉ (cxOf CX P w K mg base N qual scope f cd A outer s H E).ex := fun b z => absurd (show b ∈ ([] : List Addr) from z) (by simp)
 refine ⟨⟨e0.mod, S.kind, rfl, rfl, Nat.le_refl _, fun y z c h1 h2 => ?_, fun y hy => ?_, fun y c _ h => ?_, fun _ => hd, Around.frames_deeper e0.frames, .inr ⟨rfl, rfl⟩, fun b z => absurd z (noA b), e0.bs, e0.bsz, fun b _ _ => noA b, fun b z => absurd z (noA b), e0.funs, e0.frf⟩,
  rfl, e0.bare, Un.kept hk, ⟨_, x.toInCall.ns, fun i y v h1 h2 h3 => ?_⟩, fun y c h => ⟨_, x.cell y c h⟩, e0.hok.fresh (Nat.le_refl _), fun y c h => ?_, fun p hp => absurd (show p ∈ ([] : PLs) from hp) (by simp), e0.hok.kept hk, ?_⟩
 ·exact name_of_addr x.apart (PySem.mem_of_lookup h1) (PySem.mem_of_lookup h2)
 ·have hy : scope.names.lookup y = some .cell ∨ scope.names.lookup y = some .free := hy
  rcases hy with hy | hy
  ·exact cell_has hy
  ·exact absurd rfl (S.nofree _ (PySem.mem_of_lookup hy))
 ·exact Nat.le_of_lt (x.above y c (PySem.mem_of_lookup h))
 ·have hi : i < vs.length := by
   unfold start at h2
   by_cases hi : i < vs.length
   ·exact hi
   ·rw [List.getElem?_append_right (by simpa using hi)] at h2
    rw [List.getElem?_replicate] at h2
    split at h2 <;> cases h2
  have ha : vs[i]? = some v := by
   unfold start at h2
   rw [List.getElem?_append_left (by simpa using hi), List.getElem?_map] at h2
   cases e : vs[i]? with
   | none => rw [e] at h2; cases h2
   | some a => rw [e] at h2; cases h2; rfl
  obtain ⟨u, hu, rv⟩ := r.get ha
  have hp : ps[i]? = some y := by
   rw [← S.pre, List.getElem?_take_of_lt (by omega)]; exact h1
  have ndP : ps.Nodup := by rw [← S.pre]; exact S.nd.sublist (List.take_sublist _ _)
  refine ⟨u, rv, ?_⟩
  rcases S.par y (List.mem_of_getElem? hp) with k | k
  ·exact .inl ⟨k, bindL_get ndP hp hu k⟩
  ·obtain ⟨c, e⟩ := cell_has (n := s.heap.objs.size + 1) k
   refine .inr ⟨.inl k, c, e, ?_⟩
   have q := x.cell y c e
   rw [bindC_get ndP hp hu (by show scope.names.lookup y ≠ _; rw [k]; decide)] at q
   exact q
 ·exact e0.hok.fresh (Nat.le_of_lt (x.above y c (PySem.mem_of_lookup h)))
 ·unfold start
  show _ = N.length
  rw [List.length_append, List.length_map, List.length_replicate]
  omega
theorem fn_of {CX : CXT} {P : Program} {w : World} {K : Fg} {mg : Str -> Option Value} {base : Heap} {k : Nat} {f : Addr} {name qual : Str} {params : Arguments} {body : List Stmt} {scope : Scope} {dV kV doc pm cdv ct oc : Value} {an od : Option Addr}
  {osl : Array (Option Value)} {N ps : List Str} {sp : Sp} (lk : K.lookup f = some ⟨oc, od, .func (PySem.W.fnOf name qual params body scope dV kV doc pm an cdv ct), osl⟩) (hcd : PySem.W.codeIn K cdv qual = true) (S : FnScope N ps scope)
  (len : ∀ vs H Q E, sp vs H Q E -> vs.length = ps.length)
  (hbody : ∀ (A : Around) (outer : List Env) (s : Shared) (H : Hp) (vs : List V) (Q : VK) (E : XK), Room k (A.deeper (envOfC qual scope s.heap.objs.size f cdv)) -> sp vs H Q E →
   ∃ t, PSs (cxOf CX P w K mg base N qual scope f cdv A outer s H E) body t /\ t { nx := fun _ H' => Q .non H', rt := Q } (start N vs) H) :
  FnOk P w K mg base CX (k + 1) f (PySem.W.fnOf name qual params body scope dV kV doc pm an cdv ct) ps sp := by
 refine ⟨len, fun A outer s H args us vs Q E hr e0 hb r hsp => ?_⟩
 have hl := len _ _ _ _ hsp
 have KX : K.In s.heap := e0.mod.kin.keeps fun b o e => (e0.bs b o e).1
 have lim : s.heap.NoLimit := e0.mod.nolimit.keeps fun b o e => (e0.bs b o e).1
 have hkind : ∀ y ∈ ps.zip us, scope.names.lookup y.1 = some .local ∨ (scope.names.lookup y.1 = some .cell /\ ((cellsFrom (s.heap.objs.size + 1) scope.names []).lookup y.1).isSome = true) := fun ⟨n, v⟩ hy => by
  rcases S.par n (List.of_mem_zip hy).1 with q | q
  ·exact .inl q
  ·exact .inr ⟨q, PySem.W.cellsFrom_some _ _ _ (.inl q)⟩
 refine codeAny_call_function hr.depth (KX _ _ lk) rfl S.co S.gen rfl (PySem.W.codeRec_of KX hcd) (hb _ _ _ _ ?_)
 refine wpAny_newFunctionEnv_cells S.kind hkind fun env he s1 x => ?_
 subst he
 refine ⟨lim.keeps x.toInCall.keep, codeAny_func ?_⟩
 obtain ⟨t, ht, hq⟩ := hbody A outer s H vs Q E (hr.deeper _) hsp
 have I : Inv (cxOf CX P w K mg base N qual scope f cdv A outer s H E) [] (start N vs) H s1 := inv_start S hr.hd e0 hl r x
 refine wpAny_mono (ht [] s1 (start N vs) H _ I hq) (fun fl s' hs => ?_) fun e s' hs => hs
 have fin : ∀ {σ' : St} {H' : Hp} {v : V} {u : Value}, Inv (cxOf CX P w K mg base N qual scope f cdv A outer s H E) [] σ' H' s' -> RelV v u -> Q v H' -> CE outer P w H s Q u s' :=
  fun {σ' H' v u} J rv q => ⟨v, H', J.os, J.bare, J.base, J.hok, rv, q⟩
 cases fl with
 | ret u =>
  obtain ⟨v, σ', H', J, rv, q⟩ := hs
  exact fin J rv q
 | next =>
  obtain ⟨σ', H', J, q⟩ := hs
  exact fin (v := V.non) (u := Value.none) J rfl q
 | brk =>
  obtain ⟨_, _, _, q⟩ := hs
  exact False.elim q
 | cont =>
  obtain ⟨_, _, _, q⟩ := hs
  exact False.elim q
end L2
namespace L2
open PySem PySem.Spec PyProof.Rows
section
variable {X : Cx} {x : Str} {p pos : Pos} {e : Expr} {es : List Expr} {t : TA} {id T : String} {r : List V -> Hp -> VK -> Prop}
def tCB (r : List V -> Hp -> VK -> Prop) (t : TA) : TE := fun σ H Q => t σ H fun vs H1 => r vs H1 Q
theorem pe_callB (hc : CallR X (.builtin id) r) (hg : Gl X x) (hm : X.mg x = none) (hv : bootBuiltins x = some (.builtin id)) (ha : PA X (e :: es) t) (hn : x ≠ "__name__" := by decide) (hdb : (x == ("__debug__" : Str)) = false := by decide)
  (he : starEach (e :: es) X.env = (false, eval e X.env) :: starEach es X.env := by rfl) (hpl : (backTo pos (starEach es X.env)).any (·.1) = false := by rfl) : PE X (.Call (.Name x p) (e :: es) [] pos) (tCB r t) := by
 intro pins s σ H Q I h
 refine wpAny_Call_Name_kw (ld_blt I hg hm hv ?_ hn hdb)
 exact PyProof.Rows.callWith_builtin1 (thn (ha pos pins s σ H _ I h) fun us s1 ⟨vs, H1, I1, r1, q1⟩ => hc pins s1 σ H1 vs us Q I1 r1 q1) he hpl
theorem pe_callTy (hc : CallR X (.type T) r) (hg : Gl X x) (hm : X.mg x = none) (hv : bootBuiltins x = some (.type T)) (ha : PA X (e :: es) t) (hn : x ≠ "__name__" := by decide) (hdb : (x == ("__debug__" : Str)) = false := by decide)
  (he : starEach (e :: es) X.env = (false, eval e X.env) :: starEach es X.env := by rfl) (hpl : (backTo pos (starEach es X.env)).any (·.1) = false := by rfl) : PE X (.Call (.Name x p) (e :: es) [] pos) (tCB r t) := by
 intro pins s σ H Q I h
 refine wpAny_Call_Name_kw (ld_blt I hg hm hv ?_ hn hdb)
 exact PyProof.Rows.callWith_type1 (thn (ha pos pins s σ H _ I h) fun us s1 ⟨vs, H1, I1, r1, q1⟩ => hc pins s1 σ H1 vs us Q I1 r1 q1) he hpl
end
end L2
namespace HT
open PySem PyProof.Rows
def lexLt : List Int -> List Int -> Bool
 | [], [] => false
 | [], _ :: _ => true
 | _ :: _, [] => false
 | x :: xs, y :: ys => if x = y then lexLt xs ys else decide (x < y)
section
open PySem.SeqAt
open PySem.AutoSeq1 (wpAny_loadPart')
open PySem.MeetsSeq PySem.MeetsSeq2 PySem.MeetsSeq3
end
section
variable {prog : Program} {w : World} {A : Around} {E : VSP} {s : Shared}
def sIx (n d : Nat) : Option Int -> Nat
 | none => d
 | some v => if v < 0 then (v + (n : Int)).toNat else min v.toNat n
theorem sIx_none (n d : Nat) : sIx n d none = d := rfl
theorem sIx_nat (n d k : Nat) : sIx n d (some (k : Int)) = min k n := by
 show (if (k : Int) < 0 then ((k : Int) + (n : Int)).toNat else min (k : Int).toNat n) = min k n
 rw [if_neg (by omega), Int.toNat_natCast]
theorem sIx_le (n d : Nat) (hd : d ≤ n) (o : Option Int) : sIx n d o ≤ n := by
 cases o with
 | none => exact hd
 | some v =>
  show (if v < 0 then (v + (n : Int)).toNat else min v.toNat n) ≤ n
  by_cases hv : v < 0
  ·rw [if_pos hv]; omega
  ·rw [if_neg hv]; exact Nat.min_le_right _ _
theorem clip_eq (v : Int) (n d : Nat) : (if v < 0 then max (v + (n : Int)) 0 else min v (n : Int)) = ((sIx n d (some v) : Nat) : Int) := by
 show (if v < 0 then max (v + (n : Int)) 0 else min v (n : Int)) = (((if v < 0 then (v + (n : Int)).toNat else min v.toNat n) : Nat) : Int)
 by_cases hv : v < 0
 ·simp only [if_pos hv]; omega
 ·simp only [if_neg hv]; omega
theorem adjust_gen (lo hi : Option Int) (n : Nat) : Builtin.Slice.sliceAdjust lo hi 1 (n : Int) = (((sIx n 0 lo : Nat) : Int), ((sIx n n hi : Nat) : Int)) := by
 have h1 : ¬ ((1 : Int) < 0) := by omega
 unfold Builtin.Slice.sliceAdjust
 simp only [h1, if_false]
 refine Prod.ext ?_ ?_
 ·cases lo with
  | none => rfl
  | some v => exact clip_eq v n 0
 ·cases hi with
  | none => rfl
  | some v => exact clip_eq v n n
theorem places_gen (i j : Nat) : Builtin.Slice.slicePlaces (i : Int) (j : Int) 1 = j - i := by
 unfold Builtin.Slice.slicePlaces
 have h1 : (1 : Int) > 0 := by omega
 simp only [h1, if_true, Int.ediv_one]
 split <;> omega
theorem slicePart_ {v : Value} {o : Option Int} {Q : Option Int -> Shared -> Prop} (p : IsPart v o) (h : Q o s) : wpAny (model prog w) A (Builtin.Slice.slicePartIndex v) Q E s := by
 cases p with
 | none => exact slicePart_none h
 | int i t => exact slicePart_int h
theorem sliceApplied_gen {sl : Addr} {vl vu : Value} {lo hi : Option Int} {n : Nat} {Q : Int × Int × Nat -> Shared -> Prop} (hs : s.heap.IsSliceOf sl vl vu .none) (pl : IsPart vl lo) (pu : IsPart vu hi)
  (h : Q (((sIx n 0 lo : Nat) : Int), 1, sIx n n hi - sIx n 0 lo) s) : wpAny (model prog w) A (Builtin.Slice.sliceApplied (.ref sl) (pure (n : Int))) Q E s := by
 obtain ⟨os, hos, hcs, hds⟩ := id hs
 unfold Builtin.Slice.sliceApplied Builtin.Slice.sliceFields
 refine wpAny_bind (wpAny_bind (wpAny_field hos hds (x := vl) rfl (wpAny_bind (wpAny_field hos hds (x := vu) rfl (wpAny_bind (wpAny_field hos hds (x := .none) rfl (wpAny_pure ?_)))))))
 refine wpAny_bind (slicePart_none ?_)
 show wpAny _ _ (if ((1 : Int) == 0) = true then _ else _) _ _ s
 rw [if_neg (by decide)]
 refine wpAny_bind (slicePart_ pl (wpAny_bind (slicePart_ pu (wpAny_bind (wpAny_pure ?_)))))
 show wpAny _ _ (match Builtin.Slice.sliceAdjust lo hi 1 (n : Int) with | (lo, hi) => pure (lo, (1 : Int), Builtin.Slice.slicePlaces lo hi 1)) _ _ s
 rw [adjust_gen lo hi n]
 show wpAny _ _ (pure (((sIx n 0 lo : Nat) : Int), (1 : Int), Builtin.Slice.slicePlaces ((sIx n 0 lo : Nat) : Int) ((sIx n n hi : Nat) : Int) 1)) _ _ s
 rw [places_gen]
 exact wpAny_pure h
theorem pick_gen (xs : Array Value) (i k : Nat) : ((List.range k).filterMap fun (m : Nat) => xs[((i : Int) + (m : Int) * 1).toNat]?).toArray = ((xs.toList.drop i).take k).toArray := by
 have e : (fun (m : Nat) => xs[((i : Int) + (m : Int) * 1).toNat]?) = fun m => xs[i + m]? := by
  funext m
  have : ((i : Int) + (m : Int) * 1).toNat = i + m := by omega
  rw [this]
 rw [e]
 have := pick_run xs i k
 rw [List.filterMap_map] at this
 have e2 : ((fun x => xs[x]?) ∘ fun x => i + x) = fun m => xs[i + m]? := rfl
 rw [e2] at this
 rw [this]
theorem getItem_tuple_cut {t sl : Addr} {items : Array Value} {vl vu : Value} {lo hi : Option Int} {Q : VSP} (ht : IsTup s.heap t items) (hs : s.heap.IsSliceOf sl vl vu .none) (pl : IsPart vl lo) (pu : IsPart vu hi)
  (hw : ¬ (sIx items.size 0 lo = 0 /\ sIx items.size items.size hi = items.size))
  (h : Q (.ref s.heap.objs.size) { s with heap := s.heap.push { cls := .type "tuple", data := .seq ((items.toList.drop (sIx items.size 0 lo)).take (sIx items.size items.size hi - sIx items.size 0 lo)).toArray } })
  (hsz : items.size ≤ sizeLine) : wpAny (model prog w) A (getItem (.ref t) (.ref sl)) Q E s := by
 have htake : sizeOk (.seq ((items.toList.drop (sIx items.size 0 lo)).take (sIx items.size items.size hi - sIx items.size 0 lo)).toArray) := by
  show ((items.toList.drop (sIx items.size 0 lo)).take (sIx items.size items.size hi - sIx items.size 0 lo)).toArray.size ≤ sizeLine
  rw [List.size_toArray, List.length_take, List.length_drop, Array.length_toList]
  omega
 have hj : sIx items.size items.size hi ≤ items.size := sIx_le _ _ (Nat.le_refl _) hi
 obtain ⟨os, hos, hcs, hds⟩ := id hs
 have hTs : s.TypeIs (.ref sl) "slice" := ⟨os, hos, hcs⟩
 unfold getItem
 try with_reducible refine wpAny_holding ?_
 first | refine wpAny_bind (wpAny_pure ?_) | skip
 refine wpAny_bind (wpAny_sequenceKey ht.typeIs (by decide) ?_)
 refine wpAny_bind (wpAny_callSpecial?_slot (name := Str.ofString "__getitem__") ht.typeIs PyProof.Rows.slot_tuple_getitem
  (wpAny_call_entry PyProof.Rows.slot_tuple_getitem ht.typeIs entry_tuple_getitem ?_ (args_tuple_getitem _ _)))
 show wpAny _ _ (Builtin.Tuple.tupleItemsOf (.ref t) >>= _) _ _ s
 refine wpAny_bind (tupleItemsOf_ ht ?_)
 refine wpAny_bind (wpAny_typeOf hTs ?_)
 rw [if_pos (by decide)]
 refine wpAny_bind (sliceApplied_gen hs pl pu ?_)
 have hno : ¬ ((((sIx items.size 0 lo : Nat) : Int) == 0 && (1 : Int) == 1 && (sIx items.size items.size hi - sIx items.size 0 lo) == items.size) = true) := by
  intro q
  rw [Bool.and_eq_true, Bool.and_eq_true] at q
  have q1 : ((sIx items.size 0 lo : Nat) : Int) = 0 := eq_of_beq q.1.1
  have q2 : sIx items.size items.size hi - sIx items.size 0 lo = items.size := eq_of_beq q.2
  exact hw ⟨by omega, by omega⟩
 show wpAny _ _ (if (((sIx items.size 0 lo : Nat) : Int) == 0 && (1 : Int) == 1 && (sIx items.size items.size hi - sIx items.size 0 lo) == items.size) = true then _ else _) _ _ s
 rw [if_neg hno, pick_gen]
 first
  | exact wpAny_bind (m := Builtin.Tuple.tupleExact _) (wpAny_newObj_type (wpAny_pure ⟨_, rfl, wpAny_pure h⟩) htake)
  | exact wpAny_bind (m := Builtin.Tuple.tupleExact _) (wpAny_newObj_type (wpAny_bind (wpAny_pure (wpAny_pure ⟨_, rfl, wpAny_pure h⟩))) htake)
  | exact wpAny_bind (wpAny_bind (m := Builtin.Tuple.tupleExact _) (wpAny_newObj_type (wpAny_pure (wpAny_pure ⟨_, rfl, wpAny_pure h⟩)) htake))
  | exact wpAny_bind (wpAny_bind (m := Builtin.Tuple.tupleExact _) (wpAny_newObj_type (wpAny_pure ⟨_, rfl, wpAny_pure h⟩) htake))
end
end HT
namespace L2
open PySem PySem.Spec PyProof.Rows
abbrev TO := St -> Hp -> (Option Int -> Hp -> Prop) -> Prop
def PO (X : Cx) (e : Option Expr) (t : TO) : Prop :=
 ∀ (pins : PLs) (s : Shared) (σ : St) (H : Hp) (Q : Option Int -> Hp -> Prop), Inv X pins σ H s -> t σ H Q →
  wpAny (model X.prog X.w) X.A (evalPart e X.env) (fun u s' => ∃ o H', Inv X pins σ H' s' /\ IsPart u o /\ Q o H') X.xe s
def tNoPart : TO := fun _ H Q => Q none H
def tPart (t : TE) : TO := fun σ H Q => t σ H fun x H1 => ∃ i, x = .int i /\ Q (some i) H1
section
variable {X : Cx} {e : Expr} {te : TE} {lo hi : Option Expr} {tl th : TO} {pos p2 : Pos}
theorem po_none : PO X none tNoPart := by
 intro pins s σ H Q I h
 rw [evalPart_none]
 exact wpAny_pure ⟨none, H, I, .none, h⟩
theorem po_some (h : PE X e te) : PO X (some e) (tPart te) := by
 intro pins s σ H Q I hw
 rw [evalPart_some]
 refine thn (h pins s σ H _ I hw) fun u s1 ⟨x, H1, I1, r1, q1⟩ => ?_
 obtain ⟨i, rfl, q⟩ := q1
 obtain ⟨t, rfl⟩ := r1
 exact ⟨some i, H1, I1, .int i t, q⟩
def SlR (X : Cx) (r : V -> Option Int -> Option Int -> Hp -> VK -> Prop) : Prop :=
 ∀ (pins : PLs) (s : Shared) (σ : St) (H : Hp) (x : V) (v vl vu : Value) (lo hi : Option Int) (sl : Addr) (Q : VK), Inv X pins σ H s -> RelV x v -> s.heap.IsSliceOf sl vl vu .none -> IsPart vl lo -> IsPart vu hi -> r x lo hi H Q →
  ∃ T id, typeLookup (.type T) "__getitem__" = pure (some (.builtin id)) /\ s.TypeIs v T /\ wpAny (model X.prog X.w) X.A (getItem v (.ref sl)) (EP X pins σ Q) X.xe s
def tSl (r : V -> Option Int -> Option Int -> Hp -> VK -> Prop) (te : TE) (tl th : TO) : TE := fun σ H Q => te σ H fun x H1 => tl σ H1 fun l H2 => th σ H2 fun u H3 => r x l u H3 Q
theorem pe_slice {r : V -> Option Int -> Option Int -> Hp -> VK -> Prop} (hr : SlR X r) (he : PE X e te) (hl : PO X lo tl) (hu : PO X hi th) : PE X (.Subscript e (.Slice lo hi none p2) pos) (tSl r te tl th) := by
 intro pins s σ H Q I h
 refine Subscript_ (thn (he pins s σ H _ I h) fun v s1 ⟨x, H1, I1, r1, q1⟩ => ?_)
 refine wpAny_Slice (thn (hl pins s1 σ H1 _ I1 q1) fun vl s2 ⟨l, H2, I2, pl, q2⟩ => thn (hu pins s2 σ H2 _ I2 q2) fun vu s3 ⟨u, H3, I3, pu, q3⟩ => ?_)
 rw [evalPart_none]
 refine wpAny_pure ?_
 have I4 : Inv X pins σ H3 { s3 with heap := s3.heap.push { cls := .type "slice", data := .fields #[vl, vu, .none] } } := I3.kept (t' := s3.toks) fun b ob q => Heap.get?_push_of_some _ q
 obtain ⟨T, id, hT, ht, hg⟩ := hr pins { s3 with heap := s3.heap.push { cls := .type "slice", data := .fields #[vl, vu, .none] } } σ H3 x v vl vu l u s3.heap.objs.size Q I4 r1 (Heap.IsSliceOf.new ..) pl pu q3
 show wpAny (model X.prog X.w) X.A (subscriptTail e (.Slice lo hi none p2) v (.ref s3.heap.objs.size)) (EP X pins σ Q) X.xe { s3 with heap := s3.heap.push { cls := .type "slice", data := .fields #[vl, vu, .none] } }
 exact tail_any (ops := [.ref s3.heap.objs.size, v]) ht hT hg (by with_unfolding_all rfl)
def cutV (xs : List V) (lo hi : Option Int) : List V := (xs.drop (HT.sIx xs.length 0 lo)).take (HT.sIx xs.length xs.length hi - HT.sIx xs.length 0 lo)
theorem cutV_length (xs : List V) (lo hi : Option Int) : (cutV xs lo hi).length ≤ xs.length := by
 unfold cutV
 rw [List.length_take, List.length_drop]
 omega
def rSlT (K : Fg) : V -> Option Int -> Option Int -> Hp -> VK -> Prop := fun x lo hi H Q => ∃ a xs, x = .ref a /\ SqT K H a xs ∧
 ¬ (HT.sIx xs.length 0 lo = 0 /\ HT.sIx xs.length xs.length hi = xs.length) /\ ∀ p, H p = none -> Q (.ref p) (upd H p (.tup (cutV xs lo hi)))
theorem sl_tup : SlR X (rSlT X.K) := by
 intro pins s σ H x v vl vu lo hi sl Q I rx hs pl pu h
 obtain ⟨a, xs, rfl, hx, hw, q⟩ := h
 cases rx
 obtain ⟨its, r, ht, hz⟩ := I.tuple hx
 have hlen : its.toArray.size = xs.length := by rw [List.size_toArray]; exact r.length.symm
 refine ⟨"tuple", _, PyProof.Rows.slot_tuple_getitem.lookup, ht.typeIs, ?_⟩
 refine HT.getItem_tuple_cut ht hs pl pu (by rw [hlen]; exact hw) ?_ (by rw [hlen]; exact hz)
 rw [hlen]
 refine ⟨.ref s.heap.objs.size, _, I.laid (t' := s.toks) (o := .tup (cutV xs lo hi)) (fun b ob q => Heap.get?_push_of_some _ q) (Nat.le_refl _) ?_, rfl, q _ (I.hok.fresh (Nat.le_refl _))⟩
 exact ⟨Nat.le_trans (cutV_length xs lo hi) hz, _, (r.drop (HT.sIx xs.length 0 lo)).take (HT.sIx xs.length xs.length hi - HT.sIx xs.length 0 lo), IsTup.new _ _⟩
def rLtT (K : Fg) : R2 := fun x y H Q => ∃ a b ns ms, x = .ref a /\ y = .ref b /\ SqT K H a (ns.map V.int) /\ SqT K H b (ms.map V.int) /\ Q (.bl (HT.lexLt ns ms)) H
def rCatT (K : Fg) : R2 := fun x y H Q => ∃ a b xs ys, x = .ref a /\ y = .ref b /\ SqT K H a xs /\ SqT K H b ys /\ xs ≠ [] /\ xs.length + ys.length ≤ sizeLine ∧
 (ys = [] -> Q (.ref a) H) /\ (ys ≠ [] -> ∀ p, H p = none -> Q (.ref p) (upd H p (.tup (xs ++ ys))))
end
end L2
namespace L2
open PySem PySem.Spec PyProof.Rows
def ixN (n : Nat) (i : Int) : Option Nat := if 0 ≤ i then (if i < n then some i.toNat else none) else if -(n : Int) ≤ i then some (i + n).toNat else none
def atI {α : Type} (xs : List α) (i : Int) : Option α := (ixN xs.length i).bind fun j => xs[j]?
theorem ixN_seq {n : Nat} {i : Int} {j : Nat} (h : ixN n i = some j) : seqIndex? i n = some j /\ j < n /\ -(n : Int) ≤ i /\ i < n := by
 unfold ixN at h
 by_cases h0 : 0 ≤ i
 ·rw [if_pos h0] at h
  by_cases h1 : i < n
  ·rw [if_pos h1] at h
   have e : i.toNat = j := Option.some.inj h
   exact ⟨by rw [seqIndex_of h0 h1, e], by omega, by omega, h1⟩
  ·rw [if_neg h1] at h; cases h
 ·rw [if_neg h0] at h
  by_cases h1 : -(n : Int) ≤ i
  ·rw [if_pos h1] at h
   have e : (i + n).toNat = j := Option.some.inj h
   exact ⟨by rw [seqIndex_neg (by omega) h1, e], by omega, h1, by omega⟩
  ·rw [if_neg h1] at h; cases h
theorem atI_get {α : Type} {xs : List α} {i : Int} {v : α} (h : atI xs i = some v) : ∃ j, seqIndex? i xs.length = some j /\ xs[j]? = some v /\ j < xs.length /\ -(xs.length : Int) ≤ i /\ i < xs.length := by
 unfold atI at h
 cases e : ixN xs.length i with
 | none => rw [e] at h; cases h
 | some j =>
  rw [e] at h
  obtain ⟨h1, h2, h3, h4⟩ := ixN_seq e
  exact ⟨j, h1, h, h2, h3, h4⟩
theorem atI_nat {α : Type} {xs : List α} {j : Nat} {v : α} (h : xs[j]? = some v) : atI xs (j : Int) = some v := by
 have hj : j < xs.length := (List.getElem?_eq_some_iff.mp h).1
 have e : ixN xs.length (j : Int) = some j := by
  unfold ixN
  rw [if_pos (by omega), if_pos (by omega)]; simp
 unfold atI; rw [e]; exact h
theorem atI_last {α : Type} (xs : List α) (v : α) : atI (xs ++ [v]) (-1) = some v := by
 have hl : (xs ++ [v]).length = xs.length + 1 := by simp
 have e : ixN (xs ++ [v]).length (-1) = some xs.length := by
  unfold ixN
  rw [hl, if_neg (by decide), if_pos (by omega)]
  congr 1
  omega
 unfold atI
 rw [e]
 show (xs ++ [v])[xs.length]? = some v
 simp
def PlainIx (b : Expr) : Prop := ∀ o i, subscripted b false o i = operate [o, i] (getItem o i)
def IxR (X : Cx) (r : R2) : Prop :=
 ∀ (value slice : Expr) (pins : PLs) (s : Shared) (σ : St) (H : Hp) (x y : V) (v u : Value) (Q : VK), Inv X pins σ H s -> RelV x v -> RelV y u -> r x y H Q →
  subscripted slice false v u = operate [v, u] (getItem v u) -> wpAny (model X.prog X.w) X.A (subscriptTail value slice v u) (EP X pins σ Q) X.xe s
def MtR (X : Cx) (id : String) (r : V -> List V -> Hp -> VK -> Prop) : Prop :=
 ∀ (pins : PLs) (s : Shared) (σ : St) (H : Hp) (x : V) (xs : List V) (v : Value) (us : List Value) (Q : VK), Inv X pins σ H s -> RelV x v -> Vals xs us -> r x xs H Q →
  wpAny (model X.prog X.w) X.A (call (.builtin id) (v :: us)) (EP X pins σ Q) X.xe s
section
variable {X : Cx} {a b : Expr} {ta tb : TE} {pos : Pos}
theorem pe_ix {r : R2} (hr : IxR X r) (ha : PE X a ta) (hb : PE X b tb) (hs : PlainIx b) : PE X (.Subscript a b pos) (tOp r ta tb) := by
 intro pins s σ H Q I h
 exact Subscript_ (binT ha hb I h fun v u s2 x y H2 I2 rx ry q => hr a b pins s2 σ H2 x y v u Q I2 rx ry q (hs _ _))
def rIxL (K : Fg) : R2 := fun x y H Q => ∃ p xs i v, x = .ref p /\ y = .int i /\ SqL K H p xs /\ atI xs i = some v /\ Q v H
def rIxT (K : Fg) : R2 := fun x y H Q => ∃ p xs i v, x = .ref p /\ y = .int i /\ SqT K H p xs /\ atI xs i = some v /\ Q v H
def rIxS : R2 := fun x y H Q => ∃ z i c, x = .str z /\ y = .int i /\ z.length ≤ sizeLine /\ atI z.cps.toList i = some c /\ Q (.str ⟨#[c]⟩) H
theorem ix_list : IxR X (rIxL X.K) := by
 intro value slice pins s σ H x y v u Q I rx ry h hs
 obtain ⟨p, xs, i, z, rfl, rfl, hq, he, q⟩ := h
 cases rx
 obtain ⟨t, rfl⟩ := ry
 obtain ⟨its, r, pl, hz⟩ := I.list hq
 obtain ⟨j, h1, h2, h3, h4, h5⟩ := atI_get he
 obtain ⟨w, ew, rw'⟩ := r.get h2
 have hl := r.length
 have hn := line63
 have fin : EP X pins σ Q w s := ⟨z, H, I, rw', q⟩
 by_cases h0 : 0 ≤ i
 ·have hj : i.toNat = j := by
   rw [seqIndex_of h0 h5] at h1
   exact Option.some.inj h1
  exact item_listR pl.isList h0 (by omega) (by rw [hj]; simpa using ew) fin hs
 ·have hj : (i + (its.toArray.size : Int)).toNat = j := by
   rw [seqIndex_neg (by omega) h4] at h1
   rw [List.size_toArray, ← hl]
   exact Option.some.inj h1
  exact subscriptTail_builtinR (x := w) pl.isList.typeIs slot_list_getitem.lookup
   (wpAny_getItem_list_neg (Q := fun r s' => r = w /\ EP X pins σ Q r s') pl.isList (by omega) (by rw [List.size_toArray] <;> omega) (by omega) (by rw [hj]; simpa using ew) ⟨rfl, fin⟩) hs
theorem ix_tup : IxR X (rIxT X.K) := by
 intro value slice pins s σ H x y v u Q I rx ry h hs
 obtain ⟨p, xs, i, z, rfl, rfl, hq, he, q⟩ := h
 cases rx
 obtain ⟨t, rfl⟩ := ry
 obtain ⟨its, r, pl, hz⟩ := I.tuple hq
 obtain ⟨j, h1, h2, h3, h4, h5⟩ := atI_get he
 obtain ⟨w, ew, rw'⟩ := r.get h2
 have hl := r.length
 have hn := line63
 have fin : EP X pins σ Q w s := ⟨z, H, I, rw', q⟩
 exact subscriptTail_builtinR (x := w) pl.typeIs slot_tuple_getitem.lookup
  (getItem_tuple (j := j) (Q := fun r s' => r = w /\ EP X pins σ Q r s') pl (by omega) (by omega) (by rw [List.size_toArray, ← hl]; exact h1) (by simpa using ew) ⟨rfl, fin⟩) hs
def rIx (K : Fg) : R2 := fun x y H Q => rIxL K x y H Q ∨ rIxT K x y H Q ∨ rIxS x y H Q
theorem mapSeq_set (its : List Value) (n j : Nat) (u : Value) : Obj.mapSeq (·.setIfInBounds j u) { cls := .type "list", data := .seq its.toArray n } = { cls := .type "list", data := .seq (its.set j u).toArray n } := by
 simp [Obj.mapSeq]
theorem Inv.lst {pins : PLs} {σ : St} {H : Hp} {s : Shared} {p : Addr} {xs : List V} (I : Inv X pins σ H s) (h : H p = some (.lst xs)) :
  ∃ (its : List Value) (n : Nat), Vals xs its /\ s.heap.get? p = some { cls := .type "list", data := .seq its.toArray n } /\ xs.length ≤ sizeLine := by
 obtain ⟨z, its, n, r, e⟩ := I.hok p _ h
 exact ⟨its, n, r, e, z⟩
theorem Inv.lstUpd {pins : PLs} {σ : St} {H : Hp} {s : Shared} {p : Addr} {xs ys : List V} {its its' : List Value} {n n' : Nat} {f : Obj -> Obj} (I : Inv X pins σ H s) (h : H p = some (.lst xs))
  (ho : s.heap.get? p = some { cls := .type "list", data := .seq its.toArray n }) (hf : f { cls := .type "list", data := .seq its.toArray n } = { cls := .type "list", data := .seq its'.toArray n' }) (r : Vals ys its') (hz : ys.length ≤ sizeLine) (t : Nat) :
  Inv X pins σ (upd H p (.lst ys)) { s with heap := s.heap.update p f, toks := t } := by
 have e : (s.heap.update p f).get? p = some { cls := .type "list", data := .seq its'.toArray n' } := by
  rw [Heap.get?_update_self f ho (by rw [hf] <;> rfl), hf]
 refine I.write (x := p) (e := p) (by rw [h]; trivial) (.inl rfl) (fun b u hb q => (Heap.get?_update_other _ _ (Ne.symm hb)).trans q) ⟨_, e⟩ ?_
 exact ⟨hz, its', n', r, e⟩
def rSetL : V -> V -> V -> Hp -> (Hp -> Prop) -> Prop := fun o i v H Q => ∃ p xs k j, o = .ref p /\ i = .int k /\ H p = some (.lst xs) /\ ixN xs.length k = some j /\ Q (upd H p (.lst (xs.set j v)))
theorem set_list : PSet X rSetL := by
 intro pins s σ H o i v ov iv u Q I ro ri rv h
 obtain ⟨p, xs, k, j, rfl, rfl, hp, hj, q⟩ := h
 cases ro
 obtain ⟨t, rfl⟩ := ri
 obtain ⟨its, n, r, ho, hz⟩ := I.lst hp
 obtain ⟨h1, h2, h3, h4⟩ := ixN_seq hj
 have hl := r.length
 have hn := line63
 have I' : Inv X pins σ (upd H p (.lst (xs.set j v))) { s with heap := s.heap.update p (Obj.mapSeq (·.setIfInBounds j u)) } :=
  I.lstUpd hp ho (mapSeq_set its n j u) (r.set rv j) (by rw [List.length_set]; exact hz) s.toks
 by_cases h0 : 0 ≤ k
 ·have hk : k.toNat = j := by
   rw [seqIndex_of h0 h4] at h1
   exact Option.some.inj h1
  exact PySem.W.ki_setAt ho h0 (by omega) (by rw [List.size_toArray, ← hl]; exact h4) (by rw [hk]; exact ⟨_, I', q⟩)
 ·have hk : (k + (its.toArray.size : Int)).toNat = j := by
   rw [seqIndex_neg (by omega) h3] at h1
   rw [List.size_toArray, ← hl]
   exact Option.some.inj h1
  exact PySem.W.ki_setBack ho (by omega) (by rw [List.size_toArray, ← hl]; exact h3) (by omega) (by rw [hk]; exact ⟨_, I', q⟩)
theorem slice_bounds (lo hi : Option Int) (n : Nat) : (sliceBounds lo hi none n).1 = ((HT.sIx n 0 lo : Nat) : Int) /\ (sliceBounds lo hi none n).2.1 = ((HT.sIx n n hi : Nat) : Int) /\ (sliceBounds lo hi none n).2.2 = 1 := by
 refine ⟨?_, ?_, rfl⟩
 ·cases lo with
  | none => simp [sliceBounds, HT.sIx]
  | some i =>
   simp only [sliceBounds, HT.sIx, Option.getD_none, show (1 : Int) > 0 by decide, if_true]
   by_cases h : i < 0
   ·simp only [h, if_true] <;> omega
   ·simp only [h, if_false] <;> omega
 ·cases hi with
  | none => simp [sliceBounds, HT.sIx]
  | some i =>
   simp only [sliceBounds, HT.sIx, Option.getD_none, show (1 : Int) > 0 by decide, if_true]
   by_cases h : i < 0
   ·simp only [h, if_true] <;> omega
   ·simp only [h, if_false] <;> omega
theorem slicePick_cut (its : List Value) (lo hi : Option Int) : slicePick its.toArray lo hi none = ((its.drop (HT.sIx its.length 0 lo)).take (HT.sIx its.length its.length hi - HT.sIx its.length 0 lo)).toArray := by
 obtain ⟨h1, h2, h3⟩ := slice_bounds lo hi its.toArray.size
 unfold slicePick
 rw [h1, h2, h3]
 simp only [sliceRange_one, pick_run, List.size_toArray] <;> rfl
def rSlL (K : Fg) : V -> Option Int -> Option Int -> Hp -> VK -> Prop := fun x lo hi H Q => ∃ a xs, x = .ref a /\ SqL K H a xs /\ ∀ p, H p = none -> Q (.ref p) (upd H p (.lst (cutV xs lo hi)))
theorem sl_list : SlR X (rSlL X.K) := by
 intro pins s σ H x v vl vu lo hi sl Q I rx hs pl pu h
 obtain ⟨a, xs, rfl, hx, q⟩ := h
 cases rx
 obtain ⟨its, r, ht, hz⟩ := I.list hx
 have hlen := r.length
 refine ⟨"list", _, slot_list_getitem.lookup, ht.isList.typeIs, ?_⟩
 refine wpAny_getItem_list_slice ht.isList hs pl pu .none (by simp) ?_ (by rw [List.size_toArray] <;> omega)
 rw [slicePick_cut, ← hlen]
 refine ⟨.ref s.heap.objs.size, _, I.laid (t' := s.toks) (o := .lst (cutV xs lo hi)) (fun b ob q => Heap.get?_push_of_some _ q) (Nat.le_refl _) ?_, rfl, q _ (I.hok.fresh (Nat.le_refl _))⟩
 exact ⟨Nat.le_trans (cutV_length xs lo hi) hz, _, 0, (r.drop (HT.sIx xs.length 0 lo)).take (HT.sIx xs.length xs.length hi - HT.sIx xs.length 0 lo), Heap.get?_push_size _ rfl⟩
def flatV : V -> Bool
 | .non => true
 | .bl _ => true
 | .int _ => true
 | .str _ => true
 | _ => false
def eqV : V -> V -> Bool
 | .non, .non => true
 | .bl a, .bl b => a == b
 | .bl a, .int b => (if a then 1 else 0) == b
 | .int a, .bl b => a == (if b then 1 else 0)
 | .int a, .int b => a == b
 | .str a, .str b => a == b
 | _, _ => false
def eqU (x : V) (u : Value) : Bool := match u with
 | .none => eqV .non x
 | .bool b => eqV (.bl b) x
 | .int i _ => eqV (.int i) x
 | .str z _ => eqV (.str z) x
 | _ => false
def inV (x : V) (xs : List V) : Bool := xs.any fun y => eqV y x
def rIn (K : Fg) (neg : Bool) : R2 := fun x y H Q => ∃ p xs, y = .ref p /\ (SqL K H p xs ∨ SqT K H p xs) /\ flatV x = true /\ xs.all flatV = true /\ Q (.bl (if neg then !inV x xs else inV x xs)) H
theorem call_len_seq : CallR X (.builtin "len") (fun xs H Q => ∃ p ys, xs = [.ref p] /\ (SqL X.K H p ys ∨ SqT X.K H p ys) /\ Q (.int ys.length) H) := by
 intro pins s σ H xs us Q I r h
 obtain ⟨p, ys, rfl, hq, q⟩ := h
 obtain ⟨u, rfl, rx⟩ := vals1 r
 cases rx
 have hn := line63
 rcases hq with hq | hq
 ·obtain ⟨its, r', pl, hz⟩ := I.list hq
  have hlen := r'.length
  exact Calls.call_len_list pl.isList (by simp only [List.size_toArray] <;> omega) ⟨.int ys.length, H, I.tok _, ⟨s.toks + 1, by rw [List.size_toArray, hlen]⟩, q⟩
 ·obtain ⟨its, r', pl, hz⟩ := I.tuple hq
  have hlen := r'.length
  exact len_tuple pl (by simp only [List.size_toArray] <;> omega) ⟨.int ys.length, H, I.tok _, ⟨s.toks + 1, by rw [List.size_toArray, hlen]⟩, q⟩
theorem call_tuple_of : CallR X (.type "tuple") (fun xs H Q => ∃ p ys, xs = [.ref p] /\ ((SqL X.K H p ys /\ ∀ l, H l = none -> Q (.ref l) (upd H l (.tup ys))) ∨ (SqT X.K H p ys /\ Q (.ref p) H))) := by
 intro pins s σ H xs us Q I r h
 obtain ⟨p, ys, rfl, h⟩ := h
 obtain ⟨u, rfl, rx⟩ := vals1 r
 cases rx
 rcases h with ⟨hq, q⟩ | ⟨hq, q⟩
 ·obtain ⟨its, r', pl, hz⟩ := I.list hq
  have hlen := r'.length
  refine call_tuple_list pl.isList (fun h' kp => ?_) (by simp only [List.size_toArray] <;> omega)
  have I1 : Inv X pins σ H { s with heap := h' } := I.kept (t' := s.toks) kp
  have I2 : Inv X pins σ (upd H h'.objs.size (.tup ys)) { s with heap := h'.push { cls := .type "tuple", data := .seq its.toArray } } :=
   I1.laid (t' := s.toks) (fun b o e => Heap.get?_push_of_some _ e) (Nat.le_refl _) (show ObjOk X.prog X.w _ _ _ (.tup ys) from ⟨hz, its, r', IsTup.new _ _⟩)
  exact ⟨.ref h'.objs.size, _, I2, rfl, q _ (I1.hok.fresh (Nat.le_refl _))⟩
 ·obtain ⟨its, r', pl, hz⟩ := I.tuple hq
  exact call_tuple_same pl ⟨.ref p, H, I, rfl, q⟩
def tyV (K : Fg) (T : String) (x : V) (H : Hp) : Prop := match x with
 | .str _ => T = "str"
 | .int _ => T = "int"
 | .ref p => (T = "list" /\ ∃ xs, SqL K H p xs) ∨ (T = "tuple" /\ ∃ o, K.lookup p = some o /\ o.cls = .type "tuple" /\ o.dict = none) ∨
   (T = "dict" /\ ((∃ kvs, H p = some (.dK kvs)) ∨ ∃ kvs, H p = some (.dT kvs))) ∨ (T = "set" /\ ∃ S n, H p = some (.set S n))
 | _ => False
theorem tyV_is {pins : PLs} {σ : St} {H : Hp} {s : Shared} {T : String} {x : V} {v : Value} (I : Inv X pins σ H s) (r : RelV x v) (ty : tyV X.K T x H) :
  s.TypeIs v T /\ ∀ a, v = .ref a -> ∃ ob, s.heap.get? a = some ob /\ ob.dict = none := by
 cases x with
 | str z =>
  obtain ⟨t, rfl⟩ := r
  cases (show T = "str" from ty)
  exact ⟨typeIs_str s z t, fun _ e => nomatch e⟩
 | int i =>
  obtain ⟨t, rfl⟩ := r
  cases (show T = "int" from ty)
  exact ⟨typeIs_int s i t, fun _ e => nomatch e⟩
 | ref p =>
  cases r
  rcases ty with ⟨rfl, xs, hq⟩ | ⟨rfl, o, hk, hc, hd⟩ | ⟨rfl, hk⟩ | ⟨rfl, S, n, hk⟩
  ·obtain ⟨its, _, pl, _⟩ := I.list hq
   refine ⟨pl.isList.typeIs, fun a e => ?_⟩
   cases e
   obtain ⟨o, n, e, c, hd, _⟩ := pl
   exact ⟨o, e, hd⟩
  ·refine ⟨⟨o, I.kIn p o hk, hc⟩, fun a e => ?_⟩
   cases e
   exact ⟨o, I.kIn _ o hk, hd⟩
  ·have z : ∃ o, s.heap.get? p = some o /\ o.ExactDict := by
    rcases hk with ⟨kvs, hk⟩ | ⟨kvs, hk⟩
    ·obtain ⟨_, _, _, _, o, _, _, e, ex, _⟩ := I.hok p _ hk
     exact ⟨o, e, ex⟩
    ·obtain ⟨_, _, _, _, o, _, _, e, ex, _⟩ := I.hok p _ hk
     exact ⟨o, e, ex⟩
   obtain ⟨o, e, ex⟩ := z
   refine ⟨⟨o, e, ex.1⟩, fun a e2 => ?_⟩
   cases e2
   exact ⟨o, e, ex.2.1⟩
  ·obtain ⟨o, _, _, _, e, ex, _⟩ := I.hok p _ hk
   refine ⟨⟨o, e, ex.1⟩, fun a e2 => ?_⟩
   cases e2
   exact ⟨o, e, ex.2.1⟩
 | _ => exact False.elim ty
def tBM0 (K : Fg) (T : String) (r : V -> List V -> Hp -> VK -> Prop) (to : TE) : TE := fun σ H Q => to σ H fun x H1 => tyV K T x H1 /\ r x [] H1 Q
def tBM (K : Fg) (T : String) (r : V -> List V -> Hp -> VK -> Prop) (to : TE) (t : TA) : TE := fun σ H Q => to σ H fun x H1 => tyV K T x H1 /\ t σ H1 fun xs H2 => r x xs H2 Q
variable {o e : Expr} {es : List Expr} {to : TE} {t : TA} {name : Str} {apos cpos : Pos} {T id : String} {r : V -> List V -> Hp -> VK -> Prop}
theorem pe_bm (pa : PlainAttrs T) (slot : Slot T name id) (hty : typeOf (.builtin id) = pure (.type "method_descriptor")) (hm : MtR X id r) (ho : PE X o to) (ha : PA X (e :: es) t)
  (hbase : attributeBase o name X.env (eval o X.env) = eval o X.env := by rfl)
  (hfew : ((backTo cpos (starEach (e :: es) X.env)).all (fun x => !x.1) && (backToKw cpos (keywordEach [] X.env)).all (fun x => x.1.isSome)
   && decide ((e :: es).length + ([] : List Keyword).length + (if ([] : List Keyword).isEmpty then 0 else 1) < 30)) = true := by rfl)
  (hline : (apos.endLine == cpos.line) = true := by rfl) (hs : starEach (e :: es) X.env = (false, eval e X.env) :: starEach es X.env := by rfl) (hplain : (backTo cpos (starEach es X.env)).any (·.1) = false := by rfl) :
  PE X (.Call (.Attribute o name apos) (e :: es) [] cpos) (tBM X.K T r to t) := by
 intro pins s σ H Q I h
 refine wpAny_Call_method_late hbase hfew hline rfl (thn (ho pins s σ H _ I h) fun v s1 ⟨x, H1, I1, r1, ty, q1⟩ => ?_)
 obtain ⟨h1, h2⟩ := tyV_is I1 r1 ty
 refine ⟨T, id, pa, slot, hty, h1, h2, ?_⟩
 have hA := ha cpos pins s1 σ H1 _ I1 q1
 rw [hs] at hA ⊢
 refine Calls.callWith_builtin (by show (false || (backTo cpos (starEach es X.env)).any (·.1)) = false; rw [hplain] <;> rfl) (Calls.evalArgs_plain ?_)
 exact thn hA fun us s2 ⟨vs, H2, I2, r2, q2⟩ => hm pins s2 σ H2 x vs v us Q I2 r1 r2 q2
end
end L2
namespace L2
open PySem PySem.Spec PyProof.Rows
def MtM (X : Cx) (id : String) (r : V -> List V -> Hp -> VK -> Prop) : Prop :=
 ∀ (pins : PLs) (s : Shared) (σ : St) (H : Hp) (x : V) (xs : List V) (v : Value) (us : List Value) (Q : VK), Inv X pins σ H s -> RelV x v -> Vals xs us -> r x xs H Q →
  wpAny (model X.prog X.w) X.A (call (.builtin id) (v :: us)) (EP X pins σ Q) X.xe s
theorem Vals.one : ∀ {x : V} {us : List Value}, Vals [x] us -> ∃ u, us = [u] /\ RelV x u
 | _, _, .cons r .nil => ⟨_, rfl, r⟩
section
variable {X : Cx} {pins : PLs} {σ : St} {H : Hp} {s : Shared} {l b : Addr} {xs ys zs : List V}
theorem Inv.lset {its its' : List Value} {n : Nat} {f : Array Value -> Array Value} {t' : Nat} (I : Inv X pins σ H s) (hH : H l = some (.lst xs))
  (e : s.heap.get? l = some { cls := .type "list", data := .seq its.toArray n }) (hf : f its.toArray = its'.toArray) (hv : Vals ys its') (hz : ys.length ≤ sizeLine) :
  Inv X pins σ (upd H l (.lst ys)) { s with heap := s.heap.update l (Obj.mapSeq f), toks := t' } := by
 have q := PySem.IsL.update e f
 rw [hf] at q
 refine I.write (x := l) (e := l) (by rw [hH]; exact trivial) (.inl rfl) (fun b' u hb hu => (Heap.get?_update_other s.heap (Obj.mapSeq f) (Ne.symm hb)).trans hu) ⟨_, q⟩ ?_
 exact ⟨hz, its', _, hv, q⟩
theorem Inv.lnew {its : List Value} {t' : Nat} (I : Inv X pins σ H s) (hv : Vals ys its) (hz : ys.length ≤ sizeLine) :
  Inv X pins σ (upd H s.heap.objs.size (.lst ys)) { s with heap := s.heap.push { cls := .type "list", data := .seq its.toArray }, toks := t' } :=
 I.laid (fun _ _ q => Heap.get?_push_of_some _ q) (Nat.le_refl _) ⟨hz, its, 0, hv, Heap.get?_push_size _ rfl⟩
theorem Inv.fresh (I : Inv X pins σ H s) : H s.heap.objs.size = none := I.hok.fresh (Nat.le_refl _)
theorem Inv.lstM (I : Inv X pins σ H s) (hH : H l = some (.lst xs)) : xs.length ≤ sizeLine /\ ∃ (its : List Value) (n : Nat), Vals xs its /\ xs.length = its.length /\ s.heap.get? l = some { cls := .type "list", data := .seq its.toArray n } := by
 obtain ⟨z, its, n, r, e⟩ := I.hok l _ hH
 exact ⟨z, its, n, r, r.length, e⟩
end
section
variable {X : Cx}
def rAppend : V -> List V -> Hp -> VK -> Prop := fun x vs H Q => ∃ l xs y, x = .ref l /\ vs = [y] /\ H l = some (.lst xs) /\ xs.length < sizeLine /\ Q .non (upd H l (.lst (xs ++ [y])))
theorem mt_append : MtM X "list.append" rAppend := by
 intro pins s σ H x vs v us Q I rx rv h
 obtain ⟨l, xs, y, rfl, rfl, hH, hz, q⟩ := h
 cases rx
 obtain ⟨u, rfl, ru⟩ := rv.one
 obtain ⟨z, its, n, r, hl, e⟩ := I.lstM hH
 refine call_meets F.slot_list_append ⟨_, e, rfl⟩ F.entry_list_append (F.args_list_append_2 _ _) (PySem.list_append l its.toArray n u (by rw [List.size_toArray]; omega)) ⟨e, ?_⟩
 refine ⟨.non, _, I.lset (its' := its ++ [u]) hH e (by simp) (r.append (.cons ru .nil)) ?_, rfl, q⟩
 rw [List.length_append, List.length_singleton]
 omega
def rExtend : V -> List V -> Hp -> VK -> Prop := fun x vs H Q => ∃ l b xs zs, x = .ref l /\ vs = [.ref b] /\ H l = some (.lst xs) /\ H b = some (.lst zs) /\ xs.length + zs.length ≤ sizeLine /\ Q .non (upd H l (.lst (xs ++ zs)))
def rPop : V -> List V -> Hp -> VK -> Prop := fun x vs H Q => ∃ l xs y, x = .ref l /\ vs = [] /\ H l = some (.lst xs) /\ xs[xs.length - 1]? = some y /\ Q y (upd H l (.lst xs.dropLast))
def rPopAt : V -> List V -> Hp -> VK -> Prop := fun x vs H Q => ∃ l xs i k y, x = .ref l /\ vs = [.int i] /\ H l = some (.lst xs) /\ -(2 ^ 63) ≤ i /\ i < 2 ^ 63 /\ seqIndex? i xs.length = some k /\ xs[k]? = some y /\ Q y (upd H l (.lst (xs.eraseIdx k)))
def rReverse : V -> List V -> Hp -> VK -> Prop := fun x vs H Q => ∃ l xs, x = .ref l /\ vs = [] /\ H l = some (.lst xs) /\ Q .non (upd H l (.lst xs.reverse))
def rClear : V -> List V -> Hp -> VK -> Prop := fun x vs H Q => ∃ l xs, x = .ref l /\ vs = [] /\ H l = some (.lst xs) /\ Q .non (upd H l (.lst []))
def rCat : R2 := fun x y H Q => ∃ l b xs zs, x = .ref l /\ y = .ref b /\ H l = some (.lst xs) /\ H b = some (.lst zs) /\ xs.length + zs.length ≤ sizeLine /\ ∀ p, H p = none -> Q (.ref p) (upd H p (.lst (xs ++ zs)))
def rRep : R2 := fun x y H Q => ∃ l k xs, x = .ref l /\ y = .int k /\ H l = some (.lst xs) /\ -(2 ^ 63) ≤ k /\ k < 2 ^ 63 /\ xs.length * k.toNat ≤ sizeLine ∧
 ∀ p, H p = none -> Q (.ref p) (upd H p (.lst (List.replicate k.toNat xs).flatten))
end
section
variable {prog : Program} {w : World} {A : Around} {E : VSP} {s : Shared}
end
section
variable {X : Cx}
end
end L2
namespace Att
open PySem PySem.W PySem.Calls PyProof.Rows
theorem ints_of_wellAll {P : Params} {h : Heap} : ∀ (ns : List Int) (vs : List Value), WellAll P h vs (ns.map WData.int) -> IntsAre vs ns := by
 intro ns
 induction ns with
 | nil =>
  intro vs w
  rw [List.map_nil] at w
  cases w
  exact .nil
 | cons n ns ih =>
  intro vs w
  rw [List.map_cons] at w
  cases w with
  | cons a b =>
   cases a
   exact .cons _ _ (ih _ b)
theorem script_of {l : OpenLaw} {n : Nat} (hn : l.most = some n) {P : Params} {h : Heap} {args : List WData} {vals : List Value}
  (hpre : l.row.toRowW.claim.pre args = true) (hwl : WellAll P h vals args) :
  ∃ a vs ns, vals = [Value.ref a] /\ args = [WData.list (ns.map WData.int)] /\ h.get? a = some { cls := .type "list", data := .seq vs.toArray } /\ IntsAre vs ns /\ ns.length ≤ n := by
 have hsh : WShape.hasAll [] args [.list .int] = true := (pre_splitW hpre).1
 have hc : l.pre.holds [] { args := args } = true := (pre_splitW hpre).2
 obtain ⟨d, r, rfl, h1, h2⟩ := hasAllW_cons hsh
 obtain rfl := hasAllW_nil h2
 obtain ⟨xs, rfl, h3⟩ := hasW_list h1
 obtain ⟨ns, rfl⟩ := items_int h3
 have hlen : ns.length ≤ n := by
  unfold OpenLaw.pre at hc
  have h4 : (WTm.not (.lt (.lit (.int (n : Int))) (.len (.arg 0)))).holds [] { args := [.list (ns.map .int)] } = true := by
   have h4 := (holds_andW hc).1
   rw [hn] at h4
   exact h4
  have h5 := condW_of h4 (w_not (w_lt w_lit (w_len_list (w_arg rfl))))
  rw [List.length_map] at h5
  refine Nat.le_of_not_lt fun q => ?_
  have q' : (n : Int) < ((ns.length : Nat) : Int) := by omega
  first
   | (rw [decide_eq_true q'] at h5; exact absurd h5 (by decide))
   | (simp at h5; omega)
 cases hwl with
 | cons w1 w2 =>
  cases w2
  cases w1 with
  | list ho hall => exact ⟨_, _, ns, rfl, rfl, ho, ints_of_wellAll ns _ hall, hlen⟩
theorem post_true (l : OpenLaw) (args : List WData) : l.row.toRowW.claim.post args (.bool true) args = true :=
 postW_of (r := l.row.toRowW) (X := (true == true))
  (show WShape.has [] (.bool true) .bool = true by first | rfl | decide | simp [WShape.has, WShape.arms, WShape.armsAll])
  (show (WTm.eq .res (.lit (.bool true))).value [] { args := args, res := some (.bool true), after := args } = some (.bool (true == true)) from w_eq_bool (w_res rfl) w_lit) rfl
theorem attach_call {l : OpenLaw} {n : Nat} {q : Program} {loose : List Str} {XP : (Str -> Option Value) -> Heap -> Prop} {YP : World -> Heap -> Prop} {d : DefRec}
  (hn : l.most = some n) (hdf : d.params.defaults = [])
  (call : ∀ (w : World) (s₀ s₁ : Shared) (mg mb : Str -> Option Value) (fa : Addr) (o : Obj) (pm cd doc : Value) (a : Addr) (vs : List Value) (ns : List Int),
   Ground q loose [] XP w s₀ mg mb s₁.heap -> YP w s₁.heap →
   s₁.heap.get? fa = some o -> o.data = .func (docDef d.name d.params d.body d.scope pm cd doc) -> s₁.heap.CodeRec cd d.name -> mg d.name = some (.ref fa) →
   s₁.heap.get? a = some { cls := .type "list", data := .seq vs.toArray } -> IntsAre vs ns -> ns.length ≤ n -> s₁.gens = #[] →
   codeAny (model l.prog w) callerA (.call (.ref fa) ⟨[.ref a], []⟩) (fun r s' => r = .ok (.ret (.bool true)) /\ OldK s₁.heap s'.heap /\ s'.os = s₁.os /\ AllBare s'.gens) s₁) :
  WalkO q loose XP YP l.row.toRowW d [] (fun f vs => PySem.call f vs) := by
 intro w s₀ s₁ mg mb G Y fa o pm cd doc dV kV ho hd hcd hD hmg hg args vals as hpre hlay hrd hwl hlo
 obtain rfl : dV = .none := Dflts.none hD hdf
 obtain rfl : kV = .none := Dflts.noKw hD
 obtain ⟨a, vs, ns, rfl, rfl, hobj, hints, hlen⟩ := script_of hn hpre hwl
 refine enter_call (codeAny_mono (call w s₀ s₁ mg mb fa o pm cd doc a vs ns G Y ho (fd_plain hd) hcd hmg hobj hints hlen hg) fun r s' hq => ?_)
 obtain ⟨rfl, h2, h3, h4⟩ := hq
 exact ⟨.inl ⟨.bool true, .bool true, [], rfl, fun _ => rfl, .bool true, post_true l _, fun _ => ⟨List.Pairwise.nil, fun _ hm => (nomatch hm)⟩⟩, h2, h3, h4⟩
section
variable {prog : Program} {w : World} {A : Around} {E : VSP} {s : Shared} {K : Frag}
def noObjs (h : Heap) : Heap := { h with objs := #[] }
def ledger (h : Heap) (L d : Addr) : PLs := (List.range h.objs.size).filterMap fun a => if a = L ∨ a = d then none else (h.get? a).map fun o => (a, o)
end
end Att
namespace L2
open PySem PySem.Spec PyProof.Rows
theorem vals_ints : ∀ {vs : List Value} {ns : List Int}, IntsAre vs ns -> Vals (ns.map V.int) vs
 | _, _, .nil => .nil
 | _, _, .cons n t h => .cons ⟨t, rfl⟩ (vals_ints h)
def Only (H : Hp) : Prop := ∀ b, H b = none ∨ ∃ o xs, H b = some (.frz o (.lst xs))
theorem law_call {P : Program} {w : World} {K : Fg} {mg mb : Str -> Option Value} {CX : CXT} {k : Nat} {fa a : Addr} {fd : FuncData} {x : Str} {sp : Sp} {s₁ : Shared} {vs : List Value} {ns : List Int}
  (KX : K.In s₁.heap) (hns : s₁.heap.Ns mainGlobals mg) (hb : s₁.heap.Ns builtinsNs mb) (hbb : ∀ x : Str, x ≠ "__name__" -> mb x = bootBuiltins x) (hlim : s₁.heap.NoLimit) (hg : s₁.gens = #[])
  (ha : s₁.heap.get? a = some { cls := .type "list", data := .seq vs.toArray }) (hi : IntsAre vs ns) (hl : ns.length ≤ sizeLine) (hr : Room k callerA)
  (F : ∀ base : Heap, K.In base -> base.Ns mainGlobals mg -> FnOk P w K mg base CX k fa fd [x] sp) (hbind : ∀ (s : Shared) (u : Value), BindsTo s fd ⟨[u], []⟩ [(x, u)])
  (hsp : ∀ H : Hp, Only H -> SqL K H a (ns.map V.int) -> sp [.ref a] H (fun v _ => v = .bl true) fun _ _ _ => False)
  (hCX : ∀ H e s', CX [] H s₁ (fun _ _ _ => False) e s' -> False) :
  codeAny (model P w) callerA (.call (.ref fa) ⟨[.ref a], []⟩) (fun r s' => r = .ok (.ret (.bool true)) /\ OldK s₁.heap s'.heap /\ s'.os = s₁.os /\ AllBare s'.gens) s₁ := by
 have rv := vals_ints hi
 have lenV := hi.length
 have core : ∀ H : Hp, Only H -> SqL K H a (ns.map V.int) -> HOk P w H s₁.heap -> (∀ b, H b ≠ none -> b = a) -> (H a ≠ none -> K.lookup a = none) →
   codeAny (model P w) callerA (.call (.ref fa) ⟨[.ref a], []⟩) (fun r s' => r = .ok (.ret (.bool true)) /\ OldK s₁.heap s'.heap /\ s'.os = s₁.os /\ AllBare s'.gens) s₁ := by
  intro H hO hS hok hA hK
  have base_of : ∀ {b : Addr} {o : Obj}, s₁.heap.get? b = some o -> H b = none -> (hidT s₁.heap H).get? b = some o := fun e n => hidT_get e n
  have noA : ∀ {b : Addr} {o : Obj} {es : Array DictEntry} {ep : Nat}, s₁.heap.get? b = some o -> o.data = .dict es ep -> H b = none := fun {b o es ep} e d => by
   cases q : H b with
   | none => rfl
   | some u =>
    have e' : b = a := hA b (by rw [q]; simp)
    subst e'
    rw [ha] at e; cases e
    have d' : Data.seq vs.toArray _ = Data.dict es ep := d
    cases d'
  have nsK : ∀ {b : Addr} {m : Str -> Option Value}, s₁.heap.Ns b m -> (hidT s₁.heap H).Ns b m := fun {b m} ⟨o, es, ep, e, d, r⟩ => ⟨o, es, ep, base_of e (noA e d), d, r⟩
  have hKb : K.In (hidT s₁.heap H) := fun b o e => base_of (KX b o e) (by
   cases q : H b with
   | none => rfl
   | some u =>
    have e' : b = a := hA b (by rw [q]; simp)
    subst e'
    rw [hK (by rw [q]; simp)] at e; cases e)
  have hM : Mod K mg (hidT s₁.heap H) := ⟨hKb, nsK hns, ⟨mb, nsK hb, hbb⟩, let ⟨mc, h1, h2⟩ := hlim; ⟨mc, nsK h1, h2⟩⟩
  have e0 : Env0 P w K mg (hidT s₁.heap H) callerA [] s₁ H := ⟨rfl, hM, fun b o e => of_hidT e, Nat.le_of_eq (hidT_size _ _), trivial, fun b hb => absurd (show b ∈ ([] : List Addr) from hb) (by simp), hok, .of_eq hg⟩
  refine codeAny_mono ((F _ hKb (nsK hns)).run callerA [] s₁ H ⟨[.ref a], []⟩ [.ref a] [.ref a] _ _ hr e0 (hbind s₁ (.ref a)) (.cons rfl .nil) (hsp H hO hS)) fun r s' h => ?_
  cases r with
  | error e => exact (hCX H e s' h).elim
  | ok fl =>
   cases fl with
   | next => exact False.elim h
   | brk => exact False.elim h
   | cont => exact False.elim h
   | ret u =>
    obtain ⟨v, H', os, bare, un, hok', r', q⟩ := h
    have q' : v = .bl true := q
    subst q'
    obtain rfl : u = Value.bool true := r'
    refine ⟨rfl, OldK.of_keep fun b o e => ?_, os, bare⟩
    cases q : H b with
    | none => exact un.keep b o e q (by intro z; exact absurd (show b ∈ ([] : List Addr) from z) (by simp)) (by simp)
    | some u =>
     rcases hO b with z | ⟨ob, xs, z⟩
     ·rw [q] at z; cases z
     ·have z2 := un.frzs b ob _ z
      obtain ⟨e1, _⟩ := hok b _ z
      obtain ⟨e2, _⟩ := hok' b _ z2
      rw [e] at e1; cases e1
      exact e2
 cases hk : K.lookup a with
 | some o =>
  have e := KX a o hk
  rw [ha] at e
  cases e
  refine core (fun _ => none) (fun _ => .inl rfl) (.inr ⟨_, vs.toArray, _, hk, rfl, rfl, rfl, by rw [List.size_toArray, lenV]; exact hl, by simpa using rv⟩) (fun b u z => by have z' : (none : Option HO) = some u := z; cases z') (fun b z => absurd rfl z) fun z => absurd rfl z
 | none =>
  refine core (fun b => if b = a then some (.frz { cls := .type "list", data := .seq vs.toArray } (.lst (ns.map V.int))) else none) (fun b => ?_) (.inl (.inr ⟨{ cls := .type "list", data := .seq vs.toArray }, if_pos rfl⟩)) (fun b u z => ?_) (fun b z => ?_) fun _ => hk
  ·by_cases hb : b = a
   ·exact .inr ⟨_, _, if_pos hb⟩
   ·exact .inl (if_neg hb)
  ·by_cases hb : b = a
   ·have z' := (if_pos hb).symm.trans z
    cases z'
    subst hb
    exact ⟨ha, by rw [List.length_map]; exact hl, vs, _, rv, ha⟩
   ·have z' := (if_neg hb).symm.trans z
    cases z'
  ·by_cases hb : b = a
   ·exact hb
   ·exact absurd (if_neg hb) z
end L2
namespace L2
open PySem PySem.Spec PyProof.Rows
abbrev KOf {K : Fg} {h : Heap} (_ : K.In h) : Fg := K
theorem walk_of {l : PySem.W.OpenLaw} {n k : Nat} {q : Program} {loose : List Str} {XP : (Str -> Option Value) -> Heap -> Prop} {YP : World -> Heap -> Prop} {d : DefRec} {K : Params -> Fg} {CX : World -> CXT} {sp : World -> Sp} {x : Str}
  (hn : l.most = some n) (hn2 : n ≤ sizeLine) (hdf : d.params.defaults = []) (hr : Room k callerA)
  (hY : ∀ (w : World) (h : Heap), YP w h -> (K w.params).In h)
  (F : ∀ (w : World) (mg : Str -> Option Value) (fa : Addr) (h : Heap), (K w.params).In h -> h.Ns mainGlobals mg -> mg d.name = some (.ref fa) →
   ∃ fd : FuncData, (∀ (s : Shared) (u : Value), BindsTo s fd ⟨[u], []⟩ [(x, u)]) ∧
    ∀ base : Heap, (K w.params).In base -> base.Ns mainGlobals mg -> FnOk l.prog w (K w.params) mg base (CX w) k fa fd [x] (sp w))
  (hsp : ∀ (w : World) (H : Hp) (a : Addr) (ns : List Int), ns.length ≤ n -> Only H -> SqL (K w.params) H a (ns.map V.int) -> sp w [.ref a] H (fun v _ => v = .bl true) fun _ _ _ => False)
  (hCX : ∀ (w : World) (H : Hp) (s : Shared) (e : Value) (s' : Shared), CX w [] H s (fun _ _ _ => False) e s' -> False) :
  PySem.W.WalkO q loose XP YP l.row.toRowW d [] (fun f vs => PySem.call f vs) := by
 refine Att.attach_call hn hdf fun w s₀ s₁ mg mb fa o pm cd doc a vs ns G Y ho hd hcd hmg hobj hints hlen hg => ?_
 have KX := hY w _ Y
 obtain ⟨fd, hb, hF⟩ := F w mg fa _ KX G.T.g hmg
 exact law_call KX G.T.g G.T.b G.T.builtins G.T.nolimit hg hobj hints (Nat.le_trans hlen hn2) hr hF hb (fun H hO hS => hsp w H a ns hlen hO hS) fun H e s' => hCX w H s₁ e s'
end L2
namespace L2
open PySem PySem.Spec PyProof.Rows
def inClass (s : Stmt) (j : Nat) : Stmt := match s with
 | .ClassDef _ _ _ body _ _ _ _ _ _ _ => body.getD j (.Pass ⟨0, 0, 0, 0⟩)
 | _ => .Pass ⟨0, 0, 0, 0⟩
def defArgs (s : Stmt) : Arguments := match s with
 | .FunctionDef _ a _ _ _ _ _ _ _ _ => a
 | _ => { posonlyargs := [], args := [], vararg := none, kwonlyargs := [], kw_defaults := [], kwarg := none, defaults := [] }
def defBody (s : Stmt) : List Stmt := match s with
 | .FunctionDef _ _ b _ _ _ _ _ _ _ => b
 | _ => []
def defScope (s : Stmt) : Scope := match s with
 | .FunctionDef _ _ _ _ _ _ sc _ _ _ => sc
 | _ => { kind := .function, names := [], isGenerator := false, isCoroutine := false }
abbrev CX0 : CXT := fun _ _ _ _ _ _ => False
abbrev E0 : XK := fun _ _ _ => False
theorem pass0 {X : Cx} : Passes CX0 X E0 := fun _ _ _ _ _ _ _ h => h.elim
structure Fun (K : Fg) (x qual : Str) (st : Stmt) (f : Addr) (fd : FuncData) : Prop where
 ex : ∃ (oc : Value) (od : Option Addr) (kV doc pm : Value) (an : Option Addr) (cdv ct : Value) (osl : Array (Option Value)),
  fd = PySem.W.fnOf x qual (defArgs st) (defBody st) (defScope st) .none kV doc pm an cdv ct /\ K.lookup f = some ⟨oc, od, .func fd, osl⟩ /\ PySem.W.codeIn K cdv qual = true
 kp : PySem.W.keepIn K (.ref f) = true
section
variable {P : Program} {w : World} {K : Fg} {mg : Str -> Option Value} {base : Heap}
theorem Fun.ok {x qual : Str} {st : Stmt} {f : Addr} {fd : FuncData} {N ps : List Str} {k : Nat} {sp : Sp} (F : Fun K x qual st f fd) (S : FnScope N ps (defScope st)) (len : ∀ vs H Q E, sp vs H Q E -> vs.length = ps.length)
  (hbody : ∀ (cdv : Value) (A : Around) (outer : List Env) (s : Shared) (H : Hp) (vs : List V) (Q : VK) (E : XK), Room k (A.deeper (envOfC qual (defScope st) s.heap.objs.size f cdv)) -> sp vs H Q E →
   ∃ t, PSs (cxOf CX0 P w K mg base N qual (defScope st) f cdv A outer s H E).nox (defBody st) t /\ t { nx := fun _ H' => Q .non H', rt := Q } (start N vs) H) : FnOk P w K mg base CX0 (k + 1) f fd ps sp := by
 obtain ⟨oc, od, kV, doc, pm, an, cdv, ct, osl, rfl, lk, hcd⟩ := F.ex
 refine fn_of lk hcd S len fun A outer s H vs Q E hr hsp => ?_
 obtain ⟨t, h, q⟩ := hbody cdv A outer s H vs Q E hr hsp
 exact ⟨t, h.nox, q⟩
theorem Fun.binds {x qual : Str} {st : Stmt} {f : Addr} {fd : FuncData} {ps : List Str} (F : Fun K x qual st f fd)
  (h : ∀ (kV doc pm : Value) (an : Option Addr) (cdv ct : Value) (us : List Value), us.length = ps.length -> bindArgs (PySem.W.fnOf x qual (defArgs st) (defBody st) (defScope st) .none kV doc pm an cdv ct) ⟨us, []⟩ = pure (ps.zip us)) : Binds K fd ps [] := by
 obtain ⟨oc, od, kV, doc, pm, an, cdv, ct, osl, rfl, lk, hcd⟩ := F.ex
 exact .all (h kV doc pm an cdv ct)
theorem fun_mk {x qual : Str} {st : Stmt} {f : Addr} {oc : Value} {od an : Option Addr} {osl : Array (Option Value)} {kV doc pm cdv ct : Value} (l : K.lookup f = some ⟨oc, od, .func (PySem.W.fnOf x qual (defArgs st) (defBody st) (defScope st) .none kV doc pm an cdv ct), osl⟩)
  (c : PySem.W.codeIn K cdv qual = true) (k : PySem.W.keepIn K (.ref f) = true) : Fun K x qual st f (PySem.W.fnOf x qual (defArgs st) (defBody st) (defScope st) .none kV doc pm an cdv ct) := ⟨⟨oc, od, kV, doc, pm, an, cdv, ct, osl, rfl, l, c⟩, k⟩
end
theorem hu_of {A : Around} {k : Nat} (hr : Room k A) : A.units + 1 < cLine := Nat.lt_of_le_of_lt (Nat.add_le_add_left (by decide : 1 ≤ 64) _) hr.units
theorem small1000 {n : Nat} (h : n ≤ 1000) : n < sizeLine := Nat.lt_of_le_of_lt h (by decide)
section
variable {X : Cx}
theorem pv (i : Nat) {x : Str} {pos : Pos} (hN : X.N[i]? = some x := by rfl) (hv : Vis X.env.scope x := by first | exact Or.inl rfl | exact Or.inr (Or.inl rfl) | exact Or.inr (Or.inr rfl)) (hd : (x == ("__debug__" : Str)) = false := by decide)
  (hcd : (x == ("__classdict__" : Str)) = false := by decide) : PE X (.Name x pos) (tVar i) := pe_var hN hv hd hcd
end
theorem iteF {A B : Prop} (h : B) : if false = true then A else B := by
 rw [if_neg Bool.false_ne_true]
 exact h
theorem iteT {A B : Prop} (h : A) : if true = true then A else B := by
 rw [if_pos rfl]
 exact h
theorem ite2 {c A B : Prop} [Decidable c] (h1 : c -> A) (h2 : ¬ c -> B) : if c then A else B := by
 by_cases h : c
 ·rw [if_pos h]
  exact h1 h
 ·rw [if_neg h]
  exact h2 h
theorem iteNS {c A B : Prop} [Decidable c] (hc : c) (h : B) : if (!decide c) = true then A else B := by
 rw [decide_eq_true hc]
 exact iteF h
def Same (H H' : Hp) : Prop := ∀ b o, H b = some o -> H' b = some o
theorem Same.refl (H : Hp) : Same H H := fun _ _ h => h
theorem Same.trans {H H1 H2 : Hp} (a : Same H H1) (b : Same H1 H2) : Same H H2 := fun c o h => b c o (a c o h)
theorem Same.seq {K : Fg} {H H' : Hp} {a : Addr} {xs : List V} (e : Same H H') (h : SqL K H a xs) : SqL K H' a xs := by
 rcases h with (h | ⟨o, h⟩) | h
 ·exact .inl (.inl (e _ _ h))
 ·exact .inl (.inr ⟨o, e _ _ h⟩)
 ·exact .inr h
end L2
set_option maxHeartbeats 4000000
namespace B
open PySem L2 PyProof.Rows
theorem iteN1 {c A B : Prop} [Decidable c] (hc : ¬ c) (h : A) : if (!decide c) = true then A else B := by
 have e : (!decide c) = true := by rw [decide_eq_false hc]; rfl
 rw [if_pos e]; exact h
theorem iteD1 {c A B : Prop} [Decidable c] (hc : c) (h : A) : if decide c = true then A else B := by
 rw [if_pos (decide_eq_true hc)]; exact h
theorem iteD0 {c A B : Prop} [Decidable c] (hc : ¬ c) (h : B) : if decide c = true then A else B := by
 have e : ¬ decide c = true := by rw [decide_eq_false hc]; intro z; cases z
 rw [if_neg e]; exact h
theorem iteB1 {b : Bool} {A B : Prop} (hb : b = true) (h : A) : if b = true then A else B := by rw [if_pos hb]; exact h
theorem iteB0 {b : Bool} {A B : Prop} (hb : b = false) (h : B) : if b = true then A else B := by
 rw [if_neg (by rw [hb]; intro z; cases z)]; exact h
def kitTT (A B : String) : Option Bool := if (Value.type A == Value.type B) = true then some true else if PySem.W.kitMeta B = true then (fastBuiltinMro A).map (·.contains (.type B)) else none
inductive Ty (H : Hp) : V -> String -> Prop where
 | non : Ty H .non "NoneType"
 | bl (b : Bool) : Ty H (.bl b) "bool"
 | int (i : Int) : Ty H (.int i) "int"
 | str (x : Str) : Ty H (.str x) "str"
 | lst {a : Addr} {xs : List V} (e : H a = some (.lst xs)) : Ty H (.ref a) "list"
 | tup {a : Addr} {xs : List V} (e : H a = some (.tup xs)) : Ty H (.ref a) "tuple"
def rIsi : List V -> Hp -> VK -> Prop := fun xs H Q => ∃ x n m b, xs = [x, .ty n] /\ Ty H x m /\ kitTT m n = some b /\ Q (.bl b) H
def wholeV : V -> Bool
 | .int _ => true
 | _ => false
def tupV (n : String) : Bool := n == "tuple"
structure Step (t : Addr) (H H' : Hp) : Prop where
 keep : ∀ b o, b ≠ t -> H b = some o -> H' b = some o
 tp : ∃ xs, H t = some (.lst xs)
 tp' : ∃ xs, H' t = some (.lst xs)
theorem Step.trans {t : Addr} {H H1 H2 : Hp} (a : Step t H H1) (b : Step t H1 H2) : Step t H H2 := ⟨fun c o n e => b.keep c o n (a.keep c o n e), a.tp, b.tp'⟩
theorem Step.up {t : Addr} {H : Hp} {xs ys : List V} (h : H t = some (.lst xs)) : Step t H (upd H t (.lst ys)) := ⟨fun c o n e => by rw [upd_ne n]; exact e, ⟨_, h⟩, ⟨_, upd_same⟩⟩
theorem same_new {H : Hp} {p : Addr} (h : H p = none) (o : HO) : Same H (upd H p o) := fun b u q => by rw [upd_ne (ne_of_none q h)]; exact q
theorem Step.same {t : Addr} {H H' : Hp} (s : Same H H') (h : ∃ xs, H t = some (.lst xs)) : Step t H H' := ⟨fun c o _ e => s c o e, h, let ⟨xs, e⟩ := h; ⟨xs, s _ _ e⟩⟩
theorem Step.new {t p : Addr} {H : Hp} (h : ∃ xs, H t = some (.lst xs)) (n : H p = none) (o : HO) : Step t H (upd H p o) := Step.same (same_new n o) h
def Th (H : Hp) (v : V) : Prop := ∃ n, Ty H v n /\ ∀ a xs, v = .ref a -> H a = some (.tup xs) -> ∀ x ∈ xs, ∃ m, Ty H x m
theorem pick {xs : List V} {r : Int} (h0 : 0 ≤ r) (h1 : r < (xs.length : Int)) : ∃ v, atI xs r = some v /\ v ∈ xs := by
 have hk : r.toNat < xs.length := by omega
 have ek : r = ((r.toNat : Nat) : Int) := by omega
 have q : atI xs ((r.toNat : Nat) : Int) = some xs[r.toNat] := atI_nat (List.getElem?_eq_getElem hk)
 rw [← ek] at q
 exact ⟨_, q, List.getElem_mem hk⟩
theorem pickI {ns : List Int} {r : Int} (h0 : 0 ≤ r) (h1 : r < (ns.length : Int)) : ∃ z : Int, atI (ns.map V.int) r = some (.int z) := by
 obtain ⟨v, h, hv⟩ := pick (xs := ns.map V.int) h0 (by rw [List.length_map]; exact h1)
 obtain ⟨z, _, rfl⟩ := List.mem_map.mp hv
 exact ⟨z, h⟩
structure Tape (H : Hp) (t s : Addr) : Prop where
 ex : ∃ (ns : List Int) (p q r : Int), H t = some (.lst [.ref s, .int p, .int q, .int r]) /\ H s = some (.lst (ns.map V.int)) /\ s ≠ t /\ ns.length ≤ 63 /\ 0 ≤ p /\ 0 ≤ q /\ 0 ≤ r
theorem Tape.lst {H : Hp} {t s : Addr} (h : Tape H t s) : ∃ xs, H t = some (.lst xs) := let ⟨_, _, _, _, e, _⟩ := h.ex; ⟨_, e⟩
theorem Tape.scr {H : Hp} {t s : Addr} (h : Tape H t s) : ∃ xs, H s = some (.lst xs) := let ⟨_, _, _, _, _, e, _⟩ := h.ex; ⟨_, e⟩
theorem Tape.same {H H' : Hp} {t s : Addr} (h : Tape H t s) (z : Same H H') : Tape H' t s := by
 obtain ⟨ns, p, q, r, h1, h2, h3⟩ := h.ex
 exact ⟨ns, p, q, r, z _ _ h1, z _ _ h2, h3⟩
theorem Tape.new {H : Hp} {t s p : Addr} (h : Tape H t s) (n : H p = none) (o : HO) : Tape (upd H p o) t s := h.same (same_new n o)
theorem Tape.upl {H : Hp} {t s l : Addr} (h : Tape H t s) (a : l ≠ t) (b : l ≠ s) (o : HO) : Tape (upd H l o) t s := by
 obtain ⟨ns, p, q, r, h1, h2, h3⟩ := h.ex
 exact ⟨ns, p, q, r, by rw [upd_ne a.symm]; exact h1, by rw [upd_ne b.symm]; exact h2, h3⟩
theorem cut63 (ns : List Int) : cutV (ns.map V.int) none (some 63) = (ns.take (min 63 ns.length)).map V.int := by
 unfold cutV
 rw [show (some (63 : Int)) = some (((63 : Nat) : Int)) from rfl, HT.sIx_nat, HT.sIx_none, List.length_map, Nat.sub_zero, List.drop_zero, List.map_take]
def sp_tape (K : Fg) : Sp := fun vs H Q _ => ∃ (a : Addr) (ns : List Int), vs = [.ref a] /\ SqL K H a (ns.map V.int) /\ ∀ (t s : Addr) (H' : Hp), Same H H' -> H t = none -> H s = none -> Tape H' t s -> Q (.ref t) H'
def sp_draw : Sp := fun vs H Q _ => ∃ (t s : Addr) (m : Int), vs = [.ref t, .int m] /\ Tape H t s /\ 0 < m /\ m < 1073741824 /\ ∀ (r : Int) (xs : List V), 0 ≤ r -> r < m -> Tape (upd H t (.lst xs)) t s -> Q (.int r) (upd H t (.lst xs))
def sp_lawT (K : Fg) : Sp := fun vs H Q _ => ∃ (a : Addr) (ns : List Int), vs = [.ref a] /\ SqL K H a (ns.map V.int) /\ ns.length ≤ 63 /\ ∀ H', Q (.bl true) H'
theorem gcd_turn {a b : Int} (ha : 0 ≤ a) (hb : 0 < b) : Int.gcd b (a % b) = Int.gcd a b := by
 obtain ⟨n, rfl⟩ := Int.eq_ofNat_of_zero_le ha
 obtain ⟨m, rfl⟩ := Int.eq_ofNat_of_zero_le (Int.le_of_lt hb)
 rw [← Int.natCast_emod]
 show Nat.gcd m (n % m) = Nat.gcd n m
 rw [Nat.gcd_comm m, ← Nat.gcd_rec, Nat.gcd_comm]
theorem abs_if (i : Int) : (if i < 0 then -i else i) = (i.natAbs : Int) := by split <;> omega
end B
namespace B
open PySem PySem.Spec L2 PyProof.Rows
mutual
inductive Deep (K : Fg) (H : Hp) : V -> PyData -> Prop where
 | non : Deep K H .non .none
 | bl (b : Bool) : Deep K H (.bl b) (.bool b)
 | int (i : Int) : Deep K H (.int i) (.int i)
 | str (x : Str) : Deep K H (.str x) (.str x)
 | lst {a : Addr} {xs : List V} {ds : List PyData} (e : SqL K H a xs) (h : DeepAll K H xs ds) : Deep K H (.ref a) (.list ds)
 | tup {a : Addr} {xs : List V} {ds : List PyData} (e : SqT K H a xs) (h : DeepAll K H xs ds) : Deep K H (.ref a) (.tuple ds)
inductive DeepAll (K : Fg) (H : Hp) : List V -> List PyData -> Prop where
 | nil : DeepAll K H [] []
 | cons {x : V} {d : PyData} {xs : List V} {ds : List PyData} (h : Deep K H x d) (t : DeepAll K H xs ds) : DeepAll K H (x :: xs) (d :: ds)
end
mutual
theorem Deep.reads {X : Cx} {pins : PLs} {σ : L2.St} {H : Hp} {s : Shared} (I : Inv X pins σ H s) : ∀ {v : V} {d : PyData} {u : Value}, Deep X.K H v d -> RelV v u -> ∃ as, Reads s.heap u d as
 | _, _, u, .non, r => by cases (show u = Value.none from r); exact ⟨_, .none⟩
 | _, _, u, .bl b, r => by cases (show u = Value.bool b from r); exact ⟨_, .bool b⟩
 | _, _, u, .int i, r => by obtain ⟨t, q⟩ := (show ∃ t, u = Value.int i t from r); cases q; exact ⟨_, .int i t⟩
 | _, _, u, .str x, r => by obtain ⟨t, q⟩ := (show ∃ t, u = Value.str x t from r); cases q; exact ⟨_, .str x t⟩
 | _, _, u, .lst (a := a) e h, r => by
  cases (show u = Value.ref a from r)
  obtain ⟨its, rv, ⟨o, n, ho, hc, _, hd⟩, _⟩ := I.list e
  obtain ⟨as, q⟩ := DeepAll.reads I h rv
  exact ⟨_, .list ho hc hd (by simpa using q)⟩
 | _, _, u, .tup (a := a) e h, r => by
  cases (show u = Value.ref a from r)
  obtain ⟨its, rv, ⟨o, ho, hc, n, hd⟩, _⟩ := I.tuple e
  obtain ⟨as, q⟩ := DeepAll.reads I h rv
  exact ⟨_, .tuple ho hc hd (by simpa using q)⟩
theorem DeepAll.reads {X : Cx} {pins : PLs} {σ : L2.St} {H : Hp} {s : Shared} (I : Inv X pins σ H s) : ∀ {vs : List V} {ds : List PyData} {us : List Value}, DeepAll X.K H vs ds -> Vals vs us -> ∃ as, ReadsAll s.heap us ds as
 | _, _, _, .nil, .nil => ⟨_, .nil⟩
 | _, _, _, .cons h t, .cons r q =>
  let ⟨_, a⟩ := Deep.reads I h r
  let ⟨_, b⟩ := DeepAll.reads I t q
  ⟨_, .cons a b⟩
end
structure Shows (d : PyData) : Prop where
 sh : d.showable = true
 nd : d.hasDict = false
 sz : d.shown.length ≤ sizeLine
 dp : d.depth ≤ 16
def rRepr (K : Fg) : List V -> Hp -> VK -> Prop := fun xs H Q => ∃ v d, xs = [v] /\ Deep K H v d /\ Shows d /\ Q (.str d.shown) H
theorem call_repr {X : Cx} {k : Nat} (hr : Room k X.A) : CallR X (.builtin "repr") (rRepr X.K) := by
 intro pins s σ H xs us Q I r h
 obtain ⟨v, d, rfl, dp, sh, q⟩ := h
 obtain ⟨u, rfl, ru⟩ := vals1 r
 cases dp with
 | non => cases (show u = Value.none from ru); exact PySem.P.repr_of_none ⟨.str "None", H, I.tok _, ⟨_, rfl⟩, q⟩
 | bl b => cases (show u = Value.bool b from ru); exact PySem.P.repr_of_bool ⟨.str _, H, I.tok _, ⟨_, rfl⟩, q⟩
 | int i =>
  obtain ⟨t, e⟩ := (show ∃ t, u = Value.int i t from ru)
  cases e
  exact PySem.P.repr_of_int (of_decide_eq_true sh.sh) ⟨.str _, H, I.tok _, ⟨_, rfl⟩, q⟩
 | str x =>
  obtain ⟨t, e⟩ := (show ∃ t, u = Value.str x t from ru)
  cases e
  exact PySem.P.repr_of_str ⟨.str _, H, I.tok _, ⟨_, rfl⟩, q⟩ sh.sz
 | @lst a ys ds e h =>
  cases (show u = Value.ref a from ru)
  obtain ⟨as, rd⟩ := Deep.reads I (.lst e h) (show RelV (.ref a) (.ref a) from rfl)
  exact repr_of_reads' rd sh.sh (fun z => by rw [sh.nd] at z; cases z) hr.gd (by have := hr.units; have := sh.dp; omega) (fun _ _ z => z) (fun h' u tk hk => ⟨.str _, H, I.kept hk, ⟨_, rfl⟩, q⟩) sh.sz
 | @tup a ys ds e h =>
  cases (show u = Value.ref a from ru)
  obtain ⟨as, rd⟩ := Deep.reads I (.tup e h) (show RelV (.ref a) (.ref a) from rfl)
  exact repr_of_reads' rd sh.sh (fun z => by rw [sh.nd] at z; cases z) hr.gd (by have := hr.units; have := sh.dp; omega) (fun _ _ z => z) (fun h' u tk hk => ⟨.str _, H, I.kept hk, ⟨_, rfl⟩, q⟩) sh.sz
end B
namespace B
open PySem PySem.Spec L2 PyProof.Rows
def cxC (X : Cx) (N' : List Str) (scope : Scope) (cl : List (Str × Addr)) (C : Addr) (fp : List Addr) (pins : PLs) (s : Shared) (H : Hp) : Cx :=
 { X with N := N', s₀ := s, H₀ := H, env := compEnvC scope cl C X.env, outer := X.stack, stack := X.stack, ex := fp, fn := fun _ => false, pn := X.pn ++ pins, xe := fun _ _ => False }
def FreeOk (X : Cx) (scope : Scope) (cl : List (Str × Addr)) : List Str -> List (Option Nat) -> Prop
 | [], [] => True
 | _ :: N, none :: r => FreeOk X scope cl N r
 | x :: N, some j :: r => X.N[j]? = some x /\ X.env.kindOf x = some .cell /\ (compEnvC scope cl 0 X.env).kindOf x = some .cell /\ cl.lookup x = X.env.cells.lookup x /\ FreeOk X scope cl N r
 | _, _ => False
def frees (src : List (Option Nat)) (σ : L2.St) : L2.St := src.map fun o => o.bind fun j => (σ[j]?).getD none
theorem FreeOk.len {X : Cx} {scope : Scope} {cl : List (Str × Addr)} : ∀ {N : List Str} {src : List (Option Nat)}, FreeOk X scope cl N src -> N.length = src.length
 | [], [], _ => rfl
 | _ :: _, none :: _, h => congrArg (· + 1) (FreeOk.len (X := X) (scope := scope) (cl := cl) h)
 | _ :: _, some _ :: _, h => congrArg (· + 1) (FreeOk.len (X := X) (scope := scope) (cl := cl) h.2.2.2.2)
theorem FreeOk.at {X : Cx} {scope : Scope} {cl : List (Str × Addr)} {σ : L2.St} : ∀ {N : List Str} {src : List (Option Nat)} {i : Nat} {x : Str} {v : V}, FreeOk X scope cl N src -> N[i]? = some x -> (frees src σ)[i]? = some (some v) →
  ∃ j : Nat, X.N[j]? = some x /\ σ[j]? = some (some v) /\ X.env.kindOf x = some .cell /\ (compEnvC scope cl 0 X.env).kindOf x = some .cell /\ cl.lookup x = X.env.cells.lookup x
 | y :: N, none :: r, 0, x, v, h, e, q => by cases q
 | y :: N, none :: r, i + 1, x, v, h, e, q => FreeOk.at (N := N) (src := r) (i := i) h e q
 | y :: N, some j :: r, 0, x, v, h, e, q => by
  cases e
  refine ⟨j, h.1, ?_, h.2.1, h.2.2.1, h.2.2.2.1⟩
  have q' : some ((σ[j]?).getD none) = some (some v) := q
  injection q' with q'
  cases z : σ[j]? with
  | none => rw [z] at q'; cases q'
  | some o => rw [z] at q'; exact congrArg some q'
 | y :: N, some j :: r, i + 1, x, v, h, e, q => FreeOk.at (N := N) (src := r) (i := i) h.2.2.2.2 e q
def CellsOk (X : Cx) (scope : Scope) (cl : List (Str × Addr)) : Prop :=
 (∀ x, ((compEnvC scope cl 0 X.env).kindOf x = some .cell ∨ (compEnvC scope cl 0 X.env).kindOf x = some .free) -> ∃ c, cl.lookup x = some c) /\ ∀ x c, cl.lookup x = some c -> X.env.cells.lookup x = some c
def CellsIn (X : Cx) : List (Str × Addr) -> Prop
 | [] => True
 | y :: r => X.env.cells.lookup y.1 = some y.2 /\ CellsIn X r
theorem CellsIn.mem {X : Cx} : ∀ {cl : List (Str × Addr)}, CellsIn X cl -> ∀ y ∈ cl, X.env.cells.lookup y.1 = some y.2
 | [], _, y, h => by cases h
 | z :: r, k, y, h => by
  rcases List.mem_cons.mp h with e | h
  ·rw [e]; exact k.1
  ·exact CellsIn.mem k.2 y h
theorem mem_of_lookup {α : Type} {x : Str} {v : α} : ∀ {l : List (Str × α)}, l.lookup x = some v -> (x, v) ∈ l
 | [], h => by cases h
 | (y, w) :: r, h => by
  rw [List.lookup_cons] at h
  cases e : x == y with
  | true =>
   rw [e] at h
   have e' : x = y := eq_of_beq e
   cases h
   rw [e']; exact List.mem_cons_self
  | false =>
   rw [e] at h
   exact List.mem_cons_of_mem _ (mem_of_lookup h)
theorem cells_of {X : Cx} {scope : Scope} {cl : List (Str × Addr)} (h1 : ((relabel scope X.env).names.all fun y => !(y.2 == .cell || y.2 == .free) || (cl.lookup y.1).isSome) = true) (h2 : CellsIn X cl) : CellsOk X scope cl := by
 refine ⟨fun x h => ?_, fun x c e => h2.mem _ (mem_of_lookup e)⟩
 have h3 := List.all_eq_true.mp h1
 have key : ∀ k : NameKind, (k = .cell ∨ k = .free) -> (relabel scope X.env).names.lookup x = some k -> ∃ c, cl.lookup x = some c := fun k hk e => by
  have q := h3 _ (mem_of_lookup e)
  have z : (k == NameKind.cell || k == NameKind.free) = true := by rcases hk with rfl | rfl <;> rfl
  simp only [z, Bool.not_true, Bool.false_or] at q
  exact Option.isSome_iff_exists.mp q
 rcases h with h | h
 ·exact key _ (.inl rfl) h
 ·exact key _ (.inr rfl) h
def Ext (σ σ' : L2.St) : Prop := σ'.length = σ.length /\ ∀ (i : Nat) (v : V), σ[i]? = some (some v) -> σ'[i]? = some (some v)
theorem Ext.set {σ : L2.St} {i : Nat} {v : V} (h : σ[i]? = some none) : Ext σ (σ.set i (some v)) := by
 refine ⟨List.length_set, fun j u e => ?_⟩
 have ne : i ≠ j := fun z => by subst z; rw [h] at e; cases e
 rw [List.getElem?_set_ne ne]; exact e
theorem Ext.set' {σ τ : L2.St} {i : Nat} {v : V} (e : Ext σ τ) (h : σ[i]? = some none) : Ext σ (τ.set i (some v)) := by
 refine ⟨by rw [List.length_set]; exact e.1, fun j u q => ?_⟩
 have ne : i ≠ j := fun z => by subst z; rw [h] at q; cases q
 rw [List.getElem?_set_ne ne]; exact e.2 j u q
section
variable {X : Cx} {N' : List Str} {scope : Scope} {cl : List (Str × Addr)} {src : List (Option Nat)} {pins : PLs} {σ : L2.St} {H : Hp} {s : Shared} {fp : List Addr}
theorem Cx.comp_ok {C : Addr} (I : Inv X pins σ H s) (hC : s.heap.objs.size ≤ C) (hk : scope.kind = .function) (hf : ∀ b ∈ fp, FpOk X pins H b) (hfs : ∀ b ∈ fp, b < s.heap.objs.size) (hc : CellsOk X scope cl) :
  (cxC X N' scope cl C fp pins s H).Ok where
 mod := I.ok.mod
 kind := hk
 glob := I.ok.glob
 blt := I.ok.blt
 above := hC
 inj := fun x y c e1 e2 => I.ok.inj x y c (hc.2 x c e1) (hc.2 y c e2)
 has := fun x h => hc.1 x h
 cab := fun x c z => nomatch z
 hd := I.ok.hd
 frames := I.ok.frames
 stk := .inl rfl
 exf := fun b hb => ⟨fun z => by have := hfs b hb; rw [show b = C from z] at this; exact absurd (Nat.lt_of_lt_of_le this hC) (Nat.lt_irrefl _), fun x c e => (hf b hb).2.2.2.2.1 x c (hc.2 x c e)⟩
 bs := I.bs
 bsz := Nat.le_trans I.ok.bsz I.sz
 noex := fun b o e hb => by
  rcases (hf b hb).2.2.2.1 with z | z
  ·exact I.ok.noex b o e z
  ·rw [(I.ok.bs b o e).1] at z; cases z
 exfs := fun b hb z => by
  rcases List.mem_cons.mp (I.stkSub b z) with q | q
  ·exact (hf b hb).2.1 q
  ·exact (hf b hb).2.2.1 q
 funs := I.stack
 frf := I.stkFree
theorem Inv.comp {C : Addr} {h₁ : Heap} {m : Str -> Option Value} {tk : Nat} (I : Inv X pins σ H s) (hC : C = s.heap.objs.size) (hns : h₁.Ns C m) (keep : ∀ b o, s.heap.get? b = some o -> h₁.get? b = some o)
  (hk : scope.kind = .function) (hf : ∀ b ∈ fp, FpOk X pins H b) (hfs : ∀ b ∈ fp, b < s.heap.objs.size) (hc : CellsOk X scope cl) (hfree : FreeOk X scope cl N' src) :
  Inv (cxC X N' scope cl C fp pins s H) [] (frees src σ) H { s with heap := h₁, toks := tk } where
 ok := Cx.comp_ok I (Nat.le_of_eq hC.symm) hk hf hfs hc
 os := rfl
 bare := I.bare
 base := Un.kept keep
 loc := ⟨m, hns, fun i x v e1 e2 _ => by
  obtain ⟨j, hj, hσ, kc, kc', hl⟩ := hfree.at e1 e2
  obtain ⟨m0, hn0, hl0⟩ := I.loc
  obtain ⟨u, r, l⟩ := hl0 j x v hj hσ (Or.inr (Or.inl kc))
  rcases l with ⟨k, _⟩ | ⟨k, c, e, o, ho, hd⟩
  ·rw [kc] at k; cases k
  ·exact ⟨u, r, .inr ⟨.inl kc', c, hl.trans e, o, keep c o ho, hd⟩⟩⟩
 cell := fun x c e => let ⟨v, o, ho, hd⟩ := I.cell x c (hc.2 x c e); ⟨v, o, keep _ _ ho, hd⟩
 free := I.hok.fresh (Nat.le_of_eq hC.symm)
 freeC := fun x c e => I.freeC x c (hc.2 x c e)
 pin := fun p hp => by
  have hp' : p ∈ X.pn ++ pins := by
   have z : p ∈ (X.pn ++ pins) ++ [] := hp
   rw [List.append_nil] at z; exact z
  obtain ⟨e, n, ne, nf, d⟩ := I.pin p hp'
  refine ⟨keep _ _ e, n, fun z => ?_, fun z => ?_, d⟩
  ·have := Heap.lt_size e; rw [show p.1 = C from z, hC] at this; exact Nat.lt_irrefl _ this
  ·rcases List.mem_cons.mp (I.stkSub _ z) with q | q
   ·exact ne q
   ·exact nf q
 hok := I.hok.kept keep
 len := by show (frees src σ).length = N'.length; unfold frees; rw [List.length_map, hfree.len]
end
def PTs (X : Cx) (ifs : List Expr) (t : TT) : Prop :=
 ∀ (pins : PLs) (s : Shared) (σ : L2.St) (H : Hp) (Q : Bool -> Hp -> Prop), Inv X pins σ H s -> t σ H Q →
  wpAny (model X.prog X.w) X.A (forIn ifs true fun c r => if r = true then do let ok ← isTrue c X.env (eval c X.env); pure (ForInStep.yield ok) else pure (ForInStep.yield r)) (TP X pins σ Q) X.xe s
def tYes : TT := fun _ H Q => Q true H
theorem pts_nil {X : Cx} : PTs X [] tYes := fun _ _ _ H _ I h => wpAny_tests_nil ⟨H, I, h⟩
theorem pts_one {X : Cx} {c : Expr} {t : TT} (h : PT X c t) : PTs X [c] t := fun pins s σ H Q I q => wpAny_tests_one (h pins s σ H Q I q)
section
variable {prog : Program} {w : World} {A : Around} {R : Result -> Shared -> Prop} {s : Shared}
theorem comp_loop {elt target iter : Expr} {ifs : List Expr} {scope : Scope} {pos : Pos} {it acc : Value} {env : Env} (I : Nat -> Shared -> Prop)
  (turn : ∀ n s, I n s -> wpAny (model prog w) A (pyNext it) (fun r s₁ => match r with
   | none => R (.ok .next) s₁
   | some v => wpAny (model prog w) A (letOwnedTupleGo target it v) (fun _ s₁' => wpAny (model prog w) A (assign target env v) (fun _ s₂ =>
     wpAny (model prog w) A (forIn ifs true fun c r => if r = true then do let ok ← isTrue c env (eval c env); pure (ForInStep.yield ok) else pure (ForInStep.yield r)) (fun ok s₃ =>
      if ok = true then wpAny (model prog w) A (eval elt env) (fun x s₄ =>
       wpAny (model prog w) A (call (.builtin "list.append") [acc, x]) (fun _ s₅ => ∃ m, m < n /\ I m s₅) (fun _ _ => False) s₄) (fun _ _ => False) s₃
      else ∃ m, m < n /\ I m s₃) (fun _ _ => False) s₂) (fun _ _ => False) s₁') (fun _ _ => False) s₁) (fun _ _ => False) s)
  (n : Nat) (h : I n s) : codeAny (model prog w) A (.compLoop (.ListComp elt [⟨target, iter, ifs, 0⟩] scope pos) 0 it acc env) R s := by
 refine codeAny_loop rfl I (fun n s hI => ?_) n h
 show wpAny _ A ((compTurn (.ListComp elt [⟨target, iter, ifs, 0⟩] scope pos) 0 it acc env).onRaise (fun x => do noteFrame x env; theTreesLotGoes x)) _ _ s
 refine wpAny_noted ?_
 rw [compTurn_list]
 refine wpAny_bind (wpAny_standAt (wpAny_bind (wpAny_mono (turn n s hI) (fun r s₁ h₁ => ?_) fun _ _ h' => h'.elim)))
 cases r with
 | none => exact wpAny_pure h₁
 | some v =>
  refine wpAny_bind (wpAny_mono h₁ (fun _ s₁' h₁' => ?_) fun _ _ h' => h'.elim)
  refine wpAny_bind (wpAny_mono h₁' (fun _ s₂ h₂ => wpAny_bind (wpAny_mono h₂ (fun ok s₃ h₃ => ?_) fun _ _ h' => h'.elim)) fun _ _ h' => h'.elim)
  cases ok with
  | false => exact wpAny_pure ⟨rfl, h₃⟩
  | true =>
   exact wpAny_bind (wpAny_bind (wpAny_mono h₃ (fun x s₄ h₄ => wpAny_bind (wpAny_mono h₄ (fun _ s₅ h₅ => wpAny_pure (wpAny_pure ⟨rfl, h₅⟩)) fun _ _ h' => h'.elim)) fun _ _ h' => h'.elim))
end
structure OffC (X : Cx) (pins : PLs) (H : Hp) (C : Addr) : Prop where
 no : H C = none
 lo : C ≠ X.env.locals
 fs : C ∉ X.fs
 old : X.s₀.heap.get? C = none
 ce : ∀ x c, X.env.cells.lookup x = some c -> c ≠ C
 pn : ∀ p ∈ X.pn ++ pins, p.1 ≠ C
theorem OffC.turned {X : Cx} {pins : PLs} {σ : L2.St} {H : Hp} {C : Addr} {s : Shared} (o : OffC X pins H C) (I : Inv X pins σ H s) {h' : Heap} (sb : Heap.SameBut C s.heap h') : Inv X pins σ H { s with heap := h' } :=
 I.turned (it := C) (t' := s.toks) (fun b u hb e => sb.extBut b u hb e) o.no o.lo (.inr o.old) o.ce o.pn
def tComp (wi : TI) (src : List (Option Nat)) (g : TG) (tt : TT) (te : TE) : TE := fun σ H Q => wi σ H fun J H1 => ∀ D, H1 D = none -> ∃ W : Nat -> Nat -> List V -> Hp -> Prop,
 (∃ m, W 0 m [] (upd H1 D (.lst []))) /\ ∀ i m ys H, W i m ys H -> (J.stop i H /\ Q (.ref D) H) ∨ (J.go i H /\ ∀ x H', J.yld i H x H' -> g x (frees src σ) H' fun σ2 H2 => Ext (frees src σ) σ2 /\ tt σ2 H2 fun ok H3 =>
  if ok = true then te σ2 H3 fun y H4 => H4 D = some (.lst ys) /\ ys.length < sizeLine /\ ∃ m', m' < m /\ W (i + 1) m' (ys ++ [y]) (upd H4 D (.lst (ys ++ [y]))) else ∃ m', m' < m /\ W (i + 1) m' ys H3)
section
variable {X : Cx} {N' : List Str} {scope : Scope} {cl : List (Str × Addr)} {src : List (Option Nat)} {tg iter elt : Expr} {ifs : List Expr} {wi : TI} {g : TG} {tt : TT} {te : TE} {pos : Pos}
theorem comp_run (hc : X.calm = true) (hi : PI X tg iter wi) (hg : ∀ C fp pins s H, PG (cxC X N' scope cl C fp pins s H) tg g) (ht : ∀ C fp pins s H, PTs (cxC X N' scope cl C fp pins s H) ifs tt)
  (he : ∀ C fp pins s H, PE (cxC X N' scope cl C fp pins s H) elt te) (hfree : FreeOk X scope cl N' src) (hcell : ∀ x ∈ scope.names, x.2 ≠ .cell) (hkind : scope.kind = .function) (hcl : CellsOk X scope cl)
  {RR : Value -> Addr -> Result -> Shared -> Prop} {pins : PLs} {s : Shared} {σ : L2.St} {H : Hp} {Q : VK} (I : Inv X pins σ H s) (h : tComp wi src g tt te σ H Q)
  (hRR : ∀ D C H' s', Q (.ref D) H' -> (∃ m, s'.heap.Ns C m) -> Inv X pins σ H' s' -> OffC X pins H' C -> RR (.ref D) C (.ok .next) s') :
  wpAny (model X.prog X.w) X.A (eval iter X.env) (fun x s₁ => wpAny (model X.prog X.w) X.A (pyIter x) (fun itv s₂ => wpAny (model X.prog X.w) X.A (newList []) (fun acc s₃ =>
   wpAny (model X.prog X.w) X.A (newFunctionEnv scope X.env.globals cl [] X.env.qual none .none (some X.env)) (fun cenv s₄ =>
    codeAny (model X.prog X.w) X.A (.compStart (.ListComp elt [⟨tg, iter, ifs, 0⟩] scope pos) 0 itv acc { cenv with scope := relabel scope X.env }) (RR acc cenv.locals) s₄) X.xe s₃) X.xe s₂) X.xe s₁) X.xe s := by
 refine thn (hi pins s σ H _ I h) fun v s1 h1 => thn h1 fun itv s2 h2 => ?_
 obtain ⟨it, fp, tn, J, H2, e, I2, T, st2, f2, h2⟩ := h2
 subst e
 refine wpAny_newObj_type ?_ (by show 0 ≤ sizeLine; exact Nat.zero_le _)
 have hD : H2 s2.heap.objs.size = none := I2.fresh
 have I3 : Inv X pins σ (upd H2 s2.heap.objs.size (.lst [])) { s2 with heap := s2.heap.push { cls := .type "list", data := .seq ([] : List Value).toArray } } := I2.lnew (t' := s2.toks) (its := []) .nil (Nat.zero_le _)
 obtain ⟨W, ⟨m0, w0⟩, turn⟩ := h2 s2.heap.objs.size hD
 generalize hDe : s2.heap.objs.size = D at I3 turn w0 hD ⊢
 have st3 : tn 0 (s2.heap.push { cls := .type "list", data := .seq ([] : List Value).toArray }) := T.keep _ _ _ st2 fun b _ o e => Heap.get?_push_of_some _ e
 have f3 : ∀ b ∈ fp, FpOk X pins (upd H2 D (.lst [])) b /\ b < (s2.heap.push { cls := .type "list", data := .seq ([] : List Value).toArray }).objs.size := fun b hb => by
  obtain ⟨o, e, _⟩ := T.obj _ _ st2 b hb
  have l := Heap.lt_size e
  rw [hDe] at l
  refine ⟨⟨?_, (f2 b hb).2⟩, by rw [Heap.size_push, hDe]; exact Nat.lt_succ_of_lt l⟩
  rw [upd_ne (Nat.ne_of_lt l)]; exact (f2 b hb).1
 generalize (s2.heap.push { cls := .type "list", data := .seq ([] : List Value).toArray }) = h3 at I3 st3 f3 ⊢
 refine wpAny_newFunctionEnv hcell (by intro y hy; simp at hy) (fun h₄ hns₄ hsb₄ => ?_) hkind
 have keep : ∀ b o, h3.get? b = some o -> h₄.get? b = some o := fun b o e => hsb₄.extBut b o (Nat.ne_of_lt (Heap.lt_size e)) (Heap.get?_push_of_some _ e)
 have I4 := Inv.comp (C := h3.objs.size) (fp := fp) (tk := s2.toks + ([] : List (Str × Value)).length) I3 rfl hns₄ keep hkind (fun b hb => (f3 b hb).1) (fun b hb => (f3 b hb).2) hcl hfree
 have st4 : tn 0 h₄ := T.keep _ _ _ st3 fun b _ o e => keep b o e
 have fpn : ∀ b ∈ fp, (upd H2 D (.lst [])) b = none := fun b hb => (f3 b hb).1.1
 have hn3 : ∀ b ∈ fp, b ≠ h3.objs.size := fun b hb => Nat.ne_of_lt (f3 b hb).2
 have stat : ∀ {H' : Hp}, (∀ b ∈ fp, H' b = none) -> ∀ b ∈ fp, FpOk (cxC X N' scope cl h3.objs.size fp pins { s2 with heap := h3 } (upd H2 D (.lst []))) [] H' b := fun hn b hb =>
  ⟨hn b hb, hn3 b hb, I4.ok.exfs b hb, .inl hb, fun x c e => (f3 b hb).1.2.2.2.2.1 x c (hcl.2 x c e), fun p hp => (f3 b hb).1.2.2.2.2.2 p (by
   have z : p ∈ (X.pn ++ pins) ++ [] := hp
   rw [List.append_nil] at z; exact z)⟩
 have back : ∀ {H' : Hp} {s' : Shared}, Inv (cxC X N' scope cl h3.objs.size fp pins { s2 with heap := h3 } (upd H2 D (.lst []))) [] (frees src σ) H' s' -> (∃ m, s'.heap.Ns h3.objs.size m) /\ Inv X pins σ H' s' /\ OffC X pins H' h3.objs.size := fun {H' s'} I' => by
  have Ib : Inv X pins σ H' s' := I3.call' I'.os I'.base I'.hok I'.bare fun b hb => ⟨(f3 b hb).1.2.2.2.1, (f3 b hb).1.2.1, (f3 b hb).1.2.2.2.2.1, (f3 b hb).1.2.2.2.2.2⟩
  refine ⟨let ⟨m, hm, _⟩ := I'.loc; ⟨m, hm⟩, Ib, ⟨I'.free, fun z => ?_, I3.nofs (Nat.le_refl _), Heap.get?_none_of_le I3.sz, fun x c e z => ?_, fun p hp z => ?_⟩⟩
  ·have := I3.lt; rw [← z] at this; exact Nat.lt_irrefl _ this
  ·obtain ⟨v, o, ho, _⟩ := I3.cell x c e
   have := Heap.lt_size ho; rw [z] at this; exact Nat.lt_irrefl _ this
  ·obtain ⟨e, _⟩ := I3.pin p hp
   have := Heap.lt_size e; rw [z] at this; exact Nat.lt_irrefl _ this
 have loop : codeAny (model X.prog X.w) X.A (.compLoop (.ListComp elt [⟨tg, iter, ifs, 0⟩] scope pos) 0 (.ref it) (.ref D) (compEnvC scope cl h3.objs.size X.env)) (RR (.ref D) h3.objs.size) { s2 with heap := h₄, toks := s2.toks + ([] : List (Str × Value)).length } := by
  refine comp_loop (fun n s' => ∃ i ys H', Inv (cxC X N' scope cl h3.objs.size fp pins { s2 with heap := h3 } (upd H2 D (.lst []))) [] (frees src σ) H' s' /\ tn i s'.heap /\ (∀ b ∈ fp, H' b = none) /\ W i n ys H') ?_ m0 ⟨0, [], _, I4, st4, fpn, w0⟩
  rintro n s5 ⟨i, ys, H5, I5, st5, fr5, w5⟩
  rcases turn i n ys H5 w5 with ⟨stop, qn⟩ | ⟨go, step⟩
  ·refine thn (T.done (cxC X N' scope cl h3.objs.size fp pins { s2 with heap := h3 } (upd H2 D (.lst []))) rfl rfl rfl hc i [] s5 _ H5 _ I5 (stat fr5) st5 stop) fun r s6 ⟨hr, I6⟩ => ?_
   subst hr
   obtain ⟨b1, b2, b3⟩ := back I6
   exact hRR D _ H5 s6 qn b1 b2 b3
  ·refine thn (T.item (cxC X N' scope cl h3.objs.size fp pins { s2 with heap := h3 } (upd H2 D (.lst []))) rfl rfl rfl hc i [] s5 _ H5 _ I5 (stat fr5) st5 go) fun r s6 ⟨u, hr, h6⟩ => ?_
   subst hr
   refine thn h6 fun _ s7 ⟨x, H7, I7, r7, y7, st7, fr7⟩ => ?_
   have I7' := I7.pinned (stat fr7) (T.obj _ _ st7)
   refine thn (hg _ _ _ _ _ _ s7 _ H7 x u _ I7' r7 (step x H7 y7)) fun _ s8 ⟨σ8, H8, I8, ex8, q8⟩ => ?_
   refine thn (ht _ _ _ _ _ _ s8 σ8 H8 _ I8 q8) fun ok s9 ⟨H9, I9, q9⟩ => ?_
   have again : ∀ {ys' : List V} {Ha : Hp} {sa : Shared}, Inv (cxC X N' scope cl h3.objs.size fp pins { s2 with heap := h3 } (upd H2 D (.lst []))) ([] ++ pinsAt fp s7.heap) σ8 Ha sa -> (∃ m', m' < n /\ W (i + 1) m' ys' Ha) →
     ∃ m, m < n /\ ∃ i ys H', Inv (cxC X N' scope cl h3.objs.size fp pins { s2 with heap := h3 } (upd H2 D (.lst []))) [] (frees src σ) H' sa /\ tn i sa.heap /\ (∀ b ∈ fp, H' b = none) /\ W i m ys H' := fun {ys' Ha sa} Ia ⟨m', hm, wa⟩ => by
    refine ⟨m', hm, i + 1, ys', Ha, (Ia.unpinned).weak ex8.1.symm ex8.2, T.keep _ _ _ st7 fun b hb o e => (Ia.pin (b, o) (List.mem_append_right _ (List.mem_append_right _ (mem_pinsAt hb e)))).1, fun b hb => ?_, wa⟩
    obtain ⟨o, e, _⟩ := T.obj _ _ st7 b hb
    exact (Ia.pin (b, o) (List.mem_append_right _ (List.mem_append_right _ (mem_pinsAt hb e)))).2.1
   cases ok with
   | false => exact again I9 q9
   | true =>
    refine thn (he _ _ _ _ _ _ s9 σ8 H9 _ I9 q9) fun y s10 ⟨yv, H10, I10, r10, q10, hz, wn⟩ => ?_
    refine thn (mt_append _ s10 σ8 H10 (.ref D) [yv] (.ref D) [y] (fun _ Hz => ∃ m', m' < n /\ W (i + 1) m' (ys ++ [yv]) Hz) I10 rfl (.cons r10 .nil) ⟨D, ys, yv, rfl, rfl, q10, hz, wn⟩) fun _ s11 ⟨_, H11, I11, _, q11⟩ => ?_
    exact again I11 q11
 exact codeAny_compStart_list loop (T.self _ 0 _ _ _ st4 loop)
theorem pe_lcomp (hc : X.calm = true) (hi : PI X tg iter wi) (hg : ∀ C fp pins s H, PG (cxC X N' scope cl C fp pins s H) tg g) (ht : ∀ C fp pins s H, PTs (cxC X N' scope cl C fp pins s H) ifs tt)
  (he : ∀ C fp pins s H, PE (cxC X N' scope cl C fp pins s H) elt te) (hfree : FreeOk X scope cl N' src) (hclos : closureFor scope X.env = pure cl) (hcell : ∀ x ∈ scope.names, x.2 ≠ .cell) (hkind : scope.kind = .function)
  (hnames : ∀ x ∈ scope.names, x.2 = .local -> scope.names.lookup x.1 = some .local) (hcl : CellsOk X scope cl) (hs : ∀ x, foldedSetIterable iter X.env x = pure x := by intro _; rfl) :
  PE X (.ListComp elt [⟨tg, iter, ifs, 0⟩] scope pos) (tComp wi src g tt te) := by
 intro pins s σ H Q I h
 rw [eval_ListComp]
 refine wpAny_comprehension_free (use := none) rfl hs hclos hkind hnames (comp_run hc hi hg ht he hfree hcell hkind hcl (RR := fun acc C => compPost (model X.prog X.w) X.A X.xe none (EP X pins σ Q) acc C) I h fun D C H' s' q hm hI hb => ?_)
 obtain ⟨m, hm⟩ := hm
 exact ⟨m, hm, fun h' sb => ⟨.ref D, H', hb.turned hI sb, rfl, q⟩⟩
theorem ps_setC {i : Nat} {x : Str} {pos' pos2 : Pos} (hN : X.N.Nodup) (hi' : X.N[i]? = some x) (hx : Loc X.env.scope x) (hc : X.calm = true) (hi : PI X tg iter wi) (hg : ∀ C fp pins s H, PG (cxC X N' scope cl C fp pins s H) tg g) (ht : ∀ C fp pins s H, PTs (cxC X N' scope cl C fp pins s H) ifs tt)
  (he : ∀ C fp pins s H, PE (cxC X N' scope cl C fp pins s H) elt te) (hfree : FreeOk X scope cl N' src) (hclos : closureFor scope X.env = pure cl) (hcell : ∀ x ∈ scope.names, x.2 ≠ .cell) (hkind : scope.kind = .function)
  (hnames : ∀ x ∈ scope.names, x.2 = .local -> scope.names.lookup x.1 = some .local) (hcl : CellsOk X scope cl) (hs : ∀ x, foldedSetIterable iter X.env x = pure x := by intro _; rfl)
  (hsw : swapsWith (.ListComp elt [⟨tg, iter, ifs, 0⟩] scope pos) (some (.Name x pos')) pos2.line X.env = pure true := by rfl) (hf : X.fn x = true ∨ X.env.scope.names.lookup x = some .local := by first | exact .inl rfl | exact .inr rfl | assumption) :
  PS X (.Assign [.Name x pos'] (.ListComp elt [⟨tg, iter, ifs, 0⟩] scope pos) pos2) (tAsg (tComp wi src g tt te) (gName i)) := by
 intro pins s σ H D I h
 rw [exec_Assign_Name_used _ _ _ _ hsw]
 refine wpAny_bind (wpAny_standAt ?_)
 show wpAny _ _ ((comprehension (.ListComp elt [⟨tg, iter, ifs, 0⟩] scope pos) scope X.env _ (newList []) false (eval iter X.env) (some (assign (.Name x pos') X.env)) >>= fun _ => pure ()) >>= fun _ => pure Flow.next) _ _ s
 refine wpAny_bind (wpAny_bind (wpAny_mono (wpAny_comprehension_free (use := some (assign (.Name x pos') X.env)) (Q := fun _ s'' => SP X pins D .next s'') rfl hs hclos hkind hnames (comp_run hc hi hg ht he hfree hcell hkind hcl (RR := fun acc C => compPost (model X.prog X.w) X.A X.xe (some (assign (.Name x pos') X.env)) (fun _ s'' => SP X pins D .next s'') acc C) I h fun E C H' s' q hm hI hb => ?_)) (fun _ s'' h'' => wpAny_pure (wpAny_pure h'')) fun _ _ e => e))
 obtain ⟨m, o, es, ep, ho, hd, r1, r2⟩ := hm
 have I' : Inv X (pins ++ [(C, o)]) σ H' s' := hI.pins_of fun p hp => by
  rcases List.mem_append.mp hp with h | h
  ·exact hI.pin p (List.mem_append_right _ h)
  ·rw [List.mem_singleton] at h
   rw [h]
   exact ⟨ho, hb.no, hb.lo, hb.fs, fun v z => by rw [hd] at z; cases z⟩
 refine wpAny_assign_Name (store_ok I' hN hi' hx (show RelV (.ref E) (.ref E) from rfl) (fun s'' I'' => ?_) hf)
 have hC := (I''.pin (C, o) (List.mem_append_right _ (List.mem_append_right _ List.mem_cons_self))).1
 have I3 : Inv X pins (σ.set i (some (.ref E))) H' s'' := I''.pins_of fun p hp => I''.pin p (List.mem_append_right _ (List.mem_append_left _ hp))
 exact ⟨m, ⟨o, es, ep, hC, hd, r1, r2⟩, fun h' sb => ⟨_, H', hb.turned I3 sb, q⟩⟩
end
def rNeD (K : Fg) : R2 := fun x y H Q => ∃ d d', Deep K H x d /\ Deep K H y d' /\ d.canLay0 = true /\ d'.canLay0 = true /\ d.depth ≤ 32 /\ Q (.bl (!PyData.eqv d d')) H
noncomputable def hitAt (h : Heap) (x : Value) (d : PyData) (y : Value) : Bool :=
 open Classical in if y = x then true else if z : ∃ d', d'.canLay0 = true /\ d'.depth ≤ 32 /\ ∃ as, Reads h y d' as then PyData.eqv z.choose d else false
theorem hitAt_eq {A : Around} {s : Shared} {x y : Value} {d : PyData} {as : List Addr} (rx : Reads s.heap x d as) (cx : d.canLay0 = true) (hu : A.units + 32 < cLine)
  (hy : ∃ d', d'.canLay0 = true /\ d'.depth ≤ 32 /\ ∃ as, Reads s.heap y d' as) : SeqAt.EqAt A s y x (hitAt s.heap x d y) := by
 unfold hitAt
 by_cases e : y = x
 ·rw [if_pos e, e]; exact SeqAt.EqAt.same x
 ·rw [if_neg e, dif_pos hy]
  obtain ⟨c, dp, bs, r⟩ := hy.choose_spec
  exact SeqAt.eqAt_reads _ _ A s _ _ _ _ r rx c cx (by omega)
def Known (K : Fg) (H : Hp) (xs : List V) : Prop := ∀ x ∈ xs, ∃ d, Deep K H x d /\ d.canLay0 = true /\ d.depth ≤ 32
theorem known_reads {X : Cx} {pins : PLs} {σ : L2.St} {H : Hp} {s : Shared} (I : Inv X pins σ H s) : ∀ {xs : List V} {us : List Value}, Vals xs us -> Known X.K H xs -> ∀ u ∈ us, ∃ d', d'.canLay0 = true /\ d'.depth ≤ 32 /\ ∃ as, Reads s.heap u d' as
 | _, _, .nil, _, u, hu => by cases hu
 | x :: xs, w :: us, .cons r t, k, u, hu => by
  rcases List.mem_cons.mp hu with rfl | hu
  ·obtain ⟨d, hd, c, dp⟩ := k x List.mem_cons_self
   obtain ⟨as, ra⟩ := Deep.reads I hd r
   exact ⟨d, c, dp, as, ra⟩
  ·exact known_reads I t (fun y hy => k y (List.mem_cons_of_mem _ hy)) u hu
def rNotInS (K : Fg) : R2 := fun x y H Q => ∃ a p xs, x = .ref a /\ y = .ref p /\ SqL K H p xs /\ V.ref a ∈ xs /\ Known K H xs /\ Q (.bl false) H
def rIndexS (K : Fg) : V -> List V -> Hp -> VK -> Prop := fun x vs H Q => ∃ p xs a d, x = .ref p /\ vs = [.ref a] /\ SqL K H p xs /\ V.ref a ∈ xs /\ Known K H xs /\ Deep K H (.ref a) d /\ d.canLay0 = true /\ d.depth ≤ 32 ∧
 ∀ (j : Nat) (v' : V), xs[j]? = some v' -> (v' = .ref a ∨ ∀ d', Deep K H v' d' -> d'.canLay0 = true -> PyData.eqv d' d = true) -> Q (.int j) H
theorem first_hit {α : Type} (e : α -> Bool) : ∀ (l : List α), (∃ x ∈ l, e x = true) -> ∃ j, ∃ h : j < l.length, e l[j] = true /\ ∀ m (hm : m < l.length), m < j -> e l[m] = false
 | [], ⟨_, h, _⟩ => by cases h
 | y :: l, h => by
  cases c : e y with
  | true => exact ⟨0, by simp, c, fun m _ hm => absurd hm (Nat.not_lt_zero _)⟩
  | false =>
   obtain ⟨x, hx, ex⟩ := h
   rcases List.mem_cons.mp hx with z | hx
   ·rw [← z, ex] at c; cases c
   ·obtain ⟨j, hj, e1, e2⟩ := first_hit e l ⟨x, hx, ex⟩
    refine ⟨j + 1, by simpa using hj, by simpa using e1, fun m hm hl => ?_⟩
    cases m with
    | zero => simpa using c
    | succ m => simpa using e2 m (by simpa using hm) (by omega)
end B
namespace B
abbrev R := Int × Int
def mkR (a b : Int) : R := (a / (Int.gcd a b : Int), b / (Int.gcd a b : Int))
structure Wf (n : Nat) (r : R) : Prop where
 pos : 0 < r.2
 top : r.1.natAbs < 2 ^ n
 bot : r.2.natAbs < 2 ^ n
 cop : Int.gcd r.1 r.2 = 1
theorem Wf.mono {n m : Nat} {r : R} (h : Wf n r) (l : n ≤ m) : Wf m r := ⟨h.pos, Nat.lt_of_lt_of_le h.top (Nat.pow_le_pow_right (by decide) l), Nat.lt_of_lt_of_le h.bot (Nat.pow_le_pow_right (by decide) l), h.cop⟩
theorem gcd_posR {a b : Int} (hb : 0 < b) : 0 < (Int.gcd a b : Int) := by
 have h : Int.gcd a b ≠ 0 := fun z => by
  have := (Int.gcd_eq_zero_iff.mp z).2
  omega
 omega
theorem natAbs_div_le (a : Int) {g : Int} (hg : 0 < g) : (a / g).natAbs ≤ a.natAbs := by
 have h1 := Int.ediv_mul_le a (show g ≠ 0 by omega)
 have h2 := Int.lt_ediv_add_one_mul_self a hg
 rcases Int.le_total 0 a with h | h
 ·have h3 := Int.ediv_nonneg h (show 0 ≤ g by omega)
  have h4 : a / g ≤ a / g * g := by
   have : a / g * 1 ≤ a / g * g := Int.mul_le_mul_of_nonneg_left (by omega) h3
   omega
  omega
 ·have h3 : a / g ≤ 0 := by
   have := Int.ediv_le_ediv hg h
   rw [Int.zero_ediv] at this; exact this
  have h5 : a ≤ a / g := by
   have : a / 1 ≤ a / g := by
    have q : (a / g + 1) * g ≤ (a / g + 1) * 1 ∨ 0 < a / g + 1 := by
     rcases Int.le_total (a / g + 1) 0 with z | z
     ·left
      have := Int.mul_le_mul_of_nonneg_left (a := 1) (b := g) (c := -(a / g + 1)) (by omega) (by omega)
      have e1 : -(a / g + 1) * 1 = -((a / g + 1) * 1) := Int.neg_mul _ _
      have e2 : -(a / g + 1) * g = -((a / g + 1) * g) := Int.neg_mul _ _
      omega
     ·rcases Int.lt_or_eq_of_le z with z | z
      ·right; exact z
      ·left; rw [← z]; simp
    rw [Int.ediv_one]
    rcases q with q | q
    ·omega
    ·omega
   rw [Int.ediv_one] at this; exact this
  omega
theorem mkR_wf {n : Nat} {a b : Int} (hb : 0 < b) (h1 : a.natAbs < 2 ^ n) (h2 : b.natAbs < 2 ^ n) : Wf n (mkR a b) :=
 ⟨Int.ediv_pos_of_pos_of_dvd hb (Int.le_of_lt (gcd_posR hb)) (Int.gcd_dvd_right a b), Nat.lt_of_le_of_lt (natAbs_div_le _ (gcd_posR hb)) h1, Nat.lt_of_le_of_lt (natAbs_div_le _ (gcd_posR hb)) h2, Int.gcd_ediv_gcd_ediv_gcd (by have := gcd_posR (a := a) hb; omega)⟩
def plusR (r q : R) : R := mkR (r.1 * q.2 + q.1 * r.2) (r.2 * q.2)
def timesR (r q : R) : R := mkR (r.1 * q.1) (r.2 * q.2)
def lessR (r q : R) : Bool := decide (r.1 * q.2 < q.1 * r.2)
theorem mul_lt {x y : Int} {n m : Nat} (h1 : x.natAbs < 2 ^ n) (h2 : y.natAbs < 2 ^ m) : (x * y).natAbs < 2 ^ (n + m) := by
 rw [Int.natAbs_mul, Nat.pow_add]
 exact Nat.mul_lt_mul'' h1 h2
theorem plus_top {n m : Nat} {r q : R} (h : Wf n r) (k : Wf m q) : (r.1 * q.2 + q.1 * r.2).natAbs < 2 ^ (n + m + 1) := by
 have a := mul_lt h.top k.bot
 have b := mul_lt k.top h.bot
 rw [Nat.add_comm m n] at b
 have e : 2 ^ (n + m + 1) = 2 * 2 ^ (n + m) := by rw [Nat.pow_succ, Nat.mul_comm]
 have := Int.natAbs_add_le (r.1 * q.2) (q.1 * r.2)
 omega
theorem plus_wf {n m : Nat} {r q : R} (h : Wf n r) (k : Wf m q) : Wf (n + m + 1) (plusR r q) :=
 mkR_wf (Int.mul_pos h.pos k.pos) (plus_top h k) (Nat.lt_of_lt_of_le (mul_lt h.bot k.bot) (Nat.pow_le_pow_right (by decide) (Nat.le_succ _)))
theorem times_wf {n m : Nat} {r q : R} (h : Wf n r) (k : Wf m q) : Wf (n + m) (timesR r q) :=
 mkR_wf (Int.mul_pos h.pos k.pos) (mul_lt h.top k.top) (mul_lt h.bot k.bot)
end B
namespace B
open PySem L2 PyProof.Rows
def CBig (i j : Int) : Prop := i.natAbs < 2 ^ 4000 /\ j.natAbs < 2 ^ 4000
def CQuo (_ j : Int) : Prop := 0 < j /\ j.natAbs < 2 ^ 4000
theorem bits_of {i : Int} (h : i.natAbs < 2 ^ 4000) : Builtin.Int.intBits i ≤ 2 ^ 20 := by
 unfold Builtin.Int.intBits
 split
 ·exact Nat.zero_le _
 ·rename_i z
  have hz : i.natAbs ≠ 0 := fun q => z (by have : i = 0 := by omega
                                           rw [this]; rfl)
  have := (Nat.log2_lt hz).mpr h
  have e : (2 : Nat) ^ 20 = 1048576 := by decide
  omega
section
variable {X : Cx}
theorem op_mulB : OpR X (binaryOp .Mult) (rI CBig fun i j => .int (i * j)) := opI fun _ _ _ _ _ _ _ hc q => mul_int q (IntMulOk.of_bits (bits_of hc.1) (bits_of hc.2))
theorem op_quo : OpR X (binaryOp .FloorDiv) (rI CQuo fun i j => .int (i / j)) := opI fun i j _ _ _ _ _ hc q => by
 have h1 : (0 : Int) < j := hc.1
 have h2 : j.natAbs < 2 ^ 4000 := hc.2
 refine floordiv_int (by omega) (by rw [Int.fdiv_eq_ediv_of_nonneg i (by omega)]; exact q) (.inl (PyProof.noPylong_of_log2 ?_))
 exact Nat.lt_trans ((Nat.log2_lt (show j.natAbs ≠ 0 by omega)).mpr h2) (by decide)
end
def Tst (K : Fg) (H H' : Hp) : Prop := ∀ p xs, SqT K H p xs -> SqT K H' p xs
theorem Tst.trans {K : Fg} {H H1 H2 : Hp} (a : Tst K H H1) (b : Tst K H1 H2) : Tst K H H2 := fun p xs h => b p xs (a p xs h)
theorem Tst.same {K : Fg} {H H' : Hp} (s : Same H H') : Tst K H H' := fun p xs h => by
 rcases h with (h | ⟨o, h⟩) | h
 ·exact .inl (.inl (s _ _ h))
 ·exact .inl (.inr ⟨o, s _ _ h⟩)
 ·exact .inr h
theorem Tst.step {K : Fg} {t : Addr} {H H' : Hp} (S : Step t H H') : Tst K H H' := fun p xs h => by
 obtain ⟨ys, ht⟩ := S.tp
 rcases h with (h | ⟨o, h⟩) | h
 ·exact .inl (.inl (S.keep _ _ (fun z => by subst z; rw [h] at ht; cases ht) h))
 ·exact .inl (.inr ⟨o, S.keep _ _ (fun z => by subst z; rw [h] at ht; cases ht) h⟩)
 ·exact .inr h
theorem Tst.up {K : Fg} {H : Hp} {l : Addr} {xs : List V} (h : H l = some (.lst xs)) (ys : List V) : Tst K H (upd H l (.lst ys)) := Tst.step (Step.up h)
def RV (K : Fg) (H : Hp) (v : V) (r : R) : Prop := ∃ p, v = .ref p /\ SqT K H p [.int r.1, .int r.2]
theorem RV.mono {K : Fg} {H H' : Hp} {v : V} {r : R} (h : RV K H v r) (t : Tst K H H') : RV K H' v r := let ⟨p, e, q⟩ := h; ⟨p, e, t _ _ q⟩
theorem RV.of {K : Fg} {H : Hp} {p : Addr} {a b : Int} (h : H p = some (.tup [.int a, .int b])) : RV K H (.ref p) (a, b) := ⟨p, rfl, SqT.of h⟩
def RVs (K : Fg) (H : Hp) (xs : List V) (rs : List R) : Prop := xs.length = rs.length /\ ∀ (i : Nat) (x : V) (r : R), xs[i]? = some x -> rs[i]? = some r -> RV K H x r
theorem RVs.at {K : Fg} {H : Hp} {xs : List V} {rs : List R} {i : Nat} {x : V} (h : RVs K H xs rs) (e : xs[i]? = some x) : ∃ r, rs[i]? = some r /\ RV K H x r := by
 have hi := (List.getElem?_eq_some_iff.mp e).1
 have hj : i < rs.length := by rw [← h.1]; exact hi
 exact ⟨rs[i], List.getElem?_eq_getElem hj, h.2 i x _ e (List.getElem?_eq_getElem hj)⟩
def powR (r : R) : Nat -> R
 | 0 => (1, 1)
 | k + 1 => timesR (powR r k) r
def sumR (rs : List R) : R := rs.foldl plusR (0, 1)
def dR (r : R) : PyData := .tuple [.int r.1, .int r.2]
theorem RV.deep {K : Fg} {H : Hp} {v : V} {r : R} (h : RV K H v r) : Deep K H v (dR r) := by
 obtain ⟨p, rfl, q⟩ := h
 exact .tup q (.cons (.int _) (.cons (.int _) .nil))
theorem dR_lay (r : R) : (dR r).canLay0 = true := rfl
theorem dR_depth (r : R) : (dR r).depth ≤ 32 := by show max 0 (max 0 0) + 1 ≤ 32; decide
theorem log_of {i : Int} {n : Nat} (h : i.natAbs < 2 ^ n) (hn : n ≤ 1900) : i.natAbs.log2 < 1920 := by
 by_cases z : i.natAbs = 0
 ·rw [z]; decide
 ·have := (Nat.log2_lt z).mpr (Nat.lt_of_lt_of_le h (Nat.pow_le_pow_right (by decide) hn))
  omega
theorem len_of {i : Int} {n : Nat} (h : i.natAbs < 2 ^ n) (hn : n ≤ 1900) : (PyData.int i).shown.length ≤ 1921 := by
 have q := int_text_length_le (a := i) (k := 1920) (by decide) (log_of h hn)
 have e : (PyData.int i).shown.length = (toString i).length := by
  show (Str.ofString (toString i)).length = _
  exact PySem.ofString_length _
 omega
theorem dR_shows {r : R} {n : Nat} (h : Wf n r) (hn : n ≤ 1900) : Shows (dR r) where
 sh := by
  show (decide (r.1.natAbs.log2 < 1920) && (decide (r.2.natAbs.log2 < 1920) && true)) = true
  rw [decide_eq_true (log_of h.top hn), decide_eq_true (log_of h.bot hn)]; rfl
 nd := rfl
 sz := by
  have a := len_of h.top hn
  have b := len_of h.bot hn
  have q := tupleText_len_le [(PyData.int r.1).shown, (PyData.int r.2).shown]
  have e : (dR r).shown = tupleText [(PyData.int r.1).shown, (PyData.int r.2).shown] := rfl
  rw [e]
  simp only [List.map_cons, List.map_nil, List.sum_cons, List.sum_nil, List.length_cons, List.length_nil] at q
  have : sizeLine = 16777216 := by decide
  omega
 dp := by show max 0 (max 0 0) + 1 ≤ 16; decide
theorem eqv_dR {r q : R} (h : PyData.eqv (dR r) (dR q) = true) : r = q := by
 have z : (r.1 == q.1 && (r.2 == q.2 && true)) = true := h
 simp only [Bool.and_true, Bool.and_eq_true, beq_iff_eq] at z
 exact Prod.ext z.1 z.2
theorem eqv_same (r : R) : PyData.eqv (dR r) (dR r) = true := by
 show (r.1 == r.1 && (r.2 == r.2 && true)) = true
 simp
end B
namespace B
open PySem L2 PyProof.Rows
def dL (rs : List R) : PyData := .list (rs.map dR)
def iSeq (K : Fg) (tl : TE) : TI := fun σ H R => tl σ H fun x H1 => (∃ a, x = .ref a /\ (∃ xs, SqL K H1 a xs) /\ R (Itl K a) H1) ∨ (∃ a, x = .ref a /\ (∃ xs, SqT K H1 a xs) /\ R (Itt K a) H1)
theorem pi_seq {X : Cx} {tg l : Expr} {tl : TE} (hl : PE X l tl) : PI X tg l (iSeq X.K tl) := by
 intro pins s σ H R I h
 refine thn (hl pins s σ H _ I h) fun v s1 ⟨x, H1, I1, r1, q1⟩ => ?_
 rcases q1 with ⟨a, e, ⟨xs, hq⟩, q⟩ | ⟨a, e, ⟨xs, hq⟩, q⟩
 ·subst e; cases r1
  obtain ⟨its, rv, p, hz⟩ := I1.list hq
  refine wpAny_pyIter_list p.isList ?_
  refine ⟨s1.heap.objs.size, [s1.heap.objs.size], _, _, H1, rfl, I1.kept (t' := s1.toks) fun b o e => Heap.get?_push_of_some _ e, turn_list a _, ⟨_, Heap.get?_push_size _ rfl, rfl, rfl⟩, fun b hb => ?_, q⟩
  have e : b = s1.heap.objs.size := by simpa using hb
  subst e
  exact I1.fpOk (Nat.le_refl _) (I1.hok.fresh (Nat.le_refl _))
 ·subst e; cases r1
  obtain ⟨its, rv, p, hz⟩ := I1.tuple hq
  refine wpAny_pyIter_tuple (show s1.heap.IsTuple a its.toArray from p) ?_
  refine ⟨s1.heap.objs.size, [s1.heap.objs.size], _, _, H1, rfl, I1.kept (t' := s1.toks) fun b o e => Heap.get?_push_of_some _ e, turn_tuple a _, ⟨_, Heap.get?_push_size _ rfl, rfl, rfl⟩, fun b hb => ?_, q⟩
  have e : b = s1.heap.objs.size := by simpa using hb
  subst e
  exact I1.fpOk (Nat.le_refl _) (I1.hok.fresh (Nat.le_refl _))
end B
namespace B
structure Red (r : R) : Prop where
 pos : 0 < r.2
 cop : Int.gcd r.1 r.2 = 1
theorem mkR_red {a b : Int} (hb : 0 < b) : Red (mkR a b) :=
 ⟨Int.ediv_pos_of_pos_of_dvd hb (Int.le_of_lt (gcd_posR hb)) (Int.gcd_dvd_right a b), Int.gcd_ediv_gcd_ediv_gcd (by have := gcd_posR (a := a) hb; omega)⟩
theorem mkR_uniq {a b x y : Int} (hb : 0 < b) (hy : 0 < y) (g : Int.gcd x y = 1) (e : x * b = a * y) : mkR a b = (x, y) := by
 have h1 : Int.gcd (a * y) (b * y) = Int.gcd a b * y.natAbs := Int.gcd_mul_right a y b
 have h2 : Int.gcd (x * b) (y * b) = Int.gcd x y * b.natAbs := Int.gcd_mul_right x b y
 rw [e, Int.mul_comm y b, h1, g, Nat.one_mul] at h2
 have h3 : (Int.gcd a b : Int) * y = b := by
  have z : ((Int.gcd a b * y.natAbs : Nat) : Int) = (b.natAbs : Int) := congrArg _ h2
  rw [Int.natCast_mul, Int.natAbs_of_nonneg (by omega), Int.natAbs_of_nonneg (by omega)] at z
  exact z
 have gp := gcd_posR (a := a) hb
 have h4 : a = x * (Int.gcd a b : Int) := by
  have z : x * (Int.gcd a b : Int) * y = a * y := by rw [Int.mul_assoc, h3]; exact e
  exact (Int.eq_of_mul_eq_mul_right (by omega) z).symm
 unfold mkR
 generalize (Int.gcd a b : Int) = G at h3 h4 gp
 subst h4
 subst h3
 rw [Int.mul_ediv_cancel _ (by omega), Int.mul_ediv_cancel_left _ (by omega)]
theorem cop_left {a b c : Int} (h : Int.gcd a b = 1) (d : c ∣ a) : Int.gcd c b = 1 :=
 Int.gcd_eq_one_iff.mpr fun z h1 h2 => Int.gcd_eq_one_iff.mp h z (Int.dvd_trans h1 d) h2
theorem cop_right {a b c : Int} (h : Int.gcd a b = 1) (d : c ∣ b) : Int.gcd a c = 1 := by
 rw [Int.gcd_comm]
 exact cop_left (by rw [Int.gcd_comm]; exact h) d
theorem cop_mul {a b c : Int} (h : Int.gcd a b = 1) (k : Int.gcd a c = 1) : Int.gcd a (b * c) = 1 := by
 rw [Int.gcd_mul_right_right_of_gcd_eq_one h]; exact k
theorem cop_mulL {a b c : Int} (h : Int.gcd a c = 1) (k : Int.gcd b c = 1) : Int.gcd (a * b) c = 1 := by
 rw [Int.gcd_comm]
 exact cop_mul (by rw [Int.gcd_comm]; exact h) (by rw [Int.gcd_comm]; exact k)
theorem gcd_parts {a b : Int} (hb : 0 < b) : ∃ g x y : Int, (Int.gcd a b : Int) = g /\ 0 < g /\ a = g * x /\ b = g * y /\ Int.gcd x y = 1 := by
 have gp := gcd_posR (a := a) hb
 obtain ⟨x, hx⟩ := Int.gcd_dvd_left a b
 obtain ⟨y, hy⟩ := Int.gcd_dvd_right a b
 refine ⟨_, x, y, rfl, gp, hx, hy, ?_⟩
 have z := Int.gcd_ediv_gcd_ediv_gcd (i := a) (j := b) (by omega)
 have e1 : a / (Int.gcd a b : Int) = x := by
  conv => lhs; lhs; rw [hx]
  exact Int.mul_ediv_cancel_left _ (by omega)
 have e2 : b / (Int.gcd a b : Int) = y := by
  conv => lhs; lhs; rw [hy]
  exact Int.mul_ediv_cancel_left _ (by omega)
 rw [e1, e2] at z
 exact z
theorem pos_of {g y b : Int} (hb : 0 < b) (hg : 0 < g) (e : b = g * y) : 0 < y := by
 rcases Int.lt_or_le 0 y with h | h
 ·exact h
 ·have := Int.mul_le_mul_of_nonneg_left h (Int.le_of_lt hg)
  rw [Int.mul_zero] at this
  omega
def plusG (r q : R) : R :=
 let d : Int := (Int.gcd r.2 q.2 : Nat)
 let t := r.1 * (q.2 / d) + q.1 * (r.2 / d)
 let e : Int := (Int.gcd t d : Nat)
 (t / e, r.2 / d * (q.2 / e))
theorem plusG_eq {r q : R} (hr : Red r) (hq : Red q) : plusG r q = plusR r q := by
 obtain ⟨d, u, v, e0, dp, e1, e2, cuv⟩ := gcd_parts (a := r.2) hq.pos
 have up := pos_of hr.pos dp e1
 have vp := pos_of hq.pos dp e2
 obtain ⟨e, x, w, f0, ep, f1, f2, cxw⟩ := gcd_parts (a := r.1 * v + q.1 * u) dp
 have wp := pos_of dp ep f2
 have du : r.2 / d = u := by rw [e1]; exact Int.mul_ediv_cancel_left _ (by omega)
 have dv : q.2 / d = v := by rw [e2]; exact Int.mul_ediv_cancel_left _ (by omega)
 have te : (r.1 * v + q.1 * u) / e = x := by rw [f1]; exact Int.mul_ediv_cancel_left _ (by omega)
 have qe : q.2 / e = w * v := by rw [e2, f2, Int.mul_assoc]; exact Int.mul_ediv_cancel_left _ (by omega)
 have c1 : Int.gcd r.1 u = 1 := cop_right hr.cop ⟨d, by rw [e1, Int.mul_comm]⟩
 have c2 : Int.gcd q.1 v = 1 := cop_right hq.cop ⟨d, by rw [e2, Int.mul_comm]⟩
 have xd : x ∣ (r.1 * v + q.1 * u) := ⟨e, by rw [f1, Int.mul_comm]⟩
 have t1 : Int.gcd (r.1 * v + q.1 * u) u = 1 := by
  rw [Int.gcd_comm, Int.gcd_add_mul_right_right, Int.gcd_comm]
  exact cop_mulL c1 (by rw [Int.gcd_comm]; exact cuv)
 have t2 : Int.gcd (r.1 * v + q.1 * u) v = 1 := by
  rw [Int.add_comm, Int.gcd_comm, Int.gcd_add_mul_right_right, Int.gcd_comm]
  exact cop_mulL c2 cuv
 have cx : Int.gcd x (u * (w * v)) = 1 := cop_mul (cop_left t1 xd) (cop_mul cxw (cop_left t2 xd))
 have z : plusG r q = (x, u * (w * v)) := by
  unfold plusG
  simp only [e0, du, dv, f0, te, qe]
 rw [z]
 unfold plusR
 refine (mkR_uniq (Int.mul_pos hr.pos hq.pos) (Int.mul_pos up (Int.mul_pos wp vp)) cx ?_).symm
 have k : r.1 * q.2 + q.1 * r.2 = d * (e * x) := by
  rw [e1, e2, ← f1, Int.mul_add]
  rw [Int.mul_left_comm r.1 d v, Int.mul_left_comm q.1 d u]
 rw [k, e1, e2]
 have k2 : d * u * (d * v) = d * u * (e * w * v) := by rw [← f2]
 rw [k2]
 ac_rfl
def timesG (r q : R) : R :=
 let l : Int := (Int.gcd r.1 q.2 : Nat)
 let m : Int := (Int.gcd q.1 r.2 : Nat)
 (r.1 / l * (q.1 / m), r.2 / m * (q.2 / l))
theorem timesG_eq {r q : R} (hr : Red r) (hq : Red q) : timesG r q = timesR r q := by
 obtain ⟨l, a, b, e0, lp, e1, e2, cab⟩ := gcd_parts (a := r.1) hq.pos
 obtain ⟨m, c, d, f0, mp, f1, f2, ccd⟩ := gcd_parts (a := q.1) hr.pos
 have bp := pos_of hq.pos lp e2
 have dp := pos_of hr.pos mp f2
 have z : timesG r q = (a * c, d * b) := by
  unfold timesG
  simp only [e0, f0]
  rw [show r.1 / l = a by rw [e1]; exact Int.mul_ediv_cancel_left _ (by omega), show q.2 / l = b by rw [e2]; exact Int.mul_ediv_cancel_left _ (by omega),
   show q.1 / m = c by rw [f1]; exact Int.mul_ediv_cancel_left _ (by omega), show r.2 / m = d by rw [f2]; exact Int.mul_ediv_cancel_left _ (by omega)]
 have cad : Int.gcd a d = 1 := cop_left (cop_right hr.cop ⟨m, by rw [f2, Int.mul_comm]⟩) ⟨l, by rw [e1, Int.mul_comm]⟩
 have ccb : Int.gcd c b = 1 := cop_left (cop_right hq.cop ⟨l, by rw [e2, Int.mul_comm]⟩) ⟨m, by rw [f1, Int.mul_comm]⟩
 rw [z]
 unfold timesR
 refine (mkR_uniq (Int.mul_pos hr.pos hq.pos) (Int.mul_pos dp bp) (cop_mul (cop_mulL cad ccd) (cop_mulL cab ccb)) ?_).symm
 rw [e1, e2, f1, f2]
 ac_rfl
theorem plus_red {r q : R} (hr : Red r) (hq : Red q) : Red (plusR r q) := mkR_red (Int.mul_pos hr.pos hq.pos)
theorem times_red {r q : R} (hr : Red r) (hq : Red q) : Red (timesR r q) := mkR_red (Int.mul_pos hr.pos hq.pos)
end B
namespace B
open PySem L2 PyProof.Rows
def CQuoN (_ j : Int) : Prop := j ≠ 0 /\ j.natAbs < 2 ^ 4000
theorem op_quoN {X : Cx} : OpR X (binaryOp .FloorDiv) (rI CQuoN fun i j => .int (i.fdiv j)) := opI fun i j _ _ _ _ _ hc q => by
 have h1 : j ≠ 0 := hc.1
 have h2 : j.natAbs < 2 ^ 4000 := hc.2
 refine floordiv_int h1 q (.inl (PyProof.noPylong_of_log2 ?_))
 exact Nat.lt_trans ((Nat.log2_lt (show j.natAbs ≠ 0 by omega)).mpr h2) (by decide)
def mkS (a b : Int) : R := if b < 0 then mkR (-a) (-b) else mkR a b
theorem mkS_pos {a b : Int} (h : 0 < b) : mkS a b = mkR a b := by unfold mkS; rw [if_neg (by omega)]
theorem fdiv_pos {a g : Int} (h : 0 < g) : a.fdiv g = a / g := Int.fdiv_eq_ediv_of_nonneg a (by omega)
theorem fdiv_negg {a g : Int} (h : 0 < g) : a.fdiv (-g) = -a / g := by
 have e : a.fdiv (-g) = (-a).fdiv g := by
  have := Int.neg_fdiv_neg (-a) g
  rw [Int.neg_neg] at this
  exact this
 rw [e, fdiv_pos h]
theorem gcd_neg2 (a b : Int) : Int.gcd (-a) (-b) = Int.gcd a b := by simp [Int.gcd]
theorem gcd_posN {a b : Int} (hb : b ≠ 0) : 0 < (Int.gcd a b : Int) := by
 have h : Int.gcd a b ≠ 0 := fun z => hb (Int.gcd_eq_zero_iff.mp z).2
 omega
theorem gcd_big {a b : Int} (hb : b ≠ 0) (hz : b.natAbs < 2 ^ 4000) : ((Int.gcd a b : Nat) : Int).natAbs < 2 ^ 4000 := by
 have z : Int.gcd a b ≤ b.natAbs := Nat.le_of_dvd (by omega) (by have := Int.gcd_dvd_right a b; exact Int.natAbs_dvd_natAbs.mpr this)
 have e : ((Int.gcd a b : Nat) : Int).natAbs = Int.gcd a b := Int.natAbs_natCast _
 omega
theorem mkS_pos1 {a b : Int} (hb : 0 < b) : (a.fdiv (Int.gcd a b : Int), b.fdiv (Int.gcd a b : Int)) = mkS a b := by
 rw [mkS_pos hb, fdiv_pos (gcd_posR hb), fdiv_pos (gcd_posR hb)]; rfl
theorem mkS_neg1 {a b : Int} (hb : b < 0) : (a.fdiv (-(Int.gcd a b : Int)), b.fdiv (-(Int.gcd a b : Int))) = mkS a b := by
 have g := gcd_posN (a := a) (b := b) (by omega)
 unfold mkS
 rw [if_pos hb, fdiv_negg g, fdiv_negg g]
 unfold mkR
 rw [gcd_neg2]
theorem mkS_wf {n : Nat} {a b : Int} (hb : b ≠ 0) (h1 : a.natAbs < 2 ^ n) (h2 : b.natAbs < 2 ^ n) : Wf n (mkS a b) := by
 unfold mkS
 split
 ·exact mkR_wf (by omega) (by rw [Int.natAbs_neg]; exact h1) (by rw [Int.natAbs_neg]; exact h2)
 ·exact mkR_wf (by omega) h1 h2
def minusR (r q : R) : R := mkR (r.1 * q.2 - q.1 * r.2) (r.2 * q.2)
def overR (r q : R) : R := mkS (r.1 * q.2) (r.2 * q.1)
theorem minus_wf {n m : Nat} {r q : R} (h : Wf n r) (k : Wf m q) : Wf (n + m + 1) (minusR r q) := by
 refine mkR_wf (Int.mul_pos h.pos k.pos) ?_ (Nat.lt_of_lt_of_le (mul_lt h.bot k.bot) (Nat.pow_le_pow_right (by decide) (Nat.le_succ _)))
 have a := mul_lt h.top k.bot
 have b := mul_lt k.top h.bot
 rw [Nat.add_comm m n] at b
 have e : 2 ^ (n + m + 1) = 2 * 2 ^ (n + m) := by rw [Nat.pow_succ, Nat.mul_comm]
 have := Int.natAbs_sub_le (r.1 * q.2) (q.1 * r.2)
 omega
theorem over_wf {n m : Nat} {r q : R} (h : Wf n r) (k : Wf m q) (z : q.1 ≠ 0) : Wf (n + m) (overR r q) :=
 mkS_wf (Int.mul_ne_zero (by have := h.pos; omega) z) (mul_lt h.top k.bot) (mul_lt h.bot k.top)
structure Small (d : PyData) : Prop where
 sh : d.showable = true
 nd : d.hasDict = false
 sz : d.shown.length ≤ 5000
 dp : d.depth ≤ 8
theorem small_dR {r : R} {n : Nat} (h : Wf n r) (hn : n ≤ 1900) : Small (dR r) where
 sh := (dR_shows h hn).sh
 nd := rfl
 sz := by
  have a := len_of h.top hn
  have b := len_of h.bot hn
  have q := tupleText_len_le [(PyData.int r.1).shown, (PyData.int r.2).shown]
  have e : (dR r).shown = tupleText [(PyData.int r.1).shown, (PyData.int r.2).shown] := rfl
  rw [e]
  simp only [List.map_cons, List.map_nil, List.sum_cons, List.sum_nil, List.length_cons, List.length_nil] at q
  omega
 dp := by show max 0 (max 0 0) + 1 ≤ 8; decide
end B
namespace B
theorem mkR_cross {a b : Int} (hb : 0 < b) : (mkR a b).1 * b = a * (mkR a b).2 := by
 obtain ⟨g, x, y, _, gp, e1, e2, c⟩ := gcd_parts (a := a) hb
 have yp := pos_of hb gp e2
 have e : x * b = a * y := by rw [e1, e2]; ac_rfl
 rw [mkR_uniq hb yp c e]
 exact e
theorem mkS_spec {a b : Int} (hb : b ≠ 0) : Red (mkS a b) /\ (mkS a b).1 * b = a * (mkS a b).2 := by
 unfold mkS
 split
 ·rename_i h
  refine ⟨mkR_red (by omega), ?_⟩
  have z := mkR_cross (a := -a) (b := -b) (by omega)
  rw [Int.mul_neg, Int.neg_mul] at z
  exact Int.neg_inj.mp z
 ·exact ⟨mkR_red (by omega), mkR_cross (by omega)⟩
theorem mkS_uniq {a b x y : Int} (hb : b ≠ 0) (hy : 0 < y) (g : Int.gcd x y = 1) (e : x * b = a * y) : mkS a b = (x, y) := by
 unfold mkS
 split
 ·refine mkR_uniq (by omega) hy g ?_
  rw [Int.mul_neg, Int.neg_mul, e]
 ·exact mkR_uniq (by omega) hy g e
theorem over_eq {r q : R} (hr : Red r) (hq : q.1 ≠ 0) : timesR r (mkS q.2 q.1) = overR r q := by
 obtain ⟨hs, es⟩ := mkS_spec (a := q.2) hq
 have hp : 0 < r.2 * (mkS q.2 q.1).2 := Int.mul_pos hr.pos hs.pos
 have ht := mkR_red (a := r.1 * (mkS q.2 q.1).1) hp
 have et := mkR_cross (a := r.1 * (mkS q.2 q.1).1) hp
 unfold overR timesR
 generalize hS : mkS q.2 q.1 = s at hs es hp ht et ⊢
 generalize mkR (r.1 * s.1) (r.2 * s.2) = t at ht et ⊢
 refine (mkS_uniq (Int.mul_ne_zero (by have := hr.pos; omega) hq) ht.pos ht.cop ?_).symm
 have k : t.1 * (r.2 * q.1) * s.2 = r.1 * q.2 * t.2 * s.2 := by
  have a1 : t.1 * (r.2 * q.1) * s.2 = q.1 * (t.1 * (r.2 * s.2)) := by ac_rfl
  have a2 : r.1 * q.2 * t.2 * s.2 = r.1 * t.2 * (q.2 * s.2) := by ac_rfl
  rw [a1, et, a2, ← es]
  ac_rfl
 exact Int.eq_of_mul_eq_mul_right (by have := hs.pos; omega) k
theorem minus_eq (r q : R) : plusR r (-q.1, q.2) = minusR r q := by
 unfold plusR minusR
 rw [Int.neg_mul, ← Int.sub_eq_add_neg]
end B
namespace B
open PySem PySem.Spec L2 PyProof.Rows
theorem turnedL {X : Cx} {pins : PLs} {σ : L2.St} {H : Hp} {s : Shared} {h' : Heap} {t' : Nat} {fp : List Addr} (I : Inv X pins σ H s)
  (k : ∀ b o, b ∉ fp -> s.heap.get? b = some o -> h'.get? b = some o) (hf : ∀ b ∈ fp, FpOk X pins H b) : Inv X pins σ H { s with heap := h', toks := t' } := by
 have off : ∀ b u, H b = some u -> b ∉ fp := fun b u e z => by rw [(hf b z).1] at e; cases e
 refine I.step (g' := s.gens) (d' := s.drawn) (ch := fp) (fun b hb => ?_) (fun b o _ _ hc e _ => k b o hc e) (fun b o _ _ hc e _ => ⟨o.slots, k b o hc e⟩) (fun _ _ _ _ n => n)
  (fun b o hc e => ⟨o, k b o hc e⟩) (fun _ _ e => e) (fun _ _ _ e => e) (fun b ps e => ⟨#[], by rw [e]; simp⟩) (fun m hm => ?_) (fun b u e => ?_) I.bare
 ·obtain ⟨_, f1, _, f3, f4, f5⟩ := hf b hb
  exact ⟨f3, f1, f4, f5⟩
 ·obtain ⟨o, es, ep, ho, r⟩ := hm
  exact ⟨o, es, ep, k _ o (fun z => (hf _ z).2.1 rfl) ho, r⟩
 ·refine (I.hok b u e).stay (fun c v hc q => k c v ?_ q) (fun _ q => q) fun _ _ q => q
  rcases hc with z | z
  ·rw [z]; exact off b u e
  ·exact off c _ z
section
variable {prog : Program} {w : World} {A : Around} {E : VSP} {s : Shared}
theorem nx_item {j t : Addr} {k : Nat} {ys : Array Value} {v : Value} {G : VSP} (a : s.heap.IsTupleIter j t k) (b : s.heap.IsTuple t ys) (c : ys[k]? = some v)
  (g : ∀ h', h'.IsTupleIter j t (k + 1) -> Heap.SameBut j s.heap h' -> G v { s with heap := h' }) : wpAny (model prog w) A (Builtin.SmallTypes.nextOf (.ref j)) G E s := by
 obtain ⟨o, e1, e2, e3⟩ := id a
 obtain ⟨q, f1, _, n, f2⟩ := b
 unfold Builtin.SmallTypes.nextOf
 refine wpAny_bind (wpAny_callSpecial?_slot (name := Str.ofString "__next__") a.typeIs F.slot_tuple_iterator_next
  (wpAny_call_entry F.slot_tuple_iterator_next a.typeIs F.entry_tuple_iterator_next ?_ (F.args_tuple_iterator_next_1 _)))
 show wpAny (model prog w) _ (field (.ref j) 0 >>= _) _ _ s
 refine wpAny_bind (wpAny_field e1 e3 (x := .ref t) rfl ?_)
 show wpAny (model prog w) _ (if (Value.ref t == Value.none) = true then _ else _) _ _ s
 rw [if_neg (fun z => Bool.noConfusion z : ¬ ((Value.ref t == Value.none) = true))]
 show wpAny (model prog w) _ (field (.ref j) 1 >>= _) _ _ s
 refine wpAny_bind (wpAny_field e1 e3 (x := .int k 0) rfl ?_)
 show wpAny (model prog w) _ (seqItems? (.ref t) >>= _) _ _ s
 refine wpAny_bind (wpAny_seqItems f1 f2 ?_)
 simp only [c, Int.toNat_natCast]
 refine wpAny_bind (wpAny_setField e1 e3 (by simp) (wpAny_pure ⟨v, rfl, wpAny_pure (g _ ?_ (Heap.SameBut.update ..))⟩))
 refine ⟨_, Heap.get?_update_self _ e1 (Obj.isFreed_of_fields (Obj.data_mapFields e3 _)), (Obj.cls_mapFields ..).trans e2, ?_⟩
 rw [Obj.data_mapFields e3]; simp [rawInt]
theorem nx_end {j t : Addr} {k : Nat} {ys : Array Value} {G : VSP} (hh : A.handled = none) (a : s.heap.IsTupleIter j t k) (b : s.heap.IsTuple t ys) (c : ys[k]? = none)
  (g : ∀ h' e, Heap.ExtBut j s.heap h' -> (∃ o, h'.get? e = some o /\ o.cls = .type "StopIteration") -> E (.ref e) { s with heap := h' }) : wpAny (model prog w) A (Builtin.SmallTypes.nextOf (.ref j)) G E s := by
 obtain ⟨o, e1, e2, e3⟩ := id a
 obtain ⟨q, f1, _, n, f2⟩ := b
 unfold Builtin.SmallTypes.nextOf
 refine wpAny_bind (wpAny_callSpecial?_slot (name := Str.ofString "__next__") a.typeIs F.slot_tuple_iterator_next
  (wpAny_call_entry F.slot_tuple_iterator_next a.typeIs F.entry_tuple_iterator_next ?_ (F.args_tuple_iterator_next_1 _)))
 show wpAny (model prog w) _ (field (.ref j) 0 >>= _) _ _ s
 refine wpAny_bind (wpAny_field e1 e3 (x := .ref t) rfl ?_)
 show wpAny (model prog w) _ (if (Value.ref t == Value.none) = true then _ else _) _ _ s
 rw [if_neg (fun z => Bool.noConfusion z : ¬ ((Value.ref t == Value.none) = true))]
 show wpAny (model prog w) _ (field (.ref j) 1 >>= _) _ _ s
 refine wpAny_bind (wpAny_field e1 e3 (x := .int k 0) rfl ?_)
 show wpAny (model prog w) _ (seqItems? (.ref t) >>= _) _ _ s
 refine wpAny_bind (wpAny_seqItems f1 f2 ?_)
 simp only [c, Int.toNat_natCast]
 refine wpAny_bind (wpAny_rule (wpAny_bind (wpAny_setField e1 e3 (by simp) ?_)))
 show wpAny (model prog w) _ (newExc (.type "StopIteration") [] >>= _) _ _ _
 refine wpAny_bind ?_
 simp only [newTuple, newExc]
 refine wpAny_bind (wpAny_newObj_type ?_ (by size_fits))
 refine wpAny_bind (m := firstArgMember _ _) (wpAny_of_eq (a := Value.none) (by first | rfl | (simp only [firstArgMember] <;> rfl)) ?_)
 refine wpAny_newObj_type ?_ (by size_fits)
 simp only [raiseNew]
 refine wpAny_bind (wpAny_handled ?_)
 first | rw [hh] | rw [show A.in1.handled = none from hh]
 refine wpAny_bind (wpAny_pure (wpAny_throw (g _ _ (((Heap.SameBut.update ..).extBut.push _).push _) ⟨_, Heap.get?_push_size _ rfl, rfl⟩)))
structure Five (z TI TO i1 i2 : Addr) : Prop where
 a1 : TI ≠ z
 a2 : TO ≠ z
 a3 : i1 ≠ z
 a4 : i2 ≠ z
 a5 : TI ≠ TO
 a6 : TI ≠ i1
 a7 : TI ≠ i2
 a8 : TO ≠ i1
 a9 : TO ≠ i2
 b1 : i1 ≠ i2
theorem zip_step {z TI TO i1 i2 : Addr} {x y a b : Value} {A1 A2 : Heap -> Prop} {G : VSP} (D : Five z TI TO i1 i2)
  (hz : IsZip s.heap z TI TO .none) (hI : IsPair s.heap TI (.ref i1) (.ref i2)) (hO : IsPair s.heap TO a b)
  (N1 : ∀ (s' : Shared) (G : VSP) (E : VSP), (∀ c o, c ≠ z -> s.heap.get? c = some o -> s'.heap.get? c = some o) -> (∀ h', A1 h' -> Heap.SameBut i1 s'.heap h' -> G x { s' with heap := h' }) -> wpAny (model prog w) A (Builtin.SmallTypes.nextOf (.ref i1)) G E s')
  (N2 : ∀ (s' : Shared) (G : VSP) (E : VSP), (∀ c o, c ≠ z -> c ≠ TO -> c ≠ i1 -> s.heap.get? c = some o -> s'.heap.get? c = some o) -> (∀ h', A2 h' -> Heap.SameBut i2 s'.heap h' -> G y { s' with heap := h' }) -> wpAny (model prog w) A (Builtin.SmallTypes.nextOf (.ref i2)) G E s')
  (l1 : i1 < s.heap.objs.size) (l2 : i2 < s.heap.objs.size)
  (g : ∀ h₁ h₂ h', A1 h₁ -> A2 h₂ -> (∀ c o, c ≠ z -> c ≠ TO -> c ≠ i2 -> h₁.get? c = some o -> h'.get? c = some o) -> (∀ c o, c ≠ z -> c ≠ TO -> h₂.get? c = some o -> h'.get? c = some o) →
   IsZip h' z TI TO (rawInt s.heap.objs.size) -> IsPair h' TO x y -> IsPair h' s.heap.objs.size x y -> h'.objs.size = s.heap.objs.size + 1 →
   (∀ c o, c ∉ [z, TO, i1, i2] -> s.heap.get? c = some o -> h'.get? c = some o) -> G (.ref s.heap.objs.size) { s with heap := h' }) :
  wpAny (model prog w) A (Builtin.«zip.__next__» ⟨[.ref z], []⟩) (fun fin s' => ∃ v, fin = .done (.ret v) /\ G v s') E s := by
 show wpAny (model prog w) _ (field (.ref z) 2 >>= _) _ _ _
 refine wpAny_bind (wpAny_field hz rfl (x := .bool false) rfl ?_)
 show wpAny (model prog w) _ (field (.ref z) 3 >>= _) _ _ _
 refine wpAny_bind (wpAny_field hz rfl (x := .ref TI) rfl ?_)
 refine wpAny_bind (wpAny_seqItems hI rfl ?_)
 show wpAny (model prog w) _ (Builtin.SmallTypes.ownedTupleIsFree (.ref z) >>= _) _ _ _
 refine wpAny_bind ?_
 unfold Builtin.SmallTypes.ownedTupleIsFree
 refine wpAny_bind (wpAny_field hz rfl (x := .none) rfl (wpAny_pure ?_))
 simp only [if_true]
 refine wpAny_bind (wpAny_rule ?_)
 refine wpAny_bind (wpAny_field hz rfl (x := .ref TO) rfl ?_)
 refine wpAny_bind (wpAny_setField_rec hz (by simp) fun g1 z1 s1 => ?_)
 replace z1 : IsZip g1 z TI TO .ellipsis := z1
 refine wpAny_bind ?_
 simp only [List.zipIdx_nil, List.zipIdx_cons, List.forIn_nil, List.forIn_cons]
 refine wpAny_bind (wpAny_bind (wpAny_onRaise ?_))
 show wpAny (model prog w) _ (Builtin.SmallTypes.nextOf (.ref i1) >>= _) _ _ _
 refine wpAny_bind (N1 _ _ _ (fun c o n e => s1.extBut c o n e) fun g2 q1 s2 => wpAny_pure ?_)
 have O2 : IsPair g2 TO a b := s2.extBut _ _ D.a8 (s1.extBut _ _ D.a2 hO)
 refine wpAny_bind (wpAny_seqItems O2 rfl ?_)
 refine wpAny_bind (wpAny_updateSeq_pair O2 fun g3 O3 s3 => ?_)
 replace O3 : IsPair g3 TO x b := O3
 refine wpAny_bind (wpAny_letGo (wpAny_pure ?_))
 refine wpAny_bind (wpAny_bind (wpAny_onRaise ?_))
 show wpAny (model prog w) _ (Builtin.SmallTypes.nextOf (.ref i2) >>= _) _ _ _
 refine wpAny_bind (N2 _ _ _ (fun c o n m k e => s3.extBut _ _ m (s2.extBut _ _ k (s1.extBut c o n e))) fun g4 q2 s4 => wpAny_pure ?_)
 have O4 : IsPair g4 TO x b := s4.extBut _ _ D.a9 O3
 refine wpAny_bind (wpAny_seqItems O4 rfl ?_)
 refine wpAny_bind (wpAny_updateSeq_pair O4 fun g5 O5 s5 => ?_)
 replace O5 : IsPair g5 TO x y := O5
 refine wpAny_bind (wpAny_letGo (wpAny_pure (wpAny_pure ?_)))
 refine wpAny_bind (wpAny_seqItems O5 rfl ?_)
 refine wpAny_bind (wpAny_newTuple ?_)
 have sz : g5.objs.size = s.heap.objs.size := by rw [s5.1, s4.1, s3.1, s2.1, s1.1]
 have z5 : IsZip g5 z TI TO .ellipsis := s5.extBut _ _ D.a2.symm (s4.extBut _ _ D.a4.symm (s3.extBut _ _ D.a2.symm (s2.extBut _ _ D.a3.symm z1)))
 have zl : z < g5.objs.size := Heap.lt_size z5
 show wpAny (model prog w) _ (Builtin.SmallTypes.ownedTupleHandOut (.ref z) (.ref g5.objs.size) >>= _) _ _ _
 refine wpAny_bind ?_
 unfold Builtin.SmallTypes.ownedTupleHandOut
 have z6 : IsZip (g5.push { cls := .type "tuple", data := .seq #[x, y] }) z TI TO .ellipsis := Heap.get?_push_of_some _ z5
 refine wpAny_bind (wpAny_setField_rec z6 (by simp) fun g7 z7 s7 => ?_)
 replace z7 : IsZip g7 z TI TO (rawInt g5.objs.size) := z7
 refine wpAny_setField_rec z7 (by simp) fun g8 z8 s8 => ?_
 replace z8 : IsZip g8 z TI TO (rawInt g5.objs.size) := z8
 have up : ∀ c o, c ≠ z -> g5.get? c = some o -> g8.get? c = some o := fun c o n e => s8.extBut _ _ n (s7.extBut _ _ n (Heap.get?_push_of_some _ e))
 have t8 : IsPair g8 g5.objs.size x y := s8.extBut _ _ (Nat.ne_of_gt zl) (s7.extBut _ _ (Nat.ne_of_gt zl) (Heap.get?_push_size _ rfl))
 have sz8 : g8.objs.size = g5.objs.size + 1 := by rw [s8.1, s7.1, Heap.size_push]
 rw [sz] at z8 t8 sz8
 refine wpAny_pure ⟨_, rfl, ?_⟩
 show G (.ref g5.objs.size) _
 rw [sz]
 refine g g2 g4 g8 q1 q2 (fun c o n m k e => up c o n (s5.extBut _ _ m (s4.extBut _ _ k (s3.extBut _ _ m e)))) (fun c o n m e => up c o n (s5.extBut _ _ m e)) z8 (up _ _ D.a2 O5) t8 sz8 fun c o n e => ?_
 simp only [List.mem_cons, List.not_mem_nil, or_false, not_or] at n
 exact up c o n.1 (s5.extBut _ _ n.2.1 (s4.extBut _ _ n.2.2.2 (s3.extBut _ _ n.2.1 (s2.extBut _ _ n.2.2.1 (s1.extBut _ _ n.1 e)))))
theorem zip_stop {z TI TO i1 i2 : Addr} {a b : Value} {G : Fin -> Shared -> Prop} (D : Five z TI TO i1 i2)
  (hz : IsZip s.heap z TI TO .none) (hI : IsPair s.heap TI (.ref i1) (.ref i2)) (hO : IsPair s.heap TO a b)
  (N : (∀ (s' : Shared) (G : VSP) (E : VSP), (∀ c o, c ≠ z -> s.heap.get? c = some o -> s'.heap.get? c = some o) →
    (∀ h' e, Heap.ExtBut i1 s'.heap h' -> (∃ o, h'.get? e = some o /\ o.cls = .type "StopIteration") -> E (.ref e) { s' with heap := h' }) -> wpAny (model prog w) A (Builtin.SmallTypes.nextOf (.ref i1)) G E s') ∨
   ((∃ x, ∀ (s' : Shared) (G : VSP) (E : VSP), (∀ c o, c ≠ z -> s.heap.get? c = some o -> s'.heap.get? c = some o) -> (∀ h', Heap.SameBut i1 s'.heap h' -> G x { s' with heap := h' }) -> wpAny (model prog w) A (Builtin.SmallTypes.nextOf (.ref i1)) G E s') ∧
    ∀ (s' : Shared) (G : VSP) (E : VSP), (∀ c o, c ≠ z -> c ≠ TO -> c ≠ i1 -> s.heap.get? c = some o -> s'.heap.get? c = some o) →
    (∀ h' e, Heap.ExtBut i2 s'.heap h' -> (∃ o, h'.get? e = some o /\ o.cls = .type "StopIteration") -> E (.ref e) { s' with heap := h' }) -> wpAny (model prog w) A (Builtin.SmallTypes.nextOf (.ref i2)) G E s'))
  (g : ∀ h' e, (∀ c o, c ∉ [z, TO, i1, i2] -> s.heap.get? c = some o -> h'.get? c = some o) -> (∃ o, h'.get? e = some o /\ o.cls = .type "StopIteration") -> E (.ref e) { s with heap := h' }) :
  wpAny (model prog w) A (Builtin.«zip.__next__» ⟨[.ref z], []⟩) G E s := by
 show wpAny (model prog w) _ (field (.ref z) 2 >>= _) _ _ _
 refine wpAny_bind (wpAny_field hz rfl (x := .bool false) rfl ?_)
 show wpAny (model prog w) _ (field (.ref z) 3 >>= _) _ _ _
 refine wpAny_bind (wpAny_field hz rfl (x := .ref TI) rfl ?_)
 refine wpAny_bind (wpAny_seqItems hI rfl ?_)
 show wpAny (model prog w) _ (Builtin.SmallTypes.ownedTupleIsFree (.ref z) >>= _) _ _ _
 refine wpAny_bind ?_
 unfold Builtin.SmallTypes.ownedTupleIsFree
 refine wpAny_bind (wpAny_field hz rfl (x := .none) rfl (wpAny_pure ?_))
 simp only [if_true]
 refine wpAny_bind (wpAny_rule ?_)
 refine wpAny_bind (wpAny_field hz rfl (x := .ref TO) rfl ?_)
 refine wpAny_bind (wpAny_setField_rec hz (by simp) fun g1 z1 s1 => ?_)
 replace z1 : IsZip g1 z TI TO .ellipsis := z1
 refine wpAny_bind ?_
 simp only [List.zipIdx_nil, List.zipIdx_cons, List.forIn_nil, List.forIn_cons]
 refine wpAny_bind (wpAny_bind (wpAny_onRaise ?_))
 show wpAny (model prog w) _ (Builtin.SmallTypes.nextOf (.ref i1) >>= _) _ _ _
 rcases N with N | ⟨⟨x, N⟩, N'⟩
 ·refine wpAny_bind (N _ _ _ (fun c o n e => s1.extBut c o n e) fun g2 e s2 he => ?_)
  obtain ⟨oe, he, hc⟩ := he
  have z2 : IsZip g2 z TI TO .ellipsis := s2 _ _ D.a3.symm z1
  have ne : e ≠ z := fun q => by subst q; rw [z2] at he; cases he; simp at hc
  refine wpAny_setField_rec z2 (by simp) fun g3 _ s3 => g g3 e (fun c o n q => ?_) ⟨oe, s3.extBut _ _ ne he, hc⟩
  simp only [List.mem_cons, List.not_mem_nil, or_false, not_or] at n
  exact s3.extBut _ _ n.1 (s2 _ _ n.2.2.1 (s1.extBut _ _ n.1 q))
 ·refine wpAny_bind (N _ _ _ (fun c o n e => s1.extBut c o n e) fun g2 s2 => wpAny_pure ?_)
  have O2 : IsPair g2 TO a b := s2.extBut _ _ D.a8 (s1.extBut _ _ D.a2 hO)
  refine wpAny_bind (wpAny_seqItems O2 rfl ?_)
  refine wpAny_bind (wpAny_updateSeq_pair O2 fun g3 O3 s3 => ?_)
  refine wpAny_bind (wpAny_letGo (wpAny_pure ?_))
  refine wpAny_bind (wpAny_bind (wpAny_onRaise ?_))
  show wpAny (model prog w) _ (Builtin.SmallTypes.nextOf (.ref i2) >>= _) _ _ _
  refine wpAny_bind (N' _ _ _ (fun c o n m k e => s3.extBut _ _ m (s2.extBut _ _ k (s1.extBut c o n e))) fun g4 e s4 he => ?_)
  obtain ⟨oe, he, hc⟩ := he
  have z4 : IsZip g4 z TI TO .ellipsis := s4 _ _ D.a4.symm (s3.extBut _ _ D.a2.symm (s2.extBut _ _ D.a3.symm z1))
  have ne : e ≠ z := fun q => by subst q; rw [z4] at he; cases he; simp at hc
  refine wpAny_setField_rec z4 (by simp) fun g5 _ s5 => g g5 e (fun c o n q => ?_) ⟨oe, s5.extBut _ _ ne he, hc⟩
  simp only [List.mem_cons, List.not_mem_nil, or_false, not_or] at n
  exact s5.extBut _ _ n.1 (s4 _ _ n.2.2.2 (s3.extBut _ _ n.2.1 (s2.extBut _ _ n.2.2.1 (s1.extBut _ _ n.1 q))))
end
theorem turnedN {X : Cx} {pins : PLs} {σ : L2.St} {H : Hp} {s : Shared} {h' : Heap} {t' : Nat} {fp : List Addr} {p : Addr} {v : HO} (I : Inv X pins σ H s)
  (k : ∀ b o, b ∉ fp -> s.heap.get? b = some o -> h'.get? b = some o) (hf : ∀ b ∈ fp, FpOk X pins H b) (hp : s.heap.objs.size ≤ p) (new : ObjOk X.prog X.w (upd H p v) h' p v) :
  Inv X pins σ (upd H p v) { s with heap := h', toks := t' } := by
 have off : ∀ b u, H b = some u -> b ∉ fp := fun b u e z => by rw [(hf b z).1] at e; cases e
 have hn : H p = none := I.hok.fresh hp
 have old : ∀ b u, H b = some u -> upd H p v b = some u := fun b u e => by rw [upd_ne (ne_of_none e hn)]; exact e
 refine I.step (g' := s.gens) (d' := s.drawn) (ch := fp) (fun b hb => ?_) (fun b o _ _ hc e _ => k b o hc e) (fun b o _ _ hc e _ => ⟨o.slots, k b o hc e⟩) (fun b o _ e n => ?_)
  (fun b o hc e => ⟨o, k b o hc e⟩) (fun b xs e => old b _ e) (fun b o u e => old b _ e) (fun b ps e => ⟨#[], by rw [old b _ e]; simp⟩) (fun m hm => ?_) (fun b u e => ?_) I.bare
 ·obtain ⟨_, f1, _, f3, f4, f5⟩ := hf b hb
  exact ⟨f3, f1, f4, f5⟩
 ·rw [upd_ne (Nat.ne_of_lt (Nat.lt_of_lt_of_le (Heap.lt_size e) hp))]; exact n
 ·obtain ⟨o, es, ep, ho, r⟩ := hm
  exact ⟨o, es, ep, k _ o (fun z => (hf _ z).2.1 rfl) ho, r⟩
 ·by_cases hb : b = p
  ·subst hb; rw [upd_same] at e; cases e; exact new
  ·rw [upd_ne hb] at e
   refine (I.hok b u e).stay (fun c v hc q => k c v ?_ q) (fun c q => old c _ q) fun c xs q => old c _ q
   rcases hc with z | z
   ·rw [z]; exact off b u e
   ·exact off c _ z
theorem sqT_off {X : Cx} {pins : PLs} {σ : L2.St} {H : Hp} {s : Shared} {a b : Addr} {xs : List V} (I : Inv X pins σ H s) (h : SqT X.K H a xs) (f : FpOk X pins H b) : a ≠ b := fun z => by
 subst z
 rcases h with (h | ⟨o, h⟩) | ⟨o, its, n, hk, _⟩
 ·rw [f.1] at h; cases h
 ·rw [f.1] at h; cases h
 ·have e := I.ok.mod.kin a o hk
  rcases f.2.2.2.1 with z | z
  ·exact I.ok.noex a o e z
  ·rw [(I.ok.bs a o e).1] at z; cases z
def Itz (K : Fg) (a b : Addr) : It :=
 ⟨fun i H => ∃ xs ys x y, SqT K H a xs /\ SqT K H b ys /\ xs[i]? = some x /\ ys[i]? = some y,
  fun i H v H' => ∃ p x y, H p = none /\ v = .ref p /\ H' = upd H p (.tup [x, y]) /\ (∀ xs, SqT K H a xs -> xs[i]? = some x) /\ ∀ ys, SqT K H b ys -> ys[i]? = some y,
  fun i H => ∃ xs ys, SqT K H a xs /\ SqT K H b ys /\ (xs.length ≤ i ∨ ys.length ≤ i)⟩
def ZSt (z TI TO i1 i2 a b : Addr) (i : Nat) (h : Heap) : Prop := IsZip h z TI TO .none /\ IsPair h TI (.ref i1) (.ref i2) /\ (∃ u v, IsPair h TO u v) /\ h.IsTupleIter i1 a i /\ h.IsTupleIter i2 b i
theorem tupIter_at {h h' : Heap} {i a : Addr} {n : Nat} (x : h.IsTupleIter i a n) (k : ∀ o, h.get? i = some o -> h'.get? i = some o) : h'.IsTupleIter i a n := let ⟨o, e, r⟩ := x; ⟨o, k o e, r⟩
theorem tup_at {h h' : Heap} {a : Addr} {ys : Array Value} (x : h.IsTuple a ys) (k : ∀ o, h.get? a = some o -> h'.get? a = some o) : h'.IsTuple a ys := let ⟨o, e, r⟩ := x; ⟨o, k o e, r⟩
theorem tupIter_lt {h : Heap} {i a : Addr} {n : Nat} (x : h.IsTupleIter i a n) : i < h.objs.size := let ⟨_, e, _⟩ := x; Heap.lt_size e
theorem turn_zip {P : Program} {w : World} {K : Fg} {elts : List Expr} {x1} {pos : Pos} {z TI TO i1 i2 a b : Addr} (D : Five z TI TO i1 i2) :
  Turn P w K (.Tuple elts x1 pos) (Itz K a b) [z, TI, TO, i1, i2] z (ZSt z TI TO i1 i2 a b) where
 mem := by simp
 obj := fun i h st c hc => by
  obtain ⟨h1, h2, ⟨u, v, h3⟩, ⟨o4, h4, c4, d4⟩, ⟨o5, h5, c5, d5⟩⟩ := st
  simp only [List.mem_cons, List.not_mem_nil, or_false] at hc
  rcases hc with rfl | rfl | rfl | rfl | rfl
  ·exact ⟨_, h1, fun v q => by cases (show Data.fields _ = Data.cell v from q)⟩
  ·exact ⟨_, h2, fun v q => by cases (show Data.seq _ _ = Data.cell v from q)⟩
  ·exact ⟨_, h3, fun v q => by cases (show Data.seq _ _ = Data.cell v from q)⟩
  ·exact ⟨o4, h4, fun v q => by rw [d4] at q; cases q⟩
  ·exact ⟨o5, h5, fun v q => by rw [d5] at q; cases q⟩
 keep := fun i h h' st k => by
  obtain ⟨h1, h2, ⟨u, v, h3⟩, h4, h5⟩ := st
  exact ⟨k z (by simp) _ h1, k TI (by simp) _ h2, ⟨u, v, k TO (by simp) _ h3⟩, tupIter_at h4 fun o e => k i1 (by simp) o e, tupIter_at h5 fun o e => k i2 (by simp) o e⟩
 item := by
  intro X hP hw hK hc i pins s σ H E I hf st hg
  subst hP hw hK
  obtain ⟨xs, ys, x, y, q1, q2, hx, hy⟩ := hg
  obtain ⟨its, rv, p1, z1⟩ := I.tuple q1
  obtain ⟨jts, rw', p2, z2⟩ := I.tuple q2
  obtain ⟨u, hu, ru⟩ := rv.get hx
  obtain ⟨v, hv, rv2⟩ := rw'.get hy
  have off1 : ∀ c ∈ [z, TI, TO, i1, i2], a ≠ c := fun c hc => sqT_off I q1 (hf c hc)
  have off2 : ∀ c ∈ [z, TI, TO, i1, i2], b ≠ c := fun c hc => sqT_off I q2 (hf c hc)
  obtain ⟨h1, h2, ⟨o1, o2, h3⟩, h4, h5⟩ := st
  have hT : s.TypeIs (.ref z) "zip" := ⟨_, h1, rfl⟩
  unfold pyNext
  refine wpAny_bind (wpAny_attempt (wpAny_callSpecial?_slot (name := Str.ofString "__next__") hT F.slot_zip_next
   (wpAny_call_entry F.slot_zip_next hT F.entry_zip_next ?_ (F.args_zip_next_1 _))))
  refine zip_step (x := u) (y := v) (A1 := fun h => h.IsTupleIter i1 a (i + 1)) (A2 := fun h => h.IsTupleIter i2 b (i + 1)) D h1 h2 h3 ?_ ?_ (tupIter_lt h4) (tupIter_lt h5) ?_
  ·intro s' G E' k g
   exact nx_item (tupIter_at h4 fun o e => k _ o D.a3 e) (tup_at (show s.heap.IsTuple a its.toArray from p1) fun o e => k _ o (off1 z (by simp)) e) (by simpa using hu) g
  ·intro s' G E' k g
   exact nx_item (tupIter_at h5 fun o e => k _ o D.a4 (Ne.symm D.a9) (Ne.symm D.b1) e) (tup_at (show s.heap.IsTuple b jts.toArray from p2) fun o e => k _ o (off2 z (by simp)) (off2 TO (by simp)) (off2 i1 (by simp)) e) (by simpa using hv) g
  ·intro g1 g2 h' a1 a2 k1 k2 zz po pn sz kk
   refine wpAny_pure ⟨_, rfl, ?_⟩
   refine wpAny_letOwnedTupleGo_zip zz fun h'' z3 sb => ?_
   have nz : s.heap.objs.size ≠ z := Nat.ne_of_gt (Heap.lt_size h1)
   have hp : H s.heap.objs.size = none := I.fresh
   have P : ObjOk X.prog X.w (upd H s.heap.objs.size (.tup [x, y])) h'' s.heap.objs.size (.tup [x, y]) :=
    ⟨by show 2 ≤ sizeLine; decide, [u, v], .cons ru (.cons rv2 .nil), ⟨_, sb.extBut _ _ nz pn, rfl, _, rfl⟩⟩
   have I2 : Inv X pins σ (upd H s.heap.objs.size (.tup [x, y])) { s with heap := h'', toks := s.toks } := turnedN I (fun c o n e => by
    have n' : c ∉ [z, TO, i1, i2] := fun q => n (by
     simp only [List.mem_cons, List.not_mem_nil, or_false] at q ⊢
     rcases q with q | q | q | q <;> simp [q])
    exact sb.extBut _ _ (fun q => n (by simp [q])) (kk c o n' e)) hf (Nat.le_refl _) P
   refine ⟨.ref s.heap.objs.size, _, I2, rfl, ⟨_, x, y, hp, rfl, rfl, fun zs hz => by rw [I.tuple_inj hz q1]; exact hx, fun zs hz => by rw [I.tuple_inj hz q2]; exact hy⟩, ⟨z3, ?_, ⟨u, v, ?_⟩, ?_, ?_⟩, fun c hc => ?_⟩
   ·refine sb.extBut _ _ D.a1 (kk TI _ ?_ h2)
    have := D.a1; have := D.a5; have := D.a6; have := D.a7
    simp only [List.mem_cons, List.not_mem_nil, or_false, not_or]
    exact ⟨D.a1, D.a5, D.a6, D.a7⟩
   ·exact sb.extBut _ _ D.a2 po
   ·exact tupIter_at a1 fun o e => sb.extBut _ _ D.a3 (k1 _ o D.a3 (Ne.symm D.a8) D.b1 e)
   ·exact tupIter_at a2 fun o e => sb.extBut _ _ D.a4 (k2 _ o D.a4 (Ne.symm D.a9) e)
   ·have lt : c < s.heap.objs.size := by
     simp only [List.mem_cons, List.not_mem_nil, or_false] at hc
     rcases hc with rfl | rfl | rfl | rfl | rfl
     ·exact Heap.lt_size h1
     ·exact Heap.lt_size h2
     ·exact Heap.lt_size h3
     ·exact tupIter_lt h4
     ·exact tupIter_lt h5
    rw [upd_ne (Nat.ne_of_lt lt)]
    exact (hf c hc).1
 done := by
  intro X hP hw hK hc i pins s σ H E I hf st hg
  subst hP hw hK
  obtain ⟨xs, ys, q1, q2, hd⟩ := hg
  obtain ⟨its, rv, p1, z1⟩ := I.tuple q1
  obtain ⟨jts, rw', p2, z2⟩ := I.tuple q2
  have l1 := rv.length
  have l2 := rw'.length
  have off1 : ∀ c ∈ [z, TI, TO, i1, i2], a ≠ c := fun c hc => sqT_off I q1 (hf c hc)
  have off2 : ∀ c ∈ [z, TI, TO, i1, i2], b ≠ c := fun c hc => sqT_off I q2 (hf c hc)
  obtain ⟨h1, h2, ⟨o1, o2, h3⟩, h4, h5⟩ := st
  have hT : s.TypeIs (.ref z) "zip" := ⟨_, h1, rfl⟩
  have hh : X.A.in1.handled = none := I.ok.hd hc
  unfold pyNext
  refine wpAny_bind (wpAny_attempt (wpAny_callSpecial?_slot (name := Str.ofString "__next__") hT F.slot_zip_next
   (wpAny_call_entry F.slot_zip_next hT F.entry_zip_next ?_ (F.args_zip_next_1 _))))
  refine zip_stop D h1 h2 h3 ?_ fun h' e kk he => ?_
  ·cases e : its.toArray[i]? with
   | none =>
    refine .inl fun s' G E' k g => ?_
    exact nx_end hh (tupIter_at h4 fun o e => k _ o D.a3 e) (tup_at (show s.heap.IsTuple a its.toArray from p1) fun o e => k _ o (off1 z (by simp)) e) e g
   | some u =>
    refine .inr ⟨⟨u, fun s' G E' k g => ?_⟩, fun s' G E' k g => ?_⟩
    ·exact nx_item (tupIter_at h4 fun o e => k _ o D.a3 e) (tup_at (show s.heap.IsTuple a its.toArray from p1) fun o e => k _ o (off1 z (by simp)) e) e fun h' _ sb => g h' sb
    ·have hi : i < its.length := by
      have := (Array.getElem?_eq_some_iff.mp e).1
      simpa using this
     exact nx_end hh (tupIter_at h5 fun o e => k _ o D.a4 (Ne.symm D.a9) (Ne.symm D.b1) e) (tup_at (show s.heap.IsTuple b jts.toArray from p2) fun o e => k _ o (off2 z (by simp)) (off2 TO (by simp)) (off2 i1 (by simp)) e)
      (by rw [Array.getElem?_eq_none_iff]; simp; omega) g
  ·obtain ⟨o, ho, hc'⟩ := he
   refine wpAny_bind (wpAny_isInstance (T := "StopIteration") (b := true) ⟨o, ho, hc'⟩ isSubtype_stop ?_)
   refine wpAny_pure ⟨rfl, ?_⟩
   exact turnedL (t' := s.toks) I (fun c o n e => kk c o (fun q => n (by
     simp only [List.mem_cons, List.not_mem_nil, or_false] at q ⊢
     rcases q with q | q | q | q <;> simp [q])) e) hf
 self := fun _ _ _ _ _ st h => wpAny_pyIter_zip st.1 h
abbrev zA (h : Heap) (a : Addr) : Heap := h.push { cls := .type "tuple_iterator", data := .fields #[.ref a, .int 0 0] }
abbrev zB (h : Heap) (a b : Addr) : Heap := zA (zA h a) b
abbrev zC (h : Heap) (a b : Addr) : Heap := (zB h a b).push { cls := .type "tuple", data := .seq #[.ref h.objs.size, .ref (zA h a).objs.size] }
abbrev zD (h : Heap) (a b : Addr) : Heap := (zC h a b).push { cls := .type "tuple", data := .seq #[.none, .none] }
abbrev zE (h : Heap) (a b : Addr) : Heap := (zD h a b).push { cls := .type "zip", data := .fields #[.none, .bool false, .bool false, .ref (zB h a b).objs.size, .ref (zC h a b).objs.size] }
theorem zip_new (a b : Addr) (xs ys : Array Value) : Meets (Builtin.«zip.__new__» ⟨[.type "zip", .ref a, .ref b], []⟩) (fun _ R s => s.heap.IsTuple a xs /\ s.heap.IsTuple b ys ∧
  R (.ok (.ret (.ref (zD s.heap a b).objs.size))) { s with heap := zE s.heap a b }) :=
 .of_wp fun prog w A R s h => by
  obtain ⟨hp, g, d, tk, os⟩ := s; obtain ⟨l1, l2, h⟩ := h
  have zsub := sub_zip
  have L1 : Heap.IsTuple (Shared.heap ⟨hp, g, d, tk, os⟩) a xs := l1
  have L2 : Heap.IsTuple (Shared.heap ⟨hp.push { cls := .type "tuple_iterator", data := .fields #[.ref a, .int 0 0] }, g, d, tk, os⟩) b ys := Heap.IsTuple.push l2 _
  wp_walk using wpAny_pyIter_tuple L1, wpAny_pyIter_tuple L2
  exact ⟨_, rfl, h⟩
theorem five_new (n : Nat) : Five (n + 4) (n + 2) (n + 3) n (n + 1) := by constructor <;> (intro q; have : (_ : Nat) = _ := q; omega)
def iZip (K : Fg) (ta : TA) : TI := fun σ H R => ta σ H fun vs H1 => ∃ a b, vs = [.ref a, .ref b] /\ (∃ xs, SqT K H1 a xs) /\ (∃ ys, SqT K H1 b ys) /\ R (Itz K a b) H1
theorem pi_zip {X : Cx} {elts : List Expr} {x1} {tp p pos : Pos} {a b : Expr} {ta : TA} (hg : Gl X "zip") (hm : X.mg "zip" = none) (ha : PA X [a, b] ta) (hs : starEach [a, b] X.env = [(false, eval a X.env), (false, eval b X.env)] := by rfl) (hs2 : starEach [b] X.env = [(false, eval b X.env)] := by rfl) :
  PI X (.Tuple elts x1 tp) (.Call (.Name "zip" p) [a, b] [] pos) (iZip X.K ta) := by
 intro pins s σ H R I h
 refine Call_ (ld_blt I hg hm (show bootBuiltins "zip" = some (.type "zip") by kernel_rfl) (PyProof.Rows.callWith_type1 (thn (ha pos pins s σ H _ I h) fun us s1 ⟨vs, H1, I1, r1, q1⟩ => ?_) (by rw [hs, hs2]) (by rw [hs2]; rfl)))
 obtain ⟨a, b, e, ⟨xs, hx⟩, ⟨ys, hy⟩, q⟩ := q1
 subst e
 obtain ⟨u, v, rfl, ru, rv⟩ := vals2 r1
 cases ru; cases rv
 obtain ⟨its, _, p1, _⟩ := I1.tuple hx
 obtain ⟨jts, _, p2, _⟩ := I1.tuple hy
 refine callType_new F.called_zip (by decide) (F.typeCall_zip_2 _ _) (F.newCall_zip_2 _ _) (fun obj => F.args_object_init_3 obj _ _) F.entry_zip_new (zip_new a b its.toArray jts.toArray) ⟨p1, p2, ?_⟩
 have e1 : (zA s1.heap a).objs.size = s1.heap.objs.size + 1 := Heap.size_push ..
 have e2 : (zB s1.heap a b).objs.size = s1.heap.objs.size + 2 := by rw [Heap.size_push, e1]
 have e3 : (zC s1.heap a b).objs.size = s1.heap.objs.size + 3 := by rw [Heap.size_push, e2]
 have e4 : (zD s1.heap a b).objs.size = s1.heap.objs.size + 4 := by rw [Heap.size_push, e3]
 have g5 : (zE s1.heap a b).get? (zD s1.heap a b).objs.size = some _ := Heap.get?_push_size _ rfl
 have g4 : (zE s1.heap a b).get? (zC s1.heap a b).objs.size = some _ := Heap.get?_push_of_some _ (Heap.get?_push_size _ rfl)
 have g3 : (zE s1.heap a b).get? (zB s1.heap a b).objs.size = some _ := Heap.get?_push_of_some _ (Heap.get?_push_of_some _ (Heap.get?_push_size _ rfl))
 have g2 : (zE s1.heap a b).get? (zA s1.heap a).objs.size = some _ := Heap.get?_push_of_some _ (Heap.get?_push_of_some _ (Heap.get?_push_of_some _ (Heap.get?_push_size _ rfl)))
 have g1 : (zE s1.heap a b).get? s1.heap.objs.size = some _ := Heap.get?_push_of_some _ (Heap.get?_push_of_some _ (Heap.get?_push_of_some _ (Heap.get?_push_of_some _ (Heap.get?_push_size _ rfl))))
 have kk : ∀ c o, s1.heap.get? c = some o -> (zE s1.heap a b).get? c = some o := fun c o x => Heap.get?_push_of_some _ (Heap.get?_push_of_some _ (Heap.get?_push_of_some _ (Heap.get?_push_of_some _ (Heap.get?_push_of_some _ x))))
 show _ /\ _
 rw [e2, e3, e4] at g5
 rw [e1, e2] at g3
 rw [e3] at g4
 rw [e1] at g2
 rw [e4]
 generalize zE s1.heap a b = hE at g1 g2 g3 g4 g5 kk
 refine ⟨⟨_, g5, rfl⟩, wpAny_pyIter_zip g5 ?_⟩
 have I2 : Inv X pins σ H1 { s1 with heap := hE } := I1.kept (t' := s1.toks) kk
 refine ⟨_, _, _, _, H1, rfl, I2, turn_zip (five_new s1.heap.objs.size), ⟨g5, g3, ⟨_, _, g4⟩, ⟨_, g1, rfl, rfl⟩, ⟨_, g2, rfl, rfl⟩⟩, fun c hc => ?_, q⟩
 have le : s1.heap.objs.size ≤ c := by
  simp only [List.mem_cons, List.not_mem_nil, or_false] at hc
  rcases hc with h | h | h | h | h <;> (rw [h]; first | exact Nat.le_refl _ | exact Nat.le_add_right _ _)
 exact I1.fpOk le (I1.hok.fresh le)
theorem sqL_off {X : Cx} {pins : PLs} {σ : L2.St} {H : Hp} {s : Shared} {a b : Addr} {xs : List V} (I : Inv X pins σ H s) (h : SqL X.K H a xs) (f : FpOk X pins H b) : a ≠ b := fun z => by
 subst z
 rcases h with (h | ⟨o, h⟩) | ⟨o, its, n, hk, _⟩
 ·rw [f.1] at h; cases h
 ·rw [f.1] at h; cases h
 ·have e := I.ok.mod.kin a o hk
  rcases f.2.2.2.1 with z | z
  ·exact I.ok.noex a o e z
  ·rw [(I.ok.bs a o e).1] at z; cases z
theorem lstIter_at {h h' : Heap} {i a : Addr} {n : Nat} (x : h.IsListIter i a n) (k : ∀ o, h.get? i = some o -> h'.get? i = some o) : h'.IsListIter i a n := x.at k
def IteT (K : Fg) (a : Addr) : It :=
 ⟨fun i H => ∃ xs x, SqT K H a xs /\ xs[i]? = some x,
  fun i H v H' => ∃ p x, H p = none /\ v = .ref p /\ H' = upd H p (.tup [.int i, x]) /\ ∀ xs, SqT K H a xs -> xs[i]? = some x,
  fun i H => ∃ xs, SqT K H a xs /\ xs.length ≤ i⟩
def iEnT (K : Fg) (ta : TA) : TI := fun σ H R => ta σ H fun vs H1 => ∃ a, vs = [.ref a] /\ (∃ xs, SqT K H1 a xs) /\ R (IteT K a) H1
def IteL (K : Fg) (a : Addr) : It :=
 ⟨fun i H => ∃ xs x, SqL K H a xs /\ xs[i]? = some x,
  fun i H v H' => ∃ p x, H p = none /\ v = .ref p /\ H' = upd H p (.tup [.int i, x]) /\ ∀ xs, SqL K H a xs -> xs[i]? = some x,
  fun i H => ∃ xs, SqL K H a xs /\ xs.length ≤ i⟩
def iEnL (K : Fg) (ta : TA) : TI := fun σ H R => ta σ H fun vs H1 => ∃ a, vs = [.ref a] /\ (∃ xs, SqL K H1 a xs) /\ R (IteL K a) H1
section
variable {prog : Program} {w : World} {A : Around} {E : VSP}
theorem draw_lst {j l : Addr} {its : Array Value} (ne : l ≠ j) : ∀ (m i : Nat) (s : Shared) (G : List Value -> Shared -> Prop), s.heap.IsListIter j l i -> s.heap.IsList l its -> i + m ≤ its.size →
  (∀ h', h'.IsListIter j l (i + m) -> Heap.SameBut j s.heap h' -> G ((its.toList.drop i).take m) { s with heap := h' }) -> wpAny (model prog w) A (draw (.ref j) m) G E s
 | 0, i, s, G, a, _, _, g => by
  have z := g s.heap a (Heap.SameBut.refl ..)
  rw [List.take_zero] at z
  exact wpAny_pure z
 | m + 1, i, s, G, a, b, le, g => by
  have lt : i < its.size := by omega
  show wpAny (model prog w) _ (pyNext (.ref j) >>= _) G E s
  refine wpAny_bind (wpAny_pyNext_list_item a b (x := its[i]) (by simp [lt]) fun h1 a1 s1 => ?_)
  refine wpAny_bind (wpAny_holding (draw_lst ne m (i + 1) _ _ a1 (b.extBut s1.extBut ne) (by omega) fun h2 a2 s2 => wpAny_pure ?_))
  have z := g h2 (by rw [show i + (m + 1) = i + 1 + m by omega]; exact a2) (s1.trans s2)
  have d : its.toList.drop i = its[i] :: its.toList.drop (i + 1) := by simp [List.drop_eq_getElem_cons, lt]
  rw [d, List.take_succ_cons] at z
  exact z
theorem unpack_lst {s : Shared} {l : Addr} {its : Array Value} {tg : List (Bool × (Value -> Sem Unit))} {G : Unit -> Shared -> Prop} (hh : A.handled = none) (b : s.heap.IsList l its) (n : tg.length = its.size) (st : tg.findIdx? (·.1) = none)
  (g : ∀ h', Heap.ExtBut s.heap.objs.size s.heap h' -> wpAny (model prog w) A (assignInOrder (tg.map (·.2)) its.toList) G E { s with heap := h' }) : wpAny (model prog w) A (unpack (.ref l) tg) G E s := by
 have lt : l ≠ s.heap.objs.size := by obtain ⟨o, e, _⟩ := b; exact Nat.ne_of_lt (Heap.lt_size e)
 unfold unpack
 rw [n, st]
 refine wpAny_bind (wpAny_holding ?_)
 unfold unpackItems
 refine wpAny_bind ?_
 unfold notIterableAtAll
 refine wpAny_bind (wpAny_specialOf b.typeIs F.slot_list_iter.lookup ?_)
 refine wpAny_pure ?_
 simp only [if_false, Bool.false_eq_true]
 refine wpAny_bind (wpAny_holding (wpAny_pyIter_list b ?_))
 refine wpAny_bind (wpAny_holding (draw_lst lt its.size 0 _ _ ⟨_, Heap.get?_push_size _ rfl, rfl, rfl⟩ (b.push _) (by omega) fun h1 a1 s1 => ?_))
 have all : List.take its.size (List.drop 0 its.toList) = its.toList := by rw [List.drop_zero]; exact List.take_of_length_le (by simp)
 rw [all, if_neg (by simp)]
 refine wpAny_bind (wpAny_holding (wpAny_pyNext_list_end hh a1 ((b.push _).extBut s1.extBut lt) (by simp) fun h2 e2 => ?_))
 simp only [if_false, Option.isSome_none, Bool.false_eq_true]
 exact wpAny_pure (g h2 fun c o hc e => e2 c o hc (s1.extBut c o hc (Heap.get?_push_of_some _ e)))
end
def gLst (K : Fg) (n : Nat) (t : TGs) : TG := fun v σ H Q => ∃ a xs, v = .ref a /\ SqL K H a xs /\ xs.length = n /\ t xs σ H Q
theorem pg_lst {X : Cx} {es : List Expr} {k : Nat} {t : TGs} {n : Nat} {pos : Pos} (hc : X.calm = true) (h : PGs X es t)
  (hn : (assignEach es X.env).length = n := by rfl) (hst : (assignEach es X.env).findIdx? (·.1) = none := by rfl) : PG X (.Tuple es k pos) (gLst X.K n t) := by
 intro pins s σ H v u Q I r q
 obtain ⟨a, xs, e1, hq, hl, q⟩ := q
 subst e1
 cases r
 obtain ⟨its, rv, p, _⟩ := I.list hq
 rw [assign_Tuple]
 refine wpAny_bind (wpAny_standAt (unpack_lst (I.ok.hd hc) p.isList (by simp [hn, ← hl, rv.length]) hst fun h' hx => ?_))
 have I1 : Inv X pins σ H { s with heap := h' } := I.kept (t' := s.toks) fun b o e => hx b o (Nat.ne_of_lt (Heap.lt_size e)) e
 exact h pins _ σ H xs _ Q I1 (by simpa using rv) q
section
variable {prog : Program} {w : World} {A : Around} {E : VSP} {s : Shared}
end
def rSlW (K : Fg) : V -> Option Int -> Option Int -> Hp -> VK -> Prop := fun x lo hi H Q => ∃ a xs, x = .ref a /\ SqT K H a xs /\ HT.sIx xs.length 0 lo = 0 /\ HT.sIx xs.length xs.length hi = xs.length /\ Q (.ref a) H
end B
namespace B
theorem mkR_eq {a b c d : Int} (hb : 0 < b) (hd : 0 < d) (e : a * d = c * b) : mkR a b = mkR c d := by
 have hr := mkR_red (a := c) hd
 have hc := mkR_cross (a := c) hd
 generalize mkR c d = m at hr hc ⊢
 refine mkR_uniq hb hr.pos hr.cop ?_
 refine Int.eq_of_mul_eq_mul_right (show d ≠ 0 by omega) ?_
 have e1 : m.1 * b * d = m.1 * d * b := by ac_rfl
 have e2 : a * m.2 * d = a * d * m.2 := by ac_rfl
 rw [e1, hc, e2, e]
 ac_rfl
structure Bq (D N : Nat) (r : R) : Prop where
 pos : 0 < r.2
 cop : Int.gcd r.1 r.2 = 1
 dvd : r.2 ∣ (D : Int)
 le : r.1.natAbs ≤ N * r.2.natAbs
theorem Bq.red {D N : Nat} {r : R} (h : Bq D N r) : Red r := ⟨h.pos, h.cop⟩
theorem bq_mk {D N : Nat} {a b : Int} (hb : 0 < b) (hd : b ∣ (D : Int)) (hl : a.natAbs ≤ N * b.natAbs) : Bq D N (mkR a b) := by
 obtain ⟨g, x, y, e0, gp, e1, e2, c⟩ := gcd_parts (a := a) hb
 have yp := pos_of hb gp e2
 have e : mkR a b = (x, y) := by
  unfold mkR
  rw [e0, show a / g = x by rw [e1]; exact Int.mul_ediv_cancel_left _ (by omega), show b / g = y by rw [e2]; exact Int.mul_ediv_cancel_left _ (by omega)]
 rw [e]
 refine ⟨yp, c, Int.dvd_trans ⟨g, by rw [e2, Int.mul_comm]⟩ hd, ?_⟩
 rw [e1, e2, Int.natAbs_mul, Int.natAbs_mul] at hl
 have gn : 0 < g.natAbs := by omega
 refine Nat.le_of_mul_le_mul_left (c := g.natAbs) ?_ gn
 show g.natAbs * x.natAbs ≤ g.natAbs * (N * y.natAbs)
 rw [Nat.mul_left_comm]
 exact hl
theorem Bq.mono {D N D' N' : Nat} {r : R} (h : Bq D N r) (hd : D ∣ D') (hn : N ≤ N') : Bq D' N' r :=
 ⟨h.pos, h.cop, Int.dvd_trans h.dvd (Int.ofNat_dvd.mpr hd), Nat.le_trans h.le (Nat.mul_le_mul_right _ hn)⟩
theorem Bq.plus {D N M : Nat} {r q : R} (hD : 0 < D) (h : Bq D N r) (k : Bq D M q) : Bq D (N + M) (plusR r q) := by
 obtain ⟨y, ey⟩ := h.dvd
 obtain ⟨v, ev⟩ := k.dvd
 have dp : (0 : Int) < (D : Int) := by omega
 have e : plusR r q = mkR (r.1 * y + q.1 * v) (D : Int) := by
  unfold plusR
  refine mkR_eq (Int.mul_pos h.pos k.pos) dp ?_
  rw [Int.add_mul, Int.add_mul]
  have a1 : r.1 * q.2 * (D : Int) = r.1 * y * (r.2 * q.2) := by rw [ey]; ac_rfl
  have a2 : q.1 * r.2 * (D : Int) = q.1 * v * (r.2 * q.2) := by rw [ev]; ac_rfl
  rw [a1, a2]
 rw [e]
 refine bq_mk dp (Int.dvd_refl _) ?_
 have b1 : (r.1 * y).natAbs ≤ N * D := by
  have : (D : Int).natAbs = r.2.natAbs * y.natAbs := by rw [ey, Int.natAbs_mul]
  rw [Int.natAbs_mul]
  have z := Nat.mul_le_mul_right y.natAbs h.le
  rw [Nat.mul_assoc, ← this] at z
  simpa using z
 have b2 : (q.1 * v).natAbs ≤ M * D := by
  have : (D : Int).natAbs = q.2.natAbs * v.natAbs := by rw [ev, Int.natAbs_mul]
  rw [Int.natAbs_mul]
  have z := Nat.mul_le_mul_right v.natAbs k.le
  rw [Nat.mul_assoc, ← this] at z
  simpa using z
 have b3 := Int.natAbs_add_le (r.1 * y) (q.1 * v)
 have b4 : (D : Int).natAbs = D := Int.natAbs_natCast D
 rw [b4, Nat.add_mul]
 omega
theorem Bq.neg {D N : Nat} {r : R} (h : Bq D N r) : Bq D N (-r.1, r.2) := ⟨h.pos, by show Int.gcd (-r.1) r.2 = 1; rw [Int.neg_gcd]; exact h.cop, h.dvd, by show (-r.1).natAbs ≤ _; rw [Int.natAbs_neg]; exact h.le⟩
theorem Bq.minus {D N M : Nat} {r q : R} (hD : 0 < D) (h : Bq D N r) (k : Bq D M q) : Bq D (N + M) (minusR r q) := by
 rw [← minus_eq]
 exact h.plus hD k.neg
theorem Bq.times {D N E M : Nat} {r q : R} (h : Bq D N r) (k : Bq E M q) : Bq (D * E) (N * M) (timesR r q) := by
 refine bq_mk (Int.mul_pos h.pos k.pos) ?_ ?_
 ·rw [Int.natCast_mul]; exact Int.mul_dvd_mul h.dvd k.dvd
 ·rw [Int.natAbs_mul, Int.natAbs_mul]
  have z := Nat.mul_le_mul h.le k.le
  calc r.1.natAbs * q.1.natAbs ≤ N * r.2.natAbs * (M * q.2.natAbs) := z
   _ = N * M * (r.2.natAbs * q.2.natAbs) := by ac_rfl
theorem mkR_pos {a b : Int} (ha : 0 < a) (hb : 0 < b) : 0 < (mkR a b).1 := Int.ediv_pos_of_pos_of_dvd ha (Int.le_of_lt (gcd_posR hb)) (Int.gcd_dvd_left a b)
theorem Bq.bot {D N : Nat} {r : R} (hD : 0 < D) (h : Bq D N r) : r.2.natAbs ≤ D := by
 have := Int.natAbs_dvd_natAbs.mpr h.dvd
 rw [Int.natAbs_natCast] at this
 exact Nat.le_of_dvd hD this
theorem Bq.wf {D N n : Nat} {r : R} (h : Bq D N r) (hD : 0 < D) (h1 : D < 2 ^ n) (h2 : N * D < 2 ^ n) : Wf n r :=
 ⟨h.pos, Nat.lt_of_le_of_lt (Nat.le_trans h.le (Nat.mul_le_mul_left _ (h.bot hD))) h2, Nat.lt_of_le_of_lt (h.bot hD) h1, h.cop⟩
theorem less_iff {r q : R} : lessR r q = true ↔ r.1 * q.2 < q.1 * r.2 := by unfold lessR; exact decide_eq_true_iff
theorem less_not {r q : R} : lessR r q = false ↔ q.1 * r.2 ≤ r.1 * q.2 := by unfold lessR; rw [decide_eq_false_iff_not, Int.not_lt]
theorem lt_le {a b c : R} (pa : 0 < a.2) (pb : 0 < b.2) (pc : 0 < c.2) (h : lessR a b = true) (k : lessR c b = false) : lessR a c = true := by
 rw [less_iff] at h ⊢
 rw [less_not] at k
 have h1 := Int.mul_lt_mul_of_pos_right h pc
 have k1 := Int.mul_le_mul_of_nonneg_right k (Int.le_of_lt pa)
 have e1 : b.1 * a.2 * c.2 = b.1 * c.2 * a.2 := by ac_rfl
 have z : a.1 * b.2 * c.2 < c.1 * b.2 * a.2 := by omega
 refine Int.lt_of_mul_lt_mul_right (a := b.2) ?_ (Int.le_of_lt pb)
 have e2 : a.1 * c.2 * b.2 = a.1 * b.2 * c.2 := by ac_rfl
 have e3 : c.1 * a.2 * b.2 = c.1 * b.2 * a.2 := by ac_rfl
 omega
theorem le_lt {a b c : R} (pa : 0 < a.2) (pb : 0 < b.2) (pc : 0 < c.2) (h : lessR b a = false) (k : lessR b c = true) : lessR a c = true := by
 rw [less_iff] at k ⊢
 rw [less_not] at h
 have h1 := Int.mul_le_mul_of_nonneg_right h (Int.le_of_lt pc)
 have k1 := Int.mul_lt_mul_of_pos_right k pa
 have e1 : b.1 * a.2 * c.2 = b.1 * c.2 * a.2 := by ac_rfl
 refine Int.lt_of_mul_lt_mul_right (a := b.2) ?_ (Int.le_of_lt pb)
 have e2 : a.1 * c.2 * b.2 = a.1 * b.2 * c.2 := by ac_rfl
 have e3 : c.1 * a.2 * b.2 = c.1 * b.2 * a.2 := by ac_rfl
 omega
theorem less_asym {a b : R} (h : lessR a b = true) : lessR b a = false := by
 rw [less_iff] at h
 rw [less_not]
 omega
theorem less_plus {r q : R} (hr : Red r) (hq : Red q) (h : 0 < q.1) : lessR r (plusR r q) = true := by
 rw [less_iff]
 have bp := Int.mul_pos hr.pos hq.pos
 have c := mkR_cross (a := r.1 * q.2 + q.1 * r.2) bp
 have p := (mkR_red (a := r.1 * q.2 + q.1 * r.2) bp).pos
 show r.1 * (mkR (r.1 * q.2 + q.1 * r.2) (r.2 * q.2)).2 < (mkR (r.1 * q.2 + q.1 * r.2) (r.2 * q.2)).1 * r.2
 generalize mkR (r.1 * q.2 + q.1 * r.2) (r.2 * q.2) = z at c p ⊢
 refine Int.lt_of_mul_lt_mul_right (a := r.2 * q.2) ?_ (Int.le_of_lt bp)
 have e1 : z.1 * r.2 * (r.2 * q.2) = z.1 * (r.2 * q.2) * r.2 := by ac_rfl
 rw [e1, c, Int.add_mul, Int.add_mul]
 have e2 : r.1 * q.2 * z.2 * r.2 = r.1 * z.2 * (r.2 * q.2) := by ac_rfl
 have e3 := Int.mul_pos (Int.mul_pos (Int.mul_pos h hr.pos) p) hr.pos
 omega
theorem minus_ne {r q : R} (hr : Red r) (hq : Red q) (h : lessR q r = true) : (minusR r q).1 ≠ 0 := fun z => by
 have bp := Int.mul_pos hr.pos hq.pos
 have c := mkR_cross (a := r.1 * q.2 - q.1 * r.2) bp
 have p := (mkR_red (a := r.1 * q.2 - q.1 * r.2) bp).pos
 rw [show (mkR (r.1 * q.2 - q.1 * r.2) (r.2 * q.2)).1 = 0 from z, Int.zero_mul] at c
 rw [less_iff] at h
 have := Int.mul_pos (show 0 < r.1 * q.2 - q.1 * r.2 by omega) p
 omega
end B
namespace B
open PySem PySem.Spec L2 PyProof.Rows
inductive Rl where
 | pow (k : Int)
 | tab (rows : List (R × R))
def rowD : R × R := ((0, 1), (0, 1))
def slopeR (lo hi : R × R) : R := overR (minusR hi.2 lo.2) (minusR hi.1 lo.1)
def slp (rows : List (R × R)) (k : Nat) : R := slopeR (rows.getD k rowD) (rows.getD (k + 1) rowD)
def pOf (rows : List (R × R)) (s : R) : Nat := rows.countP fun r => lessR r.1 s
def qOf (rows : List (R × R)) (s : R) : Nat := rows.countP fun r => !lessR s r.1
def leftT (rows : List (R × R)) (s : R) : R := if pOf rows s = 0 then (0, 1) else slp rows (pOf rows s - 1)
def rightT (rows : List (R × R)) (s : R) : Option R := if qOf rows s < rows.length then some (slp rows (qOf rows s - 1)) else none
def powS (k : Int) (s : R) : R := timesR (k, 1) (powR s (k - 1).toNat)
def sidesOf : Rl -> R -> R × Option R
 | .pow k, s => (powS k s, some (powS k s))
 | .tab rows, s => (leftT rows s, rightT rows s)
def Inc (rows : List (R × R)) : Prop := rows.Pairwise fun a b => lessR a.1 b.1 = true
def AllP (rows : List (R × R)) : Prop := ∀ r ∈ rows, 0 < r.1.2
theorem cnt_p {s : R} (hs : 0 < s.2) : ∀ {rows : List (R × R)}, Inc rows -> AllP rows -> ∀ {k : Nat} {r : R × R}, rows[k]? = some r -> lessR r.1 s = decide (k < pOf rows s)
 | [], _, _, k, r, e => by simp at e
 | x :: t, hi, hp, k, r, e => by
  have hi' := List.pairwise_cons.mp hi
  have hpt : AllP t := fun y hy => hp y (List.mem_cons_of_mem _ hy)
  unfold pOf
  cases c : lessR x.1 s with
  | true =>
   rw [List.countP_cons_of_pos (p := fun r : R × R => lessR r.1 s) c]
   cases k with
   | zero =>
    simp at e
    rw [← e, c]
    simp
   | succ k =>
    rw [cnt_p hs hi'.2 hpt (k := k) (by simpa using e)]
    unfold pOf
    simp
  | false =>
   have z : t.countP (fun r => lessR r.1 s) = 0 := by
    rw [List.countP_eq_zero]
    intro y hy
    have h1 := hi'.1 y hy
    have h2 : lessR s y.1 = true := le_lt hs (hp x List.mem_cons_self) (hpt y hy) c h1
    rw [less_asym h2]
    simp
   rw [List.countP_cons_of_neg (by rw [c]; simp), z]
   cases k with
   | zero => simp at e; rw [← e, c]; simp
   | succ k =>
    have my : r ∈ t := List.mem_of_getElem? (i := k) (by simpa using e)
    have := (List.countP_eq_zero.mp z) r my
    simp at this
    rw [this]; simp
abbrev D0 : Nat := 5822723907000000000
abbrev N0 : Nat := 1000000007
abbrev N1 : Nat := 17179869184
abbrev NR : Nat := 11000000077
abbrev N2 : Nat := 1180591620717411303424
structure RowsOk (rows : List (R × R)) : Prop where
 n2 : 2 ≤ rows.length
 n12 : rows.length ≤ 12
 inc : Inc rows
 zero : ∃ y, rows[0]? = some ((0, 1), y)
 sp : ∀ r ∈ rows, Bq D0 NR r.1
 pw : ∀ r ∈ rows, Bq (D0 * D0) N2 r.2
def RlOk : Rl -> Prop
 | .pow k => 2 ≤ k /\ k ≤ 4
 | .tab rows => RowsOk rows
structure SpOk (s : R) : Prop where
 bq : Bq (D0 * 2) N1 s
 nn : 0 ≤ s.1
def Below : Rl -> R -> Prop
 | .pow _, _ => True
 | .tab rows, s => ∃ r, rows[rows.length - 1]? = some r /\ lessR r.1 s = false
theorem dpos : 0 < D0 := by decide
theorem wfS {r : R} (h : Bq D0 NR r) : Wf 98 r := h.wf (by decide) (by decide) (by decide)
theorem wfP {r : R} (h : Bq (D0 * D0) N2 r) : Wf 197 r := h.wf (by decide) (by decide) (by decide)
theorem RowsOk.allP {rows : List (R × R)} (h : RowsOk rows) : AllP rows := fun r hr => (h.sp r hr).pos
theorem RowsOk.slope {rows : List (R × R)} (h : RowsOk rows) {i j : Nat} {a b : R × R} (hij : i < j) (ha : rows[i]? = some a) (hb : rows[j]? = some b) :
  (minusR b.1 a.1).1 ≠ 0 /\ Wf 99 (minusR b.1 a.1) /\ Wf 198 (minusR b.2 a.2) /\ Wf 300 (slopeR a b) := by
 have ma := List.mem_of_getElem? ha
 have mb := List.mem_of_getElem? hb
 have lt : lessR a.1 b.1 = true := by
  obtain ⟨h1, e1⟩ := List.getElem?_eq_some_iff.mp ha
  obtain ⟨h2, e2⟩ := List.getElem?_eq_some_iff.mp hb
  have := List.pairwise_iff_getElem.mp h.inc i j h1 h2 hij
  rw [e1, e2] at this
  exact this
 have ne := minus_ne (h.sp b mb).red (h.sp a ma).red lt
 have w1 : Wf 99 (minusR b.1 a.1) := ((h.sp b mb).minus (by decide) (h.sp a ma)).wf (by decide) (by decide) (by decide)
 have w2 : Wf 198 (minusR b.2 a.2) := ((h.pw b mb).minus (by decide) (h.pw a ma)).wf (by decide) (by decide) (by decide)
 exact ⟨ne, w1, w2, (over_wf w2 w1 ne).mono (by decide)⟩
theorem getD_at {rows : List (R × R)} {k : Nat} {a : R × R} (h : rows[k]? = some a) : rows.getD k rowD = a := by rw [List.getD_eq_getElem?_getD, h]; rfl
theorem RowsOk.p_lt {rows : List (R × R)} (h : RowsOk rows) {s : R} (hs : 0 < s.2) (hb : Below (.tab rows) s) : pOf rows s < rows.length := by
 obtain ⟨r, e, c⟩ := hb
 have := cnt_p hs h.inc h.allP e
 rw [c] at this
 have z := of_decide_eq_false this.symm
 have := h.n2
 omega
def lAt (rows : List (R × R)) (s : R) (i : Nat) : R := if 0 < pOf rows s /\ pOf rows s - 1 < i then slp rows (pOf rows s - 1) else (0, 1)
def rAt (rows : List (R × R)) (s : R) (i : Nat) : Option R := if 0 < qOf rows s /\ qOf rows s - 1 < i then some (slp rows (qOf rows s - 1)) else none
def powAt (k : Int) (s : R) (j : Nat) : R := mkR (k * s.1 ^ j) (s.2 ^ j)
def bearM (l : R) (r : Option R) (g : R) : Bool := !lessR g l && (match r with | none => true | some x => !lessR x g)
end B
namespace B
def val (r : R) : Rat := (r.1 : Rat) / (r.2 : Rat)
theorem ne_cast {b : Int} (h : 0 < b) : (b : Rat) ≠ 0 := fun z => by
 have : b = 0 := Rat.intCast_inj.mp (by rw [z]; rfl)
 omega
theorem val_of {r : R} {a b : Int} (hr : 0 < r.2) (hb : (b : Rat) ≠ 0) (h : r.1 * b = a * r.2) : val r = (a : Rat) / (b : Rat) := by
 have h2 : (r.1 : Rat) * (b : Rat) = (a : Rat) * (r.2 : Rat) := by rw [← Rat.intCast_mul, ← Rat.intCast_mul, h]
 have h1 := ne_cast hr
 unfold val
 generalize (r.1 : Rat) = x at *
 generalize (r.2 : Rat) = y at *
 generalize (a : Rat) = u at *
 generalize (b : Rat) = v at *
 grind
theorem val_mk {a b : Int} (hb : 0 < b) : val (mkR a b) = (a : Rat) / (b : Rat) := val_of (mkR_red hb).pos (ne_cast hb) (mkR_cross hb)
theorem val_plus {r q : R} (hr : 0 < r.2) (hq : 0 < q.2) : val (plusR r q) = val r + val q := by
 unfold plusR
 rw [val_mk (Int.mul_pos hr hq)]
 have h1 := ne_cast hr
 have h2 := ne_cast hq
 unfold val
 rw [Rat.intCast_add, Rat.intCast_mul, Rat.intCast_mul, Rat.intCast_mul]
 generalize (r.1 : Rat) = x at *
 generalize (r.2 : Rat) = y at *
 generalize (q.1 : Rat) = u at *
 generalize (q.2 : Rat) = v at *
 grind
theorem val_minus {r q : R} (hr : 0 < r.2) (hq : 0 < q.2) : val (minusR r q) = val r - val q := by
 unfold minusR
 rw [val_mk (Int.mul_pos hr hq)]
 have h1 := ne_cast hr
 have h2 := ne_cast hq
 unfold val
 rw [Rat.intCast_sub, Rat.intCast_mul, Rat.intCast_mul, Rat.intCast_mul]
 generalize (r.1 : Rat) = x at *
 generalize (r.2 : Rat) = y at *
 generalize (q.1 : Rat) = u at *
 generalize (q.2 : Rat) = v at *
 grind
theorem val_times {r q : R} (hr : 0 < r.2) (hq : 0 < q.2) : val (timesR r q) = val r * val q := by
 unfold timesR
 rw [val_mk (Int.mul_pos hr hq)]
 have h1 := ne_cast hr
 have h2 := ne_cast hq
 unfold val
 rw [Rat.intCast_mul, Rat.intCast_mul]
 generalize (r.1 : Rat) = x at *
 generalize (r.2 : Rat) = y at *
 generalize (q.1 : Rat) = u at *
 generalize (q.2 : Rat) = v at *
 grind
theorem ne_cast0 {b : Int} (h : b ≠ 0) : (b : Rat) ≠ 0 := fun z => h (Rat.intCast_inj.mp (by rw [z]; rfl))
theorem val_over {r q : R} (hr : 0 < r.2) (hq : 0 < q.2) (h : q.1 ≠ 0) : val (overR r q) = val r / val q := by
 have hn : r.2 * q.1 ≠ 0 := Int.mul_ne_zero (by omega) h
 obtain ⟨hs, es⟩ := mkS_spec (a := r.1 * q.2) hn
 unfold overR
 rw [val_of hs.pos (ne_cast0 hn) es]
 have h1 := ne_cast hr
 have h2 := ne_cast hq
 have h3 := ne_cast0 h
 unfold val
 rw [Rat.intCast_mul, Rat.intCast_mul]
 generalize (r.1 : Rat) = x at *
 generalize (r.2 : Rat) = y at *
 generalize (q.1 : Rat) = u at *
 generalize (q.2 : Rat) = v at *
 grind
theorem val_inj {r q : R} (hr : Red r) (hq : Red q) (h : val r = val q) : r = q := by
 have h1 := ne_cast hr.pos
 have h2 := ne_cast hq.pos
 have e : r.1 * q.2 = q.1 * r.2 := by
  refine Rat.intCast_inj.mp ?_
  rw [Rat.intCast_mul, Rat.intCast_mul]
  unfold val at h
  generalize (r.1 : Rat) = x at *
  generalize (r.2 : Rat) = y at *
  generalize (q.1 : Rat) = u at *
  generalize (q.2 : Rat) = v at *
  grind
 have e1 : mkR r.1 r.2 = (r.1, r.2) := mkR_uniq hr.pos hr.pos hr.cop rfl
 have e2 : mkR r.1 r.2 = (q.1, q.2) := mkR_uniq hr.pos hq.pos hq.cop e.symm
 exact e1.symm.trans e2
theorem val_zero {r : R} (hr : 0 < r.2) : val r = 0 ↔ r.1 = 0 := by
 have h1 := ne_cast hr
 unfold val
 constructor
 ·intro h
  refine Rat.intCast_inj.mp ?_
  show (r.1 : Rat) = ((0 : Int) : Rat)
  rw [show ((0 : Int) : Rat) = 0 from rfl]
  generalize (r.1 : Rat) = x at *
  generalize (r.2 : Rat) = y at *
  grind
 ·intro h
  rw [h]
  show ((0 : Int) : Rat) / _ = 0
  rw [show ((0 : Int) : Rat) = 0 from rfl]
  generalize (r.2 : Rat) = y at *
  grind
theorem over_red {r q : R} (hr : 0 < r.2) (h : q.1 ≠ 0) : Red (overR r q) := (mkS_spec (a := r.1 * q.2) (Int.mul_ne_zero (by omega) h)).1
theorem minus_red {r q : R} (hr : 0 < r.2) (hq : 0 < q.2) : Red (minusR r q) := mkR_red (Int.mul_pos hr hq)
theorem line_end {a b : R × R} (a0 : Red a.1) (a1 : Red a.2) (b0 : Red b.1) (b1 : Red b.2) (h : (minusR b.1 a.1).1 ≠ 0) : plusR a.2 (timesR (slopeR a b) (minusR b.1 a.1)) = b.2 := by
 have m0 := minus_red b0.pos a0.pos
 have m1 := minus_red b1.pos a1.pos
 have so := over_red (r := minusR b.2 a.2) m1.pos h
 have st := times_red so m0
 refine val_inj (plus_red a1 st) b1 ?_
 unfold slopeR
 rw [val_plus a1.pos st.pos, val_times so.pos m0.pos, val_over m1.pos m0.pos h, val_minus b1.pos a1.pos]
 have hz : val (minusR b.1 a.1) ≠ 0 := fun z => h ((val_zero m0.pos).mp z)
 generalize val (minusR b.1 a.1) = d at *
 generalize val b.2 = x at *
 generalize val a.2 = y at *
 grind
theorem line_zero {a : R} {s x : R} (ha : Red a) (hs : Red s) (hx : Red x) : plusR a (timesR s (minusR x x)) = a := by
 have m0 := minus_red hx.pos hx.pos
 have st := times_red hs m0
 refine val_inj (plus_red ha st) ha ?_
 rw [val_plus ha.pos st.pos, val_times hs.pos m0.pos, val_minus hx.pos hx.pos]
 generalize val x = d at *
 generalize val s = u at *
 generalize val a = y at *
 grind
end B
namespace B
theorem cast_pos {b : Int} (h : 0 < b) : (0 : Rat) < (b : Rat) := by
 have := Rat.intCast_lt_intCast.mpr h
 exact this
theorem val_less {r q : R} (hr : 0 < r.2) (hq : 0 < q.2) : lessR r q = true ↔ val r < val q := by
 rw [less_iff, ← Rat.intCast_lt_intCast, Rat.intCast_mul, Rat.intCast_mul]
 have h1 := cast_pos hr
 have h2 := cast_pos hq
 have e1 : (r.1 : Rat) = val r * (r.2 : Rat) := by
  have := ne_cast hr
  unfold val
  generalize (r.1 : Rat) = x at *
  generalize (r.2 : Rat) = y at *
  grind
 have e2 : (q.1 : Rat) = val q * (q.2 : Rat) := by
  have := ne_cast hq
  unfold val
  generalize (q.1 : Rat) = x at *
  generalize (q.2 : Rat) = y at *
  grind
 rw [e1, e2]
 generalize val r = x at *
 generalize val q = y at *
 generalize (r.2 : Rat) = u at *
 generalize (q.2 : Rat) = v at *
 have c : 0 < u * v := Rat.mul_pos h1 h2
 constructor
 ·intro h
  have h' : x * (u * v) < y * (u * v) := by grind
  by_cases w : x < y
  ·exact w
  ·have z : y ≤ x := Rat.not_lt.mp w
   have := Rat.mul_le_mul_of_nonneg_right z (Rat.le_of_lt c)
   grind
 ·intro h
  have := Rat.mul_lt_mul_of_pos_right h c
  grind
theorem val_not {r q : R} (hr : 0 < r.2) (hq : 0 < q.2) : lessR r q = false ↔ val q ≤ val r := by
 have a := val_less hr hq
 cases c : lessR r q with
 | true =>
  have := a.mp c
  constructor
  ·intro z; cases z
  ·intro z; grind
 | false =>
  constructor
  ·intro _
   by_cases w : val r < val q
   ·rw [a.mpr w] at c; cases c
   ·exact Rat.not_lt.mp w
  ·intro _; rfl
end B
namespace B
open PySem PySem.Spec L2 PyProof.Rows
structure QE (X : Cx) (e : Expr) (t : TE) : Prop where
 p : PE X e t
structure QT (X : Cx) (e : Expr) (t : TT) : Prop where
 p : PT X e t
structure QW (X : Cx) (e : Expr) (t : TT) : Prop where
 p : PW X e t
structure QA (X : Cx) (es : List Expr) (t : TA) : Prop where
 p : PA X es t
structure QS (X : Cx) (st : Stmt) (t : TS) : Prop where
 p : PS X st t
structure QSs (X : Cx) (st : List Stmt) (t : TS) : Prop where
 p : PSs X st t
structure QI (X : Cx) (tg iter : Expr) (wi : TI) : Prop where
 p : PI X tg iter wi
structure QG (X : Cx) (target : Expr) (t : TG) : Prop where
 p : PG X target t
structure QGs (X : Cx) (ts : List Expr) (t : TGs) : Prop where
 p : PGs X ts t
theorem QSs.ok {X : Cx} {b : List Stmt} {t : TS} {D : Ends} {σ : L2.St} {H : Hp} (h : QSs X b t) (r : t D σ H) : ∃ t : TS, PSs X b t /\ t D σ H := ⟨t, h.p, r⟩
structure QO (X : Cx) (o : Option Expr) (t : L2.TO) : Prop where
 p : PO X o t
section
set_option autoImplicit true
set_option relaxedAutoImplicit true
theorem qv  (i : Nat) {x : Str} {pos : Pos} (hN : X.N[i]? = some x := by rfl) (hv : Vis X.env.scope x := by first | exact Or.inl rfl | exact Or.inr (Or.inl rfl) | exact Or.inr (Or.inr rfl)) (hd : (x == ("__debug__" : Str)) = false := by decide) (hcd : (x == ("__classdict__" : Str)) = false := by decide) : QE X (.Name x pos) (tVar i) := ⟨pv i hN hv hd hcd⟩
theorem qe_int  {i j pos} : QE X (.Constant (.int i) j pos) (tC (.int i)) := ⟨pe_int ⟩
theorem qe_bl  {b j pos} : QE X (.Constant (.bool b) j pos) (tC (.bl b)) := ⟨pe_bl ⟩
theorem qe_non  {j pos} : QE X (.Constant .none j pos) (tC .non) := ⟨pe_non ⟩
theorem qe_str  {x j pos} : QE X (.Constant (.str x) j pos) (tC (.str x)) := ⟨pe_str ⟩
theorem qe_glob  {x : Str} {v : V} {u : Value} {pos : Pos} (hg : Gl X x) (hm : X.mg x = some u) (r : RelV v u) (hd : (x == ("__debug__" : Str)) = false := by decide) : QE X (.Name x pos) (tC v) := ⟨pe_glob hg hm r hd⟩
theorem qe_un  {op : UnaryOp} {r : V -> Hp -> VK -> Prop} (ho : UnR X (unaryOp op) r) (ha : QE X a ta) : QE X (.UnaryOp op a pos) (tUn r ta) := ⟨pe_un ho ha.p⟩
theorem qe_op  {op : Operator} {r : R2} (ho : OpR X (binaryOp op) r) (ha : QE X a ta) (hb : QE X b tb) : QE X (.BinOp a op b pos) (tOp r ta tb) := ⟨pe_op ho ha.p hb.p⟩
theorem qe_cmpR  {op : CmpOp} {r : R2} (ho : OpR X (compareOp op) r) (ha : QE X a ta) (hb : QE X b tb) (hm : behindInMarks op b = false) : QE X (.Compare a [op] [b] pos) (tOp r ta tb) := ⟨pe_cmpR ho ha.p hb.p hm⟩
theorem qe_ifExp  {c : Expr} (hc : QT X c tA) (ha : QE X a ta) (hb : QE X b tb) : QE X (.IfExp c a b pos) (tIf tA ta tb) := ⟨pe_ifExp hc.p ha.p hb.p⟩
theorem qe_lst  (h : QA X es t) : QE X (.List es pos) (tLst t) := ⟨pe_lst h.p⟩
theorem qe_tup  {x1} (h : QA X es t) : QE X (.Tuple es x1 pos) (tTup t) := ⟨pe_tup h.p⟩
theorem qe_slice {lo hi : Option Expr} {r : V -> Option Int -> Option Int -> Hp -> VK -> Prop} (hr : SlR X r) (he : QE X e te) (hl : QO X lo tl) (hu : QO X hi th) : QE X (.Subscript e (.Slice lo hi none p2) pos) (tSl r te tl th) := ⟨pe_slice hr he.p hl.p hu.p⟩
theorem qo_none   : QO X none tNoPart := ⟨po_none ⟩
theorem qo_some  (h : QE X e te) : QO X (some e) (tPart te) := ⟨po_some h.p⟩
theorem qe_ix  {r : R2} (hr : IxR X r) (ha : QE X a ta) (hb : QE X b tb) (hs : PlainIx b) : QE X (.Subscript a b pos) (tOp r ta tb) := ⟨pe_ix hr ha.p hb.p hs⟩
theorem qe_call  (F : FnOk X.prog X.w X.K X.mg X.base CX k f fd ps sp) (hr : Room k X.A) (hg : Gl X x) (hm : X.mg x = some (.ref f)) (hk : PySem.W.keepIn X.K (.ref f) = true) (hb : Binds X.K fd ps ds) (hd : Vals dvs ds) (hx : Passes CX X E) (ha : QA X (e :: es) t) (hdb : (x == ("__debug__" : Str)) = false := by decide) (he : starEach (e :: es) X.env = (false, eval e X.env) :: starEach es X.env := by rfl) (hpl : (backTo pos (starEach es X.env)).any (·.1) = false := by rfl) : QE X (.Call (.Name x p) (e :: es) [] pos) (tCall sp dvs E t) := ⟨pe_call F hr hg hm hk hb hd hx ha.p hdb he hpl⟩
theorem qe_callB {id : String} (hc : CallR X (.builtin id) r) (hg : Gl X x) (hm : X.mg x = none) (hv : bootBuiltins x = some (.builtin id)) (ha : QA X (e :: es) t) (hn : x ≠ "__name__" := by decide) (hdb : (x == ("__debug__" : Str)) = false := by decide) (he : starEach (e :: es) X.env = (false, eval e X.env) :: starEach es X.env := by rfl) (hpl : (backTo pos (starEach es X.env)).any (·.1) = false := by rfl) : QE X (.Call (.Name x p) (e :: es) [] pos) (tCB r t) := ⟨pe_callB hc hg hm hv ha.p hn hdb he hpl⟩
theorem qe_callTy  (hc : CallR X (.type T) r) (hg : Gl X x) (hm : X.mg x = none) (hv : bootBuiltins x = some (.type T)) (ha : QA X (e :: es) t) (hn : x ≠ "__name__" := by decide) (hdb : (x == ("__debug__" : Str)) = false := by decide) (he : starEach (e :: es) X.env = (false, eval e X.env) :: starEach es X.env := by rfl) (hpl : (backTo pos (starEach es X.env)).any (·.1) = false := by rfl) : QE X (.Call (.Name x p) (e :: es) [] pos) (tCB r t) := ⟨pe_callTy hc hg hm hv ha.p hn hdb he hpl⟩
theorem qe_bm {id : String} (pa : PlainAttrs T) (slot : Slot T name id) (hty : typeOf (.builtin id) = pure (.type "method_descriptor")) (hm : MtR X id r) (ho : QE X o to) (ha : QA X (e :: es) t) (hbase : attributeBase o name X.env (eval o X.env) = eval o X.env := by rfl) (hfew : ((backTo cpos (starEach (e :: es) X.env)).all (fun x => !x.1) && (backToKw cpos (keywordEach [] X.env)).all (fun x => x.1.isSome)
   && decide ((e :: es).length + ([] : List Keyword).length + (if ([] : List Keyword).isEmpty then 0 else 1) < 30)) = true := by rfl) (hline : (apos.endLine == cpos.line) = true := by rfl) (hs : starEach (e :: es) X.env = (false, eval e X.env) :: starEach es X.env := by rfl) (hplain : (backTo cpos (starEach es X.env)).any (·.1) = false := by rfl) : QE X (.Call (.Attribute o name apos) (e :: es) [] cpos) (tBM X.K T r to t) := ⟨pe_bm pa slot hty hm ho.p ha.p hbase hfew hline hs hplain⟩
theorem qa_nil   : QA X [] tNil := ⟨pa_nil ⟩
theorem qa_cons  (ha : QE X e te) (hr : QA X es t) (hs : starEach (e :: es) X.env = (false, eval e X.env) :: starEach es X.env := by rfl) : QA X (e :: es) (tCons te t) := ⟨pa_cons ha.p hr.p hs⟩
theorem qt_cmpR  {op : CmpOp} {r : R2} (ho : OpR X (compareOp op) r) (ha : QE X a ta) (hb : QE X b tb) (hm : behindInMarks op b = false) : QT X (.Compare a [op] [b] pos) (tTest (tOp r ta tb)) := ⟨pt_cmpR ho ha.p hb.p hm⟩
theorem qt_val  {e : Expr} {t : TE} (h : QE X e t) (he : ∀ whole, isTrue e X.env whole = (do let v ← whole; standAt e.pos; holding [v] (truthy v)) := by intro _; rfl) : QT X e (tB t) := ⟨pt_val h.p he⟩
theorem qt_not  (ha : QT X a tA) : QT X (.UnaryOp .Not a pos) (tNot tA) := ⟨pt_not ha.p⟩
theorem qw_and {rest : List Expr} (ha : QT X a tA) (hb : QW X (.BoolOp .And (b :: rest) pos) tB') : QW X (.BoolOp .And (a :: b :: rest) pos) (tAnd tA tB') := ⟨pw_and ha.p hb.p⟩
theorem qw_and1  (ha : QT X a tA) : QW X (.BoolOp .And [a] pos) tA := ⟨pw_and1 ha.p⟩
theorem qw_pt  {X : Cx} {e : Expr} {t : TT} (h : QW X e t) : QT X e t := ⟨PW.pt h.p⟩
theorem qs_set  {i : Nat} {x : Str} {e : Expr} {te : TE} {pos' : Pos} (hN : X.N.Nodup) (hi : X.N[i]? = some x) (hx : Loc X.env.scope x) (he : QE X e te) (hs : swapsWith e (some (.Name x pos')) pos.line X.env = pure false := by rfl) (hf : X.fn x = true ∨ X.env.scope.names.lookup x = some .local := by first | exact .inl rfl | exact .inr rfl | assumption) : QS X (.Assign [.Name x pos'] e pos) (tAsg te (gName i)) := ⟨ps_set hN hi hx he.p hs hf⟩
theorem qs_par  {i j : Nat} {x y : Str} {a b : Expr} {ta : TA} {px py pt : Pos} {kt k2 pt2} (hc : X.calm = true) (hN : X.N.Nodup) (hi : X.N[i]? = some x) (hj : X.N[j]? = some y) (hij : i ≠ j) (hx : X.env.scope.names.lookup x = some .local) (hy : X.env.scope.names.lookup y = some .local) (ha : QA X [a, b] ta) (hw : swappedStores [.Tuple [.Name x px, .Name y py] kt pt] (.Tuple [a, b] k2 pt2) X.env = pure (some [x, y])) (hs : swapsWithSole [.Tuple [.Name x px, .Name y py] kt pt] (.Tuple [a, b] k2 pt2) pos.line X.env = pure false := by rfl) : QS X (.Assign [.Tuple [.Name x px, .Name y py] kt pt] (.Tuple [a, b] k2 pt2) pos) (tPar i j ta) := ⟨ps_par hc hN hi hj hij hx hy ha.p hw hs⟩
theorem qs_asg  {tg e : Expr} {te : TE} {g : TG} (he : QE X e te) (hg : QG X tg g) (hs : swapsWithSole [tg] e pos.line X.env = pure false := by rfl) (hw : swappedStores [tg] e X.env = pure none := by rfl) (h1 : (assignEach [tg] X.env).map (·.2) = [assign tg X.env] := by rfl) : QS X (.Assign [tg] e pos) (tAsg te g) := ⟨ps_asg he.p hg.p hs hw h1⟩
theorem qs_aug  {i : Nat} {x : Str} {e : Expr} {te : TE} {op : Operator} {ti : TIp} {pos' : Pos} (hN : X.N.Nodup) (hi : X.N[i]? = some x) (hx : Loc X.env.scope x) (he : QE X e te) (ho : PIp X op ti) (hf : X.fn x = true ∨ X.env.scope.names.lookup x = some .local := by first | exact .inl rfl | exact .inr rfl | assumption) : QS X (.AugAssign (.Name x pos') op e pos) (tAug i te ti) := ⟨ps_aug hN hi hx he.p ho hf⟩
theorem qs_if  {c : Expr} {a b : List Stmt} {tc : TT} (hc : QT X c tc) (ha : QSs X a t) (hb : QSs X b u) : QS X (.If c a b pos) (tIfS tc t u) := ⟨ps_if hc.p ha.p hb.p⟩
theorem qs_while  {c : Expr} {body : List Stmt} {tc : TT} {tb : TS} (hp : PassesOwn (model X.prog X.w) X.A X.env X.xe) (hc : QT X c tc) (hb : QSs X body tb) : QS X (.While c body [] pos) (tWhile tc tb) := ⟨ps_while hp hc.p hb.p⟩
theorem qs_for  {iter : Expr} {body : List Stmt} {wi : TI} {g : TG} {tb : TS} {pos : Pos} (hp : PassesOwn (model X.prog X.w) X.A X.env X.xe) (hc : X.calm = true) (hi : QI X tg iter wi) (hg : QG X tg g) (hb : QSs X body tb) (hs : ∀ x, foldedSetIterable iter X.env x = pure x := by intro _; rfl) : QS X (.For tg iter body [] pos) (tFor wi g tb) := ⟨ps_for hp hc hi.p hg.p hb.p hs⟩
theorem qs_ret  (he : QE X e te) : QS X (.Return (some e) pos) (tRet te) := ⟨ps_ret he.p⟩
theorem qs_expr  (he : QE X e te) (hs : swapsWith e none pos.line X.env = pure false := by rfl) : QS X (.Expr e pos) (tDrop te) := ⟨ps_expr he.p hs⟩
theorem qs_never {st : Stmt}  : QS X st tNever := ⟨ps_never ⟩
theorem qss_nil   : QSs X [] tNext := ⟨pss_nil ⟩
theorem qss_one {st : Stmt} (h1 : QS X st t) : QSs X [st] t := ⟨pss_one h1.p⟩
theorem qss_cons {st : Stmt} {rest : List Stmt} (h1 : QS X st t) (h2 : QSs X rest u) : QSs X (st :: rest) (tSeq t u) := ⟨pss_cons h1.p h2.p⟩
theorem qi_range1  {a : Expr} {ta : TA} {p pos : Pos} (hg : Gl X "range") (hm : X.mg "range" = none) (ha : QA X [a] ta) (hs : starEach [a] X.env = [(false, eval a X.env)] := by rfl) : QI X tg (.Call (.Name "range" p) [a] [] pos) (iRng1 ta) := ⟨pi_range1 hg hm ha.p hs⟩
theorem qi_list {tg : Expr} {l : Expr} {tl : TE} (hl : QE X l tl) : QI X tg l (iList X.K tl) := ⟨pi_list hl.p⟩
theorem qi_tup  {l : Expr} {tl : TE} (hl : QE X l tl) : QI X tg l (iTup X.K tl) := ⟨pi_tup hl.p⟩
theorem qg_name  {i : Nat} {x : Str} (hN : X.N.Nodup) (hi : X.N[i]? = some x) (hx : Loc X.env.scope x) (hf : X.fn x = true ∨ X.env.scope.names.lookup x = some .local := by first | exact .inl rfl | exact .inr rfl | assumption) : QG X (.Name x pos) (gName i) := ⟨pg_name hN hi hx hf⟩
theorem qg_tup  {es : List Expr} {k : Nat} {t : TGs} {n : Nat} (hc : X.calm = true) (h : QGs X es t) (hn : (assignEach es X.env).length = n := by rfl) (hst : (assignEach es X.env).findIdx? (·.1) = none := by rfl) : QG X (.Tuple es k pos) (gTup X.K n t) := ⟨pg_tup hc h.p hn hst⟩
theorem qg_sub  {o i : Expr} {to ti : TE} {t : TSet} (ho : QE X o to) (hi : QE X i ti) (hs : PSet X t) (ha : ∀ v, assign (.Subscript o i pos) X.env v = (do
   let ov ← holding [v] (eval o X.env)
   let iv ← holding [v, ov] (eval i X.env)
   standAt pos
   holding [v, ov, iv] (setItem ov iv v)
   release [v, ov, iv] []) := by intro _; rfl) : QG X (.Subscript o i pos) (gSub to ti t) := ⟨pg_sub ho.p hi.p hs ha⟩
theorem qgs_nil   : QGs X [] gNil := ⟨pgs_nil ⟩
theorem qgs_cons  {e : Expr} {es : List Expr} {t : TG} {u : TGs} (h1 : QG X e t) (h2 : QGs X es u) (hs : (assignEach (e :: es) X.env).map (·.2) = assign e X.env :: (assignEach es X.env).map (·.2) := by rfl) : QGs X (e :: es) (gCons t u) := ⟨pgs_cons h1.p h2.p hs⟩
end
structure QTs (X : Cx) (ifs : List Expr) (t : TT) : Prop where
 p : PTs X ifs t
section
set_option autoImplicit true
set_option relaxedAutoImplicit true
theorem qts_nil  {X : Cx} : QTs X [] tYes := ⟨pts_nil ⟩
theorem qts_one  {X : Cx} {c : Expr} {t : TT} (h : QT X c t) : QTs X [c] t := ⟨pts_one h.p⟩
theorem qe_lcomp  (hc : X.calm = true) (hi : QI X tg iter wi) (hg : ∀ C fp pins s H, QG (cxC X N' scope cl C fp pins s H) tg g) (ht : ∀ C fp pins s H, QTs (cxC X N' scope cl C fp pins s H) ifs tt) (he : ∀ C fp pins s H, QE (cxC X N' scope cl C fp pins s H) elt te) (hfree : FreeOk X scope cl N' src) (hclos : closureFor scope X.env = pure cl) (hcell : ∀ x ∈ scope.names, x.2 ≠ .cell) (hkind : scope.kind = .function) (hnames : ∀ x ∈ scope.names, x.2 = .local -> scope.names.lookup x.1 = some .local) (hcl : CellsOk X scope cl) (hs : ∀ x, foldedSetIterable iter X.env x = pure x := by intro _; rfl) : QE X (.ListComp elt [⟨tg, iter, ifs, 0⟩] scope pos) (tComp wi src g tt te) := ⟨pe_lcomp hc hi.p (fun z0 z1 z2 z3 z4 => (hg z0 z1 z2 z3 z4).p) (fun z0 z1 z2 z3 z4 => (ht z0 z1 z2 z3 z4).p) (fun z0 z1 z2 z3 z4 => (he z0 z1 z2 z3 z4).p) hfree hclos hcell hkind hnames hcl hs⟩
theorem qs_setC  {i : Nat} {x : Str} {pos' pos2 : Pos} (hN : X.N.Nodup) (hi' : X.N[i]? = some x) (hx : Loc X.env.scope x) (hc : X.calm = true) (hi : QI X tg iter wi) (hg : ∀ C fp pins s H, QG (cxC X N' scope cl C fp pins s H) tg g) (ht : ∀ C fp pins s H, QTs (cxC X N' scope cl C fp pins s H) ifs tt) (he : ∀ C fp pins s H, QE (cxC X N' scope cl C fp pins s H) elt te) (hfree : FreeOk X scope cl N' src) (hclos : closureFor scope X.env = pure cl) (hcell : ∀ x ∈ scope.names, x.2 ≠ .cell) (hkind : scope.kind = .function) (hnames : ∀ x ∈ scope.names, x.2 = .local -> scope.names.lookup x.1 = some .local) (hcl : CellsOk X scope cl) (hs : ∀ x, foldedSetIterable iter X.env x = pure x := by intro _; rfl) (hsw : swapsWith (.ListComp elt [⟨tg, iter, ifs, 0⟩] scope pos) (some (.Name x pos')) pos2.line X.env = pure true := by rfl) (hf : X.fn x = true ∨ X.env.scope.names.lookup x = some .local := by first | exact .inl rfl | exact .inr rfl | assumption) : QS X (.Assign [.Name x pos'] (.ListComp elt [⟨tg, iter, ifs, 0⟩] scope pos) pos2) (tAsg (tComp wi src g tt te) (gName i)) := ⟨ps_setC hN hi' hx hc hi.p (fun z0 z1 z2 z3 z4 => (hg z0 z1 z2 z3 z4).p) (fun z0 z1 z2 z3 z4 => (ht z0 z1 z2 z3 z4).p) (fun z0 z1 z2 z3 z4 => (he z0 z1 z2 z3 z4).p) hfree hclos hcell hkind hnames hcl hs hsw hf⟩
end
section
variable {X : Cx} {K : Fg}
theorem pg_tupK {es : List Expr} {k : Nat} {t : TGs} {n : Nat} {pos : Pos} (hK : X.K = K) (hc : X.calm = true) (h : PGs X es t)
  (hn : (assignEach es X.env).length = n := by rfl) (hst : (assignEach es X.env).findIdx? (·.1) = none := by rfl) : PG X (.Tuple es k pos) (gTup K n t) := hK ▸ pg_tup hc h hn hst
theorem ix_tupK (hK : X.K = K) : IxR X (rIxT K) := hK ▸ ix_tup
def rLen (K : Fg) : List V -> Hp -> VK -> Prop := fun xs H Q => ∃ p ys, xs = [.ref p] /\ (SqL K H p ys ∨ SqT K H p ys) /\ Q (.int ys.length) H
theorem call_lenK (hK : X.K = K) : CallR X (.builtin "len") (rLen K) := hK ▸ call_len_seq
end
theorem star_bin {a b : Expr} {op : Operator} {pos : Pos} {es : List Expr} {env : Env} : starEach (.BinOp a op b pos :: es) env = (false, eval (.BinOp a op b pos) env) :: starEach es env := rfl
theorem for_zip {K : Fg} {a b : Addr} {xs ys : List V} {n : Nat} {g : TG} {tb : TS} {D : Ends} {σ : L2.St} {H : Hp} (Pv : Nat -> L2.St -> Hp -> Prop) (h1 : n ≤ xs.length) (h2 : n ≤ ys.length) (h3 : xs.length ≤ n ∨ ys.length ≤ n) (h0 : Pv 0 σ H)
  (hl : ∀ i σ H, i ≤ n -> Pv i σ H -> SqT K H a xs /\ SqT K H b ys)
  (hs : ∀ i x y p σ H, i < n -> xs[i]? = some x -> ys[i]? = some y -> Pv i σ H -> H p = none -> g (.ref p) σ (upd H p (.tup [x, y])) fun σ2 H2 => tb { D with nx := Pv (i + 1), ct := Pv (i + 1), bk := D.nx } σ2 H2) (hd : ∀ σ H, Pv n σ H -> D.nx σ H) :
  ∃ W : Nat -> Nat -> L2.St -> Hp -> Prop, (∃ m, W 0 m σ H) /\ ∀ i m σ H, W i m σ H →
   ((Itz K a b).stop i H /\ D.nx σ H) ∨ ((Itz K a b).go i H /\ ∃ N : L2.St -> Hp -> Prop, (∀ σ' H', N σ' H' -> ∃ m', m' < m /\ W (i + 1) m' σ' H') /\ ∀ x H', (Itz K a b).yld i H x H' -> g x σ H' fun σ2 H2 => tb { D with nx := N, ct := N, bk := D.nx } σ2 H2) := by
 refine ⟨fun i m σ H => m = n - i /\ i ≤ n /\ Pv i σ H, ⟨n, by simp, Nat.zero_le _, h0⟩, ?_⟩
 rintro i m σ H ⟨rfl, hi, p⟩
 obtain ⟨q1, q2⟩ := hl i σ H hi p
 by_cases hlt : i < n
 ·have e1 : xs[i]? = some (xs[i]'(by omega)) := List.getElem?_eq_getElem _
  have e2 : ys[i]? = some (ys[i]'(by omega)) := List.getElem?_eq_getElem _
  refine .inr ⟨⟨xs, ys, _, _, q1, q2, e1, e2⟩, Pv (i + 1), fun σ' H' p' => ⟨n - (i + 1), by omega, rfl, hlt, p'⟩, fun x H' y => ?_⟩
  obtain ⟨pp, x0, y0, hp, rfl, rfl, y1, y2⟩ := y
  exact hs i x0 y0 pp σ _ hlt (y1 xs q1) (y2 ys q2) p hp
 ·have e : i = n := by omega
  subst e
  exact .inl ⟨⟨xs, ys, q1, q2, h3⟩, hd σ H p⟩
end B
namespace B
open PySem
section
variable {es : List Expr} {env : Env}
theorem star_tup {a b c} : starEach (.Tuple a b c :: es) env = (false, eval (.Tuple a b c) env) :: starEach es env := rfl
theorem star_sub {a b c} : starEach (.Subscript a b c :: es) env = (false, eval (.Subscript a b c) env) :: starEach es env := rfl
theorem star_call {a b c d} : starEach (.Call a b c d :: es) env = (false, eval (.Call a b c d) env) :: starEach es env := rfl
theorem star_name {a b} : starEach (.Name a b :: es) env = (false, eval (.Name a b) env) :: starEach es env := rfl
theorem star_con {a b c} : starEach (.Constant a b c :: es) env = (false, eval (.Constant a b c) env) :: starEach es env := rfl
theorem star_un {a b c} : starEach (.UnaryOp a b c :: es) env = (false, eval (.UnaryOp a b c) env) :: starEach es env := rfl
theorem star_lc {a b c d} : starEach (.ListComp a b c d :: es) env = (false, eval (.ListComp a b c d) env) :: starEach es env := rfl
end
end B
namespace B
open PySem L2 PyProof.Rows
inductive Als {α : Type} (P : V -> α -> Prop) : List V -> List α -> Prop where
 | nil : Als P [] []
 | cons {x : V} {d : α} {xs : List V} {ds : List α} (h : P x d) (t : Als P xs ds) : Als P (x :: xs) (d :: ds)
theorem Als.len {α : Type} {P : V -> α -> Prop} : ∀ {xs : List V} {ds : List α}, Als P xs ds -> xs.length = ds.length
 | _, _, .nil => rfl
 | _, _, .cons _ t => congrArg (· + 1) t.len
theorem Als.mono {α : Type} {P P' : V -> α -> Prop} (m : ∀ v d, P v d -> P' v d) : ∀ {xs : List V} {ds : List α}, Als P xs ds -> Als P' xs ds
 | _, _, .nil => .nil
 | _, _, .cons h t => .cons (m _ _ h) (t.mono m)
theorem Als.snoc {α : Type} {P : V -> α -> Prop} {x : V} {d : α} (k : P x d) : ∀ {xs : List V} {ds : List α}, Als P xs ds -> Als P (xs ++ [x]) (ds ++ [d])
 | _, _, .nil => .cons k .nil
 | _, _, .cons h t => .cons h (t.snoc k)
theorem Als.at {α : Type} {P : V -> α -> Prop} : ∀ {xs : List V} {ds : List α}, Als P xs ds -> ∀ {i : Nat} {x : V}, xs[i]? = some x -> ∃ d, ds[i]? = some d /\ P x d
 | _, _, .cons h _, 0, x, e => by
  rw [List.getElem?_cons_zero] at e
  cases e
  exact ⟨_, rfl, h⟩
 | _, _, .cons _ t, i + 1, x, e => t.at (i := i) (by rw [List.getElem?_cons_succ] at e; exact e)
 | _, _, .nil, _, _, e => by cases e
theorem Als.deep {α : Type} {K : Fg} {H : Hp} {P : V -> α -> Prop} {f : α -> PyData} (m : ∀ v d, P v d -> Deep K H v (f d)) : ∀ {xs : List V} {ds : List α}, Als P xs ds -> DeepAll K H xs (ds.map f)
 | _, _, .nil => .nil
 | _, _, .cons h t => .cons (m _ _ h) (t.deep m)
end B
namespace B
open PySem PySem.Spec L2 PyProof.Rows
theorem comp_rngS {α : Type} {K : Fg} {H : Hp} {D t s : Addr} {n : Nat} {P : Hp -> V -> α -> Prop} {Ok : α -> Prop} {src : List (Option Nat)} {σ : L2.St} {g : TG} {tt : TT} {te : TE} {Q : Hp -> Prop}
  (mono : ∀ H H' v d, Tst K H H' -> P H v d -> P H' v d) (hD : H D = none) (T : Tape H t s) (hn : n ≤ 1000)
  (turn : ∀ (i : Nat) (H' : Hp), i < n -> Tst K H H' -> Tape H' t s -> ∀ (R : VK) (E : Hp -> Prop), (∀ v d H'', Step t H' H'' -> Tape H'' t s -> P H'' v d -> Ok d -> R v H'') →
   g (.int (0 + (i : Int))) (frees src σ) H' fun σ2 H2 => Ext (frees src σ) σ2 /\ tt σ2 H2 fun ok H3 => if ok = true then te σ2 H3 R else E H3)
  (fin : ∀ H' ys ds, Step t H H' -> Tape H' t s -> H' D = some (.lst ys) -> Als (P H') ys ds -> ds.length = n -> (∀ d ∈ ds, Ok d) -> Q H') :
  ∃ W : Nat -> Nat -> List V -> Hp -> Prop, (∃ m, W 0 m [] (upd H D (.lst []))) /\ ∀ i m ys H, W i m ys H -> ((Itr 0 n).stop i H /\ Q H) ∨ ((Itr 0 n).go i H /\ ∀ x H', (Itr 0 n).yld i H x H' →
   g x (frees src σ) H' fun σ2 H2 => Ext (frees src σ) σ2 /\ tt σ2 H2 fun ok H3 =>
    if ok = true then te σ2 H3 fun y H4 => H4 D = some (.lst ys) /\ ys.length < sizeLine /\ ∃ m', m' < m /\ W (i + 1) m' (ys ++ [y]) (upd H4 D (.lst (ys ++ [y]))) else ∃ m', m' < m /\ W (i + 1) m' ys H3) := by
 have nt : D ≠ t := fun z => by subst z; obtain ⟨_, e⟩ := T.lst; rw [hD] at e; cases e
 have ns : D ≠ s := fun z => by subst z; obtain ⟨_, e⟩ := T.scr; rw [hD] at e; cases e
 refine ⟨fun i m ys H' => i ≤ n /\ m = n - i /\ H' D = some (.lst ys) /\ Tape H' t s /\ (∀ b o, b ≠ t -> H b = some o -> H' b = some o) /\ ∃ ds, Als (P H') ys ds /\ ds.length = i /\ ∀ d ∈ ds, Ok d, ⟨_, Nat.zero_le _, rfl, upd_same, T.new hD _, fun b o _ q => same_new hD _ _ _ q, [], .nil, rfl, fun d hd => by cases hd⟩, ?_⟩
 rintro i m ys H1 ⟨hi, rfl, d1, T1, kp, ds, als, hlen, ok⟩
 by_cases hix : i < n
 ·refine .inr ⟨hix, ?_⟩
  rintro x H2 ⟨rfl, rfl⟩
  refine turn i _ hix (Tst.step (K := K) ⟨kp, T.lst, T1.lst⟩) T1 _ _ fun v d H3 S3 T3 p3 o3 => ?_
  have d3 : H3 D = some (.lst ys) := S3.keep _ _ nt d1
  have tm : Tst K H2 (upd H3 D (.lst (ys ++ [v]))) := (Tst.step S3).trans (Tst.up d3 _)
  refine ⟨d3, small1000 (by rw [als.len]; omega), n - (i + 1), by omega, hix, rfl, upd_same, T3.upl nt ns _, fun b o nb q => ?_, ds ++ [d], (als.mono fun v d p => mono _ _ _ _ tm p).snoc (mono _ _ _ _ (Tst.up d3 _) p3), by rw [List.length_append, hlen]; rfl, fun z hz => ?_⟩
  ·rw [upd_ne (ne_of_none q hD)]
   exact S3.keep _ _ nb (kp b o nb q)
  ·rcases List.mem_append.mp hz with h | h
   ·exact ok z h
   ·rw [List.mem_singleton] at h; rw [h]; exact o3
 ·have e : i = n := by omega
  subst e
  exact .inl ⟨Nat.le_refl _, fin H1 ys ds ⟨kp, T.lst, T1.lst⟩ T1 d1 als hlen ok⟩
theorem Als.last {α : Type} {P : V -> α -> Prop} {xs : List V} {ds : List α} {n : Nat} (h : Als P xs ds) (hn : ds.length = n + 1) : ∃ x d, atI xs (-1) = some x /\ ds[n]? = some d /\ P x d /\ xs[n]? = some x := by
 have hl := h.len
 have hx : xs[n]? = some (xs[n]'(by omega)) := List.getElem?_eq_getElem _
 obtain ⟨d, hd, p⟩ := h.at hx
 refine ⟨_, d, ?_, hd, p, hx⟩
 have e : xs = xs.take n ++ [xs[n]'(by omega)] := by
  have := List.take_append_drop n xs
  rw [List.drop_eq_getElem_cons (by omega)] at this
  rw [List.drop_eq_nil_of_le (by omega)] at this
  exact this.symm
 have := atI_last (xs.take n) (xs[n]'(by omega))
 rw [← e] at this
 exact this
theorem cut_tail {xs : List V} (h : 1 ≤ xs.length) : cutV xs (some 1) none = xs.drop 1 := by
 unfold cutV
 rw [show (some (1 : Int)) = some (((1 : Nat) : Int)) from rfl, HT.sIx_nat, HT.sIx_none, Nat.min_eq_left h]
 exact List.take_of_length_le (by rw [List.length_drop]; omega)
section
set_option autoImplicit true
set_option relaxedAutoImplicit true
theorem qi_zip  {X : Cx} {elts : List Expr} {x1} {tp p pos : Pos} {a b : Expr} {ta : TA} (hg : Gl X "zip") (hm : X.mg "zip" = none) (ha : QA X [a, b] ta) (hs : starEach [a, b] X.env = [(false, eval a X.env), (false, eval b X.env)] := by rfl) (hs2 : starEach [b] X.env = [(false, eval b X.env)] := by rfl) : QI X (.Tuple elts x1 tp) (.Call (.Name "zip" p) [a, b] [] pos) (iZip X.K ta) := ⟨pi_zip hg hm ha.p hs hs2⟩
theorem qg_lst  {X : Cx} {es : List Expr} {k : Nat} {t : TGs} {n : Nat} {pos : Pos} (hc : X.calm = true) (h : QGs X es t) (hn : (assignEach es X.env).length = n := by rfl) (hst : (assignEach es X.env).findIdx? (·.1) = none := by rfl) : QG X (.Tuple es k pos) (gLst X.K n t) := ⟨pg_lst hc h.p hn hst⟩
theorem qi_seq  {X : Cx} {tg l : Expr} {tl : TE} (hl : QE X l tl) : QI X tg l (iSeq X.K tl) := ⟨pi_seq hl.p⟩
theorem qg_tupK {K : Fg} {es : List Expr} {k : Nat} {t : TGs} {n : Nat} {pos : Pos} (hK : X.K = K) (hc : X.calm = true) (h : QGs X es t) (hn : (assignEach es X.env).length = n := by rfl) (hst : (assignEach es X.env).findIdx? (·.1) = none := by rfl) : QG X (.Tuple es k pos) (gTup K n t) := ⟨pg_tupK hK hc h.p hn hst⟩
end
def rEqD (K : Fg) : R2 := fun x y H Q => ∃ d d', Deep K H x d /\ Deep K H y d' /\ d.canLay0 = true /\ d'.canLay0 = true /\ d.depth ≤ 32 /\ Q (.bl (PyData.eqv d d')) H
theorem op_eqD {X : Cx} {k : Nat} (hr : Room k X.A) : OpR X (compareOp .Eq) (rEqD X.K) := by
 intro pins s σ H x y v u Q I rx ry h
 obtain ⟨d, d', hd, hd', c, c', dp, q⟩ := h
 obtain ⟨as, ra⟩ := Deep.reads I hd rx
 obtain ⟨bs, rb⟩ := Deep.reads I hd' ry
 exact SeqAt.compareEq_reads ra rb c c' (by have := hr.units; omega) ⟨.bl _, H, I, rfl, q⟩
theorem eqv_iff {r q : R} : PyData.eqv (dR r) (dR q) = decide (r = q) := by
 by_cases h : r = q
 ·rw [decide_eq_true h, h]; exact eqv_same q
 ·rw [decide_eq_false h]
  cases c : PyData.eqv (dR r) (dR q) with
  | false => rfl
  | true => exact absurd (eqv_dR c) h
def rIsiT (K : Fg) : List V -> Hp -> VK -> Prop := fun xs H Q => ∃ a ys n b, xs = [.ref a, .ty n] /\ SqT K H a ys /\ kitTT "tuple" n = some b /\ Q (.bl b) H
end B
namespace L2
open PySem PySem.Spec PyProof.Rows
section
variable {κ : Type} [DecidableEq κ]
def valV (kvs : List (κ × V)) (k : κ) : Option V := (kvs.find? fun kv => decide (kv.1 = k)).map (·.2)
def putK (kvs : List (κ × V)) (k : κ) (v : V) : List (κ × V) :=
 if (kvs.any fun kv => decide (kv.1 = k)) = true then kvs.map (fun kv => if kv.1 = k then (kv.1, v) else kv) else kvs ++ [(k, v)]
def dropK (kvs : List (κ × V)) (k : κ) : List (κ × V) := kvs.filter fun kv => decide (kv.1 ≠ k)
theorem valV_pos {p : κ × V} {r : List (κ × V)} {k : κ} (e : p.1 = k) : valV (p :: r) k = some p.2 := by simp [valV, List.find?_cons, e]
theorem valV_neg {p : κ × V} {r : List (κ × V)} {k : κ} (e : ¬ p.1 = k) : valV (p :: r) k = valV r k := by simp [valV, List.find?_cons, e]
theorem valV_any (k : κ) : ∀ kvs : List (κ × V), (kvs.any fun kv => decide (kv.1 = k)) = (valV kvs k).isSome
 | [] => rfl
 | p :: r => by
  rw [List.any_cons]
  by_cases e : p.1 = k
  ·simp only [valV_pos e, decide_eq_true e, Bool.true_or, Option.isSome_some]
  ·rw [valV_neg e, decide_eq_false e, Bool.false_or]; exact valV_any k r
theorem length_putK (kvs : List (κ × V)) (k : κ) (v : V) : (putK kvs k v).length ≤ kvs.length + 1 := by
 unfold putK
 split
 ·rw [List.length_map]; omega
 ·rw [List.length_append, List.length_cons, List.length_nil]; omega
theorem RelO.isSome_eq {o : Option V} {u : Option Value} (r : RelO o u) : o.isSome = u.isSome := by
 cases o with
 | none => cases u with
  | none => rfl
  | some _ => exact (show False from r).elim
 | some _ => cases u with
  | none => exact (show False from r).elim
  | some _ => rfl
theorem RelO.getD {o : Option V} {u : Option Value} {d : V} {d' : Value} (r : RelO o u) (rd : RelV d d') : RelV (o.getD d) (u.getD d') := by
 cases o with
 | none => cases u with
  | none => exact rd
  | some _ => exact (show False from r).elim
 | some _ => cases u with
  | none => exact (show False from r).elim
  | some _ => exact r
theorem KV.val {kvs : List (κ × V)} {vs : List (κ × Value)} (r : KV kvs vs) (k : κ) : RelO (valV kvs k) (valueAt vs k) := by
 unfold KV at r
 induction r with
 | nil => exact True.intro
 | @cons p q ps qs h t ih =>
  obtain ⟨h1, h2⟩ := h
  by_cases e : p.1 = k
  ·have e' : q.1 = k := h1.symm.trans e
   have b : valueAt (q :: qs) k = some q.2 := by simp [valueAt, List.find?_cons, e']
   rw [valV_pos e, b]; exact h2
  ·have e' : ¬ q.1 = k := fun z => e (h1.trans z)
   have b : valueAt (q :: qs) k = valueAt qs k := by simp [valueAt, List.find?_cons, e']
   rw [valV_neg e, b]; exact ih
theorem KV.any {kvs : List (κ × V)} {vs : List (κ × Value)} (r : KV kvs vs) (k : κ) : (kvs.any fun kv => decide (kv.1 = k)) = vs.any fun kv => decide (kv.1 = k) := by
 unfold KV at r
 induction r with
 | nil => rfl
 | cons h t ih => rw [List.any_cons, List.any_cons, ih, h.1]
theorem KV.repl {kvs : List (κ × V)} {vs : List (κ × Value)} (r : KV kvs vs) (k : κ) {y : V} {u : Value} (ry : RelV y u) :
  KV (kvs.map fun kv => if kv.1 = k then (kv.1, y) else kv) (vs.map fun kv => if kv.1 = k then (kv.1, u) else kv) := by
 unfold KV at r ⊢
 induction r with
 | nil => exact .nil
 | @cons p q ps qs h t ih =>
  rw [List.map_cons, List.map_cons]
  refine .cons ?_ ih
  obtain ⟨h1, h2⟩ := h
  by_cases e : p.1 = k
  ·rw [if_pos e, if_pos (h1.symm.trans e)]; exact ⟨h1, ry⟩
  ·rw [if_neg e, if_neg (fun z => e (h1.trans z))]; exact ⟨h1, h2⟩
theorem KV.put {kvs : List (κ × V)} {vs : List (κ × Value)} (r : KV kvs vs) (k : κ) {y : V} {u : Value} (ry : RelV y u) : KV (putK kvs k y) (stored vs k u) := by
 unfold putK stored
 rw [r.any k]
 by_cases e : (vs.any fun kv => decide (kv.1 = k)) = true
 ·rw [if_pos e, if_pos e]; exact r.repl k ry
 ·rw [if_neg e, if_neg e]; exact Paired.snoc r ⟨rfl, ry⟩
theorem KV.length {kvs : List (κ × V)} {vs : List (κ × Value)} (r : KV kvs vs) : kvs.length = vs.length := Paired.length r
end
theorem kV_is {P : Program} {w : World} {k : Key} {u : Value} (r : RelV (kV k) u) : (mixKind P w).is k u = true := by
 cases k with
 | inl i => obtain ⟨t, e⟩ := (show ∃ t, u = Value.int i t from r); subst e; exact mixKind_int P w i t
 | inr x => obtain ⟨t, e⟩ := (show ∃ t, u = Value.str x t from r); subst e; exact mixKind_str P w x t
theorem items_are {P : Program} {w : World} : ∀ {ks : List Key} {us : List Value}, Vals (ks.map kV) us -> ItemsAre (mixKind P w) ks us
 | [], _, r => by rw [List.map_nil] at r; cases r; exact .nil
 | k :: ks, _, r => by
  rw [List.map_cons] at r
  cases r with
  | cons h t => exact .cons (kV_is h) (items_are t)
abbrev KT (H : Hp) : List (List Key × V) -> List (List Key × Addr × Value) -> Prop := Paired fun p q => p.1 = q.1 /\ H q.2.1 = some (.tup (p.1.map kV)) /\ RelV p.2 q.2.2
theorem KT.val {H : Hp} {kvs : List (List Key × V)} {xs : List (List Key × Addr × Value)} (r : KT H kvs xs) (k : List Key) : RelO (valV kvs k) ((atKey xs k).map (·.2)) := by
 induction r with
 | nil => exact True.intro
 | @cons p q ps qs h t ih =>
  obtain ⟨h1, _, h2⟩ := h
  by_cases e : p.1 = k
  ·have e' : q.1 = k := h1.symm.trans e
   have b : atKey (q :: qs) k = some q.2 := by simp [atKey, List.find?_cons, e']
   rw [valV_pos e, b]; exact h2
  ·have e' : ¬ q.1 = k := fun z => e (h1.trans z)
   have b : atKey (q :: qs) k = atKey qs k := by simp [atKey, List.find?_cons, e']
   rw [valV_neg e, b]; exact ih
theorem KT.repl {H : Hp} {kvs : List (List Key × V)} {xs : List (List Key × Addr × Value)} (r : KT H kvs xs) (k : List Key) {y : V} {u : Value} (ry : RelV y u) :
  KT H (kvs.map fun kv => if kv.1 = k then (kv.1, y) else kv) (xs.map (putAt k u)) := by
 induction r with
 | nil => exact .nil
 | @cons p q ps qs h t ih =>
  rw [List.map_cons, List.map_cons]
  refine .cons ?_ ih
  obtain ⟨h1, h2, h3⟩ := h
  unfold putAt
  by_cases e : p.1 = k
  ·rw [if_pos e, if_pos (h1.symm.trans e)]; exact ⟨h1, h2, ry⟩
  ·rw [if_neg e, if_neg (fun z => e (h1.trans z))]; exact ⟨h1, h2, h3⟩
theorem KT.put {H : Hp} {kvs : List (List Key × V)} {xs : List (List Key × Addr × Value)} (r : KT H kvs xs) (k : List Key) {b : Addr} {y : V} {u : Value} (hb : H b = some (.tup (k.map kV))) (ry : RelV y u) :
  KT H (putK kvs k y) (storedH xs k b u) := by
 have e : (kvs.any fun kv => decide (kv.1 = k)) = (atKey xs k).isSome := by
  rw [valV_any, (r.val k).isSome_eq, Option.isSome_map]
 unfold putK storedH
 rw [e]
 by_cases q : (atKey xs k).isSome = true
 ·rw [if_pos q, if_pos q]; exact r.repl k ry
 ·rw [if_neg q, if_neg q]; exact Paired.snoc r ⟨rfl, hb, ry⟩
theorem KT.keeps {H H' : Hp} {kvs : List (List Key × V)} {xs : List (List Key × Addr × Value)} (r : KT H kvs xs) (ht : ∀ b ys, H b = some (.tup ys) -> H' b = some (.tup ys)) : KT H' kvs xs :=
 Paired.mapP r fun _ _ z => ⟨z.1, ht _ _ z.2.1, z.2.2⟩
section
variable {P : Program} {w : World} {H : Hp} {h : Heap} {a : Addr}
theorem rd_of {u : HO} (ok : HOk P w H h) (e : Rd H a u) : ObjOk P w H h a u := e.ok ok
theorem dk_rd {kvs : List (Key × V)} (ok : HOk P w H h) (e : Rd H a (.dK kvs)) : kvs.length ≤ sizeLine /\ (a == sysModules) = false /\ ∃ vs, KV kvs vs /\ h.DictOf (mixKind P w) a vs :=
 show ObjOk P w H h a (.dK kvs) from rd_of ok e
theorem dk_of {kvs : List (Key × V)} (ok : HOk P w H h) (e : H a = some (.dK kvs)) : kvs.length ≤ sizeLine /\ (a == sysModules) = false /\ ∃ vs, KV kvs vs /\ h.DictOf (mixKind P w) a vs := dk_rd ok (.inl e)
theorem key_of {ks : List Key} (ok : HOk P w H h) (e : H a = some (.tup (ks.map kV))) : (tupleKind (mixKind P w)).is h ks a := by
 obtain ⟨_, its, r, o, h1, h2, n, h3⟩ := (show ObjOk P w H h a (.tup (ks.map kV)) from ok a _ e)
 exact ⟨o, its.toArray, n, h1, h2, h3, by simpa using items_are r⟩
theorem dt_rd {kvs : List (List Key × V)} (ok : HOk P w H h) (e : Rd H a (.dT kvs)) : kvs.length ≤ sizeLine /\ (a == sysModules) = false ∧
  ∃ xs, KT H kvs xs /\ h.DictOfH (tupleKind (mixKind P w)) a xs := by
 obtain ⟨z, y, xs, r, o, es, ep, h1, h2, h3, h4, h5⟩ := (show ObjOk P w H h a (.dT kvs) from rd_of ok e)
 refine ⟨z, y, xs, r, o, es, ep, h1, h2, h3, h4, fun x hx => ?_, h5⟩
 have all : ∀ {l : List (List Key × V)} {m : List (List Key × Addr × Value)}, KT H l m -> ∀ x ∈ m, (tupleKind (mixKind P w)).is h x.1 x.2.1 := by
  intro l m q
  induction q with
  | nil => intro x hx; exact nomatch hx
  | @cons p q ps qs hq t ih =>
   intro x hx
   rcases List.mem_cons.mp hx with e | hx
   ·subst e
    exact key_of ok (by rw [← hq.1]; exact hq.2.1)
   ·exact ih x hx
 exact all r x hx
theorem dt_of {kvs : List (List Key × V)} (ok : HOk P w H h) (e : H a = some (.dT kvs)) : kvs.length ≤ sizeLine /\ (a == sysModules) = false ∧
  ∃ xs, KT H kvs xs /\ h.DictOfH (tupleKind (mixKind P w)) a xs := dt_rd ok (.inl e)
end
def DGet (H : Hp) (a : Addr) (y : V) (r : Option V) : Prop :=
 (∃ kvs k, Rd H a (.dK kvs) /\ y = kV k /\ r = valV kvs k) ∨ ∃ kvs k b, Rd H a (.dT kvs) /\ y = .ref b /\ H b = some (.tup (k.map kV)) /\ r = valV kvs k
def DPut (H : Hp) (a : Addr) (y v : V) (H' : Hp) : Prop :=
 (∃ kvs k, H a = some (.dK kvs) /\ y = kV k /\ kvs.length < sizeLine /\ H' = upd H a (.dK (putK kvs k v))) ∨
 ∃ kvs k b, H a = some (.dT kvs) /\ y = .ref b /\ H b = some (.tup (k.map kV)) /\ kvs.length < sizeLine /\ H' = upd H a (.dT (putK kvs k v))
theorem DGet.k {H : Hp} {a : Addr} {kvs : List (Key × V)} {k : Key} (e : H a = some (.dK kvs)) : DGet H a (kV k) (valV kvs k) := .inl ⟨kvs, k, .inl e, rfl, rfl⟩
theorem DGet.t {H : Hp} {a b : Addr} {kvs : List (List Key × V)} {k : List Key} (e : H a = some (.dT kvs)) (eb : H b = some (.tup (k.map kV))) : DGet H a (.ref b) (valV kvs k) := .inr ⟨kvs, k, b, .inl e, rfl, eb, rfl⟩
theorem DPut.k {H : Hp} {a : Addr} {kvs : List (Key × V)} {k : Key} {v : V} (e : H a = some (.dK kvs)) (hl : kvs.length < sizeLine) : DPut H a (kV k) v (upd H a (.dK (putK kvs k v))) := .inl ⟨kvs, k, e, rfl, hl, rfl⟩
section
variable {X : Cx} {pins : PLs} {σ : St} {H : Hp} {s : Shared} {a : Addr} {y v : V} {u r : Value} {o : Option V} {A : Around} {E : VSP}
theorem Inv.big (I : Inv X pins σ H s) : sysModules < s.heap.objs.size := by
 have h : mainGlobals < s.heap.objs.size := (I.mod.glob.keeps I.bk).lt
 exact Nat.lt_trans (by decide) h
theorem d_getItem {Q : VSP} (hu : A.units + 1 < cLine) (I : Inv X pins σ H s) (g : DGet H a y (some v)) (ry : RelV y u) (h : ∀ w' s', Inv X pins σ H s' -> RelV v w' -> Q w' s') :
  wpAny (model X.prog X.w) A (getItem (.ref a) u) Q E s := by
 rcases g with ⟨kvs, k, e, ey, l⟩ | ⟨kvs, k, b, e, ey, eb, l⟩
 ·subst ey
  obtain ⟨z, hd, vs, rel, dd⟩ := dk_rd I.hok e
  obtain ⟨w', hw, rw'⟩ := RelO.some_of (v := v) (o := valueAt vs k) (by rw [l]; exact rel.val k)
  exact wpAny_getItem_of (kV_is ry) dd.mapOf hw (h w' _ (I.tok _) rw')
 ·subst ey
  cases (show u = Value.ref b from ry)
  obtain ⟨z, hd, xs, rel, dd⟩ := dt_rd I.hok e
  obtain ⟨w', hw, rw'⟩ := RelO.some_of (v := v) (o := (atKey xs k).map (·.2)) (by rw [l]; exact rel.val k)
  obtain ⟨p, hp, hp2⟩ := Option.map_eq_some_iff.mp hw
  refine wpAny_getItem_heap (tupleKind_room_in1 hu) (key_of I.hok eb) dd hp ?_
  rw [hp2]
  exact h w' _ (I.tok _) rw'
theorem d_write {h' : Heap} {t' : Nat} {ob : HO} (I : Inv X pins σ H s) (mu : Mut (H a)) (hs : Heap.SameBut a s.heap h') (he : ∃ q, h'.get? a = some q) (new : ObjOk X.prog X.w (upd H a ob) h' a ob) :
  Inv X pins σ (upd H a ob) { s with heap := h', toks := t' } :=
 I.write (x := a) (e := a) mu (.inl rfl) (fun b q hb z => (hs.2 b hb).trans z) he new
theorem dk_new {P : Program} {w : World} {H' : Hp} {h' : Heap} {kvs : List (Key × V)} {vs : List (Key × Value)} (z : kvs.length ≤ sizeLine) (hd : (a == sysModules) = false) (rel : KV kvs vs) (dd : h'.DictOf (mixKind P w) a vs) :
  ObjOk P w H' h' a (.dK kvs) := ⟨z, hd, vs, rel, dd⟩
theorem d_setItem {H' : Hp} {Q : Unit -> Shared -> Prop} (hu : A.units + 1 < cLine) (I : Inv X pins σ H s) (g : DPut H a y v H') (ry : RelV y u) (rv : RelV v r) (h : ∀ s', Inv X pins σ H' s' -> Q () s') :
  wpAny (model X.prog X.w) A (setItem (.ref a) u r) Q E s := by
 rcases g with ⟨kvs, k, e, ey, l, eH⟩ | ⟨kvs, k, b, e, ey, eb, l, eH⟩
 ·subst ey eH
  obtain ⟨z, hd, vs, rel, dd⟩ := dk_of I.hok e
  have hz : vs.length ≤ sizeLine := by rw [← rel.length]; exact z
  have hl : (putK kvs k v).length ≤ sizeLine := by have := length_putK kvs k v; omega
  refine wpAny_setItem_pairs (hsz := hz) (kV_is ry) dd fun h' dd' hs => h _ ?_
  have he : ∃ q, h'.get? a = some q := let ⟨q, _, _, hq, _⟩ := dd'; ⟨q, hq⟩
  exact d_write I (by rw [e]; exact True.intro) hs he (dk_new hl hd (rel.put k rv) dd')
 ·subst ey eH
  cases (show u = Value.ref b from ry)
  obtain ⟨z, hd, xs, rel, dd⟩ := dt_of I.hok e
  have hz : xs.length ≤ sizeLine := by rw [← Paired.length rel]; exact z
  have hl : (putK kvs k v).length ≤ sizeLine := by have := length_putK kvs k v; omega
  refine wpAny_setItem_heap (hsz := hz) (tupleKind_room_in1 hu) (key_of I.hok eb) dd fun h' dd' hs => h _ ?_
  obtain ⟨q, es, ep, hq, h2, h3, h4, _, h5⟩ := dd'
  refine d_write I (by rw [e]; exact True.intro) hs ⟨q, hq⟩ ⟨hl, hd, _, (rel.put k eb rv).keeps fun c ys ec => ?_, q, es, ep, hq, h2, h3, h4, h5⟩
  rw [upd_ne (ne_of ec e (fun z => nomatch z))]
  exact ec
end
section
variable {X : Cx} {pins : PLs} {σ : St} {H : Hp} {s : Shared} {a : Addr} {kvs : List (Key × V)} {k : Key} {u : Value} {A : Around} {E : VSP}
end
def NoSl (i : Expr) : Prop := ∀ ov iv, subscripted i false ov iv = operate [ov, iv] (getItem ov iv)
theorem subD_of {prog : Program} {w : World} {A : Around} {E : VSP} {s : Shared} {env : Env} {value slice : Expr} {pos : Pos} {T id : String} {Q : VSP}
  (hl : typeLookup (.type T) "__getitem__" = pure (some (.builtin id))) (hs : NoSl slice)
  (h : wpAny (model prog w) A (eval value env) (fun o s₁ => wpAny (model prog w) A (eval slice env) (fun i s₂ => s₂.TypeIs o T /\ wpAny (model prog w) A (getItem o i) Q E s₂) E s₁) E s) :
  wpAny (model prog w) A (eval (.Subscript value slice pos) env) Q E s := by
 refine Subscript_ (wpAny_mono h (fun o s₁ h₁ => wpAny_mono h₁ (fun i s₂ h₂ => ?_) fun _ _ x => x) fun _ _ x => x)
 obtain ⟨hT, h₂⟩ := h₂
 unfold subscriptTail
 refine wpAny_bind ?_
 rw [getitemInPython_of_ne hT.not_modules]
 refine wpAny_bind (wpAny_specialOf hT hl ?_)
 have fin : wpAny (model prog w) A (subscripted slice false o i) (fun r s₃ => wpAny (model prog w) A (letTemporaryGo value o r >>= fun _ => pure r) Q E s₃) E s₂ := by
  rw [hs o i]
  exact wpAny_operating (wpAny_mono h₂ (fun r s₃ h₃ => wpAny_bind (wpAny_letTemporaryGo (wpAny_pure h₃))) fun _ _ x => x)
 first
  | exact wpAny_pure (wpAny_bind fin)
  | exact wpAny_bind (wpAny_pure (wpAny_bind fin))
  | exact wpAny_bind fin
theorem dict_typeIs {X : Cx} {pins : PLs} {σ : St} {H : Hp} {s : Shared} {a : Addr} {y : V} {o : Option V} (I : Inv X pins σ H s) (g : DGet H a y o) : s.TypeIs (.ref a) "dict" := by
 rcases g with ⟨kvs, k, e, _, _⟩ | ⟨kvs, k, b, e, _, _, _⟩
 ·obtain ⟨_, _, vs, _, dd⟩ := dk_rd I.hok e
  exact dd.typeIs
 ·obtain ⟨_, _, xs, _, dd⟩ := dt_rd I.hok e
  exact dd.typeIs
def tDGet (td ty : TE) : TE := fun σ H Q => td σ H fun x H1 => ty σ H1 fun y H2 => ∃ a v, x = .ref a /\ DGet H2 a y (some v) /\ Q v H2
def tDIn (ty td : TE) : TE := fun σ H Q => ty σ H fun y H1 => td σ H1 fun x H2 => ∃ a o, x = .ref a /\ DGet H2 a y o /\ Q (.bl o.isSome) H2
def tDNotIn (ty td : TE) : TE := fun σ H Q => ty σ H fun y H1 => td σ H1 fun x H2 => ∃ a o, x = .ref a /\ DGet H2 a y o /\ Q (.bl (!o.isSome)) H2
def sDPut (td ty tv : TE) : TS := fun D σ H => tv σ H fun v H1 => td σ H1 fun x H2 => ty σ H2 fun y H3 => ∃ a H4, x = .ref a /\ DPut H3 a y v H4 /\ D.nx σ H4
def sDAug (td ty tv : TE) (rd : V -> V -> Hp -> VK -> Prop) : TS := fun D σ H => td σ H fun x H1 => ty σ H1 fun y H2 => ∃ a v, x = .ref a /\ DGet H2 a y (some v) ∧
 tv σ H2 fun y2 H3 => rd v y2 H3 fun z H4 => ∃ H5, DPut H4 a y z H5 /\ D.nx σ H5
section
variable {X : Cx} {o i e value : Expr} {pos pos' tpos : Pos} {td ty tv : TE}
theorem pe_dget (hu : X.A.units + 1 < cLine) (ho : PE X o td) (hi : PE X i ty) (hs : NoSl i) : PE X (.Subscript o i pos) (tDGet td ty) := by
 intro pins s σ H Q I h
 refine subD_of PySem.F.slot_dict_getitem.lookup hs (thn (ho pins s σ H _ I h) fun u s1 ⟨x, H1, I1, rx, q1⟩ => thn (hi pins s1 σ H1 _ I1 q1) fun iv s2 ⟨y, H2, I2, ry, a, v, ex, g, q2⟩ => ?_)
 subst ex
 obtain rfl : u = Value.ref a := rx
 exact ⟨dict_typeIs I2 g, d_getItem hu I2 g ry fun w' s3 I3 rw' => ⟨v, H2, I3, rw', q2⟩⟩
theorem ps_dput (hu : X.A.units + 1 < cLine) (ho : PE X o td) (hi : PE X i ty) (hv : PE X value tv) (hs : swapsWith value (some (.Subscript o i pos')) pos.line X.env = pure false) :
  PS X (.Assign [.Subscript o i pos'] value pos) (sDPut td ty tv) := by
 intro pins s σ H D I h
 refine wpAny_Assign_Subscript (thn (hv pins s σ H _ I h) fun r s1 ⟨v, H1, I1, rv, q1⟩ => thn (ho pins s1 σ H1 _ I1 q1) fun u s2 ⟨x, H2, I2, rx, q2⟩ => thn (hi pins s2 σ H2 _ I2 q2) fun iv s3 ⟨y, H3, I3, ry, a, H4, ex, g, q3⟩ => ?_) hs
 subst ex
 obtain rfl : u = Value.ref a := rx
 exact d_setItem hu I3 g ry rv fun s4 I4 => ⟨σ, H4, I4, q3⟩
end
theorem dk_empty {P : Program} {w : World} {H : Hp} (h : Heap) (hb : sysModules < h.objs.size) : ObjOk P w H (h.push { cls := .type "dict", data := .dict #[] }) h.objs.size (.dK []) :=
 ⟨Nat.zero_le _, beq_eq_false_iff_ne.mpr (Ne.symm (Nat.ne_of_lt hb)), [], .nil, Heap.DictOf.new h⟩
def tDNewK : TE := fun _ H Q => ∀ p, H p = none -> Q (.ref p) (upd H p (.dK []))
section
variable {X : Cx} {pos : Pos}
theorem pe_dnewK : PE X (.Dict [] [] pos) tDNewK := fun pins s σ H Q I h =>
 wpAny_Dict_empty ⟨.ref s.heap.objs.size, _, I.laid (a := s.heap.objs.size) (o := .dK []) (t' := s.toks) (fun _ _ q => Heap.get?_push_of_some _ q) (Nat.le_refl _) (dk_empty s.heap I.big), rfl, h _ (I.hok.fresh (Nat.le_refl _))⟩
end
def tPairs : List (TE × TE) -> St -> Hp -> (List (V × V) -> Hp -> Prop) -> Prop
 | [], _, H, Q => Q [] H
 | (tk, tv) :: r, σ, H, Q => tk σ H fun x H1 => tv σ H1 fun y H2 => tPairs r σ H2 fun ps H3 => Q ((x, y) :: ps) H3
abbrev VV : List (V × V) -> List (Value × Value) -> Prop := Paired fun p q => RelV p.1 q.1 /\ RelV p.2 q.2
def PPs (X : Cx) (pos : Pos) (keys : List (Option Expr)) (values : List Expr) (trs : List (TE × TE)) : Prop :=
 ∀ (pins : PLs) (s : Shared) (σ : St) (H : Hp) (Q : List (V × V) -> Hp -> Prop), Inv X pins σ H s -> tPairs trs σ H Q →
  wpAny (model X.prog X.w) X.A (evalPairs (pairTrees keys values X.env pos)) (fun vs s' => ∃ ps H', Inv X pins σ H' s' /\ VV ps vs /\ Q ps H') X.xe s
def mergeK (kvs more : List (Key × V)) : List (Key × V) := more.foldl (fun acc kv => putK acc kv.1 kv.2) kvs
def tDisp (trs : List (TE × TE)) : TE := fun σ H Q => ∀ p, H p = none -> tPairs trs σ (upd H p (.dK [])) fun ps H2 => H2 p = some (.dK []) /\ ∃ kvs : List (Key × V), ps = kvs.map (fun kv => (kV kv.1, kv.2)) /\ kvs.length ≤ 15 /\ Q (.ref p) (upd H2 p (.dK (mergeK [] kvs)))
structure M1 (X : Cx) (o : Expr) (m : Str) (apos : Pos) (e : Expr) (cpos : Pos) : Prop where
 base : attributeBase o m X.env (eval o X.env) = eval o X.env
 few : ((backTo cpos (starEach [e] X.env)).all (fun x => !x.1) && (backToKw cpos (keywordEach [] X.env)).all (fun x => x.1.isSome)
  && decide (([e] : List Expr).length + ([] : List Keyword).length + (if ([] : List Keyword).isEmpty then 0 else 1) < 30)) = true
 line : (apos.endLine == cpos.line) = true
 trees : backTo cpos (starEach [e] X.env) = [(false, eval e X.env)]
structure M2 (X : Cx) (o : Expr) (m : Str) (apos : Pos) (e f : Expr) (cpos : Pos) : Prop where
 base : attributeBase o m X.env (eval o X.env) = eval o X.env
 few : ((backTo cpos (starEach [e, f] X.env)).all (fun x => !x.1) && (backToKw cpos (keywordEach [] X.env)).all (fun x => x.1.isSome)
  && decide (([e, f] : List Expr).length + ([] : List Keyword).length + (if ([] : List Keyword).isEmpty then 0 else 1) < 30)) = true
 line : (apos.endLine == cpos.line) = true
 trees : backTo cpos (starEach [e, f] X.env) = [(false, eval e X.env), (false, eval f X.env)]
def IsD (H : Hp) (a : Addr) : Prop := (∃ kvs, Rd H a (.dK kvs)) ∨ ∃ kvs, Rd H a (.dT kvs)
theorem isD_at {X : Cx} {pins : PLs} {σ : St} {H : Hp} {s : Shared} {a : Addr} (I : Inv X pins σ H s) (d : IsD H a) :
  s.TypeIs (.ref a) "dict" /\ (∀ b, Value.ref a = .ref b -> ∃ ob, s.heap.get? b = some ob /\ ob.dict = none) /\ (a == sysModules) = false := by
 rcases d with ⟨kvs, e⟩ | ⟨kvs, e⟩
 ·obtain ⟨_, hd, vs, _, dd⟩ := dk_rd I.hok e
  refine ⟨dd.typeIs, fun b q => ?_, hd⟩
  cases q
  obtain ⟨ob, _, _, h1, h2, _⟩ := dd
  exact ⟨ob, h1, h2.2.1⟩
 ·obtain ⟨_, hd, xs, _, dd⟩ := dt_rd I.hok e
  refine ⟨dd.typeIs, fun b q => ?_, hd⟩
  cases q
  obtain ⟨ob, _, _, h1, h2, _⟩ := dd
  exact ⟨ob, h1, h2.2.1⟩
section
variable {X : Cx} {pins : PLs} {σ : St} {H : Hp} {s : Shared} {a : Addr} {y d : V} {u r : Value} {o : Option V} {A : Around} {E : VSP}
theorem d_get2 {Q : VSP} (hu : A.units + 1 < cLine) (I : Inv X pins σ H s) (g : DGet H a y o) (ry : RelV y u) (rd : RelV d r) (h : ∀ w' s', Inv X pins σ H s' -> RelV (o.getD d) w' -> Q w' s') :
  wpAny (model X.prog X.w) A (call (.builtin "dict.get") [.ref a, u, r]) Q E s := by
 rcases g with ⟨kvs, k, e, ey, l⟩ | ⟨kvs, k, b, e, ey, eb, l⟩
 ·subst ey
  obtain ⟨z, hd, vs, rel, dd⟩ := dk_rd I.hok e
  refine call_meetsIn PySem.F.slot_dict_get dd.typeIs PySem.F.entry_dict_get (PySem.F.args_dict_get_3 _ _ _) (meets_dict_get_default (mixKind X.prog X.w) a (kV_is ry) hd r) ⟨_, dd.mapOf, h _ _ (I.tok _) ?_⟩
  rw [l]
  exact (rel.val k).getD rd
 ·subst ey
  cases (show u = Value.ref b from ry)
  obtain ⟨z, hd, xs, rel, dd⟩ := dt_rd I.hok e
  refine call_meetsIn PySem.F.slot_dict_get dd.typeIs PySem.F.entry_dict_get (PySem.F.args_dict_get_3 _ _ _) (meetsH_dict_get_default (tupleKind (mixKind X.prog X.w)) a b hd r) ⟨tupleKind_room_in1 hu, k, xs, key_of I.hok eb, dd, h _ _ (I.tok _) ?_⟩
  rw [l]
  exact (rel.val k).getD rd
end
def tDGet1 (td ty : TE) : TE := fun σ H Q => td σ H fun x H1 => ∃ a, x = .ref a /\ IsD H1 a /\ ty σ H1 fun y H2 => ∃ o, DGet H2 a y o /\ Q (o.getD .non) H2
def tDGet2 (td ty tx : TE) : TE := fun σ H Q => td σ H fun x H1 => ∃ a, x = .ref a /\ IsD H1 a /\ ty σ H1 fun y H2 => tx σ H2 fun z H3 => ∃ o, DGet H3 a y o /\ Q (o.getD z) H3
section
variable {X : Cx} {o e f : Expr} {apos cpos : Pos} {td ty tx : TE}
theorem pe_dget2 (hu : X.A.units + 1 < cLine) (ho : PE X o td) (he : PE X e ty) (hf : PE X f tx) (m : M2 X o "get" apos e f cpos) : PE X (.Call (.Attribute o "get" apos) [e, f] [] cpos) (tDGet2 td ty tx) := by
 intro pins s σ H Q I h
 refine wpAny_Call_method m.base m.few m.line PySem.F.plainAttrs_dict PySem.F.slot_dict_get PySem.F.type_dict_get (thn (ho pins s σ H _ I h) fun u s1 ⟨x, H1, I1, rx, a, ex, d, q1⟩ => ?_)
 subst ex
 obtain rfl : u = Value.ref a := rx
 obtain ⟨t1, t2, _⟩ := isD_at I1 d
 refine ⟨t1, t2, ?_⟩
 rw [m.trees]
 refine Calls.callWith_builtin rfl (Calls.evalArgs_plain (Calls.spliced_cons (thn (he pins s1 σ H1 _ I1 q1) fun iv s2 ⟨y, H2, I2, ry, q2⟩ =>
  Calls.spliced_cons (thn (hf pins s2 σ H2 _ I2 q2) fun fv s3 ⟨z, H3, I3, rz, ov, g, q3⟩ => Calls.spliced_nil ?_))))
 exact d_get2 hu I3 g ry rz fun w' s4 I4 rw' => ⟨_, H3, I4, rw', q3⟩
end
end L2
namespace B
open PySem PySem.Spec L2 PyProof.Rows
theorem comp_mapT {α β : Type} {K : Fg} {H : Hp} {D a : Addr} {xs : List V} {ds : List α} {P : Hp -> V -> β -> Prop} {f : α -> β} {src : List (Option Nat)} {σ : L2.St} {g : TG} {tt : TT} {te : TE} {Q : Hp -> Prop}
  (mono : ∀ H H' v d, Tst K H H' -> P H v d -> P H' v d) (hD : H D = none) (hS : SqT K H a xs) (hl : xs.length = ds.length) (hn : ds.length ≤ 1000)
  (turn : ∀ (i : Nat) (x : V) (d : α) (H' : Hp), xs[i]? = some x -> ds[i]? = some d -> Same H H' -> ∀ (R : VK) (E : Hp -> Prop), (∀ v H'', Same H' H'' -> P H'' v (f d) -> R v H'') →
   g x (frees src σ) H' fun σ2 H2 => Ext (frees src σ) σ2 /\ tt σ2 H2 fun ok H3 => if ok = true then te σ2 H3 R else E H3)
  (fin : ∀ H' ys, Same H H' -> H' D = some (.lst ys) -> Als (P H') ys (ds.map f) -> Q H') :
  ∃ W : Nat -> Nat -> List V -> Hp -> Prop, (∃ m, W 0 m [] (upd H D (.lst []))) /\ ∀ i m ys H, W i m ys H -> ((Itt K a).stop i H /\ Q H) ∨ ((Itt K a).go i H /\ ∀ x H', (Itt K a).yld i H x H' →
   g x (frees src σ) H' fun σ2 H2 => Ext (frees src σ) σ2 /\ tt σ2 H2 fun ok H3 =>
    if ok = true then te σ2 H3 fun y H4 => H4 D = some (.lst ys) /\ ys.length < sizeLine /\ ∃ m', m' < m /\ W (i + 1) m' (ys ++ [y]) (upd H4 D (.lst (ys ++ [y]))) else ∃ m', m' < m /\ W (i + 1) m' ys H3) := by
 refine ⟨fun i m ys H' => i ≤ ds.length /\ m = ds.length - i /\ H' D = some (.lst ys) /\ Same H H' /\ Als (P H') ys ((ds.take i).map f), ⟨_, Nat.zero_le _, rfl, upd_same, same_new hD _, .nil⟩, ?_⟩
 rintro i m ys H1 ⟨hi, rfl, d1, s1, al1⟩
 have hS1 : SqT K H1 a xs := Tst.same s1 _ _ hS
 by_cases hix : i < ds.length
 ·have hx0 : xs[i]? = some (xs[i]'(by omega)) := List.getElem?_eq_getElem _
  refine .inr ⟨⟨xs, _, hS1, hx0⟩, ?_⟩
  rintro x H2 ⟨rfl, hy⟩
  have hx := hy xs hS1
  obtain ⟨d, hd⟩ : ∃ d, ds[i]? = some d := ⟨_, List.getElem?_eq_getElem hix⟩
  refine turn i x d _ hx hd s1 _ _ fun v H3 s3 p3 => ?_
  have d3 : H3 D = some (.lst ys) := s3 _ _ d1
  have tm : Tst K H2 (upd H3 D (.lst (ys ++ [v]))) := (Tst.same s3).trans (Tst.up d3 _)
  refine ⟨d3, small1000 (by rw [al1.len, List.length_map, List.length_take]; omega), ds.length - (i + 1), by omega, hix, rfl, upd_same, fun b o q => ?_, ?_⟩
  ·rw [upd_ne (ne_of_none q hD)]
   exact s3 _ _ (s1 _ _ q)
  ·rw [List.take_add_one, hd, List.map_append]
   exact (al1.mono fun v d p => mono _ _ _ _ tm p).snoc (mono _ _ _ _ (Tst.up d3 _) p3)
 ·have e : i = ds.length := by omega
  subst e
  rw [List.take_length] at al1
  exact .inl ⟨⟨xs, hS1, by omega⟩, fin H1 ys s1 d1 al1⟩
def tyD : PyData -> String
 | .none => "NoneType"
 | .bool _ => "bool"
 | .int _ => "int"
 | .str _ => "str"
 | .list _ => "list"
 | .tuple _ => "tuple"
 | .dict _ => "dict"
def rIsiD (K : Fg) : List V -> Hp -> VK -> Prop := fun xs H Q => ∃ v d n b, xs = [v, .ty n] /\ Deep K H v d /\ kitTT (tyD d) n = some b /\ Q (.bl b) H
def wholeD : PyData -> Bool
 | .int _ => true
 | _ => false
def tupD (n : Nat) : PyData -> Bool
 | .tuple xs => decide (xs.length = n)
 | _ => false
def ratD : PyData -> Bool
 | .tuple [.int a, .int b] => decide (1 ≤ b) && decide (Int.gcd a b = 1)
 | _ => false
def pairD : PyData -> Bool
 | .tuple [x, y] => ratD x && ratD y
 | _ => false
theorem DeepAll.len {K : Fg} {H : Hp} : ∀ {xs : List V} {ds : List PyData}, DeepAll K H xs ds -> xs.length = ds.length
 | _, _, .nil => rfl
 | _, _, .cons _ t => congrArg Nat.succ t.len
structure Sh (k n : Nat) (d : PyData) : Prop where
 sh : d.showable = true
 nd : d.hasDict = false
 dp : d.depth ≤ k
 sz : d.shown.length ≤ n
theorem Sh.all {k n : Nat} : ∀ {ds : List PyData}, (∀ d ∈ ds, Sh k n d) -> PyData.showableAll ds = true /\ PyData.hasDictAll ds = false /\ PyData.depthAll ds ≤ k /\ ((PyData.shownAll ds).map (·.length)).sum ≤ n * ds.length /\ (PyData.shownAll ds).length = ds.length
 | [], _ => ⟨rfl, rfl, Nat.zero_le _, Nat.zero_le _, rfl⟩
 | d :: ds, h => by
  obtain ⟨a, b, c, e, f⟩ := Sh.all (ds := ds) fun x hx => h x (List.mem_cons_of_mem _ hx)
  have z := h d List.mem_cons_self
  refine ⟨?_, ?_, ?_, ?_, ?_⟩
  ·show (d.showable && PyData.showableAll ds) = true
   rw [z.sh, a]; rfl
  ·show (d.hasDict || PyData.hasDictAll ds) = false
   rw [z.nd, b]; rfl
  ·show max d.depth (PyData.depthAll ds) ≤ k
   exact Nat.max_le.mpr ⟨z.dp, c⟩
  ·show d.shown.length + ((PyData.shownAll ds).map (·.length)).sum ≤ n * (ds.length + 1)
   have := z.sz
   rw [Nat.mul_succ]; omega
  ·show (PyData.shownAll ds).length + 1 = ds.length + 1
   rw [f]
theorem Sh.tup {k n m N : Nat} {ds : List PyData} (h : ∀ d ∈ ds, Sh k n d) (hm : ds.length ≤ m) (hN : (n + 3) * m + 8 ≤ N) : Sh (k + 1) N (.tuple ds) := by
 obtain ⟨a, b, c, e, f⟩ := Sh.all h
 refine ⟨a, b, Nat.succ_le_succ c, ?_⟩
 show (tupleText (PyData.shownAll ds)).length ≤ N
 have q := tupleText_len_le (PyData.shownAll ds)
 have l : n * ds.length + 3 * ds.length ≤ (n + 3) * m := by
  rw [← Nat.add_mul]
  exact Nat.mul_le_mul_left _ hm
 omega
theorem Sh.shows {k n : Nat} {d : PyData} (h : Sh k n d) (hk : k ≤ 16) (hn : n ≤ 16777216) : Shows d := ⟨h.sh, h.nd, Nat.le_trans h.sz (Nat.le_trans hn (by decide)), Nat.le_trans h.dp hk⟩
theorem sh_dR {r : R} {n : Nat} (h : Wf n r) (hn : n ≤ 1900) : Sh 1 5000 (dR r) := ⟨(small_dR h hn).sh, rfl, (by show max 0 (max 0 0) + 1 ≤ 1; decide), (small_dR h hn).sz⟩
mutual
theorem Deep.same {K : Fg} {H H' : Hp} (s : Same H H') : ∀ {v : V} {d : PyData}, Deep K H v d -> Deep K H' v d
 | _, _, .non => .non
 | _, _, .bl b => .bl b
 | _, _, .int i => .int i
 | _, _, .str x => .str x
 | _, _, .lst e t => .lst (s.seq e) (DeepAll.same s t)
 | _, _, .tup e t => .tup (Tst.same s _ _ e) (DeepAll.same s t)
theorem DeepAll.same {K : Fg} {H H' : Hp} (s : Same H H') : ∀ {vs : List V} {ds : List PyData}, DeepAll K H vs ds -> DeepAll K H' vs ds
 | _, _, .nil => .nil
 | _, _, .cons h t => .cons (Deep.same s h) (DeepAll.same s t)
end
end B
namespace B
open PySem PySem.Spec L2 PyProof.Rows
def Stat (K : Fg) (s : Addr) : Prop := ∃ ns : List Int, ns.length ≤ 63 /\ ∀ H : Hp, SqL K H s (ns.map V.int)
structure Tape3 (K : Fg) (H : Hp) (t s : Addr) : Prop where
 ex : ∃ (ns : List Int) (p q : Int), H t = some (.lst [.ref s, .int p, .int q]) /\ ((Rd H s (.lst (ns.map V.int)) /\ s ≠ t) ∨ ∀ H', SqL K H' s (ns.map V.int)) /\ ns.length ≤ 63 /\ 0 ≤ p /\ 0 ≤ q
def sp_tape3 (K : Fg) : Sp := fun vs H Q _ => ∃ (a : Addr) (ns : List Int), vs = [.ref a] /\ SqL K H a (ns.map V.int) /\ ns.length ≤ 63 /\ ∀ (t : Addr) (H' : Hp), Same H H' -> H t = none -> Tape3 K H' t a -> Q (.ref t) H'
def sp_draw3 (K : Fg) : Sp := fun vs H Q _ => ∃ (t s : Addr) (m : Int), vs = [.ref t, .int m] /\ Tape3 K H t s /\ 0 < m /\ m < 1073741824 /\ ∀ (r : Int) (xs : List V), 0 ≤ r -> r < m -> Tape3 K (upd H t (.lst xs)) t s -> Q (.int r) (upd H t (.lst xs))
section
variable {prog : Program} {w : World} {A : Around} {E : VSP} {s : Shared}
end
def upTo (n : Nat) : List Int := (List.range n).map fun i : Nat => (i : Int)
def tRng1 (ta : TA) : TE := fun σ H Q => ta σ H fun vs H1 => ∃ j : Int, vs = [.int j] /\ ∀ p, H1 p = none -> Q (.ref p) (upd H1 p (.rng 0 j))
def Itd (hi : Int) (n : Nat) : It := ⟨fun i _ => i < n, fun i H x H' => H' = H /\ x = .int (hi - i), fun i _ => n ≤ i⟩
def iRngD (ta : TA) : TI := fun σ H R => ta σ H fun vs H1 => ∃ i j : Int, vs = [.int i, .int j, .int (-1)] /\ (-1000 ≤ i /\ i ≤ 1000 /\ -1000 ≤ j /\ j ≤ 1000) /\ R (Itd i (i - j).toNat) H1
structure Wlk (J : It) (H : Hp) (n : Nat) (P : Nat -> V -> Hp -> Prop) : Prop where
 go : ∀ i H', i < n -> Same H H' -> J.go i H'
 stop : ∀ H', Same H H' -> J.stop n H'
 yld : ∀ i H' x H'', i < n -> Same H H' -> J.yld i H' x H'' -> Same H' H'' /\ P i x H''
theorem wlk_lst {K : Fg} {H : Hp} {a : Addr} {xs : List V} (h : SqL K H a xs) : Wlk (Itl K a) H xs.length (fun i x _ => xs[i]? = some x) where
 go := fun i H' hi s => ⟨xs, _, s.seq h, List.getElem?_eq_getElem hi⟩
 stop := fun H' s => ⟨xs, s.seq h, Nat.le_refl _⟩
 yld := fun i H' x H'' hi s y => by obtain ⟨rfl, hy⟩ := y; exact ⟨Same.refl _, hy xs (s.seq h)⟩
theorem comp_ix {J : It} {H : Hp} {D : Addr} {n : Nat} {P : Nat -> V -> Hp -> Prop} (w : Wlk J H n P) (c : Nat -> Bool) (f : Nat -> V) {src : List (Option Nat)} {σ : L2.St} {g : TG} {tt : TT} {te : TE} {Q : Hp -> Prop} (hD : H D = none) (hn : n ≤ 1000)
  (turn : ∀ (i : Nat) (x : V) (H' : Hp), i < n -> Same H H' -> P i x H' -> ∀ (R : VK) (E : Hp -> Prop), (c i = true -> ∀ H'', Same H' H'' -> R (f i) H'') -> (c i = false -> ∀ H'', Same H' H'' -> E H'') →
   g x (frees src σ) H' fun σ2 H2 => Ext (frees src σ) σ2 /\ tt σ2 H2 fun ok H3 => if ok = true then te σ2 H3 R else E H3)
  (fin : ∀ H', Same H H' -> H' D = some (.lst (((List.range n).filter c).map f)) -> Q H') :
  ∃ W : Nat -> Nat -> List V -> Hp -> Prop, (∃ m, W 0 m [] (upd H D (.lst []))) /\ ∀ i m ys H, W i m ys H -> (J.stop i H /\ Q H) ∨ (J.go i H /\ ∀ x H', J.yld i H x H' →
   g x (frees src σ) H' fun σ2 H2 => Ext (frees src σ) σ2 /\ tt σ2 H2 fun ok H3 =>
    if ok = true then te σ2 H3 fun y H4 => H4 D = some (.lst ys) /\ ys.length < sizeLine /\ ∃ m', m' < m /\ W (i + 1) m' (ys ++ [y]) (upd H4 D (.lst (ys ++ [y]))) else ∃ m', m' < m /\ W (i + 1) m' ys H3) := by
 refine ⟨fun i m ys H' => i ≤ n /\ m = n - i /\ ys = ((List.range i).filter c).map f /\ Same H H' /\ H' D = some (.lst ys), ⟨_, Nat.zero_le _, rfl, rfl, same_new hD _, upd_same⟩, ?_⟩
 rintro i m ys H1 ⟨hi, rfl, rfl, s1, d1⟩
 by_cases hix : i < n
 ·refine .inr ⟨w.go i H1 hix s1, fun x H2 y => ?_⟩
  obtain ⟨s2, p⟩ := w.yld i H1 x H2 hix s1 y
  have d2 := s2 _ _ d1
  have len : (((List.range i).filter c).map f).length ≤ i := by
   rw [List.length_map]
   exact Nat.le_trans (List.length_filter_le _ _) (by rw [List.length_range]; exact Nat.le_refl _)
  refine turn i x H2 hix (s1.trans s2) p _ _ (fun hc H3 s3 => ?_) fun hc H3 s3 => ?_
  ·have d3 := s3 _ _ d2
   refine ⟨d3, small1000 (by omega), n - (i + 1), by omega, hix, rfl, ?_, fun b o q => ?_, upd_same⟩
   ·rw [List.range_succ, List.filter_append, List.map_append]
    simp [hc]
   ·rw [upd_ne (ne_of_none q hD)]
    exact s3 _ _ (s2 _ _ (s1 _ _ q))
  ·refine ⟨n - (i + 1), by omega, hix, rfl, ?_, (s1.trans s2).trans s3, s3 _ _ d2⟩
   rw [List.range_succ, List.filter_append, List.map_append]
   simp [hc]
 ·have e : i = n := by omega
  subst e
  exact .inl ⟨w.stop H1 s1, fin H1 s1 d1⟩
theorem by_place {α β : Type} (d : α) (p : α -> Bool) (f : α -> β) : ∀ l : List α, ((List.range l.length).filter fun i => p (l.getD i d)).map (fun i => f (l.getD i d)) = (l.filter p).map f
 | [] => rfl
 | x :: l => by
  have ih := by_place d p f l
  rw [List.length_cons, List.range_succ_eq_map, List.filter_cons, List.filter_cons]
  have e : (((List.range l.length).map Nat.succ).filter fun i => p ((x :: l).getD i d)).map (fun i => f ((x :: l).getD i d)) = (l.filter p).map f := by
   rw [List.filter_map, List.map_map]
   exact ih
  show (if p x = true then _ else _ : List Nat).map _ = _
  cases hp : p x with
  | true =>
   simp only [if_true, List.map_cons]
   rw [e]; rfl
  | false =>
   simp only [Bool.false_eq_true, if_false]
   exact e
theorem by_place_all {α β : Type} (d : α) (f : α -> β) (l : List α) : ((List.range l.length).filter fun _ => true).map (fun i => f (l.getD i d)) = l.map f := by
 have := by_place d (fun _ => true) f l
 rw [this, List.filter_eq_self.mpr (by intros; rfl)]
theorem hit_is {h : Heap} {x y : Value} {d e : PyData} {as bs : List Addr} (rx : Reads h x d as) (ry : Reads h y e bs) (cd : d.canLay0 = true) (ce : e.canLay0 = true) (dp : e.depth ≤ 32) (rf : PyData.eqv d d = true) : hitAt h x d y = PyData.eqv e d := by
 unfold hitAt
 by_cases q : y = x
 ·subst q
  rw [if_pos rfl, SeqAt.Reads.unique _ _ _ _ _ ce ry rx, rf]
 ·have z : ∃ d', d'.canLay0 = true /\ d'.depth ≤ 32 /\ ∃ as, Reads h y d' as := ⟨e, ce, dp, bs, ry⟩
  rw [if_neg q, dif_pos z]
  obtain ⟨c, _, cs, r⟩ := z.choose_spec
  rw [SeqAt.Reads.unique _ _ _ _ _ ce ry r]
def Lays (ds : List PyData) : Prop := ∀ e ∈ ds, e.canLay0 = true /\ e.depth ≤ 32
theorem hits_map {X : Cx} {pins : PLs} {σ : L2.St} {H : Hp} {s : Shared} (I : Inv X pins σ H s) {v : Value} {d : PyData} {as : List Addr} (rx : Reads s.heap v d as) (cd : d.canLay0 = true) (rf : PyData.eqv d d = true) :
  ∀ {xs : List V} {us : List Value} {ds : List PyData}, Vals xs us -> DeepAll X.K H xs ds -> Lays ds -> us.map (hitAt s.heap v d) = ds.map fun e => PyData.eqv e d
 | _, _, _, .nil, .nil, _ => rfl
 | _, _, _, .cons r t, .cons h k, l => by
  obtain ⟨bs, ry⟩ := Deep.reads I h r
  obtain ⟨ce, dp⟩ := l _ List.mem_cons_self
  rw [List.map_cons, List.map_cons, hit_is rx ry cd ce dp rf, hits_map I rx cd rf t k fun e he => l e (List.mem_cons_of_mem _ he)]
theorem DeepAll.known {K : Fg} {H : Hp} : ∀ {xs : List V} {ds : List PyData}, DeepAll K H xs ds -> Lays ds -> Known K H xs
 | _, _, .nil, _, x, hx => by cases hx
 | _, _, .cons h t, l, x, hx => by
  rcases List.mem_cons.mp hx with rfl | hx
  ·obtain ⟨a, b⟩ := l _ List.mem_cons_self
   exact ⟨_, h, a, b⟩
  ·exact DeepAll.known t (fun e he => l e (List.mem_cons_of_mem _ he)) x hx
def rInD (K : Fg) : R2 := fun x y H Q => ∃ p xs ds d, y = .ref p /\ SqL K H p xs /\ DeepAll K H xs ds /\ Lays ds /\ Deep K H x d /\ d.canLay0 = true /\ PyData.eqv d d = true /\ Q (.bl (ds.any fun e => PyData.eqv e d)) H
def rNotInD (K : Fg) : R2 := fun x y H Q => ∃ p xs ds d, y = .ref p /\ SqL K H p xs /\ DeepAll K H xs ds /\ Lays ds /\ Deep K H x d /\ d.canLay0 = true /\ PyData.eqv d d = true /\ Q (.bl (!ds.any fun e => PyData.eqv e d)) H
theorem any_of_map {α β : Type} {f : α -> Bool} {g : β -> Bool} : ∀ {l : List α} {m : List β}, l.map f = m.map g -> l.any f = m.any g
 | [], [], _ => rfl
 | [], _ :: _, h => by simp at h
 | _ :: _, [], h => by simp at h
 | a :: l, b :: m, h => by
  rw [List.map_cons, List.map_cons] at h
  injection h with h1 h2
  rw [List.any_cons, List.any_cons, h1, any_of_map h2]
theorem op_inD {X : Cx} {k : Nat} (hr : Room k X.A) : OpR X (compareOp .In) (rInD X.K) := by
 intro pins s σ H x y v u Q I rx ry h
 obtain ⟨p, xs, ds, d, rfl, hq, hd, ls, hx, cd, rf, q⟩ := h
 cases ry
 obtain ⟨its, r, pl, hz⟩ := I.list hq
 obtain ⟨as, ra⟩ := Deep.reads I hx rx
 refine SeqAt.in_listAt (hitAt s.heap v d) pl.isList (fun w hw => hitAt_eq ra cd (by show X.A.units + 1 + 32 < cLine; have := hr.units; omega) (known_reads I r (hd.known ls) w (by simpa using hw))) ⟨_, H, I, ?_, q⟩
 show Value.bool (its.toArray.any (hitAt s.heap v d)) = Value.bool (ds.any fun e => PyData.eqv e d)
 rw [List.any_toArray, any_of_map (hits_map I ra cd rf r hd ls)]
def rInDT (K : Fg) : R2 := fun x y H Q => ∃ p xs ds d, y = .ref p /\ SqT K H p xs /\ DeepAll K H xs ds /\ Lays ds /\ Deep K H x d /\ d.canLay0 = true /\ PyData.eqv d d = true /\ Q (.bl (ds.any fun e => PyData.eqv e d)) H
theorem op_inDT {X : Cx} {k : Nat} (hr : Room k X.A) : OpR X (compareOp .In) (rInDT X.K) := by
 intro pins s σ H x y v u Q I rx ry h
 obtain ⟨p, xs, ds, d, rfl, hq, hd, ls, hx, cd, rf, q⟩ := h
 cases ry
 obtain ⟨its, r, pl, hz⟩ := I.tuple hq
 obtain ⟨as, ra⟩ := Deep.reads I hx rx
 refine SeqAt.in_tupleAt (hitAt s.heap v d) pl (fun w hw => hitAt_eq ra cd (by show X.A.units + 1 + 32 < cLine; have := hr.units; omega) (known_reads I r (hd.known ls) w (by simpa using hw))) ⟨_, H, I, ?_, q⟩
 show Value.bool (its.toArray.any (hitAt s.heap v d)) = Value.bool (ds.any fun e => PyData.eqv e d)
 rw [List.any_toArray, any_of_map (hits_map I ra cd rf r hd ls)]
def rIndexD (K : Fg) : V -> List V -> Hp -> VK -> Prop := fun x vs H Q => ∃ p xs ds w d, x = .ref p /\ vs = [w] /\ SqL K H p xs /\ DeepAll K H xs ds /\ Lays ds /\ Deep K H w d /\ d.canLay0 = true /\ PyData.eqv d d = true /\ (∃ e ∈ ds, PyData.eqv e d = true) ∧
 ∀ (j : Nat) (e : PyData), ds[j]? = some e -> PyData.eqv e d = true -> (∀ m f, m < j -> ds[m]? = some f -> PyData.eqv f d = false) -> Q (.int j) H
theorem at_of_map {α β γ : Type} {f : α -> γ} {g : β -> γ} {l : List α} {m : List β} (h : l.map f = m.map g) {j : Nat} {a : α} {b : β} (ha : l[j]? = some a) (hb : m[j]? = some b) : f a = g b := by
 have e : (l.map f)[j]? = (m.map g)[j]? := by rw [h]
 rw [List.getElem?_map, List.getElem?_map, ha, hb] at e
 exact Option.some.inj e
theorem mt_indexD {X : Cx} {k : Nat} (hr : Room k X.A) : MtR X "list.index" (rIndexD X.K) := by
 intro pins s σ H x vs v us Q I rx rv h
 obtain ⟨p, xs, ds, w, d, rfl, rfl, hq, hd, ls, hx, cd, rf, ex, q⟩ := h
 cases (show v = Value.ref p from rx)
 obtain ⟨u, rfl, ru⟩ := rv.one
 obtain ⟨its, r, pl, hz⟩ := I.list hq
 obtain ⟨⟨cls, dd, data, sl⟩, ho, hc, n, hdt⟩ := id pl.isList
 simp only at hc hdt
 subst hc hdt
 obtain ⟨as, ra⟩ := Deep.reads I hx ru
 have mp := hits_map I ra cd rf r hd ls
 have hl := r.length
 have hl2 := hd.len
 have l12 : its.length = ds.length := by omega
 obtain ⟨e, he, eh⟩ := ex
 have some_hit : ∃ y ∈ its, hitAt s.heap u d y = true := by
  obtain ⟨j, hj⟩ := List.getElem?_of_mem he
  have hjl := (List.getElem?_eq_some_iff.mp hj).1
  have hy : its[j]? = some (its[j]'(by omega)) := List.getElem?_eq_getElem _
  exact ⟨_, List.mem_of_getElem? hy, (at_of_map mp hy hj).trans eh⟩
 obtain ⟨j, hj, e1, e2⟩ := first_hit (hitAt s.heap u d) its some_hit
 have hs : sizeLine < 2 ^ 63 - 1 := by decide
 refine call_meets PySem.F.slot_list_index ⟨_, ho, rfl⟩ PySem.F.entry_list_index (PySem.F.args_list_index_2 _ _)
  (SeqAt.list_indexAt p its.toArray n dd sl u (hitAt s.heap u d) j (by simpa using hj) (by omega) (by simpa using e1) (fun m hm' hlt => by simpa using e2 m (by simpa using hm') hlt))
  ⟨ho, fun y hy => hitAt_eq ra cd (by show X.A.units + 1 + 32 < cLine; have := hr.units; omega) (known_reads I r (hd.known ls) y (by simpa using hy)), ⟨.int j, H, I.tok _, ⟨_, rfl⟩, ?_⟩⟩
 have dj : ds[j]? = some (ds[j]'(by omega)) := List.getElem?_eq_getElem _
 have ij : its[j]? = some (its[j]'hj) := List.getElem?_eq_getElem _
 refine q j _ dj ((at_of_map mp ij dj).symm.trans e1) fun m f hm hf => ?_
 have hml := (List.getElem?_eq_some_iff.mp hf).1
 have im : its[m]? = some (its[m]'(by omega)) := List.getElem?_eq_getElem _
 exact (at_of_map mp im hf).symm.trans (e2 m (by omega) hm)
def rInsert : V -> List V -> Hp -> VK -> Prop := fun x vs H Q => ∃ (l : Addr) (xs : List V) (j : Nat) (y : V), x = .ref l /\ vs = [.int j, y] /\ H l = some (.lst xs) /\ j ≤ xs.length /\ xs.length < sizeLine /\ Q .non (upd H l (.lst (xs.take j ++ y :: xs.drop j)))
mutual
def ibd : PyData -> Bool
 | .int i => decide (i.natAbs < 2 ^ 230)
 | .tuple ds => ibdAll ds
 | .list ds => ibdAll ds
 | .dict _ => false
 | _ => true
def ibdAll : List PyData -> Bool
 | [] => true
 | d :: ds => ibd d && ibdAll ds
end
theorem ibdAll_of : ∀ {ds : List PyData}, (∀ d ∈ ds, ibd d = true) -> ibdAll ds = true
 | [], _ => rfl
 | d :: ds, h => by
  show (ibd d && ibdAll ds) = true
  rw [h d List.mem_cons_self, ibdAll_of fun e he => h e (List.mem_cons_of_mem _ he)]; rfl
theorem layAll_of : ∀ {ds : List PyData}, (∀ d ∈ ds, d.canLay0 = true) -> PyData.canLayAll0 ds = true
 | [], _ => rfl
 | d :: ds, h => by
  show (d.canLay0 && PyData.canLayAll0 ds) = true
  rw [h d List.mem_cons_self, layAll_of fun e he => h e (List.mem_cons_of_mem _ he)]; rfl
structure Gd (k n : Nat) (d : PyData) : Prop where
 sh : Sh k n d
 lay : d.canLay0 = true
 bd : ibd d = true
theorem Sh.lst {k n m N : Nat} {ds : List PyData} (h : ∀ d ∈ ds, Sh k n d) (hm : ds.length ≤ m) (hN : (n + 3) * m + 8 ≤ N) : Sh (k + 1) N (.list ds) := by
 obtain ⟨a, b, c, e, f⟩ := Sh.all h
 refine ⟨a, b, Nat.succ_le_succ c, ?_⟩
 show (listText (PyData.shownAll ds)).length ≤ N
 have q := listText_len_le (PyData.shownAll ds)
 have l : n * ds.length + 3 * ds.length ≤ (n + 3) * m := by
  rw [← Nat.add_mul]
  exact Nat.mul_le_mul_left _ hm
 omega
theorem Gd.lst {k n m N : Nat} {ds : List PyData} (h : ∀ d ∈ ds, Gd k n d) (hm : ds.length ≤ m) (hN : (n + 3) * m + 8 ≤ N) : Gd (k + 1) N (.list ds) :=
 ⟨Sh.lst (fun d hd => (h d hd).sh) hm hN, layAll_of fun d hd => (h d hd).lay, ibdAll_of fun d hd => (h d hd).bd⟩
theorem gd_dR {r : R} (h : Wf 230 r) : Gd 1 5000 (dR r) := ⟨sh_dR h (by decide), dR_lay r, by
 show (decide (r.1.natAbs < 2 ^ 230) && (decide (r.2.natAbs < 2 ^ 230) && true)) = true
 rw [decide_eq_true h.top, decide_eq_true h.bot]; rfl⟩
def decR : PyData -> R
 | .tuple [.int a, .int b] => (a, b)
 | _ => (0, 1)
def decRow : PyData -> R × R
 | .tuple [x, y] => (decR x, decR y)
 | _ => rowD
end B
namespace B
open PySem PySem.Spec L2 PyProof.Rows
theorem comp_own {J : It} {H : Hp} {D : Addr} {n : Nat} (Pv : Nat -> List V -> Hp -> Prop) {src : List (Option Nat)} {σ : L2.St} {g : TG} {tt : TT} {te : TE} {Q : Hp -> Prop} (h0 : Pv 0 [] (upd H D (.lst [])))
  (go : ∀ i ys H', i < n -> Pv i ys H' -> J.go i H') (stop : ∀ ys H', Pv n ys H' -> J.stop n H' /\ Q H')
  (turn : ∀ i ys H' x H'', i < n -> Pv i ys H' -> J.yld i H' x H'' -> ∀ (R : VK) (E : Hp -> Prop), (∀ y H4, H4 D = some (.lst ys) -> ys.length < sizeLine -> Pv (i + 1) (ys ++ [y]) (upd H4 D (.lst (ys ++ [y]))) -> R y H4) -> (∀ H3, Pv (i + 1) ys H3 -> E H3) →
   g x (frees src σ) H'' fun σ2 H2 => Ext (frees src σ) σ2 /\ tt σ2 H2 fun ok H3 => if ok = true then te σ2 H3 R else E H3) :
  ∃ W : Nat -> Nat -> List V -> Hp -> Prop, (∃ m, W 0 m [] (upd H D (.lst []))) /\ ∀ i m ys H, W i m ys H -> (J.stop i H /\ Q H) ∨ (J.go i H /\ ∀ x H', J.yld i H x H' →
   g x (frees src σ) H' fun σ2 H2 => Ext (frees src σ) σ2 /\ tt σ2 H2 fun ok H3 =>
    if ok = true then te σ2 H3 fun y H4 => H4 D = some (.lst ys) /\ ys.length < sizeLine /\ ∃ m', m' < m /\ W (i + 1) m' (ys ++ [y]) (upd H4 D (.lst (ys ++ [y]))) else ∃ m', m' < m /\ W (i + 1) m' ys H3) := by
 refine ⟨fun i m ys H' => i ≤ n /\ m = n - i /\ Pv i ys H', ⟨_, Nat.zero_le _, rfl, h0⟩, ?_⟩
 rintro i m ys H1 ⟨hi, rfl, p⟩
 by_cases hix : i < n
 ·refine .inr ⟨go i ys H1 hix p, fun x H2 y => ?_⟩
  refine turn i ys H1 x H2 hix p y _ _ (fun y H4 a b c => ⟨a, b, n - (i + 1), by omega, hix, rfl, c⟩) fun H3 c => ⟨n - (i + 1), by omega, hix, rfl, c⟩
 ·have e : i = n := by omega
  subst e
  exact .inl (stop ys H1 p)
def tCut (t : TS) : TS := fun D σ H => ∃ M : L2.St -> Hp -> Prop, t { D with nx := M } σ H /\ ∀ σ' H', M σ' H' -> D.nx σ' H'
theorem qs_cut {X : Cx} {st : Stmt} {t : TS} (h : QS X st t) : QS X st (tCut t) := ⟨by
 intro pins s σ H D I q
 obtain ⟨M, q, k⟩ := q
 refine thn (h.p pins s σ H _ I q) fun f s' z => ?_
 cases f with
 | next => obtain ⟨σ', H', I', m⟩ := z; exact ⟨σ', H', I', k _ _ m⟩
 | brk => exact z
 | cont => exact z
 | ret u => exact z⟩
def Iti (d : Addr) (ob : Obj) (kvs : List (Key × V)) : It :=
 ⟨fun i H => H d = some (.frz ob (.dK kvs)) /\ i < kvs.length,
  fun i H x H' => ∃ p k v, H p = none /\ x = .ref p /\ kvs[i]? = some (k, v) /\ H' = upd H p (.tup [kV k, v]),
  fun i H => H d = some (.frz ob (.dK kvs)) /\ kvs.length ≤ i⟩
theorem KV.get : ∀ {kvs : List (Key × V)} {vs : List (Key × Value)}, KV kvs vs -> ∀ {i : Nat} {k : Key} {v : V}, kvs[i]? = some (k, v) -> ∃ u, vs[i]? = some (k, u) /\ RelV v u
 | _, _, .nil, i, k, v, h => by simp at h
 | (a, b) :: r, (c, d) :: t, .cons h z, 0, k, v, e => by
  have e' : (a, b) = (k, v) := by simpa using e
  cases e'
  obtain ⟨h1, h2⟩ := h
  have h1' : a = c := h1
  subst h1'
  exact ⟨d, rfl, h2⟩
 | _ :: r, _ :: t, .cons h z, i + 1, k, v, e => by
  obtain ⟨u, q, w⟩ := KV.get z (i := i) (by simpa using e)
  exact ⟨u, by simpa using q, w⟩
theorem kV_of {k : Key} {u : Value} (h : keyIs k u = true) : RelV (kV k) u := by
 rcases keyIs_shape h with ⟨i, t, rfl, rfl⟩ | ⟨x, t, rfl, rfl⟩
 ·exact ⟨t, rfl⟩
 ·exact ⟨t, rfl⟩
theorem en_iit : entryFor table "dict_itemiterator.__iter__" = some Builtin.«dict_keyiterator.__iter__» :=
 entryFor_alias (by kernel_rfl) (by first | rfl | decide +kernel | (unfold String.splitOn; simp +decide [String.splitOnAux])) (by decide +kernel) (by kernel_rfl) (id' := "dict_keyiterator.__iter__")
theorem turn_items {P : Program} {w : World} {K : Fg} {elts : List Expr} {x1} {pos : Pos} {it d : Addr} {ob : Obj} {kvs : List (Key × V)} {es : Array DictEntry} {ep : Nat} (hob : ob.data = .dict es ep) :
  Turn P w K (.Tuple elts x1 pos) (Iti d ob kvs) [it] it (fun i h => ∃ ok ov, IsItemIter h it d i kvs.length ep ok ov) where
 mem := by simp
 obj := fun i h st c hc => by
  obtain ⟨ok, ov, e⟩ := st
  rw [List.mem_singleton] at hc
  subst hc
  exact ⟨_, e, fun v q => by cases (show Data.fields _ = Data.cell v from q)⟩
 keep := fun i h h' ⟨ok, ov, e⟩ k => ⟨ok, ov, k it (by simp) _ e⟩
 item := by
  intro X hP hw hK hc i pins s σ H E I hf st hg
  subst hP hw hK
  obtain ⟨hd, hi⟩ := hg
  obtain ⟨ok, ov, e⟩ := st
  obtain ⟨q0, z, hds, vs, rel, o, es', ep', d1, d2, d3, d4⟩ := (show ObjOk X.prog X.w H s.heap d (.frz ob (.dK kvs)) from I.hok d _ hd)
  have eo : o = ob := Option.some.inj (d1.symm.trans q0)
  subst eo
  rw [hob] at d3
  cases d3
  have dat : s.heap.DictAt (mixKind X.prog X.w) d vs ep := ⟨o, es, d1, d2, hob, d4⟩
  obtain ⟨k, v, hkv'⟩ : ∃ k v, kvs[i]? = some (k, v) := ⟨(kvs[i]'hi).1, (kvs[i]'hi).2, List.getElem?_eq_getElem hi⟩
  obtain ⟨u, hu, ru⟩ := KV.get rel hkv'
  have ndi : it ≠ d := fun q => by rw [q] at hf; have := (hf d (by simp)).1; rw [hd] at this; cases this
  have itl : it < s.heap.objs.size := Heap.lt_size e
  rw [rel.length] at e
  refine wpAny_pyNext_items_item e dat hu fun key h1 hkey eo tup hz hk => ⟨_, rfl, wpAny_letOwnedTupleGo_items eo fun h2 e2 sb => ?_⟩
  have nt : s.heap.objs.size ≠ it := Nat.ne_of_gt itl
  have P : ObjOk X.prog X.w (upd H s.heap.objs.size (.tup [kV k, v])) h2 s.heap.objs.size (.tup [kV k, v]) :=
   ⟨by show 2 ≤ sizeLine; decide, [key, u], .cons (kV_of hkey) (.cons ru .nil), ⟨_, sb.extBut _ _ nt tup, rfl, _, rfl⟩⟩
  have I2 : Inv X pins σ (upd H s.heap.objs.size (.tup [kV k, v])) { s with heap := h2, toks := s.toks } := turnedN I (fun c o' n q => by
   have n' : c ≠ it := fun r => n (by simp [r])
   exact sb.extBut _ _ n' (hk c o' n' q)) hf (Nat.le_refl _) P
  refine ⟨.ref s.heap.objs.size, _, I2, rfl, ⟨_, k, v, I.fresh, rfl, hkv', rfl⟩, ⟨key, u, by rw [rel.length]; exact e2⟩, fun c hc => ?_⟩
  have hc' : c = it := by simpa using hc
  rw [hc', upd_ne (Ne.symm nt)]
  exact (hf it (by simp)).1
 done := by
  intro X hP hw hK hc i pins s σ H E I hf st hg
  subst hP hw hK
  obtain ⟨hd, hi⟩ := hg
  obtain ⟨ok, ov, e⟩ := st
  obtain ⟨q0, z, hds, vs, rel, o, es', ep', d1, d2, d3, d4⟩ := (show ObjOk X.prog X.w H s.heap d (.frz ob (.dK kvs)) from I.hok d _ hd)
  have eo : o = ob := Option.some.inj (d1.symm.trans q0)
  subst eo
  rw [hob] at d3
  cases d3
  have dat : s.heap.DictAt (mixKind X.prog X.w) d vs ep := ⟨o, es, d1, d2, hob, d4⟩
  have hh : X.A.in1.handled = none := I.ok.hd hc
  rw [rel.length] at e hi
  refine wpAny_pyNext_items_end hh e dat (List.getElem?_eq_none hi) fun h1 ex => ⟨rfl, ?_⟩
  exact turnedL (t' := s.toks) I (fun c o' n q => ex c o' (fun r => n (by simp [r])) q) hf
 self := fun A i s Q E st h => by
  obtain ⟨ok, ov, e⟩ := st
  have hT : s.TypeIs (.ref it) "dict_itemiterator" := ⟨_, e, rfl⟩
  refine wpAny_pyIter_slot hT PySem.F.slot_dict_itemiterator_iter (wpAny_call_entry PySem.F.slot_dict_itemiterator_iter hT en_iit ?_ (PySem.F.args_dict_itemiterator_iter_1 _))
  show wpAny _ _ (ret (.ref it)) _ _ s
  exact wpAny_pure ⟨_, rfl, "dict_itemiterator", _, hT, PySem.F.slot_dict_itemiterator_next.lookup, h⟩
def iItems (td : TE) : TI := fun σ H R => td σ H fun x H1 => ∃ d kvs, x = .ref d /\ H1 d = some (.dK kvs) /\ ∀ ob, R (Iti d ob kvs) (upd H1 d (.frz ob (.dK kvs)))
theorem pi_items {X : Cx} {elts : List Expr} {x1} {tp apos pos : Pos} {o : Expr} {td : TE} (ho : PE X o td) (hb : attributeBase o "items" X.env (eval o X.env) = eval o X.env := by rfl) (hl : (apos.endLine == pos.line) = true := by rfl) :
  PI X (.Tuple elts x1 tp) (.Call (.Attribute o "items" apos) [] [] pos) (iItems td) := by
 intro pins s σ H R I h
 refine wpAny_Call_method (T := "dict") (id := "dict.items") hb rfl hl PySem.F.plainAttrs_dict PySem.F.slot_dict_items PySem.F.type_dict_items (thn (ho pins s σ H _ I h) fun u s1 ⟨x, H1, I1, rx, d, kvs, ex, e, q⟩ => ?_)
 subst ex
 obtain rfl : u = Value.ref d := rx
 obtain ⟨z, hds, vs, rel, dd⟩ := dk_of I1.hok e
 obtain ⟨t1, t2, _⟩ := isD_at I1 (.inl ⟨kvs, .inl e⟩)
 refine ⟨t1, t2, ?_⟩
 show wpAny _ _ (callWith pos (.builtin "dict.items") [.ref d] [] []) _ _ _
 refine method_meetsIn PySem.F.slot_dict_items PySem.F.entry_dict_items rfl (PySem.evalArgs_none ⟨rfl, t1, PySem.F.args_dict_items_1 _, _, meets_dict_items (mixKind X.prog X.w) d hds, ⟨vs, dd⟩, ?_⟩)
 obtain ⟨o', es, ep, d1, d2, d3, d4⟩ := id dd
 have dat : s1.heap.DictAt (mixKind X.prog X.w) d vs ep := ⟨o', es, d1, d2, d3, d4⟩
 refine wpAny_pyIter_items (d := d) (kvs := vs) (ep := ep) ⟨_, Heap.get?_push_size _ rfl, rfl, rfl⟩ (dat.push _) ?_
 have sz : (s1.heap.push { cls := .type "dict_items", data := .fields #[.ref d] }).objs.size = s1.heap.objs.size + 1 := Heap.size_push ..
 have I2 := I1.kept (t' := s1.toks) (h' := (s1.heap.push { cls := .type "dict_items", data := .fields #[.ref d] }).push { cls := .type "dict_itemiterator", data := .fields #[.none, .bool false, .ref d, .int 0 0, .int vs.length 0, .int ep 0, .none, .none] }) fun b o q => Heap.get?_push_of_some _ (Heap.get?_push_of_some _ q)
 have hit := Heap.get?_push_size (s1.heap.push { cls := .type "dict_items", data := .fields #[.ref d] }) (o := { cls := .type "dict_itemiterator", data := .fields #[.none, .bool false, .ref d, .int 0 0, .int vs.length 0, .int ep 0, .none, .none] }) rfl
 have dl : d < s1.heap.objs.size := Heap.lt_size d1
 have k2 : ∀ b o, s1.heap.get? b = some o -> ((s1.heap.push { cls := .type "dict_items", data := .fields #[.ref d] }).push { cls := .type "dict_itemiterator", data := .fields #[.none, .bool false, .ref d, .int 0 0, .int vs.length 0, .int ep 0, .none, .none] }).get? b = some o := fun b o q => Heap.get?_push_of_some _ (Heap.get?_push_of_some _ q)
 generalize (s1.heap.push { cls := .type "dict_items", data := .fields #[.ref d] }).push { cls := .type "dict_itemiterator", data := .fields #[.none, .bool false, .ref d, .int 0 0, .int vs.length 0, .int ep 0, .none, .none] } = hE at I2 hit k2 ⊢
 rw [sz] at hit ⊢
 have I3 := d_write (h' := hE) (t' := s1.toks) (ob := .frz o' (.dK kvs)) I2 (by rw [e]; exact True.intro) ⟨rfl, fun _ _ => rfl⟩ ⟨_, k2 _ _ d1⟩ ⟨k2 _ _ d1, z, hds, vs, rel, o', es, ep, k2 _ _ d1, d2, d3, d4⟩
 have nd : s1.heap.objs.size + 1 ≠ d := Nat.ne_of_gt (Nat.lt_succ_of_lt dl)
 refine ⟨_, [s1.heap.objs.size + 1], _, _, _, rfl, I3, turn_items d3, ⟨.none, .none, by rw [rel.length]; exact hit⟩, fun c hc => ?_, q o'⟩
 have hc' : c = s1.heap.objs.size + 1 := by simpa using hc
 subst hc'
 exact I1.fpOk (Nat.le_succ _) (by rw [upd_ne nd]; exact I1.hok.fresh (Nat.le_succ _))
theorem for_items {d : Addr} {ob : Obj} {kvs : List (Key × V)} {g : TG} {tb : TS} {D : Ends} {σ : L2.St} {H : Hp} (Pv : Nat -> L2.St -> Hp -> Prop) (h0 : Pv 0 σ H)
  (hl : ∀ i σ H, Pv i σ H -> H d = some (.frz ob (.dK kvs)))
  (hs : ∀ i k v p σ H, kvs[i]? = some (k, v) -> Pv i σ H -> H p = none -> g (.ref p) σ (upd H p (.tup [kV k, v])) fun σ2 H2 => tb { D with nx := Pv (i + 1), ct := Pv (i + 1), bk := D.nx } σ2 H2) (hd : ∀ σ H, Pv kvs.length σ H -> D.nx σ H) :
  ∃ W : Nat -> Nat -> L2.St -> Hp -> Prop, (∃ m, W 0 m σ H) /\ ∀ i m σ H, W i m σ H →
   ((Iti d ob kvs).stop i H /\ D.nx σ H) ∨ ((Iti d ob kvs).go i H /\ ∃ N : L2.St -> Hp -> Prop, (∀ σ' H', N σ' H' -> ∃ m', m' < m /\ W (i + 1) m' σ' H') /\ ∀ x H', (Iti d ob kvs).yld i H x H' -> g x σ H' fun σ2 H2 => tb { D with nx := N, ct := N, bk := D.nx } σ2 H2) := by
 refine ⟨fun i m σ H => m = kvs.length - i /\ i ≤ kvs.length /\ Pv i σ H, ⟨_, rfl, Nat.zero_le _, h0⟩, ?_⟩
 rintro i m σ H ⟨rfl, hi, p⟩
 have q := hl i σ H p
 by_cases hlt : i < kvs.length
 ·refine .inr ⟨⟨q, hlt⟩, Pv (i + 1), fun σ' H' p' => ⟨kvs.length - (i + 1), by omega, rfl, hlt, p'⟩, fun x H' y => ?_⟩
  obtain ⟨pp, k, v, hp, rfl, hkv, rfl⟩ := y
  exact hs i k v pp σ _ hkv p hp
 ·have e : i = kvs.length := by omega
  subst e
  exact .inl ⟨⟨q, Nat.le_refl _⟩, hd σ H p⟩
def enc (ps : List (Int × Int)) : List (Key × V) := ps.map fun p => (Sum.inl p.1, V.int p.2)
def topP : List (Int × Int) -> Int -> Int
 | [], _ => 0
 | (c, u) :: r, b => if c = b then u else topP r b
def addP : List (Int × Int) -> Int -> Int -> List (Int × Int)
 | [], b, t => [(b, 0 + t)]
 | (c, u) :: r, b, t => if c = b then (c, u + t) :: r else (c, u) :: addP r b t
theorem put_here {p : Key × V} {r : List (Key × V)} {k : Key} {v : V} (e : p.1 = k) (n : ∀ q ∈ r, q.1 ≠ k) : putK (p :: r) k v = (k, v) :: r := by
 unfold putK
 rw [if_pos (by simp [e]), List.map_cons, if_pos e, e]
 congr 1
 exact (List.map_congr_left (g := id) (fun q hq => by rw [if_neg (n q hq)]; rfl)).trans (List.map_id r)
theorem put_there {p : Key × V} {r : List (Key × V)} {k : Key} {v : V} (e : ¬ p.1 = k) : putK (p :: r) k v = p :: putK r k v := by
 unfold putK
 rw [List.any_cons, decide_eq_false e, Bool.false_or]
 split
 ·rw [List.map_cons, if_neg e]
 ·rfl
theorem get_enc : ∀ (ps : List (Int × Int)) (b : Int), (valV (enc ps) (Sum.inl b)).getD (V.int 0) = V.int (topP ps b)
 | [], b => rfl
 | (c, u) :: r, b => by
  show (valV ((Sum.inl c, V.int u) :: enc r) (Sum.inl b)).getD (V.int 0) = V.int (if c = b then u else topP r b)
  by_cases e : c = b
  ·rw [if_pos e, valV_pos (by rw [e])]; rfl
  ·rw [if_neg e, valV_neg (fun z => e (by injection z)), get_enc r b]
theorem put_enc : ∀ (ps : List (Int × Int)) (b t : Int), (ps.map (·.1)).Nodup -> putK (enc ps) (Sum.inl b) (V.int (topP ps b + t)) = enc (addP ps b t)
 | [], b, t, _ => rfl
 | (c, u) :: r, b, t, nd => by
  have nd' := List.nodup_cons.mp nd
  show putK ((Sum.inl c, V.int u) :: enc r) (Sum.inl b) (V.int ((if c = b then u else topP r b) + t)) = enc (if c = b then (c, u + t) :: r else (c, u) :: addP r b t)
  by_cases e : c = b
  ·rw [if_pos e, if_pos e, put_here (by rw [e]) (fun q hq z => ?_)]
   ·show _ = (Sum.inl c, V.int (u + t)) :: enc r
    rw [e]
   ·obtain ⟨p, hp, rfl⟩ := List.mem_map.mp hq
    have z' : p.1 = b := by injection z
    exact nd'.1 (List.mem_map.mpr ⟨p, hp, z'.trans e.symm⟩)
  ·rw [if_neg e, if_neg e, put_there (fun z => e (by injection z)), put_enc r b t nd'.2]
   rfl
def sumv : List (Int × Int) -> Rat
 | [] => 0
 | p :: r => (p.2 : Rat) / (p.1 : Rat) + sumv r
theorem add_div {a b c : Rat} : (a + b) / c = a / c + b / c := by rw [Rat.div_def, Rat.div_def, Rat.div_def, Rat.add_mul]
theorem sumv_add : ∀ (ps : List (Int × Int)) (b t : Int), sumv (addP ps b t) = sumv ps + (t : Rat) / (b : Rat)
 | [], b, t => by
  show ((0 + t : Int) : Rat) / (b : Rat) + 0 = 0 + (t : Rat) / (b : Rat)
  rw [Int.zero_add]; grind
 | (c, u) :: r, b, t => by
  show sumv (if c = b then (c, u + t) :: r else (c, u) :: addP r b t) = (u : Rat) / (c : Rat) + sumv r + (t : Rat) / (b : Rat)
  by_cases e : c = b
  ·rw [if_pos e]
   show ((u + t : Int) : Rat) / (c : Rat) + sumv r = _
   rw [Rat.intCast_add, add_div, e]
   grind
  ·rw [if_neg e]
   show (u : Rat) / (c : Rat) + sumv (addP r b t) = _
   rw [sumv_add r b t]
   grind
theorem sumv_snoc : ∀ (ps : List (Int × Int)) (p : Int × Int), sumv (ps ++ [p]) = sumv ps + (p.2 : Rat) / (p.1 : Rat)
 | [], p => by show (p.2 : Rat) / (p.1 : Rat) + 0 = 0 + _; grind
 | q :: r, p => by
  show (q.2 : Rat) / (q.1 : Rat) + sumv (r ++ [p]) = (q.2 : Rat) / (q.1 : Rat) + sumv r + _
  rw [sumv_snoc r p]; grind
structure PsOk (n i : Nat) (ps : List (Int × Int)) : Prop where
 nd : (ps.map (·.1)).Nodup
 len : ps.length ≤ i
 bot : ∀ p ∈ ps, 0 < p.1 /\ p.1.natAbs < 2 ^ n
 top : ∀ p ∈ ps, p.2.natAbs ≤ i * 2 ^ n
theorem add_keys : ∀ (ps : List (Int × Int)) (b t : Int) (c : Int), c ∈ (addP ps b t).map (·.1) ↔ c ∈ ps.map (·.1) ∨ c = b
 | [], b, t, c => by simp [addP]
 | (d, u) :: r, b, t, c => by
  show c ∈ (if d = b then (d, u + t) :: r else (d, u) :: addP r b t).map (·.1) ↔ _
  by_cases e : d = b
  ·rw [if_pos e]
   constructor
   ·intro h; exact .inl h
   ·rintro (h | h)
    ·exact h
    ·exact List.mem_cons.mpr (.inl (h.trans e.symm))
  ·rw [if_neg e, List.map_cons, List.map_cons, List.mem_cons, List.mem_cons, add_keys r b t c]
   exact or_assoc.symm
theorem add_nd : ∀ (ps : List (Int × Int)) (b t : Int), (ps.map (·.1)).Nodup -> ((addP ps b t).map (·.1)).Nodup
 | [], b, t, _ => by simp [addP]
 | (d, u) :: r, b, t, nd => by
  have nd' := List.nodup_cons.mp nd
  show ((if d = b then (d, u + t) :: r else (d, u) :: addP r b t).map (·.1)).Nodup
  by_cases e : d = b
  ·rw [if_pos e]; exact nd
  ·rw [if_neg e, List.map_cons, List.nodup_cons]
   refine ⟨fun z => ?_, add_nd r b t nd'.2⟩
   rcases (add_keys r b t d).mp z with h | h
   ·exact nd'.1 h
   ·exact e h
theorem add_len : ∀ (ps : List (Int × Int)) (b t : Int), (addP ps b t).length ≤ ps.length + 1
 | [], b, t => Nat.le_refl 1
 | (d, u) :: r, b, t => by
  show (if d = b then (d, u + t) :: r else (d, u) :: addP r b t).length ≤ _
  split
  ·exact Nat.le_succ _
  ·exact Nat.succ_le_succ (add_len r b t)
theorem add_top : ∀ (ps : List (Int × Int)) (b t : Int) (M N : Nat), (∀ p ∈ ps, p.2.natAbs ≤ M) -> t.natAbs ≤ N -> ∀ p ∈ addP ps b t, p.2.natAbs ≤ M + N
 | [], b, t, M, N, _, ht, p, hp => by
  have e : p = (b, 0 + t) := by simpa [addP] using hp
  rw [e]
  show (0 + t).natAbs ≤ M + N
  omega
 | (d, u) :: r, b, t, M, N, h, ht, p, hp => by
  have hu : u.natAbs ≤ M := h (d, u) List.mem_cons_self
  have hr : ∀ q ∈ r, q.2.natAbs ≤ M := fun q hq => h q (List.mem_cons_of_mem _ hq)
  have hp' : p ∈ (if d = b then (d, u + t) :: r else (d, u) :: addP r b t) := hp
  split at hp'
  ·rcases List.mem_cons.mp hp' with e | e
   ·rw [e]
    show (u + t).natAbs ≤ M + N
    omega
   ·have := hr p e
    omega
  ·rcases List.mem_cons.mp hp' with e | e
   ·rw [e]
    show u.natAbs ≤ M + N
    omega
   ·exact add_top r b t M N hr ht p e
theorem PsOk.add {n i : Nat} {ps : List (Int × Int)} (h : PsOk n i ps) {r : R} (w : Wf n r) : PsOk n (i + 1) (addP ps r.2 r.1) where
 nd := add_nd ps r.2 r.1 h.nd
 len := Nat.le_trans (add_len ps r.2 r.1) (Nat.succ_le_succ h.len)
 bot := fun p hp => by
  rcases (add_keys ps r.2 r.1 p.1).mp (List.mem_map.mpr ⟨p, hp, rfl⟩) with z | z
  ·obtain ⟨q, hq, e⟩ := List.mem_map.mp z
   rw [← e]
   exact h.bot q hq
  ·rw [z]; exact ⟨w.pos, w.bot⟩
 top := fun p hp => by
  have := add_top ps r.2 r.1 (i * 2 ^ n) (2 ^ n) h.top (Nat.le_of_lt w.top) p hp
  rw [Nat.add_mul, Nat.one_mul]
  exact this
theorem PsOk.nil (n : Nat) : PsOk n 0 [] := ⟨List.nodup_nil, Nat.le_refl _, (fun _ h => nomatch h), (fun _ h => nomatch h)⟩
theorem PsOk.wf {n i : Nat} {ps : List (Int × Int)} (h : PsOk n i ps) (hi : i ≤ 255) {p : Int × Int} (hp : p ∈ ps) : Wf (n + 8) (mkR p.2 p.1) := by
 refine mkR_wf (h.bot p hp).1 ?_ (Nat.lt_of_lt_of_le (h.bot p hp).2 (Nat.pow_le_pow_right (by decide) (by omega)))
 have a := h.top p hp
 have b : i * 2 ^ n ≤ 255 * 2 ^ n := Nat.mul_le_mul_right _ hi
 have c : 0 < 2 ^ n := Nat.pow_pos (by decide)
 rw [Nat.pow_add]
 omega
def vsum : List R -> Rat
 | [] => 0
 | r :: t => val r + vsum t
theorem vsum_snoc : ∀ (rs : List R) (r : R), vsum (rs ++ [r]) = vsum rs + val r
 | [], r => by show val r + 0 = 0 + val r; grind
 | q :: t, r => by show val q + vsum (t ++ [r]) = val q + vsum t + val r; rw [vsum_snoc t r]; grind
theorem val_fold : ∀ (rs : List R) (acc : R), Red acc -> (∀ r ∈ rs, Red r) -> Red (rs.foldl plusR acc) /\ val (rs.foldl plusR acc) = val acc + vsum rs
 | [], acc, ha, _ => ⟨ha, by show val acc = val acc + 0; grind⟩
 | r :: t, acc, ha, h => by
  have hr := h r List.mem_cons_self
  obtain ⟨a, b⟩ := val_fold t (plusR acc r) (plus_red ha hr) fun q hq => h q (List.mem_cons_of_mem _ hq)
  refine ⟨a, ?_⟩
  rw [List.foldl_cons, b, val_plus ha.pos hr.pos]
  show val acc + val r + vsum t = val acc + (val r + vsum t)
  grind
theorem val_nought : val (0, 1) = 0 := by decide +kernel
theorem red_nought : Red (0, 1) := ⟨by decide, by decide⟩
theorem val_sum {rs : List R} (h : ∀ r ∈ rs, Red r) : Red (sumR rs) /\ val (sumR rs) = vsum rs := by
 obtain ⟨a, b⟩ := val_fold rs (0, 1) red_nought h
 refine ⟨a, b.trans ?_⟩
 rw [val_nought]; grind
theorem sum_is {rs : List R} {x : R} (h : ∀ r ∈ rs, Red r) (hx : Red x) (e : val x = vsum rs) : x = sumR rs :=
 val_inj hx (val_sum h).1 (e.trans (val_sum h).2.symm)
theorem Wf.red {n : Nat} {r : R} (h : Wf n r) : Red r := ⟨h.pos, h.cop⟩
section
set_option autoImplicit true
set_option relaxedAutoImplicit true
theorem qe_dnewK   : QE X (.Dict [] [] pos) tDNewK := ⟨pe_dnewK ⟩
theorem qe_dget2  (hu : X.A.units + 1 < cLine) (ho : QE X o td) (he : QE X e ty) (hf : QE X f tx) (m : M2 X o "get" apos e f cpos) : QE X (.Call (.Attribute o "get" apos) [e, f] [] cpos) (tDGet2 td ty tx) := ⟨pe_dget2 hu ho.p he.p hf.p m⟩
theorem qs_dput  (hu : X.A.units + 1 < cLine) (ho : QE X o td) (hi : QE X i ty) (hv : QE X value tv) (hs : swapsWith value (some (.Subscript o i pos')) pos.line X.env = pure false) : QS X (.Assign [.Subscript o i pos'] value pos) (sDPut td ty tv) := ⟨ps_dput hu ho.p hi.p hv.p hs⟩
theorem qi_items  {X : Cx} {elts : List Expr} {x1} {tp apos pos : Pos} {o : Expr} {td : TE} (ho : QE X o td) (hb : attributeBase o "items" X.env (eval o X.env) = eval o X.env := by rfl) (hl : (apos.endLine == pos.line) = true := by rfl) : QI X (.Tuple elts x1 tp) (.Call (.Attribute o "items" apos) [] [] pos) (iItems td) := ⟨pi_items ho.p hb hl⟩
end
theorem lst_at {h h' : Heap} {a : Addr} {ys : Array Value} (x : h.IsList a ys) (k : ∀ o, h.get? a = some o -> h'.get? a = some o) : h'.IsList a ys := let ⟨o, e, r⟩ := x; ⟨o, k o e, r⟩
theorem lstIter_lt {h : Heap} {i a : Addr} {n : Nat} (x : h.IsListIter i a n) : i < h.objs.size := let ⟨_, e, _⟩ := x; Heap.lt_size e
def ItzLT (K : Fg) (a b : Addr) : It :=
 ⟨fun i H => ∃ xs ys x y, SqL K H a xs /\ SqT K H b ys /\ xs[i]? = some x /\ ys[i]? = some y,
  fun i H v H' => ∃ p x y, H p = none /\ v = .ref p /\ H' = upd H p (.tup [x, y]) /\ (∀ xs, SqL K H a xs -> xs[i]? = some x) /\ ∀ ys, SqT K H b ys -> ys[i]? = some y,
  fun i H => ∃ xs ys, SqL K H a xs /\ SqT K H b ys /\ (xs.length ≤ i ∨ ys.length ≤ i)⟩
def ZStLT (z TI TO i1 i2 a b : Addr) (i : Nat) (h : Heap) : Prop := IsZip h z TI TO .none /\ IsPair h TI (.ref i1) (.ref i2) /\ (∃ u v, IsPair h TO u v) /\ h.IsListIter i1 a i /\ h.IsTupleIter i2 b i
theorem turn_zipLT {P : Program} {w : World} {K : Fg} {elts : List Expr} {x1} {pos : Pos} {z TI TO i1 i2 a b : Addr} (D : Five z TI TO i1 i2) :
  Turn P w K (.Tuple elts x1 pos) (ItzLT K a b) [z, TI, TO, i1, i2] z (ZStLT z TI TO i1 i2 a b) where
 mem := by simp
 obj := fun i h st c hc => by
  obtain ⟨h1, h2, ⟨u, v, h3⟩, ⟨o4, h4, c4, d4⟩, ⟨o5, h5, c5, d5⟩⟩ := st
  simp only [List.mem_cons, List.not_mem_nil, or_false] at hc
  rcases hc with rfl | rfl | rfl | rfl | rfl
  ·exact ⟨_, h1, fun v q => by cases (show Data.fields _ = Data.cell v from q)⟩
  ·exact ⟨_, h2, fun v q => by cases (show Data.seq _ _ = Data.cell v from q)⟩
  ·exact ⟨_, h3, fun v q => by cases (show Data.seq _ _ = Data.cell v from q)⟩
  ·exact ⟨o4, h4, fun v q => by rw [d4] at q; cases q⟩
  ·exact ⟨o5, h5, fun v q => by rw [d5] at q; cases q⟩
 keep := fun i h h' st k => by
  obtain ⟨h1, h2, ⟨u, v, h3⟩, h4, h5⟩ := st
  exact ⟨k z (by simp) _ h1, k TI (by simp) _ h2, ⟨u, v, k TO (by simp) _ h3⟩, lstIter_at h4 fun o e => k i1 (by simp) o e, tupIter_at h5 fun o e => k i2 (by simp) o e⟩
 item := by
  intro X hP hw hK hc i pins s σ H E I hf st hg
  subst hP hw hK
  obtain ⟨xs, ys, x, y, q1, q2, hx, hy⟩ := hg
  obtain ⟨its, rv, p1, z1⟩ := I.list q1
  obtain ⟨jts, rw', p2, z2⟩ := I.tuple q2
  obtain ⟨u, hu, ru⟩ := rv.get hx
  obtain ⟨v, hv, rv2⟩ := rw'.get hy
  have off1 : ∀ c ∈ [z, TI, TO, i1, i2], a ≠ c := fun c hc => sqL_off I q1 (hf c hc)
  have off2 : ∀ c ∈ [z, TI, TO, i1, i2], b ≠ c := fun c hc => sqT_off I q2 (hf c hc)
  obtain ⟨h1, h2, ⟨o1, o2, h3⟩, h4, h5⟩ := st
  have hT : s.TypeIs (.ref z) "zip" := ⟨_, h1, rfl⟩
  unfold pyNext
  refine wpAny_bind (wpAny_attempt (wpAny_callSpecial?_slot (name := Str.ofString "__next__") hT F.slot_zip_next
   (wpAny_call_entry F.slot_zip_next hT F.entry_zip_next ?_ (F.args_zip_next_1 _))))
  refine zip_step (x := u) (y := v) (A1 := fun h => h.IsListIter i1 a (i + 1)) (A2 := fun h => h.IsTupleIter i2 b (i + 1)) D h1 h2 h3 ?_ ?_ (lstIter_lt h4) (tupIter_lt h5) ?_
  ·intro s' G E' k g
   exact wpAny_nextOf_list_item (lstIter_at h4 fun o e => k _ o D.a3 e) (lst_at (show s.heap.IsList a its.toArray from p1.isList) fun o e => k _ o (off1 z (by simp)) e) (by simpa using hu) g
  ·intro s' G E' k g
   exact nx_item (tupIter_at h5 fun o e => k _ o D.a4 (Ne.symm D.a9) (Ne.symm D.b1) e) (tup_at (show s.heap.IsTuple b jts.toArray from p2) fun o e => k _ o (off2 z (by simp)) (off2 TO (by simp)) (off2 i1 (by simp)) e) (by simpa using hv) g
  ·intro g1 g2 h' a1 a2 k1 k2 zz po pn sz kk
   refine wpAny_pure ⟨_, rfl, ?_⟩
   refine wpAny_letOwnedTupleGo_zip zz fun h'' z3 sb => ?_
   have nz : s.heap.objs.size ≠ z := Nat.ne_of_gt (Heap.lt_size h1)
   have hp : H s.heap.objs.size = none := I.fresh
   have P : ObjOk X.prog X.w (upd H s.heap.objs.size (.tup [x, y])) h'' s.heap.objs.size (.tup [x, y]) :=
    ⟨by show 2 ≤ sizeLine; decide, [u, v], .cons ru (.cons rv2 .nil), ⟨_, sb.extBut _ _ nz pn, rfl, _, rfl⟩⟩
   have I2 : Inv X pins σ (upd H s.heap.objs.size (.tup [x, y])) { s with heap := h'', toks := s.toks } := turnedN I (fun c o n e => by
    have n' : c ∉ [z, TO, i1, i2] := fun q => n (by
     simp only [List.mem_cons, List.not_mem_nil, or_false] at q ⊢
     rcases q with q | q | q | q <;> simp [q])
    exact sb.extBut _ _ (fun q => n (by simp [q])) (kk c o n' e)) hf (Nat.le_refl _) P
   refine ⟨.ref s.heap.objs.size, _, I2, rfl, ⟨_, x, y, hp, rfl, rfl, fun zs hz => by rw [I.list_inj hz q1]; exact hx, fun zs hz => by rw [I.tuple_inj hz q2]; exact hy⟩, ⟨z3, ?_, ⟨u, v, ?_⟩, ?_, ?_⟩, fun c hc => ?_⟩
   ·refine sb.extBut _ _ D.a1 (kk TI _ ?_ h2)
    have := D.a1; have := D.a5; have := D.a6; have := D.a7
    simp only [List.mem_cons, List.not_mem_nil, or_false, not_or]
    exact ⟨D.a1, D.a5, D.a6, D.a7⟩
   ·exact sb.extBut _ _ D.a2 po
   ·exact lstIter_at a1 fun o e => sb.extBut _ _ D.a3 (k1 _ o D.a3 (Ne.symm D.a8) D.b1 e)
   ·exact tupIter_at a2 fun o e => sb.extBut _ _ D.a4 (k2 _ o D.a4 (Ne.symm D.a9) e)
   ·have lt : c < s.heap.objs.size := by
     simp only [List.mem_cons, List.not_mem_nil, or_false] at hc
     rcases hc with rfl | rfl | rfl | rfl | rfl
     ·exact Heap.lt_size h1
     ·exact Heap.lt_size h2
     ·exact Heap.lt_size h3
     ·exact lstIter_lt h4
     ·exact tupIter_lt h5
    rw [upd_ne (Nat.ne_of_lt lt)]
    exact (hf c hc).1
 done := by
  intro X hP hw hK hc i pins s σ H E I hf st hg
  subst hP hw hK
  obtain ⟨xs, ys, q1, q2, hd⟩ := hg
  obtain ⟨its, rv, p1, z1⟩ := I.list q1
  obtain ⟨jts, rw', p2, z2⟩ := I.tuple q2
  have l1 := rv.length
  have l2 := rw'.length
  have off1 : ∀ c ∈ [z, TI, TO, i1, i2], a ≠ c := fun c hc => sqL_off I q1 (hf c hc)
  have off2 : ∀ c ∈ [z, TI, TO, i1, i2], b ≠ c := fun c hc => sqT_off I q2 (hf c hc)
  obtain ⟨h1, h2, ⟨o1, o2, h3⟩, h4, h5⟩ := st
  have hT : s.TypeIs (.ref z) "zip" := ⟨_, h1, rfl⟩
  have hh : X.A.in1.handled = none := I.ok.hd hc
  unfold pyNext
  refine wpAny_bind (wpAny_attempt (wpAny_callSpecial?_slot (name := Str.ofString "__next__") hT F.slot_zip_next
   (wpAny_call_entry F.slot_zip_next hT F.entry_zip_next ?_ (F.args_zip_next_1 _))))
  refine zip_stop D h1 h2 h3 ?_ fun h' e kk he => ?_
  ·cases e : its.toArray[i]? with
   | none =>
    refine .inl fun s' G E' k g => ?_
    exact wpAny_nextOf_list_end hh (lstIter_at h4 fun o e => k _ o D.a3 e) (lst_at (show s.heap.IsList a its.toArray from p1.isList) fun o e => k _ o (off1 z (by simp)) e) e g
   | some u =>
    refine .inr ⟨⟨u, fun s' G E' k g => ?_⟩, fun s' G E' k g => ?_⟩
    ·exact wpAny_nextOf_list_item (lstIter_at h4 fun o e => k _ o D.a3 e) (lst_at (show s.heap.IsList a its.toArray from p1.isList) fun o e => k _ o (off1 z (by simp)) e) e fun h' _ sb => g h' sb
    ·have hi : i < its.length := by
      have := (Array.getElem?_eq_some_iff.mp e).1
      simpa using this
     exact nx_end hh (tupIter_at h5 fun o e => k _ o D.a4 (Ne.symm D.a9) (Ne.symm D.b1) e) (tup_at (show s.heap.IsTuple b jts.toArray from p2) fun o e => k _ o (off2 z (by simp)) (off2 TO (by simp)) (off2 i1 (by simp)) e)
      (by rw [Array.getElem?_eq_none_iff]; simp; omega) g
  ·obtain ⟨o, ho, hc'⟩ := he
   refine wpAny_bind (wpAny_isInstance (T := "StopIteration") (b := true) ⟨o, ho, hc'⟩ isSubtype_stop ?_)
   refine wpAny_pure ⟨rfl, ?_⟩
   exact turnedL (t' := s.toks) I (fun c o n e => kk c o (fun q => n (by
     simp only [List.mem_cons, List.not_mem_nil, or_false] at q ⊢
     rcases q with q | q | q | q <;> simp [q])) e) hf
 self := fun _ _ _ _ _ st h => wpAny_pyIter_zip st.1 h
abbrev zALT (h : Heap) (a : Addr) : Heap := h.push { cls := .type "list_iterator", data := .fields #[.ref a, .int 0 0] }
abbrev zBLT (h : Heap) (a b : Addr) : Heap := (zALT h a).push { cls := .type "tuple_iterator", data := .fields #[.ref b, .int 0 0] }
abbrev zCLT (h : Heap) (a b : Addr) : Heap := (zBLT h a b).push { cls := .type "tuple", data := .seq #[.ref h.objs.size, .ref (zALT h a).objs.size] }
abbrev zDLT (h : Heap) (a b : Addr) : Heap := (zCLT h a b).push { cls := .type "tuple", data := .seq #[.none, .none] }
abbrev zELT (h : Heap) (a b : Addr) : Heap := (zDLT h a b).push { cls := .type "zip", data := .fields #[.none, .bool false, .bool false, .ref (zBLT h a b).objs.size, .ref (zCLT h a b).objs.size] }
theorem zip_newLT (a b : Addr) (xs ys : Array Value) : Meets (Builtin.«zip.__new__» ⟨[.type "zip", .ref a, .ref b], []⟩) (fun _ R s => s.heap.IsList a xs /\ s.heap.IsTuple b ys ∧
  R (.ok (.ret (.ref (zDLT s.heap a b).objs.size))) { s with heap := zELT s.heap a b }) :=
 .of_wp fun prog w A R s h => by
  obtain ⟨hp, g, d, tk, os⟩ := s; obtain ⟨l1, l2, h⟩ := h
  have zsub := sub_zip
  have L1 : Heap.IsList (Shared.heap ⟨hp, g, d, tk, os⟩) a xs := l1
  have L2 : Heap.IsTuple (Shared.heap ⟨hp.push { cls := .type "list_iterator", data := .fields #[.ref a, .int 0 0] }, g, d, tk, os⟩) b ys := Heap.IsTuple.push l2 _
  wp_walk using wpAny_pyIter_list L1, wpAny_pyIter_tuple L2
  exact ⟨_, rfl, h⟩
def iZipLT (K : Fg) (ta : TA) : TI := fun σ H R => ta σ H fun vs H1 => ∃ a b, vs = [.ref a, .ref b] /\ (∃ xs, SqL K H1 a xs) /\ (∃ ys, SqT K H1 b ys) /\ R (ItzLT K a b) H1
theorem pi_zipLT {X : Cx} {elts : List Expr} {x1} {tp p pos : Pos} {a b : Expr} {ta : TA} (hg : Gl X "zip") (hm : X.mg "zip" = none) (ha : PA X [a, b] ta) (hs : starEach [a, b] X.env = [(false, eval a X.env), (false, eval b X.env)] := by rfl) (hs2 : starEach [b] X.env = [(false, eval b X.env)] := by rfl) :
  PI X (.Tuple elts x1 tp) (.Call (.Name "zip" p) [a, b] [] pos) (iZipLT X.K ta) := by
 intro pins s σ H R I h
 refine Call_ (ld_blt I hg hm (show bootBuiltins "zip" = some (.type "zip") by kernel_rfl) (PyProof.Rows.callWith_type1 (thn (ha pos pins s σ H _ I h) fun us s1 ⟨vs, H1, I1, r1, q1⟩ => ?_) (by rw [hs, hs2]) (by rw [hs2]; rfl)))
 obtain ⟨a, b, e, ⟨xs, hx⟩, ⟨ys, hy⟩, q⟩ := q1
 subst e
 obtain ⟨u, v, rfl, ru, rv⟩ := vals2 r1
 cases ru; cases rv
 obtain ⟨its, _, p1, _⟩ := I1.list hx
 obtain ⟨jts, _, p2, _⟩ := I1.tuple hy
 refine callType_new F.called_zip (by decide) (F.typeCall_zip_2 _ _) (F.newCall_zip_2 _ _) (fun obj => F.args_object_init_3 obj _ _) F.entry_zip_new (zip_newLT a b its.toArray jts.toArray) ⟨p1.isList, p2, ?_⟩
 have e1 : (zALT s1.heap a).objs.size = s1.heap.objs.size + 1 := Heap.size_push ..
 have e2 : (zBLT s1.heap a b).objs.size = s1.heap.objs.size + 2 := by rw [Heap.size_push, e1]
 have e3 : (zCLT s1.heap a b).objs.size = s1.heap.objs.size + 3 := by rw [Heap.size_push, e2]
 have e4 : (zDLT s1.heap a b).objs.size = s1.heap.objs.size + 4 := by rw [Heap.size_push, e3]
 have g5 : (zELT s1.heap a b).get? (zDLT s1.heap a b).objs.size = some _ := Heap.get?_push_size _ rfl
 have g4 : (zELT s1.heap a b).get? (zCLT s1.heap a b).objs.size = some _ := Heap.get?_push_of_some _ (Heap.get?_push_size _ rfl)
 have g3 : (zELT s1.heap a b).get? (zBLT s1.heap a b).objs.size = some _ := Heap.get?_push_of_some _ (Heap.get?_push_of_some _ (Heap.get?_push_size _ rfl))
 have g2 : (zELT s1.heap a b).get? (zALT s1.heap a).objs.size = some _ := Heap.get?_push_of_some _ (Heap.get?_push_of_some _ (Heap.get?_push_of_some _ (Heap.get?_push_size _ rfl)))
 have g1 : (zELT s1.heap a b).get? s1.heap.objs.size = some _ := Heap.get?_push_of_some _ (Heap.get?_push_of_some _ (Heap.get?_push_of_some _ (Heap.get?_push_of_some _ (Heap.get?_push_size _ rfl))))
 have kk : ∀ c o, s1.heap.get? c = some o -> (zELT s1.heap a b).get? c = some o := fun c o x => Heap.get?_push_of_some _ (Heap.get?_push_of_some _ (Heap.get?_push_of_some _ (Heap.get?_push_of_some _ (Heap.get?_push_of_some _ x))))
 show _ /\ _
 rw [e2, e3, e4] at g5
 rw [e1, e2] at g3
 rw [e3] at g4
 rw [e1] at g2
 rw [e4]
 generalize zELT s1.heap a b = hE at g1 g2 g3 g4 g5 kk
 refine ⟨⟨_, g5, rfl⟩, wpAny_pyIter_zip g5 ?_⟩
 have I2 : Inv X pins σ H1 { s1 with heap := hE } := I1.kept (t' := s1.toks) kk
 refine ⟨_, _, _, _, H1, rfl, I2, turn_zipLT (five_new s1.heap.objs.size), ⟨g5, g3, ⟨_, _, g4⟩, ⟨_, g1, rfl, rfl⟩, ⟨_, g2, rfl, rfl⟩⟩, fun c hc => ?_, q⟩
 have le : s1.heap.objs.size ≤ c := by
  simp only [List.mem_cons, List.not_mem_nil, or_false] at hc
  rcases hc with h | h | h | h | h <;> (rw [h]; first | exact Nat.le_refl _ | exact Nat.le_add_right _ _)
 exact I1.fpOk le (I1.hok.fresh le)
def ItzLL (K : Fg) (a b : Addr) : It :=
 ⟨fun i H => ∃ xs ys x y, SqL K H a xs /\ SqL K H b ys /\ xs[i]? = some x /\ ys[i]? = some y,
  fun i H v H' => ∃ p x y, H p = none /\ v = .ref p /\ H' = upd H p (.tup [x, y]) /\ (∀ xs, SqL K H a xs -> xs[i]? = some x) /\ ∀ ys, SqL K H b ys -> ys[i]? = some y,
  fun i H => ∃ xs ys, SqL K H a xs /\ SqL K H b ys /\ (xs.length ≤ i ∨ ys.length ≤ i)⟩
def ZStLL (z TI TO i1 i2 a b : Addr) (i : Nat) (h : Heap) : Prop := IsZip h z TI TO .none /\ IsPair h TI (.ref i1) (.ref i2) /\ (∃ u v, IsPair h TO u v) /\ h.IsListIter i1 a i /\ h.IsListIter i2 b i
theorem turn_zipLL {P : Program} {w : World} {K : Fg} {elts : List Expr} {x1} {pos : Pos} {z TI TO i1 i2 a b : Addr} (D : Five z TI TO i1 i2) :
  Turn P w K (.Tuple elts x1 pos) (ItzLL K a b) [z, TI, TO, i1, i2] z (ZStLL z TI TO i1 i2 a b) where
 mem := by simp
 obj := fun i h st c hc => by
  obtain ⟨h1, h2, ⟨u, v, h3⟩, ⟨o4, h4, c4, d4⟩, ⟨o5, h5, c5, d5⟩⟩ := st
  simp only [List.mem_cons, List.not_mem_nil, or_false] at hc
  rcases hc with rfl | rfl | rfl | rfl | rfl
  ·exact ⟨_, h1, fun v q => by cases (show Data.fields _ = Data.cell v from q)⟩
  ·exact ⟨_, h2, fun v q => by cases (show Data.seq _ _ = Data.cell v from q)⟩
  ·exact ⟨_, h3, fun v q => by cases (show Data.seq _ _ = Data.cell v from q)⟩
  ·exact ⟨o4, h4, fun v q => by rw [d4] at q; cases q⟩
  ·exact ⟨o5, h5, fun v q => by rw [d5] at q; cases q⟩
 keep := fun i h h' st k => by
  obtain ⟨h1, h2, ⟨u, v, h3⟩, h4, h5⟩ := st
  exact ⟨k z (by simp) _ h1, k TI (by simp) _ h2, ⟨u, v, k TO (by simp) _ h3⟩, lstIter_at h4 fun o e => k i1 (by simp) o e, lstIter_at h5 fun o e => k i2 (by simp) o e⟩
 item := by
  intro X hP hw hK hc i pins s σ H E I hf st hg
  subst hP hw hK
  obtain ⟨xs, ys, x, y, q1, q2, hx, hy⟩ := hg
  obtain ⟨its, rv, p1, z1⟩ := I.list q1
  obtain ⟨jts, rw', p2, z2⟩ := I.list q2
  obtain ⟨u, hu, ru⟩ := rv.get hx
  obtain ⟨v, hv, rv2⟩ := rw'.get hy
  have off1 : ∀ c ∈ [z, TI, TO, i1, i2], a ≠ c := fun c hc => sqL_off I q1 (hf c hc)
  have off2 : ∀ c ∈ [z, TI, TO, i1, i2], b ≠ c := fun c hc => sqL_off I q2 (hf c hc)
  obtain ⟨h1, h2, ⟨o1, o2, h3⟩, h4, h5⟩ := st
  have hT : s.TypeIs (.ref z) "zip" := ⟨_, h1, rfl⟩
  unfold pyNext
  refine wpAny_bind (wpAny_attempt (wpAny_callSpecial?_slot (name := Str.ofString "__next__") hT F.slot_zip_next
   (wpAny_call_entry F.slot_zip_next hT F.entry_zip_next ?_ (F.args_zip_next_1 _))))
  refine zip_step (x := u) (y := v) (A1 := fun h => h.IsListIter i1 a (i + 1)) (A2 := fun h => h.IsListIter i2 b (i + 1)) D h1 h2 h3 ?_ ?_ (lstIter_lt h4) (lstIter_lt h5) ?_
  ·intro s' G E' k g
   exact wpAny_nextOf_list_item (lstIter_at h4 fun o e => k _ o D.a3 e) (lst_at (show s.heap.IsList a its.toArray from p1.isList) fun o e => k _ o (off1 z (by simp)) e) (by simpa using hu) g
  ·intro s' G E' k g
   exact wpAny_nextOf_list_item (lstIter_at h5 fun o e => k _ o D.a4 (Ne.symm D.a9) (Ne.symm D.b1) e) (lst_at (show s.heap.IsList b jts.toArray from p2.isList) fun o e => k _ o (off2 z (by simp)) (off2 TO (by simp)) (off2 i1 (by simp)) e) (by simpa using hv) g
  ·intro g1 g2 h' a1 a2 k1 k2 zz po pn sz kk
   refine wpAny_pure ⟨_, rfl, ?_⟩
   refine wpAny_letOwnedTupleGo_zip zz fun h'' z3 sb => ?_
   have nz : s.heap.objs.size ≠ z := Nat.ne_of_gt (Heap.lt_size h1)
   have hp : H s.heap.objs.size = none := I.fresh
   have P : ObjOk X.prog X.w (upd H s.heap.objs.size (.tup [x, y])) h'' s.heap.objs.size (.tup [x, y]) :=
    ⟨by show 2 ≤ sizeLine; decide, [u, v], .cons ru (.cons rv2 .nil), ⟨_, sb.extBut _ _ nz pn, rfl, _, rfl⟩⟩
   have I2 : Inv X pins σ (upd H s.heap.objs.size (.tup [x, y])) { s with heap := h'', toks := s.toks } := turnedN I (fun c o n e => by
    have n' : c ∉ [z, TO, i1, i2] := fun q => n (by
     simp only [List.mem_cons, List.not_mem_nil, or_false] at q ⊢
     rcases q with q | q | q | q <;> simp [q])
    exact sb.extBut _ _ (fun q => n (by simp [q])) (kk c o n' e)) hf (Nat.le_refl _) P
   refine ⟨.ref s.heap.objs.size, _, I2, rfl, ⟨_, x, y, hp, rfl, rfl, fun zs hz => by rw [I.list_inj hz q1]; exact hx, fun zs hz => by rw [I.list_inj hz q2]; exact hy⟩, ⟨z3, ?_, ⟨u, v, ?_⟩, ?_, ?_⟩, fun c hc => ?_⟩
   ·refine sb.extBut _ _ D.a1 (kk TI _ ?_ h2)
    have := D.a1; have := D.a5; have := D.a6; have := D.a7
    simp only [List.mem_cons, List.not_mem_nil, or_false, not_or]
    exact ⟨D.a1, D.a5, D.a6, D.a7⟩
   ·exact sb.extBut _ _ D.a2 po
   ·exact lstIter_at a1 fun o e => sb.extBut _ _ D.a3 (k1 _ o D.a3 (Ne.symm D.a8) D.b1 e)
   ·exact lstIter_at a2 fun o e => sb.extBut _ _ D.a4 (k2 _ o D.a4 (Ne.symm D.a9) e)
   ·have lt : c < s.heap.objs.size := by
     simp only [List.mem_cons, List.not_mem_nil, or_false] at hc
     rcases hc with rfl | rfl | rfl | rfl | rfl
     ·exact Heap.lt_size h1
     ·exact Heap.lt_size h2
     ·exact Heap.lt_size h3
     ·exact lstIter_lt h4
     ·exact lstIter_lt h5
    rw [upd_ne (Nat.ne_of_lt lt)]
    exact (hf c hc).1
 done := by
  intro X hP hw hK hc i pins s σ H E I hf st hg
  subst hP hw hK
  obtain ⟨xs, ys, q1, q2, hd⟩ := hg
  obtain ⟨its, rv, p1, z1⟩ := I.list q1
  obtain ⟨jts, rw', p2, z2⟩ := I.list q2
  have l1 := rv.length
  have l2 := rw'.length
  have off1 : ∀ c ∈ [z, TI, TO, i1, i2], a ≠ c := fun c hc => sqL_off I q1 (hf c hc)
  have off2 : ∀ c ∈ [z, TI, TO, i1, i2], b ≠ c := fun c hc => sqL_off I q2 (hf c hc)
  obtain ⟨h1, h2, ⟨o1, o2, h3⟩, h4, h5⟩ := st
  have hT : s.TypeIs (.ref z) "zip" := ⟨_, h1, rfl⟩
  have hh : X.A.in1.handled = none := I.ok.hd hc
  unfold pyNext
  refine wpAny_bind (wpAny_attempt (wpAny_callSpecial?_slot (name := Str.ofString "__next__") hT F.slot_zip_next
   (wpAny_call_entry F.slot_zip_next hT F.entry_zip_next ?_ (F.args_zip_next_1 _))))
  refine zip_stop D h1 h2 h3 ?_ fun h' e kk he => ?_
  ·cases e : its.toArray[i]? with
   | none =>
    refine .inl fun s' G E' k g => ?_
    exact wpAny_nextOf_list_end hh (lstIter_at h4 fun o e => k _ o D.a3 e) (lst_at (show s.heap.IsList a its.toArray from p1.isList) fun o e => k _ o (off1 z (by simp)) e) e g
   | some u =>
    refine .inr ⟨⟨u, fun s' G E' k g => ?_⟩, fun s' G E' k g => ?_⟩
    ·exact wpAny_nextOf_list_item (lstIter_at h4 fun o e => k _ o D.a3 e) (lst_at (show s.heap.IsList a its.toArray from p1.isList) fun o e => k _ o (off1 z (by simp)) e) e fun h' _ sb => g h' sb
    ·have hi : i < its.length := by
      have := (Array.getElem?_eq_some_iff.mp e).1
      simpa using this
     exact wpAny_nextOf_list_end hh (lstIter_at h5 fun o e => k _ o D.a4 (Ne.symm D.a9) (Ne.symm D.b1) e) (lst_at (show s.heap.IsList b jts.toArray from p2.isList) fun o e => k _ o (off2 z (by simp)) (off2 TO (by simp)) (off2 i1 (by simp)) e)
      (by rw [Array.getElem?_eq_none_iff]; simp; omega) g
  ·obtain ⟨o, ho, hc'⟩ := he
   refine wpAny_bind (wpAny_isInstance (T := "StopIteration") (b := true) ⟨o, ho, hc'⟩ isSubtype_stop ?_)
   refine wpAny_pure ⟨rfl, ?_⟩
   exact turnedL (t' := s.toks) I (fun c o n e => kk c o (fun q => n (by
     simp only [List.mem_cons, List.not_mem_nil, or_false] at q ⊢
     rcases q with q | q | q | q <;> simp [q])) e) hf
 self := fun _ _ _ _ _ st h => wpAny_pyIter_zip st.1 h
abbrev zALL (h : Heap) (a : Addr) : Heap := h.push { cls := .type "list_iterator", data := .fields #[.ref a, .int 0 0] }
abbrev zBLL (h : Heap) (a b : Addr) : Heap := (zALL h a).push { cls := .type "list_iterator", data := .fields #[.ref b, .int 0 0] }
abbrev zCLL (h : Heap) (a b : Addr) : Heap := (zBLL h a b).push { cls := .type "tuple", data := .seq #[.ref h.objs.size, .ref (zALL h a).objs.size] }
abbrev zDLL (h : Heap) (a b : Addr) : Heap := (zCLL h a b).push { cls := .type "tuple", data := .seq #[.none, .none] }
abbrev zELL (h : Heap) (a b : Addr) : Heap := (zDLL h a b).push { cls := .type "zip", data := .fields #[.none, .bool false, .bool false, .ref (zBLL h a b).objs.size, .ref (zCLL h a b).objs.size] }
theorem zip_newLL (a b : Addr) (xs ys : Array Value) : Meets (Builtin.«zip.__new__» ⟨[.type "zip", .ref a, .ref b], []⟩) (fun _ R s => s.heap.IsList a xs /\ s.heap.IsList b ys ∧
  R (.ok (.ret (.ref (zDLL s.heap a b).objs.size))) { s with heap := zELL s.heap a b }) :=
 .of_wp fun prog w A R s h => by
  obtain ⟨hp, g, d, tk, os⟩ := s; obtain ⟨l1, l2, h⟩ := h
  have zsub := sub_zip
  have L1 : Heap.IsList (Shared.heap ⟨hp, g, d, tk, os⟩) a xs := l1
  have L2 : Heap.IsList (Shared.heap ⟨hp.push { cls := .type "list_iterator", data := .fields #[.ref a, .int 0 0] }, g, d, tk, os⟩) b ys := Heap.IsList.push l2 _
  wp_walk using wpAny_pyIter_list L1, wpAny_pyIter_list L2
  exact ⟨_, rfl, h⟩
def iZipLL (K : Fg) (ta : TA) : TI := fun σ H R => ta σ H fun vs H1 => ∃ a b, vs = [.ref a, .ref b] /\ (∃ xs, SqL K H1 a xs) /\ (∃ ys, SqL K H1 b ys) /\ R (ItzLL K a b) H1
theorem pi_zipLL {X : Cx} {elts : List Expr} {x1} {tp p pos : Pos} {a b : Expr} {ta : TA} (hg : Gl X "zip") (hm : X.mg "zip" = none) (ha : PA X [a, b] ta) (hs : starEach [a, b] X.env = [(false, eval a X.env), (false, eval b X.env)] := by rfl) (hs2 : starEach [b] X.env = [(false, eval b X.env)] := by rfl) :
  PI X (.Tuple elts x1 tp) (.Call (.Name "zip" p) [a, b] [] pos) (iZipLL X.K ta) := by
 intro pins s σ H R I h
 refine Call_ (ld_blt I hg hm (show bootBuiltins "zip" = some (.type "zip") by kernel_rfl) (PyProof.Rows.callWith_type1 (thn (ha pos pins s σ H _ I h) fun us s1 ⟨vs, H1, I1, r1, q1⟩ => ?_) (by rw [hs, hs2]) (by rw [hs2]; rfl)))
 obtain ⟨a, b, e, ⟨xs, hx⟩, ⟨ys, hy⟩, q⟩ := q1
 subst e
 obtain ⟨u, v, rfl, ru, rv⟩ := vals2 r1
 cases ru; cases rv
 obtain ⟨its, _, p1, _⟩ := I1.list hx
 obtain ⟨jts, _, p2, _⟩ := I1.list hy
 refine callType_new F.called_zip (by decide) (F.typeCall_zip_2 _ _) (F.newCall_zip_2 _ _) (fun obj => F.args_object_init_3 obj _ _) F.entry_zip_new (zip_newLL a b its.toArray jts.toArray) ⟨p1.isList, p2.isList, ?_⟩
 have e1 : (zALL s1.heap a).objs.size = s1.heap.objs.size + 1 := Heap.size_push ..
 have e2 : (zBLL s1.heap a b).objs.size = s1.heap.objs.size + 2 := by rw [Heap.size_push, e1]
 have e3 : (zCLL s1.heap a b).objs.size = s1.heap.objs.size + 3 := by rw [Heap.size_push, e2]
 have e4 : (zDLL s1.heap a b).objs.size = s1.heap.objs.size + 4 := by rw [Heap.size_push, e3]
 have g5 : (zELL s1.heap a b).get? (zDLL s1.heap a b).objs.size = some _ := Heap.get?_push_size _ rfl
 have g4 : (zELL s1.heap a b).get? (zCLL s1.heap a b).objs.size = some _ := Heap.get?_push_of_some _ (Heap.get?_push_size _ rfl)
 have g3 : (zELL s1.heap a b).get? (zBLL s1.heap a b).objs.size = some _ := Heap.get?_push_of_some _ (Heap.get?_push_of_some _ (Heap.get?_push_size _ rfl))
 have g2 : (zELL s1.heap a b).get? (zALL s1.heap a).objs.size = some _ := Heap.get?_push_of_some _ (Heap.get?_push_of_some _ (Heap.get?_push_of_some _ (Heap.get?_push_size _ rfl)))
 have g1 : (zELL s1.heap a b).get? s1.heap.objs.size = some _ := Heap.get?_push_of_some _ (Heap.get?_push_of_some _ (Heap.get?_push_of_some _ (Heap.get?_push_of_some _ (Heap.get?_push_size _ rfl))))
 have kk : ∀ c o, s1.heap.get? c = some o -> (zELL s1.heap a b).get? c = some o := fun c o x => Heap.get?_push_of_some _ (Heap.get?_push_of_some _ (Heap.get?_push_of_some _ (Heap.get?_push_of_some _ (Heap.get?_push_of_some _ x))))
 show _ /\ _
 rw [e2, e3, e4] at g5
 rw [e1, e2] at g3
 rw [e3] at g4
 rw [e1] at g2
 rw [e4]
 generalize zELL s1.heap a b = hE at g1 g2 g3 g4 g5 kk
 refine ⟨⟨_, g5, rfl⟩, wpAny_pyIter_zip g5 ?_⟩
 have I2 : Inv X pins σ H1 { s1 with heap := hE } := I1.kept (t' := s1.toks) kk
 refine ⟨_, _, _, _, H1, rfl, I2, turn_zipLL (five_new s1.heap.objs.size), ⟨g5, g3, ⟨_, _, g4⟩, ⟨_, g1, rfl, rfl⟩, ⟨_, g2, rfl, rfl⟩⟩, fun c hc => ?_, q⟩
 have le : s1.heap.objs.size ≤ c := by
  simp only [List.mem_cons, List.not_mem_nil, or_false] at hc
  rcases hc with h | h | h | h | h <;> (rw [h]; first | exact Nat.le_refl _ | exact Nat.le_add_right _ _)
 exact I1.fpOk le (I1.hok.fresh le)
theorem lk_tuple_keys : typeLookup (.type "tuple") "keys" = pure none := by rw [typeLookup_type, builtinLookup_eq_fast]; kernel_rfl
theorem no_keys {prog : Program} {w : World} {A : Around} {E : VSP} {s : Shared} {a : Addr} {o : Obj} {xs : Array Value} {k : Nat} {Q : Option Value -> Shared -> Prop}
  (hx : s.heap.get? a = some o) (hc : o.cls = .type "tuple") (hdat : o.data = .seq xs k) (hd : o.dict = none) (hA : A.handled = none)
  (h : ∀ h' tk, (∀ b ob, s.heap.get? b = some ob -> h'.get? b = some ob) -> Q none { s with heap := h', toks := tk }) :
  wpAny (model prog w) A (getAttr? (.ref a) "keys") Q E s := by
 obtain ⟨c, dct, dat, sl⟩ := o
 simp only at hc hdat hd
 subst hc hdat hd
 obtain ⟨hp, g, d, tk, os⟩ := s
 have hT : ∀ tk', (⟨hp, g, d, tk', os⟩ : Shared).TypeIs (.ref a) "tuple" := fun _ => ⟨_, hx, rfl⟩
 have f1 := sub_AttributeError
 have f3 := F.slot_tuple_getattribute.lookup
 have f4 := F.slot_tuple_getattribute.bind (.ref a)
 have f5 := am_tuple_getattr_none
 unfold getAttr? getAttrBy? getAttrBy
 repeat (any_goals (first | assumption | exact hT _ | ((with_reducible show wpAny _ _ (call (Value.builtin "tuple.__getattribute__") _ _) _ _ _); refine call_meets F.slot_tuple_getattribute (hT _) am_entry_tuple_getattribute (F.args_tuple_getattribute_2 _ _) (meets_getattribute_miss_tuple a xs k sl "keys" _ lk_tuple_keys (by decide +kernel) (by decide +kernel)) ⟨hx, hA, fun h' tk' e hx' => ?_⟩) | wp_step))
 obtain ⟨t', u', he⟩ := hx'.there
 show wpAny _ _ (getattributeRaised _ _ _ _ _ _ _) _ _ _
 unfold getattributeRaised
 repeat (any_goals (first | assumption | wp_step))
 exact h _ _ hx'.keeps
theorem en_dul : entryFor table "dict.update.loop" = some Builtin.«dict.update.loop» := entryFor_of_tree (by kernel_rfl)
theorem pl_dul : plainId "dict.update.loop" = true := by decide +kernel
section
variable {prog : Program} {w : World} {A : Around} {E : VSP}
theorem du_loop {d it t : Addr} {its : Array Value} {xs : List (List Key × Addr × Value)} {R : Result -> Shared -> Prop} {h0 : Heap}
  (hu : A.in1.units < cLine) (hh : A.in1.handled = none) (ht : h0.IsTuple t its) (hl : its.size = xs.length) (hz : xs.length ≤ sizeLine)
  (hr : ∀ (i : Nat) (x : List Key × Addr × Value), xs[i]? = some x -> ∃ r, its[i]? = some (.ref r) /\ h0.IsTuple r #[.ref x.2.1, x.2.2] /\ IsTupleKey (mixKind prog w) h0 x.1 x.2.1)
  (nd : (xs.map (·.1)).Nodup) (hd0 : h0.get? d = none) (hi0 : h0.get? it = none) (ne : it ≠ d) :
  ∀ (k i : Nat) (s : Shared) (ti : Tok), xs.length - i = k -> i ≤ xs.length -> s.heap.IsTupleIter it t i -> s.heap.DictOfH (tupleKind (mixKind prog w)) d (xs.take i) -> (∀ c o, h0.get? c = some o -> s.heap.get? c = some o) →
  (∀ h' tk, h'.DictOfH (tupleKind (mixKind prog w)) d xs -> (∀ c o, h0.get? c = some o -> h'.get? c = some o) -> R (.ok (.ret .none)) { s with heap := h', toks := tk }) →
  codeAny (model prog w) A (.builtin "dict.update.loop" ⟨[.ref d, .ref it, .int i ti, .none], []⟩) R s := by
 have tup : ∀ {h : Heap} {a : Addr} {ys : Array Value}, (∀ c o, h0.get? c = some o -> h.get? c = some o) -> h0.IsTuple a ys -> h.IsTuple a ys := fun k ⟨o, e, r⟩ => ⟨o, k _ _ e, r⟩
 have key : ∀ {h : Heap} {a : Addr} {ks : List Key}, (∀ c o, h0.get? c = some o -> h.get? c = some o) -> IsTupleKey (mixKind prog w) h0 ks a -> IsTupleKey (mixKind prog w) h ks a := fun k ⟨o, ys, n, e, r⟩ => ⟨o, ys, n, k _ _ e, r⟩
 intro k
 induction k with
 | zero =>
  intro i s ti hk hi hit hD kp hR
  have hin : i = xs.length := by omega
  subst hin
  refine codeAny_builtin en_dul ?_
  rw [Around.under_plainId pl_dul _]
  show wpAny _ A.in1 (pyNext (.ref it) >>= _) _ _ s
  refine wpAny_bind (wpAny_pyNext_tuple_end hh hit (tup kp ht) (Array.getElem?_eq_none (by omega)) fun h' ex => ?_)
  show wpAny _ A.in1 (Builtin.Dict.addKeywords d [] >>= fun _ => ret .none) _ _ _
  refine wpAny_bind (wpAny_pure (wpAny_pure ?_))
  rw [List.take_length] at hD
  obtain ⟨o, es, ep, e1, e2, e3, e4, e5, e6⟩ := hD
  have kp' : ∀ c o, h0.get? c = some o -> h'.get? c = some o := fun c o e => ex c o (fun q => by rw [q, hi0] at e; cases e) (kp c o e)
  refine hR h' s.toks ⟨o, es, ep, ex _ _ (Ne.symm ne) e1, e2, e3, e4, fun x hx => ?_, e6⟩ kp'
  obtain ⟨j, hj⟩ := List.getElem?_of_mem hx
  obtain ⟨r, _, _, q⟩ := hr j x hj
  exact key kp' q
 | succ k ih =>
  intro i s ti hk hi hit hD kp hR
  have hlt : i < xs.length := by omega
  obtain ⟨x, hx⟩ : ∃ x, xs[i]? = some x := ⟨_, List.getElem?_eq_getElem hlt⟩
  obtain ⟨r, q1, q2, q3⟩ := hr i x hx
  refine codeAny_builtin en_dul ?_
  rw [Around.under_plainId pl_dul _]
  show wpAny _ A.in1 (pyNext (.ref it) >>= _) _ _ s
  refine wpAny_bind (wpAny_pyNext_tuple_item hit (tup kp ht) q1 fun h' hit' sb => ?_)
  have kp' : ∀ c o, h0.get? c = some o -> h'.get? c = some o := fun c o e => (sb.2 c (fun q => by rw [q, hi0] at e; cases e)).trans (kp c o e)
  obtain ⟨orr, o1, o2, n, o3⟩ := tup kp' q2
  have hT : ({ s with heap := h' } : Shared).TypeIs (.ref r) "tuple" := ⟨_, o1, o2⟩
  have hD' : h'.DictOfH (tupleKind (mixKind prog w)) d (xs.take i) := by
   obtain ⟨o, es, ep, e1, e2, e3, e4, e5, e6⟩ := hD
   refine ⟨o, es, ep, (sb.2 d (Ne.symm ne)).trans e1, e2, e3, e4, fun y hy => ?_, e6⟩
   obtain ⟨j, hj⟩ := List.getElem?_of_mem (List.mem_of_mem_take hy)
   obtain ⟨r, _, _, q⟩ := hr j y hj
   exact key kp' q
  have hz' : (xs.take i).length ≤ sizeLine := by rw [List.length_take]; omega
  have nk : atKey (xs.take i) x.1 = none := atKey_none_of_get fun j p e => by
   rw [List.getElem?_take] at e
   split at e
   ·rename_i hj
    have a1 : (xs.map (·.1))[j]? = some x.1 := by rw [List.getElem?_map, e]; rfl
    have a2 : (xs.map (·.1))[i]? = some x.1 := by rw [List.getElem?_map, hx]; rfl
    have := (List.getElem?_inj (by rw [List.length_map]; omega) nd).mp (a1.trans a2.symm)
    omega
   ·cases e
  refine wpAny_bind (wpAny_holding ?_)
  refine wpAny_bind ?_
  refine wpAny_tryCatch ?_
  unfold Builtin.Dict.pairItems
  refine wpAny_bind (wpAny_typeOf hT ?_)
  rw [if_pos (by decide)]
  refine wpAny_bind (wpAny_seqItems o1 o3 (wpAny_pure ?_))
  show wpAny _ A.in1 (holding [.ref x.2.1, x.2.2] (dictSet d (.ref x.2.1) x.2.2)) _ _ _
  refine wpAny_holding (wpAny_dictSet_heap (knd := tupleKind (mixKind prog w)) (hsz := hz') hu (key kp' q3) hD' fun h2 hD2 sb2 => ?_)
  have kp2 : ∀ c o, h0.get? c = some o -> h2.get? c = some o := fun c o e => (sb2.2 c (fun q => by rw [q, hd0] at e; cases e)).trans (kp' c o e)
  rw [storedH_new nk] at hD2
  have et : xs.take i ++ [(x.1, x.2.1, x.2.2)] = xs.take (i + 1) := by rw [List.take_add_one, hx]; rfl
  rw [et] at hD2
  obtain ⟨oi, i1, i2, i3⟩ := hit'
  refine wpAny_pure ⟨plainId_quiet pl_dul _, ?_⟩
  exact ih (i + 1) _ 0 (by omega) hlt ⟨oi, (sb2.2 it ne).trans i1, i2, i3⟩ hD2 kp2 fun h' tk a b => hR h' tk a b
end
section
variable {prog : Program} {w : World} {A : Around} {E : VSP} {s : Shared}
theorem call_dict_rows {t : Addr} {ob : Obj} {its : Array Value} {n : Nat} {xs : List (List Key × Addr × Value)} {Q : VSP}
  (hu : A.in1.in1.units < cLine) (hh : A.in1.in1.handled = none) (ho : s.heap.get? t = some ob) (hc : ob.cls = .type "tuple") (hdat : ob.data = .seq its n) (hdn : ob.dict = none) (hl : its.size = xs.length) (hz : xs.length ≤ sizeLine)
  (hr : ∀ (i : Nat) (x : List Key × Addr × Value), xs[i]? = some x -> ∃ r, its[i]? = some (.ref r) /\ s.heap.IsTuple r #[.ref x.2.1, x.2.2] /\ IsTupleKey (mixKind prog w) s.heap x.1 x.2.1)
  (nd : (xs.map (·.1)).Nodup)
  (h : ∀ h' tk, h'.DictOfH (tupleKind (mixKind prog w)) s.heap.objs.size xs -> (∀ c o, s.heap.get? c = some o -> h'.get? c = some o) -> Q (.ref s.heap.objs.size) { s with heap := h', toks := tk }) :
  wpAny (model prog w) A (call (.type "dict") [.ref t]) Q E s := by
 refine callType_codes (Q₁ := fun obj s₁ => obj = .ref s.heap.objs.size /\ s₁ = { s with heap := s.heap.push { cls := .type "dict", data := .dict #[] } }) F.kt_called_dict (F.kt_typeCall_dict_1 _) F.entry_dict_init (kt_code_dict_new _ ⟨rfl, rfl⟩) ?_
 rintro obj s₁ ⟨rfl, rfl⟩
 have hnew : (s.heap.push { cls := .type "dict", data := .dict #[] }).DictOfH (tupleKind (mixKind prog w)) s.heap.objs.size [] := Heap.DictOfH.new s.heap
 have kp1 : ∀ c o, s.heap.get? c = some o -> (s.heap.push { cls := .type "dict", data := .dict #[] }).get? c = some o := fun c o e => Heap.get?_push_of_some _ e
 have fr : s.heap.get? s.heap.objs.size = none := Heap.get?_none_of_le (Nat.le_refl _)
 refine ⟨hnew.typeIs, F.args_dict_init_2 _ _, ?_⟩
 unfold Builtin.«dict.__init__»
 refine wpAny_bind ?_
 unfold Builtin.Dict.selfAndRest
 refine wpAny_bind (wpAny_notOrdered_dict hnew.typeIs ?_)
 show wpAny _ _ (pure (s.heap.objs.size, [Value.ref t])) _ _ _
 refine wpAny_pure ?_
 show wpAny _ _ (Builtin.Dict.updateFrom "dict.__init__" s.heap.objs.size (.ref t) [] .none) _ _ _
 unfold Builtin.Dict.updateFrom
 refine wpAny_bind (wpAny_typeOf (T := "tuple") ⟨_, kp1 _ _ ho, hc⟩ ?_)
 rw [if_pos (by decide)]
 refine wpAny_bind (no_keys (kp1 _ _ ho) hc hdat hdn hh fun h2 tk kp2 => ?_)
 rw [if_pos (show (none : Option Value).isNone = true from rfl)]
 refine wpAny_bind (wpAny_rule ?_)
 have kp2' : ∀ c o, s.heap.get? c = some o -> h2.get? c = some o := fun c o e => kp2 _ _ (kp1 _ _ e)
 refine wpAny_bind (wpAny_pyIter_tuple (t := t) (items := its) ⟨_, kp2' _ _ ho, hc, _, hdat⟩ ?_)
 refine wpAny_pure ⟨plainId_quiet pl_dul _, ?_⟩
 obtain ⟨od, es, ep, d1, d2, d3, d4, d5, d6⟩ := hnew
 have lt2 : s.heap.objs.size < h2.objs.size := Heap.lt_size (kp2 _ _ d1)
 refine du_loop (h0 := s.heap) hu hh ⟨_, ho, hc, _, hdat⟩ hl hz hr nd fr (Heap.get?_none_of_le (Nat.le_of_lt lt2)) (Nat.ne_of_gt lt2) xs.length 0 _ 0 rfl (Nat.zero_le _) ⟨_, Heap.get?_push_size _ rfl, rfl, rfl⟩
  ⟨od, es, ep, Heap.get?_push_of_some _ (kp2 _ _ d1), d2, d3, d4, fun x hx => by simp at hx, by simp⟩ (fun c o e => Heap.get?_push_of_some _ (kp2' _ _ e)) fun h' tk' a b => ⟨rfl, h h' tk' a b⟩
end
theorem paired_of {α β : Type} {P : α -> β -> Prop} : ∀ {l : List α} {m : List β}, l.length = m.length -> (∀ (i : Nat) (a : α) (b : β), l[i]? = some a -> m[i]? = some b -> P a b) -> Paired P l m
 | [], [], _, _ => .nil
 | [], _ :: _, h, _ => by simp at h
 | _ :: _, [], h, _ => by simp at h
 | a :: l, b :: m, h, k => .cons (k 0 a b rfl rfl) (paired_of (by simpa using h) fun i x y e f => k (i + 1) x y (by simpa using e) (by simpa using f))
theorem chosen {α β : Type} {P : Nat -> α -> β -> Prop} : ∀ {l : List α}, (∀ (i : Nat) (a : α), l[i]? = some a -> ∃ b, P i a b) -> ∃ m : List β, m.length = l.length /\ ∀ (i : Nat) (a : α) (b : β), l[i]? = some a -> m[i]? = some b -> P i a b
 | [], _ => ⟨[], rfl, fun i a b e => by simp at e⟩
 | a :: l, h => by
  obtain ⟨b, hb⟩ := h 0 a rfl
  obtain ⟨m, hm, k⟩ := chosen (P := fun i => P (i + 1)) (l := l) fun i x e => h (i + 1) x (by simpa using e)
  refine ⟨b :: m, by simp [hm], fun i x y e f => ?_⟩
  cases i with
  | zero =>
   have e' : a = x := by simpa using e
   have f' : b = y := by simpa using f
   subst e' f'
   exact hb
  | succ i => exact k i x y (by simpa using e) (by simpa using f)
structure RowsK (K : Fg) (H : Hp) (ys : List V) (kvs : List (List Key × V)) : Prop where
 len : ys.length = kvs.length
 row : ∀ (i : Nat) (kv : List Key × V), kvs[i]? = some kv -> ∃ r b, ys[i]? = some (.ref r) /\ SqT K H r [.ref b, kv.2] /\ H b = some (.tup (kv.1.map kV))
 nd : (kvs.map (·.1)).Nodup
def rDictT (K : Fg) : List V -> Hp -> VK -> Prop := fun vs H Q => ∃ (p : Addr) (ob : Obj) (ys : List V) (kvs : List (List Key × V)), vs = [.ref p] /\ H p = some (.frz ob (.tup ys)) /\ ob.dict = none /\ RowsK K H ys kvs /\ ∀ l, H l = none -> Q (.ref l) (upd H l (.dT kvs))
theorem call_dictT {X : Cx} (hu : X.A.units + 2 < cLine) (hc : X.calm = true) : CallR X (.type "dict") (rDictT X.K) := by
 intro pins s σ H vs us Q I r h
 obtain ⟨p, ob, ys, kvs, rfl, hp, hdn, rk, q⟩ := h
 obtain ⟨u, rfl, rx⟩ := vals1 r
 cases rx
 obtain ⟨g0, z, its, r', o', g1, g2, n, g3⟩ := (show ObjOk X.prog X.w H s.heap p (.frz ob (.tup ys)) from I.hok p _ hp)
 cases (Option.some.inj (g1.symm.trans g0))
 have hh : X.A.in1.in1.handled = none := I.ok.hd hc
 obtain ⟨xs, hl, hx⟩ := chosen (β := List Key × Addr × Value) (P := fun i (kv : List Key × V) x => kv.1 = x.1 /\ RelV kv.2 x.2.2 /\ H x.2.1 = some (.tup (kv.1.map kV)) /\ ∃ rr, its[i]? = some (.ref rr) /\ s.heap.IsTuple rr #[.ref x.2.1, x.2.2]) (l := kvs) fun i kv e => by
  obtain ⟨rr, b, e1, e2, e3⟩ := rk.row i kv e
  obtain ⟨it2, v2, pl, z2⟩ := I.tuple e2
  obtain ⟨u1, e4, ru1⟩ := Vals.get r' e1
  cases ru1
  cases v2 with
  | cons w1 w2 =>
   cases w1
   cases w2 with
   | cons w3 w4 =>
    cases w4
    exact ⟨(kv.1, b, _), rfl, w3, e3, rr, e4, pl⟩
 have idx : ∀ (i : Nat) (x : List Key × Addr × Value), xs[i]? = some x -> ∃ kv, kvs[i]? = some kv := fun i x e => by
  have : i < xs.length := (List.getElem?_eq_some_iff.mp e).1
  exact ⟨_, List.getElem?_eq_getElem (by omega)⟩
 have keys : xs.map (·.1) = kvs.map (·.1) := by
  refine List.ext_getElem? fun i => ?_
  rw [List.getElem?_map, List.getElem?_map]
  cases e : xs[i]? with
  | none =>
   have : xs.length ≤ i := List.getElem?_eq_none_iff.mp e
   rw [List.getElem?_eq_none (by omega)]
   rfl
  | some x =>
   obtain ⟨kv, e2⟩ := idx i x e
   rw [e2]
   exact congrArg some (hx i kv x e2 e).1.symm
 have il : its.length = ys.length := r'.length.symm
 refine call_dict_rows (s := s) (xs := xs) hu hh g0 g2 g3 hdn (by rw [List.size_toArray, il, rk.len, hl]) (by rw [hl, ← rk.len]; exact z) (fun i x e => ?_) (by rw [keys]; exact rk.nd) fun h' tk dd kp => ?_
 ·obtain ⟨kv, e2⟩ := idx i x e
  obtain ⟨a1, a2, a3, rr, a4, a5⟩ := hx i kv x e2 e
  refine ⟨rr, by rw [List.getElem?_toArray]; exact a4, a5, ?_⟩
  have := key_of I.hok a3
  rw [a1] at this
  exact this
 ·obtain ⟨o2, es, ep, d1, d2, d3, d4, d5, d6⟩ := dd
  have I2 : Inv X pins σ (upd H s.heap.objs.size (.dT kvs)) { s with heap := h', toks := tk } := I.laid kp (Nat.le_refl _) ⟨by rw [← rk.len]; exact z, ?_, xs, paired_of hl.symm fun i kv x e e2 => ?_, o2, es, ep, d1, d2, d3, d4, d6⟩
  ·exact ⟨.ref s.heap.objs.size, _, I2, rfl, q _ I.fresh⟩
  ·have := I.big
   exact beq_eq_false_iff_ne.mpr (Nat.ne_of_gt this)
  ·obtain ⟨a1, a2, a3, _⟩ := hx i kv x e e2
   refine ⟨a1, ?_, a2⟩
   rw [upd_ne (ne_of_none a3 I.fresh)]
   exact a3
def rTupZ (K : Fg) : List V -> Hp -> VK -> Prop := fun vs H Q => ∃ (p : Addr) (ys : List V), vs = [.ref p] /\ SqL K H p ys /\ ∀ (l : Addr) (ob : Obj), H l = none -> ob.dict = none -> Q (.ref l) (upd H l (.frz ob (.tup ys)))
theorem call_tupleZ {X : Cx} : CallR X (.type "tuple") (rTupZ X.K) := by
 intro pins s σ H xs us Q I r h
 obtain ⟨p, ys, rfl, hq, q⟩ := h
 obtain ⟨u, rfl, rx⟩ := vals1 r
 cases rx
 obtain ⟨its, r', pl, hz⟩ := I.list hq
 have hlen := r'.length
 refine call_tuple_list pl.isList (fun h' kp => ?_) (by simp only [List.size_toArray] <;> omega)
 have I1 : Inv X pins σ H { s with heap := h' } := I.kept (t' := s.toks) kp
 have I2 : Inv X pins σ (upd H h'.objs.size (.frz { cls := .type "tuple", data := .seq its.toArray } (.tup ys))) { s with heap := h'.push { cls := .type "tuple", data := .seq its.toArray } } :=
  I1.laid (t' := s.toks) (fun b o e => Heap.get?_push_of_some _ e) (Nat.le_refl _) (show ObjOk X.prog X.w _ _ _ (.frz _ (.tup ys)) from ⟨Heap.get?_push_size _ rfl, hz, its, r', IsTup.new _ _⟩)
 exact ⟨.ref h'.objs.size, _, I2, rfl, q _ _ (I1.hok.fresh (Nat.le_refl _)) rfl⟩
theorem hu2_of {A : Around} {k : Nat} (hr : Room k A) : A.units + 2 < cLine := Nat.lt_of_le_of_lt (Nat.add_le_add_left (by decide : 2 ≤ 64) _) hr.units
theorem wlk_zipLT {K : Fg} {H : Hp} {a b : Addr} {xs ys : List V} (h : SqL K H a xs) (h' : SqT K H b ys) (hl : xs.length = ys.length) : Wlk (ItzLT K a b) H xs.length (fun i v H' => ∃ p x y, v = .ref p /\ xs[i]? = some x /\ ys[i]? = some y /\ H' p = some (.tup [x, y])) where
 go := fun i H' hi z => ⟨xs, ys, _, _, z.seq h, Tst.same z _ _ h', List.getElem?_eq_getElem hi, List.getElem?_eq_getElem (by omega)⟩
 stop := fun H' z => ⟨xs, ys, z.seq h, Tst.same z _ _ h', .inl (Nat.le_refl _)⟩
 yld := fun i H' x H'' hi z y => by obtain ⟨p, u, v, hp, rfl, rfl, y1, y2⟩ := y; exact ⟨same_new hp _, p, u, v, rfl, y1 xs (z.seq h), y2 ys (Tst.same z _ _ h'), upd_same⟩
theorem wlk_zipLL {K : Fg} {H : Hp} {a b : Addr} {xs ys : List V} (h : SqL K H a xs) (h' : SqL K H b ys) (hl : xs.length = ys.length) : Wlk (ItzLL K a b) H xs.length (fun i v H' => ∃ p x y, v = .ref p /\ xs[i]? = some x /\ ys[i]? = some y /\ H' p = some (.tup [x, y])) where
 go := fun i H' hi z => ⟨xs, ys, _, _, z.seq h, z.seq h', List.getElem?_eq_getElem hi, List.getElem?_eq_getElem (by omega)⟩
 stop := fun H' z => ⟨xs, ys, z.seq h, z.seq h', .inl (Nat.le_refl _)⟩
 yld := fun i H' x H'' hi z y => by obtain ⟨p, u, v, hp, rfl, rfl, y1, y2⟩ := y; exact ⟨same_new hp _, p, u, v, rfl, y1 xs (z.seq h), y2 ys (z.seq h'), upd_same⟩
theorem qi_zipLT {X : Cx} {elts : List Expr} {x1} {tp p pos : Pos} {a b : Expr} {ta : TA} (hg : Gl X "zip") (hm : X.mg "zip" = none) (ha : QA X [a, b] ta) (hs : starEach [a, b] X.env = [(false, eval a X.env), (false, eval b X.env)] := by rfl) (hs2 : starEach [b] X.env = [(false, eval b X.env)] := by rfl) : QI X (.Tuple elts x1 tp) (.Call (.Name "zip" p) [a, b] [] pos) (iZipLT X.K ta) := ⟨pi_zipLT hg hm ha.p hs hs2⟩
theorem qi_zipLL {X : Cx} {elts : List Expr} {x1} {tp p pos : Pos} {a b : Expr} {ta : TA} (hg : Gl X "zip") (hm : X.mg "zip" = none) (ha : QA X [a, b] ta) (hs : starEach [a, b] X.env = [(false, eval a X.env), (false, eval b X.env)] := by rfl) (hs2 : starEach [b] X.env = [(false, eval b X.env)] := by rfl) : QI X (.Tuple elts x1 tp) (.Call (.Name "zip" p) [a, b] [] pos) (iZipLL X.K ta) := ⟨pi_zipLL hg hm ha.p hs hs2⟩
theorem comp_mapW {β : Type} {K : Fg} {J : It} {H : Hp} {D : Addr} {n : Nat} {P₀ : Nat -> V -> Hp -> Prop} {P : Hp -> V -> β -> Prop} (wk : Wlk J H n P₀) (f : Nat -> β) {src : List (Option Nat)} {σ : L2.St} {g : TG} {tt : TT} {te : TE} {Q : Hp -> Prop}
  (mono : ∀ H H' v d, Tst K H H' -> P H v d -> P H' v d) (hD : H D = none) (hn : n ≤ 1000)
  (turn : ∀ (i : Nat) (x : V) (H' : Hp), i < n -> Same H H' -> P₀ i x H' -> ∀ (R : VK) (E : Hp -> Prop), (∀ v H'', Same H' H'' -> P H'' v (f i) -> R v H'') →
   g x (frees src σ) H' fun σ2 H2 => Ext (frees src σ) σ2 /\ tt σ2 H2 fun ok H3 => if ok = true then te σ2 H3 R else E H3)
  (fin : ∀ H' ys, Same H H' -> H' D = some (.lst ys) -> Als (P H') ys ((List.range n).map f) -> Q H') :
  ∃ W : Nat -> Nat -> List V -> Hp -> Prop, (∃ m, W 0 m [] (upd H D (.lst []))) /\ ∀ i m ys H, W i m ys H -> (J.stop i H /\ Q H) ∨ (J.go i H /\ ∀ x H', J.yld i H x H' →
   g x (frees src σ) H' fun σ2 H2 => Ext (frees src σ) σ2 /\ tt σ2 H2 fun ok H3 =>
    if ok = true then te σ2 H3 fun y H4 => H4 D = some (.lst ys) /\ ys.length < sizeLine /\ ∃ m', m' < m /\ W (i + 1) m' (ys ++ [y]) (upd H4 D (.lst (ys ++ [y]))) else ∃ m', m' < m /\ W (i + 1) m' ys H3) := by
 refine ⟨fun i m ys H' => i ≤ n /\ m = n - i /\ H' D = some (.lst ys) /\ Same H H' /\ Als (P H') ys ((List.range i).map f), ⟨_, Nat.zero_le _, rfl, upd_same, same_new hD _, .nil⟩, ?_⟩
 rintro i m ys H1 ⟨hi, rfl, d1, s1, al1⟩
 by_cases hix : i < n
 ·refine .inr ⟨wk.go i H1 hix s1, fun x H2 y => ?_⟩
  obtain ⟨s2, p⟩ := wk.yld i H1 x H2 hix s1 y
  refine turn i x H2 hix (s1.trans s2) p _ _ fun v H3 s3 p3 => ?_
  have d3 : H3 D = some (.lst ys) := s3 _ _ (s2 _ _ d1)
  have tm : Tst K H1 (upd H3 D (.lst (ys ++ [v]))) := (Tst.same (s2.trans s3)).trans (Tst.up d3 _)
  refine ⟨d3, small1000 (by rw [al1.len, List.length_map, List.length_range]; omega), n - (i + 1), by omega, hix, rfl, upd_same, fun b o q => ?_, ?_⟩
  ·rw [upd_ne (ne_of_none q hD)]
   exact s3 _ _ (s2 _ _ (s1 _ _ q))
  ·rw [List.range_succ, List.map_append]
   exact (al1.mono fun v d p => mono _ _ _ _ tm p).snoc (mono _ _ _ _ (Tst.up d3 _) p3)
 ·have e : i = n := by omega
  subst e
  exact .inl ⟨wk.stop H1 s1, fin H1 ys s1 d1 al1⟩
section
variable {X : Cx} {K : Fg}
theorem qe_bmK {o e : Expr} {es : List Expr} {to : TE} {t : TA} {name : Str} {apos cpos : Pos} {T id : String} {r : V -> List V -> Hp -> VK -> Prop} (hK : X.K = K)
  (pa : PlainAttrs T) (slot : Slot T name id) (hty : typeOf (.builtin id) = pure (.type "method_descriptor")) (hm : MtR X id r) (ho : QE X o to) (ha : QA X (e :: es) t)
  (hbase : attributeBase o name X.env (eval o X.env) = eval o X.env := by rfl)
  (hfew : ((backTo cpos (starEach (e :: es) X.env)).all (fun x => !x.1) && (backToKw cpos (keywordEach [] X.env)).all (fun x => x.1.isSome)
   && decide ((e :: es).length + ([] : List Keyword).length + (if ([] : List Keyword).isEmpty then 0 else 1) < 30)) = true := by rfl)
  (hline : (apos.endLine == cpos.line) = true := by rfl) (hs : starEach (e :: es) X.env = (false, eval e X.env) :: starEach es X.env := by rfl) (hplain : (backTo cpos (starEach es X.env)).any (·.1) = false := by rfl) :
  QE X (.Call (.Attribute o name apos) (e :: es) [] cpos) (tBM K T r to t) := ⟨hK ▸ pe_bm pa slot hty hm ho.p ha.p hbase hfew hline hs hplain⟩
theorem mt_indexDK {k : Nat} (hK : X.K = K) (hr : Room k X.A) : MtR X "list.index" (rIndexD K) := hK ▸ mt_indexD hr
theorem op_inDK {k : Nat} (hK : X.K = K) (hr : Room k X.A) : OpR X (compareOp .In) (rInD K) := hK ▸ op_inD hr
theorem qe_dgetX {i o : Expr} {pos : Pos} {td ty : TE} (hu : X.A.units + 1 < cLine) (ho : QE X o td) (hi : QE X i ty) (hs : NoSl i) : QE X (.Subscript o i pos) (tDGet td ty) := ⟨pe_dget hu ho.p hi.p hs⟩
end
end B
namespace My
open PySem L2 B PyProof.Rows
theorem qsA {X : Cx} {pos : Pos} (i : Nat) {x : Str} {e : Expr} {te : TE} {pos' : Pos} (hN : X.N.Nodup) (he : QE X e te) (hi : X.N[i]? = some x := by rfl) (hx : Loc X.env.scope x := by first | exact Or.inl rfl | exact Or.inr rfl) (hs : swapsWith e (some (.Name x pos')) pos.line X.env = pure false := by rfl) (hf : X.fn x = true ∨ X.env.scope.names.lookup x = some .local := by first | exact .inl rfl | exact .inr rfl | assumption) : QS X (.Assign [.Name x pos'] e pos) (tAsg te (gName i)) := qs_set hN hi hx he hs hf
theorem scA {N P : List Str} {sc : Scope} (a : sc.kind = .function := by rfl) (b : sc.isCoroutine = false := by rfl) (c : sc.isGenerator = false := by rfl) (d : N.Nodup := by decide +kernel) (e : N.take P.length = P := by rfl) (f : ∀ x ∈ P, sc.names.lookup x = some .local ∨ sc.names.lookup x = some .cell := by decide +kernel) (g : ∀ y ∈ sc.names, y.2 ≠ .free := by decide +kernel) : FnScope N P sc := ⟨a, b, c, d, e, f, g⟩
theorem qcA {X : Cx} {k j : Nat} {f : Addr} {fd : FuncData} {ps : List Str} {sp : Sp} {x : Str} {p pos : Pos} {e : Expr} {es : List Expr} {t : TA} (F : FnOk X.prog X.w X.K X.mg X.base CX0 k f fd ps sp) (hr : Room j X.A) (hm : X.mg x = some (.ref f)) (hk : PySem.W.keepIn X.K (.ref f) = true) (hb : Binds X.K fd ps []) (ha : QA X (e :: es) t) (hl : k ≤ j := by decide) (hg : Gl X x := by rfl) (hdb : (x == ("__debug__" : Str)) = false := by decide) (he : starEach (e :: es) X.env = (false, eval e X.env) :: starEach es X.env := by rfl) (hpl : (backTo pos (starEach es X.env)).any (·.1) = false := by rfl) : QE X (.Call (.Name x p) (e :: es) [] pos) (tCall sp [] E0 t) := qe_call F (hr.mono hl) hg hm hk hb .nil pass0 ha hdb he hpl
theorem qxA {X : Cx} {a b : Expr} {ta tb : TE} {pos : Pos} {r : R2} (hr : IxR X r) (ha : QE X a ta) (hb : QE X b tb) (hs : PlainIx b := by exact fun _ _ => rfl) : QE X (.Subscript a b pos) (tOp r ta tb) := qe_ix hr ha hb hs
theorem bdA {K : Fg} {x qual : Str} {st : Stmt} {f : Addr} {fd : FuncData} {ps : List Str} (F : Fun K x qual st f fd) (h : ∀ (kV doc pm : Value) (an : Option Addr) (cdv ct : Value) (us : List Value), us.length = ps.length -> bindArgs (PySem.W.fnOf x qual (defArgs st) (defBody st) (defScope st) .none kV doc pm an cdv ct) ⟨us, []⟩ = pure (ps.zip us) := by
 intro _ _ _ _ _ _ us hl
 match us, hl with
 | [], h2 => first | rfl | (simp at h2)
 | [_], h2 => first | rfl | (simp at h2)
 | [_, _], h2 => first | rfl | (simp at h2)
 | [_, _, _], h2 => first | rfl | (simp at h2)
 | [_, _, _, _], h2 => first | rfl | (simp at h2)
 | _ :: _ :: _ :: _ :: _ :: _, h2 => simp at h2) : Binds K fd ps [] := F.binds h
def top (i : Nat) : Stmt := PySem.Challenge.pw_paceplan_k14_mixtures_told.main.body.getD i (.Pass ⟨0, 0, 0, 0⟩)
abbrev s_Q0 : Stmt := top 6
abbrev s_Q22 : Stmt := top 7
abbrev s_Q26 : Stmt := top 8
abbrev s_Q23 : Stmt := top 9
abbrev s_Q24 : Stmt := top 10
abbrev s_Q27 : Stmt := top 11
abbrev s_Q16 : Stmt := top 12
abbrev s_Q25 : Stmt := top 13
abbrev s_Q9 : Stmt := top 15
abbrev s_Q17 : Stmt := top 17
abbrev s_Q1 : Stmt := top 18
abbrev s_Q2 : Stmt := top 19
abbrev s_Q10 : Stmt := top 21
abbrev s_Q11 : Stmt := top 22
abbrev s_Q18 : Stmt := top 23
abbrev s_Q4 : Stmt := top 24
abbrev s_Q12 : Stmt := top 25
abbrev s_Q5 : Stmt := top 26
abbrev s_Q6 : Stmt := top 27
abbrev s_Q13 : Stmt := top 28
abbrev s_Q14 : Stmt := top 29
abbrev s_Q19 : Stmt := top 30
abbrev s_Q15 : Stmt := top 31
abbrev s_Q7 : Stmt := top 32
abbrev s_Q8 : Stmt := top 34
abbrev s_Q3 : Stmt := top 35
abbrev s_Q20 : Stmt := top 36
abbrev s_Q21 : Stmt := top 37
abbrev s_Q28 : Stmt := top 38
structure Ad where
 a_Q0 : Addr
 d_Q0 : FuncData
 a_Q22 : Addr
 d_Q22 : FuncData
 a_Q26 : Addr
 d_Q26 : FuncData
 a_Q23 : Addr
 d_Q23 : FuncData
 a_Q24 : Addr
 d_Q24 : FuncData
 a_Q27 : Addr
 d_Q27 : FuncData
 a_Q16 : Addr
 d_Q16 : FuncData
 a_Q25 : Addr
 d_Q25 : FuncData
 a_Q9 : Addr
 d_Q9 : FuncData
 a_Q17 : Addr
 d_Q17 : FuncData
 a_Q1 : Addr
 d_Q1 : FuncData
 a_Q2 : Addr
 d_Q2 : FuncData
 a_Q10 : Addr
 d_Q10 : FuncData
 a_Q11 : Addr
 d_Q11 : FuncData
 a_Q18 : Addr
 d_Q18 : FuncData
 a_Q4 : Addr
 d_Q4 : FuncData
 a_Q12 : Addr
 d_Q12 : FuncData
 a_Q5 : Addr
 d_Q5 : FuncData
 a_Q6 : Addr
 d_Q6 : FuncData
 a_Q13 : Addr
 d_Q13 : FuncData
 a_Q14 : Addr
 d_Q14 : FuncData
 a_Q19 : Addr
 d_Q19 : FuncData
 a_Q15 : Addr
 d_Q15 : FuncData
 a_Q7 : Addr
 d_Q7 : FuncData
 a_Q8 : Addr
 d_Q8 : FuncData
 a_Q3 : Addr
 d_Q3 : FuncData
 a_Q20 : Addr
 d_Q20 : FuncData
 a_Q21 : Addr
 d_Q21 : FuncData
 a_Q28 : Addr
 d_Q28 : FuncData
 c_NOUGHT : Addr
 c_ONE : Addr
structure Txt (K : Fg) (mg : Str -> Option Value) (t : Ad) : Prop where
 F_Q0 : Fun K "greatest_divisor" "greatest_divisor" s_Q0 t.a_Q0 t.d_Q0
 b_Q0 : Binds K t.d_Q0 ["one", "other"] []
 m_Q0 : mg "greatest_divisor" = some (.ref t.a_Q0)
 F_Q22 : Fun K "ratio" "ratio" s_Q22 t.a_Q22 t.d_Q22
 b_Q22 : Binds K t.d_Q22 ["top", "bottom"] []
 m_Q22 : mg "ratio" = some (.ref t.a_Q22)
 F_Q26 : Fun K "plus" "plus" s_Q26 t.a_Q26 t.d_Q26
 b_Q26 : Binds K t.d_Q26 ["one", "other"] []
 m_Q26 : mg "plus" = some (.ref t.a_Q26)
 F_Q23 : Fun K "minus" "minus" s_Q23 t.a_Q23 t.d_Q23
 b_Q23 : Binds K t.d_Q23 ["one", "other"] []
 m_Q23 : mg "minus" = some (.ref t.a_Q23)
 F_Q24 : Fun K "times" "times" s_Q24 t.a_Q24 t.d_Q24
 b_Q24 : Binds K t.d_Q24 ["one", "other"] []
 m_Q24 : mg "times" = some (.ref t.a_Q24)
 F_Q27 : Fun K "over" "over" s_Q27 t.a_Q27 t.d_Q27
 b_Q27 : Binds K t.d_Q27 ["one", "other"] []
 m_Q27 : mg "over" = some (.ref t.a_Q27)
 F_Q16 : Fun K "is_less" "is_less" s_Q16 t.a_Q16 t.d_Q16
 b_Q16 : Binds K t.d_Q16 ["one", "other"] []
 m_Q16 : mg "is_less" = some (.ref t.a_Q16)
 F_Q25 : Fun K "total" "total" s_Q25 t.a_Q25 t.d_Q25
 b_Q25 : Binds K t.d_Q25 ["some"] []
 m_Q25 : mg "total" = some (.ref t.a_Q25)
 F_Q9 : Fun K "place_of" "place_of" s_Q9 t.a_Q9 t.d_Q9
 b_Q9 : Binds K t.d_Q9 ["rows", "speed"] []
 m_Q9 : mg "place_of" = some (.ref t.a_Q9)
 F_Q17 : Fun K "mixture" "mixture" s_Q17 t.a_Q17 t.d_Q17
 b_Q17 : Binds K t.d_Q17 ["table", "speed"] []
 m_Q17 : mg "mixture" = some (.ref t.a_Q17)
 F_Q1 : Fun K "row_numbers" "row_numbers" s_Q1 t.a_Q1 t.d_Q1
 b_Q1 : Binds K t.d_Q1 ["table", "speeds"] []
 m_Q1 : mg "row_numbers" = some (.ref t.a_Q1)
 F_Q2 : Fun K "mixed_power" "mixed_power" s_Q2 t.a_Q2 t.d_Q2
 b_Q2 : Binds K t.d_Q2 ["table", "mix"] []
 m_Q2 : mg "mixed_power" = some (.ref t.a_Q2)
 F_Q10 : Fun K "_law_tape" "_law_tape" s_Q10 t.a_Q10 t.d_Q10
 b_Q10 : Binds K t.d_Q10 ["_law_script"] []
 m_Q10 : mg "_law_tape" = some (.ref t.a_Q10)
 F_Q11 : Fun K "_law_draw" "_law_draw" s_Q11 t.a_Q11 t.d_Q11
 b_Q11 : Binds K t.d_Q11 ["_law_tape_here", "_law_many"] []
 m_Q11 : mg "_law_draw" = some (.ref t.a_Q11)
 F_Q18 : Fun K "_law_gcd" "_law_gcd" s_Q18 t.a_Q18 t.d_Q18
 b_Q18 : Binds K t.d_Q18 ["_law_one", "_law_other"] []
 m_Q18 : mg "_law_gcd" = some (.ref t.a_Q18)
 F_Q4 : Fun K "_law_ratio" "_law_ratio" s_Q4 t.a_Q4 t.d_Q4
 b_Q4 : Binds K t.d_Q4 ["_law_top", "_law_bottom"] []
 m_Q4 : mg "_law_ratio" = some (.ref t.a_Q4)
 F_Q12 : Fun K "_law_plus" "_law_plus" s_Q12 t.a_Q12 t.d_Q12
 b_Q12 : Binds K t.d_Q12 ["_law_one", "_law_other"] []
 m_Q12 : mg "_law_plus" = some (.ref t.a_Q12)
 F_Q5 : Fun K "_law_minus" "_law_minus" s_Q5 t.a_Q5 t.d_Q5
 b_Q5 : Binds K t.d_Q5 ["_law_one", "_law_other"] []
 m_Q5 : mg "_law_minus" = some (.ref t.a_Q5)
 F_Q6 : Fun K "_law_times" "_law_times" s_Q6 t.a_Q6 t.d_Q6
 b_Q6 : Binds K t.d_Q6 ["_law_one", "_law_other"] []
 m_Q6 : mg "_law_times" = some (.ref t.a_Q6)
 F_Q13 : Fun K "_law_over" "_law_over" s_Q13 t.a_Q13 t.d_Q13
 b_Q13 : Binds K t.d_Q13 ["_law_one", "_law_other"] []
 m_Q13 : mg "_law_over" = some (.ref t.a_Q13)
 F_Q14 : Fun K "_law_less" "_law_less" s_Q14 t.a_Q14 t.d_Q14
 b_Q14 : Binds K t.d_Q14 ["_law_one", "_law_other"] []
 m_Q14 : mg "_law_less" = some (.ref t.a_Q14)
 F_Q19 : Fun K "_law_sum" "_law_sum" s_Q19 t.a_Q19 t.d_Q19
 b_Q19 : Binds K t.d_Q19 ["_law_some"] []
 m_Q19 : mg "_law_sum" = some (.ref t.a_Q19)
 F_Q15 : Fun K "_law_part" "_law_part" s_Q15 t.a_Q15 t.d_Q15
 b_Q15 : Binds K t.d_Q15 ["_law_tape_here"] []
 m_Q15 : mg "_law_part" = some (.ref t.a_Q15)
 F_Q7 : Fun K "_law_table" "_law_table" s_Q7 t.a_Q7 t.d_Q7
 b_Q7 : Binds K t.d_Q7 ["_law_tape_here"] []
 m_Q7 : mg "_law_table" = some (.ref t.a_Q7)
 F_Q8 : Fun K "_law_power" "_law_power" s_Q8 t.a_Q8 t.d_Q8
 b_Q8 : Binds K t.d_Q8 ["_law_rule_here", "_law_speed"] []
 m_Q8 : mg "_law_power" = some (.ref t.a_Q8)
 F_Q3 : Fun K "_law_inside" "_law_inside" s_Q3 t.a_Q3 t.d_Q3
 b_Q3 : Binds K t.d_Q3 ["_law_tape_here", "_law_table_here"] []
 m_Q3 : mg "_law_inside" = some (.ref t.a_Q3)
 F_Q20 : Fun K "_law_due" "_law_due" s_Q20 t.a_Q20 t.d_Q20
 b_Q20 : Binds K t.d_Q20 ["_law_table_here", "_law_speed"] []
 m_Q20 : mg "_law_due" = some (.ref t.a_Q20)
 F_Q21 : Fun K "_law_mix" "_law_mix" s_Q21 t.a_Q21 t.d_Q21
 b_Q21 : Binds K t.d_Q21 ["_law_tape_here", "_law_table_here"] []
 m_Q21 : mg "_law_mix" = some (.ref t.a_Q21)
 F_Q28 : Fun K "law" "law" s_Q28 t.a_Q28 t.d_Q28
 b_Q28 : Binds K t.d_Q28 ["_law_script"] []
 m_Q28 : mg "law" = some (.ref t.a_Q28)
 m_NOUGHT : mg "NOUGHT" = some (.ref t.c_NOUGHT)
 q_NOUGHT : ∀ H, SqT K H t.c_NOUGHT [.int (0), .int (1)]
 m_ONE : mg "ONE" = some (.ref t.c_ONE)
 q_ONE : ∀ H, SqT K H t.c_ONE [.int (1), .int (1)]
 z_abs : mg "abs" = none
 z_dict : mg "dict" = none
 z_len : mg "len" = none
 z_range : mg "range" = none
 z_repr : mg "repr" = none
 z_tuple : mg "tuple" = none
 z_zip : mg "zip" = none
abbrev N3 : Nat := 33000000231
structure SpOk (s : R) : Prop where
 bq : Bq (D0 * 12) N3 s
 nn : 0 ≤ s.1
theorem SpOk.wf {s : R} (h : SpOk s) : Wf 102 s := h.bq.wf (by decide) (by decide) (by decide)
theorem boot_dictT : bootBuiltins "dict" = some (.type "dict") := by kernel_rfl
def sp_greatest_divisor (_ : Fg) : Sp := fun vs H Q _ => ∃ a b : Int, vs = [.int a, .int b] /\ Q (.int (Int.gcd a b : Nat)) H
def sp_law_gcd (_ : Fg) : Sp := fun vs H Q _ => ∃ a b : Int, vs = [.int a, .int b] /\ 0 ≤ a /\ 0 ≤ b /\ Q (.int (Int.gcd a b : Nat)) H
abbrev sp_law_tape := sp_tape
def sp_law_draw (_ : Fg) : Sp := sp_draw
def newR (H : Hp) (Q : VK) (r : R) : Prop := ∀ p, H p = none -> Q (.ref p) (upd H p (.tup [.int r.1, .int r.2]))
def toR (K : Fg) (H : Hp) (Q : VK) (r : R) : Prop := ∀ (v : V) (H' : Hp), Same H H' -> RV K H' v r -> Q v H'
def sp_ratio (_ : Fg) : Sp := fun vs H Q _ => ∃ a b : Int, vs = [.int a, .int b] /\ b ≠ 0 /\ b.natAbs < 2 ^ 4000 /\ newR H Q (mkS a b)
abbrev sp_law_ratio := sp_ratio
def sp_plus (K : Fg) : Sp := fun vs H Q _ => ∃ (v w : V) (r q : R) (n m : Nat), vs = [v, w] /\ RV K H v r /\ RV K H w q /\ Wf n r /\ Wf m q /\ n + m + 1 ≤ 3000 /\ newR H Q (plusR r q)
abbrev sp_law_plus := sp_plus
def sp_minus (K : Fg) : Sp := fun vs H Q _ => ∃ (v w : V) (r q : R) (n m : Nat), vs = [v, w] /\ RV K H v r /\ RV K H w q /\ Wf n r /\ Wf m q /\ n + m + 1 ≤ 3000 /\ toR K H Q (minusR r q)
def sp_law_minus (K : Fg) : Sp := fun vs H Q _ => ∃ (v w : V) (r q : R) (n m : Nat), vs = [v, w] /\ RV K H v r /\ RV K H w q /\ Wf n r /\ Wf m q /\ n + m + 1 ≤ 3000 /\ newR H Q (minusR r q)
def sp_times (K : Fg) : Sp := fun vs H Q _ => ∃ (v w : V) (r q : R) (n m : Nat), vs = [v, w] /\ RV K H v r /\ RV K H w q /\ Wf n r /\ Wf m q /\ n + m + 1 ≤ 3000 /\ newR H Q (timesR r q)
abbrev sp_law_times := sp_times
def sp_over (K : Fg) : Sp := fun vs H Q _ => ∃ (v w : V) (r q : R) (n m : Nat), vs = [v, w] /\ RV K H v r /\ RV K H w q /\ Wf n r /\ Wf m q /\ n + m + 1 ≤ 3000 /\ q.1 ≠ 0 /\ toR K H Q (overR r q)
def sp_law_over (K : Fg) : Sp := fun vs H Q _ => ∃ (v w : V) (r q : R) (n m : Nat), vs = [v, w] /\ RV K H v r /\ RV K H w q /\ Wf n r /\ Wf m q /\ n + m + 1 ≤ 3000 /\ q.1 ≠ 0 /\ newR H Q (overR r q)
def sp_is_less (K : Fg) : Sp := fun vs H Q _ => ∃ (v w : V) (r q : R) (n m : Nat), vs = [v, w] /\ RV K H v r /\ RV K H w q /\ Wf n r /\ Wf m q /\ n + m + 1 ≤ 3000 /\ Q (.bl (lessR r q)) H
abbrev sp_law_less := sp_is_less
theorem big_of {i : Int} {n : Nat} (h : i.natAbs < 2 ^ n) (hn : n ≤ 4000) : i.natAbs < 2 ^ 4000 := Nat.lt_of_lt_of_le h (Nat.pow_le_pow_right (by decide) hn)
theorem rv_new {K : Fg} {H : Hp} {p : Addr} {x y : Int} (_ : Same H (upd H p (.tup [.int x, .int y]))) : RV K (upd H p (.tup [.int x, .int y])) (.ref p) (x, y) := RV.of upd_same
theorem cop_neg' {a b : Int} (h : Int.gcd a b = 1) : Int.gcd (-a) b = 1 := by rw [Int.neg_gcd]; exact h
theorem div_lt {a g : Int} (hg : 0 < g) (h : a.natAbs < 2 ^ 4000) : (a / g).natAbs < 2 ^ 4000 := Nat.lt_of_le_of_lt (natAbs_div_le a hg) h
theorem gcd_lt {a b : Int} (hb : 0 < b) (h : b.natAbs < 2 ^ 4000) : ((Int.gcd a b : Nat) : Int).natAbs < 2 ^ 4000 := gcd_big (by omega) h
def RowV (K : Fg) (H : Hp) (v : V) (w : R × R) : Prop := ∃ p x y, v = .ref p /\ SqT K H p [x, y] /\ RV K H x w.1 /\ RV K H y w.2
theorem RowV.mono {K : Fg} {H H' : Hp} {v : V} {w : R × R} (h : RowV K H v w) (t : Tst K H H') : RowV K H' v w := let ⟨p, q, q', a, b, c, d⟩ := h; ⟨p, q, q', a, t _ _ b, c.mono t, d.mono t⟩
def RlV (K : Fg) (H : Hp) (v : V) : Rl -> Prop
 | .pow k => ∃ p, v = .ref p /\ SqT K H p [.str (Str.ofString "power"), .int k]
 | .tab rows => ∃ p q xs, v = .ref p /\ SqT K H p [.str (Str.ofString "table"), .ref q] /\ SqT K H q xs /\ Als (RowV K H) xs rows
theorem RlV.mono {K : Fg} {H H' : Hp} {v : V} {rl : Rl} (h : RlV K H v rl) (t : Tst K H H') : RlV K H' v rl := by
 cases rl with
 | pow k => obtain ⟨p, a, b⟩ := h; exact ⟨p, a, t _ _ b⟩
 | tab rows => obtain ⟨p, q, xs, a, b, c, d⟩ := h; exact ⟨p, q, xs, a, t _ _ b, t _ _ c, d.mono fun _ _ z => z.mono t⟩
def OptV (K : Fg) (H : Hp) (v : V) : Option R -> Prop
 | none => v = .non
 | some r => RV K H v r
structure SlOk (a b : R × R) : Prop where
 ne : (minusR b.1 a.1).1 ≠ 0
 w1 : Wf 99 (minusR b.1 a.1)
 w2 : Wf 198 (minusR b.2 a.2)
 a1 : Wf 98 a.1
 b1 : Wf 98 b.1
 a2 : Wf 197 a.2
 b2 : Wf 197 b.2
theorem slOk {rows : List (R × R)} (h : RowsOk rows) {i j : Nat} {a b : R × R} (hij : i < j) (ha : rows[i]? = some a) (hb : rows[j]? = some b) : SlOk a b :=
 let ⟨e1, e2, e3, _⟩ := h.slope hij ha hb
 let ma := List.mem_of_getElem? ha
 let mb := List.mem_of_getElem? hb
 ⟨e1, e2, e3, wfS (h.sp a ma), wfS (h.sp b mb), wfP (h.pw a ma), wfP (h.pw b mb)⟩
def sp_place_of (K : Fg) : Sp := fun vs H Q _ => ∃ (q : Addr) (v : V) (xs : List V) (rows : List (R × R)) (s : R), vs = [.ref q, v] /\ SqT K H q xs /\ Als (RowV K H) xs rows /\ RowsOk rows /\ RV K H v s /\ SpOk s /\ Below (.tab rows) s /\ Q (.int (pOf rows s)) H
structure PartOk (r : R) : Prop where
 bq : Bq D0 N0 r
 pos : 0 < r.1
theorem PartOk.wf {r : R} (h : PartOk r) : Wf 98 r := h.bq.wf (by decide) (by decide) (by decide)
def sp_law_part (K : Fg) : Sp := fun vs H Q _ => ∃ t s : Addr, vs = [.ref t] /\ Tape H t s /\ ∀ (v : V) (r : R) (H' : Hp), PartOk r -> Step t H H' -> Tape H' t s -> RV K H' v r -> Q v H'
theorem div30 {r : Int} (h0 : 0 ≤ r) (h1 : r < 30) : (1 + r) ∣ (D0 : Int) := by
 have z : ∀ k : Fin 30, (1 + ((k : Nat) : Int)) ∣ (D0 : Int) := by decide
 have := z ⟨r.toNat, by omega⟩
 rw [show (((⟨r.toNat, by omega⟩ : Fin 30) : Nat) : Int) = r by show ((r.toNat : Nat) : Int) = r; omega] at this
 exact this
theorem part_ok {a b : Int} (ha : 0 < a) (ha' : a ≤ 1000000007) (hb : 0 < b) (hd : b ∣ (D0 : Int)) : PartOk (mkR a b) := by
 refine ⟨bq_mk hb hd ?_, mkR_pos ha hb⟩
 have h1 : a.natAbs ≤ 1000000007 := by omega
 have h2 : 1 ≤ b.natAbs := by omega
 show a.natAbs ≤ 1000000007 * b.natAbs
 omega
theorem bq_zero {D N : Nat} : Bq D N (0, 1) := ⟨by show (0 : Int) < 1; decide, by show Int.gcd 0 1 = 1; decide, ⟨(D : Int), by show (D : Int) = 1 * (D : Int); omega⟩, Nat.zero_le _⟩
theorem row_nn {rows : List (R × R)} (h : RowsOk rows) {k : Nat} {r : R × R} (e : rows[k]? = some r) : 0 ≤ r.1.1 := by
 obtain ⟨y, ey⟩ := h.zero
 cases k with
 | zero => rw [ey] at e; cases e; exact Int.le_refl _
 | succ k =>
  obtain ⟨h1, e1⟩ := List.getElem?_eq_some_iff.mp e
  obtain ⟨h2, e2⟩ := List.getElem?_eq_some_iff.mp ey
  have := List.pairwise_iff_getElem.mp h.inc 0 (k + 1) h2 h1 (Nat.succ_pos k)
  rw [e1, e2, less_iff] at this
  have z : 0 * r.1.2 < r.1.1 * 1 := this
  omega
structure TabAt (i : Nat) (rows : List (R × R)) : Prop where
 len : rows.length = i + 1
 inc : Inc rows
 zero : ∃ y, rows[0]? = some ((0, 1), y)
 sp : ∀ r ∈ rows, Bq D0 (i * N0) r.1
 pw : ∀ r ∈ rows, Bq (D0 * D0) (N0 + i * (12 * N0 * N0)) r.2
theorem tab_one {y : R} (h : Bq D0 N0 y) : TabAt 0 [((0, 1), y)] := by
 refine ⟨rfl, List.pairwise_singleton _ _, ⟨y, rfl⟩, fun r hr => ?_, fun r hr => ?_⟩
 ·rw [List.mem_singleton] at hr; rw [hr]; exact bq_zero
 ·rw [List.mem_singleton] at hr; rw [hr]
  exact h.mono ⟨D0, rfl⟩ (by omega)
theorem TabAt.snoc {i : Nat} {rows : List (R × R)} (h : TabAt i rows) (hi : i ≤ 10) {w : R × R} (hw : rows[i]? = some w) {sl st : R} (hs : Bq D0 ((i + 1) * N0) sl) (ht : PartOk st) :
  TabAt (i + 1) (rows ++ [(plusR w.1 st, plusR w.2 (timesR sl st))]) := by
 have mw := List.mem_of_getElem? hw
 have b1 : Bq D0 ((i + 1) * N0) (plusR w.1 st) := ((h.sp w mw).plus (by decide) ht.bq).mono ⟨1, rfl⟩ (by rw [Nat.add_mul]; omega)
 have b2 : Bq (D0 * D0) (12 * N0 * N0) (timesR sl st) := (hs.times ht.bq).mono ⟨1, by rw [Nat.mul_one]⟩ (Nat.mul_le_mul_right _ (Nat.mul_le_mul_right _ (by omega)))
 have b3 : Bq (D0 * D0) (N0 + (i + 1) * (12 * N0 * N0)) (plusR w.2 (timesR sl st)) := ((h.pw w mw).plus (by decide) b2).mono ⟨1, by rw [Nat.mul_one]⟩ (by rw [Nat.add_mul]; omega)
 have up := less_plus (h.sp w mw).red ht.bq.red ht.pos
 refine ⟨by rw [List.length_append, h.len]; rfl, ?_, ?_, fun r hr => ?_, fun r hr => ?_⟩
 ·refine List.pairwise_append.mpr ⟨h.inc, List.pairwise_singleton _ _, fun a ha b hb => ?_⟩
  rw [List.mem_singleton] at hb
  rw [hb]
  show lessR a.1 (plusR w.1 st) = true
  obtain ⟨j, hj⟩ := List.getElem?_of_mem ha
  have lj : j < i + 1 := by rw [← h.len]; exact (List.getElem?_eq_some_iff.mp hj).1
  by_cases e : j = i
  ·rw [e, hw] at hj; cases hj; exact up
  ·obtain ⟨h1, e1⟩ := List.getElem?_eq_some_iff.mp hj
   obtain ⟨h2, e2⟩ := List.getElem?_eq_some_iff.mp hw
   have := List.pairwise_iff_getElem.mp h.inc j i h1 h2 (by omega)
   rw [e1, e2] at this
   exact lt_le (h.sp a ha).pos (h.sp w mw).pos b1.pos this (less_asym up)
 ·obtain ⟨y, hy⟩ := h.zero
  exact ⟨y, by rw [List.getElem?_append_left (by rw [h.len]; exact Nat.succ_pos i)]; exact hy⟩
 ·rcases List.mem_append.mp hr with z | z
  ·exact (h.sp r z).mono ⟨1, rfl⟩ (Nat.mul_le_mul_right _ (Nat.le_succ i))
  ·rw [List.mem_singleton] at z; rw [z]; exact b1
 ·rcases List.mem_append.mp hr with z | z
  ·exact (h.pw r z).mono ⟨1, by rw [Nat.mul_one]⟩ (Nat.add_le_add_left (Nat.mul_le_mul_right _ (Nat.le_succ i)) _)
  ·rw [List.mem_singleton] at z; rw [z]; exact b3
theorem TabAt.ok {i : Nat} {rows : List (R × R)} (h : TabAt i rows) (h1 : 1 ≤ i) (h2 : i ≤ 11) : RowsOk rows := by
 refine ⟨by rw [h.len]; omega, by rw [h.len]; omega, h.inc, h.zero, fun r hr => (h.sp r hr).mono ⟨1, rfl⟩ ?_, fun r hr => (h.pw r hr).mono ⟨1, by rw [Nat.mul_one]⟩ ?_⟩
 ·exact Nat.le_trans (Nat.mul_le_mul_right N0 h2) (by decide)
 ·exact Nat.le_trans (Nat.add_le_add_left (Nat.mul_le_mul_right _ h2) _) (by decide)
theorem wf_sp {i : Nat} {r : R} (h : Bq D0 (i * N0) r) (hi : i ≤ 12) : Wf 98 r := (h.mono (N' := 12 * N0) ⟨1, rfl⟩ (Nat.mul_le_mul_right _ hi)).wf (by decide) (by decide) (by decide)
theorem wf_pw {i : Nat} {r : R} (h : Bq (D0 * D0) (N0 + i * (12 * N0 * N0)) r) (hi : i ≤ 12) : Wf 197 r := (h.mono (N' := N0 + 12 * (12 * N0 * N0)) ⟨1, by rw [Nat.mul_one]⟩ (Nat.add_le_add_left (Nat.mul_le_mul_right _ hi) _)).wf (by decide) (by decide) (by decide)
def dOp : Option R -> PyData
 | none => .none
 | some r => dR r
def lineR (a b : R × R) (s : R) : R := plusR a.2 (timesR (slopeR a b) (minusR s a.1))
def powT (rows : List (R × R)) (s : R) : R := if pOf rows s = 0 then (rows.getD 0 rowD).2 else lineR (rows.getD (pOf rows s - 1) rowD) (rows.getD (pOf rows s) rowD) s
theorem line_wf {a b : R × R} {s : R} (ok : SlOk a b) (w : Wf 300 (slopeR a b)) (ws : Wf 102 s) : Wf 201 (minusR s a.1) /\ Wf 501 (timesR (slopeR a b) (minusR s a.1)) /\ Wf 700 (lineR a b s) := by
 have m := minus_wf ws ok.a1
 have tm := times_wf w m
 exact ⟨m, tm, (plus_wf ok.a2 tm).mono (by decide)⟩
theorem zero_of {rows : List (R × R)} (h : RowsOk rows) {s : R} (hs : SpOk s) (hp : pOf rows s = 0) : s = (0, 1) := by
 obtain ⟨y, ey⟩ := h.zero
 have c := cnt_p hs.bq.pos h.inc h.allP ey
 rw [hp] at c
 have c' : lessR (0, 1) s = false := c
 rw [less_not] at c'
 have z : s.1 * 1 ≤ 0 * s.2 := c'
 have nn := hs.nn
 have e : s.1 = 0 := by omega
 have cop := hs.bq.cop
 have pos := hs.bq.pos
 rw [e] at cop
 have : s.2.natAbs = 1 := by simpa [Int.gcd] using cop
 exact Prod.ext e (by omega)
theorem add_dvd {D i n : Nat} {ps : List (Int × Int)} {r : R} (h : ∀ p ∈ ps, p.1 ∣ (D : Int)) (hr : r.2 ∣ (D : Int)) : ∀ p ∈ addP ps r.2 r.1, p.1 ∣ (D : Int) := fun p hp => by
 rcases (add_keys ps r.2 r.1 p.1).mp (List.mem_map.mpr ⟨p, hp, rfl⟩) with z | z
 ·obtain ⟨q, hq, e⟩ := List.mem_map.mp z
  rw [← e]
  exact h q hq
 ·rw [z]; exact hr
theorem grp_bq {D n i : Nat} {ps : List (Int × Int)} (ok : PsOk n i ps) (hd : ∀ p ∈ ps, p.1 ∣ (D : Int)) (hi : i ≤ 64) {q : Int × Int} (hq : q ∈ ps) : Bq D (64 * 2 ^ n) (mkR q.2 q.1) := by
 have b := (ok.bot q hq).1
 refine bq_mk b (hd q hq) (Nat.le_trans (ok.top q hq) ?_)
 refine Nat.le_trans (Nat.mul_le_mul_right _ hi) (Nat.le_mul_of_pos_right _ (by omega))
theorem acc_wf {D n j : Nat} {r : R} (h : Bq D (64 * 2 ^ n * j) r) (hj : j ≤ 64) (h0 : 0 < D) (hD : D < 2 ^ n) : Wf (2 * n + 12) r := by
 refine h.wf h0 (Nat.lt_of_lt_of_le hD (Nat.pow_le_pow_right (by decide) (by omega))) ?_
 have a : 64 * 2 ^ n * j ≤ 64 * 2 ^ n * 64 := Nat.mul_le_mul_left _ hj
 have b : 64 * 2 ^ n * j * D < 64 * 2 ^ n * 64 * 2 ^ n := Nat.lt_of_le_of_lt (Nat.mul_le_mul_right _ a) (Nat.mul_lt_mul_of_pos_left hD (Nat.mul_pos (Nat.mul_pos (by decide) (Nat.pow_pos (by decide))) (by decide)))
 refine Nat.lt_of_lt_of_le b ?_
 rw [show 2 * n + 12 = n + (n + 12) by omega, Nat.pow_add, Nat.pow_add, show (2 : Nat) ^ 12 = 4096 by decide]
 rw [show 64 * 2 ^ n * 64 * 2 ^ n = 2 ^ n * (2 ^ n * 4096) by rw [show (4096 : Nat) = 64 * 64 by decide]; ac_rfl]
 exact Nat.le_refl _
theorem sum_bq {D N : Nat} (hD : 0 < D) : ∀ {rs : List R}, (∀ r ∈ rs, Bq D N r) -> ∀ {a : R} {M : Nat}, Bq D M a -> Bq D (M + N * rs.length) (rs.foldl plusR a)
 | [], _, a, M, h => by simpa using h
 | r :: rs, hr, a, M, h => by
  have := sum_bq hD (fun q hq => hr q (List.mem_cons_of_mem _ hq)) (h.plus hD (hr r List.mem_cons_self))
  rw [List.foldl_cons, List.length_cons, Nat.mul_succ]
  refine this.mono (Nat.dvd_refl _) (by omega)
theorem bq_z {D : Nat} : Bq D 0 ((0, 1) : R) := ⟨by decide, by decide, ⟨(D : Int), by show (D : Int) = 1 * D; omega⟩, by show 0 ≤ _; exact Nat.zero_le _⟩
theorem sumR_bq {D N : Nat} (hD : 0 < D) {rs : List R} (h : ∀ r ∈ rs, Bq D N r) : Bq D (N * rs.length) (sumR rs) := by
 have := sum_bq hD h (bq_z (D := D))
 rw [Nat.zero_add] at this
 exact this
structure TT (K : Fg) (H H' : Hp) : Prop where
 u : ∀ b o, (∀ ys, o ≠ .lst ys) -> H b = some o -> H' b = some o
theorem TT.same {K : Fg} {H H' : Hp} (s : Same H H') : TT K H H' := ⟨fun b o _ e => s b o e⟩
theorem TT.step {K : Fg} {t : Addr} {H H' : Hp} (s : Step t H H') : TT K H H' := ⟨fun b o n e => s.keep b o (fun z => by subst z; obtain ⟨xs, q⟩ := s.tp; rw [q] at e; exact n xs (Option.some.inj e).symm) e⟩
theorem TT.up {K : Fg} {H : Hp} {l : Addr} {xs : List V} (h : H l = some (.lst xs)) (ys : List V) : TT K H (upd H l (.lst ys)) := ⟨fun b o n e => by
 rw [upd_ne (fun z => by subst z; rw [h] at e; exact n xs (Option.some.inj e).symm)]
 exact e⟩
theorem TT.trans {K : Fg} {H H1 H2 : Hp} (a : TT K H H1) (b : TT K H1 H2) : TT K H H2 := ⟨fun c o n e => b.u c o n (a.u c o n e)⟩
theorem TT.t {K : Fg} {H H' : Hp} (a : TT K H H') : Tst K H H' := fun p ys h => by
 rcases h with (h | ⟨ob, h⟩) | h
 ·exact .inl (.inl (a.u _ _ (fun _ z => nomatch z) h))
 ·exact .inl (.inr ⟨ob, a.u _ _ (fun _ z => nomatch z) h⟩)
 ·exact .inr h
theorem TT.dt {K : Fg} {H H' : Hp} {d : Addr} {kvs : List (List Key × V)} (a : TT K H H') (e : H d = some (.dT kvs)) : H' d = some (.dT kvs) := a.u _ _ (fun _ z => nomatch z) e
def RowK (K : Fg) (H : Hp) (v : V) (w : R × R) : Prop := ∃ p b y, v = .ref p /\ SqT K H p [.ref b, y] /\ H b = some (.tup [.int w.1.1, .int w.1.2]) /\ RV K H y w.2
theorem RowK.mono {K : Fg} {H H' : Hp} {v : V} {w : R × R} (h : RowK K H v w) (t : TT K H H') : RowK K H' v w := let ⟨p, b, y, e1, e2, e3, e4⟩ := h; ⟨p, b, y, e1, t.t _ _ e2, t.u _ _ (fun _ z => nomatch z) e3, e4.mono t.t⟩
theorem RowK.row {K : Fg} {H : Hp} {v : V} {w : R × R} (h : RowK K H v w) : RowV K H v w := let ⟨p, b, y, e1, e2, e3, e4⟩ := h; ⟨p, _, y, e1, e2, RV.of e3, e4⟩
def TabV (K : Fg) (H : Hp) (v : V) (rows : List (R × R)) : Prop := ∃ p q ob xs, v = .ref p /\ SqT K H p [.str (Str.ofString "table"), .ref q] /\ H q = some (.frz ob (.tup xs)) /\ ob.dict = none /\ Als (RowK K H) xs rows
theorem TabV.mono {K : Fg} {H H' : Hp} {v : V} {rows : List (R × R)} (h : TabV K H v rows) (t : TT K H H') : TabV K H' v rows := let ⟨p, q, ob, xs, e1, e2, e3, e4, e5⟩ := h; ⟨p, q, ob, xs, e1, t.t _ _ e2, t.u _ _ (fun _ z => nomatch z) e3, e4, e5.mono fun _ _ z => z.mono t⟩
theorem TabV.rl {K : Fg} {H : Hp} {v : V} {rows : List (R × R)} (h : TabV K H v rows) : RlV K H v (.tab rows) := let ⟨p, q, ob, xs, e1, e2, e3, e4, e5⟩ := h; ⟨p, q, xs, e1, e2, .inl (.inr ⟨ob, e3⟩), e5.mono fun _ _ z => z.row⟩
def keyR (r : R) : List Key := [.inl r.1, .inl r.2]
theorem keyR_inj {a b : R} (h : keyR a = keyR b) : a = b := by
 unfold keyR at h
 injection h with h1 h2
 injection h2 with h3 h4
 injection h1 with h5
 injection h3 with h6
 exact Prod.ext h5 h6
def MixV (K : Fg) (H : Hp) (v : V) (ms : List (R × R)) : Prop := ∃ p xs, v = .ref p /\ SqT K H p xs /\ Als (RowV K H) xs ms
theorem MixV.mono {K : Fg} {H H' : Hp} {v : V} {ms : List (R × R)} (h : MixV K H v ms) (t : Tst K H H') : MixV K H' v ms := let ⟨p, xs, a, b, c⟩ := h; ⟨p, xs, a, t _ _ b, c.mono fun _ _ z => z.mono t⟩
def dPr (w : R × R) : PyData := .tuple [dR w.1, dR w.2]
def dMix (ms : List (R × R)) : PyData := .tuple (ms.map dPr)
theorem RowV.deep {K : Fg} {H : Hp} {v : V} {w : R × R} (h : RowV K H v w) : Deep K H v (dPr w) := by
 obtain ⟨p, x, y, rfl, hS, hx, hy⟩ := h
 exact .tup hS (.cons hx.deep (.cons hy.deep .nil))
theorem MixV.deep {K : Fg} {H : Hp} {v : V} {ms : List (R × R)} (h : MixV K H v ms) : Deep K H v (dMix ms) := by
 obtain ⟨p, xs, rfl, hS, al⟩ := h
 exact .tup hS (al.deep fun v d z => z.deep)
def idxR (rows : List (R × R)) (z : R) : Nat := rows.findIdx fun r => decide (r.1 = z)
def numV (rows : List (R × R)) (z : R) : V := if (rows.any fun r => decide (r.1 = z)) = true then .int (idxR rows z : Nat) else .non
def pwAt (rows : List (R × R)) (z : R) : R := (rows.getD (idxR rows z) rowD).2
def HasR (rows : List (R × R)) (z : R) : Prop := ∃ r ∈ rows, r.1 = z
theorem has_any {rows : List (R × R)} {z : R} : (rows.any fun r => decide (r.1 = z)) = true ↔ HasR rows z := by
 rw [List.any_eq_true]
 exact ⟨fun ⟨r, h, e⟩ => ⟨r, h, of_decide_eq_true e⟩, fun ⟨r, h, e⟩ => ⟨r, h, decide_eq_true e⟩⟩
theorem idx_lt {rows : List (R × R)} {z : R} (h : HasR rows z) : idxR rows z < rows.length := by
 obtain ⟨r, m, e⟩ := h
 exact List.findIdx_lt_length.mpr ⟨r, m, decide_eq_true e⟩
theorem idx_at {rows : List (R × R)} {z : R} (h : HasR rows z) : ∃ r, rows[idxR rows z]? = some r /\ r.1 = z := by
 have l := idx_lt h
 refine ⟨_, List.getElem?_eq_getElem l, ?_⟩
 have := List.findIdx_getElem (p := fun r : R × R => decide (r.1 = z)) (w := l)
 exact of_decide_eq_true this
theorem num_of {rows : List (R × R)} {z : R} (h : HasR rows z) : numV rows z = .int (idxR rows z : Nat) := if_pos (has_any.mpr h)
def mixS (rows : List (R × R)) (ms : List (R × R)) : List R := ms.map fun m => timesR (pwAt rows m.1) m.2
theorem row_uniq {rows : List (R × R)} (h : RowsOk rows) {i j : Nat} {a b : R × R} (ha : rows[i]? = some a) (hb : rows[j]? = some b) (e : a.1 = b.1) : i = j := by
 obtain ⟨h1, e1⟩ := List.getElem?_eq_some_iff.mp ha
 obtain ⟨h2, e2⟩ := List.getElem?_eq_some_iff.mp hb
 have self : ∀ r : R, lessR r r = false := fun r => less_not.mpr (Int.le_refl _)
 rcases Nat.lt_trichotomy i j with l | l | l
 ·have := List.pairwise_iff_getElem.mp h.inc i j h1 h2 l
  rw [e1, e2, e, self] at this; cases this
 ·exact l
 ·have := List.pairwise_iff_getElem.mp h.inc j i h2 h1 l
  rw [e1, e2, e, self] at this; cases this
theorem pw_at {rows : List (R × R)} (h : RowsOk rows) {i : Nat} {r : R × R} (e : rows[i]? = some r) : pwAt rows r.1 = r.2 := by
 have hr : HasR rows r.1 := ⟨r, List.mem_of_getElem? e, rfl⟩
 obtain ⟨q, hq, eq⟩ := idx_at hr
 have := row_uniq h hq e eq
 unfold pwAt
 rw [getD_at hq]
 rw [this, e] at hq
 cases hq
 rfl
theorem pw_wf {rows : List (R × R)} (h : RowsOk rows) {z : R} (hz : HasR rows z) : Bq (D0 * D0) N2 (pwAt rows z) := by
 obtain ⟨q, hq, eq⟩ := idx_at hz
 rw [← eq, pw_at h hq]
 exact h.pw q (List.mem_of_getElem? hq)
def partR (lo hi s : R) : R := overR (minusR s lo) (minusR hi lo)
def mixM (rows : List (R × R)) (s : R) : List (R × R) :=
 if (rows.getD (pOf rows s) rowD).1 = s then [(s, (1, 1))]
 else [((rows.getD (pOf rows s - 1) rowD).1, minusR (1, 1) (partR (rows.getD (pOf rows s - 1) rowD).1 (rows.getD (pOf rows s) rowD).1 s)), ((rows.getD (pOf rows s) rowD).1, partR (rows.getD (pOf rows s - 1) rowD).1 (rows.getD (pOf rows s) rowD).1 s)]
theorem one_wf : Wf 1 ((1, 1) : R) := ⟨by decide, by decide, by decide, by decide⟩
theorem part_wf {rows : List (R × R)} (h : RowsOk rows) {i : Nat} {lo hi : R × R} {s : R} (hs : SpOk s) (e1 : rows[i]? = some lo) (e2 : rows[i + 1]? = some hi) :
  Wf 202 (minusR s lo.1) /\ Wf 99 (minusR hi.1 lo.1) /\ (minusR hi.1 lo.1).1 ≠ 0 /\ Wf 302 (partR lo.1 hi.1 s) /\ Wf 305 (minusR (1, 1) (partR lo.1 hi.1 s)) := by
 have sl := slOk h (Nat.lt_succ_self i) e1 e2
 have w1 : Wf 202 (minusR s lo.1) := (minus_wf hs.wf sl.a1).mono (by decide)
 have wp : Wf 302 (partR lo.1 hi.1 s) := (over_wf w1 sl.w1 sl.ne).mono (by decide)
 exact ⟨w1, sl.w1, sl.ne, wp, (minus_wf one_wf wp).mono (by decide)⟩
theorem val_one : val ((1, 1) : R) = 1 := by
 show ((1 : Int) : Rat) / ((1 : Int) : Rat) = 1
 rw [show ((1 : Int) : Rat) = 1 from rfl]
 grind
theorem val_nz {r : R} (h : 0 < r.2) (n : r.1 ≠ 0) : val r ≠ 0 := fun z => n ((val_zero h).mp z)
theorem times_one {r : R} (h : Red r) : timesR r (1, 1) = r := by
 refine val_inj (mkR_red (Int.mul_pos h.pos (by decide))) h ?_
 rw [val_times h.pos (by decide), val_one]
 grind
theorem sum_one {r : R} (h : Red r) : sumR [r] = r := by
 show plusR (0, 1) r = r
 refine val_inj (mkR_red (Int.mul_pos (by decide) h.pos)) h ?_
 rw [val_plus (by decide) h.pos, (val_zero (r := (0, 1)) (by decide)).mpr rfl]
 grind
theorem mix_pow {rows : List (R × R)} (h : RowsOk rows) {s : R} (hs : SpOk s) (hb : Below (.tab rows) s) : sumR (mixS rows (mixM rows s)) = powT rows s := by
 have pl := h.p_lt hs.bq.pos hb
 obtain ⟨r, er⟩ : ∃ r, rows[pOf rows s]? = some r := ⟨_, List.getElem?_eq_getElem pl⟩
 have mr := List.mem_of_getElem? er
 unfold mixS mixM powT
 rw [getD_at er]
 by_cases c : r.1 = s
 ·rw [if_pos c]
  have e0 : pwAt rows s = r.2 := by rw [← c]; exact pw_at h er
  show sumR [timesR (pwAt rows s) (1, 1)] = _
  rw [e0, times_one (h.pw r mr).red, sum_one (h.pw r mr).red]
  by_cases c0 : pOf rows s = 0
  ·rw [if_pos c0]
   rw [c0] at er
   rw [getD_at er]
  ·rw [if_neg c0]
   obtain ⟨r1, e1⟩ : ∃ r1, rows[pOf rows s - 1]? = some r1 := ⟨_, List.getElem?_eq_getElem (by omega)⟩
   rw [getD_at e1]
   have sl := slOk h (by omega) e1 er
   have m1 := List.mem_of_getElem? e1
   have le := line_end (h.sp _ m1).red (h.pw _ m1).red (h.sp r mr).red (h.pw r mr).red sl.ne
   unfold lineR
   rw [← c]
   exact le.symm
 ·rw [if_neg c]
  have c0 : pOf rows s ≠ 0 := fun z => by
   have e := zero_of h hs z
   obtain ⟨y0, ey⟩ := h.zero
   rw [z, ey] at er
   cases er
   exact c e.symm
  rw [if_neg c0]
  obtain ⟨r1, e1⟩ : ∃ r1, rows[pOf rows s - 1]? = some r1 := ⟨_, List.getElem?_eq_getElem (by omega)⟩
  have er' : rows[pOf rows s - 1 + 1]? = some r := by rw [show pOf rows s - 1 + 1 = pOf rows s by omega]; exact er
  rw [getD_at e1]
  have m1 := List.mem_of_getElem? e1
  obtain ⟨w1, w2, ne, wp, wq⟩ := part_wf h hs e1 er'
  have sl := slOk h (by omega) e1 er
  show sumR [timesR (pwAt rows r1.1) (minusR (1, 1) (partR r1.1 r.1 s)), timesR (pwAt rows r.1) (partR r1.1 r.1 s)] = lineR r1 r s
  rw [pw_at h e1, pw_at h er]
  have wsl := (h.slope (by omega) e1 er).2.2.2
  have p1 := sl.a2.pos
  have p2 := sl.b2.pos
  have tp1 : 0 < (timesR r1.2 (minusR (1, 1) (partR r1.1 r.1 s))).2 := (mkR_red (Int.mul_pos p1 wq.pos)).pos
  have tp2 : 0 < (timesR r.2 (partR r1.1 r.1 s)).2 := (mkR_red (Int.mul_pos p2 wp.pos)).pos
  have z0 : (0 : Int) < ((0, 1) : R).2 := by decide
  have pp : 0 < (plusR (0, 1) (timesR r1.2 (minusR (1, 1) (partR r1.1 r.1 s)))).2 := (mkR_red (Int.mul_pos z0 tp1)).pos
  show plusR (plusR (0, 1) _) _ = _
  have tp3 : 0 < (timesR (slopeR r1 r) (minusR s r1.1)).2 := (mkR_red (Int.mul_pos wsl.pos w1.pos)).pos
  refine val_inj (mkR_red (Int.mul_pos pp tp2)) (mkR_red (Int.mul_pos p1 tp3)) ?_
  rw [val_plus pp tp2, val_plus z0 tp1, val_times p1 wq.pos, val_times p2 wp.pos, val_minus (by decide) wp.pos, val_one, (val_zero (r := (0, 1)) (by decide)).mpr rfl]
  unfold lineR
  rw [val_plus p1 tp3, val_times wsl.pos w1.pos]
  unfold slopeR partR
  rw [val_over w1.pos w2.pos ne, val_over sl.w2.pos sl.w1.pos sl.ne, val_minus hs.bq.pos sl.a1.pos, val_minus p2 p1]
  have nz := val_nz w2.pos ne
  rw [val_minus sl.b1.pos sl.a1.pos] at nz ⊢
  generalize val r1.1 = a at nz ⊢
  generalize val r.1 = b at nz ⊢
  generalize val r1.2 = x
  generalize val r.2 = y
  generalize val s = z
  grind
theorem tw_bq {k : Int} (h0 : 0 ≤ k) (h1 : k < 13) : Bq 12 1 (mkR k 12) := bq_mk (by decide) (Int.dvd_refl _) (by omega)
theorem ins_ok {rows : List (R × R)} (h : RowsOk rows) {i j : Nat} {a b : R × R} {k : Int} (ea : rows[i]? = some a) (eb : rows[j]? = some b) (h0 : 0 ≤ k) (h1 : k < 13) :
  SpOk (plusR a.1 (timesR (mkR k 12) (minusR b.1 a.1))) /\ Below (.tab rows) (plusR a.1 (timesR (mkR k 12) (minusR b.1 a.1))) := by
 have ba := h.sp a (List.mem_of_getElem? ea)
 have bb := h.sp b (List.mem_of_getElem? eb)
 have bt := (tw_bq h0 h1).times (bb.minus dpos ba)
 have bz : Bq (D0 * 12) N3 (plusR a.1 (timesR (mkR k 12) (minusR b.1 a.1))) := Bq.plus (N := NR) (M := 1 * (NR + NR)) (by decide) (ba.mono ⟨12, rfl⟩ (Nat.le_refl _)) (bt.mono ⟨1, by decide⟩ (Nat.le_refl _))
 have bm := (bb.minus dpos ba).pos
 have ev : val (plusR a.1 (timesR (mkR k 12) (minusR b.1 a.1))) = val a.1 + (k : Rat) / 12 * (val b.1 - val a.1) := by
  rw [val_plus ba.pos bt.pos, val_times (tw_bq h0 h1).pos bm, val_mk (by decide), val_minus bb.pos ba.pos]
  rfl
 have q0 : (0 : Rat) ≤ (k : Rat) / 12 := by
  have : (0 : Rat) ≤ (k : Rat) := Rat.intCast_le_intCast.mpr h0
  grind
 have q1 : (k : Rat) / 12 ≤ 1 := by
  have : (k : Rat) ≤ ((12 : Int) : Rat) := Rat.intCast_le_intCast.mpr (by omega)
  rw [show ((12 : Int) : Rat) = 12 from rfl] at this
  grind
 have zz : val ((0, 1) : R) = 0 := (val_zero (r := (0, 1)) (by decide)).mpr rfl
 have na : (0 : Rat) ≤ val a.1 := by rw [← zz]; exact (val_not (r := a.1) (q := (0, 1)) ba.pos (by decide)).mp (less_not.mpr (by have := row_nn h ea; show 0 * _ ≤ _ * 1; omega))
 have nb : (0 : Rat) ≤ val b.1 := by rw [← zz]; exact (val_not (r := b.1) (q := (0, 1)) bb.pos (by decide)).mp (less_not.mpr (by have := row_nn h eb; show 0 * _ ≤ _ * 1; omega))
 have n2 := h.n2
 obtain ⟨r, er⟩ : ∃ r, rows[rows.length - 1]? = some r := ⟨_, List.getElem?_eq_getElem (by omega)⟩
 have pr := (h.sp r (List.mem_of_getElem? er)).pos
 have up : ∀ {m : Nat} {c : R × R}, rows[m]? = some c -> val c.1 ≤ val r.1 := fun {m c} ec => by
  have pc := (h.sp c (List.mem_of_getElem? ec)).pos
  refine (val_not pr pc).mp ?_
  obtain ⟨l1, e1⟩ := List.getElem?_eq_some_iff.mp ec
  obtain ⟨l2, e2⟩ := List.getElem?_eq_some_iff.mp er
  by_cases z : m = rows.length - 1
  ·subst z
   rw [ec] at er
   cases er
   exact less_not.mpr (Int.le_refl _)
  ·have := List.pairwise_iff_getElem.mp h.inc m (rows.length - 1) l1 l2 (by omega)
   rw [e1, e2] at this
   exact less_asym this
 have ua := up ea
 have ub := up eb
 have c1 : (k : Rat) / 12 * (val b.1 - val a.1) = (k : Rat) / 12 * val b.1 - (k : Rat) / 12 * val a.1 := by grind
 rw [c1] at ev
 generalize plusR a.1 (timesR (mkR k 12) (minusR b.1 a.1)) = z at ev bz ⊢
 have m1 := Rat.mul_le_mul_of_nonneg_right q1 na
 have m2 := Rat.mul_nonneg q0 nb
 have m3 := Rat.mul_le_mul_of_nonneg_left ub q0
 have m4 := Rat.mul_le_mul_of_nonneg_left ua (show (0 : Rat) ≤ 1 - (k : Rat) / 12 by grind)
 refine ⟨⟨bz, ?_⟩, ⟨r, er, ?_⟩⟩
 ·have : (0 : Rat) ≤ val z := by grind
  rw [← zz] at this
  have := less_not.mp ((val_not (r := z) (q := (0, 1)) bz.pos (by decide)).mpr this)
  have e : 0 * z.2 ≤ z.1 * 1 := this
  omega
 ·refine (val_not pr bz.pos).mpr ?_
  grind
def Seq (K : Fg) (H : Hp) (a : Addr) (xs : List V) : Prop := SqL K H a xs ∨ SqT K H a xs
def sp_total (K : Fg) : Sp := fun vs H Q _ => ∃ (a : Addr) (xs : List V) (rs : List R) (n D : Nat), vs = [.ref a] /\ Seq K H a xs /\ RVs K H xs rs /\ (∀ r ∈ rs, Wf n r /\ r.2 ∣ (D : Int)) /\ 0 < D /\ D < 2 ^ n /\ rs.length ≤ 64 /\ n ≤ 900 /\ ∀ (v' : V) (H' : Hp), Same H H' -> RV K H' v' (sumR rs) -> Q v' H'
def sp_law_table (K : Fg) : Sp := fun vs H Q _ => ∃ t s : Addr, vs = [.ref t] /\ Tape H t s /\ ∀ (v : V) (rows : List (R × R)) (H' : Hp), RowsOk rows -> Step t H H' -> Tape H' t s -> TabV K H' v rows -> Q v H'
def sp_law_power (K : Fg) : Sp := fun vs H Q _ => ∃ (v w : V) (rows : List (R × R)) (s : R), vs = [v, w] /\ RlV K H v (.tab rows) /\ RowsOk rows /\ RV K H w s /\ SpOk s /\ Below (.tab rows) s /\ toR K H Q (powT rows s)
def sp_mixture (K : Fg) : Sp := fun vs H Q _ => ∃ (v w : V) (rows : List (R × R)) (s : R), vs = [v, w] /\ RlV K H v (.tab rows) /\ RowsOk rows /\ RV K H w s /\ SpOk s /\ Below (.tab rows) s /\ ∀ (u : V) (H' : Hp), Same H H' -> MixV K H' u (mixM rows s) -> Q u H'
abbrev sp_law_due := sp_mixture
def sp_row_numbers (K : Fg) : Sp := fun vs H Q _ => ∃ (v : V) (a : Addr) (rows : List (R × R)) (xs : List V) (zs : List R), vs = [v, .ref a] /\ RlV K H v (.tab rows) /\ rows.length ≤ 12 /\ SqL K H a xs /\ Als (RV K H) xs zs /\ zs.length ≤ 64 /\ ∀ (l : Addr) (H' : Hp), Same H H' -> H' l = some (.lst (zs.map (numV rows))) -> Q (.ref l) H'
def sp_mixed_power (K : Fg) : Sp := fun vs H Q _ => ∃ (v w : V) (rows ms : List (R × R)) (D : Nat), vs = [v, w] /\ RlV K H v (.tab rows) /\ RowsOk rows /\ MixV K H w ms /\ ms.length ≤ 64 /\ (∀ m ∈ ms, HasR rows m.1 /\ Wf 310 m.2 /\ (timesR (pwAt rows m.1) m.2).2 ∣ (D : Int)) /\ 0 < D /\ D < 2 ^ 900 /\ toR K H Q (sumR (mixS rows ms))
def sp_law_inside (K : Fg) : Sp := fun vs H Q _ => ∃ (t s : Addr) (v : V) (rows : List (R × R)), vs = [.ref t, v] /\ Tape H t s /\ RlV K H v (.tab rows) /\ RowsOk rows /\ ∀ (w : V) (z : R) (H' : Hp), SpOk z -> Below (.tab rows) z -> Step t H H' -> Tape H' t s -> RV K H' w z -> Q w H'
def sp_law_sum (K : Fg) : Sp := fun vs H Q _ => ∃ (a : Addr) (xs : List V) (rs : List R) (D N : Nat), vs = [.ref a] /\ SqL K H a xs /\ Als (RV K H) xs rs /\ (∀ r ∈ rs, Bq D N r) /\ 0 < D /\ rs.length ≤ 64 /\ D < 2 ^ 1400 /\ N * 64 * D < 2 ^ 1400 /\ toR K H Q (sumR rs)
def MixK (K : Fg) (H : Hp) (v : V) (ms : List (R × R)) : Prop := ∃ p xs, v = .ref p /\ SqT K H p xs /\ Als (RowK K H) xs ms
theorem MixK.mix {K : Fg} {H : Hp} {v : V} {ms : List (R × R)} (h : MixK K H v ms) : MixV K H v ms := let ⟨p, xs, a, b, c⟩ := h; ⟨p, xs, a, b, c.mono fun _ _ z => z.row⟩
structure MixOk (rows ms : List (R × R)) (D : Nat) : Prop where
 len : ms.length ≤ 12
 pos : 0 < D
 lt : D < 2 ^ 300
 has : ∀ m ∈ ms, HasR rows m.1
 wf : ∀ m ∈ ms, Wf 300 m.2
 dvd : ∀ m ∈ ms, (timesR (pwAt rows m.1) m.2).2 ∣ (D : Int)
def sp_law_mix (K : Fg) : Sp := fun vs H Q _ => ∃ (t s : Addr) (v : V) (rows : List (R × R)), vs = [.ref t, v] /\ Tape H t s /\ TabV K H v rows /\ RowsOk rows /\ ∀ (w : V) (ms : List (R × R)) (D : Nat) (H' : Hp), MixOk rows ms D -> Step t H H' -> Tape H' t s -> MixK K H' w ms -> Q w H'
abbrev sp_law := sp_lawT
theorem less_tot {a b : R} (ha : Red a) (hb : Red b) (h : lessR a b = false) (n : a ≠ b) : lessR b a = true := by
 rw [less_not] at h
 rw [less_iff]
 have : b.1 * a.2 ≠ a.1 * b.2 := fun e => n (val_inj ha hb (by
  have := ne_cast ha.pos
  have := ne_cast hb.pos
  have e' : (b.1 : Rat) * (a.2 : Rat) = (a.1 : Rat) * (b.2 : Rat) := by rw [← Rat.intCast_mul, ← Rat.intCast_mul, e]
  unfold val
  generalize (a.1 : Rat) = w at *
  generalize (a.2 : Rat) = x at *
  generalize (b.1 : Rat) = y at *
  generalize (b.2 : Rat) = z at *
  grind))
 omega
def KeyB (H : Hp) (v : V) (z : R) : Prop := ∃ b, v = .ref b /\ H b = some (.tup [.int z.1, .int z.2])
theorem KeyB.mono {K : Fg} {H H' : Hp} {v : V} {z : R} (h : KeyB H v z) (t : TT K H H') : KeyB H' v z := let ⟨b, e, q⟩ := h; ⟨b, e, t.u _ _ (fun _ z => nomatch z) q⟩
theorem KeyB.rv {K : Fg} {H : Hp} {v : V} {z : R} (h : KeyB H v z) : RV K H v z := by obtain ⟨b, rfl, q⟩ := h; exact RV.of q
theorem comp_mapU {β : Type} {K : Fg} {J : It} {H : Hp} {D : Addr} {n : Nat} {P₀ : Nat -> V -> Hp -> Prop} {P : Hp -> V -> β -> Prop} (wk : Wlk J H n P₀) (f : Nat -> β) {src : List (Option Nat)} {σ : L2.St} {g : TG} {tt : L2.TT} {te : TE} {Q : Hp -> Prop}
  (mono : ∀ H H' v d, TT K H H' -> P H v d -> P H' v d) (hD : H D = none) (hn : n ≤ 1000)
  (turn : ∀ (i : Nat) (x : V) (H' : Hp), i < n -> Same H H' -> P₀ i x H' -> ∀ (R : VK) (E : Hp -> Prop), (∀ v H'', Same H' H'' -> P H'' v (f i) -> R v H'') →
   g x (frees src σ) H' fun σ2 H2 => Ext (frees src σ) σ2 /\ tt σ2 H2 fun ok H3 => if ok = true then te σ2 H3 R else E H3)
  (fin : ∀ H' ys, Same H H' -> H' D = some (.lst ys) -> Als (P H') ys ((List.range n).map f) -> Q H') :
  ∃ W : Nat -> Nat -> List V -> Hp -> Prop, (∃ m, W 0 m [] (upd H D (.lst []))) /\ ∀ i m ys H, W i m ys H -> (J.stop i H /\ Q H) ∨ (J.go i H /\ ∀ x H', J.yld i H x H' →
   g x (frees src σ) H' fun σ2 H2 => Ext (frees src σ) σ2 /\ tt σ2 H2 fun ok H3 =>
    if ok = true then te σ2 H3 fun y H4 => H4 D = some (.lst ys) /\ ys.length < sizeLine /\ ∃ m', m' < m /\ W (i + 1) m' (ys ++ [y]) (upd H4 D (.lst (ys ++ [y]))) else ∃ m', m' < m /\ W (i + 1) m' ys H3) := by
 refine ⟨fun i m ys H' => i ≤ n /\ m = n - i /\ H' D = some (.lst ys) /\ Same H H' /\ Als (P H') ys ((List.range i).map f), ⟨_, Nat.zero_le _, rfl, upd_same, same_new hD _, .nil⟩, ?_⟩
 rintro i m ys H1 ⟨hi, rfl, d1, s1, al1⟩
 by_cases hix : i < n
 ·refine .inr ⟨wk.go i H1 hix s1, fun x H2 y => ?_⟩
  obtain ⟨s2, p⟩ := wk.yld i H1 x H2 hix s1 y
  refine turn i x H2 hix (s1.trans s2) p _ _ fun v H3 s3 p3 => ?_
  have d3 : H3 D = some (.lst ys) := s3 _ _ (s2 _ _ d1)
  have tm : TT K H1 (upd H3 D (.lst (ys ++ [v]))) := (TT.same (s2.trans s3)).trans (TT.up d3 _)
  refine ⟨d3, small1000 (by rw [al1.len, List.length_map, List.length_range]; omega), n - (i + 1), by omega, hix, rfl, upd_same, fun b o q => ?_, ?_⟩
  ·rw [upd_ne (ne_of_none q hD)]
   exact s3 _ _ (s2 _ _ (s1 _ _ q))
  ·rw [List.range_succ, List.map_append]
   exact (al1.mono fun v d p => mono _ _ _ _ tm p).snoc (mono _ _ _ _ (TT.up d3 _) p3)
 ·have e : i = n := by omega
  subst e
  exact .inl ⟨wk.stop H1 s1, fin H1 ys s1 d1 al1⟩
theorem sum_pos {D N : Nat} (hD : 0 < D) {rs : List R} (h : ∀ r ∈ rs, Bq D N r /\ 0 < r.1) (n : rs ≠ []) : 0 < (sumR rs).1 := by
 have go : ∀ (l : List R) (a : R), Red a -> 0 ≤ a.1 -> (∀ r ∈ l, Bq D N r /\ 0 < r.1) -> (l ≠ [] ∨ 0 < a.1) -> 0 < (l.foldl plusR a).1 := by
  intro l
  induction l with
  | nil => intro a ra na _ c; exact c.elim (fun z => absurd rfl z) id
  | cons r l ih =>
   intro a ra na hl c
   obtain ⟨b, p⟩ := hl r List.mem_cons_self
   have bp := Int.mul_pos ra.pos b.pos
   have pp : 0 < (plusR a r).1 := mkR_pos (by have := Int.mul_nonneg na (Int.le_of_lt b.pos); have := Int.mul_pos p ra.pos; omega) bp
   exact ih (plusR a r) (mkR_red bp) (Int.le_of_lt pp) (fun q hq => hl q (List.mem_cons_of_mem _ hq)) (.inr pp)
 exact go rs (0, 1) ⟨by decide, by decide⟩ (by decide) h (.inl n)
theorem mkS_bot {a b : Int} (hb : 0 < b) : (mkS a b).2 ∣ b := by
 rw [mkS_pos hb]
 exact ⟨Int.gcd a b, (Int.ediv_mul_cancel (Int.gcd_dvd_right a b)).symm⟩
theorem over_dvd {r q : R} {D : Nat} (hr : 0 < r.2) (hq : 0 < q.1) (hd : r.2 ∣ (D : Int)) : (overR r q).2 ∣ (D : Int) * q.1 :=
 Int.dvd_trans (mkS_bot (Int.mul_pos hr hq)) (Int.mul_dvd_mul hd (Int.dvd_refl _))
theorem times_dvd {r q : R} (hr : 0 < r.2) (hq : 0 < q.2) : (timesR r q).2 ∣ r.2 * q.2 := ⟨_, (Int.ediv_mul_cancel (Int.gcd_dvd_right _ _)).symm⟩
structure ShOk (ss : List R) : Prop where
 len : ss.length ≤ 12
 ne : ss ≠ []
 ok : ∀ r ∈ ss, PartOk r
theorem ShOk.bq {ss : List R} (h : ShOk ss) : Bq D0 (N0 * 12) (sumR ss) := (sumR_bq dpos fun r hr => (h.ok r hr).bq).mono (Nat.dvd_refl _) (Nat.mul_le_mul_left _ h.len)
theorem ShOk.pos {ss : List R} (h : ShOk ss) : 0 < (sumR ss).1 := sum_pos (N := N0) dpos (fun r hr => ⟨(h.ok r hr).bq, (h.ok r hr).pos⟩) h.ne
theorem ShOk.wf {ss : List R} (h : ShOk ss) : Wf 98 (sumR ss) := h.bq.wf (by decide) (by decide) (by decide)
def shD (ss : List R) : Nat := D0 * D0 * (D0 * (sumR ss).1.natAbs)
theorem shD_lt {ss : List R} (h : ShOk ss) : 0 < shD ss /\ shD ss < 2 ^ 300 := by
 have p := h.pos
 have l := h.bq.le
 have b := h.bq.bot dpos
 have l2 : (sumR ss).1.natAbs ≤ N0 * 12 * D0 := Nat.le_trans l (Nat.mul_le_mul_left _ b)
 unfold shD
 constructor
 ·exact Nat.mul_pos (by decide) (Nat.mul_pos dpos (by omega))
 ·exact Nat.lt_of_le_of_lt (Nat.mul_le_mul_left _ (Nat.mul_le_mul_left _ l2)) (by decide)
theorem mix_ok {rows : List (R × R)} (h : RowsOk rows) {zs ss : List R} (hz : ∀ z ∈ zs, HasR rows z) (hs : ShOk ss) (hl : zs.length = ss.length) :
  MixOk rows ((List.range zs.length).map fun i => (zs.getD i (0, 1), overR (ss.getD i (0, 1)) (sumR ss))) (shD ss) := by
 have at_ : ∀ m ∈ (List.range zs.length).map (fun i => (zs.getD i (0, 1), overR (ss.getD i (0, 1)) (sumR ss))), HasR rows m.1 /\ ∃ r, PartOk r /\ m.2 = overR r (sumR ss) := fun m hm => by
  obtain ⟨i, hi, rfl⟩ := List.mem_map.mp hm
  have hi' := List.mem_range.mp hi
  have e1 : zs[i]? = some (zs[i]'hi') := List.getElem?_eq_getElem _
  have e2 : ss[i]? = some (ss[i]'(by omega)) := List.getElem?_eq_getElem _
  refine ⟨?_, _, hs.ok _ (List.mem_of_getElem? e2), ?_⟩
  ·show HasR rows (zs.getD i (0, 1))
   rw [List.getD_eq_getElem?_getD, e1]
   exact hz _ (List.mem_of_getElem? e1)
  ·show overR (ss.getD i (0, 1)) _ = _
   rw [List.getD_eq_getElem?_getD, e2]
   rfl
 obtain ⟨d1, d2⟩ := shD_lt hs
 have sp := hs.pos
 refine ⟨by rw [List.length_map, List.length_range, hl]; exact hs.len, d1, d2, fun m hm => (at_ m hm).1, fun m hm => ?_, fun m hm => ?_⟩
 ·obtain ⟨_, r, ok, e⟩ := at_ m hm
  rw [e]
  exact (over_wf ok.wf hs.wf (by omega)).mono (by decide)
 ·obtain ⟨has, r, ok, e⟩ := at_ m hm
  rw [e]
  have bp := pw_wf h has
  have op : 0 < (overR r (sumR ss)).2 := (over_wf ok.wf hs.wf (by omega)).pos
  refine Int.dvd_trans (times_dvd bp.pos op) ?_
  have a := Int.mul_dvd_mul bp.dvd (over_dvd (q := sumR ss) ok.bq.pos sp ok.bq.dvd)
  unfold shD
  rw [Int.natCast_mul (D0 * D0), Int.natCast_mul D0 (sumR ss).1.natAbs, show (((sumR ss).1.natAbs : Nat) : Int) = (sumR ss).1 by omega]
  exact a
theorem bq_of_wf {n D : Nat} {r : R} (h : Wf n r) (d : r.2 ∣ (D : Int)) : Bq D (2 ^ n) r := by
 refine ⟨h.pos, h.cop, d, ?_⟩
 have := h.top
 have p := h.pos
 have : 2 ^ n * 1 ≤ 2 ^ n * r.2.natAbs := Nat.mul_le_mul_left _ (by omega)
 omega
structure PwK (K : Fg) (H : Hp) (rows : List (R × R)) (kvs : List (List Key × V)) : Prop where
 nd : (kvs.map (·.1)).Nodup
 at_ : ∀ (i : Nat) (r : R × R), rows[i]? = some r -> ∃ y, kvs[i]? = some (keyR r.1, y) /\ RV K H y r.2
theorem PwK.mono {K : Fg} {H H' : Hp} {rows : List (R × R)} {kvs : List (List Key × V)} (h : PwK K H rows kvs) (t : Tst K H H') : PwK K H' rows kvs := ⟨h.nd, fun i r e => let ⟨y, a, b⟩ := h.at_ i r e; ⟨y, a, b.mono t⟩⟩
theorem valV_at {kvs : List (List Key × V)} (nd : (kvs.map (·.1)).Nodup) {i : Nat} {k : List Key} {y : V} (h : kvs[i]? = some (k, y)) : valV kvs k = some y := by
 induction kvs generalizing i with
 | nil => simp at h
 | cons p r ih =>
  rw [List.map_cons, List.nodup_cons] at nd
  cases i with
  | zero =>
   have e : p = (k, y) := by simpa using h
   subst e
   exact valV_pos rfl
  | succ i =>
   have h' : r[i]? = some (k, y) := by simpa using h
   rw [valV_neg (fun e => nd.1 (by rw [e]; exact List.mem_map.mpr ⟨(k, y), List.mem_of_getElem? h', rfl⟩))]
   exact ih nd.2 h'
theorem PwK.get {K : Fg} {H : Hp} {rows : List (R × R)} {kvs : List (List Key × V)} (h : PwK K H rows kvs) {z : R} (hz : HasR rows z) : ∃ y, valV kvs (keyR z) = some y /\ RV K H y (pwAt rows z) := by
 obtain ⟨r, e, f⟩ := idx_at hz
 obtain ⟨y, a, b⟩ := h.at_ _ r e
 refine ⟨y, ?_, ?_⟩
 ·rw [← f]; exact valV_at h.nd a
 ·unfold pwAt; rw [getD_at e]; exact b
theorem kvs_of {K : Fg} {H : Hp} {xs : List V} {rows : List (R × R)} (ok : RowsOk rows) (al : Als (RowK K H) xs rows) : ∃ kvs, RowsK K H xs kvs /\ PwK K H rows kvs := by
 obtain ⟨kvs, hl, hk⟩ := chosen (β := List Key × V) (P := fun i (r : R × R) kv => kv.1 = keyR r.1 /\ RV K H kv.2 r.2 /\ ∃ p b, xs[i]? = some (.ref p) /\ SqT K H p [.ref b, kv.2] /\ H b = some (.tup [.int r.1.1, .int r.1.2])) (l := rows) fun i r e => by
  have li : i < rows.length := (List.getElem?_eq_some_iff.mp e).1
  have ex : xs[i]? = some (xs[i]'(by rw [al.len]; exact li)) := List.getElem?_eq_getElem _
  obtain ⟨r', e', rk⟩ := al.at ex
  rw [e] at e'
  cases e'
  obtain ⟨p, b, y, e1, e2, e3, e4⟩ := rk
  exact ⟨(keyR r.1, y), rfl, e4, p, b, by rw [ex, e1], e2, e3⟩
 have idx : ∀ (i : Nat) (kv : List Key × V), kvs[i]? = some kv -> ∃ r, rows[i]? = some r := fun i kv e => by
  have : i < kvs.length := (List.getElem?_eq_some_iff.mp e).1
  exact ⟨_, List.getElem?_eq_getElem (by omega)⟩
 have nd : (kvs.map (·.1)).Nodup := by
  rw [List.nodup_iff_pairwise_ne, List.pairwise_iff_getElem]
  intro i j hi hj hij e
  rw [List.length_map] at hi hj
  rw [List.getElem_map, List.getElem_map] at e
  have ei : kvs[i]? = some kvs[i] := List.getElem?_eq_getElem _
  have ej : kvs[j]? = some kvs[j] := List.getElem?_eq_getElem _
  obtain ⟨r, er⟩ := idx i _ ei
  obtain ⟨q, eq⟩ := idx j _ ej
  rw [(hk i r _ er ei).1, (hk j q _ eq ej).1] at e
  have := row_uniq ok er eq (keyR_inj e)
  omega
 refine ⟨kvs, ⟨by rw [hl]; exact al.len, fun i kv e => ?_, nd⟩, ⟨nd, fun i r e => ?_⟩⟩
 ·obtain ⟨r, er⟩ := idx i kv e
  obtain ⟨a1, a2, p, b, a3, a4, a5⟩ := hk i r kv er e
  refine ⟨p, b, a3, a4, ?_⟩
  rw [a1]
  exact a5
 ·have li : i < rows.length := (List.getElem?_eq_some_iff.mp e).1
  obtain ⟨kv, ek⟩ : ∃ kv, kvs[i]? = some kv := ⟨_, List.getElem?_eq_getElem (by omega)⟩
  obtain ⟨a1, a2, _⟩ := hk i r kv e ek
  exact ⟨kv.2, by rw [ek, ← a1], a2⟩
theorem sh_mix {ms : List (R × R)} (hl : ms.length ≤ 12) (h : ∀ m ∈ ms, Wf 102 m.1 /\ Wf 310 m.2) : Shows (dMix ms) := by
 refine Sh.shows (k := 3) (n := 150000) (Sh.tup (k := 2) (n := 12000) (m := 12) (fun d hd => ?_) (by rw [List.length_map]; exact hl) (by decide)) (by decide) (by decide)
 obtain ⟨m, hm, rfl⟩ := List.mem_map.mp hd
 obtain ⟨w1, w2⟩ := h m hm
 refine Sh.tup (k := 1) (n := 5000) (m := 2) (fun d hd => ?_) (by show 2 ≤ 2; decide) (by decide)
 simp only [List.mem_cons, List.not_mem_nil, or_false] at hd
 rcases hd with rfl | rfl
 ·exact sh_dR w1 (by decide)
 ·exact sh_dR w2 (by decide)
theorem mixM_ok {rows : List (R × R)} (h : RowsOk rows) {s : R} (hs : SpOk s) (hb : Below (.tab rows) s) :
  (mixM rows s).length ≤ 12 /\ (∀ m ∈ mixM rows s, Wf 102 m.1 /\ Wf 310 m.2) /\ ∃ D : Nat, 0 < D /\ D < 2 ^ 900 /\ ∀ m ∈ mixM rows s, HasR rows m.1 /\ Wf 310 m.2 /\ (timesR (pwAt rows m.1) m.2).2 ∣ (D : Int) := by
 have pl := h.p_lt hs.bq.pos hb
 obtain ⟨r, er⟩ : ∃ r, rows[pOf rows s]? = some r := ⟨_, List.getElem?_eq_getElem pl⟩
 have mr := List.mem_of_getElem? er
 unfold mixM
 rw [getD_at er]
 by_cases c : r.1 = s
 ·rw [if_pos c]
  have hz : HasR rows s := ⟨r, mr, c⟩
  have bp := pw_wf h hz
  refine ⟨by show 1 ≤ 12; decide, fun m hm => ?_, (timesR (pwAt rows s) (1, 1)).2.natAbs, ?_, ?_, fun m hm => ?_⟩
  ·rw [List.mem_singleton] at hm
   rw [hm]
   exact ⟨hs.wf, one_wf.mono (by decide)⟩
  ·have := (times_wf (wfP bp) one_wf).pos
   omega
  ·exact Nat.lt_of_lt_of_le (times_wf (wfP bp) one_wf).bot (Nat.pow_le_pow_right (by decide) (by decide))
  ·rw [List.mem_singleton] at hm
   rw [hm]
   have := (times_wf (wfP bp) one_wf).pos
   refine ⟨hz, one_wf.mono (by decide), ⟨1, ?_⟩⟩
   show (((timesR (pwAt rows s) (1, 1)).2.natAbs : Nat) : Int) = (timesR (pwAt rows s) (1, 1)).2 * 1
   omega
 ·rw [if_neg c]
  have c0 : pOf rows s ≠ 0 := fun z => by
   have e := zero_of h hs z
   obtain ⟨y0, ey⟩ := h.zero
   rw [z, ey] at er
   cases er
   exact c e.symm
  obtain ⟨r1, e1⟩ : ∃ r1, rows[pOf rows s - 1]? = some r1 := ⟨_, List.getElem?_eq_getElem (by omega)⟩
  have er' : rows[pOf rows s - 1 + 1]? = some r := by rw [show pOf rows s - 1 + 1 = pOf rows s by omega]; exact er
  rw [getD_at e1]
  have m1 := List.mem_of_getElem? e1
  obtain ⟨w1, w2, ne, wp, wq⟩ := part_wf h hs e1 er'
  have sl := slOk h (Nat.lt_succ_self _) e1 er'
  have h1 : HasR rows r1.1 := ⟨r1, m1, rfl⟩
  have h2 : HasR rows r.1 := ⟨r, mr, rfl⟩
  have t1 := times_wf (wfP (pw_wf h h1)) wq
  have t2 := times_wf (wfP (pw_wf h h2)) wp
  have bp1 := pw_wf h h1
  have bp2 := pw_wf h h2
  have ep : (((partR r1.1 r.1 s).2.natAbs : Nat) : Int) = (partR r1.1 r.1 s).2 := by have := wp.pos; omega
  have dv2 : (timesR (pwAt rows r.1) (partR r1.1 r.1 s)).2 ∣ ((D0 * D0 * (partR r1.1 r.1 s).2.natAbs : Nat) : Int) := by
   rw [Int.natCast_mul (D0 * D0), ep]
   exact Int.dvd_trans (times_dvd bp2.pos wp.pos) (Int.mul_dvd_mul bp2.dvd (Int.dvd_refl _))
  have dv1 : (timesR (pwAt rows r1.1) (minusR (1, 1) (partR r1.1 r.1 s))).2 ∣ ((D0 * D0 * (partR r1.1 r.1 s).2.natAbs : Nat) : Int) := by
   rw [Int.natCast_mul (D0 * D0), ep]
   refine Int.dvd_trans (times_dvd bp1.pos wq.pos) (Int.mul_dvd_mul bp1.dvd ?_)
   have : (minusR (1, 1) (partR r1.1 r.1 s)).2 ∣ 1 * (partR r1.1 r.1 s).2 := ⟨_, (Int.ediv_mul_cancel (Int.gcd_dvd_right _ _)).symm⟩
   rw [Int.one_mul] at this
   exact this
  refine ⟨by show 2 ≤ 12; decide, fun m hm => ?_, D0 * D0 * (partR r1.1 r.1 s).2.natAbs, ?_, ?_, fun m hm => ?_⟩
  ·simp only [List.mem_cons, List.not_mem_nil, or_false] at hm
   rcases hm with rfl | rfl
   ·exact ⟨sl.a1.mono (by decide), wq.mono (by decide)⟩
   ·exact ⟨sl.b1.mono (by decide), wp.mono (by decide)⟩
  ·have := wp.pos
   exact Nat.mul_pos (by decide) (by omega)
  ·refine Nat.lt_of_lt_of_le (Nat.mul_lt_mul_of_pos_left wp.bot (by decide)) ?_
   refine Nat.le_trans (Nat.mul_le_mul_right _ (show D0 * D0 ≤ 2 ^ 126 by decide)) ?_
   rw [← Nat.pow_add]
   exact Nat.pow_le_pow_right (by decide) (by decide)
  ·simp only [List.mem_cons, List.not_mem_nil, or_false] at hm
   rcases hm with rfl | rfl
   ·exact ⟨h1, wq.mono (by decide), dv1⟩
   ·exact ⟨h2, wp.mono (by decide), dv2⟩
theorem powT_wf {rows : List (R × R)} (h : RowsOk rows) {s : R} (hs : SpOk s) (hb : Below (.tab rows) s) : Wf 700 (powT rows s) := by
 have pl := h.p_lt hs.bq.pos hb
 unfold powT
 split
 ·have e : rows[0]? = some (rows[0]'(by omega)) := List.getElem?_eq_getElem _
  rw [getD_at e]
  exact (wfP (h.pw _ (List.mem_of_getElem? e))).mono (by decide)
 ·rename_i c
  have e1 : rows[pOf rows s - 1]? = some (rows[pOf rows s - 1]'(by omega)) := List.getElem?_eq_getElem _
  have e2 : rows[pOf rows s]? = some (rows[pOf rows s]'pl) := List.getElem?_eq_getElem _
  rw [getD_at e1, getD_at e2]
  exact (line_wf (slOk h (by omega) e1 e2) (h.slope (by omega) e1 e2).2.2.2 hs.wf).2.2
theorem mixS_bq {rows ms : List (R × R)} (h : RowsOk rows) {D : Nat} (ok : MixOk rows ms D) : ∀ r ∈ mixS rows ms, Bq D (2 ^ 497) r := fun r hr => by
 obtain ⟨m, mm, rfl⟩ := List.mem_map.mp hr
 exact bq_of_wf (times_wf (wfP (pw_wf h (ok.has m mm))) (ok.wf m mm)) (ok.dvd m mm)
theorem mixS_wf {rows ms : List (R × R)} (h : RowsOk rows) {D : Nat} (ok : MixOk rows ms D) : Wf 900 (sumR (mixS rows ms)) := by
 have b := sumR_bq ok.pos (mixS_bq h ok)
 have l : (mixS rows ms).length ≤ 12 := by show (ms.map _).length ≤ 12; rw [List.length_map]; exact ok.len
 refine (b.mono (Nat.dvd_refl _) (Nat.mul_le_mul_left _ l)).wf ok.pos (Nat.lt_of_lt_of_le ok.lt (Nat.pow_le_pow_right (by decide) (by decide))) ?_
 refine Nat.lt_of_lt_of_le (Nat.mul_lt_mul_of_pos_left ok.lt (Nat.mul_pos (Nat.pow_pos (show 0 < 2 by decide)) (show 0 < 12 by decide))) ?_
 rw [show 2 ^ 497 * 12 * 2 ^ 300 = 12 * (2 ^ 497 * 2 ^ 300) by ac_rfl, ← Nat.pow_add]
 exact Nat.le_trans (Nat.mul_le_mul (show 12 ≤ 2 ^ 4 by decide) (Nat.pow_le_pow_right (show 0 < 2 by decide) (show 497 + 300 ≤ 896 by decide))) (Nat.le_of_eq (Nat.pow_add 2 4 896).symm)
theorem sc_Q0 : FnScope ["one", "other", "high", "low", "rest"] ["one", "other"] (defScope s_Q0) := scA
theorem sc_Q22 : FnScope ["top", "bottom", "shared"] ["top", "bottom"] (defScope s_Q22) := scA
theorem sc_Q26 : FnScope ["one", "other", "shared", "top", "rest"] ["one", "other"] (defScope s_Q26) := scA
theorem sc_Q23 : FnScope ["one", "other"] ["one", "other"] (defScope s_Q23) := scA
theorem sc_Q24 : FnScope ["one", "other", "left", "right"] ["one", "other"] (defScope s_Q24) := scA
theorem sc_Q27 : FnScope ["one", "other"] ["one", "other"] (defScope s_Q27) := scA
theorem sc_Q16 : FnScope ["one", "other"] ["one", "other"] (defScope s_Q16) := scA
theorem sc_Q25 : FnScope ["some", "tops", "one", "so_far", "bottom", "top"] ["some"] (defScope s_Q25) := scA
theorem sc_Q9 : FnScope ["rows", "speed", "place"] ["rows", "speed"] (defScope s_Q9) := scA
theorem sc_Q17 : FnScope ["table", "speed", "rows", "place", "high", "low", "part"] ["table", "speed"] (defScope s_Q17) := scA
theorem sc_Q1 : FnScope ["table", "speeds", "rows"] ["table", "speeds"] (defScope s_Q1) := scA
theorem sc_Q2 : FnScope ["table", "mix", "numbers"] ["table", "mix"] (defScope s_Q2) := scA
theorem sc_Q10 : FnScope ["_law_script"] ["_law_script"] (defScope s_Q10) := scA
theorem sc_Q11 : FnScope ["_law_tape_here", "_law_many", "_law_script", "_law_spot", "_law_left", "_law_cell", "_law_mixed"] ["_law_tape_here", "_law_many"] (defScope s_Q11) := scA
theorem sc_Q18 : FnScope ["_law_one", "_law_other"] ["_law_one", "_law_other"] (defScope s_Q18) := scA
theorem sc_Q4 : FnScope ["_law_top", "_law_bottom", "_law_by"] ["_law_top", "_law_bottom"] (defScope s_Q4) := scA
theorem sc_Q12 : FnScope ["_law_one", "_law_other"] ["_law_one", "_law_other"] (defScope s_Q12) := scA
theorem sc_Q5 : FnScope ["_law_one", "_law_other"] ["_law_one", "_law_other"] (defScope s_Q5) := scA
theorem sc_Q6 : FnScope ["_law_one", "_law_other"] ["_law_one", "_law_other"] (defScope s_Q6) := scA
theorem sc_Q13 : FnScope ["_law_one", "_law_other"] ["_law_one", "_law_other"] (defScope s_Q13) := scA
theorem sc_Q14 : FnScope ["_law_one", "_law_other"] ["_law_one", "_law_other"] (defScope s_Q14) := scA
theorem sc_Q19 : FnScope ["_law_some", "_law_found", "_law_one"] ["_law_some"] (defScope s_Q19) := scA
theorem sc_Q15 : FnScope ["_law_tape_here", "_law_tops", "_law_bottoms"] ["_law_tape_here"] (defScope s_Q15) := scA
theorem sc_Q7 : FnScope ["_law_tape_here", "_law_rows", "_law_slope", "_law_k", "_law_step", "_law_speed", "_law_power_here"] ["_law_tape_here"] (defScope s_Q7) := scA
theorem sc_Q8 : FnScope ["_law_rule_here", "_law_speed", "_law_found", "_law_k", "_law_low", "_law_high", "_law_slope"] ["_law_rule_here", "_law_speed"] (defScope s_Q8) := scA
theorem sc_Q3 : FnScope ["_law_tape_here", "_law_table_here", "_law_rows", "_law_low", "_law_high", "_law_part_here"] ["_law_tape_here", "_law_table_here"] (defScope s_Q3) := scA
theorem sc_Q20 : FnScope ["_law_table_here", "_law_speed", "_law_low", "_law_high", "_law_part_here"] ["_law_table_here", "_law_speed"] (defScope s_Q20) := scA
theorem sc_Q21 : FnScope ["_law_tape_here", "_law_table_here", "_law_rows", "_law_shares"] ["_law_tape_here", "_law_table_here"] (defScope s_Q21) := scA
theorem sc_Q28 : FnScope ["_law_script", "_law_tape_here", "_law_k", "_law_table_here", "_law_powers", "_law_j", "_law_speed", "_law_found", "_law_mix_here", "_law_due_here"] ["_law_script"] (defScope s_Q28) := scA
end My
namespace My
open PySem L2 B PyProof.Rows
section
variable {P : Program} {w : World} {K : Fg} {mg : Str -> Option Value} {base : Heap} {t : Ad}
theorem ok_Q0 (T : Txt K mg t) : FnOk P w K mg base CX0 1 t.a_Q0 t.d_Q0 ["one", "other"] (sp_greatest_divisor K) := by
 refine T.F_Q0.ok sc_Q0 (fun vs H Q E h => ?_) (fun cdv A outer s H vs Q E hr h => ?_)
 ·obtain ⟨_, _, rfl, _⟩ := h; rfl
 obtain ⟨a, b, rfl, k⟩ := h
 refine QSs.ok (qss_cons (qsA 2 sc_Q0.nd (qe_callB call_abs (by rfl) T.z_abs boot_abs (qa_cons (qv 0) qa_nil star_name)))
   (qss_cons (qsA 3 sc_Q0.nd (qe_callB call_abs (by rfl) T.z_abs boot_abs (qa_cons (qv 1) qa_nil star_name)))
   (qss_cons (qs_while PassesOwn.never (qt_cmpR op_ne (qv 3) qe_int (nomark _))
   (qss_cons (qsA 4 sc_Q0.nd (qe_op op_mod (qv 2) (qv 3)))
   (qss_cons (qsA 2 sc_Q0.nd (qv 3))
   (qss_one (qsA 3 sc_Q0.nd (qv 4))))))
   (qss_one (qs_ret (qv 2)))))) ?_
 refine ⟨_, rfl, _, rfl, _, rfl, _, rfl, ?_⟩
 rw [abs_if, abs_if]
 refine ⟨fun m σ H' => ∃ (x y : Int) (v : Option V), σ = [some (.int a), some (.int b), some (.int x), some (.int y), v] /\ H' = H /\ 0 ≤ x /\ 0 ≤ y /\ Int.gcd x y = Int.gcd a b /\ m = y.toNat, ⟨_, _, _, _, rfl, rfl, by omega, by omega, (by simp [Int.gcd]), rfl⟩, ?_⟩
 rintro m σ H' ⟨x, y, v, rfl, rfl, hx, hy, hg, rfl⟩
 refine ⟨_, rfl, rfl, _, rfl, ?_⟩
 by_cases c : y = 0
 ·subst c
  refine iteNS rfl ?_
  rw [← hg] at k
  refine ⟨_, rfl, ?_⟩
  have e : (x : Int) = (Int.gcd x 0 : Nat) := by simp [Int.gcd]; omega
  rw [← e] at k
  exact k
 ·refine iteN1 (fun z => c (by injection z)) ?_
  refine ⟨_, fun _ _ z => z, ?_⟩
  refine ⟨_, rfl, _, rfl, _, _, rfl, rfl, (by omega), _, rfl, _, rfl, ?_⟩
  refine ⟨_, ?_, y, x % y, _, rfl, rfl, hy, Int.emod_nonneg _ c, ?_, rfl⟩
  ·have := Int.emod_lt_of_pos x (show 0 < y by omega)
   have := Int.emod_nonneg x c
   omega
  ·rw [gcd_turn hx (by omega), hg]
theorem ok_Q22 (T : Txt K mg t) : FnOk P w K mg base CX0 2 t.a_Q22 t.d_Q22 ["top", "bottom"] (sp_ratio K) := by
 refine T.F_Q22.ok sc_Q22 (fun vs H Q E h => ?_) (fun cdv A outer s H vs Q E hr h => ?_)
 ·obtain ⟨_, _, rfl, _⟩ := h; rfl
 obtain ⟨a, b, rfl, hb, hz, k⟩ := h
 refine QSs.ok (qss_cons (qs_if (qt_cmpR op_eq (qv 1) qe_int (nomark _)) (qss_one qs_never) qss_nil)
   (qss_cons (qsA 2 sc_Q22.nd (qcA (ok_Q0 T) hr T.m_Q0 T.F_Q0.kp T.b_Q0 (qa_cons (qv 0) (qa_cons (qv 1) qa_nil star_name) star_name)))
   (qss_cons (qs_if (qt_cmpR op_lt (qv 1) qe_int (nomark _)) (qss_one (qsA 2 sc_Q22.nd (qe_un un_neg (qv 2)))) qss_nil)
   (qss_one (qs_ret (qe_tup (qa_cons (qe_op op_quoN (qv 0) (qv 2)) (qa_cons (qe_op op_quoN (qv 1) (qv 2)) qa_nil star_bin) star_bin))))))) ?_
 have gp := gcd_posN (a := a) hb
 have gb := gcd_big (a := a) hb hz
 refine ⟨_, rfl, rfl, _, rfl, ?_⟩
 refine iteD0 (fun z => by injection z with z; omega) ?_
 refine ⟨_, rfl, _, rfl, a, b, rfl, ?_⟩
 refine ⟨_, rfl, _, _, rfl, rfl, _, rfl, ?_⟩
 by_cases hn : b < 0
 ·refine iteD1 hn ?_
  rw [← mkS_neg1 hn] at k
  have gm : (-((Int.gcd a b : Nat) : Int)).natAbs < 2 ^ 4000 := by rw [Int.natAbs_neg]; exact gb
  refine ⟨_, rfl, _, rfl, ?_⟩
  refine ⟨_, rfl, _, rfl, _, _, rfl, rfl, ⟨by omega, gm⟩, _, rfl, _, rfl, _, _, rfl, rfl, ⟨by omega, gm⟩, zl2, fun p hp => ?_⟩
  exact k p hp
 ·refine iteD0 hn ?_
  rw [← mkS_pos1 (by omega : 0 < b)] at k
  refine ⟨_, rfl, _, rfl, _, _, rfl, rfl, ⟨by omega, gb⟩, _, rfl, _, rfl, _, _, rfl, rfl, ⟨by omega, gb⟩, zl2, fun p hp => ?_⟩
  exact k p hp
theorem ok_Q26 (T : Txt K mg t) : FnOk P w K mg base CX0 2 t.a_Q26 t.d_Q26 ["one", "other"] (sp_plus K) := by
 refine T.F_Q26.ok sc_Q26 (fun vs H Q E h => ?_) (fun cdv A outer s H vs Q E hr h => ?_)
 ·obtain ⟨_, _, _, _, _, _, rfl, _⟩ := h; rfl
 obtain ⟨v, w, r, q, n, m, rfl, hv, hw, wr, wq, hz, k⟩ := h
 refine QSs.ok (qss_cons (qsA 2 sc_Q26.nd (qcA (ok_Q0 T) hr T.m_Q0 T.F_Q0.kp T.b_Q0 (qa_cons (qxA ix_tup (qv 0) qe_int) (qa_cons (qxA ix_tup (qv 1) qe_int) qa_nil star_sub) star_sub)))
   (qss_cons (qsA 3 sc_Q26.nd (qe_op op_add (qe_op op_mulB (qxA ix_tup (qv 0) qe_int) (qe_op op_quo (qxA ix_tup (qv 1) qe_int) (qv 2))) (qe_op op_mulB (qxA ix_tup (qv 1) qe_int) (qe_op op_quo (qxA ix_tup (qv 0) qe_int) (qv 2)))))
   (qss_cons (qsA 4 sc_Q26.nd (qcA (ok_Q0 T) hr T.m_Q0 T.F_Q0.kp T.b_Q0 (qa_cons (qv 3) (qa_cons (qv 2) qa_nil star_name) star_name)))
   (qss_one (qs_ret (qe_tup (qa_cons (qe_op op_quo (qv 3) (qv 4)) (qa_cons (qe_op op_mulB (qe_op op_quo (qxA ix_tup (qv 0) qe_int) (qv 2)) (qe_op op_quo (qxA ix_tup (qv 1) qe_int) (qv 4))) qa_nil star_bin) star_bin))))))) ?_
 obtain ⟨p, rfl, hv⟩ := hv
 obtain ⟨p', rfl, hw⟩ := hw
 have c1 := big_of wr.top (show n ≤ 4000 by omega)
 have c2 := big_of wr.bot (show n ≤ 4000 by omega)
 have c3 := big_of wq.top (show m ≤ 4000 by omega)
 have c4 := big_of wq.bot (show m ≤ 4000 by omega)
 have gp : (0 : Int) < (Int.gcd r.2 q.2 : Nat) := gcd_posR wq.pos
 have gb := gcd_lt (a := r.2) wq.pos c4
 refine ⟨_, rfl, p, _, _, _, rfl, rfl, hv, rfl, _, rfl, p', _, _, _, rfl, rfl, hw, rfl, r.2, q.2, rfl, ?_⟩
 have z := plusG_eq ⟨wr.pos, wr.cop⟩ ⟨wq.pos, wq.cop⟩
 have kk : newR H Q (plusG r q) := by rw [z]; exact k
 unfold plusG at kk
 simp only at kk
 generalize ((Int.gcd r.2 q.2 : Nat) : Int) = d at gp gb kk ⊢
 refine ⟨_, rfl, p, _, _, _, rfl, rfl, hv, rfl, _, rfl, p', _, _, _, rfl, rfl, hw, rfl, _, rfl, _, _, rfl, rfl, ⟨gp, gb⟩, _, _, rfl, rfl, ⟨c1, div_lt gp c4⟩, _, rfl, p', _, _, _, rfl, rfl, hw, rfl, _, rfl, p, _, _, _, rfl, rfl, hv, rfl, _, rfl, _, _, rfl, rfl, ⟨gp, gb⟩, _, _, rfl, rfl, ⟨c3, div_lt gp c2⟩, _, _, rfl, rfl, ?_⟩
 refine ⟨_, rfl, _, rfl, _, _, rfl, ?_⟩
 have ep : (0 : Int) < (Int.gcd (r.1 * (q.2 / d) + q.1 * (r.2 / d)) d : Nat) := gcd_posR gp
 have eb := gcd_lt (a := r.1 * (q.2 / d) + q.1 * (r.2 / d)) gp gb
 generalize ((Int.gcd (r.1 * (q.2 / d) + q.1 * (r.2 / d)) d : Nat) : Int) = e at ep eb kk ⊢
 refine ⟨_, rfl, _, rfl, _, _, rfl, rfl, ⟨ep, eb⟩, _, rfl, p, _, _, _, rfl, rfl, hv, rfl, _, rfl, _, _, rfl, rfl, ⟨gp, gb⟩, _, rfl, p', _, _, _, rfl, rfl, hw, rfl, _, rfl, _, _, rfl, rfl, ⟨ep, eb⟩, _, _, rfl, rfl, ⟨div_lt gp c2, div_lt ep c4⟩, zl2, kk⟩
theorem ok_Q23 (T : Txt K mg t) : FnOk P w K mg base CX0 3 t.a_Q23 t.d_Q23 ["one", "other"] (sp_minus K) := by
 refine T.F_Q23.ok sc_Q23 (fun vs H Q E h => ?_) (fun cdv A outer s H vs Q E hr h => ?_)
 ·obtain ⟨_, _, _, _, _, _, rfl, _⟩ := h; rfl
 obtain ⟨v, w, r, q, n, m, rfl, hv, hw, wr, wq, hz, k⟩ := h
 refine QSs.ok (qss_one (qs_ret (qcA (ok_Q26 T) hr T.m_Q26 T.F_Q26.kp T.b_Q26 (qa_cons (qv 0) (qa_cons (qe_tup (qa_cons (qe_un un_neg (qxA ix_tup (qv 1) qe_int)) (qa_cons (qxA ix_tup (qv 1) qe_int) qa_nil star_sub) star_un)) qa_nil star_tup) star_name)))) ?_
 obtain ⟨p', rfl, hw⟩ := hw
 refine ⟨_, rfl, _, rfl, p', _, _, _, rfl, rfl, hw, rfl, _, rfl, _, rfl, p', _, _, _, rfl, rfl, hw, rfl, zl2, fun pt ht => ?_⟩
 have s1 := same_new ht (.tup [.int (-q.1), .int q.2])
 refine ⟨v, .ref pt, r, (-q.1, q.2), n, m, rfl, hv.mono (Tst.same s1), RV.of upd_same, wr, ⟨wq.pos, by show (-q.1).natAbs < _; rw [Int.natAbs_neg]; exact wq.top, wq.bot, cop_neg' wq.cop⟩, hz, fun p hp => ?_⟩
 refine k _ _ (s1.trans (same_new hp _)) ?_
 rw [← minus_eq]
 exact RV.of upd_same
theorem ok_Q24 (T : Txt K mg t) : FnOk P w K mg base CX0 2 t.a_Q24 t.d_Q24 ["one", "other"] (sp_times K) := by
 refine T.F_Q24.ok sc_Q24 (fun vs H Q E h => ?_) (fun cdv A outer s H vs Q E hr h => ?_)
 ·obtain ⟨_, _, _, _, _, _, rfl, _⟩ := h; rfl
 obtain ⟨v, w, r, q, n, m, rfl, hv, hw, wr, wq, hz, k⟩ := h
 refine QSs.ok (qss_cons (qsA 2 sc_Q24.nd (qcA (ok_Q0 T) hr T.m_Q0 T.F_Q0.kp T.b_Q0 (qa_cons (qxA ix_tup (qv 0) qe_int) (qa_cons (qxA ix_tup (qv 1) qe_int) qa_nil star_sub) star_sub)))
   (qss_cons (qsA 3 sc_Q24.nd (qcA (ok_Q0 T) hr T.m_Q0 T.F_Q0.kp T.b_Q0 (qa_cons (qxA ix_tup (qv 1) qe_int) (qa_cons (qxA ix_tup (qv 0) qe_int) qa_nil star_sub) star_sub)))
   (qss_one (qs_ret (qe_tup (qa_cons (qe_op op_mulB (qe_op op_quo (qxA ix_tup (qv 0) qe_int) (qv 2)) (qe_op op_quo (qxA ix_tup (qv 1) qe_int) (qv 3))) (qa_cons (qe_op op_mulB (qe_op op_quo (qxA ix_tup (qv 0) qe_int) (qv 3)) (qe_op op_quo (qxA ix_tup (qv 1) qe_int) (qv 2))) qa_nil star_bin) star_bin)))))) ?_
 obtain ⟨p, rfl, hv⟩ := hv
 obtain ⟨p', rfl, hw⟩ := hw
 have c1 := big_of wr.top (show n ≤ 4000 by omega)
 have c2 := big_of wr.bot (show n ≤ 4000 by omega)
 have c3 := big_of wq.top (show m ≤ 4000 by omega)
 have c4 := big_of wq.bot (show m ≤ 4000 by omega)
 have lp : (0 : Int) < (Int.gcd r.1 q.2 : Nat) := gcd_posR wq.pos
 have lb := gcd_lt (a := r.1) wq.pos c4
 have mp : (0 : Int) < (Int.gcd q.1 r.2 : Nat) := gcd_posR wr.pos
 have mb := gcd_lt (a := q.1) wr.pos c2
 have z := timesG_eq ⟨wr.pos, wr.cop⟩ ⟨wq.pos, wq.cop⟩
 have kk : newR H Q (timesG r q) := by rw [z]; exact k
 unfold timesG at kk
 simp only at kk
 refine ⟨_, rfl, p, _, _, _, rfl, rfl, hv, rfl, _, rfl, p', _, _, _, rfl, rfl, hw, rfl, r.1, q.2, rfl, _, rfl, p', _, _, _, rfl, rfl, hw, rfl, _, rfl, p, _, _, _, rfl, rfl, hv, rfl, q.1, r.2, rfl, ?_⟩
 generalize ((Int.gcd r.1 q.2 : Nat) : Int) = l at lp lb kk ⊢
 generalize ((Int.gcd q.1 r.2 : Nat) : Int) = m' at mp mb kk ⊢
 refine ⟨_, rfl, p, _, _, _, rfl, rfl, hv, rfl, _, rfl, _, _, rfl, rfl, ⟨lp, lb⟩, _, rfl, p', _, _, _, rfl, rfl, hw, rfl, _, rfl, _, _, rfl, rfl, ⟨mp, mb⟩, _, _, rfl, rfl, ⟨div_lt lp c1, div_lt mp c3⟩, _, rfl, p, _, _, _, rfl, rfl, hv, rfl, _, rfl, _, _, rfl, rfl, ⟨mp, mb⟩, _, rfl, p', _, _, _, rfl, rfl, hw, rfl, _, rfl, _, _, rfl, rfl, ⟨lp, lb⟩, _, _, rfl, rfl, ⟨div_lt mp c2, div_lt lp c4⟩, zl2, kk⟩
theorem ok_Q27 (T : Txt K mg t) : FnOk P w K mg base CX0 3 t.a_Q27 t.d_Q27 ["one", "other"] (sp_over K) := by
 refine T.F_Q27.ok sc_Q27 (fun vs H Q E h => ?_) (fun cdv A outer s H vs Q E hr h => ?_)
 ·obtain ⟨_, _, _, _, _, _, rfl, _⟩ := h; rfl
 obtain ⟨v, w, r, q, n, m, rfl, hv, hw, wr, wq, hz, hq, k⟩ := h
 refine QSs.ok (qss_cons (qs_if (qt_cmpR op_eq (qxA ix_tup (qv 1) qe_int) qe_int (nomark _)) (qss_one qs_never) qss_nil)
   (qss_one (qs_ret (qcA (ok_Q24 T) hr T.m_Q24 T.F_Q24.kp T.b_Q24 (qa_cons (qv 0) (qa_cons (qcA (ok_Q22 T) hr T.m_Q22 T.F_Q22.kp T.b_Q22 (qa_cons (qxA ix_tup (qv 1) qe_int) (qa_cons (qxA ix_tup (qv 1) qe_int) qa_nil star_sub) star_sub)) qa_nil star_call) star_name))))) ?_
 obtain ⟨p', rfl, hw⟩ := hw
 refine ⟨_, rfl, p', _, _, _, rfl, rfl, hw, rfl, rfl, _, rfl, ?_⟩
 refine iteD0 (fun z => by injection z with z; exact hq z) ?_
 refine ⟨_, rfl, _, rfl, p', _, _, _, rfl, rfl, hw, rfl, _, rfl, p', _, _, _, rfl, rfl, hw, rfl, q.2, q.1, rfl, hq, big_of wq.top (by omega), fun ps hps => ?_⟩
 have s1 := same_new hps (.tup [.int (mkS q.2 q.1).1, .int (mkS q.2 q.1).2])
 refine ⟨v, .ref ps, r, mkS q.2 q.1, n, m, rfl, hv.mono (Tst.same s1), RV.of upd_same, wr, mkS_wf hq wq.bot wq.top, hz, fun p hp => ?_⟩
 refine k _ _ (s1.trans (same_new hp _)) ?_
 rw [← over_eq ⟨wr.pos, wr.cop⟩ hq]
 exact RV.of upd_same
theorem ok_Q16 (T : Txt K mg t) : FnOk P w K mg base CX0 1 t.a_Q16 t.d_Q16 ["one", "other"] (sp_is_less K) := by
 refine T.F_Q16.ok sc_Q16 (fun vs H Q E h => ?_) (fun cdv A outer s H vs Q E hr h => ?_)
 ·obtain ⟨_, _, _, _, _, _, rfl, _⟩ := h; rfl
 obtain ⟨v, w, r, q, n, m, rfl, hv, hw, wr, wq, hz, k⟩ := h
 refine QSs.ok (qss_one (qs_ret (qe_cmpR op_lt (qe_op op_mulB (qxA ix_tup (qv 0) qe_int) (qxA ix_tup (qv 1) qe_int)) (qe_op op_mulB (qxA ix_tup (qv 1) qe_int) (qxA ix_tup (qv 0) qe_int)) (nomark _)))) ?_
 obtain ⟨p, rfl, hv⟩ := hv
 obtain ⟨p', rfl, hw⟩ := hw
 have c1 := big_of wr.top (show n ≤ 4000 by omega)
 have c2 := big_of wr.bot (show n ≤ 4000 by omega)
 have c3 := big_of wq.top (show m ≤ 4000 by omega)
 have c4 := big_of wq.bot (show m ≤ 4000 by omega)
 refine ⟨_, rfl, p, _, _, _, rfl, rfl, hv, rfl, _, rfl, p', _, _, _, rfl, rfl, hw, rfl, _, _, rfl, rfl, ⟨c1, c4⟩, _, rfl, p', _, _, _, rfl, rfl, hw, rfl, _, rfl, p, _, _, _, rfl, rfl, hv, rfl, _, _, rfl, rfl, ⟨c3, c2⟩, _, _, rfl, rfl, k⟩
theorem ok_Q25 (T : Txt K mg t) : FnOk P w K mg base CX0 3 t.a_Q25 t.d_Q25 ["some"] (sp_total K) := by
 refine T.F_Q25.ok sc_Q25 (fun vs H Q E h => ?_) (fun cdv A outer s H vs Q E hr h => ?_)
 ·obtain ⟨_, _, _, _, _, rfl, _⟩ := h; rfl
 obtain ⟨a, xs, rs, n, D₀, rfl, hS, hR, hWD, h0, hDn₀, hlen, hn, k⟩ := h
 refine QSs.ok (qss_cons (qsA 1 sc_Q25.nd qe_dnewK)
   (qss_cons (qs_for PassesOwn.never rfl (qi_seq (qv 0)) (qg_name (i := 2) sc_Q25.nd rfl (by first | exact Or.inl rfl | exact Or.inr rfl))
   (qss_one (qs_dput (hu_of hr) (qv 1) (qxA ix_tup (qv 2) qe_int) (qe_op op_add (qe_dget2 (hu_of hr) (qv 1) (qxA ix_tup (qv 2) qe_int) qe_int ⟨rfl, rfl, rfl, rfl⟩) (qxA ix_tup (qv 2) qe_int)) rfl)))
   (qss_cons (qsA 3 sc_Q25.nd (qe_glob (v := .ref t.c_NOUGHT) rfl T.m_NOUGHT rfl))
   (qss_cons (qs_for PassesOwn.never rfl (qi_items (qv 1)) (qg_tup rfl (qgs_cons (qg_name (i := 4) sc_Q25.nd rfl (by first | exact Or.inl rfl | exact Or.inr rfl)) (qgs_cons (qg_name (i := 5) sc_Q25.nd rfl (by first | exact Or.inl rfl | exact Or.inr rfl)) qgs_nil)))
   (qss_one (qsA 3 sc_Q25.nd (qcA (ok_Q26 T) hr T.m_Q26 T.F_Q26.kp T.b_Q26 (qa_cons (qv 3) (qa_cons (qcA (ok_Q22 T) hr T.m_Q22 T.F_Q22.kp T.b_Q22 (qa_cons (qv 5) (qa_cons (qv 4) qa_nil star_name) star_name)) qa_nil star_call) star_name)))))
   (qss_one (qs_ret (qv 3))))))) ?_
 refine fun D hDn => ⟨_, rfl, ?_⟩
 have sD := same_new hDn (.dK [])
 rcases hS with hS | hS
 ·refine .inl ⟨a, rfl, ⟨_, sD.seq hS⟩, for_list (K := K) (a := a) (xs := xs) (fun i σ H' => ∃ (x : Option V) (ps : List (Int × Int)), σ = [some (.ref a), some (.ref D), x, none, none, none] /\ Same H H' /\ H' D = some (.dK (enc ps)) /\ PsOk n i ps /\ (∀ p ∈ ps, p.1 ∣ (D₀ : Int)) /\ sumv ps = vsum (rs.take i)) ⟨none, [], rfl, sD, upd_same, PsOk.nil n, (fun _ h => nomatch h), rfl⟩ (fun i σ H1 _ ⟨_, _, _, s1, _⟩ => s1.seq hS) ?_ ?_⟩
  ·rintro i y σ H1 hi ⟨x, ps, rfl, s1, hD1, ok, dv, ev⟩
   obtain ⟨ry, hry, hyv⟩ := hR.at hi
   have my : ry ∈ rs := List.mem_of_getElem? hry
   have hil := (List.getElem?_eq_some_iff.mp hry).1
   obtain ⟨py, rfl, hSy⟩ := hyv.mono (Tst.same s1)
   have el : (enc ps).length = ps.length := List.length_map _
   have hlp : (enc ps).length < sizeLine := by rw [el]; exact small1000 (by have := ok.len; omega)
   refine ⟨_, rfl, D, rfl, .inl ⟨_, .inl hD1⟩, _, rfl, py, _, _, _, rfl, rfl, hSy, rfl, _, DGet.k (k := Sum.inl ry.2) hD1, _, rfl, py, _, _, _, rfl, rfl, hSy, rfl, topP ps ry.2, ry.1, get_enc ps ry.2, rfl, _, rfl, _, rfl, py, _, _, _, rfl, rfl, hSy, rfl, D, _, rfl, DPut.k (k := Sum.inl ry.2) hD1 hlp, ?_⟩
   refine ⟨_, addP ps ry.2 ry.1, rfl, fun b o q => ?_, ?_, ok.add (hWD ry my).1, add_dvd (i := 0) (n := 0) dv (hWD ry my).2, ?_⟩
   ·rw [upd_ne (ne_of_none q hDn)]
    exact s1 b o q
   ·rw [put_enc ps _ _ ok.nd]
    exact upd_same
   ·rw [sumv_add, ev, List.take_add_one, hry]
    exact (vsum_snoc _ _).symm
  ·rintro σ H1 ⟨x, ps, rfl, s1, hD1, ok, dv, ev⟩
   rw [hR.1, List.take_length] at ev
   rw [hR.1] at ok
   refine ⟨_, rfl, D, enc ps, rfl, hD1, fun ob => for_items (d := D) (ob := ob) (kvs := enc ps) (fun j σ H' => ∃ (u : V) (acc : R) (y4 y5 : Option V), σ = [some (.ref a), some (.ref D), x, some u, y4, y5] /\ Same H H' /\ H' D = some (.frz ob (.dK (enc ps))) /\ RV K H' u acc /\ Bq D₀ (64 * 2 ^ n * j) acc /\ val acc = sumv (ps.take j)) ⟨_, (0, 1), none, none, rfl, ?_, upd_same, ⟨_, rfl, T.q_NOUGHT _⟩, ⟨by decide, by decide, ⟨(D₀ : Int), by show (D₀ : Int) = 1 * D₀; omega⟩, by show 0 ≤ _; exact Nat.zero_le _⟩, val_nought⟩ (fun i σ H1 ⟨_, _, _, _, _, _, z, _⟩ => z) ?_ ?_⟩
   ·intro b o q
    rw [upd_ne (ne_of_none q hDn)]
    exact s1 b o q
   ·rintro j kk v p σ H2 hkv ⟨u, acc, y4, y5, rfl, s2, hD2, r2, w2, ev2⟩ hp
    have hkv' : (ps.map fun p => ((Sum.inl p.1 : Key), V.int p.2))[j]? = some (kk, v) := hkv
    rw [List.getElem?_map] at hkv'
    obtain ⟨q, hq, e⟩ := Option.map_eq_some_iff.mp hkv'
    cases e
    have mq := List.mem_of_getElem? hq
    have hjl := (List.getElem?_eq_some_iff.mp hq).1
    have wq := ok.wf (by omega) mq
    have lps := ok.len
    have gq := grp_bq ok dv hlen mq
    have wa := acc_wf w2 (by omega) h0 hDn₀
    have bq := ok.bot q mq
    have e1 := same_new hp (.tup [kV (Sum.inl q.1), V.int q.2])
    refine ⟨p, _, rfl, SqT.of upd_same, rfl, _, _, rfl, _, _, rfl, rfl, ?_⟩
    refine ⟨_, rfl, _, rfl, _, rfl, q.2, q.1, rfl, (by have := bq.1; omega), big_of bq.2 (by omega), fun p1 g1 => ?_⟩
    rw [mkS_pos bq.1]
    have e2 := same_new g1 (.tup [.int (mkR q.2 q.1).1, .int (mkR q.2 q.1).2])
    refine ⟨u, .ref p1, acc, mkR q.2 q.1, 2 * n + 12, n + 8, rfl, (r2.mono (Tst.same e1)).mono (Tst.same e2), RV.of upd_same, wa, wq, by omega, fun p2 g2 => ?_⟩
    have e3 := same_new g2 (.tup [.int (plusR acc (mkR q.2 q.1)).1, .int (plusR acc (mkR q.2 q.1)).2])
    have s3 := ((e1.trans e2).trans e3)
    refine ⟨_, plusR acc (mkR q.2 q.1), _, _, rfl, s2.trans s3, s3 _ _ hD2, RV.of upd_same, (by rw [Nat.mul_succ]; exact Bq.plus h0 w2 gq), ?_⟩
    rw [val_plus w2.pos wq.pos, val_mk bq.1, ev2, List.take_add_one, hq]
    exact (sumv_snoc _ _).symm
   ·rintro σ H2 ⟨u, acc, y4, y5, rfl, s2, hD2, r2, w2, ev2⟩
    have el : (enc ps).length = ps.length := List.length_map _
    rw [el, List.take_length] at ev2
    have es := sum_is (fun r hr => (hWD r hr).1.red) w2.red (ev2.trans ev)
    rw [es] at r2
    exact ⟨_, rfl, k u H2 s2 r2⟩
 ·refine .inr ⟨a, rfl, ⟨_, Tst.same sD _ _ hS⟩, for_tup (K := K) (a := a) (xs := xs) (fun i σ H' => ∃ (x : Option V) (ps : List (Int × Int)), σ = [some (.ref a), some (.ref D), x, none, none, none] /\ Same H H' /\ H' D = some (.dK (enc ps)) /\ PsOk n i ps /\ (∀ p ∈ ps, p.1 ∣ (D₀ : Int)) /\ sumv ps = vsum (rs.take i)) ⟨none, [], rfl, sD, upd_same, PsOk.nil n, (fun _ h => nomatch h), rfl⟩ (fun i σ H1 _ ⟨_, _, _, s1, _⟩ => Tst.same s1 _ _ hS) ?_ ?_⟩
  ·rintro i y σ H1 hi ⟨x, ps, rfl, s1, hD1, ok, dv, ev⟩
   obtain ⟨ry, hry, hyv⟩ := hR.at hi
   have my : ry ∈ rs := List.mem_of_getElem? hry
   have hil := (List.getElem?_eq_some_iff.mp hry).1
   obtain ⟨py, rfl, hSy⟩ := hyv.mono (Tst.same s1)
   have el : (enc ps).length = ps.length := List.length_map _
   have hlp : (enc ps).length < sizeLine := by rw [el]; exact small1000 (by have := ok.len; omega)
   refine ⟨_, rfl, D, rfl, .inl ⟨_, .inl hD1⟩, _, rfl, py, _, _, _, rfl, rfl, hSy, rfl, _, DGet.k (k := Sum.inl ry.2) hD1, _, rfl, py, _, _, _, rfl, rfl, hSy, rfl, topP ps ry.2, ry.1, get_enc ps ry.2, rfl, _, rfl, _, rfl, py, _, _, _, rfl, rfl, hSy, rfl, D, _, rfl, DPut.k (k := Sum.inl ry.2) hD1 hlp, ?_⟩
   refine ⟨_, addP ps ry.2 ry.1, rfl, fun b o q => ?_, ?_, ok.add (hWD ry my).1, add_dvd (i := 0) (n := 0) dv (hWD ry my).2, ?_⟩
   ·rw [upd_ne (ne_of_none q hDn)]
    exact s1 b o q
   ·rw [put_enc ps _ _ ok.nd]
    exact upd_same
   ·rw [sumv_add, ev, List.take_add_one, hry]
    exact (vsum_snoc _ _).symm
  ·rintro σ H1 ⟨x, ps, rfl, s1, hD1, ok, dv, ev⟩
   rw [hR.1, List.take_length] at ev
   rw [hR.1] at ok
   refine ⟨_, rfl, D, enc ps, rfl, hD1, fun ob => for_items (d := D) (ob := ob) (kvs := enc ps) (fun j σ H' => ∃ (u : V) (acc : R) (y4 y5 : Option V), σ = [some (.ref a), some (.ref D), x, some u, y4, y5] /\ Same H H' /\ H' D = some (.frz ob (.dK (enc ps))) /\ RV K H' u acc /\ Bq D₀ (64 * 2 ^ n * j) acc /\ val acc = sumv (ps.take j)) ⟨_, (0, 1), none, none, rfl, ?_, upd_same, ⟨_, rfl, T.q_NOUGHT _⟩, ⟨by decide, by decide, ⟨(D₀ : Int), by show (D₀ : Int) = 1 * D₀; omega⟩, by show 0 ≤ _; exact Nat.zero_le _⟩, val_nought⟩ (fun i σ H1 ⟨_, _, _, _, _, _, z, _⟩ => z) ?_ ?_⟩
   ·intro b o q
    rw [upd_ne (ne_of_none q hDn)]
    exact s1 b o q
   ·rintro j kk v p σ H2 hkv ⟨u, acc, y4, y5, rfl, s2, hD2, r2, w2, ev2⟩ hp
    have hkv' : (ps.map fun p => ((Sum.inl p.1 : Key), V.int p.2))[j]? = some (kk, v) := hkv
    rw [List.getElem?_map] at hkv'
    obtain ⟨q, hq, e⟩ := Option.map_eq_some_iff.mp hkv'
    cases e
    have mq := List.mem_of_getElem? hq
    have hjl := (List.getElem?_eq_some_iff.mp hq).1
    have wq := ok.wf (by omega) mq
    have lps := ok.len
    have gq := grp_bq ok dv hlen mq
    have wa := acc_wf w2 (by omega) h0 hDn₀
    have bq := ok.bot q mq
    have e1 := same_new hp (.tup [kV (Sum.inl q.1), V.int q.2])
    refine ⟨p, _, rfl, SqT.of upd_same, rfl, _, _, rfl, _, _, rfl, rfl, ?_⟩
    refine ⟨_, rfl, _, rfl, _, rfl, q.2, q.1, rfl, (by have := bq.1; omega), big_of bq.2 (by omega), fun p1 g1 => ?_⟩
    rw [mkS_pos bq.1]
    have e2 := same_new g1 (.tup [.int (mkR q.2 q.1).1, .int (mkR q.2 q.1).2])
    refine ⟨u, .ref p1, acc, mkR q.2 q.1, 2 * n + 12, n + 8, rfl, (r2.mono (Tst.same e1)).mono (Tst.same e2), RV.of upd_same, wa, wq, by omega, fun p2 g2 => ?_⟩
    have e3 := same_new g2 (.tup [.int (plusR acc (mkR q.2 q.1)).1, .int (plusR acc (mkR q.2 q.1)).2])
    have s3 := ((e1.trans e2).trans e3)
    refine ⟨_, plusR acc (mkR q.2 q.1), _, _, rfl, s2.trans s3, s3 _ _ hD2, RV.of upd_same, (by rw [Nat.mul_succ]; exact Bq.plus h0 w2 gq), ?_⟩
    rw [val_plus w2.pos wq.pos, val_mk bq.1, ev2, List.take_add_one, hq]
    exact (sumv_snoc _ _).symm
   ·rintro σ H2 ⟨u, acc, y4, y5, rfl, s2, hD2, r2, w2, ev2⟩
    have el : (enc ps).length = ps.length := List.length_map _
    rw [el, List.take_length] at ev2
    have es := sum_is (fun r hr => (hWD r hr).1.red) w2.red (ev2.trans ev)
    rw [es] at r2
    exact ⟨_, rfl, k u H2 s2 r2⟩
theorem ok_Q9 (T : Txt K mg t) : FnOk P w K mg base CX0 2 t.a_Q9 t.d_Q9 ["rows", "speed"] (sp_place_of K) := by
 refine T.F_Q9.ok sc_Q9 (fun vs H Q E h => ?_) (fun cdv A outer s H vs Q E hr h => ?_)
 ·obtain ⟨_, _, _, _, _, rfl, _⟩ := h; rfl
 obtain ⟨q, v, xs, rows, s, rfl, hq, al, ok, hv, hs, hb, k⟩ := h
 refine QSs.ok (qss_cons (qsA 2 sc_Q9.nd qe_int)
   (qss_cons (qs_while PassesOwn.never (qt_val (qcA (ok_Q16 T) hr T.m_Q16 T.F_Q16.kp T.b_Q16 (qa_cons (qxA ix_tup (qxA ix_tup (qv 0) (qv 2)) qe_int) (qa_cons (qv 1) qa_nil star_name) star_sub)))
   (qss_one (qs_aug (i := 2) sc_Q9.nd rfl (by first | exact Or.inl rfl | exact Or.inr rfl) qe_int ip_add)))
   (qss_one (qs_ret (qv 2))))) ?_
 have pl := ok.p_lt hs.bq.pos hb
 refine ⟨fun m σ H' => ∃ i : Nat, σ = [some (.ref q), some v, some (.int (i : Int))] /\ H' = H /\ i ≤ pOf rows s /\ m = pOf rows s - i, ⟨_, 0, rfl, rfl, Nat.zero_le _, rfl⟩, ?_⟩
 rintro m σ H' ⟨i, rfl, rfl, hi, rfl⟩
 have hx0 : xs[i]? = some (xs[i]'(by rw [al.len]; omega)) := List.getElem?_eq_getElem _
 obtain ⟨r, hr, hrv⟩ := al.at hx0
 obtain ⟨pa, x, y, ex, hS, hx, hy⟩ := id hrv
 have mr := List.mem_of_getElem? hr
 refine ⟨_, rfl, _, rfl, q, _, _, _, rfl, rfl, hq, atI_nat hx0, pa, _, _, _, ex, rfl, hS, rfl, _, rfl, x, v, r.1, s, 98, 102, rfl, hx, hv, wfS (ok.sp r mr), hs.wf, by decide, _, rfl, ?_⟩
 rw [cnt_p hs.bq.pos ok.inc ok.allP hr]
 by_cases c : i < pOf rows s
 ·refine iteD1 c ?_
  refine ⟨_, fun _ _ z => z, ?_⟩
  exact ⟨_, rfl, _, _, rfl, rfl, _, (by omega), i + 1, rfl, rfl, c, rfl⟩
 ·refine iteD0 c ?_
  have e : i = pOf rows s := by omega
  subst e
  exact ⟨_, rfl, k⟩
theorem ok_Q17 (T : Txt K mg t) : FnOk P w K mg base CX0 4 t.a_Q17 t.d_Q17 ["table", "speed"] (sp_mixture K) := by
 refine T.F_Q17.ok sc_Q17 (fun vs H Q E h => ?_) (fun cdv A outer s H vs Q E hr h => ?_)
 ·obtain ⟨_, _, _, _, rfl, _⟩ := h; rfl
 obtain ⟨v, w, rows, s, rfl, hv, ok, hw, hs, hb, k⟩ := h
 refine QSs.ok (qss_cons (qsA 2 sc_Q17.nd (qxA ix_tup (qv 0) qe_int))
   (qss_cons (qsA 3 sc_Q17.nd (qcA (ok_Q9 T) hr T.m_Q9 T.F_Q9.kp T.b_Q9 (qa_cons (qv 2) (qa_cons (qv 1) qa_nil star_name) star_name)))
   (qss_cons (qsA 4 sc_Q17.nd (qxA ix_tup (qxA ix_tup (qv 2) (qv 3)) qe_int))
   (qss_cons (qs_if (qt_cmpR (op_eqD hr) (qv 4) (qv 1) (nomark _)) (qss_one (qs_ret (qe_tup (qa_cons (qe_tup (qa_cons (qv 4) (qa_cons (qe_glob (v := .ref t.c_ONE) rfl T.m_ONE rfl) qa_nil star_name) star_name)) qa_nil star_tup)))) qss_nil)
   (qss_cons (qsA 5 sc_Q17.nd (qxA ix_tup (qxA ix_tup (qv 2) (qe_op op_sub (qv 3) qe_int)) qe_int))
   (qss_cons (qsA 6 sc_Q17.nd (qcA (ok_Q27 T) hr T.m_Q27 T.F_Q27.kp T.b_Q27 (qa_cons (qcA (ok_Q23 T) hr T.m_Q23 T.F_Q23.kp T.b_Q23 (qa_cons (qv 1) (qa_cons (qv 5) qa_nil star_name) star_name)) (qa_cons (qcA (ok_Q23 T) hr T.m_Q23 T.F_Q23.kp T.b_Q23 (qa_cons (qv 4) (qa_cons (qv 5) qa_nil star_name) star_name)) qa_nil star_call) star_call)))
   (qss_one (qs_ret (qe_tup (qa_cons (qe_tup (qa_cons (qv 5) (qa_cons (qcA (ok_Q23 T) hr T.m_Q23 T.F_Q23.kp T.b_Q23 (qa_cons (qe_glob (v := .ref t.c_ONE) rfl T.m_ONE rfl) (qa_cons (qv 6) qa_nil star_name) star_name)) qa_nil star_call) star_name)) (qa_cons (qe_tup (qa_cons (qv 4) (qa_cons (qv 6) qa_nil star_name) star_name)) qa_nil star_tup) star_tup)))))))))) ?_
 obtain ⟨p, q, xs, rfl, hS, hq, al⟩ := id hv
 have pl := ok.p_lt hs.bq.pos hb
 have hx0 : xs[pOf rows s]? = some (xs[pOf rows s]'(by rw [al.len]; exact pl)) := List.getElem?_eq_getElem _
 obtain ⟨r, hr', hrv⟩ := al.at hx0
 obtain ⟨pa, x, y, ex, hSr, hx, hy⟩ := id hrv
 refine ⟨_, rfl, p, _, _, _, rfl, rfl, hS, rfl, _, rfl, _, rfl, q, w, xs, rows, s, rfl, hq, al, ok, hw, hs, hb, ?_⟩
 refine ⟨_, rfl, _, rfl, q, _, _, _, rfl, rfl, hq, atI_nat hx0, pa, _, _, _, ex, rfl, hSr, rfl, ?_⟩
 refine ⟨_, rfl, _, rfl, dR r.1, dR s, hx.deep, hw.deep, dR_lay _, dR_lay _, dR_depth _, _, rfl, ?_⟩
 rw [eqv_iff]
 by_cases c : r.1 = s
 ·refine iteD1 c ?_
  have em : mixM rows s = [(s, (1, 1))] := by unfold mixM; rw [getD_at hr', if_pos c]
  refine ⟨_, rfl, zl2, fun p1 h1 => ⟨zl1, fun p2 h2 => ?_⟩⟩
  have m1 := same_new h1 (.tup [x, .ref t.c_ONE])
  have m2 := same_new h2 (.tup [.ref p1])
  refine k _ _ (m1.trans m2) ⟨p2, _, rfl, SqT.of upd_same, ?_⟩
  rw [em]
  exact .cons ⟨p1, _, _, rfl, SqT.of (m2 _ _ upd_same), by rw [← c]; exact hx.mono (Tst.same (m1.trans m2)), ⟨_, rfl, T.q_ONE _⟩⟩ .nil
 ·refine iteD0 c ?_
  have c0 : pOf rows s ≠ 0 := fun z => by
   have e := zero_of ok hs z
   obtain ⟨y0, ey⟩ := ok.zero
   rw [z, ey] at hr'
   cases hr'
   exact c e.symm
  have hw0 : xs[pOf rows s - 1]? = some (xs[pOf rows s - 1]'(by rw [al.len]; omega)) := List.getElem?_eq_getElem _
  obtain ⟨r1, e1, hrv1⟩ := al.at hw0
  obtain ⟨pb, xb, yb, exb, hSb, hxb, hyb⟩ := id hrv1
  have er' : rows[pOf rows s - 1 + 1]? = some r := by rw [show pOf rows s - 1 + 1 = pOf rows s by omega]; exact hr'
  obtain ⟨w1, w2, ne, wp, wq⟩ := part_wf ok hs e1 er'
  have sl := slOk ok (Nat.lt_succ_self _) e1 er'
  have em : mixM rows s = [(r1.1, minusR (1, 1) (partR r1.1 r.1 s)), (r.1, partR r1.1 r.1 s)] := by unfold mixM; rw [getD_at hr', getD_at e1, if_neg c]
  have ei : ((pOf rows s : Nat) : Int) - 1 = ((pOf rows s - 1 : Nat) : Int) := by omega
  refine ⟨_, rfl, _, rfl, _, _, rfl, rfl, q, _, _, _, rfl, rfl, hq, (by rw [ei]; exact atI_nat hw0), pb, _, _, _, exb, rfl, hSb, rfl, ?_⟩
  refine ⟨_, rfl, _, rfl, w, xb, s, r1.1, 102, 98, rfl, hw, hxb, hs.wf, sl.a1, by decide, fun v1 H1 s1 h1 => ?_⟩
  refine ⟨_, rfl, _, rfl, x, xb, r.1, r1.1, 98, 98, rfl, hx.mono (Tst.same s1), hxb.mono (Tst.same s1), sl.b1, sl.a1, by decide, fun v2 H2 s2 h2 => ?_⟩
  refine ⟨v1, v2, minusR s r1.1, minusR r.1 r1.1, 202, 99, rfl, h1.mono (Tst.same s2), h2, w1, w2, by decide, ne, fun v3 H3 s3 h3 => ?_⟩
  have h3' : RV K H3 v3 (partR r1.1 r.1 s) := h3
  have s13 := (s1.trans s2).trans s3
  refine ⟨_, rfl, _, rfl, .ref t.c_ONE, v3, (1, 1), partR r1.1 r.1 s, 1, 302, rfl, ⟨_, rfl, T.q_ONE _⟩, h3', one_wf, wp, by decide, fun v4 H4 s4 h4 => ?_⟩
  have s14 := s13.trans s4
  refine ⟨zl2, fun p5 g5 => ⟨_, rfl, _, rfl, zl2, fun p6 g6 => ⟨zl2, fun p7 g7 => ?_⟩⟩⟩
  have m5 := same_new g5 (.tup [xb, v4])
  have m6 := same_new g6 (.tup [x, v3])
  have m7 := same_new g7 (.tup [.ref p5, .ref p6])
  have s47 := (m5.trans m6).trans m7
  refine k _ _ (s14.trans s47) ⟨p7, _, rfl, SqT.of upd_same, ?_⟩
  rw [em]
  exact .cons ⟨p5, _, _, rfl, SqT.of (m7 _ _ (m6 _ _ upd_same)), hxb.mono (Tst.same (s14.trans s47)), h4.mono (Tst.same s47)⟩ (.cons ⟨p6, _, _, rfl, SqT.of (m7 _ _ upd_same), hx.mono (Tst.same (s14.trans s47)), h3'.mono (Tst.same (s4.trans s47))⟩ .nil)
theorem ok_Q1 (T : Txt K mg t) : FnOk P w K mg base CX0 1 t.a_Q1 t.d_Q1 ["table", "speeds"] (sp_row_numbers K) := by
 refine T.F_Q1.ok sc_Q1 (fun vs H Q E h => ?_) (fun cdv A outer s H vs Q E hr h => ?_)
 ·obtain ⟨_, _, _, _, _, rfl, _⟩ := h; rfl
 obtain ⟨v, a, rows, xs, zs, rfl, hv, l12, hS, al, l64, k⟩ := h
 refine QSs.ok (qss_cons (qsA 2 sc_Q1.nd (qe_lcomp (N' := ["row"]) (src := [none]) rfl (by exact (qi_tup (qe_ix ix_tup (qv 0) qe_int (fun _ _ => rfl)))) (fun _ _ _ _ _ => (by exact (by exact qg_name (i := 0) (by show List.Nodup (["row"] : List Str); decide +kernel) (by exact rfl) (by first | exact Or.inl rfl | exact Or.inr rfl)))) (fun _ _ _ _ _ => qts_nil) (fun _ _ _ _ _ => (by exact (by exact (qe_ix (ix_tupK (K := K) (by exact rfl)) (by exact (qv 0)) qe_int (by exact fun _ _ => rfl))))) (by exact trivial) rfl (by decide +kernel) rfl (by decide +kernel) (by exact cells_of rfl trivial)))
   (qss_one (qs_ret (qe_lcomp (N' := ["speed", "rows"]) (src := [none, some 2]) rfl (by exact (qi_list (qv 1))) (fun _ _ _ _ _ => (by exact (by exact qg_name (i := 0) (by show List.Nodup (["speed", "rows"] : List Str); decide +kernel) (by exact rfl) (by first | exact Or.inl rfl | exact Or.inr rfl)))) (fun _ _ _ _ _ => qts_nil) (fun _ _ _ _ _ => (by exact (by exact (qe_ifExp (qt_cmpR (op_inDK (K := K) (by exact rfl) (by exact hr)) (by exact (qv 0)) (by exact (qv 1)) (by with_unfolding_all rfl)) (by exact (qe_bmK (K := K) (by exact rfl) PySem.F.plainAttrs_list PySem.F.slot_list_index PySem.F.type_list_index (mt_indexDK (K := K) (by exact rfl) (by exact hr)) (by exact (qv 1)) (qa_cons (by exact (qv 0)) qa_nil star_name))) qe_non)))) (by exact ⟨rfl, rfl, rfl, rfl, trivial⟩) rfl (by decide +kernel) rfl (by decide +kernel) (by exact cells_of rfl ⟨rfl, trivial⟩))))) ?_
 obtain ⟨p, q, ys, rfl, hSp, hq, aly⟩ := id hv
 refine ⟨_, rfl, p, _, _, _, rfl, rfl, hSp, rfl, q, rfl, ⟨_, hq⟩, fun D hD => comp_mapT (K := K) (a := q) (xs := ys) (ds := rows) (P := RV K) (f := fun r => r.1) (fun _ _ _ _ t z => z.mono t) hD hq aly.len (by omega) (fun i x d H' hx hd sm Rk E kR => ?_) fun H1 vs s1 hD1 al1 => ?_⟩
 ·obtain ⟨d', hd', rv⟩ := aly.at hx
  rw [hd] at hd'
  cases hd'
  obtain ⟨pa, x1, y1, ex, hSr, hx1, hy1⟩ := rv.mono (Tst.same sm)
  exact ⟨Ext.set rfl, _, rfl, pa, _, _, _, ex, rfl, hSr, rfl, kR _ _ (Same.refl _) hx1⟩
 have dall : DeepAll K H1 vs ((rows.map fun r => r.1).map dR) := al1.deep fun v d z => z.deep
 have lays : Lays ((rows.map fun r => r.1).map dR) := fun e he => by
  obtain ⟨z, _, rfl⟩ := List.mem_map.mp he
  exact ⟨dR_lay _, dR_depth _⟩
 have hS1 : SqL K H1 a xs := s1.seq hS
 have lx : xs.length = zs.length := al.len
 refine ⟨_, rfl, a, rfl, ⟨_, hS1⟩, fun D2 hD2 => comp_ix (wlk_lst hS1) (fun _ => true) (fun i => numV rows (zs.getD i (0, 1))) hD2 (by omega) (fun i x H' hi sm hx Rk E kR _ => ?_) fun H2 s2 hD2' => ?_⟩
 ·obtain ⟨z, hz, rv⟩ := al.at hx
  have rv' : RV K H' x z := (rv.mono (Tst.same s1)).mono (Tst.same sm)
  have eg : zs.getD i (0, 1) = z := by rw [List.getD_eq_getElem?_getD, hz]; rfl
  rw [eg] at kR
  have hV : SqL K H' D vs := sm.seq (SqL.of hD1)
  have da := DeepAll.same sm dall
  have sf : PyData.eqv (dR z) (dR z) = true := by rw [eqv_iff]; exact decide_eq_true rfl
  refine ⟨Ext.set rfl, ⟨_, rfl, _, rfl, D, vs, _, dR z, rfl, hV, da, lays, rv'.deep, dR_lay _, sf, _, rfl, ?_⟩⟩
  have ea : ((rows.map fun r => r.1).map dR).any (fun e => PyData.eqv e (dR z)) = rows.any fun r => decide (r.1 = z) := by
   rw [List.any_map, List.any_map]
   refine congrArg (List.any rows) (funext fun r => ?_)
   exact eqv_iff
  rw [ea]
  cases c : rows.any fun r => decide (r.1 = z) with
  | false =>
   refine iteF ?_
   have : numV rows z = .non := if_neg (by rw [c]; exact Bool.false_ne_true)
   rw [this] at kR
   exact kR rfl _ (Same.refl _)
  | true =>
   refine iteT ?_
   have hz' := has_any.mp c
   rw [num_of hz'] at kR
   refine ⟨_, rfl, .inl ⟨rfl, _, hV⟩, _, rfl, D, vs, _, x, dR z, rfl, rfl, hV, da, lays, rv'.deep, dR_lay _, sf, ?_, fun j e hj he hlt => ?_⟩
   ·obtain ⟨r, mr, er⟩ := hz'
    exact ⟨dR r.1, List.mem_map.mpr ⟨r.1, List.mem_map.mpr ⟨r, mr, rfl⟩, rfl⟩, by rw [eqv_iff]; exact decide_eq_true er⟩
   ·have ej : j = idxR rows z := by
     obtain ⟨r0, e0, f0⟩ := idx_at hz'
     have l0 := idx_lt hz'
     have at_ : ∀ (m : Nat) (r : R × R), rows[m]? = some r -> ((rows.map fun r => r.1).map dR)[m]? = some (dR r.1) := fun m r h => by rw [List.getElem?_map, List.getElem?_map, h]; rfl
     rcases Nat.lt_trichotomy j (idxR rows z) with l | l | l
     ·exfalso
      obtain ⟨r, hr⟩ : ∃ r, rows[j]? = some r := ⟨_, List.getElem?_eq_getElem (by omega)⟩
      rw [at_ j r hr] at hj
      cases hj
      rw [eqv_iff] at he
      have nf := List.not_of_lt_findIdx (p := fun r : R × R => decide (r.1 = z)) (xs := rows) (i := j) l
      have hjj := (List.getElem?_eq_some_iff.mp hr).2
      rw [hjj] at nf
      rw [he] at nf
      exact absurd nf (by decide)
     ·exact l
     ·exfalso
      have := hlt (idxR rows z) _ l (at_ _ r0 e0)
      rw [eqv_iff, decide_eq_true f0] at this
      cases this
    rw [ej]
    exact kR rfl _ (Same.refl _)
 ·refine k _ _ (s1.trans s2) ?_
  rw [hD2', lx]
  have := by_place_all (0, 1) (fun z => numV rows z) zs
  rw [this]
theorem ok_Q2 (T : Txt K mg t) : FnOk P w K mg base CX0 4 t.a_Q2 t.d_Q2 ["table", "mix"] (sp_mixed_power K) := by
 refine T.F_Q2.ok sc_Q2 (fun vs H Q E h => ?_) (fun cdv A outer s H vs Q E hr h => ?_)
 ·obtain ⟨_, _, _, _, _, rfl, _⟩ := h; rfl
 obtain ⟨v, w, rows, ms, D0_, rfl, hv, ok, hw, l64, hm, hD0, hDl, k⟩ := h
 refine QSs.ok (qss_cons (qsA 2 sc_Q2.nd (qcA (ok_Q1 T) hr T.m_Q1 T.F_Q1.kp T.b_Q1 (qa_cons (qv 0) (qa_cons (qe_lcomp (N' := ["pair"]) (src := [none]) rfl (by exact (qi_tup (qv 1))) (fun _ _ _ _ _ => (by exact (by exact qg_name (i := 0) (by show List.Nodup (["pair"] : List Str); decide +kernel) (by exact rfl) (by first | exact Or.inl rfl | exact Or.inr rfl)))) (fun _ _ _ _ _ => qts_nil) (fun _ _ _ _ _ => (by exact (by exact (qe_ix (ix_tupK (K := K) (by exact rfl)) (by exact (qv 0)) qe_int (by exact fun _ _ => rfl))))) (by exact trivial) rfl (by decide +kernel) rfl (by decide +kernel) (by exact cells_of rfl trivial)) qa_nil star_lc) star_name)))
   (qss_one (qs_ret (qcA (ok_Q25 T) hr T.m_Q25 T.F_Q25.kp T.b_Q25 (qa_cons (qe_lcomp (N' := ["number", "pair", "table"]) (src := [none, none, some 0]) rfl (by exact (qi_zipLT rfl T.z_zip (qa_cons (qv 2) (qa_cons (qv 1) qa_nil star_name) star_name))) (fun _ _ _ _ _ => (by exact (by exact qg_tupK (K := K) (n := 2) (by exact rfl) (by exact rfl) (by exact qgs_cons (by exact qg_name (i := 0) (by show List.Nodup (["number", "pair", "table"] : List Str); decide +kernel) (by exact rfl) (by first | exact Or.inl rfl | exact Or.inr rfl)) (by exact qgs_cons (by exact qg_name (i := 1) (by show List.Nodup (["number", "pair", "table"] : List Str); decide +kernel) (by exact rfl) (by first | exact Or.inl rfl | exact Or.inr rfl)) qgs_nil))))) (fun _ _ _ _ _ => qts_nil) (fun _ _ _ _ _ => (by exact (by exact (qe_call (ok_Q24 T) (by exact hr.mono (by decide)) (by exact rfl) T.m_Q24 T.F_Q24.kp T.b_Q24 (by exact .nil) (by exact pass0) (qa_cons (by exact (qe_ix (ix_tupK (K := K) (by exact rfl)) (by exact (qe_ix (ix_tupK (K := K) (by exact rfl)) (by exact (qe_ix (ix_tupK (K := K) (by exact rfl)) (by exact (qv 2)) qe_int (by exact fun _ _ => rfl))) (by exact (qv 0)) (by exact fun _ _ => rfl))) qe_int (by exact fun _ _ => rfl))) (qa_cons (by exact (qe_ix (ix_tupK (K := K) (by exact rfl)) (by exact (qv 1)) qe_int (by exact fun _ _ => rfl))) qa_nil star_sub) star_sub))))) (by exact ⟨rfl, rfl, rfl, rfl, trivial⟩) rfl (by decide +kernel) rfl (by decide +kernel) (by exact cells_of rfl ⟨rfl, trivial⟩)) qa_nil star_lc))))) ?_
 obtain ⟨p, q, ys, rfl, hSp, hq, aly⟩ := id hv
 obtain ⟨pm, xs, rfl, hSm, alx⟩ := id hw
 have n12 := ok.n12
 have lx : xs.length = ms.length := alx.len
 refine ⟨_, rfl, _, rfl, pm, rfl, ⟨_, hSm⟩, fun D hD => comp_mapT (K := K) (a := pm) (xs := xs) (ds := ms) (P := RV K) (f := fun r => r.1) (fun _ _ _ _ t z => z.mono t) hD hSm lx (by omega) (fun i x d H' hx hd sm Rk E kR => ?_) fun H1 vs s1 hD1 al1 => ?_⟩
 ·obtain ⟨d', hd', rv⟩ := alx.at hx
  rw [hd] at hd'
  cases hd'
  obtain ⟨pa, x1, y1, ex, hSr, hx1, hy1⟩ := rv.mono (Tst.same sm)
  exact ⟨Ext.set rfl, _, rfl, pa, _, _, _, ex, rfl, hSr, rfl, kR _ _ (Same.refl _) hx1⟩
 refine ⟨.ref p, D, rows, vs, List.map (fun r : R × R => r.1) ms, rfl, hv.mono (Tst.same s1), n12, SqL.of hD1, al1, by rw [List.length_map]; exact l64, fun l H2 s2 hl => ?_⟩
 rw [List.map_map] at hl
 have hl' : H2 l = some (.lst (ms.map fun m => numV rows m.1)) := hl
 have s12 := s1.trans s2
 have hSm2 : SqT K H2 pm xs := Tst.same s12 _ _ hSm
 have hlL : SqL K H2 l (ms.map fun m => numV rows m.1) := SqL.of hl'
 refine ⟨_, rfl, _, rfl, l, pm, rfl, ⟨_, hlL⟩, ⟨_, hSm2⟩, fun D2 hD2 => comp_mapW (K := K) (P := RV K) (wlk_zipLT hlL hSm2 (by rw [List.length_map, lx])) (fun i => timesR (pwAt rows (ms.getD i rowD).1) (ms.getD i rowD).2) (fun _ _ _ _ t z => z.mono t) hD2 (by rw [List.length_map]; omega) (fun i x H' hi sm hP Rk E kR => ?_) fun H3 zs s3 hD3 al3 => ?_⟩
 ·obtain ⟨pp, x1, y1, rfl, hx1, hy1, hpp⟩ := hP
  rw [List.length_map] at hi
  obtain ⟨m, hm'⟩ : ∃ m, ms[i]? = some m := ⟨_, List.getElem?_eq_getElem hi⟩
  rw [List.getElem?_map, hm'] at hx1
  cases hx1
  obtain ⟨m2, hm2, rv⟩ := alx.at hy1
  rw [hm'] at hm2
  cases hm2
  obtain ⟨has, wm, dv⟩ := hm m (List.mem_of_getElem? hm')
  have s1' := s12.trans sm
  obtain ⟨pa, xa, ya, exa, hSa, hxa, hya⟩ := rv.mono (Tst.same s1')
  rw [getD_at hm'] at kR
  have hpp' : H' pp = some (.tup [.int (idxR rows m.1 : Nat), y1]) := by rw [← num_of has]; exact hpp
  obtain ⟨r0, e0, f0⟩ := idx_at has
  have ex0 : ys[idxR rows m.1]? = some (ys[idxR rows m.1]'(by rw [aly.len]; exact idx_lt has)) := List.getElem?_eq_getElem _
  obtain ⟨r1, e1, rv1⟩ := aly.at ex0
  rw [e0] at e1
  cases e1
  obtain ⟨pb, xb, yb, exb, hSb, hxb, hyb⟩ := rv1.mono (Tst.same s1')
  have epw : pwAt rows m.1 = r0.2 := by unfold pwAt; rw [getD_at e0]
  have wpw : Wf 197 r0.2 := wfP (ok.pw r0 (List.mem_of_getElem? e0))
  refine ⟨pp, _, rfl, SqT.of hpp', rfl, _, _, rfl, _, _, rfl, rfl, Ext.set' (Ext.set rfl) rfl, ?_⟩
  refine ⟨_, rfl, p, _, _, _, rfl, rfl, Tst.same s1' _ _ hSp, rfl, _, rfl, q, _, _, _, rfl, rfl, Tst.same s1' _ _ hq, atI_nat ex0, pb, _, _, _, exb, rfl, hSb, rfl, ?_⟩
  refine ⟨_, rfl, pa, _, _, _, exa, rfl, hSa, rfl, yb, ya, r0.2, m.2, 197, 310, rfl, hyb, hya, wpw, wm, by decide, fun p9 g9 => ?_⟩
  have e9 := same_new g9 (.tup [.int (timesR r0.2 m.2).1, .int (timesR r0.2 m.2).2])
  refine kR _ _ e9 ?_
  rw [epw]
  exact rv_new (K := K) e9
 ·rw [List.length_map] at al3
  have el : (List.range ms.length).map (fun i => timesR (pwAt rows (ms.getD i rowD).1) (ms.getD i rowD).2) = mixS rows ms := by
   have := by_place_all rowD (fun m : R × R => timesR (pwAt rows m.1) m.2) ms
   rw [List.filter_eq_self.mpr (fun _ _ => rfl)] at this
   exact this
  rw [el] at al3
  refine ⟨D2, zs, mixS rows ms, 900, D0_, rfl, .inl (SqL.of hD3), ⟨al3.len, fun i x r hx hr => ?_⟩, fun r hr => ?_, hD0, hDl, ?_, by decide, fun v4 H4 s4 h4 => k _ _ ((s12.trans s3).trans s4) h4⟩
  ·obtain ⟨r', h', rv⟩ := al3.at hx
   rw [hr] at h'
   cases h'
   exact rv
  ·obtain ⟨m, mm, rfl⟩ := List.mem_map.mp hr
   obtain ⟨has, wm, dv⟩ := hm m mm
   exact ⟨(times_wf (wfP (pw_wf ok has)) wm).mono (by decide), dv⟩
  ·show (ms.map _).length ≤ 64
   rw [List.length_map]
   exact l64
theorem ok_Q10 (T : Txt K mg t) : FnOk P w K mg base CX0 1 t.a_Q10 t.d_Q10 ["_law_script"] (sp_law_tape K) := by
 refine T.F_Q10.ok sc_Q10 (fun vs H Q E h => ?_) (fun cdv A outer s H vs Q E hr h => ?_)
 ·obtain ⟨_, _, rfl, _⟩ := h; rfl
 obtain ⟨a, ns, rfl, hS, k⟩ := h
 refine QSs.ok (qss_one (qs_ret (qe_lst (qa_cons (qe_slice sl_list (qv 0) qo_none (qo_some qe_int)) (qa_cons qe_int (qa_cons qe_int (qa_cons qe_int qa_nil star_con) star_con) star_con) star_sub)))) ?_
 refine ⟨_, rfl, 63, rfl, a, _, rfl, hS, fun p hp => ⟨zl4, fun t ht => ?_⟩⟩
 have npt : p ≠ t := fun z => by subst z; rw [upd_same] at ht; cases ht
 have h0 : H t = none := by rw [upd_ne npt.symm] at ht; exact ht
 refine k t p _ ((same_new hp _).trans (same_new ht _)) h0 hp ⟨ns.take (min 63 ns.length), 0, 0, 0, upd_same, ?_, npt, ?_, by decide, by decide, by decide⟩
 ·rw [upd_ne npt, upd_same, cut63]
 ·rw [List.length_take]; omega
theorem ok_Q11 (T : Txt K mg t) : FnOk P w K mg base CX0 1 t.a_Q11 t.d_Q11 ["_law_tape_here", "_law_many"] (sp_law_draw K) := by
 refine T.F_Q11.ok sc_Q11 (fun vs H Q E h => ?_) (fun cdv A outer s H vs Q E hr h => ?_)
 ·obtain ⟨_, _, _, rfl, _⟩ := h; rfl
 obtain ⟨t₁, s₁, m, rfl, tp, hm0, hm1, k⟩ := h
 obtain ⟨ns, p, q₀, r₀, ht, hs, hne, hlen, hp0, hq0, hr0⟩ := tp.ex
 refine QSs.ok (qss_cons (qsA 2 sc_Q11.nd (qxA ix_list (qv 0) qe_int))
   (qss_cons (qsA 3 sc_Q11.nd (qxA ix_list (qv 0) qe_int))
   (qss_cons (qs_asg (qe_op op_add (qv 3) qe_int) (qg_sub (qv 0) qe_int set_list))
   (qss_cons (qs_while PassesOwn.never (qw_pt (qw_and (qt_cmpR op_eq (qxA ix_list (qv 0) qe_int) qe_int (nomark _)) (qw_and1 (qt_cmpR op_lt (qxA ix_list (qv 0) qe_int) (qe_callB call_len_seq (by rfl) T.z_len boot_len (qa_cons (qv 2) qa_nil star_name)) (nomark _)))))
   (qss_cons (qs_if (qt_cmpR op_ge (qe_callB call_abs (by rfl) T.z_abs boot_abs (qa_cons (qxA ix_list (qv 2) (qxA ix_list (qv 0) qe_int)) qa_nil star_sub)) (qe_op op_pow qe_int qe_int) (nomark _)) (qss_one (qs_asg (qe_callB call_abs (by rfl) T.z_abs boot_abs (qa_cons (qxA ix_list (qv 2) (qxA ix_list (qv 0) qe_int)) qa_nil star_sub)) (qg_sub (qv 0) qe_int set_list))) qss_nil)
   (qss_one (qs_asg (qe_op op_add (qxA ix_list (qv 0) qe_int) qe_int) (qg_sub (qv 0) qe_int set_list)))))
   (qss_cons (qs_if (qt_cmpR op_gt (qxA ix_list (qv 0) qe_int) qe_int (nomark _)) (qss_cons (qsA 4 sc_Q11.nd (qxA ix_list (qv 0) qe_int))
   (qss_cons (qs_asg (qe_op op_fdiv (qv 4) (qv 1)) (qg_sub (qv 0) qe_int set_list))
   (qss_one (qs_ret (qe_op op_mod (qv 4) (qv 1)))))) qss_nil)
   (qss_cons (qsA 5 sc_Q11.nd qe_int)
   (qss_cons (qs_if (qt_cmpR op_gt (qe_callB call_len_seq (by rfl) T.z_len boot_len (qa_cons (qv 2) qa_nil star_name)) qe_int (nomark _)) (qss_one (qsA 5 sc_Q11.nd (qxA ix_list (qv 2) (qe_op op_mod (qv 3) (qe_callB call_len_seq (by rfl) T.z_len boot_len (qa_cons (qv 2) qa_nil star_name)))))) qss_nil)
   (qss_cons (qsA 6 sc_Q11.nd (qe_op op_mod (qe_op op_mul (qe_op op_add (qe_op op_mod (qv 5) qe_int) qe_int) (qe_op op_add (qe_op op_add (qe_op op_mul (qe_op op_mod (qv 3) qe_int) qe_int) qe_int) (qv 3))) qe_int))
   (qss_cons (qsA 6 sc_Q11.nd (qe_op op_mod (qe_op op_add (qe_op op_add (qe_op op_mul (qv 6) (qv 6)) (qe_op op_mul qe_int (qv 6))) (qv 3)) qe_int))
   (qss_one (qs_ret (qe_op op_mod (qe_op op_mod (qe_op op_mul (qv 6) qe_int) qe_int) (qv 1))))))))))))) ?_
 have tap : ∀ (q r : Int), 0 ≤ q -> 0 ≤ r -> Tape (upd H t₁ (.lst [.ref s₁, .int (p + 1), .int q, .int r])) t₁ s₁ := fun q r hq hr => ⟨ns, p + 1, q, r, upd_same, by rw [upd_ne hne]; exact hs, hne, hlen, by omega, hq, hr⟩
 have hs' : ∀ o, (upd H t₁ o) s₁ = some (.lst (ns.map V.int)) := fun o => by rw [upd_ne hne]; exact hs
 have hl : ((ns.map V.int).length : Int) = (ns.length : Int) := by rw [List.length_map]
 refine ⟨_, rfl, t₁, _, _, _, rfl, rfl, SqL.of ht, rfl, ?_⟩
 refine ⟨_, rfl, t₁, _, _, _, rfl, rfl, SqL.of ht, rfl, ?_⟩
 refine ⟨_, rfl, _, _, rfl, rfl, _, rfl, t₁, _, _, _, rfl, rfl, ht, rfl, ?_⟩
 refine ⟨fun μ σ H' => ∃ q r : Int, σ = [some (.ref t₁), some (.int m), some (.ref s₁), some (.int p), none, none, none] /\ H' = upd H t₁ (.lst [.ref s₁, .int (p + 1), .int q, .int r]) /\ 0 ≤ q /\ 0 ≤ r /\ μ = ns.length - r.toNat, ⟨_, q₀, r₀, rfl, rfl, hq0, hr0, rfl⟩, ?_⟩
 rintro μ σ H' ⟨q, r, rfl, rfl, hq, hr', rfl⟩
 refine ⟨_, rfl, t₁, _, _, _, rfl, rfl, SqL.of upd_same, rfl, rfl, _, rfl, ?_⟩
 by_cases c : q = 0 /\ r < (ns.length : Int)
 ·obtain ⟨c1, c2⟩ := c
  subst c1
  refine iteD1 rfl ?_
  refine ⟨_, rfl, t₁, _, _, _, rfl, rfl, SqL.of upd_same, rfl, _, rfl, s₁, _, rfl, .inl (SqL.of (hs' _)), _, _, rfl, rfl, _, rfl, ?_⟩
  refine iteD1 (by rw [hl]; exact c2) ?_
  refine ⟨_, fun _ _ z => z, ?_⟩
  obtain ⟨z, hz⟩ := pickI (ns := ns) hr' c2
  refine ⟨_, rfl, _, rfl, t₁, _, _, _, rfl, rfl, SqL.of upd_same, rfl, s₁, _, _, _, rfl, rfl, SqL.of (hs' _), hz, _, rfl, _, _, rfl, rfl, ⟨by decide, by decide, by decide⟩, _, _, rfl, rfl, _, rfl, ?_⟩
  refine ite2 (fun _ => ?_) (fun _ => ?_)
  ·refine ⟨_, rfl, _, rfl, t₁, _, _, _, rfl, rfl, SqL.of upd_same, rfl, s₁, _, _, _, rfl, rfl, SqL.of (hs' _), hz, _, rfl, _, rfl, t₁, _, _, _, rfl, rfl, upd_same, rfl, ?_⟩
   rw [upd_upd]
   refine ⟨_, rfl, t₁, _, _, _, rfl, rfl, SqL.of upd_same, rfl, _, _, rfl, rfl, _, rfl, t₁, _, _, _, rfl, rfl, upd_same, rfl, ?_⟩
   rw [upd_upd]
   exact ⟨_, by omega, _, r + 1, rfl, rfl, by split <;> omega, by omega, rfl⟩
  ·refine ⟨_, rfl, t₁, _, _, _, rfl, rfl, SqL.of upd_same, rfl, _, _, rfl, rfl, _, rfl, t₁, _, _, _, rfl, rfl, upd_same, rfl, ?_⟩
   rw [upd_upd]
   exact ⟨_, by omega, 0, r + 1, rfl, rfl, by omega, by omega, rfl⟩
 by_cases c1 : q = 0
 ·refine iteD1 (by rw [c1]) ?_
  refine ⟨_, rfl, t₁, _, _, _, rfl, rfl, SqL.of upd_same, rfl, _, rfl, s₁, _, rfl, .inl (SqL.of (hs' _)), _, _, rfl, rfl, _, rfl, ?_⟩
  refine iteD0 (by rw [hl]; exact fun z => c ⟨c1, z⟩) ?_
  refine ⟨_, rfl, t₁, _, _, _, rfl, rfl, SqL.of upd_same, rfl, _, _, rfl, rfl, _, rfl, ?_⟩
  refine ite2 (fun _ => ?_) (fun _ => ?_)
  ·refine ⟨_, rfl, t₁, _, _, _, rfl, rfl, SqL.of upd_same, rfl, ?_⟩
   refine ⟨_, rfl, _, rfl, _, _, rfl, rfl, ⟨hm0, hm1⟩, _, rfl, t₁, _, _, _, rfl, rfl, upd_same, rfl, ?_⟩
   refine ⟨_, rfl, _, rfl, _, _, rfl, rfl, hm0, ?_⟩
   rw [upd_upd]
   exact k _ _ (Int.emod_nonneg _ (by omega)) (Int.emod_lt_of_pos _ hm0) (tap (q / m) r (Int.ediv_nonneg hq (by omega)) hr')
  ·refine ⟨_, rfl, s₁, _, rfl, .inl (SqL.of (hs' _)), _, _, rfl, rfl, _, rfl, ?_⟩
   refine ite2 (fun c9 => ?_) (fun _ => ?_)
   ·have c8 : (0 : Int) < (ns.length : Int) := by
     have c7 : (0 : Int) < ((ns.map V.int).length : Int) := of_decide_eq_true c9
     rw [hl] at c7; exact c7
    obtain ⟨z, hz⟩ := pickI (ns := ns) (r := p % (ns.length : Int)) (Int.emod_nonneg _ (by omega)) (Int.emod_lt_of_pos _ c8)
    rw [← hl] at hz c8
    refine ⟨_, rfl, _, rfl, _, rfl, s₁, _, rfl, .inl (SqL.of (hs' _)), _, _, rfl, rfl, c8, s₁, _, _, _, rfl, rfl, SqL.of (hs' _), hz, ?_⟩
    refine ⟨_, rfl, _, _, rfl, rfl, (by show (0 : Int) < _; decide), _, _, rfl, rfl, _, rfl, _, _, rfl, rfl, (by show (0 : Int) < _; decide), _, _, rfl, rfl, .inl ⟨by omega, by omega⟩, _, _, rfl, rfl, _, rfl, _, _, rfl, rfl, _, _, rfl, rfl, .inl ⟨by omega, by omega⟩, _, _, rfl, rfl, (by show (0 : Int) < _; decide), ?_⟩
    refine ⟨_, rfl, _, rfl, _, _, rfl, rfl, .inl ⟨by omega, by omega⟩, _, rfl, _, _, rfl, rfl, .inl ⟨by omega, by omega⟩, _, _, rfl, rfl, _, rfl, _, _, rfl, rfl, _, _, rfl, rfl, (by show (0 : Int) < _; decide), ?_⟩
    refine ⟨_, rfl, _, _, rfl, rfl, .inl ⟨by omega, by omega⟩, _, _, rfl, rfl, (by show (0 : Int) < _; decide), _, rfl, _, _, rfl, rfl, hm0, ?_⟩
    exact k _ _ (Int.emod_nonneg _ (by omega)) (Int.emod_lt_of_pos _ hm0) (tap q r hq hr')
   ·refine ⟨_, rfl, _, _, rfl, rfl, (by show (0 : Int) < _; decide), _, _, rfl, rfl, _, rfl, _, _, rfl, rfl, (by show (0 : Int) < _; decide), _, _, rfl, rfl, .inl ⟨by omega, by omega⟩, _, _, rfl, rfl, _, rfl, _, _, rfl, rfl, _, _, rfl, rfl, .inl ⟨by omega, by omega⟩, _, _, rfl, rfl, (by show (0 : Int) < _; decide), ?_⟩
    refine ⟨_, rfl, _, rfl, _, _, rfl, rfl, .inl ⟨by omega, by omega⟩, _, rfl, _, _, rfl, rfl, .inl ⟨by omega, by omega⟩, _, _, rfl, rfl, _, rfl, _, _, rfl, rfl, _, _, rfl, rfl, (by show (0 : Int) < _; decide), ?_⟩
    refine ⟨_, rfl, _, _, rfl, rfl, .inl ⟨by omega, by omega⟩, _, _, rfl, rfl, (by show (0 : Int) < _; decide), _, rfl, _, _, rfl, rfl, hm0, ?_⟩
    exact k _ _ (Int.emod_nonneg _ (by omega)) (Int.emod_lt_of_pos _ hm0) (tap q r hq hr')
 ·refine iteD0 (fun z => c1 (by injection z)) (iteF ?_)
  refine ⟨_, rfl, t₁, _, _, _, rfl, rfl, SqL.of upd_same, rfl, _, _, rfl, rfl, _, rfl, ?_⟩
  refine ite2 (fun _ => ?_) (fun _ => ?_)
  ·refine ⟨_, rfl, t₁, _, _, _, rfl, rfl, SqL.of upd_same, rfl, ?_⟩
   refine ⟨_, rfl, _, rfl, _, _, rfl, rfl, ⟨hm0, hm1⟩, _, rfl, t₁, _, _, _, rfl, rfl, upd_same, rfl, ?_⟩
   refine ⟨_, rfl, _, rfl, _, _, rfl, rfl, hm0, ?_⟩
   rw [upd_upd]
   exact k _ _ (Int.emod_nonneg _ (by omega)) (Int.emod_lt_of_pos _ hm0) (tap (q / m) r (Int.ediv_nonneg hq (by omega)) hr')
  ·refine ⟨_, rfl, s₁, _, rfl, .inl (SqL.of (hs' _)), _, _, rfl, rfl, _, rfl, ?_⟩
   refine ite2 (fun c9 => ?_) (fun _ => ?_)
   ·have c8 : (0 : Int) < (ns.length : Int) := by
     have c7 : (0 : Int) < ((ns.map V.int).length : Int) := of_decide_eq_true c9
     rw [hl] at c7; exact c7
    obtain ⟨z, hz⟩ := pickI (ns := ns) (r := p % (ns.length : Int)) (Int.emod_nonneg _ (by omega)) (Int.emod_lt_of_pos _ c8)
    rw [← hl] at hz c8
    refine ⟨_, rfl, _, rfl, _, rfl, s₁, _, rfl, .inl (SqL.of (hs' _)), _, _, rfl, rfl, c8, s₁, _, _, _, rfl, rfl, SqL.of (hs' _), hz, ?_⟩
    refine ⟨_, rfl, _, _, rfl, rfl, (by show (0 : Int) < _; decide), _, _, rfl, rfl, _, rfl, _, _, rfl, rfl, (by show (0 : Int) < _; decide), _, _, rfl, rfl, .inl ⟨by omega, by omega⟩, _, _, rfl, rfl, _, rfl, _, _, rfl, rfl, _, _, rfl, rfl, .inl ⟨by omega, by omega⟩, _, _, rfl, rfl, (by show (0 : Int) < _; decide), ?_⟩
    refine ⟨_, rfl, _, rfl, _, _, rfl, rfl, .inl ⟨by omega, by omega⟩, _, rfl, _, _, rfl, rfl, .inl ⟨by omega, by omega⟩, _, _, rfl, rfl, _, rfl, _, _, rfl, rfl, _, _, rfl, rfl, (by show (0 : Int) < _; decide), ?_⟩
    refine ⟨_, rfl, _, _, rfl, rfl, .inl ⟨by omega, by omega⟩, _, _, rfl, rfl, (by show (0 : Int) < _; decide), _, rfl, _, _, rfl, rfl, hm0, ?_⟩
    exact k _ _ (Int.emod_nonneg _ (by omega)) (Int.emod_lt_of_pos _ hm0) (tap q r hq hr')
   ·refine ⟨_, rfl, _, _, rfl, rfl, (by show (0 : Int) < _; decide), _, _, rfl, rfl, _, rfl, _, _, rfl, rfl, (by show (0 : Int) < _; decide), _, _, rfl, rfl, .inl ⟨by omega, by omega⟩, _, _, rfl, rfl, _, rfl, _, _, rfl, rfl, _, _, rfl, rfl, .inl ⟨by omega, by omega⟩, _, _, rfl, rfl, (by show (0 : Int) < _; decide), ?_⟩
    refine ⟨_, rfl, _, rfl, _, _, rfl, rfl, .inl ⟨by omega, by omega⟩, _, rfl, _, _, rfl, rfl, .inl ⟨by omega, by omega⟩, _, _, rfl, rfl, _, rfl, _, _, rfl, rfl, _, _, rfl, rfl, (by show (0 : Int) < _; decide), ?_⟩
    refine ⟨_, rfl, _, _, rfl, rfl, .inl ⟨by omega, by omega⟩, _, _, rfl, rfl, (by show (0 : Int) < _; decide), _, rfl, _, _, rfl, rfl, hm0, ?_⟩
    exact k _ _ (Int.emod_nonneg _ (by omega)) (Int.emod_lt_of_pos _ hm0) (tap q r hq hr')
theorem ok_Q18 (T : Txt K mg t) : FnOk P w K mg base CX0 1 t.a_Q18 t.d_Q18 ["_law_one", "_law_other"] (sp_law_gcd K) := by
 refine T.F_Q18.ok sc_Q18 (fun vs H Q E h => ?_) (fun cdv A outer s H vs Q E hr h => ?_)
 ·obtain ⟨_, _, rfl, _⟩ := h; rfl
 obtain ⟨a, b, rfl, ha, hb, k⟩ := h
 refine QSs.ok (qss_cons (qs_while PassesOwn.never (qt_cmpR op_ne (qv 1) qe_int (nomark _))
   (qss_one (qs_par (i := 0) (j := 1) rfl sc_Q18.nd rfl rfl (by decide) rfl rfl (qa_cons (qv 1) (qa_cons (qe_op op_mod (qv 0) (qv 1)) qa_nil star_bin) star_name) rfl)))
   (qss_one (qs_ret (qv 0)))) ?_
 refine ⟨fun m σ H' => ∃ (x y : Int), σ = [some (.int x), some (.int y)] /\ H' = H /\ 0 ≤ x /\ 0 ≤ y /\ Int.gcd x y = Int.gcd a b /\ m = y.toNat, ⟨_, _, _, rfl, rfl, ha, hb, rfl, rfl⟩, ?_⟩
 rintro m σ H' ⟨x, y, rfl, rfl, hx, hy, hg, rfl⟩
 refine ⟨_, rfl, rfl, _, rfl, ?_⟩
 by_cases c : y = 0
 ·subst c
  refine iteNS rfl ?_
  rw [← hg] at k
  refine ⟨_, rfl, ?_⟩
  have e : (x : Int) = (Int.gcd x 0 : Nat) := by simp [Int.gcd]; omega
  rw [← e] at k
  exact k
 ·refine iteN1 (fun z => c (by injection z)) ?_
  refine ⟨_, fun _ _ z => z, ?_⟩
  refine ⟨_, rfl, _, rfl, _, rfl, _, _, rfl, rfl, (by omega), _, _, rfl, ?_⟩
  refine ⟨_, ?_, y, x % y, rfl, rfl, hy, Int.emod_nonneg _ c, ?_, rfl⟩
  ·have := Int.emod_lt_of_pos x (show 0 < y by omega)
   have := Int.emod_nonneg x c
   omega
  ·rw [gcd_turn hx (by omega), hg]
theorem ok_Q4 (T : Txt K mg t) : FnOk P w K mg base CX0 2 t.a_Q4 t.d_Q4 ["_law_top", "_law_bottom"] (sp_law_ratio K) := by
 refine T.F_Q4.ok sc_Q4 (fun vs H Q E h => ?_) (fun cdv A outer s H vs Q E hr h => ?_)
 ·obtain ⟨_, _, rfl, _⟩ := h; rfl
 obtain ⟨a, b, rfl, hb, hz, k⟩ := h
 refine QSs.ok (qss_cons (qsA 2 sc_Q4.nd (qcA (ok_Q18 T) hr T.m_Q18 T.F_Q18.kp T.b_Q18 (qa_cons (qe_callB call_abs (by rfl) T.z_abs boot_abs (qa_cons (qv 0) qa_nil star_name)) (qa_cons (qe_callB call_abs (by rfl) T.z_abs boot_abs (qa_cons (qv 1) qa_nil star_name)) qa_nil star_call) star_call)))
   (qss_cons (qs_if (qt_cmpR op_lt (qv 1) qe_int (nomark _)) (qss_one (qsA 2 sc_Q4.nd (qe_un un_neg (qv 2)))) qss_nil)
   (qss_one (qs_ret (qe_tup (qa_cons (qe_op op_quoN (qv 0) (qv 2)) (qa_cons (qe_op op_quoN (qv 1) (qv 2)) qa_nil star_bin) star_bin)))))) ?_
 have gp := gcd_posN (a := a) hb
 have gb := gcd_big (a := a) hb hz
 refine ⟨_, rfl, _, rfl, _, rfl, _, rfl, _, _, rfl, (by split <;> omega), (by split <;> omega), ?_⟩
 rw [abs_if, abs_if]
 have eg : Int.gcd (a.natAbs : Int) (b.natAbs : Int) = Int.gcd a b := by simp [Int.gcd]
 rw [eg]
 refine ⟨_, rfl, _, _, rfl, rfl, _, rfl, ?_⟩
 by_cases hn : b < 0
 ·refine iteD1 hn ?_
  rw [← mkS_neg1 hn] at k
  have gm : (-((Int.gcd a b : Nat) : Int)).natAbs < 2 ^ 4000 := by rw [Int.natAbs_neg]; exact gb
  refine ⟨_, rfl, _, rfl, ?_⟩
  refine ⟨_, rfl, _, rfl, _, _, rfl, rfl, ⟨by omega, gm⟩, _, rfl, _, rfl, _, _, rfl, rfl, ⟨by omega, gm⟩, zl2, fun p hp => ?_⟩
  exact k p hp
 ·refine iteD0 hn ?_
  rw [← mkS_pos1 (by omega : 0 < b)] at k
  refine ⟨_, rfl, _, rfl, _, _, rfl, rfl, ⟨by omega, gb⟩, _, rfl, _, rfl, _, _, rfl, rfl, ⟨by omega, gb⟩, zl2, fun p hp => ?_⟩
  exact k p hp
theorem ok_Q12 (T : Txt K mg t) : FnOk P w K mg base CX0 3 t.a_Q12 t.d_Q12 ["_law_one", "_law_other"] (sp_law_plus K) := by
 refine T.F_Q12.ok sc_Q12 (fun vs H Q E h => ?_) (fun cdv A outer s H vs Q E hr h => ?_)
 ·obtain ⟨_, _, _, _, _, _, rfl, _⟩ := h; rfl
 obtain ⟨v, w, r, q, n, m, rfl, hv, hw, wr, wq, hz, k⟩ := h
 refine QSs.ok (qss_one (qs_ret (qcA (ok_Q4 T) hr T.m_Q4 T.F_Q4.kp T.b_Q4 (qa_cons (qe_op op_add (qe_op op_mulB (qxA ix_tup (qv 0) qe_int) (qxA ix_tup (qv 1) qe_int)) (qe_op op_mulB (qxA ix_tup (qv 1) qe_int) (qxA ix_tup (qv 0) qe_int))) (qa_cons (qe_op op_mulB (qxA ix_tup (qv 0) qe_int) (qxA ix_tup (qv 1) qe_int)) qa_nil star_bin) star_bin)))) ?_
 obtain ⟨p, rfl, hv⟩ := hv
 obtain ⟨p', rfl, hw⟩ := hw
 have c1 := big_of wr.top (show n ≤ 4000 by omega)
 have c2 := big_of wr.bot (show n ≤ 4000 by omega)
 have c3 := big_of wq.top (show m ≤ 4000 by omega)
 have c4 := big_of wq.bot (show m ≤ 4000 by omega)
 have bp := Int.mul_pos wr.pos wq.pos
 refine ⟨_, rfl, p, _, _, _, rfl, rfl, hv, rfl, _, rfl, p', _, _, _, rfl, rfl, hw, rfl, _, _, rfl, rfl, ⟨c1, c4⟩, _, rfl, p', _, _, _, rfl, rfl, hw, rfl, _, rfl, p, _, _, _, rfl, rfl, hv, rfl, _, _, rfl, rfl, ⟨c3, c2⟩, _, _, rfl, rfl, _, rfl, p, _, _, _, rfl, rfl, hv, rfl, _, rfl, p', _, _, _, rfl, rfl, hw, rfl, _, _, rfl, rfl, ⟨c2, c4⟩, _, _, rfl, Int.ne_of_gt bp, big_of (mul_lt wr.bot wq.bot) (by omega), (by rw [mkS_pos bp]; exact k)⟩
theorem ok_Q5 (T : Txt K mg t) : FnOk P w K mg base CX0 3 t.a_Q5 t.d_Q5 ["_law_one", "_law_other"] (sp_law_minus K) := by
 refine T.F_Q5.ok sc_Q5 (fun vs H Q E h => ?_) (fun cdv A outer s H vs Q E hr h => ?_)
 ·obtain ⟨_, _, _, _, _, _, rfl, _⟩ := h; rfl
 obtain ⟨v, w, r, q, n, m, rfl, hv, hw, wr, wq, hz, k⟩ := h
 refine QSs.ok (qss_one (qs_ret (qcA (ok_Q4 T) hr T.m_Q4 T.F_Q4.kp T.b_Q4 (qa_cons (qe_op op_sub (qe_op op_mulB (qxA ix_tup (qv 0) qe_int) (qxA ix_tup (qv 1) qe_int)) (qe_op op_mulB (qxA ix_tup (qv 1) qe_int) (qxA ix_tup (qv 0) qe_int))) (qa_cons (qe_op op_mulB (qxA ix_tup (qv 0) qe_int) (qxA ix_tup (qv 1) qe_int)) qa_nil star_bin) star_bin)))) ?_
 obtain ⟨p, rfl, hv⟩ := hv
 obtain ⟨p', rfl, hw⟩ := hw
 have c1 := big_of wr.top (show n ≤ 4000 by omega)
 have c2 := big_of wr.bot (show n ≤ 4000 by omega)
 have c3 := big_of wq.top (show m ≤ 4000 by omega)
 have c4 := big_of wq.bot (show m ≤ 4000 by omega)
 have bp := Int.mul_pos wr.pos wq.pos
 refine ⟨_, rfl, p, _, _, _, rfl, rfl, hv, rfl, _, rfl, p', _, _, _, rfl, rfl, hw, rfl, _, _, rfl, rfl, ⟨c1, c4⟩, _, rfl, p', _, _, _, rfl, rfl, hw, rfl, _, rfl, p, _, _, _, rfl, rfl, hv, rfl, _, _, rfl, rfl, ⟨c3, c2⟩, _, _, rfl, rfl, _, rfl, p, _, _, _, rfl, rfl, hv, rfl, _, rfl, p', _, _, _, rfl, rfl, hw, rfl, _, _, rfl, rfl, ⟨c2, c4⟩, _, _, rfl, Int.ne_of_gt bp, big_of (mul_lt wr.bot wq.bot) (by omega), (by rw [mkS_pos bp]; exact k)⟩
theorem ok_Q6 (T : Txt K mg t) : FnOk P w K mg base CX0 3 t.a_Q6 t.d_Q6 ["_law_one", "_law_other"] (sp_law_times K) := by
 refine T.F_Q6.ok sc_Q6 (fun vs H Q E h => ?_) (fun cdv A outer s H vs Q E hr h => ?_)
 ·obtain ⟨_, _, _, _, _, _, rfl, _⟩ := h; rfl
 obtain ⟨v, w, r, q, n, m, rfl, hv, hw, wr, wq, hz, k⟩ := h
 refine QSs.ok (qss_one (qs_ret (qcA (ok_Q4 T) hr T.m_Q4 T.F_Q4.kp T.b_Q4 (qa_cons (qe_op op_mulB (qxA ix_tup (qv 0) qe_int) (qxA ix_tup (qv 1) qe_int)) (qa_cons (qe_op op_mulB (qxA ix_tup (qv 0) qe_int) (qxA ix_tup (qv 1) qe_int)) qa_nil star_bin) star_bin)))) ?_
 obtain ⟨p, rfl, hv⟩ := hv
 obtain ⟨p', rfl, hw⟩ := hw
 have c1 := big_of wr.top (show n ≤ 4000 by omega)
 have c2 := big_of wr.bot (show n ≤ 4000 by omega)
 have c3 := big_of wq.top (show m ≤ 4000 by omega)
 have c4 := big_of wq.bot (show m ≤ 4000 by omega)
 have bp := Int.mul_pos wr.pos wq.pos
 refine ⟨_, rfl, p, _, _, _, rfl, rfl, hv, rfl, _, rfl, p', _, _, _, rfl, rfl, hw, rfl, _, _, rfl, rfl, ⟨c1, c3⟩, _, rfl, p, _, _, _, rfl, rfl, hv, rfl, _, rfl, p', _, _, _, rfl, rfl, hw, rfl, _, _, rfl, rfl, ⟨c2, c4⟩, _, _, rfl, Int.ne_of_gt bp, big_of (mul_lt wr.bot wq.bot) (by omega), (by rw [mkS_pos bp]; exact k)⟩
theorem ok_Q13 (T : Txt K mg t) : FnOk P w K mg base CX0 3 t.a_Q13 t.d_Q13 ["_law_one", "_law_other"] (sp_law_over K) := by
 refine T.F_Q13.ok sc_Q13 (fun vs H Q E h => ?_) (fun cdv A outer s H vs Q E hr h => ?_)
 ·obtain ⟨_, _, _, _, _, _, rfl, _⟩ := h; rfl
 obtain ⟨v, w, r, q, n, m, rfl, hv, hw, wr, wq, hz, hq, k⟩ := h
 refine QSs.ok (qss_one (qs_ret (qcA (ok_Q4 T) hr T.m_Q4 T.F_Q4.kp T.b_Q4 (qa_cons (qe_op op_mulB (qxA ix_tup (qv 0) qe_int) (qxA ix_tup (qv 1) qe_int)) (qa_cons (qe_op op_mulB (qxA ix_tup (qv 0) qe_int) (qxA ix_tup (qv 1) qe_int)) qa_nil star_bin) star_bin)))) ?_
 obtain ⟨p, rfl, hv⟩ := hv
 obtain ⟨p', rfl, hw⟩ := hw
 have c1 := big_of wr.top (show n ≤ 4000 by omega)
 have c2 := big_of wr.bot (show n ≤ 4000 by omega)
 have c3 := big_of wq.top (show m ≤ 4000 by omega)
 have c4 := big_of wq.bot (show m ≤ 4000 by omega)
 have bn : r.2 * q.1 ≠ 0 := Int.mul_ne_zero (by have := wr.pos; omega) hq
 refine ⟨_, rfl, p, _, _, _, rfl, rfl, hv, rfl, _, rfl, p', _, _, _, rfl, rfl, hw, rfl, _, _, rfl, rfl, ⟨c1, c4⟩, _, rfl, p, _, _, _, rfl, rfl, hv, rfl, _, rfl, p', _, _, _, rfl, rfl, hw, rfl, _, _, rfl, rfl, ⟨c2, c3⟩, _, _, rfl, bn, big_of (mul_lt wr.bot wq.top) (by omega), k⟩
theorem ok_Q14 (T : Txt K mg t) : FnOk P w K mg base CX0 1 t.a_Q14 t.d_Q14 ["_law_one", "_law_other"] (sp_law_less K) := by
 refine T.F_Q14.ok sc_Q14 (fun vs H Q E h => ?_) (fun cdv A outer s H vs Q E hr h => ?_)
 ·obtain ⟨_, _, _, _, _, _, rfl, _⟩ := h; rfl
 obtain ⟨v, w, r, q, n, m, rfl, hv, hw, wr, wq, hz, k⟩ := h
 refine QSs.ok (qss_one (qs_ret (qe_cmpR op_lt (qe_op op_mulB (qxA ix_tup (qv 0) qe_int) (qxA ix_tup (qv 1) qe_int)) (qe_op op_mulB (qxA ix_tup (qv 1) qe_int) (qxA ix_tup (qv 0) qe_int)) (nomark _)))) ?_
 obtain ⟨p, rfl, hv⟩ := hv
 obtain ⟨p', rfl, hw⟩ := hw
 have c1 := big_of wr.top (show n ≤ 4000 by omega)
 have c2 := big_of wr.bot (show n ≤ 4000 by omega)
 have c3 := big_of wq.top (show m ≤ 4000 by omega)
 have c4 := big_of wq.bot (show m ≤ 4000 by omega)
 refine ⟨_, rfl, p, _, _, _, rfl, rfl, hv, rfl, _, rfl, p', _, _, _, rfl, rfl, hw, rfl, _, _, rfl, rfl, ⟨c1, c4⟩, _, rfl, p', _, _, _, rfl, rfl, hw, rfl, _, rfl, p, _, _, _, rfl, rfl, hv, rfl, _, _, rfl, rfl, ⟨c3, c2⟩, _, _, rfl, rfl, k⟩
theorem ok_Q19 (T : Txt K mg t) : FnOk P w K mg base CX0 4 t.a_Q19 t.d_Q19 ["_law_some"] (sp_law_sum K) := by
 refine T.F_Q19.ok sc_Q19 (fun vs H Q E h => ?_) (fun cdv A outer s H vs Q E hr h => ?_)
 ·obtain ⟨_, _, _, _, _, rfl, _⟩ := h; rfl
 obtain ⟨a, xs, rs, D, N, rfl, hS, al, bq, hD, hl, hd1, hd2, k⟩ := h
 refine QSs.ok (qss_cons (qsA 1 sc_Q19.nd (qe_tup (qa_cons qe_int (qa_cons qe_int qa_nil star_con) star_con)))
   (qss_cons (qs_for PassesOwn.never rfl (qi_list (qv 0)) (qg_name (i := 2) sc_Q19.nd rfl (by first | exact Or.inl rfl | exact Or.inr rfl))
   (qss_one (qsA 1 sc_Q19.nd (qcA (ok_Q12 T) hr T.m_Q12 T.F_Q12.kp T.b_Q12 (qa_cons (qv 1) (qa_cons (qv 2) qa_nil star_name) star_name)))))
   (qss_one (qs_ret (qv 1))))) ?_
 have hlen := al.len
 refine ⟨zl2, fun p0 hp0 => ?_⟩
 have s0 := same_new hp0 (.tup [.int 0, .int 1])
 refine ⟨_, rfl, a, rfl, ⟨_, s0.seq hS⟩, for_list (K := K) (a := a) (xs := xs) (fun i σ H' => ∃ (u : V) (x3 : Option V), σ = [some (.ref a), some u, x3] /\ Same H H' /\ RV K H' u (sumR (rs.take i))) ⟨_, none, rfl, s0, RV.of upd_same⟩ (fun i σ H1 _ ⟨_, _, _, s1, _⟩ => s1.seq hS) ?_ ?_⟩
 ·rintro i y σ H1 hi ⟨u, x3, rfl, s1, ru⟩
  obtain ⟨r, hr, rv⟩ := al.at hi
  have br := bq r (List.mem_of_getElem? hr)
  have hil := (List.getElem?_eq_some_iff.mp hr).1
  have e : sumR (rs.take (i + 1)) = plusR (sumR (rs.take i)) r := by
   unfold sumR
   rw [List.take_add_one, hr, List.foldl_append]
   rfl
  have bs : Bq D (N * (rs.take i).length) (sumR (rs.take i)) := sumR_bq hD fun q hq => bq q (List.mem_of_mem_take hq)
  have l1 : (rs.take i).length ≤ 64 := by rw [List.length_take]; omega
  have wu : Wf 1400 (sumR (rs.take i)) := (bs.mono (Nat.dvd_refl _) (Nat.mul_le_mul_left N l1)).wf hD hd1 hd2
  have wr : Wf 1400 r := (br.mono (Nat.dvd_refl _) (Nat.le_mul_of_pos_right N (by decide : 0 < 64))).wf hD hd1 hd2
  refine ⟨_, rfl, _, rfl, u, y, sumR (rs.take i), r, 1400, 1400, rfl, ru, rv.mono (Tst.same s1), wu, wr, by decide, fun p hp => ?_⟩
  have s2 := same_new hp (.tup [.int (plusR (sumR (rs.take i)) r).1, .int (plusR (sumR (rs.take i)) r).2])
  refine ⟨_, _, rfl, s1.trans s2, ?_⟩
  rw [e]; exact RV.of upd_same
 ·rintro σ H1 ⟨u, x3, rfl, s1, ru⟩
  rw [hlen, List.take_length] at ru
  exact ⟨_, rfl, k u H1 s1 ru⟩
theorem ok_Q15 (T : Txt K mg t) : FnOk P w K mg base CX0 3 t.a_Q15 t.d_Q15 ["_law_tape_here"] (sp_law_part K) := by
 refine T.F_Q15.ok sc_Q15 (fun vs H Q E h => ?_) (fun cdv A outer s H vs Q E hr h => ?_)
 ·obtain ⟨_, _, rfl, _⟩ := h; rfl
 obtain ⟨t₁, s₀, rfl, T0, k⟩ := h
 refine QSs.ok (qss_cons (qsA 1 sc_Q15.nd (qe_lst (qa_cons qe_int (qa_cons qe_int (qa_cons qe_int (qa_cons qe_int (qa_cons (qe_op op_add qe_int (qcA (ok_Q11 T) hr T.m_Q11 T.F_Q11.kp T.b_Q11 (qa_cons (qv 0) (qa_cons qe_int qa_nil star_con) star_name))) (qa_cons (qe_op op_add qe_int (qcA (ok_Q11 T) hr T.m_Q11 T.F_Q11.kp T.b_Q11 (qa_cons (qv 0) (qa_cons qe_int qa_nil star_con) star_name))) (qa_cons (qe_op op_add (qe_op op_pow qe_int qe_int) qe_int) qa_nil star_bin) star_bin) star_bin) star_con) star_con) star_con) star_con)))
   (qss_cons (qsA 2 sc_Q15.nd (qe_lst (qa_cons qe_int (qa_cons qe_int (qa_cons qe_int (qa_cons qe_int (qa_cons qe_int (qa_cons qe_int (qa_cons (qe_op op_add qe_int (qcA (ok_Q11 T) hr T.m_Q11 T.F_Q11.kp T.b_Q11 (qa_cons (qv 0) (qa_cons qe_int qa_nil star_con) star_name))) (qa_cons (qe_op op_pow qe_int qe_int) qa_nil star_bin) star_bin) star_con) star_con) star_con) star_con) star_con) star_con)))
   (qss_one (qs_ret (qcA (ok_Q4 T) hr T.m_Q4 T.F_Q4.kp T.b_Q4 (qa_cons (qxA ix_list (qv 1) (qcA (ok_Q11 T) hr T.m_Q11 T.F_Q11.kp T.b_Q11 (qa_cons (qv 0) (qa_cons qe_int qa_nil star_con) star_name))) (qa_cons (qxA ix_list (qv 2) (qcA (ok_Q11 T) hr T.m_Q11 T.F_Q11.kp T.b_Q11 (qa_cons (qv 0) (qa_cons qe_int qa_nil star_con) star_name))) qa_nil star_sub) star_sub)))))) ?_
 refine ⟨_, rfl, t₁, s₀, 40, rfl, T0, by decide, by decide, fun r1 x1 a1 b1 T1 => ⟨_, _, rfl, rfl, _, rfl, t₁, s₀, 60000, rfl, T1, by decide, by decide, fun r2 x2 a2 b2 T2 => ⟨_, _, rfl, rfl, _, _, rfl, rfl, ⟨by decide, by decide, by decide⟩, _, _, rfl, rfl, zl7, fun l1 g1 => ?_⟩⟩⟩
 have T3 := T2.new g1 (.lst [.int 1, .int 2, .int 3, .int 5, .int (1 + r1), .int (1 + r2), .int (10 ^ 9 + 7)])
 refine ⟨_, rfl, t₁, s₀, 30, rfl, T3, by decide, by decide, fun r3 x3 a3 b3 T4 => ⟨_, _, rfl, rfl, _, _, rfl, rfl, ⟨by decide, by decide, by decide⟩, zl8, fun l2 g2 => ?_⟩⟩
 have T5 := T4.new g2 (.lst [.int 1, .int 1, .int 1, .int 2, .int 3, .int 6, .int (1 + r3), .int (10 ^ 9)])
 have n1 : l1 ≠ t₁ := fun z => by subst z; obtain ⟨_, e⟩ := T2.lst; rw [g1] at e; cases e
 have n2 : l2 ≠ t₁ := fun z => by subst z; obtain ⟨_, e⟩ := T4.lst; rw [g2] at e; cases e
 have n3 : l1 ≠ l2 := fun z => by subst z; rw [upd_ne n1, upd_same] at g2; cases g2
 refine ⟨_, rfl, _, rfl, t₁, s₀, 7, rfl, T5, by decide, by decide, fun r4 x4 a4 b4 T6 => ?_⟩
 obtain ⟨v1, hv1, m1⟩ := pick (xs := [.int 1, .int 2, .int 3, .int 5, .int (1 + r1), .int (1 + r2), .int (10 ^ 9 + 7)]) a4 b4
 refine ⟨l1, _, _, v1, rfl, rfl, SqL.of (by rw [upd_ne n1, upd_ne n3, upd_ne n1, upd_same] <;> rfl), hv1, ?_⟩
 refine ⟨_, rfl, _, rfl, t₁, s₀, 8, rfl, T6, by decide, by decide, fun r5 x5 a5 b5 T7 => ?_⟩
 obtain ⟨v2, hv2, m2⟩ := pick (xs := [.int 1, .int 1, .int 1, .int 2, .int 3, .int 6, .int (1 + r3), .int (10 ^ 9)]) a5 b5
 refine ⟨l2, _, _, v2, rfl, rfl, SqL.of (by rw [upd_ne n2, upd_ne n2, upd_same] <;> rfl), hv2, ?_⟩
 obtain ⟨z1, rfl, p1, q1⟩ : ∃ z : Int, v1 = .int z /\ 0 < z /\ z ≤ 1000000007 := by
  simp only [List.mem_cons, List.not_mem_nil, or_false] at m1
  rcases m1 with e | e | e | e | e | e | e
  all_goals exact ⟨_, e, by omega, by omega⟩
 obtain ⟨z2, rfl, p2, q2, d2⟩ : ∃ z : Int, v2 = .int z /\ 0 < z /\ z < 2 ^ 31 /\ z ∣ (D0 : Int) := by
  simp only [List.mem_cons, List.not_mem_nil, or_false] at m2
  rcases m2 with e | e | e | e | e | e | e | e
  ·exact ⟨_, e, by decide, by decide, by decide⟩
  ·exact ⟨_, e, by decide, by decide, by decide⟩
  ·exact ⟨_, e, by decide, by decide, by decide⟩
  ·exact ⟨_, e, by decide, by decide, by decide⟩
  ·exact ⟨_, e, by decide, by decide, by decide⟩
  ·exact ⟨_, e, by decide, by decide, by decide⟩
  ·exact ⟨_, e, by omega, by omega, div30 a3 b3⟩
  ·exact ⟨_, e, by decide, by decide, by decide⟩
 have w2 : z2.natAbs < 2 ^ 31 := by omega
 refine ⟨z1, z2, rfl, by omega, big_of w2 (by decide), ?_⟩
 rw [mkS_pos p2]
 intro p hp
 have S := (((((((Step.up (ys := x1) T0.lst.choose_spec).trans (Step.up (ys := x2) upd_same)).trans (Step.new ⟨_, upd_same⟩ g1 _)).trans (Step.up (ys := x3) T3.lst.choose_spec)).trans (Step.new T4.lst g2 _)).trans (Step.up (ys := x4) T5.lst.choose_spec)).trans (Step.up (ys := x5) T6.lst.choose_spec)).trans (Step.new T7.lst hp (.tup [.int (mkR z1 z2).1, .int (mkR z1 z2).2]))
 exact k _ (mkR z1 z2) _ (part_ok p1 q1 p2 d2) S (T7.new hp _) (RV.of upd_same)
theorem ok_Q7 (T : Txt K mg t) : FnOk P w K mg base CX0 4 t.a_Q7 t.d_Q7 ["_law_tape_here"] (sp_law_table K) := by
 refine T.F_Q7.ok sc_Q7 (fun vs H Q E h => ?_) (fun cdv A outer s H vs Q E hr h => ?_)
 ·obtain ⟨_, _, rfl, _⟩ := h; rfl
 obtain ⟨t₁, s₀, rfl, T0, k⟩ := h
 refine QSs.ok (qss_cons (qsA 1 sc_Q7.nd (qe_lst (qa_cons (qe_tup (qa_cons (qe_tup (qa_cons qe_int (qa_cons qe_int qa_nil star_con) star_con)) (qa_cons (qxA ix_list (qe_lst (qa_cons (qe_tup (qa_cons qe_int (qa_cons qe_int qa_nil star_con) star_con)) (qa_cons (qcA (ok_Q15 T) hr T.m_Q15 T.F_Q15.kp T.b_Q15 (qa_cons (qv 0) qa_nil star_name)) qa_nil star_call) star_tup)) (qcA (ok_Q11 T) hr T.m_Q11 T.F_Q11.kp T.b_Q11 (qa_cons (qv 0) (qa_cons qe_int qa_nil star_con) star_name))) qa_nil star_sub) star_tup)) qa_nil star_tup)))
   (qss_cons (qsA 2 sc_Q7.nd (qcA (ok_Q15 T) hr T.m_Q15 T.F_Q15.kp T.b_Q15 (qa_cons (qv 0) qa_nil star_name)))
   (qss_cons (qs_for PassesOwn.never rfl (qi_range1 rfl T.z_range (qa_cons (qxA ix_list (qe_lst (qa_cons qe_int (qa_cons qe_int (qa_cons qe_int (qa_cons qe_int (qa_cons qe_int qa_nil star_con) star_con) star_con) star_con) star_con)) (qcA (ok_Q11 T) hr T.m_Q11 T.F_Q11.kp T.b_Q11 (qa_cons (qv 0) (qa_cons qe_int qa_nil star_con) star_name))) qa_nil star_sub)) (qg_name (i := 3) sc_Q7.nd rfl (by first | exact Or.inl rfl | exact Or.inr rfl))
   (qss_cons (qsA 4 sc_Q7.nd (qcA (ok_Q15 T) hr T.m_Q15 T.F_Q15.kp T.b_Q15 (qa_cons (qv 0) qa_nil star_name)))
   (qss_cons (qs_asg (qxA ix_list (qv 1) (qe_un un_neg qe_int)) (qg_tup rfl (qgs_cons (qg_name (i := 5) sc_Q7.nd rfl (by first | exact Or.inl rfl | exact Or.inr rfl)) (qgs_cons (qg_name (i := 6) sc_Q7.nd rfl (by first | exact Or.inl rfl | exact Or.inr rfl)) qgs_nil))))
   (qss_cons (qs_expr (qe_bm PySem.F.plainAttrs_list PySem.F.slot_list_append PySem.F.type_list_append mt_append (qv 1) (qa_cons (qe_tup (qa_cons (qcA (ok_Q12 T) hr T.m_Q12 T.F_Q12.kp T.b_Q12 (qa_cons (qv 5) (qa_cons (qv 4) qa_nil star_name) star_name)) (qa_cons (qcA (ok_Q12 T) hr T.m_Q12 T.F_Q12.kp T.b_Q12 (qa_cons (qv 6) (qa_cons (qcA (ok_Q6 T) hr T.m_Q6 T.F_Q6.kp T.b_Q6 (qa_cons (qv 2) (qa_cons (qv 4) qa_nil star_name) star_name)) qa_nil star_call) star_name)) qa_nil star_call) star_call)) qa_nil star_tup)))
   (qss_one (qs_if (qt_cmpR op_gt (qcA (ok_Q11 T) hr T.m_Q11 T.F_Q11.kp T.b_Q11 (qa_cons (qv 0) (qa_cons qe_int qa_nil star_con) star_name)) qe_int (nomark _)) (qss_one (qsA 2 sc_Q7.nd (qcA (ok_Q12 T) hr T.m_Q12 T.F_Q12.kp T.b_Q12 (qa_cons (qv 2) (qa_cons (qcA (ok_Q15 T) hr T.m_Q15 T.F_Q15.kp T.b_Q15 (qa_cons (qv 0) qa_nil star_name)) qa_nil star_call) star_name)))) qss_nil))))))
   (qss_one (qs_ret (qe_tup (qa_cons qe_str (qa_cons (qe_callTy call_tupleZ (by rfl) T.z_tuple boot_tuple (qa_cons (qv 1) qa_nil star_name)) qa_nil star_call) star_con))))))) ?_
 refine ⟨zl2, fun p0 h0 => ⟨zl2, fun p1 h1 => ⟨_, rfl, t₁, s₀, rfl, (T0.new h0 _).new h1 _, fun v r Ha oka Sa Ta hv => ⟨zl2, fun l hl => ?_⟩⟩⟩⟩
 have Tb := Ta.new hl (.lst [.ref p1, v])
 refine ⟨_, rfl, t₁, s₀, 2, rfl, Tb, by decide, by decide, fun r1 x1 a1 b1 Tc => ?_⟩
 have nl : l ≠ t₁ := fun z => by subst z; obtain ⟨_, e⟩ := Ta.lst; rw [hl] at e; cases e
 obtain ⟨vp, hvp, mvp⟩ := pick (xs := [.ref p1, v]) a1 b1
 refine ⟨l, _, _, vp, rfl, rfl, SqL.of (by rw [upd_ne nl, upd_same] <;> rfl), hvp, ?_⟩
 have Sf : Step t₁ _ _ := Step.up (ys := x1) Tb.lst.choose_spec
 have m0 := same_new h0 (.tup [.int 0, .int 1])
 have m1 := same_new h1 (.tup [.int 0, .int 1])
 have ml := same_new hl (.lst [.ref p1, v])
 have Sab : Step t₁ (upd (upd H p0 (.tup [.int 0, .int 1])) p1 (.tup [.int 0, .int 1])) _ := (Sa.trans (Step.same ml Ta.lst)).trans Sf
 have S0 : Step t₁ H _ := (Step.same (m0.trans m1) T0.lst).trans Sab
 have np0 : p0 ≠ t₁ := fun z => by subst z; obtain ⟨_, e⟩ := T0.lst; rw [h0] at e; cases e
 have z0 : (upd (upd H p0 (.tup [.int 0, .int 1])) p1 (.tup [.int 0, .int 1])) p0 = some (.tup [.int 0, .int 1]) := m1 _ _ upd_same
 have z1 : RV K (upd (upd H p0 (.tup [.int 0, .int 1])) p1 (.tup [.int 0, .int 1])) (.ref p1) (0, 1) := rv_new (K := K) m1
 replace z0 := Sab.keep _ _ np0 z0
 replace z1 := z1.mono (Tst.step Sab)
 have zv := (hv.mono (Tst.same ml)).mono (Tst.step Sf)
 obtain ⟨y, by0, hy⟩ : ∃ y : R, Bq D0 N0 y /\ RV K (upd (upd Ha l (.lst [.ref p1, v])) t₁ (.lst x1)) vp y := by
  simp only [List.mem_cons, List.not_mem_nil, or_false] at mvp
  rcases mvp with rfl | rfl
  ·exact ⟨_, bq_zero, z1⟩
  ·exact ⟨_, oka.bq, zv⟩
 clear z1 zv hvp Sf Sab ml m0 m1
 generalize (upd (upd Ha l (.lst [.ref p1, v])) t₁ (.lst x1)) = Hb at S0 Tc z0 hy ⊢
 refine ⟨zl2, fun p2 h2 => ⟨zl1, fun lr hlr => ?_⟩⟩
 have m2 := same_new h2 (.tup [.ref p0, vp])
 have m3 := same_new hlr (.lst [.ref p2])
 have T3 := (Tc.same m2).same m3
 have nlt : lr ≠ t₁ := fun z => by subst z; obtain ⟨_, e⟩ := (Tc.same m2).lst; rw [hlr] at e; cases e
 have nls : lr ≠ s₀ := fun z => by subst z; obtain ⟨_, e⟩ := (Tc.same m2).scr; rw [hlr] at e; cases e
 have rw0 : RowK K (upd (upd Hb p2 (.tup [.ref p0, vp])) lr (.lst [.ref p2])) (.ref p2) ((0, 1), y) := ⟨p2, p0, vp, rfl, SqT.of (m3 _ _ upd_same), m3 _ _ (m2 _ _ z0), (hy.mono (Tst.same m2)).mono (Tst.same m3)⟩
 have S3 := S0.trans (Step.same (m2.trans m3) Tc.lst)
 have hl0 : (upd (upd Hb p2 (.tup [.ref p0, vp])) lr (.lst [.ref p2])) lr = some (.lst [.ref p2]) := upd_same
 have ne_lr : ∀ b o, H b = some o -> b ≠ lr := fun b o q z => by
  subst z
  have : H b = none := by
   cases hb : H b with
   | none => rfl
   | some o' =>
    by_cases nb : b = t₁
    ·exact absurd nb nlt
    ·have := S0.keep _ _ nb hb
     have := m2 _ _ this
     rw [hlr] at this
     cases this
  rw [this] at q; cases q
 generalize (upd (upd Hb p2 (.tup [.ref p0, vp])) lr (.lst [.ref p2])) = Hc at T3 rw0 S3 hl0 ⊢
 refine ⟨_, rfl, t₁, s₀, rfl, T3, fun vs sl Hd okd Sd Td hvs => ?_⟩
 have hl1 := Sd.keep _ _ nlt hl0
 refine ⟨zl5, fun l5 h5 => ?_⟩
 have T5 := Td.new h5 (.lst [.int 1, .int 2, .int 3, .int 5, .int 11])
 refine ⟨_, rfl, t₁, s₀, 5, rfl, T5, by decide, by decide, fun r2 x2 a2 b2 T6 => ?_⟩
 have n5 : l5 ≠ t₁ := fun z => by subst z; obtain ⟨_, e⟩ := Td.lst; rw [h5] at e; cases e
 obtain ⟨vn, hvn, mvn⟩ := pick (xs := [.int 1, .int 2, .int 3, .int 5, .int 11]) a2 b2
 refine ⟨l5, _, _, vn, rfl, rfl, SqL.of (by rw [upd_ne n5, upd_same] <;> rfl), hvn, ?_⟩
 obtain ⟨nn, rfl, n1, n11⟩ : ∃ z : Int, vn = .int z /\ 1 ≤ z /\ z ≤ 11 := by
  simp only [List.mem_cons, List.not_mem_nil, or_false] at mvn
  rcases mvn with e | e | e | e | e
  all_goals exact ⟨_, e, by omega, by omega⟩
 have S6 : Step t₁ Hd _ := (Step.same (same_new h5 (.lst [.int 1, .int 2, .int 3, .int 5, .int 11])) Td.lst).trans (Step.up (ys := x2) T5.lst.choose_spec)
 have S36 := (S3.trans Sd).trans S6
 have hl6 := S6.keep _ _ nlt hl1
 have rw6 := (rw0.mono (TT.step Sd)).mono (TT.step S6)
 have hv6 := hvs.mono (Tst.step S6)
 generalize (upd (upd Hd l5 (.lst [.int 1, .int 2, .int 3, .int 5, .int 11])) t₁ (.lst x2)) = He at T6 S36 hl6 rw6 hv6 ⊢
 refine ⟨nn, rfl, by omega, by omega, for_range (lo := 0) (n := nn.toNat) (fun i σ H' => ∃ (vs : V) (x3 x4 x5 x6 : Option V), σ = [some (.ref t₁), some (.ref lr), some vs, x3, x4, x5, x6] /\ Tape H' t₁ s₀ /\ (∀ b o, b ≠ t₁ -> H b = some o -> H' b = some o) /\ ∃ xs rows sl, H' lr = some (.lst xs) /\ Als (RowK K H') xs rows /\ TabAt i rows /\ RV K H' vs sl /\ Bq D0 ((i + 1) * N0) sl) ⟨vs, none, none, none, none, rfl, T6, S36.keep, [.ref p2], _, sl, hl6, .cons rw6 .nil, tab_one by0, hv6, okd.bq.mono ⟨1, rfl⟩ (by omega)⟩ ?_ ?_⟩
 ·rintro i σ H1 hi ⟨vs, x3, x4, x5, x6, rfl, T1, kp, xs, rows, sl, hlx, als, tab, hsl, bsl⟩
  have i10 : i ≤ 10 := by omega
  refine ⟨_, rfl, t₁, s₀, rfl, T1, fun v4 st H2 ok4 S2 T2 h4 => ?_⟩
  have hlx2 := S2.keep _ _ nlt hlx
  obtain ⟨xl, w, hat, hw, rvw, _⟩ := (als.mono fun _ _ z => z.mono (TT.step (K := K) S2)).last tab.len
  obtain ⟨pw, b1, y2, exl, hSw, hb1, hy2⟩ := rvw
  have hy1 : RV K H2 (.ref b1) w.1 := RV.of hb1
  obtain ⟨y1, ey1⟩ : ∃ y, y = V.ref b1 := ⟨_, rfl⟩
  rw [← ey1] at hSw hy1
  have mw := List.mem_of_getElem? hw
  refine ⟨_, rfl, _, rfl, lr, xs, -1, xl, rfl, rfl, SqL.of hlx2, hat, ?_⟩
  refine ⟨pw, _, exl, hSw, rfl, _, _, rfl, _, _, rfl, rfl, ?_⟩
  have hsl2 := hsl.mono (Tst.step S2)
  have w4 := ok4.wf
  have wy1 := wf_sp (tab.sp w mw) (by omega)
  have wy2 := wf_pw (tab.pw w mw) (by omega)
  have wsl := wf_sp bsl (by omega)
  refine ⟨_, rfl, .inl ⟨rfl, _, SqL.of hlx2⟩, _, rfl, _, rfl, y1, v4, w.1, st, 98, 98, rfl, hy1, h4, wy1, w4, by decide, fun q1 g1 => ?_⟩
  have e1 := same_new g1 (.tup [.int (plusR w.1 st).1, .int (plusR w.1 st).2])
  refine ⟨_, rfl, _, rfl, _, rfl, vs, v4, sl, st, 98, 98, rfl, hsl2.mono (Tst.same e1), h4.mono (Tst.same e1), wsl, w4, by decide, fun q2 g2 => ?_⟩
  have e2 := same_new g2 (.tup [.int (timesR sl st).1, .int (timesR sl st).2])
  refine ⟨y2, .ref q2, w.2, timesR sl st, 197, 196, rfl, (hy2.mono (Tst.same e1)).mono (Tst.same e2), rv_new (K := K) e2, wy2, times_wf wsl w4, by decide, fun q3 g3 => ⟨zl2, fun q4 g4 => ?_⟩⟩
  have e3 := same_new g3 (.tup [.int (plusR w.2 (timesR sl st)).1, .int (plusR w.2 (timesR sl st)).2])
  have e4 := same_new g4 (.tup [.ref q1, .ref q3])
  have e14 := ((e1.trans e2).trans e3).trans e4
  have hlx3 := e14 _ _ hlx2
  have ra := e4 _ _ (e3 _ _ (e2 _ _ (upd_same (H := H2) (a := q1) (o := .tup [.int (plusR w.1 st).1, .int (plusR w.1 st).2]))))
  have rb : RV K _ (.ref q3) (plusR w.2 (timesR sl st)) := (rv_new (K := K) e3).mono (Tst.same e4)
  have rn : RowK K _ (.ref q4) (plusR w.1 st, plusR w.2 (timesR sl st)) := ⟨q4, q1, _, rfl, SqT.of upd_same, ra, rb⟩
  have T4 := T2.same e14
  have S24 := S2.trans (Step.same e14 T2.lst)
  have hsl4 := hsl2.mono (Tst.same e14)
  clear ra rb
  generalize (upd (upd (upd (upd H2 q1 (.tup [.int (plusR w.1 st).1, .int (plusR w.1 st).2])) q2 (.tup [.int (timesR sl st).1, .int (timesR sl st).2])) q3 (.tup [.int (plusR w.2 (timesR sl st)).1, .int (plusR w.2 (timesR sl st)).2])) q4 (.tup [.ref q1, .ref q3])) = H4 at hlx3 rn T4 S24 hsl4 ⊢
  refine ⟨lr, xs, _, rfl, rfl, hlx3, small1000 (by rw [als.len, tab.len]; omega), ?_⟩
  have up := Tst.up (K := K) hlx3 (xs ++ [.ref q4])
  have T5 := T4.upl nlt nls (.lst (xs ++ [.ref q4]))
  have tm := (Tst.step (K := K) S24).trans up
  have upT := TT.up (K := K) hlx3 (xs ++ [.ref q4])
  have als5 := (als.mono fun _ _ z => z.mono ((TT.step S24).trans upT)).snoc (rn.mono upT)
  have tab5 := tab.snoc i10 hw bsl ok4
  have hsl5 := hsl4.mono up
  have kp5 : ∀ b o, b ≠ t₁ -> H b = some o -> (upd H4 lr (.lst (xs ++ [.ref q4]))) b = some o := fun b o nb q => by
   rw [upd_ne (ne_lr b o q)]
   exact S24.keep _ _ nb (kp b o nb q)
  have hlx5 : (upd H4 lr (.lst (xs ++ [.ref q4]))) lr = some (.lst (xs ++ [.ref q4])) := upd_same
  generalize (upd H4 lr (.lst (xs ++ [.ref q4]))) = H5 at T5 als5 hsl5 kp5 hlx5 ⊢
  refine ⟨_, rfl, t₁, s₀, 4, rfl, T5, by decide, by decide, fun r6 x6 a6 b6 T6 => ⟨_, _, rfl, rfl, _, rfl, ?_⟩⟩
  have S6 : Step t₁ H5 _ := Step.up (ys := x6) T5.lst.choose_spec
  by_cases c : 0 < r6
  ·refine iteD1 c ?_
   refine ⟨_, rfl, _, rfl, t₁, s₀, rfl, T6, fun v7 st7 H7 ok7 S7 T7 h7 => ?_⟩
   have S67 := S6.trans S7
   refine ⟨vs, v7, sl, st7, 98, 98, rfl, hsl5.mono (Tst.step S67), h7, wsl, ok7.wf, by decide, fun q8 g8 => ?_⟩
   have e8 := same_new g8 (.tup [.int (plusR sl st7).1, .int (plusR sl st7).2])
   have tm8 := (Tst.step (K := K) S67).trans (Tst.same e8)
   exact ⟨.ref q8, _, _, _, _, rfl, T7.same e8, fun b o nb q => e8 _ _ (S67.keep _ _ nb (kp5 b o nb q)), _, _, plusR sl st7, e8 _ _ (S67.keep _ _ nlt hlx5), als5.mono fun _ _ z => z.mono ((TT.step S67).trans (TT.same e8)), tab5, rv_new (K := K) e8, (bsl.plus (by decide) ok7.bq).mono ⟨1, rfl⟩ (by rw [Nat.add_mul (i + 1) 1]; omega)⟩
  ·refine iteD0 c ?_
   exact ⟨vs, _, _, _, _, rfl, T6, fun b o nb q => S6.keep _ _ nb (kp5 b o nb q), _, _, sl, S6.keep _ _ nlt hlx5, als5.mono fun _ _ z => z.mono (TT.step S6), tab5, hsl5.mono (Tst.step S6), bsl.mono ⟨1, rfl⟩ (Nat.mul_le_mul_right _ (Nat.le_succ _))⟩
 ·rintro σ H1 ⟨vs, x3, x4, x5, x6, rfl, T1, kp, xs, rows, sl, hlx, als, tab, hsl, bsl⟩
  refine ⟨_, rfl, lr, xs, rfl, SqL.of hlx, fun p3 ob h3 hob => ⟨zl2, fun p4 h4 => ?_⟩⟩
  have m3 := same_new h3 (.frz ob (.tup xs))
  have m4 := same_new h4 (.tup [.str (Str.ofString "table"), .ref p3])
  have m := m3.trans m4
  exact k _ rows _ (tab.ok (by omega) (by omega)) ⟨fun b o nb q => m _ _ (kp b o nb q), T0.lst, (T1.same m).lst⟩ (T1.same m) ⟨p4, p3, ob, xs, rfl, SqT.of upd_same, m4 _ _ upd_same, hob, als.mono fun _ _ z => z.mono (TT.same m)⟩
theorem ok_Q8 (T : Txt K mg t) : FnOk P w K mg base CX0 4 t.a_Q8 t.d_Q8 ["_law_rule_here", "_law_speed"] (sp_law_power K) := by
 refine T.F_Q8.ok sc_Q8 (fun vs H Q E h => ?_) (fun cdv A outer s H vs Q E hr h => ?_)
 ·obtain ⟨_, _, _, _, rfl, _⟩ := h; rfl
 obtain ⟨v, w, rows, s, rfl, hv, ok, hw, hs, hb, k⟩ := h
 refine QSs.ok (qss_cons (qs_if (qt_cmpR op_eq (qxA ix_tup (qv 0) qe_int) qe_str (nomark _)) (qss_cons (qsA 2 sc_Q8.nd (qv 1))
   (qss_cons (qs_for PassesOwn.never rfl (qi_range1 rfl T.z_range (qa_cons (qe_op op_sub (qxA ix_tup (qv 0) qe_int) qe_int) qa_nil star_bin)) (qg_name (i := 3) sc_Q8.nd rfl (by first | exact Or.inl rfl | exact Or.inr rfl))
   (qss_one (qsA 2 sc_Q8.nd (qcA (ok_Q6 T) hr T.m_Q6 T.F_Q6.kp T.b_Q6 (qa_cons (qv 2) (qa_cons (qv 1) qa_nil star_name) star_name)))))
   (qss_one (qs_ret (qv 2))))) qss_nil)
   (qss_cons (qs_for PassesOwn.never rfl (qi_zip rfl T.z_zip (qa_cons (qxA ix_tup (qv 0) qe_int) (qa_cons (qe_slice sl_tup (qxA ix_tup (qv 0) qe_int) (qo_some qe_int) qo_none) qa_nil star_sub) star_sub)) (qg_tup rfl (qgs_cons (qg_name (i := 4) sc_Q8.nd rfl (by first | exact Or.inl rfl | exact Or.inr rfl)) (qgs_cons (qg_name (i := 5) sc_Q8.nd rfl (by first | exact Or.inl rfl | exact Or.inr rfl)) qgs_nil)))
   (qss_one (qs_if (qt_not (qt_val (qcA (ok_Q14 T) hr T.m_Q14 T.F_Q14.kp T.b_Q14 (qa_cons (qxA ix_tup (qv 5) qe_int) (qa_cons (qv 1) qa_nil star_name) star_sub)))) (qss_cons (qsA 6 sc_Q8.nd (qcA (ok_Q13 T) hr T.m_Q13 T.F_Q13.kp T.b_Q13 (qa_cons (qcA (ok_Q5 T) hr T.m_Q5 T.F_Q5.kp T.b_Q5 (qa_cons (qxA ix_tup (qv 5) qe_int) (qa_cons (qxA ix_tup (qv 4) qe_int) qa_nil star_sub) star_sub)) (qa_cons (qcA (ok_Q5 T) hr T.m_Q5 T.F_Q5.kp T.b_Q5 (qa_cons (qxA ix_tup (qv 5) qe_int) (qa_cons (qxA ix_tup (qv 4) qe_int) qa_nil star_sub) star_sub)) qa_nil star_call) star_call)))
   (qss_one (qs_ret (qcA (ok_Q12 T) hr T.m_Q12 T.F_Q12.kp T.b_Q12 (qa_cons (qxA ix_tup (qv 4) qe_int) (qa_cons (qcA (ok_Q6 T) hr T.m_Q6 T.F_Q6.kp T.b_Q6 (qa_cons (qv 6) (qa_cons (qcA (ok_Q5 T) hr T.m_Q5 T.F_Q5.kp T.b_Q5 (qa_cons (qv 1) (qa_cons (qxA ix_tup (qv 4) qe_int) qa_nil star_sub) star_name)) qa_nil star_call) star_name)) qa_nil star_call) star_sub))))) qss_nil)))
   (qss_one (qs_ret qe_non)))) ?_
 have ok' : RowsOk rows := ok
 obtain ⟨p, q, xs, rfl, hS, hq, al⟩ := hv
 have n2 := ok'.n2
 have n12 := ok'.n12
 have hlen : xs.length = rows.length := al.len
 refine ⟨_, rfl, p, _, _, _, rfl, rfl, hS, rfl, rfl, _, rfl, iteD0 (by decide) ?_⟩
 refine ⟨_, rfl, p, _, _, _, rfl, rfl, hS, rfl, _, rfl, p, _, _, _, rfl, rfl, hS, rfl, _, rfl, q, xs, rfl, hq, ?_, fun pz hz => ?_⟩
 ·rintro ⟨z, _⟩
  rw [show (some (1 : Int)) = some (((1 : Nat) : Int)) from rfl, HT.sIx_nat, Nat.min_eq_left (by omega)] at z
  omega
 rw [cut_tail (by omega)]
 have m2 := same_new hz (.tup (xs.drop 1))
 have hpz0 : SqT K (upd H pz (.tup (xs.drop 1))) pz (xs.drop 1) := SqT.of upd_same
 generalize (upd H pz (.tup (xs.drop 1))) = Hz at hpz0 m2 ⊢
 refine ⟨q, pz, rfl, ⟨_, Tst.same m2 _ _ hq⟩, ⟨_, hpz0⟩, for_zip (K := K) (a := q) (b := pz) (xs := xs) (ys := xs.drop 1) (n := xs.length - 1) (fun i σ H' => ∃ (x4 x5 x6 : Option V), σ = [some (.ref p), some w, none, none, x4, x5, x6] /\ Same Hz H' /\ (i = 0 ∨ i < pOf rows s)) (by omega) (by rw [List.length_drop]; omega) (.inr (by rw [List.length_drop]; omega)) ⟨none, none, none, rfl, Same.refl Hz, .inl rfl⟩ (fun i σ H1 _ ⟨_, _, _, _, sm, _⟩ => ⟨Tst.same (m2.trans sm) _ _ hq, Tst.same sm _ _ hpz0⟩) ?_ ?_⟩
 ·rintro i x y pt σ H1 hi hx hy ⟨x4, x5, x6, rfl, sm, hip⟩ hpt
  have e1 := same_new hpt (.tup [x, y])
  obtain ⟨a, ha, rva⟩ := al.at hx
  have hy' : xs[i + 1]? = some y := by rw [List.getElem?_drop, Nat.add_comm] at hy; exact hy
  obtain ⟨b, hb', rvb⟩ := al.at hy'
  have slok := slOk ok' (Nat.lt_succ_self i) ha hb'
  have wsl := (ok'.slope (Nat.lt_succ_self i) ha hb').2.2.2
  obtain ⟨wm, wt, wl⟩ := line_wf slok wsl hs.wf
  refine ⟨pt, _, rfl, SqT.of upd_same, rfl, _, _, rfl, _, _, rfl, rfl, ?_⟩
  have sm1 := (m2.trans sm).trans e1
  have t1 := Tst.same (K := K) sm1
  obtain ⟨pa, xa, ya, rfl, hSa, hxa, hya⟩ := rva.mono t1
  obtain ⟨pb, xb, yb, rfl, hSb, hxb, hyb⟩ := rvb.mono t1
  have hw1 := hw.mono t1
  refine ⟨_, rfl, pb, _, _, _, rfl, rfl, hSb, rfl, _, rfl, xb, w, b.1, s, 98, 102, rfl, hxb, hw1, slok.b1, hs.wf, by decide, _, rfl, ?_⟩
  rw [cnt_p hs.bq.pos ok'.inc ok'.allP hb']
  by_cases c : i + 1 < pOf rows s
  ·refine iteNS c ?_
   exact ⟨_, _, _, rfl, sm.trans e1, .inr c⟩
  refine iteN1 c ?_
  have due : powT rows s = lineR a b s := by
   unfold powT
   by_cases c0 : pOf rows s = 0
   ·rw [if_pos c0]
    have i0 : i = 0 := by omega
    subst i0
    rw [getD_at ha]
    have es := zero_of ok' hs c0
    obtain ⟨y0, ey⟩ := ok'.zero
    rw [ey] at ha
    cases ha
    have ma := List.mem_of_getElem? ey
    unfold lineR
    rw [es]
    have so : Red (slopeR ((0, 1), y0) b) := ⟨wsl.pos, wsl.cop⟩
    rw [line_zero (ok'.pw _ ma).red so (ok'.sp _ ma).red]
   ·rw [if_neg c0]
    have ei : pOf rows s = i + 1 := by omega
    rw [ei, Nat.add_sub_cancel, getD_at ha, getD_at hb']
  refine ⟨_, rfl, pb, _, _, _, rfl, rfl, hSb, rfl, _, rfl, pa, _, _, _, rfl, rfl, hSa, rfl, yb, ya, b.2, a.2, 197, 197, rfl, hyb, hya, slok.b2, slok.a2, by decide, fun q1 g1 => ?_⟩
  have e2 := same_new g1 (.tup [.int (minusR b.2 a.2).1, .int (minusR b.2 a.2).2])
  refine ⟨_, rfl, pb, _, _, _, rfl, rfl, Tst.same e2 _ _ hSb, rfl, _, rfl, pa, _, _, _, rfl, rfl, Tst.same e2 _ _ hSa, rfl, xb, xa, b.1, a.1, 98, 98, rfl, hxb.mono (Tst.same e2), hxa.mono (Tst.same e2), slok.b1, slok.a1, by decide, fun q2 g2 => ?_⟩
  have e3 := same_new g2 (.tup [.int (minusR b.1 a.1).1, .int (minusR b.1 a.1).2])
  refine ⟨.ref q1, .ref q2, minusR b.2 a.2, minusR b.1 a.1, 198, 99, rfl, (rv_new (K := K) e2).mono (Tst.same e3), rv_new (K := K) e3, slok.w2, slok.w1, by decide, slok.ne, fun q3 g3 => ?_⟩
  have e4 := same_new g3 (.tup [.int (overR (minusR b.2 a.2) (minusR b.1 a.1)).1, .int (overR (minusR b.2 a.2) (minusR b.1 a.1)).2])
  have hsl := rv_new (K := K) e4
  have e24 := (e2.trans e3).trans e4
  have sm4 := sm1.trans e24
  have hw4 := hw1.mono (Tst.same e24)
  replace hSa := Tst.same (K := K) e24 _ _ hSa
  replace hxa := hxa.mono (Tst.same e24)
  replace hya := hya.mono (Tst.same e24)
  clear e1 e2 e3 e4 e24 t1 hyb hSb hxb sm1 hw1
  generalize (upd (upd (upd (upd H1 pt (.tup [.ref pa, .ref pb])) q1 (.tup [.int (minusR b.2 a.2).1, .int (minusR b.2 a.2).2])) q2 (.tup [.int (minusR b.1 a.1).1, .int (minusR b.1 a.1).2])) q3 (.tup [.int (overR (minusR b.2 a.2) (minusR b.1 a.1)).1, .int (overR (minusR b.2 a.2) (minusR b.1 a.1)).2])) = H4 at hsl sm4 hw4 hSa hxa hya ⊢
  replace hsl : RV K H4 (.ref q3) (slopeR a b) := hsl
  refine ⟨_, rfl, pa, _, _, _, rfl, rfl, hSa, rfl, _, rfl, _, rfl, _, rfl, pa, _, _, _, rfl, rfl, hSa, rfl, w, xa, s, a.1, 102, 98, rfl, hw4, hxa, hs.wf, slok.a1, by decide, fun q5 g5 => ?_⟩
  have f5 := same_new g5 (.tup [.int (minusR s a.1).1, .int (minusR s a.1).2])
  refine ⟨.ref q3, .ref q5, slopeR a b, minusR s a.1, 300, 201, rfl, hsl.mono (Tst.same f5), rv_new (K := K) f5, wsl, wm, by decide, fun q6 g6 => ?_⟩
  have f6 := same_new g6 (.tup [.int (timesR (slopeR a b) (minusR s a.1)).1, .int (timesR (slopeR a b) (minusR s a.1)).2])
  refine ⟨ya, .ref q6, a.2, timesR (slopeR a b) (minusR s a.1), 197, 501, rfl, hya.mono (Tst.same (f5.trans f6)), rv_new (K := K) f6, slok.a2, wt, by decide, fun q7 g7 => ?_⟩
  have f7 := same_new g7 (.tup [.int (plusR a.2 (timesR (slopeR a b) (minusR s a.1))).1, .int (plusR a.2 (timesR (slopeR a b) (minusR s a.1))).2])
  refine k _ _ (sm4.trans ((f5.trans f6).trans f7)) ?_
  rw [due]
  exact rv_new (K := K) f7
 ·rintro σ H1 ⟨x4, x5, x6, rfl, sm, hip⟩
  have := ok'.p_lt hs.bq.pos hb
  omega
theorem ok_Q3 (T : Txt K mg t) : FnOk P w K mg base CX0 4 t.a_Q3 t.d_Q3 ["_law_tape_here", "_law_table_here"] (sp_law_inside K) := by
 refine T.F_Q3.ok sc_Q3 (fun vs H Q E h => ?_) (fun cdv A outer s H vs Q E hr h => ?_)
 ·obtain ⟨_, _, _, _, rfl, _⟩ := h; rfl
 obtain ⟨t₁, s₀, v, rows, rfl, T0, hv, ok, k⟩ := h
 refine QSs.ok (qss_cons (qsA 2 sc_Q3.nd (qxA ix_tup (qv 1) qe_int))
   (qss_cons (qs_asg (qe_lcomp (N' := ["_law_k", "_law_rows", "_law_tape_here"]) (src := [none, some 2, some 0]) rfl (by exact (qi_range1 rfl T.z_range (qa_cons qe_int qa_nil star_con))) (fun _ _ _ _ _ => (by exact (by exact qg_name (i := 0) (by show List.Nodup (["_law_k", "_law_rows", "_law_tape_here"] : List Str); decide +kernel) (by exact rfl) (by first | exact Or.inl rfl | exact Or.inr rfl)))) (fun _ _ _ _ _ => qts_nil) (fun _ _ _ _ _ => (by exact (by exact (qe_ix (ix_tupK (K := K) (by exact rfl)) (by exact (qe_ix (ix_tupK (K := K) (by exact rfl)) (by exact (qv 1)) (by exact (qe_call (ok_Q11 T) (by exact hr.mono (by decide)) (by exact rfl) T.m_Q11 T.F_Q11.kp T.b_Q11 (by exact .nil) (by exact pass0) (qa_cons (by exact (qv 2)) (qa_cons (by exact (qe_callB (call_lenK (K := K) (by exact rfl)) (by exact rfl) T.z_len boot_len (qa_cons (by exact (qv 1)) qa_nil star_name))) qa_nil star_call) star_name))) (by exact fun _ _ => rfl))) qe_int (by exact fun _ _ => rfl))))) (by exact ⟨rfl, rfl, rfl, rfl, ⟨rfl, rfl, rfl, rfl, trivial⟩⟩) rfl (by decide +kernel) rfl (by decide +kernel) (by exact cells_of rfl ⟨rfl, ⟨rfl, trivial⟩⟩)) (qg_lst rfl (qgs_cons (qg_name (i := 3) sc_Q3.nd rfl (by first | exact Or.inl rfl | exact Or.inr rfl)) (qgs_cons (qg_name (i := 4) sc_Q3.nd rfl (by first | exact Or.inl rfl | exact Or.inr rfl)) qgs_nil))))
   (qss_cons (qsA 5 sc_Q3.nd (qcA (ok_Q4 T) hr T.m_Q4 T.F_Q4.kp T.b_Q4 (qa_cons (qcA (ok_Q11 T) hr T.m_Q11 T.F_Q11.kp T.b_Q11 (qa_cons (qv 0) (qa_cons qe_int qa_nil star_con) star_name)) (qa_cons qe_int qa_nil star_con) star_call)))
   (qss_one (qs_ret (qcA (ok_Q12 T) hr T.m_Q12 T.F_Q12.kp T.b_Q12 (qa_cons (qv 3) (qa_cons (qcA (ok_Q6 T) hr T.m_Q6 T.F_Q6.kp T.b_Q6 (qa_cons (qv 5) (qa_cons (qcA (ok_Q5 T) hr T.m_Q5 T.F_Q5.kp T.b_Q5 (qa_cons (qv 4) (qa_cons (qv 3) qa_nil star_name) star_name)) qa_nil star_call) star_name)) qa_nil star_call) star_name))))))) ?_
 obtain ⟨p, q, xs, rfl, hS, hq, al⟩ := id hv
 have hlen : xs.length = rows.length := al.len
 have l2 := ok.n2
 have l12 := ok.n12
 refine ⟨_, rfl, p, _, _, _, rfl, rfl, hS, rfl, ?_⟩
 refine ⟨2, rfl, by decide, by decide, fun D hD => comp_rngS (K := K) (P := RV K) (Ok := fun (z : R) => ∃ (i : Nat) (r : R × R), rows[i]? = some r /\ r.1 = z) (t := t₁) (s := s₀) (fun _ _ _ _ t p => p.mono t) hD T0 (show 2 ≤ 1000 by decide) (fun i H' hi tst T' Rk E kR => ?_) fun H3 ys ds S3 T3 hD3 al3 hl3 ok3 => ?_⟩
 ·refine ⟨Ext.set rfl, _, rfl, _, rfl, _, rfl, q, xs, rfl, .inr (tst _ _ hq), t₁, s₀, _, rfl, T', by omega, by omega, fun rr xx aa bb Tz => ?_⟩
  have Sz := Step.up (ys := xx) T'.lst.choose_spec
  have tz := tst.trans (Tst.step (K := K) Sz)
  have hx0 : xs[rr.toNat]? = some (xs[rr.toNat]'(by omega)) := List.getElem?_eq_getElem _
  obtain ⟨r, hr, hrv⟩ := al.at hx0
  obtain ⟨pa, x, y, ex, hSr, hx, hy⟩ := hrv.mono tz
  refine ⟨q, xs, rr, _, rfl, rfl, tz _ _ hq, (by have z := atI_nat hx0; rw [show ((rr.toNat : Nat) : Int) = rr by omega] at z; exact z), pa, _, _, _, ex, rfl, hSr, rfl, ?_⟩
  exact kR _ r.1 _ Sz Tz hx ⟨_, r, hr, rfl⟩
 obtain ⟨z1, z2, rfl⟩ : ∃ z1 z2, ds = [z1, z2] := by
  match ds, hl3 with
  | [a, b], _ => exact ⟨a, b, rfl⟩
 cases al3 with
 | cons h1 al3 => cases al3 with
 | cons h2 al3 =>
  cases al3
  rename_i y1 y2
  obtain ⟨i1, w1, e1, f1⟩ := ok3 z1 (by simp)
  obtain ⟨i2, w2, e2, f2⟩ := ok3 z2 (by simp)
  subst f1; subst f2
  refine ⟨D, _, rfl, SqL.of hD3, rfl, _, _, rfl, _, _, rfl, rfl, ?_⟩
  have b1 := ok.sp w1 (List.mem_of_getElem? e1)
  have b2 := ok.sp w2 (List.mem_of_getElem? e2)
  refine ⟨_, rfl, t₁, s₀, 13, rfl, T3, by decide, by decide, fun kk x4 a4 b4 T4 => ⟨kk, 12, rfl, by decide, big_of (n := 4) (by decide) (by decide), ?_⟩⟩
  rw [mkS_pos (by decide)]
  intro p5 g5
  have S4 := Step.up (ys := x4) T3.lst.choose_spec
  have m5 := same_new g5 (.tup [.int (mkR kk 12).1, .int (mkR kk 12).2])
  have S5 := S4.trans (Step.same m5 T4.lst)
  have T5 := T4.same m5
  have r5 := rv_new (K := K) m5
  have h15 := h1.mono (Tst.step (K := K) S5)
  have h25 := h2.mono (Tst.step (K := K) S5)
  clear m5
  generalize upd (upd H3 t₁ (.lst x4)) p5 (.tup [.int (mkR kk 12).1, .int (mkR kk 12).2]) = H5 at S5 T5 r5 h15 h25 ⊢
  have wt : Wf 35 (mkR kk 12) := (tw_bq a4 b4).wf (by decide) (by decide) (by decide)
  have wm : Wf 197 (minusR w2.1 w1.1) := minus_wf (wfS b2) (wfS b1)
  refine ⟨_, rfl, _, rfl, _, rfl, _, rfl, y2, y1, w2.1, w1.1, 98, 98, rfl, h25, h15, wfS b2, wfS b1, by decide, fun q6 g6 => ?_⟩
  have m6 := same_new g6 (.tup [.int (minusR w2.1 w1.1).1, .int (minusR w2.1 w1.1).2])
  refine ⟨.ref p5, .ref q6, mkR kk 12, minusR w2.1 w1.1, 35, 197, rfl, r5.mono (Tst.same m6), rv_new (K := K) m6, wt, wm, by decide, fun q7 g7 => ?_⟩
  have m7 := same_new g7 (.tup [.int (timesR (mkR kk 12) (minusR w2.1 w1.1)).1, .int (timesR (mkR kk 12) (minusR w2.1 w1.1)).2])
  refine ⟨y1, .ref q7, w1.1, timesR (mkR kk 12) (minusR w2.1 w1.1), 98, 232, rfl, h15.mono (Tst.same (m6.trans m7)), rv_new (K := K) m7, wfS b1, times_wf wt wm, by decide, fun q8 g8 => ?_⟩
  have m8 := same_new g8 (.tup [.int (plusR w1.1 (timesR (mkR kk 12) (minusR w2.1 w1.1))).1, .int (plusR w1.1 (timesR (mkR kk 12) (minusR w2.1 w1.1))).2])
  have m := (m6.trans m7).trans m8
  obtain ⟨o1, o2⟩ := ins_ok ok e1 e2 a4 b4
  exact k _ _ _ o1 o2 ((S3.trans S5).trans (Step.same m T5.lst)) (T5.same m) (rv_new (K := K) m8)
theorem ok_Q20 (T : Txt K mg t) : FnOk P w K mg base CX0 4 t.a_Q20 t.d_Q20 ["_law_table_here", "_law_speed"] (sp_law_due K) := by
 refine T.F_Q20.ok sc_Q20 (fun vs H Q E h => ?_) (fun cdv A outer s H vs Q E hr h => ?_)
 ·obtain ⟨_, _, _, _, rfl, _⟩ := h; rfl
 obtain ⟨v, w, rows, s, rfl, hv, ok, hw, hs, hb, k⟩ := h
 refine QSs.ok (qss_cons (qs_for PassesOwn.never rfl (qi_zip rfl T.z_zip (qa_cons (qxA ix_tup (qv 0) qe_int) (qa_cons (qe_slice sl_tup (qxA ix_tup (qv 0) qe_int) (qo_some qe_int) qo_none) qa_nil star_sub) star_sub)) (qg_tup rfl (qgs_cons (qg_name (i := 2) sc_Q20.nd rfl (by first | exact Or.inl rfl | exact Or.inr rfl)) (qgs_cons (qg_name (i := 3) sc_Q20.nd rfl (by first | exact Or.inl rfl | exact Or.inr rfl)) qgs_nil)))
   (qss_cons (qs_if (qt_cmpR (op_inDT hr) (qv 1) (qe_tup (qa_cons (qxA ix_tup (qv 2) qe_int) (qa_cons (qxA ix_tup (qv 3) qe_int) qa_nil star_sub) star_sub)) (by with_unfolding_all rfl)) (qss_one (qs_ret (qe_tup (qa_cons (qe_tup (qa_cons (qv 1) (qa_cons (qe_tup (qa_cons qe_int (qa_cons qe_int qa_nil star_con) star_con)) qa_nil star_tup) star_name)) qa_nil star_tup)))) qss_nil)
   (qss_one (qs_if (qw_pt (qw_and (qt_val (qcA (ok_Q14 T) hr T.m_Q14 T.F_Q14.kp T.b_Q14 (qa_cons (qxA ix_tup (qv 2) qe_int) (qa_cons (qv 1) qa_nil star_name) star_sub))) (qw_and1 (qt_val (qcA (ok_Q14 T) hr T.m_Q14 T.F_Q14.kp T.b_Q14 (qa_cons (qv 1) (qa_cons (qxA ix_tup (qv 3) qe_int) qa_nil star_sub) star_name)))))) (qss_cons (qsA 4 sc_Q20.nd (qcA (ok_Q13 T) hr T.m_Q13 T.F_Q13.kp T.b_Q13 (qa_cons (qcA (ok_Q5 T) hr T.m_Q5 T.F_Q5.kp T.b_Q5 (qa_cons (qv 1) (qa_cons (qxA ix_tup (qv 2) qe_int) qa_nil star_sub) star_name)) (qa_cons (qcA (ok_Q5 T) hr T.m_Q5 T.F_Q5.kp T.b_Q5 (qa_cons (qxA ix_tup (qv 3) qe_int) (qa_cons (qxA ix_tup (qv 2) qe_int) qa_nil star_sub) star_sub)) qa_nil star_call) star_call)))
   (qss_one (qs_ret (qe_tup (qa_cons (qe_tup (qa_cons (qxA ix_tup (qv 2) qe_int) (qa_cons (qcA (ok_Q5 T) hr T.m_Q5 T.F_Q5.kp T.b_Q5 (qa_cons (qe_tup (qa_cons qe_int (qa_cons qe_int qa_nil star_con) star_con)) (qa_cons (qv 4) qa_nil star_name) star_tup)) qa_nil star_call) star_sub)) (qa_cons (qe_tup (qa_cons (qxA ix_tup (qv 3) qe_int) (qa_cons (qv 4) qa_nil star_name) star_sub)) qa_nil star_tup) star_tup))))) qss_nil))))
   (qss_one (qs_ret (qe_tup qa_nil)))) ?_
 obtain ⟨p, q, xs, rfl, hS, hq, al⟩ := id hv
 have n2 := ok.n2
 have n12 := ok.n12
 have hlen : xs.length = rows.length := al.len
 have pl := ok.p_lt hs.bq.pos hb
 refine ⟨_, rfl, p, _, _, _, rfl, rfl, hS, rfl, _, rfl, p, _, _, _, rfl, rfl, hS, rfl, _, rfl, q, xs, rfl, hq, ?_, fun pz hz => ?_⟩
 ·rintro ⟨z, _⟩
  rw [show (some (1 : Int)) = some (((1 : Nat) : Int)) from rfl, HT.sIx_nat, Nat.min_eq_left (by omega)] at z
  omega
 rw [cut_tail (by omega)]
 have m2 := same_new hz (.tup (xs.drop 1))
 have hpz0 : SqT K (upd H pz (.tup (xs.drop 1))) pz (xs.drop 1) := SqT.of upd_same
 generalize (upd H pz (.tup (xs.drop 1))) = Hz at hpz0 m2 ⊢
 refine ⟨q, pz, rfl, ⟨_, Tst.same m2 _ _ hq⟩, ⟨_, hpz0⟩, for_zip (K := K) (a := q) (b := pz) (xs := xs) (ys := xs.drop 1) (n := xs.length - 1) (fun i σ H' => ∃ (x3 x4 : Option V), σ = [some (.ref p), some w, x3, x4, none] /\ Same Hz H' /\ (i = 0 ∨ i < pOf rows s)) (by omega) (by rw [List.length_drop]; omega) (.inr (by rw [List.length_drop]; omega)) ⟨none, none, rfl, Same.refl Hz, .inl rfl⟩ (fun i σ H1 _ ⟨_, _, _, sm, _⟩ => ⟨Tst.same (m2.trans sm) _ _ hq, Tst.same sm _ _ hpz0⟩) ?_ ?_⟩
 ·rintro i x y pt σ H1 hi hx hy ⟨x3, x4, rfl, sm, hip⟩ hpt
  have e1 := same_new hpt (.tup [x, y])
  obtain ⟨a, ha, rva⟩ := al.at hx
  have hy' : xs[i + 1]? = some y := by rw [List.getElem?_drop, Nat.add_comm] at hy; exact hy
  obtain ⟨b, hb', rvb⟩ := al.at hy'
  have slok := slOk ok (Nat.lt_succ_self i) ha hb'
  have ca := cnt_p hs.bq.pos ok.inc ok.allP ha
  have cb := cnt_p hs.bq.pos ok.inc ok.allP hb'
  have ma := List.mem_of_getElem? ha
  have mb := List.mem_of_getElem? hb'
  refine ⟨pt, _, rfl, SqT.of upd_same, rfl, _, _, rfl, _, _, rfl, rfl, ?_⟩
  have sm1 := (m2.trans sm).trans e1
  have smz := sm.trans e1
  have t1 := Tst.same (K := K) sm1
  obtain ⟨pa, xa, ya, rfl, hSa, hxa, hya⟩ := rva.mono t1
  obtain ⟨pb, xb, yb, rfl, hSb, hxb, hyb⟩ := rvb.mono t1
  have hw1 := hw.mono t1
  clear e1 t1
  generalize upd H1 pt (.tup [V.ref pa, .ref pb]) = H2 at hSa hxa hya hSb hxb hyb hw1 sm1 smz ⊢
  refine ⟨_, rfl, _, rfl, pa, _, _, _, rfl, rfl, hSa, rfl, _, rfl, pb, _, _, _, rfl, rfl, hSb, rfl, zl2, fun p2 g2 => ?_⟩
  have e2 := same_new g2 (.tup [xa, xb])
  have hp2 : SqT K (upd H2 p2 (.tup [xa, xb])) p2 [xa, xb] := SqT.of upd_same
  have sm2 := sm1.trans e2
  have smz2 := smz.trans e2
  replace hSa := Tst.same (K := K) e2 _ _ hSa
  replace hSb := Tst.same (K := K) e2 _ _ hSb
  replace hxa := hxa.mono (Tst.same e2)
  replace hxb := hxb.mono (Tst.same e2)
  replace hw1 := hw1.mono (Tst.same e2)
  clear e2
  generalize upd H2 p2 (.tup [xa, xb]) = H3 at hp2 hSa hxa hSb hxb hw1 sm2 smz2 ⊢
  have sf : PyData.eqv (dR s) (dR s) = true := by rw [eqv_iff]; exact decide_eq_true rfl
  refine ⟨p2, _, [dR a.1, dR b.1], dR s, rfl, hp2, .cons hxa.deep (.cons hxb.deep .nil), fun e he => ?_, hw1.deep, dR_lay _, sf, _, rfl, ?_⟩
  ·simp only [List.mem_cons, List.not_mem_nil, or_false] at he
   rcases he with rfl | rfl
   ·exact ⟨dR_lay _, dR_depth _⟩
   ·exact ⟨dR_lay _, dR_depth _⟩
  have ev : ([dR a.1, dR b.1].any fun e => PyData.eqv e (dR s)) = (decide (a.1 = s) || decide (b.1 = s)) := by
   rw [List.any_cons, List.any_cons, List.any_nil, eqv_iff, eqv_iff, Bool.or_false]
  rw [ev]
  have self : ∀ r : R, lessR r r = false := fun r => less_not.mpr (Int.le_refl _)
  by_cases c : a.1 = s ∨ b.1 = s
  ·refine iteB1 (by rcases c with c | c <;> simp [c]) ?_
   have em : mixM rows s = [(s, (1, 1))] := by
    have key : ∀ {j : Nat} {r : R × R}, rows[j]? = some r -> r.1 = s -> pOf rows s = j -> mixM rows s = [(s, (1, 1))] := fun {j r} h1 h2 h3 => by
     unfold mixM
     rw [h3, getD_at h1, if_pos h2]
    rcases c with c | c
    ·rw [c, self] at ca
     have := of_decide_eq_false ca.symm
     exact key ha c (by omega)
    ·rw [c, self] at cb
     have n1 := of_decide_eq_false cb.symm
     have lt : lessR a.1 s = true := by
      rw [← c]
      obtain ⟨h1, q1⟩ := List.getElem?_eq_some_iff.mp ha
      obtain ⟨h2, q2⟩ := List.getElem?_eq_some_iff.mp hb'
      have := List.pairwise_iff_getElem.mp ok.inc i (i + 1) h1 h2 (Nat.lt_succ_self i)
      rw [q1, q2] at this
      exact this
     rw [lt] at ca
     have := of_decide_eq_true ca.symm
     exact key hb' c (by omega)
   refine ⟨_, rfl, zl2, fun p4 g4 => ⟨zl2, fun p5 g5 => ⟨zl1, fun p6 g6 => ?_⟩⟩⟩
   have m4 := same_new g4 (.tup [.int 1, .int 1])
   have m5 := same_new g5 (.tup [w, .ref p4])
   have m6 := same_new g6 (.tup [.ref p5])
   have m := (m4.trans m5).trans m6
   refine k _ _ (sm2.trans m) ⟨p6, _, rfl, SqT.of upd_same, ?_⟩
   rw [em]
   exact .cons ⟨p5, _, _, rfl, SqT.of (m6 _ _ upd_same), hw1.mono (Tst.same m), (rv_new (K := K) m4).mono (Tst.same (m5.trans m6))⟩ .nil
  have c1 : ¬ a.1 = s := fun z => c (.inl z)
  have c2 : ¬ b.1 = s := fun z => c (.inr z)
  refine iteB0 (by simp [c1, c2]) ?_
  have hip' : i < pOf rows s := by
   rcases hip with z | z
   ·subst z
    refine Nat.pos_of_ne_zero fun z => ?_
    have e := zero_of ok hs z
    obtain ⟨y0, ey⟩ := ok.zero
    rw [ey] at ha
    cases ha
    exact c1 e.symm
   ·exact z
  rw [decide_eq_true hip'] at ca
  refine ⟨_, rfl, pa, _, _, _, rfl, rfl, hSa, rfl, _, rfl, xa, w, a.1, s, 98, 102, rfl, hxa, hw1, slok.a1, hs.wf, by decide, _, rfl, ?_⟩
  refine iteB1 ca ?_
  refine ⟨_, rfl, _, rfl, pb, _, _, _, rfl, rfl, hSb, rfl, w, xb, s, b.1, 102, 98, rfl, hw1, hxb, hs.wf, slok.b1, by decide, _, rfl, ?_⟩
  by_cases cc : i + 1 < pOf rows s
  ·rw [decide_eq_true cc] at cb
   refine iteB0 (less_asym cb) ?_
   exact ⟨_, _, rfl, smz2, .inr cc⟩
  rw [decide_eq_false cc] at cb
  refine iteB1 (less_tot (ok.sp b mb).red hs.bq.red cb c2) ?_
  have ei : pOf rows s = i + 1 := by omega
  obtain ⟨w1, w2, ne, wp, wq⟩ := part_wf ok hs ha hb'
  have em : mixM rows s = [(a.1, minusR (1, 1) (partR a.1 b.1 s)), (b.1, partR a.1 b.1 s)] := by
   unfold mixM
   rw [ei, Nat.add_sub_cancel, getD_at ha, getD_at hb', if_neg c2]
  refine ⟨_, rfl, _, rfl, pa, _, _, _, rfl, rfl, hSa, rfl, w, xa, s, a.1, 102, 98, rfl, hw1, hxa, hs.wf, slok.a1, by decide, fun q3 g3 => ?_⟩
  have m3 := same_new g3 (.tup [.int (minusR s a.1).1, .int (minusR s a.1).2])
  refine ⟨_, rfl, pb, _, _, _, rfl, rfl, Tst.same m3 _ _ hSb, rfl, _, rfl, pa, _, _, _, rfl, rfl, Tst.same m3 _ _ hSa, rfl, xb, xa, b.1, a.1, 98, 98, rfl, hxb.mono (Tst.same m3), hxa.mono (Tst.same m3), slok.b1, slok.a1, by decide, fun q4 g4 => ?_⟩
  have m4 := same_new g4 (.tup [.int (minusR b.1 a.1).1, .int (minusR b.1 a.1).2])
  refine ⟨.ref q3, .ref q4, minusR s a.1, minusR b.1 a.1, 202, 99, rfl, (rv_new (K := K) m3).mono (Tst.same m4), rv_new (K := K) m4, w1, w2, by decide, ne, fun q5 g5 => ?_⟩
  have m5 := same_new g5 (.tup [.int (overR (minusR s a.1) (minusR b.1 a.1)).1, .int (overR (minusR s a.1) (minusR b.1 a.1)).2])
  have rp0 := rv_new (K := K) m5
  have m35 := (m3.trans m4).trans m5
  have sm5 := sm2.trans m35
  replace hSa := Tst.same (K := K) m35 _ _ hSa
  replace hSb := Tst.same (K := K) m35 _ _ hSb
  replace hxa := hxa.mono (Tst.same m35)
  replace hxb := hxb.mono (Tst.same m35)
  clear m3 m4 m5 m35 hw1 hp2
  generalize (upd (upd (upd H3 q3 (.tup [.int (minusR s a.1).1, .int (minusR s a.1).2])) q4 (.tup [.int (minusR b.1 a.1).1, .int (minusR b.1 a.1).2])) q5 (.tup [.int (overR (minusR s a.1) (minusR b.1 a.1)).1, .int (overR (minusR s a.1) (minusR b.1 a.1)).2])) = H5 at rp0 sm5 hSa hSb hxa hxb ⊢
  have rp : RV K H5 (.ref q5) (partR a.1 b.1 s) := rp0
  refine ⟨_, rfl, pa, _, _, _, rfl, rfl, hSa, rfl, zl2, fun p6 g6 => ?_⟩
  have m6 := same_new g6 (.tup [.int 1, .int 1])
  refine ⟨_, rfl, .ref p6, .ref q5, (1, 1), partR a.1 b.1 s, 1, 302, rfl, rv_new (K := K) m6, rp.mono (Tst.same m6), one_wf, wp, by decide, fun p7 g7 => ?_⟩
  have m7 := same_new g7 (.tup [.int (minusR (1, 1) (partR a.1 b.1 s)).1, .int (minusR (1, 1) (partR a.1 b.1 s)).2])
  refine ⟨zl2, fun p8 g8 => ?_⟩
  have m8 := same_new g8 (.tup [xa, .ref p7])
  have m68 := (m6.trans m7).trans m8
  refine ⟨_, rfl, pb, _, _, _, rfl, rfl, Tst.same m68 _ _ hSb, rfl, _, rfl, zl2, fun p9 g9 => ⟨zl2, fun pA gA => ?_⟩⟩
  have m9 := same_new g9 (.tup [xb, .ref q5])
  have mA := same_new gA (.tup [.ref p8, .ref p9])
  have m := (m68.trans m9).trans mA
  refine k _ _ (sm5.trans m) ⟨pA, _, rfl, SqT.of upd_same, ?_⟩
  rw [em]
  exact .cons ⟨p8, _, _, rfl, SqT.of (mA _ _ (m9 _ _ upd_same)), hxa.mono (Tst.same m), (rv_new (K := K) m7).mono (Tst.same ((m8.trans m9).trans mA))⟩ (.cons ⟨p9, _, _, rfl, SqT.of (mA _ _ upd_same), hxb.mono (Tst.same m), rp.mono (Tst.same m)⟩ .nil)
 ·rintro σ H1 ⟨x3, x4, rfl, sm, hip⟩
  omega
theorem ok_Q21 (T : Txt K mg t) : FnOk P w K mg base CX0 5 t.a_Q21 t.d_Q21 ["_law_tape_here", "_law_table_here"] (sp_law_mix K) := by
 refine T.F_Q21.ok sc_Q21 (fun vs H Q E h => ?_) (fun cdv A outer s H vs Q E hr h => ?_)
 ·obtain ⟨_, _, _, _, rfl, _⟩ := h; rfl
 obtain ⟨t₁, s₀, v, rows, rfl, T0, hv, ok, k⟩ := h
 refine QSs.ok (qss_cons (qs_setC (i := 2) (N' := ["_law_row", "_law_tape_here"]) (src := [none, some 0]) sc_Q21.nd rfl (by first | exact Or.inl rfl | exact Or.inr rfl) rfl (by exact (qi_tup (qe_ix ix_tup (qv 1) qe_int (fun _ _ => rfl)))) (fun _ _ _ _ _ => (by exact (by exact qg_name (i := 0) (by show List.Nodup (["_law_row", "_law_tape_here"] : List Str); decide +kernel) (by exact rfl) (by first | exact Or.inl rfl | exact Or.inr rfl)))) (fun _ _ _ _ _ => (qts_one (qt_cmpR op_eq (by exact (qe_call (ok_Q11 T) (by exact hr.mono (by decide)) (by exact rfl) T.m_Q11 T.F_Q11.kp T.b_Q11 (by exact .nil) (by exact pass0) (qa_cons (by exact (qv 1)) (qa_cons qe_int qa_nil star_con) star_name))) qe_int (nomark _)))) (fun _ _ _ _ _ => (by exact (by exact (qe_ix (ix_tupK (K := K) (by exact rfl)) (by exact (qv 0)) qe_int (by exact fun _ _ => rfl))))) (by exact ⟨rfl, rfl, rfl, rfl, trivial⟩) rfl (by decide +kernel) rfl (by decide +kernel) (by exact cells_of rfl ⟨rfl, trivial⟩))
   (qss_cons (qs_cut (qs_if (qt_cmpR (op_eqD hr) (qv 2) (qe_lst qa_nil) (nomark _)) (qss_one (qsA 2 sc_Q21.nd (qe_lst (qa_cons (qxA ix_tup (qxA ix_tup (qxA ix_tup (qv 1) qe_int) qe_int) qe_int) qa_nil star_sub)))) qss_nil))
   (qss_cons (qsA 3 sc_Q21.nd (qe_lcomp (N' := ["_law_row", "_law_tape_here"]) (src := [none, some 0]) rfl (by exact (qi_list (qv 2))) (fun _ _ _ _ _ => (by exact (by exact qg_name (i := 0) (by show List.Nodup (["_law_row", "_law_tape_here"] : List Str); decide +kernel) (by exact rfl) (by first | exact Or.inl rfl | exact Or.inr rfl)))) (fun _ _ _ _ _ => qts_nil) (fun _ _ _ _ _ => (by exact (by exact (qe_call (ok_Q15 T) (by exact hr.mono (by decide)) (by exact rfl) T.m_Q15 T.F_Q15.kp T.b_Q15 (by exact .nil) (by exact pass0) (qa_cons (by exact (qv 1)) qa_nil star_name))))) (by exact ⟨rfl, rfl, rfl, rfl, trivial⟩) rfl (by decide +kernel) rfl (by decide +kernel) (by exact cells_of rfl ⟨rfl, trivial⟩)))
   (qss_one (qs_ret (qe_callTy call_tuple_of (by rfl) T.z_tuple boot_tuple (qa_cons (qe_lcomp (N' := ["_law_speed", "_law_share", "_law_shares"]) (src := [none, none, some 3]) rfl (by exact (qi_zipLL rfl T.z_zip (qa_cons (qv 2) (qa_cons (qv 3) qa_nil star_name) star_name))) (fun _ _ _ _ _ => (by exact (by exact qg_tupK (K := K) (n := 2) (by exact rfl) (by exact rfl) (by exact qgs_cons (by exact qg_name (i := 0) (by show List.Nodup (["_law_speed", "_law_share", "_law_shares"] : List Str); decide +kernel) (by exact rfl) (by first | exact Or.inl rfl | exact Or.inr rfl)) (by exact qgs_cons (by exact qg_name (i := 1) (by show List.Nodup (["_law_speed", "_law_share", "_law_shares"] : List Str); decide +kernel) (by exact rfl) (by first | exact Or.inl rfl | exact Or.inr rfl)) qgs_nil))))) (fun _ _ _ _ _ => qts_nil) (fun _ _ _ _ _ => (by exact (by exact (qe_tup (qa_cons (by exact (qv 0)) (qa_cons (by exact (qe_call (ok_Q13 T) (by exact hr.mono (by decide)) (by exact rfl) T.m_Q13 T.F_Q13.kp T.b_Q13 (by exact .nil) (by exact pass0) (qa_cons (by exact (qv 1)) (qa_cons (by exact (qe_call (ok_Q19 T) (by exact hr.mono (by decide)) (by exact rfl) T.m_Q19 T.F_Q19.kp T.b_Q19 (by exact .nil) (by exact pass0) (qa_cons (by exact (qv 2)) qa_nil star_name))) qa_nil star_call) star_name))) qa_nil star_call) star_name))))) (by exact ⟨rfl, rfl, rfl, rfl, trivial⟩) rfl (by decide +kernel) rfl (by decide +kernel) (by exact cells_of rfl ⟨rfl, trivial⟩)) qa_nil star_lc))))))) ?_
 obtain ⟨p, q, ob, xs, rfl, hS, hq, hob, al⟩ := id hv
 have hqT : SqT K H q xs := .inl (.inr ⟨ob, hq⟩)
 have hlen : xs.length = rows.length := al.len
 have n12 := ok.n12
 have n2 := ok.n2
 refine ⟨_, rfl, p, _, _, _, rfl, rfl, hS, rfl, q, rfl, ⟨_, hqT⟩, fun D hD => ?_⟩
 have nt : D ≠ t₁ := fun z => by subst z; obtain ⟨_, e⟩ := T0.lst; rw [hD] at e; cases e
 have ns : D ≠ s₀ := fun z => by subst z; obtain ⟨_, e⟩ := T0.scr; rw [hD] at e; cases e
 refine comp_own (J := Itt K q) (n := xs.length) (fun i ys H' => ys.length ≤ i /\ H' D = some (.lst ys) /\ Tape H' t₁ s₀ /\ (∀ b o, b ≠ t₁ -> H b = some o -> H' b = some o) /\ ∃ zs : List R, Als (KeyB H') ys zs /\ ∀ z ∈ zs, HasR rows z) ⟨Nat.le_refl 0, upd_same, T0.new hD _, fun b o _ e => same_new hD _ _ _ e, [], .nil, fun z hz => by cases hz⟩ (fun i ys H' hi ⟨_, _, T', kp, _⟩ => ⟨xs, _, Tst.step ⟨kp, T0.lst, T'.lst⟩ _ _ hqT, List.getElem?_eq_getElem hi⟩) (fun ys H1 ⟨hl, hD1, T1, kp, zs, alz, hz⟩ => ⟨⟨xs, Tst.step ⟨kp, T0.lst, T1.lst⟩ _ _ hqT, Nat.le_refl _⟩, ?_⟩) ?_
 ·have S1 : Step t₁ H H1 := ⟨kp, T0.lst, T1.lst⟩
  have lz : ys.length = zs.length := alz.len
  have wz : ∀ z ∈ zs, Wf 98 z := fun z h => by
   obtain ⟨r, mr, rfl⟩ := hz z h
   exact wfS (ok.sp r mr)
  have gl : Gd 2 60044 (.list (zs.map dR)) := Gd.lst (k := 1) (n := 5000) (m := 12) (fun d hd => by
   obtain ⟨z, hz', rfl⟩ := List.mem_map.mp hd
   exact gd_dR ((wz z hz').mono (by decide))) (by rw [List.length_map]; omega) (by decide)
  refine ⟨fun σ H' => ∃ (lr : Addr) (ys : List V) (zs : List R), σ = [some (.ref t₁), some (.ref p), some (.ref lr), none] /\ lr ≠ t₁ /\ lr ≠ s₀ /\ H' lr = some (.lst ys) /\ Tape H' t₁ s₀ /\ Step t₁ H H' /\ Als (KeyB H') ys zs /\ (∀ z ∈ zs, HasR rows z) /\ zs ≠ [] /\ zs.length ≤ 12, ?_, ?_⟩
  ·refine ⟨_, rfl, (by show 0 ≤ sizeLine; exact Nat.zero_le _), fun q0 hq0 => ?_⟩
   have sq := same_new hq0 (.lst [])
   have hqq : upd H1 q0 (.lst []) q0 = some (.lst []) := upd_same
   have TQ := T1.same sq
   have SQ := S1.trans (Step.same sq T1.lst)
   have alq := alz.mono fun _ _ z => z.mono (K := K) (TT.same sq)
   have hDq := sq _ _ hD1
   clear sq
   generalize upd H1 q0 (.lst []) = HQ at TQ SQ alq hDq hqq ⊢
   refine ⟨.list (zs.map dR), .list [], .lst (SqL.of hDq) (alq.deep fun _ _ z => (z.rv (K := K)).deep), .lst (SqL.of hqq) .nil, gl.lay, rfl, Nat.le_trans gl.sh.dp (by decide), _, rfl, ?_⟩
   cases zs with
   | nil =>
    refine iteT ?_
    have tq := TT.step (K := K) SQ
    have ex0 : xs[0]? = some (xs[0]'(by omega)) := List.getElem?_eq_getElem _
    obtain ⟨r, er, rk⟩ := al.at ex0
    obtain ⟨pr, b, y, exr, hSr, hb, hy⟩ := rk.mono tq
    have at0 : atI xs 0 = some (xs[0]'(by omega)) := atI_nat ex0
    refine ⟨_, rfl, p, _, _, _, rfl, rfl, tq.t _ _ hS, rfl, q, _, _, _, rfl, rfl, tq.t _ _ hqT, at0, pr, _, _, _, exr, rfl, hSr, rfl, zl1, fun lr hlr => ?_⟩
    have sl := same_new hlr (.lst [.ref b])
    have nlt : lr ≠ t₁ := fun z => by subst z; obtain ⟨_, e⟩ := TQ.lst; rw [hlr] at e; cases e
    have nls : lr ≠ s₀ := fun z => by subst z; obtain ⟨_, e⟩ := TQ.scr; rw [hlr] at e; cases e
    exact ⟨lr, _, [r.1], rfl, nlt, nls, upd_same, TQ.same sl, SQ.trans (Step.same sl TQ.lst), .cons ⟨b, rfl, sl _ _ hb⟩ .nil, fun z hz' => by rw [List.mem_singleton] at hz'; exact ⟨r, List.mem_of_getElem? er, hz'.symm⟩, by simp, by show 1 ≤ 12; decide⟩
   | cons z0 zr =>
    refine iteF ?_
    exact ⟨D, ys, z0 :: zr, rfl, nt, ns, hDq, TQ, SQ, alq, hz, by simp, by omega⟩
  ·rintro σ H2 ⟨lr, ys, zs, rfl, nlt, nls, hlr, T2, S2, al2, hz, nz, l12⟩
   clear gl wz lz alz hD1 hl S1 kp T1
   have hl2 : ys.length = zs.length := al2.len
   refine ⟨_, rfl, lr, rfl, ⟨_, SqL.of hlr⟩, fun D2 hD2 => ?_⟩
   have nt2 : D2 ≠ t₁ := fun z => by subst z; obtain ⟨_, e⟩ := T2.lst; rw [hD2] at e; cases e
   have ns2 : D2 ≠ s₀ := fun z => by subst z; obtain ⟨_, e⟩ := T2.scr; rw [hD2] at e; cases e
   refine comp_own (J := Itl K lr) (n := ys.length) (fun i us H' => us.length = i /\ H' D2 = some (.lst us) /\ Tape H' t₁ s₀ /\ (∀ b o, b ≠ t₁ -> H2 b = some o -> H' b = some o) /\ ∃ ss : List R, Als (RV K H') us ss /\ ∀ r ∈ ss, PartOk r) ⟨rfl, upd_same, T2.new hD2 _, fun b o _ e => same_new hD2 _ _ _ e, [], .nil, fun z hz => by cases hz⟩ (fun i us H' hi ⟨_, _, T', kp, _⟩ => ⟨ys, _, SqL.of (kp _ _ nlt hlr), List.getElem?_eq_getElem hi⟩) (fun us H3 ⟨hl3, hD3, T3, kp3, ss, al3, ok3⟩ => ⟨⟨ys, SqL.of (kp3 _ _ nlt hlr), Nat.le_refl _⟩, ?_⟩) ?_
   ·have S3 : Step t₁ H2 H3 := ⟨kp3, T2.lst, T3.lst⟩
    have ls : us.length = ss.length := al3.len
    have hlr3 := kp3 _ _ nlt hlr
    have al23 := al2.mono fun _ _ z => z.mono (TT.step (K := K) S3)
    have sh : ShOk ss := ⟨by omega, fun z => by subst z; have : zs.length = 0 := (by rw [← hl2, ← hl3, ls]; rfl); exact nz (List.length_eq_zero_iff.mp this), ok3⟩
    have lzs : zs.length = ss.length := by omega
    refine ⟨_, rfl, _, rfl, lr, D2, rfl, ⟨_, SqL.of hlr3⟩, ⟨_, SqL.of hD3⟩, fun D4 hD4 => comp_mapU (K := K) (P := RowK K) (wlk_zipLL (SqL.of hlr3) (SqL.of hD3) hl3.symm) (fun i => (zs.getD i (0, 1), overR (ss.getD i (0, 1)) (sumR ss))) (fun _ _ _ _ t z => z.mono t) hD4 (by omega) (fun i x H' hi sm hP Rk E kR => ?_) fun H4 ws s4 hD4' al4 => ?_⟩
    ·obtain ⟨pp, x1, y1, rfl, hx1, hy1, hpp⟩ := hP
     obtain ⟨z, hz1, kb⟩ := al23.at hx1
     obtain ⟨r, hr1, rv⟩ := al3.at hy1
     obtain ⟨b, rfl, hb⟩ := kb.mono (TT.same (K := K) sm)
     have rv' := rv.mono (Tst.same sm)
     have ez : zs.getD i (0, 1) = z := by rw [List.getD_eq_getElem?_getD, hz1]; rfl
     have er : ss.getD i (0, 1) = r := by rw [List.getD_eq_getElem?_getD, hr1]; rfl
     rw [ez, er] at kR
     have okr := ok3 r (List.mem_of_getElem? hr1)
     have sp := sh.pos
     refine ⟨pp, _, rfl, SqT.of hpp, rfl, _, _, rfl, _, _, rfl, rfl, Ext.set' (Ext.set rfl) rfl, ?_⟩
     refine ⟨_, rfl, _, rfl, _, rfl, D2, us, ss, D0, N0, rfl, SqL.of (sm _ _ hD3), al3.mono fun _ _ z => z.mono (Tst.same sm), fun r hr => (ok3 r hr).bq, dpos, Nat.le_trans sh.len (by decide), Nat.lt_of_lt_of_le (show D0 < 2 ^ 63 by decide) (Nat.pow_le_pow_right (by decide) (by decide)), Nat.lt_of_lt_of_le (show N0 * 64 * D0 < 2 ^ 99 by decide) (Nat.pow_le_pow_right (by decide) (by decide)), fun u H5 s5 h5 => ?_⟩
     refine ⟨y1, u, r, sumR ss, 98, 98, rfl, rv'.mono (Tst.same s5), h5, okr.wf, sh.wf, by decide, by omega, fun p9 g9 => ⟨zl2, fun pA gA => ?_⟩⟩
     have m9 := same_new g9 (.tup [.int (overR r (sumR ss)).1, .int (overR r (sumR ss)).2])
     have mA := same_new gA (.tup [.ref b, .ref p9])
     exact kR _ _ ((s5.trans m9).trans mA) ⟨pA, b, _, rfl, SqT.of upd_same, mA _ _ (m9 _ _ (s5 _ _ hb)), (rv_new (K := K) m9).mono (Tst.same mA)⟩
    ·rw [hl2] at al4
     refine ⟨D4, ws, rfl, .inl ⟨SqL.of hD4', fun pF gF => ?_⟩⟩
     have mF := same_new gF (.tup ws)
     have sF := s4.trans mF
     exact k _ _ _ _ (mix_ok ok hz sh lzs) ((S2.trans S3).trans (Step.same sF T3.lst)) (T3.same sF) ⟨pF, ws, rfl, SqT.of upd_same, al4.mono fun _ _ z => z.mono (TT.same mF)⟩
   ·rintro i us H' x H'' hi ⟨hl3, hD3, T3, kp3, ss, al3, ok3⟩ ⟨rfl, hy⟩ Rk E kR kE
    refine ⟨Ext.set rfl, _, rfl, t₁, s₀, rfl, T3, fun u r H5 okr S5 T5 h5 => ?_⟩
    have d5 := S5.keep _ _ nt2 hD3
    have tm := (Tst.step (K := K) S5).trans (Tst.up d5 (us ++ [u]))
    refine kR _ _ d5 (small1000 (by omega)) ⟨by rw [List.length_append, hl3]; rfl, upd_same, T5.upl nt2 ns2 _, fun b o nb e => ?_, ss ++ [r], (al3.mono fun _ _ z => z.mono tm).snoc (h5.mono (Tst.up d5 _)), fun z hz' => ?_⟩
    ·rw [upd_ne (ne_of_none e hD2)]
     exact S5.keep _ _ nb (kp3 b o nb e)
    ·rcases List.mem_append.mp hz' with h | h
     ·exact ok3 z h
     ·rw [List.mem_singleton] at h; rw [h]; exact okr
 ·rintro i ys H' x H'' hi ⟨hl, hD1, T1, kp, zs, alz, hz⟩ ⟨rfl, hy⟩ Rk E kR kE
  have S1 : Step t₁ H H'' := ⟨kp, T0.lst, T1.lst⟩
  have hx := hy xs (Tst.step S1 _ _ hqT)
  refine ⟨Ext.set rfl, _, rfl, t₁, s₀, 2, rfl, T1, by decide, by decide, fun rr xx aa bb T2 => ⟨rfl, _, rfl, ?_⟩⟩
  have S2 := Step.up (ys := xx) T1.lst.choose_spec
  have hD2 := S2.keep _ _ nt hD1
  have al2 := alz.mono fun _ _ z => z.mono (TT.step (K := K) S2)
  generalize upd H'' t₁ (.lst xx) = H2 at T2 S2 hD2 al2 ⊢
  refine ite2 (fun _ => ?_) (fun _ => ?_)
  ·obtain ⟨r, er, rk⟩ := al.at hx
   obtain ⟨pr, b, y, exr, hSr, hb, hy'⟩ := (rk.mono (TT.step (K := K) S1)).mono (TT.step (K := K) S2)
   refine ⟨_, rfl, pr, _, _, _, exr, rfl, hSr, rfl, ?_⟩
   have up := TT.up (K := K) hD2 (ys ++ [.ref b])
   refine kR _ _ hD2 (small1000 (by omega)) ⟨by rw [List.length_append]; show ys.length + 1 ≤ i + 1; omega, upd_same, T2.upl nt ns _, fun c o nc e => ?_, zs ++ [r.1], (al2.mono fun _ _ z => z.mono up).snoc (KeyB.mono (K := K) ⟨b, rfl, hb⟩ up), fun z hz' => ?_⟩
   ·rw [upd_ne (ne_of_none e hD)]
    exact S2.keep _ _ nc (kp c o nc e)
   ·rcases List.mem_append.mp hz' with h | h
    ·exact hz z h
    ·rw [List.mem_singleton] at h; exact ⟨r, List.mem_of_getElem? er, h.symm⟩
  ·exact kE _ ⟨by omega, hD2, T2, fun c o nc e => S2.keep _ _ nc (kp c o nc e), zs, al2, hz⟩
theorem ok_Q28 (T : Txt K mg t) : FnOk P w K mg base CX0 6 t.a_Q28 t.d_Q28 ["_law_script"] (sp_law K) := by
 refine T.F_Q28.ok sc_Q28 (fun vs H Q E h => ?_) (fun cdv A outer s H vs Q E hr h => ?_)
 ·obtain ⟨_, _, rfl, _⟩ := h; rfl
 obtain ⟨a, ns, rfl, hS, hlen, k⟩ := h
 refine QSs.ok (qss_cons (qsA 1 sc_Q28.nd (qcA (ok_Q10 T) hr T.m_Q10 T.F_Q10.kp T.b_Q10 (qa_cons (qv 0) qa_nil star_name)))
   (qss_cons (qs_for PassesOwn.never rfl (qi_range1 rfl T.z_range (qa_cons qe_int qa_nil star_con)) (qg_name (i := 2) sc_Q28.nd rfl (by first | exact Or.inl rfl | exact Or.inr rfl))
   (qss_cons (qsA 3 sc_Q28.nd (qcA (ok_Q7 T) hr T.m_Q7 T.F_Q7.kp T.b_Q7 (qa_cons (qv 1) qa_nil star_name)))
   (qss_cons (qsA 4 sc_Q28.nd (qe_callTy (call_dictT (hu2_of hr) rfl) (by rfl) T.z_dict boot_dictT (qa_cons (qxA ix_tup (qv 3) qe_int) qa_nil star_sub)))
   (qss_one (qs_for PassesOwn.never rfl (qi_range1 rfl T.z_range (qa_cons qe_int qa_nil star_con)) (qg_name (i := 5) sc_Q28.nd rfl (by first | exact Or.inl rfl | exact Or.inr rfl))
   (qss_cons (qsA 6 sc_Q28.nd (qcA (ok_Q3 T) hr T.m_Q3 T.F_Q3.kp T.b_Q3 (qa_cons (qv 1) (qa_cons (qv 3) qa_nil star_name) star_name)))
   (qss_cons (qsA 7 sc_Q28.nd (qcA (ok_Q17 T) hr T.m_Q17 T.F_Q17.kp T.b_Q17 (qa_cons (qv 3) (qa_cons (qv 6) qa_nil star_name) star_name)))
   (qss_cons (qs_if (qt_cmpR op_ne (qe_callB (call_repr hr) (by rfl) T.z_repr boot_repr (qa_cons (qv 7) qa_nil star_name)) (qe_callB (call_repr hr) (by rfl) T.z_repr boot_repr (qa_cons (qcA (ok_Q20 T) hr T.m_Q20 T.F_Q20.kp T.b_Q20 (qa_cons (qv 3) (qa_cons (qv 6) qa_nil star_name) star_name)) qa_nil star_call)) (nomark _)) (qss_one (qs_ret qe_bl)) qss_nil)
   (qss_cons (qs_if (qt_cmpR op_ne (qe_callB (call_repr hr) (by rfl) T.z_repr boot_repr (qa_cons (qcA (ok_Q2 T) hr T.m_Q2 T.F_Q2.kp T.b_Q2 (qa_cons (qv 3) (qa_cons (qv 7) qa_nil star_name) star_name)) qa_nil star_call)) (qe_callB (call_repr hr) (by rfl) T.z_repr boot_repr (qa_cons (qcA (ok_Q8 T) hr T.m_Q8 T.F_Q8.kp T.b_Q8 (qa_cons (qv 3) (qa_cons (qv 6) qa_nil star_name) star_name)) qa_nil star_call)) (nomark _)) (qss_one (qs_ret qe_bl)) qss_nil)
   (qss_cons (qsA 8 sc_Q28.nd (qcA (ok_Q21 T) hr T.m_Q21 T.F_Q21.kp T.b_Q21 (qa_cons (qv 1) (qa_cons (qv 3) qa_nil star_name) star_name)))
   (qss_cons (qsA 9 sc_Q28.nd (qcA (ok_Q19 T) hr T.m_Q19 T.F_Q19.kp T.b_Q19 (qa_cons (qe_lcomp (N' := ["_law_one", "_law_part_here", "_law_powers"]) (src := [none, none, some 4]) rfl (by exact (qi_tup (qv 8))) (fun _ _ _ _ _ => (by exact (by exact qg_tupK (K := K) (n := 2) (by exact rfl) (by exact rfl) (by exact qgs_cons (by exact qg_name (i := 0) (by show List.Nodup (["_law_one", "_law_part_here", "_law_powers"] : List Str); decide +kernel) (by exact rfl) (by first | exact Or.inl rfl | exact Or.inr rfl)) (by exact qgs_cons (by exact qg_name (i := 1) (by show List.Nodup (["_law_one", "_law_part_here", "_law_powers"] : List Str); decide +kernel) (by exact rfl) (by first | exact Or.inl rfl | exact Or.inr rfl)) qgs_nil))))) (fun _ _ _ _ _ => qts_nil) (fun _ _ _ _ _ => (by exact (by exact (qe_call (ok_Q6 T) (by exact hr.mono (by decide)) (by exact rfl) T.m_Q6 T.F_Q6.kp T.b_Q6 (by exact .nil) (by exact pass0) (qa_cons (by exact (qe_dgetX (by exact hu_of hr) (by exact (qv 2)) (by exact (qv 0)) (by exact fun _ _ => rfl))) (qa_cons (by exact (qv 1)) qa_nil star_name) star_sub))))) (by exact ⟨rfl, rfl, rfl, rfl, trivial⟩) rfl (by decide +kernel) rfl (by decide +kernel) (by exact cells_of rfl ⟨rfl, trivial⟩)) qa_nil star_lc)))
   (qss_one (qs_if (qt_cmpR op_ne (qe_callB (call_repr hr) (by rfl) T.z_repr boot_repr (qa_cons (qcA (ok_Q2 T) hr T.m_Q2 T.F_Q2.kp T.b_Q2 (qa_cons (qv 3) (qa_cons (qv 8) qa_nil star_name) star_name)) qa_nil star_call)) (qe_callB (call_repr hr) (by rfl) T.z_repr boot_repr (qa_cons (qv 9) qa_nil star_name)) (nomark _)) (qss_one (qs_ret qe_bl)) qss_nil)))))))))))))
   (qss_one (qs_ret qe_bl)))) ?_
 refine ⟨_, rfl, a, ns, rfl, hS, fun t₁ s₀ H0 s0 _ _ T0 => ?_⟩
 refine ⟨4, rfl, by decide, by decide, for_range (lo := 0) (n := 4) (fun i σ H' => ∃ (x2 x3 x4 x5 x6 x7 x8 x9 : Option V), σ = [some (.ref a), some (.ref t₁), x2, x3, x4, x5, x6, x7, x8, x9] /\ Tape H' t₁ s₀) ⟨none, none, none, none, none, none, none, none, rfl, T0⟩ ?_ ?_⟩
 ·rintro i₀ σ H1 hi₀ ⟨x2, x3, x4, x5, x6, x7, x8, x9, rfl, T1⟩
  refine ⟨_, rfl, t₁, s₀, rfl, T1, fun vt rows H2 ok S2 T2 tv => ?_⟩
  obtain ⟨p, q, ob, xs, rfl, hSp, hq, hob, al⟩ := id tv
  obtain ⟨kvs, rk, pk⟩ := kvs_of ok al
  refine ⟨_, rfl, p, _, _, _, rfl, rfl, hSp, rfl, q, ob, xs, kvs, rfl, hq, hob, rk, fun dd hdd => ?_⟩
  have s3 := same_new hdd (.dT kvs)
  have T3 := T2.same s3
  have tv3 := tv.mono (TT.same (K := K) s3)
  have pk3 := pk.mono (Tst.same s3)
  have hd3 : upd H2 dd (.dT kvs) dd = some (.dT kvs) := upd_same
  clear s3 pk rk al hq tv hSp
  generalize upd H2 dd (.dT kvs) = H3 at T3 tv3 pk3 hd3 ⊢
  refine ⟨4, rfl, by decide, by decide, for_range (lo := 0) (n := 4) (fun i σ H' => ∃ (y5 y6 y7 y8 y9 : Option V), σ = [some (.ref a), some (.ref t₁), some (.int (0 + (i₀ : Int))), some (.ref p), some (.ref dd), y5, y6, y7, y8, y9] /\ Tape H' t₁ s₀ /\ TabV K H' (.ref p) rows /\ PwK K H' rows kvs /\ H' dd = some (.dT kvs)) ⟨x5, x6, x7, x8, x9, rfl, T3, tv3, pk3, hd3⟩ ?_ ?_⟩
  ·rintro j σ H4 hj ⟨y5, y6, y7, y8, y9, rfl, T4, tv4, pk4, hd4⟩
   refine ⟨_, rfl, _, rfl, t₁, s₀, .ref p, rows, rfl, T4, tv4.rl, ok, fun w z H5 hs hb S5 T5 hw => ?_⟩
   have tv5 := tv4.mono (TT.step (K := K) S5)
   have pk5 := pk4.mono (Tst.step (K := K) S5)
   have hd5 := (TT.step (K := K) S5).dt hd4
   refine ⟨_, rfl, _, rfl, .ref p, w, rows, z, rfl, tv5.rl, ok, hw, hs, hb, fun vf H6 s6 hf => ?_⟩
   obtain ⟨l2, wfm, DD, hDD, hDl, mok⟩ := mixM_ok ok hs hb
   have shm := sh_mix l2 wfm
   have tv6 := tv5.mono (TT.same (K := K) s6)
   have hw6 := hw.mono (Tst.same s6)
   refine ⟨_, rfl, vf, _, rfl, hf.deep, shm, _, rfl, _, rfl, .ref p, w, rows, z, rfl, tv6.rl, ok, hw6, hs, hb, fun vd H7 s7 hd => ⟨vd, _, rfl, hd.deep, shm, rfl, _, rfl, iteNS rfl ?_⟩⟩
   have tv7 := tv6.mono (TT.same (K := K) s7)
   have shp : Shows (dR (powT rows z)) := dR_shows (powT_wf ok hs hb) (by decide)
   refine ⟨_, rfl, _, rfl, .ref p, vf, rows, mixM rows z, DD, rfl, tv7.rl, ok, hf.mono (Tst.same s7), Nat.le_trans l2 (by decide), mok, hDD, hDl, fun v8 H8 s8 h8 => ?_⟩
   rw [mix_pow ok hs hb] at h8
   have s68 := s7.trans s8
   refine ⟨v8, _, rfl, h8.deep, shp, _, rfl, _, rfl, .ref p, w, rows, z, rfl, (tv6.mono (TT.same (K := K) s68)).rl, ok, hw6.mono (Tst.same s68), hs, hb, fun v9 H9 s9 h9 => ⟨v9, _, rfl, h9.deep, shp, rfl, _, rfl, iteNS rfl ?_⟩⟩
   have s59 := (s6.trans s68).trans s9
   have T9 := T5.same s59
   have tv9 := tv5.mono (TT.same (K := K) s59)
   have pk9 := pk5.mono (Tst.same s59)
   have hd9 := s59 _ _ hd5
   clear hf hd h8 h9 s6 s7 s8 s9 s68 tv6 tv7 hw6
   refine ⟨_, rfl, _, rfl, t₁, s₀, .ref p, rows, rfl, T9, tv9, ok, fun vm ms DM HA mo SA TA hm => ?_⟩
   have tvA := tv9.mono (TT.step (K := K) SA)
   have pkA := pk9.mono (Tst.step (K := K) SA)
   have hdA := (TT.step (K := K) SA).dt hd9
   obtain ⟨pm, us, rfl, hSm, alm⟩ := id hm
   have lm : us.length = ms.length := alm.len
   have ml := mo.len
   refine ⟨_, rfl, pm, rfl, ⟨_, hSm⟩, fun DL hDL => comp_mapT (K := K) (a := pm) (xs := us) (ds := ms) (P := RV K) (f := fun m => timesR (pwAt rows m.1) m.2) (fun _ _ _ _ t z => z.mono t) hDL hSm lm (by omega) (fun i x m H' hx hm' sm Rk E kR => ?_) fun HB zs sB hDB alB => ?_⟩
   ·obtain ⟨m', hm2, rkm⟩ := alm.at hx
    rw [hm'] at hm2
    cases hm2
    have mm := List.mem_of_getElem? hm'
    obtain ⟨pr, b, y, exr, hSr, hb', hy⟩ := rkm.mono (TT.same (K := K) sm)
    obtain ⟨yy, ev, ry⟩ := (pkA.mono (Tst.same sm)).get (mo.has m mm)
    have hb2 : H' b = some (.tup ((keyR m.1).map kV)) := hb'
    have hd' := sm _ _ hdA
    refine ⟨pr, _, exr, hSr, rfl, _, _, rfl, _, _, rfl, rfl, Ext.set' (Ext.set rfl) rfl, ?_⟩
    have gg : DGet H' dd (.ref b) (some yy) := by rw [← ev]; exact DGet.t hd' hb2
    refine ⟨_, rfl, _, rfl, dd, yy, rfl, gg, _, rfl, yy, y, pwAt rows m.1, m.2, 197, 300, rfl, ry, hy, wfP (pw_wf ok (mo.has m mm)), mo.wf m mm, by decide, fun p9 g9 => ?_⟩
    have m9 := same_new g9 (.tup [.int (timesR (pwAt rows m.1) m.2).1, .int (timesR (pwAt rows m.1) m.2).2])
    exact kR _ _ m9 (rv_new (K := K) m9)
   ·have lS : (mixS rows ms).length ≤ 64 := by show (ms.map _).length ≤ 64; rw [List.length_map]; omega
    refine ⟨DL, zs, mixS rows ms, DM, 2 ^ 497, rfl, SqL.of hDB, alB, mixS_bq ok mo, mo.pos, lS, Nat.lt_of_lt_of_le mo.lt (Nat.pow_le_pow_right (by decide) (by decide)), ?_, fun vD HC sC hC => ?_⟩
    ·refine Nat.lt_of_lt_of_le (Nat.mul_lt_mul_of_pos_left mo.lt (Nat.mul_pos (Nat.pow_pos (show 0 < 2 by decide)) (show 0 < 64 by decide))) ?_
     rw [show 2 ^ 497 * 64 * 2 ^ 300 = 2 ^ 6 * (2 ^ 497 * 2 ^ 300) by rw [show (64 : Nat) = 2 ^ 6 by decide]; ac_rfl, ← Nat.pow_add, ← Nat.pow_add]
     exact Nat.pow_le_pow_right (show 0 < 2 by decide) (by decide)
    have sAC := sB.trans sC
    have shs : Shows (dR (sumR (mixS rows ms))) := dR_shows (mixS_wf ok mo) (by decide)
    refine ⟨_, rfl, _, rfl, .ref p, .ref pm, rows, ms, DM, rfl, (tvA.mono (TT.same (K := K) sAC)).rl, ok, hm.mix.mono (Tst.same sAC), by omega, fun m mm => ⟨mo.has m mm, (mo.wf m mm).mono (by decide), mo.dvd m mm⟩, mo.pos, Nat.lt_of_lt_of_le mo.lt (Nat.pow_le_pow_right (by decide) (by decide)), fun vE HE sE hE => ?_⟩
    refine ⟨vE, _, rfl, hE.deep, shs, _, rfl, vD, _, rfl, (hC.mono (Tst.same sE)).deep, shs, rfl, _, rfl, iteNS rfl ?_⟩
    have sAE := sAC.trans sE
    exact ⟨_, _, _, _, _, rfl, TA.same sAE, tvA.mono (TT.same (K := K) sAE), pkA.mono (Tst.same sAE), sAE _ _ hdA⟩
  ·rintro σ H4 ⟨y5, y6, y7, y8, y9, rfl, T4, _⟩
   exact ⟨_, _, _, _, _, _, _, _, rfl, T4⟩
 ·rintro σ H1 ⟨x2, x3, x4, x5, x6, x7, x8, x9, rfl, T1⟩
  exact k H1
end
set_option autoImplicit true in
set_option relaxedAutoImplicit true in
open PySem.W in
theorem all_mk {l : OpenLaw} {w : World} {K : Frag} {h : Heap} {mg : Str -> Option Value} {fa : Addr} (X : K.In h) (G : h.Ns mainGlobals mg) (hfa : mg "law" = some (.ref fa))
  (p_Q0 : nsIn K mainGlobals "greatest_divisor" = some (some (.ref f_Q0))) (l_Q0 : K.lookup f_Q0 = some ⟨oc_Q0, od_Q0, .func (fnOf "greatest_divisor" "greatest_divisor" (defArgs s_Q0) (defBody s_Q0) (defScope s_Q0) .none kV_Q0 dc_Q0 pm_Q0 an_Q0 cd_Q0 ct_Q0), sl_Q0⟩) (c_Q0 : codeIn K cd_Q0 "greatest_divisor" = true) (k_Q0 : keepIn K (.ref f_Q0) = true)
  (p_Q22 : nsIn K mainGlobals "ratio" = some (some (.ref f_Q22))) (l_Q22 : K.lookup f_Q22 = some ⟨oc_Q22, od_Q22, .func (fnOf "ratio" "ratio" (defArgs s_Q22) (defBody s_Q22) (defScope s_Q22) .none kV_Q22 dc_Q22 pm_Q22 an_Q22 cd_Q22 ct_Q22), sl_Q22⟩) (c_Q22 : codeIn K cd_Q22 "ratio" = true) (k_Q22 : keepIn K (.ref f_Q22) = true)
  (p_Q26 : nsIn K mainGlobals "plus" = some (some (.ref f_Q26))) (l_Q26 : K.lookup f_Q26 = some ⟨oc_Q26, od_Q26, .func (fnOf "plus" "plus" (defArgs s_Q26) (defBody s_Q26) (defScope s_Q26) .none kV_Q26 dc_Q26 pm_Q26 an_Q26 cd_Q26 ct_Q26), sl_Q26⟩) (c_Q26 : codeIn K cd_Q26 "plus" = true) (k_Q26 : keepIn K (.ref f_Q26) = true)
  (p_Q23 : nsIn K mainGlobals "minus" = some (some (.ref f_Q23))) (l_Q23 : K.lookup f_Q23 = some ⟨oc_Q23, od_Q23, .func (fnOf "minus" "minus" (defArgs s_Q23) (defBody s_Q23) (defScope s_Q23) .none kV_Q23 dc_Q23 pm_Q23 an_Q23 cd_Q23 ct_Q23), sl_Q23⟩) (c_Q23 : codeIn K cd_Q23 "minus" = true) (k_Q23 : keepIn K (.ref f_Q23) = true)
  (p_Q24 : nsIn K mainGlobals "times" = some (some (.ref f_Q24))) (l_Q24 : K.lookup f_Q24 = some ⟨oc_Q24, od_Q24, .func (fnOf "times" "times" (defArgs s_Q24) (defBody s_Q24) (defScope s_Q24) .none kV_Q24 dc_Q24 pm_Q24 an_Q24 cd_Q24 ct_Q24), sl_Q24⟩) (c_Q24 : codeIn K cd_Q24 "times" = true) (k_Q24 : keepIn K (.ref f_Q24) = true)
  (p_Q27 : nsIn K mainGlobals "over" = some (some (.ref f_Q27))) (l_Q27 : K.lookup f_Q27 = some ⟨oc_Q27, od_Q27, .func (fnOf "over" "over" (defArgs s_Q27) (defBody s_Q27) (defScope s_Q27) .none kV_Q27 dc_Q27 pm_Q27 an_Q27 cd_Q27 ct_Q27), sl_Q27⟩) (c_Q27 : codeIn K cd_Q27 "over" = true) (k_Q27 : keepIn K (.ref f_Q27) = true)
  (p_Q16 : nsIn K mainGlobals "is_less" = some (some (.ref f_Q16))) (l_Q16 : K.lookup f_Q16 = some ⟨oc_Q16, od_Q16, .func (fnOf "is_less" "is_less" (defArgs s_Q16) (defBody s_Q16) (defScope s_Q16) .none kV_Q16 dc_Q16 pm_Q16 an_Q16 cd_Q16 ct_Q16), sl_Q16⟩) (c_Q16 : codeIn K cd_Q16 "is_less" = true) (k_Q16 : keepIn K (.ref f_Q16) = true)
  (p_Q25 : nsIn K mainGlobals "total" = some (some (.ref f_Q25))) (l_Q25 : K.lookup f_Q25 = some ⟨oc_Q25, od_Q25, .func (fnOf "total" "total" (defArgs s_Q25) (defBody s_Q25) (defScope s_Q25) .none kV_Q25 dc_Q25 pm_Q25 an_Q25 cd_Q25 ct_Q25), sl_Q25⟩) (c_Q25 : codeIn K cd_Q25 "total" = true) (k_Q25 : keepIn K (.ref f_Q25) = true)
  (p_Q9 : nsIn K mainGlobals "place_of" = some (some (.ref f_Q9))) (l_Q9 : K.lookup f_Q9 = some ⟨oc_Q9, od_Q9, .func (fnOf "place_of" "place_of" (defArgs s_Q9) (defBody s_Q9) (defScope s_Q9) .none kV_Q9 dc_Q9 pm_Q9 an_Q9 cd_Q9 ct_Q9), sl_Q9⟩) (c_Q9 : codeIn K cd_Q9 "place_of" = true) (k_Q9 : keepIn K (.ref f_Q9) = true)
  (p_Q17 : nsIn K mainGlobals "mixture" = some (some (.ref f_Q17))) (l_Q17 : K.lookup f_Q17 = some ⟨oc_Q17, od_Q17, .func (fnOf "mixture" "mixture" (defArgs s_Q17) (defBody s_Q17) (defScope s_Q17) .none kV_Q17 dc_Q17 pm_Q17 an_Q17 cd_Q17 ct_Q17), sl_Q17⟩) (c_Q17 : codeIn K cd_Q17 "mixture" = true) (k_Q17 : keepIn K (.ref f_Q17) = true)
  (p_Q1 : nsIn K mainGlobals "row_numbers" = some (some (.ref f_Q1))) (l_Q1 : K.lookup f_Q1 = some ⟨oc_Q1, od_Q1, .func (fnOf "row_numbers" "row_numbers" (defArgs s_Q1) (defBody s_Q1) (defScope s_Q1) .none kV_Q1 dc_Q1 pm_Q1 an_Q1 cd_Q1 ct_Q1), sl_Q1⟩) (c_Q1 : codeIn K cd_Q1 "row_numbers" = true) (k_Q1 : keepIn K (.ref f_Q1) = true)
  (p_Q2 : nsIn K mainGlobals "mixed_power" = some (some (.ref f_Q2))) (l_Q2 : K.lookup f_Q2 = some ⟨oc_Q2, od_Q2, .func (fnOf "mixed_power" "mixed_power" (defArgs s_Q2) (defBody s_Q2) (defScope s_Q2) .none kV_Q2 dc_Q2 pm_Q2 an_Q2 cd_Q2 ct_Q2), sl_Q2⟩) (c_Q2 : codeIn K cd_Q2 "mixed_power" = true) (k_Q2 : keepIn K (.ref f_Q2) = true)
  (p_Q10 : nsIn K mainGlobals "_law_tape" = some (some (.ref f_Q10))) (l_Q10 : K.lookup f_Q10 = some ⟨oc_Q10, od_Q10, .func (fnOf "_law_tape" "_law_tape" (defArgs s_Q10) (defBody s_Q10) (defScope s_Q10) .none kV_Q10 dc_Q10 pm_Q10 an_Q10 cd_Q10 ct_Q10), sl_Q10⟩) (c_Q10 : codeIn K cd_Q10 "_law_tape" = true) (k_Q10 : keepIn K (.ref f_Q10) = true)
  (p_Q11 : nsIn K mainGlobals "_law_draw" = some (some (.ref f_Q11))) (l_Q11 : K.lookup f_Q11 = some ⟨oc_Q11, od_Q11, .func (fnOf "_law_draw" "_law_draw" (defArgs s_Q11) (defBody s_Q11) (defScope s_Q11) .none kV_Q11 dc_Q11 pm_Q11 an_Q11 cd_Q11 ct_Q11), sl_Q11⟩) (c_Q11 : codeIn K cd_Q11 "_law_draw" = true) (k_Q11 : keepIn K (.ref f_Q11) = true)
  (p_Q18 : nsIn K mainGlobals "_law_gcd" = some (some (.ref f_Q18))) (l_Q18 : K.lookup f_Q18 = some ⟨oc_Q18, od_Q18, .func (fnOf "_law_gcd" "_law_gcd" (defArgs s_Q18) (defBody s_Q18) (defScope s_Q18) .none kV_Q18 dc_Q18 pm_Q18 an_Q18 cd_Q18 ct_Q18), sl_Q18⟩) (c_Q18 : codeIn K cd_Q18 "_law_gcd" = true) (k_Q18 : keepIn K (.ref f_Q18) = true)
  (p_Q4 : nsIn K mainGlobals "_law_ratio" = some (some (.ref f_Q4))) (l_Q4 : K.lookup f_Q4 = some ⟨oc_Q4, od_Q4, .func (fnOf "_law_ratio" "_law_ratio" (defArgs s_Q4) (defBody s_Q4) (defScope s_Q4) .none kV_Q4 dc_Q4 pm_Q4 an_Q4 cd_Q4 ct_Q4), sl_Q4⟩) (c_Q4 : codeIn K cd_Q4 "_law_ratio" = true) (k_Q4 : keepIn K (.ref f_Q4) = true)
  (p_Q12 : nsIn K mainGlobals "_law_plus" = some (some (.ref f_Q12))) (l_Q12 : K.lookup f_Q12 = some ⟨oc_Q12, od_Q12, .func (fnOf "_law_plus" "_law_plus" (defArgs s_Q12) (defBody s_Q12) (defScope s_Q12) .none kV_Q12 dc_Q12 pm_Q12 an_Q12 cd_Q12 ct_Q12), sl_Q12⟩) (c_Q12 : codeIn K cd_Q12 "_law_plus" = true) (k_Q12 : keepIn K (.ref f_Q12) = true)
  (p_Q5 : nsIn K mainGlobals "_law_minus" = some (some (.ref f_Q5))) (l_Q5 : K.lookup f_Q5 = some ⟨oc_Q5, od_Q5, .func (fnOf "_law_minus" "_law_minus" (defArgs s_Q5) (defBody s_Q5) (defScope s_Q5) .none kV_Q5 dc_Q5 pm_Q5 an_Q5 cd_Q5 ct_Q5), sl_Q5⟩) (c_Q5 : codeIn K cd_Q5 "_law_minus" = true) (k_Q5 : keepIn K (.ref f_Q5) = true)
  (p_Q6 : nsIn K mainGlobals "_law_times" = some (some (.ref f_Q6))) (l_Q6 : K.lookup f_Q6 = some ⟨oc_Q6, od_Q6, .func (fnOf "_law_times" "_law_times" (defArgs s_Q6) (defBody s_Q6) (defScope s_Q6) .none kV_Q6 dc_Q6 pm_Q6 an_Q6 cd_Q6 ct_Q6), sl_Q6⟩) (c_Q6 : codeIn K cd_Q6 "_law_times" = true) (k_Q6 : keepIn K (.ref f_Q6) = true)
  (p_Q13 : nsIn K mainGlobals "_law_over" = some (some (.ref f_Q13))) (l_Q13 : K.lookup f_Q13 = some ⟨oc_Q13, od_Q13, .func (fnOf "_law_over" "_law_over" (defArgs s_Q13) (defBody s_Q13) (defScope s_Q13) .none kV_Q13 dc_Q13 pm_Q13 an_Q13 cd_Q13 ct_Q13), sl_Q13⟩) (c_Q13 : codeIn K cd_Q13 "_law_over" = true) (k_Q13 : keepIn K (.ref f_Q13) = true)
  (p_Q14 : nsIn K mainGlobals "_law_less" = some (some (.ref f_Q14))) (l_Q14 : K.lookup f_Q14 = some ⟨oc_Q14, od_Q14, .func (fnOf "_law_less" "_law_less" (defArgs s_Q14) (defBody s_Q14) (defScope s_Q14) .none kV_Q14 dc_Q14 pm_Q14 an_Q14 cd_Q14 ct_Q14), sl_Q14⟩) (c_Q14 : codeIn K cd_Q14 "_law_less" = true) (k_Q14 : keepIn K (.ref f_Q14) = true)
  (p_Q19 : nsIn K mainGlobals "_law_sum" = some (some (.ref f_Q19))) (l_Q19 : K.lookup f_Q19 = some ⟨oc_Q19, od_Q19, .func (fnOf "_law_sum" "_law_sum" (defArgs s_Q19) (defBody s_Q19) (defScope s_Q19) .none kV_Q19 dc_Q19 pm_Q19 an_Q19 cd_Q19 ct_Q19), sl_Q19⟩) (c_Q19 : codeIn K cd_Q19 "_law_sum" = true) (k_Q19 : keepIn K (.ref f_Q19) = true)
  (p_Q15 : nsIn K mainGlobals "_law_part" = some (some (.ref f_Q15))) (l_Q15 : K.lookup f_Q15 = some ⟨oc_Q15, od_Q15, .func (fnOf "_law_part" "_law_part" (defArgs s_Q15) (defBody s_Q15) (defScope s_Q15) .none kV_Q15 dc_Q15 pm_Q15 an_Q15 cd_Q15 ct_Q15), sl_Q15⟩) (c_Q15 : codeIn K cd_Q15 "_law_part" = true) (k_Q15 : keepIn K (.ref f_Q15) = true)
  (p_Q7 : nsIn K mainGlobals "_law_table" = some (some (.ref f_Q7))) (l_Q7 : K.lookup f_Q7 = some ⟨oc_Q7, od_Q7, .func (fnOf "_law_table" "_law_table" (defArgs s_Q7) (defBody s_Q7) (defScope s_Q7) .none kV_Q7 dc_Q7 pm_Q7 an_Q7 cd_Q7 ct_Q7), sl_Q7⟩) (c_Q7 : codeIn K cd_Q7 "_law_table" = true) (k_Q7 : keepIn K (.ref f_Q7) = true)
  (p_Q8 : nsIn K mainGlobals "_law_power" = some (some (.ref f_Q8))) (l_Q8 : K.lookup f_Q8 = some ⟨oc_Q8, od_Q8, .func (fnOf "_law_power" "_law_power" (defArgs s_Q8) (defBody s_Q8) (defScope s_Q8) .none kV_Q8 dc_Q8 pm_Q8 an_Q8 cd_Q8 ct_Q8), sl_Q8⟩) (c_Q8 : codeIn K cd_Q8 "_law_power" = true) (k_Q8 : keepIn K (.ref f_Q8) = true)
  (p_Q3 : nsIn K mainGlobals "_law_inside" = some (some (.ref f_Q3))) (l_Q3 : K.lookup f_Q3 = some ⟨oc_Q3, od_Q3, .func (fnOf "_law_inside" "_law_inside" (defArgs s_Q3) (defBody s_Q3) (defScope s_Q3) .none kV_Q3 dc_Q3 pm_Q3 an_Q3 cd_Q3 ct_Q3), sl_Q3⟩) (c_Q3 : codeIn K cd_Q3 "_law_inside" = true) (k_Q3 : keepIn K (.ref f_Q3) = true)
  (p_Q20 : nsIn K mainGlobals "_law_due" = some (some (.ref f_Q20))) (l_Q20 : K.lookup f_Q20 = some ⟨oc_Q20, od_Q20, .func (fnOf "_law_due" "_law_due" (defArgs s_Q20) (defBody s_Q20) (defScope s_Q20) .none kV_Q20 dc_Q20 pm_Q20 an_Q20 cd_Q20 ct_Q20), sl_Q20⟩) (c_Q20 : codeIn K cd_Q20 "_law_due" = true) (k_Q20 : keepIn K (.ref f_Q20) = true)
  (p_Q21 : nsIn K mainGlobals "_law_mix" = some (some (.ref f_Q21))) (l_Q21 : K.lookup f_Q21 = some ⟨oc_Q21, od_Q21, .func (fnOf "_law_mix" "_law_mix" (defArgs s_Q21) (defBody s_Q21) (defScope s_Q21) .none kV_Q21 dc_Q21 pm_Q21 an_Q21 cd_Q21 ct_Q21), sl_Q21⟩) (c_Q21 : codeIn K cd_Q21 "_law_mix" = true) (k_Q21 : keepIn K (.ref f_Q21) = true)
  {f_Q28 : Addr} {od_Q28 an_Q28 : Option Addr} {sl_Q28 : Array (Option Value)} {oc_Q28 kV_Q28 dc_Q28 pm_Q28 cd_Q28 ct_Q28 : Value}
  (p_Q28 : nsIn K mainGlobals "law" = some (some (.ref f_Q28))) (l_Q28 : K.lookup f_Q28 = some ⟨oc_Q28, od_Q28, .func (fnOf "law" "law" (defArgs s_Q28) (defBody s_Q28) (defScope s_Q28) .none kV_Q28 dc_Q28 pm_Q28 an_Q28 cd_Q28 ct_Q28), sl_Q28⟩) (c_Q28 : codeIn K cd_Q28 "law" = true) (k_Q28 : keepIn K (.ref f_Q28) = true)
  {f_NOUGHT : Addr} {od_NOUGHT : Option Addr} {sl_NOUGHT : Array (Option Value)} {tkNOUGHT0 tkNOUGHT1 : Tok} {n_NOUGHT : Nat} (p_NOUGHT : nsIn K mainGlobals "NOUGHT" = some (some (.ref f_NOUGHT))) (l_NOUGHT : K.lookup f_NOUGHT = some ⟨.type "tuple", od_NOUGHT, .seq #[.int (0) tkNOUGHT0, .int (1) tkNOUGHT1] n_NOUGHT, sl_NOUGHT⟩)
  {f_ONE : Addr} {od_ONE : Option Addr} {sl_ONE : Array (Option Value)} {tkONE0 tkONE1 : Tok} {n_ONE : Nat} (p_ONE : nsIn K mainGlobals "ONE" = some (some (.ref f_ONE))) (l_ONE : K.lookup f_ONE = some ⟨.type "tuple", od_ONE, .seq #[.int (1) tkONE0, .int (1) tkONE1] n_ONE, sl_ONE⟩)
  (z_abs : nsIn K mainGlobals "abs" = some none)
  (z_dict : nsIn K mainGlobals "dict" = some none)
  (z_len : nsIn K mainGlobals "len" = some none)
  (z_range : nsIn K mainGlobals "range" = some none)
  (z_repr : nsIn K mainGlobals "repr" = some none)
  (z_tuple : nsIn K mainGlobals "tuple" = some none)
  (z_zip : nsIn K mainGlobals "zip" = some none)
  : ∃ fd : FuncData, (∀ (s : Shared) (v : Value), BindsTo s fd ⟨[v], []⟩ [("_law_script", v)]) /\ ∀ base : Heap, K.In base -> base.Ns mainGlobals mg -> FnOk l.prog w K mg base CX0 6 fa fd ["_law_script"] (sp_law K) := by
 have e := hfa.symm.trans (mg_of X G p_Q28)
 cases e
 obtain ⟨d_Q0, F_Q0⟩ : ∃ d, Fun K "greatest_divisor" "greatest_divisor" s_Q0 f_Q0 d := ⟨_, fun_mk l_Q0 c_Q0 k_Q0⟩
 obtain ⟨d_Q22, F_Q22⟩ : ∃ d, Fun K "ratio" "ratio" s_Q22 f_Q22 d := ⟨_, fun_mk l_Q22 c_Q22 k_Q22⟩
 obtain ⟨d_Q26, F_Q26⟩ : ∃ d, Fun K "plus" "plus" s_Q26 f_Q26 d := ⟨_, fun_mk l_Q26 c_Q26 k_Q26⟩
 obtain ⟨d_Q23, F_Q23⟩ : ∃ d, Fun K "minus" "minus" s_Q23 f_Q23 d := ⟨_, fun_mk l_Q23 c_Q23 k_Q23⟩
 obtain ⟨d_Q24, F_Q24⟩ : ∃ d, Fun K "times" "times" s_Q24 f_Q24 d := ⟨_, fun_mk l_Q24 c_Q24 k_Q24⟩
 obtain ⟨d_Q27, F_Q27⟩ : ∃ d, Fun K "over" "over" s_Q27 f_Q27 d := ⟨_, fun_mk l_Q27 c_Q27 k_Q27⟩
 obtain ⟨d_Q16, F_Q16⟩ : ∃ d, Fun K "is_less" "is_less" s_Q16 f_Q16 d := ⟨_, fun_mk l_Q16 c_Q16 k_Q16⟩
 obtain ⟨d_Q25, F_Q25⟩ : ∃ d, Fun K "total" "total" s_Q25 f_Q25 d := ⟨_, fun_mk l_Q25 c_Q25 k_Q25⟩
 obtain ⟨d_Q9, F_Q9⟩ : ∃ d, Fun K "place_of" "place_of" s_Q9 f_Q9 d := ⟨_, fun_mk l_Q9 c_Q9 k_Q9⟩
 obtain ⟨d_Q17, F_Q17⟩ : ∃ d, Fun K "mixture" "mixture" s_Q17 f_Q17 d := ⟨_, fun_mk l_Q17 c_Q17 k_Q17⟩
 obtain ⟨d_Q1, F_Q1⟩ : ∃ d, Fun K "row_numbers" "row_numbers" s_Q1 f_Q1 d := ⟨_, fun_mk l_Q1 c_Q1 k_Q1⟩
 obtain ⟨d_Q2, F_Q2⟩ : ∃ d, Fun K "mixed_power" "mixed_power" s_Q2 f_Q2 d := ⟨_, fun_mk l_Q2 c_Q2 k_Q2⟩
 obtain ⟨d_Q10, F_Q10⟩ : ∃ d, Fun K "_law_tape" "_law_tape" s_Q10 f_Q10 d := ⟨_, fun_mk l_Q10 c_Q10 k_Q10⟩
 obtain ⟨d_Q11, F_Q11⟩ : ∃ d, Fun K "_law_draw" "_law_draw" s_Q11 f_Q11 d := ⟨_, fun_mk l_Q11 c_Q11 k_Q11⟩
 obtain ⟨d_Q18, F_Q18⟩ : ∃ d, Fun K "_law_gcd" "_law_gcd" s_Q18 f_Q18 d := ⟨_, fun_mk l_Q18 c_Q18 k_Q18⟩
 obtain ⟨d_Q4, F_Q4⟩ : ∃ d, Fun K "_law_ratio" "_law_ratio" s_Q4 f_Q4 d := ⟨_, fun_mk l_Q4 c_Q4 k_Q4⟩
 obtain ⟨d_Q12, F_Q12⟩ : ∃ d, Fun K "_law_plus" "_law_plus" s_Q12 f_Q12 d := ⟨_, fun_mk l_Q12 c_Q12 k_Q12⟩
 obtain ⟨d_Q5, F_Q5⟩ : ∃ d, Fun K "_law_minus" "_law_minus" s_Q5 f_Q5 d := ⟨_, fun_mk l_Q5 c_Q5 k_Q5⟩
 obtain ⟨d_Q6, F_Q6⟩ : ∃ d, Fun K "_law_times" "_law_times" s_Q6 f_Q6 d := ⟨_, fun_mk l_Q6 c_Q6 k_Q6⟩
 obtain ⟨d_Q13, F_Q13⟩ : ∃ d, Fun K "_law_over" "_law_over" s_Q13 f_Q13 d := ⟨_, fun_mk l_Q13 c_Q13 k_Q13⟩
 obtain ⟨d_Q14, F_Q14⟩ : ∃ d, Fun K "_law_less" "_law_less" s_Q14 f_Q14 d := ⟨_, fun_mk l_Q14 c_Q14 k_Q14⟩
 obtain ⟨d_Q19, F_Q19⟩ : ∃ d, Fun K "_law_sum" "_law_sum" s_Q19 f_Q19 d := ⟨_, fun_mk l_Q19 c_Q19 k_Q19⟩
 obtain ⟨d_Q15, F_Q15⟩ : ∃ d, Fun K "_law_part" "_law_part" s_Q15 f_Q15 d := ⟨_, fun_mk l_Q15 c_Q15 k_Q15⟩
 obtain ⟨d_Q7, F_Q7⟩ : ∃ d, Fun K "_law_table" "_law_table" s_Q7 f_Q7 d := ⟨_, fun_mk l_Q7 c_Q7 k_Q7⟩
 obtain ⟨d_Q8, F_Q8⟩ : ∃ d, Fun K "_law_power" "_law_power" s_Q8 f_Q8 d := ⟨_, fun_mk l_Q8 c_Q8 k_Q8⟩
 obtain ⟨d_Q3, F_Q3⟩ : ∃ d, Fun K "_law_inside" "_law_inside" s_Q3 f_Q3 d := ⟨_, fun_mk l_Q3 c_Q3 k_Q3⟩
 obtain ⟨d_Q20, F_Q20⟩ : ∃ d, Fun K "_law_due" "_law_due" s_Q20 f_Q20 d := ⟨_, fun_mk l_Q20 c_Q20 k_Q20⟩
 obtain ⟨d_Q21, F_Q21⟩ : ∃ d, Fun K "_law_mix" "_law_mix" s_Q21 f_Q21 d := ⟨_, fun_mk l_Q21 c_Q21 k_Q21⟩
 have F_Q28 := fun_mk (st := s_Q28) l_Q28 c_Q28 k_Q28
 have T : Txt K mg ⟨f_Q0, d_Q0, f_Q22, d_Q22, f_Q26, d_Q26, f_Q23, d_Q23, f_Q24, d_Q24, f_Q27, d_Q27, f_Q16, d_Q16, f_Q25, d_Q25, f_Q9, d_Q9, f_Q17, d_Q17, f_Q1, d_Q1, f_Q2, d_Q2, f_Q10, d_Q10, f_Q11, d_Q11, f_Q18, d_Q18, f_Q4, d_Q4, f_Q12, d_Q12, f_Q5, d_Q5, f_Q6, d_Q6, f_Q13, d_Q13, f_Q14, d_Q14, f_Q19, d_Q19, f_Q15, d_Q15, f_Q7, d_Q7, f_Q8, d_Q8, f_Q3, d_Q3, f_Q20, d_Q20, f_Q21, d_Q21, fa, fnOf "law" "law" (defArgs s_Q28) (defBody s_Q28) (defScope s_Q28) .none kV_Q28 dc_Q28 pm_Q28 an_Q28 cd_Q28 ct_Q28, f_NOUGHT, f_ONE⟩ := {
  F_Q0 := F_Q0, b_Q0 := bdA F_Q0, m_Q0 := mg_of X G p_Q0,
  F_Q22 := F_Q22, b_Q22 := bdA F_Q22, m_Q22 := mg_of X G p_Q22,
  F_Q26 := F_Q26, b_Q26 := bdA F_Q26, m_Q26 := mg_of X G p_Q26,
  F_Q23 := F_Q23, b_Q23 := bdA F_Q23, m_Q23 := mg_of X G p_Q23,
  F_Q24 := F_Q24, b_Q24 := bdA F_Q24, m_Q24 := mg_of X G p_Q24,
  F_Q27 := F_Q27, b_Q27 := bdA F_Q27, m_Q27 := mg_of X G p_Q27,
  F_Q16 := F_Q16, b_Q16 := bdA F_Q16, m_Q16 := mg_of X G p_Q16,
  F_Q25 := F_Q25, b_Q25 := bdA F_Q25, m_Q25 := mg_of X G p_Q25,
  F_Q9 := F_Q9, b_Q9 := bdA F_Q9, m_Q9 := mg_of X G p_Q9,
  F_Q17 := F_Q17, b_Q17 := bdA F_Q17, m_Q17 := mg_of X G p_Q17,
  F_Q1 := F_Q1, b_Q1 := bdA F_Q1, m_Q1 := mg_of X G p_Q1,
  F_Q2 := F_Q2, b_Q2 := bdA F_Q2, m_Q2 := mg_of X G p_Q2,
  F_Q10 := F_Q10, b_Q10 := bdA F_Q10, m_Q10 := mg_of X G p_Q10,
  F_Q11 := F_Q11, b_Q11 := bdA F_Q11, m_Q11 := mg_of X G p_Q11,
  F_Q18 := F_Q18, b_Q18 := bdA F_Q18, m_Q18 := mg_of X G p_Q18,
  F_Q4 := F_Q4, b_Q4 := bdA F_Q4, m_Q4 := mg_of X G p_Q4,
  F_Q12 := F_Q12, b_Q12 := bdA F_Q12, m_Q12 := mg_of X G p_Q12,
  F_Q5 := F_Q5, b_Q5 := bdA F_Q5, m_Q5 := mg_of X G p_Q5,
  F_Q6 := F_Q6, b_Q6 := bdA F_Q6, m_Q6 := mg_of X G p_Q6,
  F_Q13 := F_Q13, b_Q13 := bdA F_Q13, m_Q13 := mg_of X G p_Q13,
  F_Q14 := F_Q14, b_Q14 := bdA F_Q14, m_Q14 := mg_of X G p_Q14,
  F_Q19 := F_Q19, b_Q19 := bdA F_Q19, m_Q19 := mg_of X G p_Q19,
  F_Q15 := F_Q15, b_Q15 := bdA F_Q15, m_Q15 := mg_of X G p_Q15,
  F_Q7 := F_Q7, b_Q7 := bdA F_Q7, m_Q7 := mg_of X G p_Q7,
  F_Q8 := F_Q8, b_Q8 := bdA F_Q8, m_Q8 := mg_of X G p_Q8,
  F_Q3 := F_Q3, b_Q3 := bdA F_Q3, m_Q3 := mg_of X G p_Q3,
  F_Q20 := F_Q20, b_Q20 := bdA F_Q20, m_Q20 := mg_of X G p_Q20,
  F_Q21 := F_Q21, b_Q21 := bdA F_Q21, m_Q21 := mg_of X G p_Q21,
  F_Q28 := F_Q28, b_Q28 := bdA F_Q28, m_Q28 := mg_of X G p_Q28,
  m_NOUGHT := mg_of X G p_NOUGHT, q_NOUGHT := fun H => .inr ⟨_, _, _, l_NOUGHT, rfl, rfl, zl2, (.cons ⟨_, rfl⟩ (.cons ⟨_, rfl⟩ .nil))⟩,
  m_ONE := mg_of X G p_ONE, q_ONE := fun H => .inr ⟨_, _, _, l_ONE, rfl, rfl, zl2, (.cons ⟨_, rfl⟩ (.cons ⟨_, rfl⟩ .nil))⟩,
  z_abs := mg_none_of X G z_abs, z_dict := mg_none_of X G z_dict, z_len := mg_none_of X G z_len, z_range := mg_none_of X G z_range, z_repr := mg_none_of X G z_repr, z_tuple := mg_none_of X G z_tuple, z_zip := mg_none_of X G z_zip }
 exact ⟨_, fun s v => .of_eq rfl, fun base _ _ => ok_Q28 T⟩
theorem walk {l : PySem.W.OpenLaw} {q : Program} {loose : List Str} {XP : (Str -> Option Value) -> Heap -> Prop} {YP : World -> Heap -> Prop} {d : DefRec} {K : Params -> Fg} (hn : l.most = some 63) (hdf : d.params.defaults = [])
  (hY : ∀ (w : World) (h : Heap), YP w h -> (K w.params).In h)
  (F : ∀ (w : World) (mg : Str -> Option Value) (fa : Addr) (h : Heap), (K w.params).In h -> h.Ns mainGlobals mg -> mg d.name = some (.ref fa) →
   ∃ fd : FuncData, (∀ (s : Shared) (u : Value), BindsTo s fd ⟨[u], []⟩ [("_law_script", u)]) /\ ∀ base : Heap, (K w.params).In base -> base.Ns mainGlobals mg -> FnOk l.prog w (K w.params) mg base CX0 6 fa fd ["_law_script"] (sp_law (K w.params))) :
  PySem.W.WalkO q loose XP YP l.row.toRowW d [] (fun f vs => PySem.call f vs) :=
 L2.walk_of (n := 63) (k := 6) (x := "_law_script") (CX := fun _ => CX0) (sp := fun w => sp_law (K w.params)) hn (by decide) hdf ⟨rfl, by decide, by decide, rfl⟩ hY F (fun _ _ a ns hl _ hS => ⟨a, ns, rfl, hS, hl, fun _ => rfl⟩) fun _ _ _ _ _ z => z
end My
open PySem PySem.W PyProof.Rows
set_option maxRecDepth 100000 in
set_option maxHeartbeats 0 in
theorem PySem.Challenge.cw_paceplan_k14_mixtures_told_holds : PySem.Challenge.rw_paceplan_k14_mixtures_told.Holds := by
 w_on; refine HWtop ?_
 k_fill
 refine My.walk (l := PySem.Challenge.rw_paceplan_k14_mixtures_told) rfl rfl (fun w h Y => PySem.W.kIn_of Y) ?F
 case F =>
  intro w mg fa h KX G hmg
  refine' My.all_mk KX G hmg ?p_Q0 ?l_Q0 ?c_Q0 ?k_Q0 ?p_Q22 ?l_Q22 ?c_Q22 ?k_Q22 ?p_Q26 ?l_Q26 ?c_Q26 ?k_Q26 ?p_Q23 ?l_Q23 ?c_Q23 ?k_Q23 ?p_Q24 ?l_Q24 ?c_Q24 ?k_Q24 ?p_Q27 ?l_Q27 ?c_Q27 ?k_Q27 ?p_Q16 ?l_Q16 ?c_Q16 ?k_Q16 ?p_Q25 ?l_Q25 ?c_Q25 ?k_Q25 ?p_Q9 ?l_Q9 ?c_Q9 ?k_Q9 ?p_Q17 ?l_Q17 ?c_Q17 ?k_Q17 ?p_Q1 ?l_Q1 ?c_Q1 ?k_Q1 ?p_Q2 ?l_Q2 ?c_Q2 ?k_Q2 ?p_Q10 ?l_Q10 ?c_Q10 ?k_Q10 ?p_Q11 ?l_Q11 ?c_Q11 ?k_Q11 ?p_Q18 ?l_Q18 ?c_Q18 ?k_Q18 ?p_Q4 ?l_Q4 ?c_Q4 ?k_Q4 ?p_Q12 ?l_Q12 ?c_Q12 ?k_Q12 ?p_Q5 ?l_Q5 ?c_Q5 ?k_Q5 ?p_Q6 ?l_Q6 ?c_Q6 ?k_Q6 ?p_Q13 ?l_Q13 ?c_Q13 ?k_Q13 ?p_Q14 ?l_Q14 ?c_Q14 ?k_Q14 ?p_Q19 ?l_Q19 ?c_Q19 ?k_Q19 ?p_Q15 ?l_Q15 ?c_Q15 ?k_Q15 ?p_Q7 ?l_Q7 ?c_Q7 ?k_Q7 ?p_Q8 ?l_Q8 ?c_Q8 ?k_Q8 ?p_Q3 ?l_Q3 ?c_Q3 ?k_Q3 ?p_Q20 ?l_Q20 ?c_Q20 ?k_Q20 ?p_Q21 ?l_Q21 ?c_Q21 ?k_Q21 ?p_Q28 ?l_Q28 ?c_Q28 ?k_Q28 ?p_NOUGHT ?l_NOUGHT ?p_ONE ?l_ONE ?z_abs ?z_dict ?z_len ?z_range ?z_repr ?z_tuple ?z_zip
  (case p_Q0 => k_is)
  (case l_Q0 => k_is)
  (case c_Q0 => k_is)
  (case k_Q0 => k_is)
  (case p_Q22 => k_is)
  (case l_Q22 => k_is)
  (case c_Q22 => k_is)
  (case k_Q22 => k_is)
  (case p_Q26 => k_is)
  (case l_Q26 => k_is)
  (case c_Q26 => k_is)
  (case k_Q26 => k_is)
  (case p_Q23 => k_is)
  (case l_Q23 => k_is)
  (case c_Q23 => k_is)
  (case k_Q23 => k_is)
  (case p_Q24 => k_is)
  (case l_Q24 => k_is)
  (case c_Q24 => k_is)
  (case k_Q24 => k_is)
  (case p_Q27 => k_is)
  (case l_Q27 => k_is)
  (case c_Q27 => k_is)
  (case k_Q27 => k_is)
  (case p_Q16 => k_is)
  (case l_Q16 => k_is)
  (case c_Q16 => k_is)
  (case k_Q16 => k_is)
  (case p_Q25 => k_is)
  (case l_Q25 => k_is)
  (case c_Q25 => k_is)
  (case k_Q25 => k_is)
  (case p_Q9 => k_is)
  (case l_Q9 => k_is)
  (case c_Q9 => k_is)
  (case k_Q9 => k_is)
  (case p_Q17 => k_is)
  (case l_Q17 => k_is)
  (case c_Q17 => k_is)
  (case k_Q17 => k_is)
  (case p_Q1 => k_is)
  (case l_Q1 => k_is)
  (case c_Q1 => k_is)
  (case k_Q1 => k_is)
  (case p_Q2 => k_is)
  (case l_Q2 => k_is)
  (case c_Q2 => k_is)
  (case k_Q2 => k_is)
  (case p_Q10 => k_is)
  (case l_Q10 => k_is)
  (case c_Q10 => k_is)
  (case k_Q10 => k_is)
  (case p_Q11 => k_is)
  (case l_Q11 => k_is)
  (case c_Q11 => k_is)
  (case k_Q11 => k_is)
  (case p_Q18 => k_is)
  (case l_Q18 => k_is)
  (case c_Q18 => k_is)
  (case k_Q18 => k_is)
  (case p_Q4 => k_is)
  (case l_Q4 => k_is)
  (case c_Q4 => k_is)
  (case k_Q4 => k_is)
  (case p_Q12 => k_is)
  (case l_Q12 => k_is)
  (case c_Q12 => k_is)
  (case k_Q12 => k_is)
  (case p_Q5 => k_is)
  (case l_Q5 => k_is)
  (case c_Q5 => k_is)
  (case k_Q5 => k_is)
  (case p_Q6 => k_is)
  (case l_Q6 => k_is)
  (case c_Q6 => k_is)
  (case k_Q6 => k_is)
  (case p_Q13 => k_is)
  (case l_Q13 => k_is)
  (case c_Q13 => k_is)
  (case k_Q13 => k_is)
  (case p_Q14 => k_is)
  (case l_Q14 => k_is)
  (case c_Q14 => k_is)
  (case k_Q14 => k_is)
  (case p_Q19 => k_is)
  (case l_Q19 => k_is)
  (case c_Q19 => k_is)
  (case k_Q19 => k_is)
  (case p_Q15 => k_is)
  (case l_Q15 => k_is)
  (case c_Q15 => k_is)
  (case k_Q15 => k_is)
  (case p_Q7 => k_is)
  (case l_Q7 => k_is)
  (case c_Q7 => k_is)
  (case k_Q7 => k_is)
  (case p_Q8 => k_is)
  (case l_Q8 => k_is)
  (case c_Q8 => k_is)
  (case k_Q8 => k_is)
  (case p_Q3 => k_is)
  (case l_Q3 => k_is)
  (case c_Q3 => k_is)
  (case k_Q3 => k_is)
  (case p_Q20 => k_is)
  (case l_Q20 => k_is)
  (case c_Q20 => k_is)
  (case k_Q20 => k_is)
  (case p_Q21 => k_is)
  (case l_Q21 => k_is)
  (case c_Q21 => k_is)
  (case k_Q21 => k_is)
  (case p_Q28 => k_is)
  (case l_Q28 => k_is)
  (case c_Q28 => k_is)
  (case k_Q28 => k_is)
  (case p_NOUGHT => k_is)
  (case l_NOUGHT => k_is)
  (case p_ONE => k_is)
  (case l_ONE => k_is)
  (case z_abs => k_is)
  (case z_dict => k_is)
  (case z_len => k_is)
  (case z_range => k_is)
  (case z_repr => k_is)
  (case z_tuple => k_is)
  (case z_zip => k_is)
